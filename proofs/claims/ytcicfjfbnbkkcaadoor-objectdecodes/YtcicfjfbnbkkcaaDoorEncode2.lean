/-
  WALKS OF LAYER 4: Encode.
-/
import Derived.Test.YtcicfjfbnbkkcaaDoorEncode
namespace Go.Proofs.YtcicfjfbnbkkcaaDoor
open Go.RowKit
set_option linter.unusedVariables false
set_option linter.unusedSimpArgs false

/-- What Encode hands back. -/
def endE (ok : Bool) (s : ByteArray) : Ending := match ok with
  | true => .returned (.tuple #[.string s, .int .i64 0])
  | false => .returned (.tuple #[.string ⟨#[]⟩, .int .i64 1])
/-- The whole object out of its box, in a region that draws its order. -/
theorem yieldsIf_ob {ops : Array Oper} {S : World → Prop} {op : Oper} {a : Act} {w0 : World} {cs : Array Value} {x : Operand} (hw : Region.wanted op (yielded ops a.tmps) = true) (ho : op.op = .load 29 x)
    (hx : a.eval x = .pointer (some ⟨w0.heap.size, 0, none⟩)) (hS : ∀ W, S W → Kp w0 cs 29 W) (hs : cs.size = 72) : YieldsIf Tryd.prog ops S op (.agg cs) a :=
  yieldsIf_load_mid (cs := cs.toList) hw _ x ho w0.heap.size 0 hx (d := _) (fun W h j v hv => by rw [cell_of_row _ _ _ cs _ (0, 0) (hS W h).held, Nat.zero_add]; simpa using hv) Tryd.underlying29 rfl (by rw [Array.length_toList]; exact obsize hs)

set_option maxHeartbeats 1000000 in
set_option maxRecDepth 100000 in
theorem encode_any (cs : Array Value) (o : Ob) (ao bo : Option Addr) (ca cb : Nat) (w : World) (h : ObAt w cs o ao bo ca cb) (hd : o.data.size ≤ 5000) (ht : o.text.size ≤ 5000) (hn : o.name.size ≤ 100) :
    Calls Tryd.prog 10 #[.agg cs] w fun r w' => r = endE (encOk o) (encS o) ∧ Below w.heap.size w w' := by
  have HV := Lib.hid (fun W (hb : Below w.heap.size w W) => fieldsValid_any cs o ao bo ca cb W (h.below hb))
  have HS := Lib.hid h.F.size
  have K0 := Kp.box w cs 29
  cases hv : validB o with
  | false =>
    rw [hv] at HV
    have HE := Lib.hid (show encOk o = false by simp [encOk, hv])
    rw [HE.out]
    clear h hv HE
    go_enter Tryd.func10, Tryd.ntmps10
    go_wp2_with (first
      | (go_at_call 16; refine (HV.out _ K0.below).mono ?_; rintro r w1 ⟨rfl, hx⟩)
      | ((with_reducible apply load_ob (k := K0) (hs := HS.out)); rfl; rfl; rfl))
    go_ret2
    exact ⟨rfl, (K0.step hx).below⟩
  | true =>
    rw [hv] at HV
    have ft := fit_of hv hd ht hn
    have hbl := body_len ft h.eid h.pid h.F.trl h.F.tal h.ti
    have HB := Lib.hid (fun W (hb : Below w.heap.size w W) => body_any cs o ao bo ca cb W (h.below hb) ft)
    have HO := Lib.hid (fun W => oneByte_any o.kind W (by have := ft.k; omega) (by have := ft.k; omega))
    have hbs : (ByteArray.mk (bodyL o).toArray).size = (bodyL o).length := rfl
    have HX := Lib.hid (fun W => text_any ⟨(bodyL o).toArray⟩ W (by rw [hbs]; omega))
    have HE := Lib.hid (show encS o = ⟨#[byteK o.kind]⟩ ++ textOf ⟨(bodyL o).toArray⟩ from rfl)
    have htl : (textOf ⟨(bodyL o).toArray⟩).size ≤ 20000 := by
      have hl := Lib.uvarint_length64 (x := (ByteArray.mk (bodyL o).toArray).size) (by omega)
      unfold textOf
      rw [← size_list, put_list]; simp at hl ⊢; omega
    have HK := Lib.hid (show encOk o = decide ((encS o).size ≤ 4096) by simp [encOk, hv])
    generalize encOk o = ok at HK
    generalize encS o = es at HK HE
    have C0 := Lib.hid h.F.c0
    clear hbl hbs h ft hv
    generalize (ByteArray.mk (bodyL o).toArray) = bd at HB HX HE htl
    generalize textOf bd = tb at HX HE htl
    have hs1 : ¬ 9223372036854775807 < 1 + tb.size := by omega
    generalize byteK o.kind = bk at HO HE
    generalize o.kind = k at HO C0
    go_enter Tryd.func10, Tryd.ntmps10
    go_wp2_with (first
      | (go_at_call 16; refine (HV.out _ K0.below).mono ?_; rintro r w1 ⟨rfl, hx⟩)
      | ((with_reducible apply load_ob (k := K0) (hs := HS.out)); rfl; rfl; rfl))
    have K1 := K0.step hx
    clear hx
    refine wp_region_noPanic ?_
    refine wp_region_held_drew (S := (fun W => Kp w cs 29 W)) (by kernel_rfl) K1.drew (fun hHeld0 => ?_)
    refine wpAnyH_take (i := 0) (v := ?_) rfl (by kernel_rfl) (by kernel_rfl) (by kernel_rfl) (fun _ _ _ h => h) (Or.inl ⟨by rfl, ?_⟩) (by assumption) ?_
    rotate_left
    · intro W hS; go_simp; try rfl
    try simp only [Act.put, List.getElem_toArray, List.getElem_cons_zero, List.getElem_cons_succ, List.setIfInBounds_toArray, List.set_cons_zero, List.set_cons_succ]
    refine wpAnyH_take (i := 1) (v := ?_) rfl (by kernel_rfl) (by kernel_rfl) (by kernel_rfl) (fun _ _ _ h => h) (Or.inl ⟨by rfl, ?_⟩) (by assumption) ?_
    rotate_left
    · intro W hS; have c := hS.cell C0.out; go_simp; try rfl
    try simp only [Act.put, List.getElem_toArray, List.getElem_cons_zero, List.getElem_cons_succ, List.setIfInBounds_toArray, List.set_cons_zero, List.set_cons_succ]
    refine wpAnyH_take (i := 3) rfl (by kernel_rfl) (by kernel_rfl) (by kernel_rfl) (fun _ _ _ h => h) (yieldsIf_ob (by rfl) rfl rfl (fun W h => h) HS.out) (by assumption) ?_
    try simp only [Act.put, List.getElem_toArray, List.getElem_cons_zero, List.getElem_cons_succ, List.setIfInBounds_toArray, List.set_cons_zero, List.set_cons_succ]
    refine wpAnyH_ready (rs := [2]) (by kernel_rfl) (by simp) ?_
    refine AllReadyH.cons rfl (fun K hK => ?_) AllReadyH.nil
    go_simp
    refine (HO.out _).mono ?_
    rintro r wx1 ⟨rfl, hb1⟩
    go_wp2_with fail
    refine hK.out _ _ (hHeld0.step hb1) (fun hHeld1 => ?_)
    clear hK K
    try simp only [Act.put, List.getElem_toArray, List.getElem_cons_zero, List.getElem_cons_succ, List.setIfInBounds_toArray, List.set_cons_zero, List.set_cons_succ]
    refine wpAnyH_ready (rs := [4]) (by kernel_rfl) (by simp) ?_
    refine AllReadyH.cons rfl (fun K hK => ?_) AllReadyH.nil
    go_simp
    refine (HB.out _ hHeld1.below).mono ?_
    rintro r wx2 ⟨rfl, hb2⟩
    go_wp2_with fail
    refine hK.out _ _ (hHeld1.step hb2) (fun hHeld2 => ?_)
    clear hK K
    try simp only [Act.put, List.getElem_toArray, List.getElem_cons_zero, List.getElem_cons_succ, List.setIfInBounds_toArray, List.set_cons_zero, List.set_cons_succ]
    refine wpAnyH_ready (rs := [5]) (by kernel_rfl) (by simp) ?_
    refine AllReadyH.cons rfl (fun K hK => ?_) AllReadyH.nil
    go_simp
    refine (HX.out _).mono ?_
    rintro r wx3 ⟨rfl, hb3⟩
    go_wp2_with fail
    refine hK.out _ _ (hHeld2.step hb3) (fun hHeld3 => ?_)
    clear hK K
    try simp only [Act.put, List.getElem_toArray, List.getElem_cons_zero, List.getElem_cons_succ, List.setIfInBounds_toArray, List.set_cons_zero, List.set_cons_succ]
    refine wpAnyH_take (i := 6) (v := ?_) rfl (by kernel_rfl) (by kernel_rfl) (by kernel_rfl) (fun _ _ _ h => h) (Or.inl ⟨by rfl, ?_⟩) (by assumption) ?_
    rotate_left
    · intro W hS; go_simp; try rfl
    try simp only [Act.put, List.getElem_toArray, List.getElem_cons_zero, List.getElem_cons_succ, List.setIfInBounds_toArray, List.set_cons_zero, List.set_cons_succ]
    refine wpAnyH_take (i := 7) (v := ?_) rfl (by kernel_rfl) (by kernel_rfl) (by kernel_rfl) (fun _ _ _ h => h) (Or.inl ⟨by rfl, ?_⟩) (by assumption) ?_
    rotate_left
    · intro W hS; go_simp; try rfl
    try simp only [Act.put, List.getElem_toArray, List.getElem_cons_zero, List.getElem_cons_succ, List.setIfInBounds_toArray, List.set_cons_zero, List.set_cons_succ]
    refine wpAnyH_done (by kernel_rfl) ?_ _
    refine NoPanic.normal ?_
    have hz : es.size = 1 + tb.size := by rw [HE.out, ByteArray.size_append]; rfl
    have HZ := Lib.hid hz
    clear hz
    go_wp2
    all_goals
      go_ret2
      refine ⟨?_, hHeld3.below⟩
      first
        | (have e : ok = true := by rw [HK.out, HZ.out]; simp; omega
           rw [e, HE.out]; rfl)
        | (have e : ok = false := by rw [HK.out, HZ.out]; simp; omega
           rw [e]; rfl)
end Go.Proofs.YtcicfjfbnbkkcaaDoor
