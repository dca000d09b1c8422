/-
  WALKS OF LAYER 4: the document's own Encode (knapsackref04.Encode).
-/
import Derived.Test.YtcicfjfbnbkkcaaDoorMayTree
import Derived.Test.YtcicfjfbnbkkcaaDoorMayTag
namespace Go.Proofs.YtcicfjfbnbkkcaaDoor
open Go.RowKit
set_option linter.unusedVariables false
set_option linter.unusedSimpArgs false

/-- What the document's Encode hands back. -/
def endR (ok : Bool) (s : ByteArray) : Ending := match ok with
  | true => .returned (.tuple #[.string s, .bool true])
  | false => .returned (.tuple #[.string ⟨#[]⟩, .bool false])
set_option maxHeartbeats 1000000 in
set_option maxRecDepth 100000 in
theorem may_other (cs : Array Value) (o : Ob) (ao bo : Option Addr) (ca cb : Nat) (w : World) (h : ObAt w cs o ao bo ca cb) (hk : o.kind < 1 ∨ 4 < o.kind) :
    Calls Tryd.prog 39 #[.agg cs] w fun r w' => r = .returned (.bool (validB o)) ∧ Below w.heap.size w w' := by
  have HZ := Lib.hid (show validB o = false by
    unfold validB
    rw [if_neg (by omega), if_neg (by omega), if_neg (by omega), if_neg (by omega), Bool.and_false])
  generalize validB o = z at HZ
  have c0 := h.F.c0
  clear h
  rcases hk with hk | hk
  · go_enter Tryd.func39, Tryd.ntmps39
    go_wp2
    go_ret
    exact ⟨ret_bool HZ.out.symm, (Below.refl _ _).alloc (Nat.le_refl _) _⟩
  · have hk' : ¬ o.kind < 1 := by omega
    go_enter Tryd.func39, Tryd.ntmps39
    go_wp2
    go_ret
    exact ⟨ret_bool HZ.out.symm, (Below.refl _ _).alloc (Nat.le_refl _) _⟩
theorem may_any (cs : Array Value) (o : Ob) (ao bo : Option Addr) (ca cb : Nat) (w : World) (h : ObAt w cs o ao bo ca cb) :
    Calls Tryd.prog 39 #[.agg cs] w fun r w' => r = .returned (.bool (validB o)) ∧ Below w.heap.size w w' := by
  rcases (by omega : o.kind = 1 ∨ o.kind = 2 ∨ o.kind = 3 ∨ o.kind = 4 ∨ (o.kind < 1 ∨ 4 < o.kind)) with e | e | e | e | e
  · exact may_blob cs o ao bo ca cb w h e
  · exact may_tree cs o ao bo ca cb w h e
  · exact may_commit cs o ao bo ca cb w h e
  · exact may_tag cs o ao bo ca cb w h e
  · exact may_other cs o ao bo ca cb w h e
theorem empty_of {s : ByteArray} (h : s.toList.isEmpty = true) : s = ⟨#[]⟩ := bytes_ext (by
  rw [ByteArray.toList_eq] at h
  simpa using h)
theorem refbody_any (cs : Array Value) (o : Ob) (ao bo : Option Addr) (ca cb : Nat) (w : World) (h : ObAt w cs o ao bo ca cb) (ft : Fit o) (hv : validB o = true) :
    Calls Tryd.prog 42 #[.agg cs] w fun r w' => r = .returned (.string ⟨(bodyL o).toArray⟩) ∧ Below w.heap.size w w' := by
  have hk := ft.k
  have hf : foreignZ o = true := by
    unfold validB at hv
    rw [Bool.and_eq_true] at hv
    exact hv.1
  unfold foreignZ at hf
  simp only [Bool.and_eq_true, Bool.or_eq_true, beq_iff_eq] at hf
  obtain ⟨⟨⟨h1, h2⟩, h3⟩, h4⟩ := hf
  have hd : o.kind ≠ 1 → o.data = ⟨#[]⟩ := fun hn => empty_of (h1.resolve_left hn)
  have he : o.kind ≠ 2 → o.ents = [] := fun hn => by simpa [treeZ] using h2.resolve_left hn
  rcases (by omega : o.kind = 1 ∨ o.kind = 2 ∨ o.kind = 3 ∨ o.kind = 4) with e | e | e | e
  · exact refbody_blob cs o ao bo ca cb w h e (he (by omega))
  · exact refbody_tree cs o ao bo ca cb w h ft e (hd (by omega))
  · exact refbody_commit cs o ao bo ca cb w h ft e (he (by omega)) (hd (by omega))
  · exact refbody_tag cs o ao bo ca cb w h ft e (he (by omega)) (hd (by omega))

/-- The name of an object that may be is short. -/
theorem valid_name {o : Ob} (hv : validB o = true) : o.name.size ≤ 100 := by
  unfold validB foreignZ at hv
  simp only [Bool.and_eq_true, Bool.or_eq_true, beq_iff_eq, tagZ, decide_eq_true_eq] at hv
  obtain ⟨⟨_, z4⟩, zz⟩ := hv
  by_cases e4 : o.kind = 4
  · rw [if_neg (by omega), if_neg (by omega), if_neg (by omega), if_pos e4, Bool.and_eq_true] at zz
    have := nameOk_size zz.2
    omega
  · have h1 := (z4.resolve_left e4).2
    have h2 : o.name.toList = [] := by simpa using h1
    rw [ByteArray.toList_eq] at h2
    have := size_list o.name
    rw [h2] at this
    simp at this; omega

set_option maxHeartbeats 1000000 in
set_option maxRecDepth 100000 in
theorem refencode_any (cs : Array Value) (o : Ob) (ao bo : Option Addr) (ca cb : Nat) (w : World) (h : ObAt w cs o ao bo ca cb) (hd : o.data.size ≤ 5000) (ht : o.text.size ≤ 5000) :
    Calls Tryd.prog 18 #[.agg cs] w fun r w' => r = endR (encOk o) (encS o) ∧ Below w.heap.size w w' := by
  have HV := Lib.hid (fun W (hb : Below w.heap.size w W) => may_any cs o ao bo ca cb W (h.below hb))
  have HS := Lib.hid h.F.size
  have K0 := Kp.box w cs 29
  cases hv : validB o with
  | false =>
    rw [hv] at HV
    have HE := Lib.hid (show encOk o = false by simp [encOk, hv])
    rw [HE.out]
    clear h hv HE
    go_enter Tryd.func18, Tryd.ntmps18
    go_wp2_with (first
      | (go_at_call 39; refine (HV.out _ K0.below).mono ?_; rintro r w1 ⟨rfl, hx⟩)
      | ((with_reducible apply load_ob (k := K0) (hs := HS.out)); rfl; rfl; rfl))
    go_ret2
    exact ⟨rfl, (K0.step hx).below⟩
  | true =>
    rw [hv] at HV
    have ft := fit_of hv hd ht (valid_name hv)
    have hbl := body_len ft h.eid h.pid h.F.trl h.F.tal h.ti
    have HB := Lib.hid (fun W (hb : Below w.heap.size w W) => refbody_any cs o ao bo ca cb W (h.below hb) ft hv)
    have HO := Lib.hid (fun W => one_any o.kind W (by have := ft.k; omega) (by have := ft.k; omega))
    have hbs : (ByteArray.mk (bodyL o).toArray).size = (bodyL o).length := rfl
    have HX := Lib.hid (fun W => reftext_any ⟨(bodyL o).toArray⟩ W (by rw [hbs]; omega))
    have HE := Lib.hid (show encS o = ⟨#[byteK o.kind]⟩ ++ textOf ⟨(bodyL o).toArray⟩ from rfl)
    have htl : (textOf ⟨(bodyL o).toArray⟩).size ≤ 20000 := by
      have hl := Lib.uvarint_length64 (x := (ByteArray.mk (bodyL o).toArray).size) (by omega)
      unfold textOf
      rw [← size_list, put_list]; simp at hl ⊢; omega
    have HK := Lib.hid (show encOk o = decide ((encS o).size ≤ 4096) by simp [encOk, hv])
    generalize encOk o = ok at HK
    generalize encS o = es at HK HE
    have C0 := Lib.hid h.F.c0
    clear hbl hbs h ft hv
    generalize (ByteArray.mk (bodyL o).toArray) = bd at HB HX HE htl
    generalize textOf bd = tb at HX HE htl
    have hs1 : ¬ 9223372036854775807 < 1 + tb.size := by omega
    generalize byteK o.kind = bk at HO HE
    generalize o.kind = k at HO C0
    go_enter Tryd.func18, Tryd.ntmps18
    go_wp2_with (first
      | (go_at_call 39; refine (HV.out _ K0.below).mono ?_; rintro r w1 ⟨rfl, hx⟩)
      | ((with_reducible apply load_ob (k := K0) (hs := HS.out)); rfl; rfl; rfl))
    have K1 := K0.step hx
    clear hx
    refine wp_region_noPanic ?_
    refine wp_region_held_drew (S := (fun W => Kp w cs 29 W)) (by kernel_rfl) K1.drew (fun hHeld0 => ?_)
    refine wpAnyH_take (i := 0) (v := ?_) rfl (by kernel_rfl) (by kernel_rfl) (by kernel_rfl) (fun _ _ _ h => h) (Or.inl ⟨by rfl, ?_⟩) (by assumption) ?_
    rotate_left
    · intro W hS; go_simp; try rfl
    try simp only [Act.put, List.getElem_toArray, List.getElem_cons_zero, List.getElem_cons_succ, List.setIfInBounds_toArray, List.set_cons_zero, List.set_cons_succ]
    refine wpAnyH_take (i := 1) (v := ?_) rfl (by kernel_rfl) (by kernel_rfl) (by kernel_rfl) (fun _ _ _ h => h) (Or.inl ⟨by rfl, ?_⟩) (by assumption) ?_
    rotate_left
    · intro W hS; have c := hS.cell C0.out; go_simp; try rfl
    try simp only [Act.put, List.getElem_toArray, List.getElem_cons_zero, List.getElem_cons_succ, List.setIfInBounds_toArray, List.set_cons_zero, List.set_cons_succ]
    refine wpAnyH_take (i := 3) rfl (by kernel_rfl) (by kernel_rfl) (by kernel_rfl) (fun _ _ _ h => h) (yieldsIf_ob (by rfl) rfl rfl (fun W h => h) HS.out) (by assumption) ?_
    try simp only [Act.put, List.getElem_toArray, List.getElem_cons_zero, List.getElem_cons_succ, List.setIfInBounds_toArray, List.set_cons_zero, List.set_cons_succ]
    refine wpAnyH_ready (rs := [2]) (by kernel_rfl) (by simp) ?_
    refine AllReadyH.cons rfl (fun K hK => ?_) AllReadyH.nil
    go_simp
    refine (HO.out _).mono ?_
    rintro r wx1 ⟨rfl, hb1⟩
    go_wp2_with fail
    refine hK.out _ _ (hHeld0.step hb1) (fun hHeld1 => ?_)
    clear hK K
    try simp only [Act.put, List.getElem_toArray, List.getElem_cons_zero, List.getElem_cons_succ, List.setIfInBounds_toArray, List.set_cons_zero, List.set_cons_succ]
    refine wpAnyH_ready (rs := [4]) (by kernel_rfl) (by simp) ?_
    refine AllReadyH.cons rfl (fun K hK => ?_) AllReadyH.nil
    go_simp
    refine (HB.out _ hHeld1.below).mono ?_
    rintro r wx2 ⟨rfl, hb2⟩
    go_wp2_with fail
    refine hK.out _ _ (hHeld1.step hb2) (fun hHeld2 => ?_)
    clear hK K
    try simp only [Act.put, List.getElem_toArray, List.getElem_cons_zero, List.getElem_cons_succ, List.setIfInBounds_toArray, List.set_cons_zero, List.set_cons_succ]
    refine wpAnyH_ready (rs := [5]) (by kernel_rfl) (by simp) ?_
    refine AllReadyH.cons rfl (fun K hK => ?_) AllReadyH.nil
    go_simp
    refine (HX.out _).mono ?_
    rintro r wx3 ⟨rfl, hb3⟩
    go_wp2_with fail
    refine hK.out _ _ (hHeld2.step hb3) (fun hHeld3 => ?_)
    clear hK K
    try simp only [Act.put, List.getElem_toArray, List.getElem_cons_zero, List.getElem_cons_succ, List.setIfInBounds_toArray, List.set_cons_zero, List.set_cons_succ]
    refine wpAnyH_take (i := 6) (v := ?_) rfl (by kernel_rfl) (by kernel_rfl) (by kernel_rfl) (fun _ _ _ h => h) (Or.inl ⟨by rfl, ?_⟩) (by assumption) ?_
    rotate_left
    · intro W hS; go_simp; try rfl
    try simp only [Act.put, List.getElem_toArray, List.getElem_cons_zero, List.getElem_cons_succ, List.setIfInBounds_toArray, List.set_cons_zero, List.set_cons_succ]
    refine wpAnyH_take (i := 7) (v := ?_) rfl (by kernel_rfl) (by kernel_rfl) (by kernel_rfl) (fun _ _ _ h => h) (Or.inl ⟨by rfl, ?_⟩) (by assumption) ?_
    rotate_left
    · intro W hS; go_simp; try rfl
    try simp only [Act.put, List.getElem_toArray, List.getElem_cons_zero, List.getElem_cons_succ, List.setIfInBounds_toArray, List.set_cons_zero, List.set_cons_succ]
    refine wpAnyH_done (by kernel_rfl) ?_ _
    refine NoPanic.normal ?_
    have hz : es.size = 1 + tb.size := by rw [HE.out, ByteArray.size_append]; rfl
    have HZ := Lib.hid hz
    clear hz
    go_wp2
    all_goals
      go_ret2
      refine ⟨?_, hHeld3.below⟩
      first
        | (have e : ok = true := by rw [HK.out, HZ.out]; simp; omega
           rw [e, HE.out]; rfl)
        | (have e : ok = false := by rw [HK.out, HZ.out]; simp; omega
           rw [e]; rfl)
end Go.Proofs.YtcicfjfbnbkkcaaDoor
