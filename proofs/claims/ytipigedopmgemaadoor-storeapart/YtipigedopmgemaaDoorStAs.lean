/-
  WALKS OF LAYER 11: As (is a program's store the document's?).
-/
import Derived.Test.YtipigedopmgemaaDoorStOf
namespace Go.Proofs.YtipigedopmgemaaDoor
open Go.RowKit
set_option linter.unusedVariables false
set_option linter.unusedSimpArgs false

set_option maxHeartbeats 4000000 in
set_option maxRecDepth 100000 in
theorem as_any (w : World) (base b : Nat) (v m : Value) (L : List St.It) (hp : PSt w base b v L) (hd : DSt w m L) :
    Calls Tryd.prog 10 #[.pointer (some ⟨b, 0, none⟩), .agg #[m]] w fun r w' => r = .returned (.int .i64 1) ∧ Below w.heap.size w w' := by
  have hfew := hd.few
  obtain ⟨mo, mc, rfl⟩ := hd.form
  have HHP := Lib.hid hp
  have HHD := Lib.hid hd
  have HL := Lib.hid (idsOf_len hd.len)
  have hil : (idsOf L).length = L.length := by unfold idsOf; simp
  have HB1 := Lib.hid (below_new w (.cells #[.slice mo L.length mc] 27))
  have hx1 := heap_alloc_new w (.cells #[.slice mo L.length mc] 27)
  have HX1 := Lib.hid (show (w.alloc (.cells #[.slice mo L.length mc] 27)).cell? ⟨w.heap.size, 0, none⟩ = some (.slice mo L.length mc) by rw [cell_of_row _ _ 0 _ _ _ hx1]; rfl)
  have hz1 : (w.alloc (.cells #[.slice mo L.length mc] 27)).heap.size = w.heap.size + 1 := by simp
  clear hp hd hx1
  go_enter Tryd.func10, Tryd.ntmps10
  go_upto_region 1 with (fail)
  change Code.wp _ _ _ _ (w.alloc (.cells #[.slice mo L.length mc] 27))
  generalize w.alloc (.cells #[.slice mo L.length mc] 27) = W1 at *
  have HBW := Lib.hid (fun (W' : World) (hb : Below (w.heap.size + 1) W1 W') => show Below w.heap.size w W' from HB1.out.trans (hb.mono (by omega)))
  have HSF := Lib.hid (fun (W' : World) (hb : Below (w.heap.size + 1) W1 W') => show W'.cell? ⟨w.heap.size, 0, none⟩ = some (.slice mo L.length mc) from (hb.cell (p := ⟨w.heap.size, 0, none⟩) (by show w.heap.size < w.heap.size + 1; omega)).trans HX1.out)
  have HID := Lib.hid (fun (W' : World) (hb : Below (w.heap.size + 1) W1 W') => ids_any W' base b v L (HHP.out.below (HBW.out W' hb)))
  have HRI := Lib.hid (fun (W' : World) (hb : Below (w.heap.size + 1) W1 W') => refids_any W' (.slice mo L.length mc) L (HHD.out.below (HBW.out W' hb)))
  go_cut [5] from 9 to 13 (fun p wc => p = .bool true ∧ Hid (Below (w.heap.size + 1) W1 wc))
  case first =>
    refine wp_region_noPanic ?_
    refine wp_region_held_drew (S := (fun w' => Below (w.heap.size + 1) W1 w')) (by kernel_rfl) (Below.refl _ _).drew (fun hH => ?_)
    refine wpAnyH_take (i := 0) (v := ?_) rfl (by kernel_rfl) (by kernel_rfl) (by kernel_rfl) (fun _ _ _ h => h) (Or.inl ⟨by rfl, ?_⟩) (by assumption) ?_
    rotate_left
    · intro w' hSw; go_simp; try rfl
    try simp only [Act.put, List.getElem_toArray, List.getElem_cons_zero, List.getElem_cons_succ, List.setIfInBounds_toArray, List.set_cons_zero, List.set_cons_succ]
    refine wpAnyH_take (i := 2) (v := ?_) rfl (by kernel_rfl) (by kernel_rfl) (by kernel_rfl) (fun _ _ _ h => h) (Or.inl ⟨by rfl, ?_⟩) (by assumption) ?_
    rotate_left
    · intro w' hSw; have q0 := HSF.out _ hSw; go_simp; try rfl
    try simp only [Act.put, List.getElem_toArray, List.getElem_cons_zero, List.getElem_cons_succ, List.setIfInBounds_toArray, List.set_cons_zero, List.set_cons_succ]
    refine wpAnyH_ready (rs := [1]) (by kernel_rfl) (by simp) ?_
    refine AllReadyH.cons rfl (fun K hK => ?_) AllReadyH.nil
    go_simp
    with_reducible refine (HID.out _ hH).mono ?_
    rintro r w2 ⟨v1, rfl, hi0, hb⟩
    have hd2 : Below (w.heap.size + 1) W1 w2 := hH.trans (hb.mono (by have h1 := hH.size; have h2 := hz1; omega))
    clear hb
    go_wp2_with fail
    refine hK.out _ _ hd2 (fun _ => ?_)
    clear hK K
    try simp only [Act.put, List.getElem_toArray, List.getElem_cons_zero, List.getElem_cons_succ, List.setIfInBounds_toArray, List.set_cons_zero, List.set_cons_succ]
    refine wpAnyH_ready (rs := [3]) (by kernel_rfl) (by simp) ?_
    refine AllReadyH.cons rfl (fun K hK => ?_) AllReadyH.nil
    go_simp
    with_reducible refine (HRI.out _ hd2).mono ?_
    rintro r w3 ⟨v2, rfl, hj, hb⟩
    have hd3 : Below (w.heap.size + 1) W1 w3 := hd2.trans (hb.mono (by have h1 := hd2.size; have h2 := hz1; omega))
    have hi : IdsAt w3 v1 (idsOf L) := RowsAt.below hi0 hb
    clear hb hi0
    go_wp2_with fail
    refine hK.out _ _ hd3 (fun _ => ?_)
    clear hK K
    try simp only [Act.put, List.getElem_toArray, List.getElem_cons_zero, List.getElem_cons_succ, List.setIfInBounds_toArray, List.set_cons_zero, List.set_cons_succ]
    refine wpAnyH_ready (rs := [4]) (by kernel_rfl) (by simp) ?_
    refine AllReadyH.cons rfl (fun K hK => ?_) AllReadyH.nil
    go_simp
    with_reducible refine (sameids_any _ _ _ (idsOf L) hi hj HL.out (by omega)).mono ?_
    rintro r w4 ⟨rfl, hb4⟩
    have hd4 : Below (w.heap.size + 1) W1 w4 := hd3.trans (hb4.mono (by have h1 := hd3.size; have h2 := hz1; omega))
    go_wp2_with fail
    refine hK.out _ _ hd4 (fun hH4 => ?_)
    clear hK K
    try simp only [Act.put, List.getElem_toArray, List.getElem_cons_zero, List.getElem_cons_succ, List.setIfInBounds_toArray, List.set_cons_zero, List.set_cons_succ]
    refine wpAnyH_take (i := 5) (v := ?_) rfl (by kernel_rfl) (by kernel_rfl) (by kernel_rfl) (fun _ _ _ h => h) (Or.inl ⟨by rfl, ?_⟩) (by assumption) ?_
    rotate_left
    · intro w' hSw; go_simp; try rfl
    try simp only [Act.put, List.getElem_toArray, List.getElem_cons_zero, List.getElem_cons_succ, List.setIfInBounds_toArray, List.set_cons_zero, List.set_cons_succ]
    refine wpAnyH_done (by kernel_rfl) ?_ _
    refine NoPanic.normal ?_
    go_wp2_with fail
    go_meet
    exact ⟨rfl, hd4⟩
  case rest =>
    obtain ⟨rfl, HBC⟩ := hcut
    have HC0 := Lib.hid (HSF.out _ HBC.out)
    have c0 := HC0.out
    have c0' : wc.drew.cell? ⟨w.heap.size, 0, none⟩ = some (.slice mo L.length mc) := HC0.out
    have HLEN := Lib.hid (fun (W' : World) (hb : Below (w.heap.size + 1) W1 W') => len_any W' base b v L (HHP.out.below (HBW.out W' hb)))
    go_wp2_with fail
    refine rgn_still (by kernel_rfl) (by kernel_rfl) ?_
    repeat still_step
    still_call (still_of (HLEN.out _ HBC.out.drew))
    repeat still_step
    refine wpStill_nil ?_
    go_wp2_with fail
    go_loopw [6] (fun i wr => ∃ (k : Nat), k ≤ L.length ∧ i = .int .i64 k ∧ Hid (Below (w.heap.size + 1) W1 wr)) (fun i _ => L.length - (intOf i).toNat)
    case atStart => exact ⟨0, by omega, rfl, HBC.out.drew⟩
    case round =>
      obtain ⟨k, hk, rfl, HB⟩ := hrel
      have c1 := HSF.out _ HB.out
      by_cases hlt : k < L.length
      · have hlt' : (k : Int) < (L.length : Int) := by omega
        have hk0 : (0 : Int) ≤ (k : Int) := by omega
        obtain ⟨x, hx⟩ : ∃ x, L[k]? = some x := ⟨L[k], List.getElem?_eq_getElem hlt⟩
        have hxl := HHD.out.len x (List.mem_of_getElem? hx)
        have HGET := Lib.hid (get_at wr base b v L k x (HHP.out.below (HBW.out _ HB.out)) hx)
        have HOUT := Lib.hid (fun W (hb : Below (w.heap.size + 1) W1 W) => (HHD.out.below (HBW.out _ hb)).out k x hx)
        obtain ⟨a, rfl, hc, _⟩ := HOUT.out wr HB.out
        have hA1 := add_block a (k * 105)
        have hA2 : (a.add (k * 105)).off = a.off + k * 105 := by unfold Addr.add; split <;> simp_all
        have HC1 := Lib.hid hc
        have HXL := Lib.hid hxl
        clear hx hxl hc
        go_wp2_with ((with_reducible refine ld_id (l := x.id) (x := .tmp 37) (p := a.add (k * 105)) ?_ ?_ ?_ HC1.out HXL.out ?_); rfl; rfl; rfl)
        refine HGET.out.mono ?_
        rintro r w5 ⟨rfl, hb5⟩
        have HB5 := Lib.hid (HB.out.trans (hb5.mono (by have h1 := HB.out.size; have h2 := hz1; omega)))
        have c5 : w5.drew.cell? ⟨w.heap.size, 0, none⟩ = some (.slice (some a) L.length mc) := HSF.out _ HB5.out.drew
        have c5' : w5.cell? ⟨w.heap.size, 0, none⟩ = some (.slice (some a) L.length mc) := HSF.out _ HB5.out
        obtain ⟨a', he', _, ct⟩ := HOUT.out _ HB5.out
        cases he'
        have ct' : w5.drew.cell? ⟨a.block, a.off + k * 105 + 32, none⟩ = some (.string x.text) := ct
        clear hb5 HGET HOUT HC1
        go_wp2_with fail
        go_roundw
        case rel => exact ⟨k + 1, by omega, by go_num, HB5.out⟩
        case measure => simp [intOf]; omega
      · go_wp2_with fail
        go_ret
        exact ⟨rfl, HBW.out _ HB.out⟩

end Go.Proofs.YtipigedopmgemaaDoor
