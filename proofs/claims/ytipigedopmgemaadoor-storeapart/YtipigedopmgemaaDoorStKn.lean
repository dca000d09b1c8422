/-
  WALKS OF LAYER 11: knows.
-/
import Derived.Test.YtipigedopmgemaaDoorStGrow
import Derived.Test.YtipigedopmgemaaDoorStAs
namespace Go.Proofs.YtipigedopmgemaaDoor
open Go.RowKit
set_option linter.unusedVariables false
set_option linter.unusedSimpArgs false

theorem hi_dec : Rm.dec (ByteArray.mk #[1, 2, 104, 105]).data.toList = some hiOb := by
  have hv : validB hiOb = true := by
    have h := hi_ok
    unfold encOk at h
    rw [Bool.and_eq_true] at h
    exact h.1
  have h := Rm.dec_fwd (o := hiOb) hv (fit_of hv (by decide) (by decide) (by decide)) (by intro e h; cases h) (by intro e h; cases h) rfl rfl (by decide) (by rw [hi_enc]; decide)
  rw [hi_enc] at h
  exact h
theorem x_dec : Rm.dec (ByteArray.mk #[120]).data.toList = none := by
  cases h : Rm.dec (ByteArray.mk #[120]).data.toList with
  | none => rfl
  | some o =>
    obtain ⟨_, h1, h2, h3⟩ := Rm.dec_head h
    have h1' : (120 : Nat) = o.kind.toNat := h1
    omega

set_option maxHeartbeats 4000000 in
set_option maxRecDepth 100000 in
theorem kn_true (w : World) (hk : S2.KIn w) :
    Calls Tryd.prog 5 #[] w fun r w' => r = .returned (.bool true) ∧ Below w.heap.size w w' := by
  have HNEW := Lib.hid (new_any w)
  have HP1 := Lib.hid (new_st w)
  have HB1 := Lib.hid (below_new w (.cells #[.slice none 0 0] 65))
  have HK1 := Lib.hid (hk.step HB1.out)
  have hz1 : (w.alloc (.cells #[.slice none 0 0] 65)).heap.size = w.heap.size + 1 := by simp
  have HIL := Lib.hid (shaI_len ⟨#[1, 2, 104, 105]⟩)
  have HSUM := Lib.hid (fun W => refsum_of ⟨#[1, 2, 104, 105]⟩ W (by decide))
  have HPUT := Lib.hid (put_ok (w.alloc (.cells #[.slice none 0 0] 65)) w.heap.size w.heap.size (.slice none 0 0) [] ⟨#[1, 2, 104, 105]⟩ hiOb HP1.out HK1.out (by decide) hi_dec (by decide) (by omega))
  have HBAD := Lib.hid (fun W => put_bad w.heap.size ⟨#[120]⟩ W (by decide) x_dec)
  unfold PutP at HPUT
  generalize shaI ⟨#[1, 2, 104, 105]⟩ = id at *
  clear hk HK1
  go_enter Tryd.func5, Tryd.ntmps5
  go_wp2_with fail
  refine HNEW.out.mono ?_
  rintro r w1 ⟨rfl, rfl⟩
  generalize w.alloc (.cells #[.slice none 0 0] 65) = W1 at *
  clear HNEW
  go_wp2_with fail
  refine HPUT.out.mono ?_
  rintro r w2 ⟨rfl, v2, hp2, hk2, _⟩
  have hb2 : Below w.heap.size W1 w2 := hk2.below HP1.out
  have HB3 := Lib.hid ((HB1.out.trans hb2).trans ((below_new w2 (.cells (idC id).toArray 35)).mono (HB1.out.trans hb2).size))
  have HP3 := Lib.hid (hp2.below (below_new w2 (.cells (idC id).toArray 35)))
  have HI3 := Lib.hid (heap_alloc_new w2 (.cells (idC id).toArray 35))
  have hlt3 : w.heap.size < w2.heap.size := hp2.lt
  have hz3 : (w2.alloc (.cells (idC id).toArray 35)).heap.size = w2.heap.size + 1 := by simp
  clear hp2 hk2 hb2 HPUT HP1 HB1
  go_wp2_with ((with_reducible refine st_id2 (l := id) (x := .tmp 2) (y := .tmp 12) (g := w2.heap.size) ?_ ?_ ?_ ?_ ?_ ?_ HIL.out ?_); rfl; rfl; rfl; rfl; rfl; rfl)
  change Calls _ _ _ (w2.alloc (.cells (idC id).toArray 35)) _
  generalize w2.alloc (.cells (idC id).toArray 35) = W3 at *
  refine (HBAD.out W3).mono ?_
  rintro r w4 ⟨rfl, hb4⟩
  have HB5 := Lib.hid ((HB3.out.trans (hb4.mono HB3.out.size)).trans ((below_new w4 (.cells (idC zId).toArray 35)).mono (HB3.out.trans (hb4.mono HB3.out.size)).size))
  have hq5 : Below W3.heap.size W3 (w4.alloc (.cells (idC zId).toArray 35)) := hb4.trans ((below_new w4 (.cells (idC zId).toArray 35)).mono hb4.size)
  have HP5 := Lib.hid (HP3.out.below hq5)
  have HI5 := Lib.hid ((hq5.block w2.heap.size (by omega)).trans HI3.out)
  have hz5 : W3.heap.size ≤ (w4.alloc (.cells (idC zId).toArray 35)).heap.size := hq5.size
  have HZL := Lib.hid (show zId.length = 32 from rfl)
  clear hb4 hq5 HP3 HI3 HBAD HB3
  go_upto_region 6 with ((with_reducible refine st_id2 (l := zId) (x := .tmp 4) (y := .tmp 17) (g := w4.heap.size) ?_ ?_ ?_ ?_ ?_ ?_ HZL.out ?_); rfl; rfl; rfl; rfl; rfl; rfl)
  change Code.wp _ _ _ _ (w4.alloc (.cells (idC zId).toArray 35))
  generalize w4.alloc (.cells (idC zId).toArray 35) = W5 at *
  have HSI := Lib.hid (fun (W' : World) (hb : Below W5.heap.size W5 W') => show ∀ j u, (idC id)[j]? = some u → W'.cell? ((⟨w2.heap.size, 0, none⟩ : Addr).add j) = some u from row_news ((hb.block w2.heap.size (by omega)).trans HI5.out))
  have HKD := Lib.hid (fun (W' : World) (hb : Below W5.heap.size W5 W') => kind_at W' w.heap.size w.heap.size v2 (St.put [] ⟨id, ⟨#[1, 2, 104, 105]⟩⟩) 0 ⟨id, ⟨#[1, 2, 104, 105]⟩⟩ (HP5.out.below hb) rfl (show 0 < (ByteArray.mk #[1, 2, 104, 105]).size by decide) 1 rfl)
  have HLN := Lib.hid (fun (W' : World) (hb : Below W5.heap.size W5 W') => show Calls Tryd.prog 16 #[.pointer (some ⟨w.heap.size, 0, none⟩)] W' (fun r w' => r = .returned (.int .i64 1) ∧ W' = w') from len_any W' w.heap.size w.heap.size v2 (St.put [] ⟨id, ⟨#[1, 2, 104, 105]⟩⟩) (HP5.out.below hb))
  have hq : ∀ W, (Op.equalIn 10000 35 (.agg (idC id).toArray) (.agg (idC id).toArray)).run Tryd.prog W = .ok true W := fun W => by
    have := eq_id id id HIL.out HIL.out W; simpa using this
  have HU24 := Lib.hid (Tryd.underlying35)
  have HS24 := Lib.hid (show (Tryd.prog.info? 35).map (·.size) = some (idC id).length from idsize HIL.out)
  refine wp_region_noPanic ?_
  refine wp_region_held_drew (S := (fun w' => Below W5.heap.size W5 w')) (by kernel_rfl) (Below.refl _ _).drew (fun hH => ?_)
  refine wpAnyH_take (i := 0) rfl (by kernel_rfl) (by kernel_rfl) (by kernel_rfl) (fun _ _ _ h => h) (yields_at (p := ⟨w2.heap.size, 0, none⟩) (cs := idC id) (by rfl) rfl rfl HSI.out HU24.out rfl HS24.out) (by assumption) ?_
  try simp only [Act.put, List.getElem_toArray, List.getElem_cons_zero, List.getElem_cons_succ, List.setIfInBounds_toArray, List.set_cons_zero, List.set_cons_succ]
  refine wpAnyH_ready (rs := [1]) (by kernel_rfl) (by simp) ?_
  refine AllReadyH.cons rfl (fun K hK => ?_) AllReadyH.nil
  go_simp
  with_reducible refine (HSUM.out _).mono ?_
  rintro r w6 ⟨rfl, hb⟩
  have hd6 : Below W5.heap.size W5 w6 := hH.trans (hb.mono hH.size)
  clear hb
  go_wp2_with fail
  refine hK.out _ _ hd6 (fun _ => ?_)
  clear hK K
  try simp only [Act.put, List.getElem_toArray, List.getElem_cons_zero, List.getElem_cons_succ, List.setIfInBounds_toArray, List.set_cons_zero, List.set_cons_succ]
  refine wpAnyH_take (i := 2) (v := ?_) rfl (by kernel_rfl) (by kernel_rfl) (by kernel_rfl) (fun _ _ _ h => h) (Or.inl ⟨by rfl, ?_⟩) (by assumption) ?_
  rotate_left
  · intro w' hSw; go_simp; try rfl
  try simp only [Act.put, List.getElem_toArray, List.getElem_cons_zero, List.getElem_cons_succ, List.setIfInBounds_toArray, List.set_cons_zero, List.set_cons_succ]
  refine wpAnyH_take (i := 3) (v := ?_) rfl (by kernel_rfl) (by kernel_rfl) (by kernel_rfl) (fun _ _ _ h => h) (Or.inl ⟨by rfl, ?_⟩) (by assumption) ?_
  rotate_left
  · intro w' hSw; go_simp; try rfl
  try simp only [Act.put, List.getElem_toArray, List.getElem_cons_zero, List.getElem_cons_succ, List.setIfInBounds_toArray, List.set_cons_zero, List.set_cons_succ]
  refine wpAnyH_take (i := 4) (v := ?_) rfl (by kernel_rfl) (by kernel_rfl) (by kernel_rfl) (fun _ _ _ h => h) (Or.inl ⟨by rfl, ?_⟩) (by assumption) ?_
  rotate_left
  · intro w' hSw; go_simp; try rfl
  try simp only [Act.put, List.getElem_toArray, List.getElem_cons_zero, List.getElem_cons_succ, List.setIfInBounds_toArray, List.set_cons_zero, List.set_cons_succ]
  refine wpAnyH_take (i := 5) (v := ?_) rfl (by kernel_rfl) (by kernel_rfl) (by kernel_rfl) (fun _ _ _ h => h) (Or.inl ⟨by rfl, ?_⟩) (by assumption) ?_
  rotate_left
  · intro w' hSw; go_simp; try rfl
  try simp only [Act.put, List.getElem_toArray, List.getElem_cons_zero, List.getElem_cons_succ, List.setIfInBounds_toArray, List.set_cons_zero, List.set_cons_succ]
  refine wpAnyH_take (i := 6) (v := ?_) rfl (by kernel_rfl) (by kernel_rfl) (by kernel_rfl) (fun _ _ _ h => h) (Or.inl ⟨by rfl, ?_⟩) (by assumption) ?_
  rotate_left
  · intro w' hSw; go_simp; try rfl
  try simp only [Act.put, List.getElem_toArray, List.getElem_cons_zero, List.getElem_cons_succ, List.setIfInBounds_toArray, List.set_cons_zero, List.set_cons_succ]
  refine wpAnyH_take (i := 7) (v := ?_) rfl (by kernel_rfl) (by kernel_rfl) (by kernel_rfl) (fun _ _ _ h => h) (Or.inl ⟨by rfl, ?_⟩) (by assumption) ?_
  rotate_left
  · intro w' hSw; go_simp; try rfl
  try simp only [Act.put, List.getElem_toArray, List.getElem_cons_zero, List.getElem_cons_succ, List.setIfInBounds_toArray, List.set_cons_zero, List.set_cons_succ]
  refine wpAnyH_take (i := 8) (v := ?_) rfl (by kernel_rfl) (by kernel_rfl) (by kernel_rfl) (fun _ _ _ h => h) (Or.inl ⟨by rfl, ?_⟩) (by assumption) ?_
  rotate_left
  · intro w' hSw; go_simp; try rfl
  try simp only [Act.put, List.getElem_toArray, List.getElem_cons_zero, List.getElem_cons_succ, List.setIfInBounds_toArray, List.set_cons_zero, List.set_cons_succ]
  refine wpAnyH_take (i := 9) (v := ?_) rfl (by kernel_rfl) (by kernel_rfl) (by kernel_rfl) (fun _ _ _ h => h) (Or.inl ⟨by rfl, ?_⟩) (by assumption) ?_
  rotate_left
  · intro w' hSw; go_simp; try rfl
  try simp only [Act.put, List.getElem_toArray, List.getElem_cons_zero, List.getElem_cons_succ, List.setIfInBounds_toArray, List.set_cons_zero, List.set_cons_succ]
  refine wpAnyH_take (i := 10) (v := ?_) rfl (by kernel_rfl) (by kernel_rfl) (by kernel_rfl) (fun _ _ _ h => h) (Or.inl ⟨by rfl, ?_⟩) (by assumption) ?_
  rotate_left
  · intro w' hSw; go_simp; try rfl
  try simp only [Act.put, List.getElem_toArray, List.getElem_cons_zero, List.getElem_cons_succ, List.setIfInBounds_toArray, List.set_cons_zero, List.set_cons_succ]
  refine wpAnyH_take (i := 11) (v := ?_) rfl (by kernel_rfl) (by kernel_rfl) (by kernel_rfl) (fun _ _ _ h => h) (Or.inl ⟨by rfl, ?_⟩) (by assumption) ?_
  rotate_left
  · intro w' hSw; go_simp; try rfl
  try simp only [Act.put, List.getElem_toArray, List.getElem_cons_zero, List.getElem_cons_succ, List.setIfInBounds_toArray, List.set_cons_zero, List.set_cons_succ]
  refine wpAnyH_take (i := 12) (v := ?_) rfl (by kernel_rfl) (by kernel_rfl) (by kernel_rfl) (fun _ _ _ h => h) (Or.inl ⟨by rfl, ?_⟩) (by assumption) ?_
  rotate_left
  · intro w' hSw; go_simp; try rfl
  try simp only [Act.put, List.getElem_toArray, List.getElem_cons_zero, List.getElem_cons_succ, List.setIfInBounds_toArray, List.set_cons_zero, List.set_cons_succ]
  refine wpAnyH_take (i := 13) rfl (by kernel_rfl) (by kernel_rfl) (by kernel_rfl) (fun _ _ _ h => h) (yields_at (p := ⟨w2.heap.size, 0, none⟩) (cs := idC id) (by rfl) rfl rfl HSI.out HU24.out rfl HS24.out) (by assumption) ?_
  try simp only [Act.put, List.getElem_toArray, List.getElem_cons_zero, List.getElem_cons_succ, List.setIfInBounds_toArray, List.set_cons_zero, List.set_cons_succ]
  refine wpAnyH_ready (rs := [14]) (by kernel_rfl) (by simp) ?_
  refine AllReadyH.cons rfl (fun K hK => ?_) AllReadyH.nil
  go_simp
  with_reducible refine (HKD.out _ hd6).mono ?_
  rintro r w7 ⟨rfl, hb⟩
  have hd7 : Below W5.heap.size W5 w7 := hd6.trans (hb.mono hd6.size)
  clear hb
  go_wp2_with fail
  refine hK.out _ _ hd7 (fun _ => ?_)
  clear hK K
  try simp only [Act.put, List.getElem_toArray, List.getElem_cons_zero, List.getElem_cons_succ, List.setIfInBounds_toArray, List.set_cons_zero, List.set_cons_succ]
  refine wpAnyH_take (i := 15) (v := ?_) rfl (by kernel_rfl) (by kernel_rfl) (by kernel_rfl) (fun _ _ _ h => h) (Or.inl ⟨by rfl, ?_⟩) (by assumption) ?_
  rotate_left
  · intro w' hSw; go_simp; try rfl
  try simp only [Act.put, List.getElem_toArray, List.getElem_cons_zero, List.getElem_cons_succ, List.setIfInBounds_toArray, List.set_cons_zero, List.set_cons_succ]
  refine wpAnyH_take (i := 16) (v := ?_) rfl (by kernel_rfl) (by kernel_rfl) (by kernel_rfl) (fun _ _ _ h => h) (Or.inl ⟨by rfl, ?_⟩) (by assumption) ?_
  rotate_left
  · intro w' hSw; go_simp; try rfl
  try simp only [Act.put, List.getElem_toArray, List.getElem_cons_zero, List.getElem_cons_succ, List.setIfInBounds_toArray, List.set_cons_zero, List.set_cons_succ]
  refine wpAnyH_take (i := 17) (v := ?_) rfl (by kernel_rfl) (by kernel_rfl) (by kernel_rfl) (fun _ _ _ h => h) (Or.inl ⟨by rfl, ?_⟩) (by assumption) ?_
  rotate_left
  · intro w' hSw; go_simp; try rfl
  try simp only [Act.put, List.getElem_toArray, List.getElem_cons_zero, List.getElem_cons_succ, List.setIfInBounds_toArray, List.set_cons_zero, List.set_cons_succ]
  refine wpAnyH_take (i := 18) (v := ?_) rfl (by kernel_rfl) (by kernel_rfl) (by kernel_rfl) (fun _ _ _ h => h) (Or.inl ⟨by rfl, ?_⟩) (by assumption) ?_
  rotate_left
  · intro w' hSw; go_simp; try rfl
  try simp only [Act.put, List.getElem_toArray, List.getElem_cons_zero, List.getElem_cons_succ, List.setIfInBounds_toArray, List.set_cons_zero, List.set_cons_succ]
  refine wpAnyH_ready (rs := [19]) (by kernel_rfl) (by simp) ?_
  refine AllReadyH.cons rfl (fun K hK => ?_) AllReadyH.nil
  go_simp
  with_reducible refine (HLN.out _ hd7).mono ?_
  rintro r w8 ⟨rfl, rfl⟩
  go_wp2_with fail
  refine hK.out _ _ hd7 (fun _ => ?_)
  clear hK K
  try simp only [Act.put, List.getElem_toArray, List.getElem_cons_zero, List.getElem_cons_succ, List.setIfInBounds_toArray, List.set_cons_zero, List.set_cons_succ]
  refine wpAnyH_take (i := 20) (v := ?_) rfl (by kernel_rfl) (by kernel_rfl) (by kernel_rfl) (fun _ _ _ h => h) (Or.inl ⟨by rfl, ?_⟩) (by assumption) ?_
  rotate_left
  · intro w' hSw; go_simp; try rfl
  try simp only [Act.put, List.getElem_toArray, List.getElem_cons_zero, List.getElem_cons_succ, List.setIfInBounds_toArray, List.set_cons_zero, List.set_cons_succ]
  refine wpAnyH_take (i := 21) (v := ?_) rfl (by kernel_rfl) (by kernel_rfl) (by kernel_rfl) (fun _ _ _ h => h) (Or.inl ⟨by rfl, ?_⟩) (by assumption) ?_
  rotate_left
  · intro w' hSw; go_simp; try rfl
  try simp only [Act.put, List.getElem_toArray, List.getElem_cons_zero, List.getElem_cons_succ, List.setIfInBounds_toArray, List.set_cons_zero, List.set_cons_succ]
  refine wpAnyH_take (i := 22) (v := ?_) rfl (by kernel_rfl) (by kernel_rfl) (by kernel_rfl) (fun _ _ _ h => h) (Or.inl ⟨by rfl, ?_⟩) (by assumption) ?_
  rotate_left
  · intro w' hSw; go_simp; try rfl
  try simp only [Act.put, List.getElem_toArray, List.getElem_cons_zero, List.getElem_cons_succ, List.setIfInBounds_toArray, List.set_cons_zero, List.set_cons_succ]
  refine wpAnyH_done (by kernel_rfl) ?_ _
  refine NoPanic.normal ?_
  go_wp2_with fail
  go_ret
  exact ⟨rfl, HB5.out.trans (hd7.mono HB5.out.size)⟩

end Go.Proofs.YtipigedopmgemaaDoor
