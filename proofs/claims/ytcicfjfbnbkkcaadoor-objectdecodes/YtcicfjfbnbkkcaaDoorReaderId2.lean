/-
  WALKS OF LAYER 4: the reader's id, where there is enough.
-/
import Derived.Test.YtcicfjfbnbkkcaaDoorReaderId
import Derived.Lib.BufferWrite
namespace Go.Proofs.YtcicfjfbnbkkcaaDoor
open Go.RowKit
set_option linter.unusedVariables false
set_option linter.unusedSimpArgs false

theorem setRow_size (w : World) (g : Nat) (cs : Array Value) : (w.setRow g cs).heap.size = w.heap.size := by simp [World.setRow]
theorem bc_idC (l : List UInt8) : Lib.byteCells l = idC l := rfl
/-- 'copy(dst, s)', s a string at least as long as dst: dst is filled. -/
theorem run_copy_long (w : World) (g : Nat) (s : ByteArray) (cur : Array Value) (ty t : TypeId) (hg : w.heap[g]? = some (.cells cur t (0, 0))) (hle : 32 ≤ s.size) (hfit : cur.size = 32) :
    (Builtin.copy_ #[55, 9] ty #[.slice (some ⟨g, 0, none⟩) 32 32, .string s]).run Tryd.prog w = .ok (goInt 32) (w.setRow g (idC (s.data.toList.take 32)).toArray) := by
  have hl : (s.data.toList.take 32).length = 32 := by rw [List.length_take, size_list]; omega
  have hlen : (Lib.byteCells (s.data.toList.take 32)).length = 32 := by rw [Lib.byteCells_length, hl]
  have hst := run_storeCells_at Tryd.prog g 0 t (Lib.byteCells (s.data.toList.take 32)) 0 cur w hg (by rw [hlen]; omega) (Lib.byteCells_one _)
  have hmin : Nat.min s.size 32 = 32 := Nat.min_eq_right hle
  have htk : List.take 32 (List.map (fun b : UInt8 => Value.int IntKind.u8 (b.toNat : Int)) s.data.toList) = Lib.byteCells (s.data.toList.take 32) := by
    rw [← List.map_take]; rfl
  rw [hlen] at hst
  simp only [Nat.add_zero, Nat.zero_add, List.take_zero, List.nil_append] at hst
  rw [List.drop_of_length_le (by rw [Array.length_toList]; omega), List.append_nil, bc_idC] at hst
  obtain ⟨i, hq, _, hs1, _⟩ := info_byte
  simp [Builtin.copy_, run_underlying Tryd.underlying55, Builtin.lenOf, Builtin.firstCells, Go.sizeOf, typeInfo, hq, hs1, hmin]
  rw [htk, bc_idC, hst]
  simp [Result.andThen]

set_option maxHeartbeats 1000000 in
set_option maxRecDepth 100000 in
theorem id_ok (g : Nat) (s : ByteArray) (b : Bool) (w : World) (h : Rd w g s b) (hs : 32 ≤ s.size) (hm : s.size ≤ maxLen) :
    Calls Tryd.prog 54 #[.pointer (some ⟨g, 0, none⟩)] w fun r w' => r = .returned (.agg (idC (s.data.toList.take 32)).toArray) ∧ Rd w' g (s.extract 32 s.size) b ∧ w.grownBy w' (some g) := by
  unfold maxLen at hm
  have hz24 := (zero_of_info zero24).1
  have hs' : ¬ (s.size : Int) < 32 := by omega
  have hs2 : (32 : Int) ≤ (s.size : Int) := by omega
  have hlt := (Array.getElem?_eq_some_iff.1 h).1
  have HZ := Lib.hid zsize
  have hl : (s.data.toList.take 32).length = 32 := by rw [List.length_take, size_list]; omega
  have R1 : Rd ((w.alloc (.cells (idC zId).toArray 25)).alloc (.cells (idC zId).toArray 25)) g s b := (Lib.alloc_old _ _ g (by simp; omega)).trans ((Lib.alloc_old w _ g hlt).trans h)
  have E0 := Lib.hid (heap_alloc2_old w (.cells (idC zId).toArray 25) (.cells (idC zId).toArray 25))
  have I0 := Lib.hid (heap_alloc2_new w (.cells (idC zId).toArray 25) (.cells (idC zId).toArray 25))
  have G0 := Lib.hid (grown_trans (World.grownBy_alloc w (.cells (idC zId).toArray 25) (some g)) (World.grownBy_alloc (w.alloc (.cells (idC zId).toArray 25)) (.cells (idC zId).toArray 25) (some g)))
  have c0 := R1.c0
  have hcopy := fun ty => run_copy_long ((w.alloc (.cells (idC zId).toArray 25)).alloc (.cells (idC zId).toArray 25)).drew (w.heap.size + 1) s (idC zId).toArray ty 25 I0.out hs HZ.out
  generalize s.data.toList.take 32 = l at hl hcopy ⊢
  have HR3 := Lib.hid (show Rd (((w.alloc (.cells (idC zId).toArray 25)).alloc (.cells (idC zId).toArray 25)).drew.setRow (w.heap.size + 1) (idC l).toArray) g s b from (setRow_other _ _ _ _ (by omega)).trans R1)
  have HE3 := Lib.hid ((setRow_other ((w.alloc (.cells (idC zId).toArray 25)).alloc (.cells (idC zId).toArray 25)).drew (w.heap.size + 1) w.heap.size (idC l).toArray (by omega)).trans E0.out)
  have HI3 := Lib.hid (setRow_heap ((w.alloc (.cells (idC zId).toArray 25)).alloc (.cells (idC zId).toArray 25)).drew (w.heap.size + 1) _ (idC l).toArray _ _ I0.out)
  have HG3 := Lib.hid (show w.grownBy (((w.alloc (.cells (idC zId).toArray 25)).alloc (.cells (idC zId).toArray 25)).drew.setRow (w.heap.size + 1) (idC l).toArray) (some g) from
    ⟨G0.out.os, G0.out.tape, G0.out.output, by rw [setRow_size]; exact G0.out.size, fun k hk hne => (setRow_other _ _ _ _ (by omega)).trans (G0.out.block k hk hne)⟩)
  have HL := Lib.hid hl
  clear h hl R1 E0 I0 G0
  go_enter Tryd.func54, Tryd.ntmps54
  go_wp2_with fail
  refine wp_region_noPanic ?_
  refine wp_region_held_drew (S := (fun W => W.cell? ⟨g, 0, none⟩ = some (.string s))) (by kernel_rfl) c0 (fun hHeld0 => ?_)
  refine wpAnyH_take (i := 0) (v := ?_) rfl (by kernel_rfl) (by kernel_rfl) (by kernel_rfl) (fun _ _ _ h => h) (Or.inl ⟨by rfl, ?_⟩) (by assumption) ?_
  rotate_left
  · intro W hS; go_simp; try rfl
  try simp only [Act.put, List.getElem_toArray, List.getElem_cons_zero, List.getElem_cons_succ, List.setIfInBounds_toArray, List.set_cons_zero, List.set_cons_succ]
  refine wpAnyH_take (i := 1) (v := ?_) rfl (by kernel_rfl) (by kernel_rfl) (by kernel_rfl) (fun _ _ _ h => h) (Or.inl ⟨by rfl, ?_⟩) (by assumption) ?_
  rotate_left
  · intro W hS; go_simp; try rfl
  try simp only [Act.put, List.getElem_toArray, List.getElem_cons_zero, List.getElem_cons_succ, List.setIfInBounds_toArray, List.set_cons_zero, List.set_cons_succ]
  refine wpAnyH_take (i := 2) (v := ?_) rfl (by kernel_rfl) (by kernel_rfl) (by kernel_rfl) (fun _ _ _ h => h) (Or.inl ⟨by rfl, ?_⟩) (by assumption) ?_
  rotate_left
  · intro W hS; go_simp; try rfl
  try simp only [Act.put, List.getElem_toArray, List.getElem_cons_zero, List.getElem_cons_succ, List.setIfInBounds_toArray, List.set_cons_zero, List.set_cons_succ]
  refine wpAnyH_take (i := 3) (v := ?_) rfl (by kernel_rfl) (by kernel_rfl) (by kernel_rfl) (fun _ _ _ h => h) (Or.inl ⟨by rfl, ?_⟩) (by assumption) ?_
  rotate_left
  · intro W hS; go_simp; try rfl
  try simp only [Act.put, List.getElem_toArray, List.getElem_cons_zero, List.getElem_cons_succ, List.setIfInBounds_toArray, List.set_cons_zero, List.set_cons_succ]
  refine wpAnyH_take (i := 4) (v := ?_) rfl (by kernel_rfl) (by kernel_rfl) (by kernel_rfl) (fun _ _ _ h => h) (Or.inl ⟨by rfl, ?_⟩) (by assumption) ?_
  rotate_left
  · intro W hS; go_simp; try rfl
  try simp only [Act.put, List.getElem_toArray, List.getElem_cons_zero, List.getElem_cons_succ, List.setIfInBounds_toArray, List.set_cons_zero, List.set_cons_succ]
  refine wpAnyH_ready (rs := [5]) (by kernel_rfl) (by simp) ?_
  refine AllReadyH.cons rfl (fun K hK => ?_) AllReadyH.nil
  go_simp
  refine hK.out _ _ ?_ (fun hHeld1 => ?_)
  · exact HR3.out.c0
  clear hK K
  try simp only [Act.put, List.getElem_toArray, List.getElem_cons_zero, List.getElem_cons_succ, List.setIfInBounds_toArray, List.set_cons_zero, List.set_cons_succ]
  refine wpAnyH_done (by kernel_rfl) ?_ _
  refine NoPanic.normal ?_
  clear hHeld0 hHeld1 c0 hcopy
  generalize (((w.alloc (.cells (idC zId).toArray 25)).alloc (.cells (idC zId).toArray 25)).drew.setRow (w.heap.size + 1) (idC l).toArray) = w3 at HR3 HE3 HI3 HG3 ⊢
  have c3 := HR3.out.c0
  have f3 := HR3.out.f 0
  have R4 := Lib.hid (HR3.out.set0 (s.extract 32 s.size))
  have E4 := Lib.hid ((heap_setCell_other w3 ⟨g, 0, none⟩ w.heap.size (.string (s.extract 32 s.size)) (by simp; omega)).trans HE3.out)
  have I4 := Lib.hid (id_rid ((heap_setCell_other w3 ⟨g, 0, none⟩ (w.heap.size + 1) (.string (s.extract 32 s.size)) (by simp; omega)).trans HI3.out))
  have G4 := grown_trans HG3.out (grown_set w3 g 0 (.string (s.extract 32 s.size)))
  go_wp2_with (first
    | ((with_reducible refine ld_idm (x := .tmp 3) ?_ ?_ ?_ I4.out HL.out ?_); rfl; rfl; rfl)
    | ((with_reducible refine st_idr (x := .tmp 2) (y := .tmp 27) ?_ ?_ ?_ ?_ E4.out HZ.out HL.out ?_); rfl; rfl; rfl; rfl))
  refine bodyPost_ret (results_cell_row (fn := Tryd.f54) (p := 2) (by rfl) _ _ w.heap.size _ _ _ _ (by rfl) (setRow_heap _ _ _ _ _ _ E4.out) Tryd.underlying25 rfl (by rw [List.size_toArray]; exact idsize HL.out)) rfl ⟨rfl, ?_, ?_⟩
  · exact (setRow_other _ _ _ _ (by omega)).trans R4.out
  · exact ⟨G4.os, G4.tape, G4.output, by rw [setRow_size]; exact G4.size, fun k hk hne => (setRow_other _ _ _ _ (by omega)).trans (G4.block k hk hne)⟩
end Go.Proofs.YtcicfjfbnbkkcaaDoor
