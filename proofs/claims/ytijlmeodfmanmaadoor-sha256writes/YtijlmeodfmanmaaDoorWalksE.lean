/-
  WALKS OF LAYER 2: idOf.
-/
import Derived.Test.YtijlmeodfmanmaaDoorWalksC
namespace Go.Proofs.YtijlmeodfmanmaaDoor
open Go.RowKit
set_option linter.unusedVariables false
set_option linter.unusedSimpArgs false
open Sh (Wd)

def bv (x : UInt8) : Value := .int .u8 (x.toNat : Int)
/-- Thirty-two places, the first of them filled. -/
def idA (l : List UInt8) : Array Value := (l.map bv ++ List.replicate (32 - l.length) (Value.int .u8 0)).toArray
theorem idA_size (l : List UInt8) (h : l.length ≤ 32) : (idA l).size = 32 := by simp [idA]; omega
theorem idA_get (l : List UInt8) (i : Nat) (h : i < l.length) : (idA l)[i]? = some (.int .u8 ((l.getD i 0).toNat : Int)) := by
  simp only [idA, List.getElem?_toArray, List.getD_eq_getElem?_getD]
  rw [List.getElem?_append_left (by simpa using h), List.getElem?_map, List.getElem?_eq_getElem h]
  rfl
theorem idA_rest (l : List UInt8) (i : Nat) (h : l.length ≤ i) (h2 : i < 32) : (idA l)[i]? = some (.int .u8 0) := by
  simp only [idA, List.getElem?_toArray]
  rw [List.getElem?_append_right (by simpa using h), List.getElem?_replicate, if_pos (by simp; omega)]
theorem idA_push (l : List UInt8) (x : UInt8) (h : l.length < 32) : (idA l).setIfInBounds l.length (.int .u8 (x.toNat : Int)) = idA (l ++ [x]) := by
  apply Array.ext_getElem?
  intro i
  simp only [idA, List.setIfInBounds_toArray, List.getElem?_toArray]
  rw [List.set_append_right _ _ (by simp)]
  simp only [List.length_map, Nat.sub_self, List.map_append, List.map_cons, List.map_nil, List.length_append, List.length_cons, List.length_nil, List.append_assoc]
  rw [show 32 - l.length = (32 - (l.length + (0 + 1))) + 1 by omega, List.replicate_succ, List.set_cons_zero]
  rfl
theorem idA_one (l : List UInt8) : (idA l).all (·.oneCell') = true := by
  rw [Array.all_eq_true_iff_forall_mem]
  intro x hx
  simp only [idA, List.mem_toArray, List.mem_append, List.mem_map, List.mem_replicate] at hx
  rcases hx with ⟨y, _, rfl⟩ | ⟨_, rfl⟩ <;> rfl
theorem info24 : (Tryd.prog.info? 24).map (fun i => (i.zero, i.size)) = some (some (.agg (idA [])), 32) := by kernel_rfl
theorem idsize {l : List UInt8} (h : l.length ≤ 32) : (Tryd.prog.info? 24).map (·.size) = some (idA l).size := by rw [idA_size l h]; exact (zero_of_info info24).2

theorem stA_get (s : Sh.St) (i : Nat) (h : i < 8) : (stA s)[i]? = some (.int .u32 ((s.list.getD i 0).toNat : Int)) := by
  rcases i with _ | _ | _ | _ | _ | _ | _ | _ | i
  all_goals first | rfl | omega
theorem range_take (f : Nat → UInt8) (k : Nat) : (List.range (k + 1)).map f = (List.range k).map f ++ [f k] := by rw [List.range_succ, List.map_append]; rfl
theorem byteOf_eq (s : Sh.St) (i : Nat) : ((Sh.byteOf s i).toNat : Int) = (((s.list.getD (i / 4) 0).toNat : Int) / 2 ^ (24 - 8 * (i % 4))) % 256 := by
  simp [Sh.byteOf, UInt8.toNat_ofNat']

theorem heap3 (w : World) (A B C : Obj) : (((w.alloc A).alloc B).alloc C).heap[w.heap.size]? = some A ∧ (((w.alloc A).alloc B).alloc C).heap[w.heap.size + 1]? = some B ∧ (((w.alloc A).alloc B).alloc C).heap[w.heap.size + 1 + 1]? = some C := by
  refine ⟨(Below.heap_alloc _ _ _ (by simp; omega)).trans (heap_alloc2_old _ _ _), (Below.heap_alloc _ _ _ (by simp)).trans (heap_alloc2_new _ _ _), ?_⟩
  have h := heap_alloc_new ((w.alloc A).alloc B) C
  rwa [show ((w.alloc A).alloc B).heap.size = w.heap.size + 1 + 1 by simp] at h

set_option maxHeartbeats 800000 in
set_option maxRecDepth 100000 in
theorem idOf_any (s : Sh.St) (w : World) :
    Calls Tryd.prog 19 #[.agg (stA s)] w fun r w' => r = .returned (.agg (idA (Sh.idOf s))) ∧ Below w.heap.size w w' := by
  generalize hM : Sh.idOf s = M
  have HM := Lib.hid hM
  clear hM
  obtain ⟨S, hS⟩ : ∃ S, S = s := ⟨s, rfl⟩
  rw [← hS] at HM
  have HS := Lib.hid (show stA S = stA s by rw [hS])
  clear hS
  obtain ⟨a0, b0, c0, d0, e0, f0, g0, h0⟩ := s
  unfold stA
  go_enter Tryd.func19, Tryd.ntmps19
  go_wp2
  go_loopw [5] (fun v wr => ∃ (k : Nat), k ≤ 32 ∧ v = .int .i64 k ∧ Hid (wr.heap[w.heap.size]? = some (.cells (stA S) 40)) ∧ Hid (wr.heap[w.heap.size + 1]? = some (.cells (idA []) 24)) ∧ Hid (wr.heap[w.heap.size + 1 + 1]? = some (.cells (idA ((List.range k).map (Sh.byteOf S))) 24)) ∧ Below w.heap.size w wr) (fun v _ => 32 - (intOf v).toNat)
  case atStart =>
    refine ⟨0, by omega, rfl, ?_, ?_, ?_, (((Below.refl _ _).alloc (Nat.le_refl _) _).alloc (by simp) _).alloc (by simp; omega) _⟩
    · rw [HS.out]; exact (heap3 w _ _ _).1
    · exact (heap3 w _ _ _).2.1
    · exact (heap3 w _ _ _).2.2
  case round =>
    obtain ⟨k, hk, rfl, E0, E1, E2, hbr⟩ := hrel
    by_cases hlt : k < 32
    · have c1 := (cell_of_row wr w.heap.size (k / 4) _ _ _ E0.out).trans (stA_get S (k / 4) (by omega))
      have c2 := (cell_of_row wr (w.heap.size + 1 + 1) k _ _ _ E2.out).trans (idA_rest _ k (by simp) (by omega))
      have c3 := frozen_of_row wr (w.heap.size + 1 + 1) k _ _ E2.out
      have HB := Lib.hid (byteOf_eq S k)
      generalize S.list.getD (k / 4) 0 = x at c1 HB
      have hd : (24 - 8 * ((k : Int) % 4)).toNat = 24 - 8 * (k % 4) := by omega
      have hd0 : 0 ≤ 24 - 8 * ((k : Int) % 4) := by omega
      have hk4 : (k : Int) / 4 < 8 := by omega
      have hk5 : ((k : Int) / 4).toNat = k / 4 := by omega
      have hlt' : (k : Int) < 32 := by omega
      go_wp2
      rw [← HB.out]
      refine ⟨⟨k + 1, by omega, by go_num, held_apart E0.out _ _ _ (by omega), held_apart E1.out _ _ _ (by omega), ?_, hbr.setCell (by simp; omega) _⟩, by simp [intOf]; omega⟩
      rw [range_take, ← idA_push _ _ (by simp; omega)]
      have := held_set E2.out k (.int .u8 ((Sh.byteOf S k).toNat : Int))
      simpa [Hid] using this
    · have HT := Lib.hid (show (List.range k).map (Sh.byteOf S) = M by rw [← HM.out, show k = 32 by omega]; rfl)
      have hl : M.length ≤ 32 := by rw [← HT.out]; simp; omega
      rw [HT.out] at E2
      have HI := Lib.hid (idsize hl)
      have H0 := Lib.hid (show (idA []).size = (idA M).size by rw [idA_size M hl]; rfl)
      have hu := Lib.hid Tryd.underlying24
      go_wp2_with (first | (refine wpList_load_row rfl 24 _ rfl (w.heap.size + 1 + 1) rfl _ _ _ _ E2.out hu.out rfl HI.out ?_) | (refine wpList_store_row rfl 24 _ _ rfl (w.heap.size + 1) _ rfl rfl _ _ E1.out HI.out H0.out (idA_one _) ?_))
      refine bodyPost_ret (v := .agg (idA M)) ?_ rfl ⟨rfl, below_setRow hbr (by omega) _⟩
      exact results_cell_row (by rfl) _ _ (w.heap.size + 1) _ _ _ _ (by rfl) (setRow_heap _ _ _ _ _ _ E1.out) hu.out rfl HI.out

end Go.Proofs.YtijlmeodfmanmaaDoor
