/-
  WALKS OF LAYER 2: startState, process, idOf.
-/
import Derived.Test.YtijlmeodfmanmaaDoorWalksC
namespace Go.Proofs.YtijlmeodfmanmaaDoor
open Go.RowKit
set_option linter.unusedVariables false
set_option linter.unusedSimpArgs false
open Sh (Wd)

theorem stA_start : stA Sh.start = #[.int .u32 1779033703, .int .u32 3144134277, .int .u32 1013904242, .int .u32 2773480762, .int .u32 1359893119, .int .u32 2600822924, .int .u32 528734635, .int .u32 1541459225] := by kernel_rfl

set_option maxRecDepth 100000 in
theorem start_any (w : World) : Calls Tryd.prog 17 #[] w fun r w' => r = .returned (.agg (stA Sh.start)) ∧ Below w.heap.size w w' := by
  rw [stA_start]
  go_enter Tryd.func17, Tryd.ntmps17
  go_wp2
  refine bodyPost_ret (v := .agg _) ?_ rfl ⟨rfl, (Below.refl _ _).alloc (Nat.le_refl _) _⟩
  exact results_cell_row (by rfl) _ _ w.heap.size _ _ _ _ (by rfl) (heap_alloc_new _ _) Tryd.underlying40 rfl info40

def strLen : Value → Nat
  | .string r => r.size
  | _ => 0
theorem take_of_extract (r : ByteArray) (n : Nat) : (r.extract 0 n).data.toList = r.data.toList.take n := by simp [ByteArray.data_extract]
theorem drop_of_extract (r : ByteArray) (n : Nat) : (r.extract n r.size).data.toList = r.data.toList.drop n := by
  simp only [ByteArray.data_extract, Array.toList_extract, List.extract_eq_take_drop]
  rw [List.take_of_length_le (by simp)]
theorem len_data (r : ByteArray) : r.data.toList.length = r.size := by simp

set_option maxHeartbeats 800000 in
set_option maxRecDepth 100000 in
theorem process_any (s : Sh.St) (b : ByteArray) (w : World) (hb : b.size ≤ 9223372036854775807) (hk : KIn w) :
    Calls Tryd.prog 16 #[.agg (stA s), .string b] w fun r w' => r = .returned (.agg (stA (Sh.proc (b.size / 64) s b.data.toList))) ∧ Below w.heap.size w w' := by
  have HK := Lib.hid hk
  have hp := hk.pos
  clear hk
  generalize hM : Sh.proc (b.size / 64) s b.data.toList = M
  have HM := Lib.hid hM
  clear hM
  obtain ⟨S, hS⟩ : ∃ S, S = s := ⟨s, rfl⟩
  rw [← hS] at HM
  have HS := Lib.hid hS
  clear hS
  obtain ⟨a0, b0, c0, d0, e0, f0, g0, h0⟩ := s
  unfold stA
  go_enter Tryd.func16, Tryd.ntmps16
  go_wp2
  go_loopw [1] (fun v wr => ∃ (k : Nat) (r : ByteArray) (s : Sh.St), v = .string r ∧ Hid (r.data.toList = b.data.toList.drop (64 * k)) ∧ 64 * k ≤ b.size ∧ Hid (Sh.proc k S b.data.toList = s) ∧ Hid (wr.heap[w.heap.size]? = some (.cells (stA s) 40)) ∧ Hid (wr.heap[w.heap.size + 1]? = some (.cells (Array.replicate 8 (.int .u32 0)) 40)) ∧ Below w.heap.size w wr ∧ w.heap.size + 2 ≤ wr.heap.size) (fun v _ => strLen v)
  case atStart => exact ⟨0, b, S, rfl, by simp [Hid], by omega, rfl, by rw [HS.out]; exact heap_alloc2_old _ _ _, heap_alloc2_new _ _ _, ((Below.refl _ _).alloc (Nat.le_refl _) _).alloc (by simp) _, by simp⟩
  case round =>
    obtain ⟨k, r, s, rfl, HL, hk, HP, E0, E1, hbr, hsz⟩ := hrel
    have hr : r.size = b.size - 64 * k := by rw [← len_data, HL.out, List.length_drop, len_data]
    by_cases hlt : 64 ≤ r.size
    · have HR := Lib.hid hr
      have hr2 : r.size ≤ 9223372036854775807 := by omega
      have hk2 : 64 * (k + 1) ≤ b.size := by omega
      clear hr
      have k0 := cell_of_row wr w.heap.size 0 _ _ _ E0.out
      have k1 := cell_of_row wr w.heap.size 1 _ _ _ E0.out
      have k2 := cell_of_row wr w.heap.size 2 _ _ _ E0.out
      have k3 := cell_of_row wr w.heap.size 3 _ _ _ E0.out
      have k4 := cell_of_row wr w.heap.size 4 _ _ _ E0.out
      have k5 := cell_of_row wr w.heap.size 5 _ _ _ E0.out
      have k6 := cell_of_row wr w.heap.size 6 _ _ _ E0.out
      have k7 := cell_of_row wr w.heap.size 7 _ _ _ E0.out
      simp only [stA, List.getElem?_toArray, List.getElem?_cons_zero, List.getElem?_cons_succ] at k0 k1 k2 k3 k4 k5 k6 k7
      have hlt' : (64 : Int) ≤ (r.size : Int) := by omega
      go_wp2
      refine region_tail 3 (by kernel_rfl) (by kernel_rfl) ?_
      simp only [List.take_succ_cons, List.take_zero, List.drop_succ_cons, List.drop_zero]
      repeat still_step
      refine wpStill_nil ?_
      go_wp2_with fail
      have HKr := HK.out.below hbr hp
      refine (mix_any s (r.extract 0 64) wr.drew (by simp; omega) HKr).mono ?_
      rw [take_of_extract, HL.out]
      have HP2 := Lib.hid (show Sh.proc (k + 1) S b.data.toList = Sh.mix s ((b.data.toList.drop (64 * k)).take 64) by rw [Sh.proc_succ, HP.out])
      generalize Sh.mix s ((b.data.toList.drop (64 * k)).take 64) = s' at HP2 ⊢
      rintro e w3 ⟨rfl, hb3⟩
      have hs3 := hb3.size
      simp only [World.size_drew] at hs3
      have E0' : w3.heap[w.heap.size]? = _ := (hb3.block _ (by simp; omega)).trans E0.out
      have E1' : w3.heap[w.heap.size + 1]? = _ := (hb3.block _ (by simp; omega)).trans E1.out
      have hb4 : Below w.heap.size w w3 := hbr.drew.trans (hb3.mono (by simp; omega))
      have hs4 : w.heap.size + 2 ≤ w3.heap.size := by omega
      simp only [stA]
      clear k0 k1 k2 k3 k4 k5 k6 k7
      have z0 := cell_of_row w3 w.heap.size 0 _ _ _ E0'
      have z1 := cell_of_row w3 w.heap.size 1 _ _ _ E0'
      have z2 := cell_of_row w3 w.heap.size 2 _ _ _ E0'
      have z3 := cell_of_row w3 w.heap.size 3 _ _ _ E0'
      have z4 := cell_of_row w3 w.heap.size 4 _ _ _ E0'
      have z5 := cell_of_row w3 w.heap.size 5 _ _ _ E0'
      have z6 := cell_of_row w3 w.heap.size 6 _ _ _ E0'
      have z7 := cell_of_row w3 w.heap.size 7 _ _ _ E0'
      simp only [stA, List.getElem?_toArray, List.getElem?_cons_zero, List.getElem?_cons_succ] at z0 z1 z2 z3 z4 z5 z6 z7
      have y0 := frozen_of_row w3 w.heap.size 0 _ _ E0'
      have y1 := frozen_of_row w3 w.heap.size 1 _ _ E0'
      have y2 := frozen_of_row w3 w.heap.size 2 _ _ E0'
      have y3 := frozen_of_row w3 w.heap.size 3 _ _ E0'
      have y4 := frozen_of_row w3 w.heap.size 4 _ _ E0'
      have y5 := frozen_of_row w3 w.heap.size 5 _ _ E0'
      have y6 := frozen_of_row w3 w.heap.size 6 _ _ E0'
      have y7 := frozen_of_row w3 w.heap.size 7 _ _ E0'
      have E0 := Lib.hid E0'
      have E1 := Lib.hid E1'
      clear E0' E1' hb3 hs3
      have HR2 := Lib.hid (show (r.extract 64 r.size).data.toList = b.data.toList.drop (64 * (k + 1)) by rw [drop_of_extract, HL.out, List.drop_drop, Nat.mul_succ])
      go_wp2
      go_roundw
      case rel => exact ⟨k + 1, r.extract 64 r.size, s', rfl, HR2, hk2, HP2, set8_held E0.out _ _ _ _ _ _ _ _, set8_apart E1.out (by omega) _ _ _ _ _ _ _ _, set8_below hb4 (Nat.le_refl _) _ _ _ _ _ _ _ _, by simp; omega⟩
      case measure => simp [strLen]; omega
    · have HQ := Lib.hid (show Sh.proc (b.size / 64) S b.data.toList = s by rw [show b.size / 64 = k by omega]; exact HP.out)
      have hm : M = s := HM.out.symm.trans HQ.out
      subst hm
      have k0 := cell_of_row wr w.heap.size 0 _ _ _ E0.out
      have k1 := cell_of_row wr w.heap.size 1 _ _ _ E0.out
      have k2 := cell_of_row wr w.heap.size 2 _ _ _ E0.out
      have k3 := cell_of_row wr w.heap.size 3 _ _ _ E0.out
      have k4 := cell_of_row wr w.heap.size 4 _ _ _ E0.out
      have k5 := cell_of_row wr w.heap.size 5 _ _ _ E0.out
      have k6 := cell_of_row wr w.heap.size 6 _ _ _ E0.out
      have k7 := cell_of_row wr w.heap.size 7 _ _ _ E0.out
      simp only [stA, List.getElem?_toArray, List.getElem?_cons_zero, List.getElem?_cons_succ] at k0 k1 k2 k3 k4 k5 k6 k7
      have z0 := cell_of_row wr (w.heap.size + 1) 0 _ _ _ E1.out
      have z1 := cell_of_row wr (w.heap.size + 1) 1 _ _ _ E1.out
      have z2 := cell_of_row wr (w.heap.size + 1) 2 _ _ _ E1.out
      have z3 := cell_of_row wr (w.heap.size + 1) 3 _ _ _ E1.out
      have z4 := cell_of_row wr (w.heap.size + 1) 4 _ _ _ E1.out
      have z5 := cell_of_row wr (w.heap.size + 1) 5 _ _ _ E1.out
      have z6 := cell_of_row wr (w.heap.size + 1) 6 _ _ _ E1.out
      have z7 := cell_of_row wr (w.heap.size + 1) 7 _ _ _ E1.out
      have y0 := frozen_of_row wr (w.heap.size + 1) 0 _ _ E1.out
      have y1 := frozen_of_row wr (w.heap.size + 1) 1 _ _ E1.out
      have y2 := frozen_of_row wr (w.heap.size + 1) 2 _ _ E1.out
      have y3 := frozen_of_row wr (w.heap.size + 1) 3 _ _ E1.out
      have y4 := frozen_of_row wr (w.heap.size + 1) 4 _ _ E1.out
      have y5 := frozen_of_row wr (w.heap.size + 1) 5 _ _ E1.out
      have y6 := frozen_of_row wr (w.heap.size + 1) 6 _ _ E1.out
      have y7 := frozen_of_row wr (w.heap.size + 1) 7 _ _ E1.out
      go_wp2
      refine bodyPost_ret (v := .agg (stA M)) ?_ rfl ⟨rfl, set8_below hbr (by omega) _ _ _ _ _ _ _ _⟩
      exact results_cell_row (by rfl) _ _ (w.heap.size + 1) _ _ _ _ (by rfl) (set8_held E1.out _ _ _ _ _ _ _ _) Tryd.underlying40 rfl info40

end Go.Proofs.YtijlmeodfmanmaaDoor
