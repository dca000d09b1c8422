/-
  WALKS OF LAYER 2: Sha256Tells.
-/
import Derived.Test.YtijlmeodfmanmaaDoorWalksK
import Derived.ChangeKeysEq
import Derived.Laws.StructEq
namespace Go.Proofs.YtijlmeodfmanmaaDoor
open Go.RowKit
set_option linter.unusedVariables false
set_option linter.unusedSimpArgs false
open Sh (Wd)

set_option maxRecDepth 100000 in
theorem tells_long (s : ByteArray) (w : World) (hs : s.size ≤ 9223372036854775807) (h : 400 < s.size) (hk : KIn w) :
    Calls Tryd.prog 3 #[.string s] w fun r w' => r = .returned (.bool true) ∧ Below w.heap.size w w' := by
  have HK := Lib.hid hk
  clear hk
  have h' : (400 : Int) < (s.size : Int) := by omega
  go_enter Tryd.func3, Tryd.ntmps3
  go_wp2_with fail
  refine (knows_true _ HK.out).mono ?_
  rintro r w1 ⟨rfl, hb1⟩
  go_wp2_with fail
  go_ret
  exact ⟨rfl, hb1⟩

theorem cells_byte : Tryd.prog.cellsOf 5 = 1 := by kernel_rfl
theorem part_byte (xs : Array Value) (i : Nat) (v : Value) (h : xs[i]? = some v) (w : World) : (part 5 xs (i * 1)).run Tryd.prog w = .ok v w := by
  simp [part, Tryd.isAgg5, h, Result.andThen]
theorem eqItems_same (d : Nat) (xs : Array Value) (w : World) : ∀ is : List Nat, (∀ i ∈ is, ∃ z, xs[i]? = some (.int .u8 z)) → (Op.eqItems (d + 1) 5 1 xs xs is).run Tryd.prog w = .ok true w
  | [], _ => by simp [Op.eqItems]
  | i :: is, h => by
    obtain ⟨z, hz⟩ := h i (by simp)
    have ih := eqItems_same d xs w is (fun j hj => h j (by simp [hj]))
    simp only [Op.eqItems, Sem.run_bind, part_byte xs i _ hz, Result.andThen_ok, run_equalIn_int w d 5 .u8 .u8 z z Tryd.underlying5]
    simpa using ih
/-- An id is itself. -/
theorem eq_same (l : List UInt8) (hl : l.length = 32) (w : World) : (Op.equalIn 10000 24 (.agg (idA l)) (.agg (idA l))).run Tryd.prog w = .ok true w := by
  obtain ⟨i, hi, _⟩ := info_byte
  rw [show (10000 : Nat) = 9998 + 1 + 1 from rfl, run_equalIn_array w (9998 + 1) (idA l) (idA l) Tryd.underlying24 hi, cells_byte]
  exact eqItems_same 9998 (idA l) w (List.range 32) (fun j hj => ⟨_, idA_get l j (by rw [hl]; simpa using hj)⟩)

theorem sum_one (x : ByteArray) (w : World) (hk : KIn w) (hl : x.size ≤ 70368744177664) : Calls Tryd.prog 7 #[.slice (some ⟨w.heap.size, 0, none⟩) 1 1] (w.alloc (.cells #[.string x] 9)) fun r w' => r = .returned (.agg (idA (Sh.idOf (Sh.sha x.data.toList)))) ∧ Below (w.heap.size + 1) (w.alloc (.cells #[.string x] 9)) w' := by
  have h := sum_any [x] w.heap.size 0 1 (w.alloc (.cells #[.string x] 9)) (fun j y hy => by
    match j, hy with
    | 0, hy => simp at hy; subst hy; simp
    | (j + 1), hy => simp at hy) (by simp) (by simp) (by simp) (by rw [flat_one]; simpa using hl) (hk.more _)
  rw [flat_one] at h
  refine h.mono ?_
  rintro r w' ⟨h1, h2⟩
  exact ⟨h1, by simpa using h2⟩

set_option maxHeartbeats 800000 in
set_option maxRecDepth 100000 in
theorem tells_short (s : ByteArray) (w : World) (h : s.size ≤ 400) (hk : KIn w) :
    Calls Tryd.prog 3 #[.string s] w fun r w' => r = .returned (.bool true) ∧ Below w.heap.size w w' := by
  have HK := Lib.hid hk
  clear hk
  have h' : ¬ (400 : Int) < (s.size : Int) := by omega
  have HSum := Lib.hid (fun wz hz => sum_one s wz hz (by omega))
  have HRef := Lib.hid (fun wz => refsum_any s wz (by omega))
  have HQ := Lib.hid (fun wz => eq_same (Sh.idOf (Sh.sha s.data.toList)) (Sh.idOf_length _) wz)
  generalize idA (Sh.idOf (Sh.sha s.data.toList)) = da at HSum HRef HQ
  go_enter Tryd.func3, Tryd.ntmps3
  go_wp2_with fail
  refine (knows_true _ HK.out).mono ?_
  rintro r w1 ⟨rfl, hb1⟩
  have HK1 := Lib.hid (HK.out.step hb1)
  go_wp2_with fail
  refine (HSum.out w1 HK1.out).mono ?_
  rintro r w2 ⟨rfl, hb2⟩
  go_wp2_with fail
  refine (HRef.out _).mono ?_
  rintro r w3 ⟨rfl, hb3⟩
  have hq := HQ.out w3
  go_wp2_with fail
  go_ret
  have h1 := hb1.size
  have h2 : w1.heap.size + 1 ≤ w2.heap.size := by have := hb2.size; simpa using this
  exact ⟨rfl, ((hb1.alloc h1 _).trans (hb2.mono (by omega))).trans (hb3.mono (by omega))⟩

theorem tells_any (s : ByteArray) (w : World) (hs : s.size ≤ 9223372036854775807) (hk : KIn w) :
    Calls Tryd.prog 3 #[.string s] w fun r w' => r = .returned (.bool true) ∧ Below w.heap.size w w' := by
  by_cases h : s.size ≤ 400
  · exact tells_short s w h hk
  · exact tells_long s w hs (by omega) hk

end Go.Proofs.YtijlmeodfmanmaaDoor
