/-
  WALKS OF LAYER 1: the rows of the document's examples (knapsacklaw01.knows).
-/
import Derived.Test.YtlfoekifacinpaaWalksD
namespace Go.Proofs.Ytlfoekifacinpaa
open Go.RowKit
set_option linter.unusedVariables false

theorem below_step {w w1 w2 : World} (h1 : Below w.heap.size w w1) (h2 : Below w1.heap.size w1 w2) : Below w.heap.size w w2 := h1.trans (h2.mono h1.size)
theorem below_drawn (w : World) (n : Nat) : Below w.heap.size w (w.drewN n) := below_drewN (Below.refl _ _) n

theorem no_800 : ∀ e, ¬ Vi.Ok [128, 0] e := by
  intro e h
  have h1 := h.lt
  have h2 := h.last
  have h3 := h.least
  have he : e = 0 ∨ e = 1 := by simp at h1; omega
  rcases he with rfl | rfl
  · have h4 : (128 : UInt8).toNat < 128 := h2
    exact absurd h4 (by decide)
  · exact h3 (by decide) rfl

theorem ok_2abc : Vi.Ok [2, 97, 98, 99] 0 := ⟨by decide, by decide, fun j _ hj => absurd hj (by omega), by decide, fun h => absurd h (by decide), fun h => absurd h (by decide)⟩

theorem take_2abc (w : World) : Calls Try.prog 11 #[.string ⟨#[2, 97, 98, 99]⟩] w fun r w' => r = .returned (.tuple #[.string ⟨#[97, 98]⟩, .string ⟨#[99]⟩, .int .i64 0]) ∧ ∃ n, w' = w.drewN n := by
  refine (take_ok ⟨#[2, 97, 98, 99]⟩ w (by decide) 0 ok_2abc (by decide)).mono ?_
  rintro r w' ⟨rfl, h⟩
  exact ⟨ret_tuple3 (val_str (by decide)) (val_str (by decide)) rfl, h⟩

theorem get_800 (w : World) : Calls Try.prog 9 #[.string ⟨#[128, 0]⟩] w fun r w' => r = .returned (.tuple #[.int .u64 0, .string ⟨#[]⟩, .int .i64 2]) ∧ w = w' :=
  get_none ⟨#[128, 0]⟩ w (by decide) no_800

theorem uv300 : Lib.uvarint 300 = [172, 2] := by rw [Lib.uvarint_big (by decide), Lib.uvarint_small (by decide)]; decide
theorem put_300 (w : World) : Calls Try.prog 5 #[.int .u64 300] w fun r w' => r = .returned (.string ⟨#[172, 2]⟩) ∧ Below w.heap.size w w' := by
  refine (put_any 300 w (by decide)).mono ?_
  rintro r w' ⟨rfl, h⟩
  exact ⟨ret_str (by rw [uv300]), h⟩

theorem text_ab (w : World) : Calls Try.prog 7 #[.string ⟨#[97, 98]⟩] w fun r w' => r = .returned (.string ⟨#[2, 97, 98]⟩) ∧ Below w.heap.size w w' := by
  refine (text_any ⟨#[97, 98]⟩ w (by decide)).mono ?_
  rintro r w' ⟨rfl, h⟩
  refine ⟨ret_str ?_, h⟩
  unfold textOf
  rw [show (ByteArray.mk #[97, 98]).size = 2 from rfl, Lib.uvarint_small (by decide)]
  decide

set_option maxHeartbeats 800000 in
set_option maxRecDepth 100000 in
theorem knows_true (w : World) : Calls Try.prog 13 #[] w fun r w' => r = .returned (.bool true) ∧ Below w.heap.size w w' := by
  go_enter Try.func13, Try.ntmps13
  go_wp2_with fail
  refine (get_800 _).mono ?_
  rintro r w1 ⟨rfl, rfl⟩
  go_wp2_with fail
  refine (take_2abc _).mono ?_
  rintro r w1 ⟨rfl, n, rfl⟩
  go_wp2_with fail
  refine (put_300 _).mono ?_
  rintro r w2 ⟨rfl, hb2⟩
  go_wp2_with fail
  refine (text_ab _).mono ?_
  rintro r w3 ⟨rfl, hb3⟩
  go_wp2_with fail
  go_ret
  exact ⟨rfl, below_step (below_step (below_drawn w n) hb2) hb3⟩

end Go.Proofs.Ytlfoekifacinpaa
