/-
  WALKS OF LAYER 11: knows.
-/
import Derived.Test.YtipigedopmgemaaDoorStGrow
import Derived.Test.YtipigedopmgemaaDoorStAs
namespace Go.Proofs.YtipigedopmgemaaDoor
open Go.RowKit
set_option linter.unusedVariables false
set_option linter.unusedSimpArgs false

theorem hi_dec : Rm.dec (ByteArray.mk #[1, 2, 104, 105]).data.toList = some hiOb := by
  have hv : validB hiOb = true := by
    have h := hi_ok
    unfold encOk at h
    rw [Bool.and_eq_true] at h
    exact h.1
  have h := Rm.dec_fwd (o := hiOb) hv (fit_of hv (by decide) (by decide) (by decide)) (by intro e h; cases h) (by intro e h; cases h) rfl rfl (by decide) (by rw [hi_enc]; decide)
  rw [hi_enc] at h
  exact h
theorem x_dec : Rm.dec (ByteArray.mk #[120]).data.toList = none := by
  cases h : Rm.dec (ByteArray.mk #[120]).data.toList with
  | none => rfl
  | some o =>
    obtain ⟨_, h1, h2, h3⟩ := Rm.dec_head h
    have h1' : (120 : Nat) = o.kind.toNat := h1
    omega

end Go.Proofs.YtipigedopmgemaaDoor
