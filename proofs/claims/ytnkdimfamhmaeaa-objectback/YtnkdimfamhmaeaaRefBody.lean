/-
  WALKS OF LAYER 4: the document's own body (knapsackref04.body).
-/
import Derived.Test.YtnkdimfamhmaeaaEncode2
namespace Go.Proofs.Ytnkdimfamhmaeaa
open Go.RowKit
set_option linter.unusedVariables false
set_option linter.unusedSimpArgs false

theorem add_add_mid (a : Addr) (n k : Nat) (hk : k ≠ 0) : (a.add n).add k = ⟨a.block, a.off + n + k, none⟩ := by
  unfold Addr.add
  rw [if_neg hk]
  split
  · subst_vars; simp
  · rfl
theorem en_range {w : World} {a : Addr} {n : Nat} {e : En} (hc : ∀ j x, (enC e)[j]? = some x → w.cell? ((a.add n).add j) = some x) : w.rangeAt a.block (a.off + n + 2) (idC e.id) := fun j v hv => by
  have h := hc (j + 2) v (by simpa [enC] using hv)
  rw [add_add_mid a n (j + 2) (by omega)] at h
  rw [show a.off + n + 2 + j = a.off + n + (j + 2) by omega]
  exact h

end Go.Proofs.Ytnkdimfamhmaeaa
