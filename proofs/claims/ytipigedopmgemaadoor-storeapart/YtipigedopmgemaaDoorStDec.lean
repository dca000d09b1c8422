/-
  THE MATHEMATICS OF LAYER 11: what is decoded has ids of 32 bytes, and its bytes begin with its kind.
-/
import Derived.Test.YtipigedopmgemaaDoorStMath
import Derived.Test.YtipigedopmgemaaDoorLd
namespace Go.Proofs.YtipigedopmgemaaDoor
open Go.RowKit
set_option linter.unusedVariables false
set_option linter.unusedSimpArgs false
namespace Rm

theorem treeF_ids : ∀ (k : Nat) (b : Bool) (l : List UInt8) (acc : List En), (∀ e ∈ acc, e.id.length = 32) → ∀ e ∈ (treeF k b l acc).1, e.id.length = 32
  | 0, b, l, acc, h => h
  | k + 1, b, l, acc, h => by
    unfold treeF
    split
    · exact h
    · refine treeF_ids k _ _ _ (fun e he => ?_)
      rcases List.mem_append.1 he with h1 | h1
      · exact h e h1
      · rw [List.mem_singleton.1 h1]; exact idV_len _
theorem parsF_ids : ∀ (k : Nat) (b : Bool) (l : List UInt8) (acc : List (List UInt8)), (∀ p ∈ acc, p.length = 32) → ∀ p ∈ (parsF k b l acc).1, p.length = 32
  | 0, b, l, acc, h => h
  | k + 1, b, l, acc, h => by
    unfold parsF
    refine parsF_ids k _ _ _ (fun e he => ?_)
    rcases List.mem_append.1 he with h1 | h1
    · exact h e h1
    · rw [List.mem_singleton.1 h1]; exact idV_len _
theorem numV_le (m : Nat) (l : List UInt8) : numV m l ≤ m := by
  unfold numV
  split
  · omega
  · split <;> omega
/-- An object whose ids are ids, and whose time fits. -/
structure Ids (o : Ob) : Prop where
  e : ∀ e ∈ o.ents, e.id.length = 32
  p : ∀ p ∈ o.pars, p.length = 32
  tr : o.tree.length = 32
  ta : o.target.length = 32
  ti : o.time < 4294967296
theorem body_ids (k : Int) (t : List UInt8) : Ids (bodyF k t).1 := by
  unfold bodyF
  split
  · exact ⟨(fun e h => by cases h), (fun e h => by cases h), rfl, rfl, (show (0 : Nat) < 4294967296 by decide)⟩
  · split
    · exact ⟨treeF_ids _ _ _ _ (fun e h => by cases h), (fun e h => by cases h), rfl, rfl, (show (0 : Nat) < 4294967296 by decide)⟩
    · split
      · refine ⟨(fun e h => by cases h), parsF_ids _ _ _ _ (fun e h => by cases h), idV_len _, rfl, ?_⟩
        have := numV_le maxT (cmP t).2.1
        show cmT t < _
        unfold cmT
        unfold maxT at *
        omega
      · exact ⟨(fun e h => by cases h), (fun e h => by cases h), rfl, idV_len _, (show (0 : Nat) < 4294967296 by decide)⟩
theorem dec_ids {l : List UInt8} {o : Ob} (h : dec l = some o) : Ids o := by
  obtain ⟨_, _, _, _, _, e⟩ := dec_inv h
  rw [e]; exact body_ids _ _
/-- The first byte is the kind. -/
theorem dec_head {s : ByteArray} {o : Ob} (h : dec s.data.toList = some o) : 0 < s.size ∧ (s.data.toList.getD 0 0).toNat = o.kind.toNat ∧ 1 ≤ o.kind ∧ o.kind ≤ 4 := by
  obtain ⟨hv, he, hl, ha, _, _⟩ := dec_inv h
  have h1 : (encS o).data.toList = byteK o.kind :: (textOf ⟨(bodyL o).toArray⟩).data.toList := by
    unfold encS
    rw [ByteArray.data_append, Array.toList_append]; rfl
  have hk : 1 ≤ o.kind ∧ o.kind ≤ 4 := by
    unfold validB at hv
    simp only [Bool.and_eq_true] at hv
    have hz := hv.2
    by_cases e1 : o.kind = 1
    · omega
    by_cases e2 : o.kind = 2
    · omega
    by_cases e3 : o.kind = 3
    · omega
    by_cases e4 : o.kind = 4
    · omega
    · rw [if_neg e1, if_neg e2, if_neg e3, if_neg e4] at hz; cases hz
  rw [he] at h1
  have hs : s.data.toList.length = s.size := rfl
  refine ⟨by rw [← hs, h1]; simp, ?_, hk⟩
  rw [h1]
  have := byteK_nat (k := o.kind) (by omega) (by omega)
  simp only [List.getD_cons_zero]
  omega
end Rm
end Go.Proofs.YtipigedopmgemaaDoor
