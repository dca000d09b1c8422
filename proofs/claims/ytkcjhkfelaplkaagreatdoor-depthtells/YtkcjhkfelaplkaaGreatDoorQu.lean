/-
  WALKS OF LAYER 12: the program's Reach.
-/
import Derived.Test.YtkcjhkfelaplkaaGreatDoorQt
import Derived.Test.YtkcjhkfelaplkaaGreatDoorQa
set_option linter.unusedVariables false
set_option linter.unusedSimpArgs false
set_option maxHeartbeats 8000000
set_option maxRecDepth 100000
namespace Go.Proofs.YtkcjhkfelaplkaaGreatDoor
open Go.RowKit
theorem Gr.dec_few {l : List UInt8} {o : Ob} (h : Rm.dec l = some o) : o.ents.length ≤ 64 ∧ o.pars.length ≤ 8 := by
 obtain ⟨hv, _⟩ := Rm.dec_inv h
 unfold validB at hv
 rw [Bool.and_eq_true] at hv
 obtain ⟨hf, hk⟩ := hv
 unfold foreignZ at hf
 simp only [Bool.and_eq_true, Bool.or_eq_true, beq_iff_eq] at hf
 obtain ⟨⟨⟨h1, h2⟩, h3⟩, h4⟩ := hf
 constructor
 ·
  rcases h2 with h2 | h2
  ·
   rw [h2, if_neg (by decide), if_pos rfl, Bool.and_eq_true, decide_eq_true_eq] at hk
   exact hk.1
  ·
   unfold treeZ at h2
   have : o.ents.length = 0 := by simpa using h2
   omega
 ·
  rcases h3 with h3 | h3
  ·
   rw [h3, if_neg (by decide), if_neg (by decide), if_pos rfl, decide_eq_true_eq] at hk
   exact hk
  ·
   unfold commitZ at h3
   simp only [Bool.and_eq_true, beq_iff_eq, decide_eq_true_eq] at h3
   have : o.pars.length = 0 := by simp_all
   omega
theorem take_id {F : List (List UInt8)} {k : Nat} {x : List UInt8} (h : F[k]? = some x) : F.take (k + 1) = F.take k ++ [x] := by
 obtain ⟨hk, rfl⟩ := List.getElem?_eq_some_iff.1 h
 exact List.take_succ_eq_append_getElem hk
structure Wt (w wr : World) (B sb sn cb cn : Nat) (tv mv wv : Value) (T M W S SC : List (List UInt8)) (lb : Nat) (lv : Value) (ls : List (List UInt8 × Int)) : Prop where
 r : Rs w wr B sb sn cb cn tv mv wv T M W S SC
 l : OwnL wr lb lv ls
 far : ∀ g, wv.ownBlock = some g → lv.ownBlock ≠ some g
end Go.Proofs.YtkcjhkfelaplkaaGreatDoor
