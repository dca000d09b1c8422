/-
  WALKS OF LAYER 12: the document's Walk.
-/
import Derived.Test.YtfckfjndnhjpoaaGreatDoorRm
import Derived.Test.YtfckfjndnhjpoaaGreatDoorQt
import Derived.Test.YtfckfjndnhjpoaaGreatDoorQu
import Derived.Test.YtfckfjndnhjpoaaGreatDoorQw
import Derived.Test.YtfckfjndnhjpoaaGreatDoorQa
set_option linter.unusedVariables false
set_option linter.unusedSimpArgs false
set_option maxHeartbeats 8000000
set_option maxRecDepth 100000
section
namespace Go.Proofs.YtfckfjndnhjpoaaGreatDoor
open Go.RowKit
theorem stillg_id {ops : Array Oper} {w : World} {Q : Act → Prop} {a : Act} {o : Oper} {rest : List Oper} {l : List UInt8} {x : Operand} {p : Addr} (hw : Region.wanted o (yielded ops a.tmps) = true) (ho : o.op = .load 42 x) (hx : a.eval x = .pointer (some p))
  (hc : ∀ j v, (idC l)[j]? = some v → w.cell? (p.add j) = some v) (hl : l.length = 32)
  (h : wpStill Tryz.prog ops w Q rest (a.put o.dst (.agg (idC l).toArray))) : wpStill Tryz.prog ops w Q (o :: rest) a := by
 refine wpStill_step fun K hK => ?_
 rw [if_pos hw]
 unfold Oper.still execOp
 simp only [ho, hx, Instr.loadAt, Instr.sureAddr, Sem.run_bind, Sem.run_pure, Result.andThen_ok, run_loadVar_at w p 42 (idC l) _ hc Tryz.underlying42 rfl (idsize hl)]
 exact ⟨rfl, hK _ h⟩
def Bst (L : List St.It) (S O : List (List UInt8)) (n : Nat) (bv : Value) : Prop :=
 (bv = .int .i64 (-1) ∧ ∀ y ∈ S.take n, y ∈ O) ∨ ∃ (b : Nat) (x : List UInt8), bv = .int .i64 b ∧ b < n ∧ S[b]? = some x ∧ x ∉ O ∧ ∀ y ∈ S.take n, y ∉ O → y ≠ x → Gr.ah L x y = true
theorem Bst.first {L : List St.It} {S O : List (List UInt8)} {n : Nat} {y : List UInt8} (h : ∀ y ∈ S.take n, y ∈ O) (hy : S[n]? = some y) (hm : y ∉ O) : Bst L S O (n + 1) (.int .i64 n) :=
 .inr ⟨n, y, rfl, by omega, hy, hm, fun z hz hn hx => by
  rw [take_id hy, List.mem_append, List.mem_singleton] at hz
  rcases hz with e | e
  · exact absurd (h z e) hn
  · exact absurd e hx⟩
structure Sw (w w1 wr : World) (sv ov : Value) (L : List St.It) (S O : List (List UInt8)) : Prop where
 s : OwnI wr w1.heap.size sv S
 o : OwnI wr w1.heap.size ov O
 ap : Ap sv ov
 sn : S.Nodup
 sc : ∀ x ∈ S, Gr.cm L x = true
 on : O.Nodup
 os : ∀ x ∈ O, x ∈ S
 b : Below w1.heap.size w1 wr
end Go.Proofs.YtfckfjndnhjpoaaGreatDoor
end
section
namespace Go.Proofs.YtfckfjndnhjpoaaGreatDoor
open Go.RowKit
theorem stillg_skip {ops : Array Oper} {w : World} {Q : Act → Prop} {a : Act} {o : Oper} {rest : List Oper} (hw : Region.wanted o (yielded ops a.tmps) = false) (h : wpStill Tryz.prog ops w Q rest (a.put o.dst undef)) : wpStill Tryz.prog ops w Q (o :: rest) a := by
 refine wpStill_step fun K hK => ?_
 rw [if_neg (by simp [hw])]
 exact hK _ h
theorem stillg_take {ops : Array Oper} {w : World} {Q : Act → Prop} {a : Act} {o : Oper} {rest : List Oper} (hw : Region.wanted o (yielded ops a.tmps) = true) (h : ∀ K : Act → Prop, (∀ a, wpStill Tryz.prog ops w Q rest a → K a) → o.still Tryz.prog a w K) : wpStill Tryz.prog ops w Q (o :: rest) a := by
 refine wpStill_step fun K hK => ?_
 rw [if_pos hw]
 exact h K hK
namespace R
end R
end Go.Proofs.YtfckfjndnhjpoaaGreatDoor
end
