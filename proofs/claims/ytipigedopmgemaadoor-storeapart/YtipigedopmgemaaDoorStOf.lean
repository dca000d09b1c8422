/-
  WALKS OF LAYER 11: Of (a program's store of the document's).
-/
import Derived.Test.YtipigedopmgemaaDoorStDoc2
namespace Go.Proofs.YtipigedopmgemaaDoor
open Go.RowKit
set_option linter.unusedVariables false
set_option linter.unusedSimpArgs false

theorem still_idw {ops : Array Oper} {w : World} {Q : Act → Prop} {a : Act} {o : Oper} {rest : List Oper} {l : List UInt8} {x : Operand} {p : Addr} (ho : o.op = .load 35 x) (hx : a.eval x = .pointer (some p)) (hw : Region.wanted o (yielded ops a.tmps) = true)
    (hc : ∀ j v, (idC l)[j]? = some v → w.cell? (p.add j) = some v) (hl : l.length = 32)
    (h : wpStill Tryd.prog ops w Q rest (a.put o.dst (.agg (idC l).toArray))) : wpStill Tryd.prog ops w Q (o :: rest) a := by
  refine wpStill_step fun K hK => ?_
  rw [if_pos hw]
  unfold Oper.still execOp
  simp only [ho, hx, Instr.loadAt, Instr.sureAddr, Sem.run_bind, Sem.run_pure, Result.andThen_ok, run_loadVar_at w p 35 (idC l) _ hc Tryd.underlying35 rfl (idsize hl)]
  exact ⟨rfl, hK _ h⟩
/-- An item of the document's store: where its id and its text lie, and what they are. -/
theorem DSt.outd {w : World} {ao : Option Addr} {n cap : Nat} {L : List St.It} (h : DSt w (.slice ao n cap) L) (i : Nat) (x : St.It) (hi : L[i]? = some x) :
    ∃ o, Rm.dec x.text.data.toList = some o ∧ shaI x.text = x.id := by
  obtain ⟨a, c, e, hd, hc⟩ := h.elem i x hi
  obtain ⟨o, cs, _, _, _, _, h1, h2⟩ := hd
  exact ⟨o, h1, h2⟩
end Go.Proofs.YtipigedopmgemaaDoor
