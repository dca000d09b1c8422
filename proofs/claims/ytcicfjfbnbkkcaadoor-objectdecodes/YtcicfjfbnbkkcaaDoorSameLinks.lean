/-
  WALKS OF LAYER 4: SameLinks (knapsackref04), of two rows that hold the same.
-/
import Derived.Test.YtcicfjfbnbkkcaaDoorLinks
namespace Go.Proofs.YtcicfjfbnbkkcaaDoor
open Go.RowKit
set_option linter.unusedVariables false
set_option linter.unusedSimpArgs false

theorem still_of {P : Program} {f : FuncId} {args : Array Value} {w : World} {v : Value} (h : Calls P f args w fun e w' => e = .returned v ∧ w = w') : Calls P f args w fun e w' => e = .returned v ∧ w' = w := h.mono fun _ _ ⟨h1, h2⟩ => ⟨h1, h2.symm⟩
theorem region_still {P : Program} {id : Nat} {Q : Exit → Act → World → Prop} {a : Act} {w : World} {l : List Oper} (hm : P.follows .mixedOrders = true) (hB : Region.lexB .any l.toArray = true)
    (h : wpStill P l.toArray w.drew (fun a' => Q .normal a' w.drew) l a) : (Code.region id l.toArray true).wp P Q a w := wp_region_still_lit hm hB h
/-- A link out of wherever, in a region that only reads. -/
theorem still_ld {ops : Array Oper} {w : World} {Q : Act → Prop} {a : Act} {o : Oper} {rest : List Oper} {cs : List Value} {ty : TypeId} {x : Operand} {p : Addr} {d : TypeDesc} (ho : o.op = .load ty x) (hx : a.eval x = .pointer (some p)) (hg : o.guard = none)
    (hc : ∀ j v, cs[j]? = some v → w.cell? (p.add j) = some v) (hu : Tryd.prog.underlying ty = some d) (hd : d.isRow = true) (hi : (Tryd.prog.info? ty).map (·.size) = some cs.length)
    (h : wpStill Tryd.prog ops w Q rest (a.put o.dst (.agg cs.toArray))) : wpStill Tryd.prog ops w Q (o :: rest) a := by
  refine wpStill_step fun K hK => ?_
  rw [if_pos (by simp [Region.wanted, hg])]
  unfold Oper.still execOp
  simp only [ho, hx, Instr.loadAt, Instr.sureAddr, Sem.run_bind, Sem.run_pure, Result.andThen_ok, run_loadVar_at w p ty cs d hc hu hd hi]
  exact ⟨rfl, hK _ h⟩

theorem lk_cells {w : World} {ao : Option Addr} {n cap : Nat} {ls : List (List UInt8 × Int)} (h : RowsAt w (.slice ao n cap) 33 (ls.map lkC)) (i : Nat) (l : List UInt8 × Int) (hi : ls[i]? = some l) :
    ∃ a, ao = some a ∧ ∀ j x, (lkC l)[j]? = some x → w.cell? ((a.add (i * 33)).add j) = some x := by
  obtain ⟨a, h1, _, h3⟩ := h.elem i (lkC l) (by simp [hi])
  exact ⟨a, h1, h3⟩

end Go.Proofs.YtcicfjfbnbkkcaaDoor
