/-
  WALKS OF LAYER 11: Put of an object's encoding.
-/
import Derived.Test.YtipigedopmgemaaDoorStPut
namespace Go.Proofs.YtipigedopmgemaaDoor
open Go.RowKit
set_option linter.unusedVariables false
set_option linter.unusedSimpArgs false

theorem bd_it {ops : Array Oper} {rest : List Oper} {op : Oper} {a : Act} {w : World} {Q : Exit → Act → World → Prop} {x y : Operand} {l : List UInt8} {t : ByteArray} (ho : op.op = .build 70 #[(0, x), (1, y)]) (hx : a.eval x = .agg (idC l).toArray) (hy : a.eval y = .string t) (hg : op.guard = none) (hl : l.length = 32)
    (h : wpList Tryd.prog ops Q rest (a.put op.dst (.agg (itC ⟨l, t⟩).toArray)) w) : wpList Tryd.prog ops Q (op :: rest) a w :=
  wpList_build_as hg _ _ ho _ (by simp only [List.map_toArray, List.map_cons, List.map_nil, hx, hy]; exact built_it l t hl) h
/-- What Put leaves. -/
def PutP (w : World) (base b : Nat) (v : Value) (L : List St.It) (s : ByteArray) (r : Ending) (w' : World) : Prop :=
  r = .returned (.tuple #[.agg (idC (shaI s)).toArray, .int .i64 0]) ∧ ∃ v', PSt w' base b v' (St.put L ⟨shaI s, s⟩) ∧ Kept w w' b v ∧ (v'.ownBlock = v.ownBlock ∨ ∃ g, v'.ownBlock = some g ∧ w.heap.size ≤ g)

end Go.Proofs.YtipigedopmgemaaDoor
