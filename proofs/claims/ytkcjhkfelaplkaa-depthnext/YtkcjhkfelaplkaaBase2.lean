/-
  WHAT ELSE THE WALKS STAND ON.
-/
import Derived.Test.YtkcjhkfelaplkaaBase
set_option linter.unusedVariables false
set_option linter.unusedSimpArgs false
section
namespace Go.Proofs.Ytkcjhkfelaplkaa
open Go.RowKit
theorem zero24 : (Try.prog.info? 28).map (fun i => (i.zero, i.size)) = some (some (.agg (idC zId).toArray), 32) := by kernel_rfl

end Go.Proofs.Ytkcjhkfelaplkaa
end

section
namespace Go.Proofs.Ytkcjhkfelaplkaa
open Go.RowKit
theorem built_zid : Try.prog.built 28 [] = some (idC zId).toArray := by kernel_rfl
end Go.Proofs.Ytkcjhkfelaplkaa
end

section
namespace Go.Proofs.Ytkcjhkfelaplkaa
open Go.RowKit
theorem bd_zid {ops : Array Oper} {rest : List Oper} {op : Oper} {a : Act} {w : World} {Q : Exit → Act → World → Prop} (ho : op.op = .build 28 #[]) (hg : op.guard = none)
    (h : wpList Try.prog ops Q rest (a.put op.dst (.agg (idC zId).toArray)) w) : wpList Try.prog ops Q (op :: rest) a w :=
  wpList_build_as hg _ _ ho _ (by simpa using built_zid) h
end Go.Proofs.Ytkcjhkfelaplkaa
end

section
namespace Go.Proofs.Ytkcjhkfelaplkaa
open Go.RowKit
theorem st_idg {ops : Array Oper} {rest : List Oper} {op : Oper} {a : Act} {w : World} {Q : Exit → Act → World → Prop} {x y : Operand} {g : Nat} {l : List UInt8} {c : Array Value} (ho : op.op = .store 28 x y) (hx : a.eval x = .pointer (some ⟨g, 0, none⟩)) (hy : a.eval y = .agg (idC l).toArray) (hg : op.guard = none) (he : w.heap[g]? = some (.cells c 28)) (hc : c.size = 32) (hl : l.length = 32)
    (h : wpList Try.prog ops Q rest (a.put op.dst undef) (w.setRow g (idC l).toArray)) : wpList Try.prog ops Q (op :: rest) a w :=
  wpList_store_row hg 28 x y ho g _ hx hy 28 c he (idsize hl) (by simp [hc, idC_length, hl]) (all_oneCell_toArray (idC_one l)) h

end Go.Proofs.Ytkcjhkfelaplkaa
end
