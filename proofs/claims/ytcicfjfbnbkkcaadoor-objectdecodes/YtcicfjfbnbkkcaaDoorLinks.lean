/-
  WALKS OF LAYER 4: Links, of the program.
-/
import Derived.Test.YtcicfjfbnbkkcaaDoorBuilt
namespace Go.Proofs.YtcicfjfbnbkkcaaDoor
open Go.RowKit
set_option linter.unusedVariables false
set_option linter.unusedSimpArgs false

theorem flat_get (ls : List (List UInt8 × Int)) (h : ∀ l ∈ ls, l.1.length = 32) : ∀ (i : Nat) (l : List UInt8 × Int), ls[i]? = some l → ∀ (j : Nat) (x : Value), (lkC l)[j]? = some x → (ls.flatMap lkC)[i * 33 + j]? = some x := by
  induction ls with
  | nil => intro i l hi; simp at hi
  | cons a r ih =>
    intro i l hi j x hx
    have ha := lkC_length a
    rw [h a (by simp)] at ha
    rw [List.flatMap_cons]
    cases i with
    | zero =>
      simp at hi; subst hi
      have hj : j < 33 := by
        have := (List.getElem?_eq_some_iff.1 hx).1; omega
      rw [Nat.zero_mul, Nat.zero_add, List.getElem?_append_left (by omega)]
      exact hx
    | succ i =>
      simp at hi
      rw [List.getElem?_append_right (by omega), show (i + 1) * 33 + j - (lkC a).length = i * 33 + j by omega]
      exact ih (fun l hl => h l (by simp [hl])) i l hi j x hx
section
variable {ops : Array Oper} {rest : List Oper} {op : Oper} {a : Act} {w : World} {Q : Exit → Act → World → Prop} {x y : Operand}
end
theorem take_map_succ {α β : Type} (f : α → β) (l : List α) (k : Nat) (e : α) (h : l[k]? = some e) : (l.take (k + 1)).map f = (l.take k).map f ++ [f e] := by
  obtain ⟨hk, rfl⟩ := List.getElem?_eq_some_iff.1 h
  rw [List.take_succ_eq_append_getElem hk, List.map_append]; rfl
theorem news_row {w : World} {g : Nat} {l : List Value} {t : TypeId} (h : w.heap[g]? = some (.cells l.toArray t)) : ∀ j u, l[j]? = some u → w.cell? ((⟨g, 0, none⟩ : Addr).add j) = some u := fun j u hu => by
  rw [Addr.add_mid, Nat.zero_add, cell_of_row _ _ _ _ t (0, 0) h]
  simpa using hu
theorem heap2 (w : World) (A B : Obj) : ((w.alloc A).alloc B).heap[w.heap.size + 1]? = some B := heap_alloc2_new w A B

/-- What an object leads to. -/
def linksL (o : Ob) : List (List UInt8 × Int) := if o.kind = 2 then o.ents.map (fun e => (e.id, e.kind)) else if o.kind = 3 then (o.tree, 2) :: o.pars.map (fun p => (p, 3)) else if o.kind = 4 then [(o.target, o.of)] else []
end Go.Proofs.YtcicfjfbnbkkcaaDoor
