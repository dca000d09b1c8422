/-
  LAYER 4: loads and stores of ids, entries, links and objects, as a walk takes them (under 'with_reducible apply': then 'rfl' for each equation).
-/
import Derived.Test.YtcicfjfbnbkkcaaDoorNames
namespace Go.Proofs.YtcicfjfbnbkkcaaDoor
open Go.RowKit
set_option linter.unusedVariables false
set_option linter.unusedSimpArgs false

theorem ensize {e : En} (h : e.id.length = 32) : (Tryd.prog.info? 52).map (·.size) = some (enC e).length := by rw [enC_length, h]; exact info45
section
variable {ops : Array Oper} {rest : List Oper} {op : Oper} {a : Act} {w : World} {Q : Exit → Act → World → Prop} {K : Act → World → Prop} {x y : Operand} {p : Addr}

/-- An entry, out of wherever. -/
theorem ld_en {e : En} (ho : op.op = .load 52 x) (hx : a.eval x = .pointer (some p)) (hg : op.guard = none) (hc : ∀ j v, (enC e)[j]? = some v → w.cell? (p.add j) = some v) (hid : e.id.length = 32)
    (h : wpList Tryd.prog ops Q rest (a.put op.dst (.agg (enC e).toArray)) w) : wpList Tryd.prog ops Q (op :: rest) a w :=
  wpList_load_at hg 52 x ho p hx _ _ hc under45 rfl (ensize hid) h
/-- An id, out of wherever. -/
theorem ld_id {l : List UInt8} (ho : op.op = .load 25 x) (hx : a.eval x = .pointer (some p)) (hg : op.guard = none) (hc : ∀ j v, (idC l)[j]? = some v → w.cell? (p.add j) = some v) (hl : l.length = 32)
    (h : wpList Tryd.prog ops Q rest (a.put op.dst (.agg (idC l).toArray)) w) : wpList Tryd.prog ops Q (op :: rest) a w :=
  wpList_load_at hg 25 x ho p hx _ _ hc Tryd.underlying25 rfl (idsize hl) h
theorem wp_id {l : List UInt8} (ho : op.op = .load 25 x) (hx : a.eval x = .pointer (some p)) (hc : ∀ j v, (idC l)[j]? = some v → w.cell? (p.add j) = some v) (hl : l.length = 32)
    (h : K (a.put op.dst (.agg (idC l).toArray)) w) : op.wp Tryd.prog a w K Q :=
  wp_load_at 25 x ho p hx _ _ hc Tryd.underlying25 rfl (idsize hl) h
/-- An id, out of the middle of a block. -/
theorem ld_idm {l : List UInt8} {b o : Nat} (ho : op.op = .load 25 x) (hx : a.eval x = .pointer (some ⟨b, o, none⟩)) (hg : op.guard = none) (hc : w.rangeAt b o (idC l)) (hl : l.length = 32)
    (h : wpList Tryd.prog ops Q rest (a.put op.dst (.agg (idC l).toArray)) w) : wpList Tryd.prog ops Q (op :: rest) a w :=
  wpList_load_mid hg 25 x ho b o hx _ _ hc Tryd.underlying25 rfl (idsize hl) h
theorem wp_idm {l : List UInt8} {b o : Nat} (ho : op.op = .load 25 x) (hx : a.eval x = .pointer (some ⟨b, o, none⟩)) (hc : w.rangeAt b o (idC l)) (hl : l.length = 32)
    (h : K (a.put op.dst (.agg (idC l).toArray)) w) : op.wp Tryd.prog a w K Q :=
  wp_load_mid 25 x ho b o hx _ _ hc Tryd.underlying25 rfl (idsize hl) h
/-- A value of several cells into the block that was made last. -/
theorem st_new {t : TypeId} {c cs : Array Value} (n : Nat) (ho : op.op = .store t x y) (hx : a.eval x = .pointer (some ⟨w.heap.size, 0, none⟩)) (hy : a.eval y = .agg cs) (hg : op.guard = none) (hc : c.size = n)
    (hi : (Tryd.prog.info? t).map (·.size) = some n) (hs : cs.size = n) (h1 : cs.all (·.oneCell') = true)
    (h : wpList Tryd.prog ops Q rest (a.put op.dst undef) (w.alloc (.cells cs t))) : wpList Tryd.prog ops Q (op :: rest) a (w.alloc (.cells c t)) := by
  refine wpList_store_row hg t x y ho w.heap.size cs hx hy t c (heap_alloc_last w _) (by rw [hs]; exact hi) (by rw [hc, hs]) h1 ?_
  rw [World.setRow_alloc_new]
  exact h
theorem st_en {e : En} {c : Array Value} (ho : op.op = .store 52 x y) (hx : a.eval x = .pointer (some ⟨w.heap.size, 0, none⟩)) (hy : a.eval y = .agg (enC e).toArray) (hg : op.guard = none) (hc : c.size = 34) (hid : e.id.length = 32)
    (h : wpList Tryd.prog ops Q rest (a.put op.dst undef) (w.alloc (.cells (enC e).toArray 52))) : wpList Tryd.prog ops Q (op :: rest) a (w.alloc (.cells c 52)) :=
  st_new 34 ho hx hy hg hc info45 (by simp [enC_length, hid]) (all_oneCell_toArray (enC_one e)) h
theorem st_id {l : List UInt8} {c : Array Value} (ho : op.op = .store 25 x y) (hx : a.eval x = .pointer (some ⟨w.heap.size, 0, none⟩)) (hy : a.eval y = .agg (idC l).toArray) (hg : op.guard = none) (hc : c.size = 32) (hl : l.length = 32)
    (h : wpList Tryd.prog ops Q rest (a.put op.dst undef) (w.alloc (.cells (idC l).toArray 25))) : wpList Tryd.prog ops Q (op :: rest) a (w.alloc (.cells c 25)) :=
  st_new 32 ho hx hy hg hc info24 (by simp [idC_length, hl]) (all_oneCell_toArray (idC_one l)) h
theorem st_ob {cs c : Array Value} (ho : op.op = .store 29 x y) (hx : a.eval x = .pointer (some ⟨w.heap.size, 0, none⟩)) (hy : a.eval y = .agg cs) (hg : op.guard = none) (hc : c.size = 72) (hs : cs.size = 72) (h1 : cs.all (·.oneCell') = true)
    (h : wpList Tryd.prog ops Q rest (a.put op.dst undef) (w.alloc (.cells cs 29))) : wpList Tryd.prog ops Q (op :: rest) a (w.alloc (.cells c 29)) :=
  st_new 72 ho hx hy hg hc info28 hs h1 h
end

theorem ent_cells {w : World} {ao : Option Addr} {n cap : Nat} {es : List En} (h : RowsAt w (.slice ao n cap) 34 (es.map enC)) (i : Nat) (e : En) (hi : es[i]? = some e) :
    ∃ a, ao = some a ∧ ∀ j x, (enC e)[j]? = some x → w.cell? ((a.add (i * 34)).add j) = some x := by
  obtain ⟨a, h1, _, h3⟩ := h.elem i (enC e) (by simp [hi])
  exact ⟨a, h1, h3⟩
theorem par_cells {w : World} {ao : Option Addr} {n cap : Nat} {ps : List (List UInt8)} (h : RowsAt w (.slice ao n cap) 32 (ps.map idC)) (i : Nat) (l : List UInt8) (hi : ps[i]? = some l) :
    ∃ a, ao = some a ∧ ∀ j x, (idC l)[j]? = some x → w.cell? ((a.add (i * 32)).add j) = some x := by
  obtain ⟨a, h1, _, h3⟩ := h.elem i (idC l) (by simp [hi])
  exact ⟨a, h1, h3⟩
theorem en_rid {e : En} {w : World} {g : Nat} {t : TypeId} (h : w.heap[g]? = some (.cells (enC e).toArray t)) : w.rangeAt g 2 (idC e.id) := fun j v hv => by
  rw [cell_of_row _ _ _ _ t (0, 0) h]
  simp only [enC, List.getElem?_toArray]
  rw [show 2 + j = j + 1 + 1 by omega, List.getElem?_cons_succ, List.getElem?_cons_succ]
  exact hv
theorem id_rid {l : List UInt8} {w : World} {g : Nat} {t : TypeId} (h : w.heap[g]? = some (.cells (idC l).toArray t)) : w.rangeAt g 0 (idC l) := fun j v hv => by
  rw [cell_of_row _ _ _ _ t (0, 0) h]
  simpa using hv
/-- An id in the middle of a block, as a string. -/
theorem conv_idm (w : World) (b o : Nat) (l : List UInt8) (h : l.length = 32) (hc : w.rangeAt b o (idC l)) :
    (convert 55 9 (.slice (some ⟨b, o, none⟩) 32 32)).run Tryd.prog w = .ok (.string ⟨l.toArray⟩) w :=
  conv_id w ⟨b, o, none⟩ l h (fun j v hv => by rw [Addr.add_mid]; exact hc j v hv)

end Go.Proofs.YtcicfjfbnbkkcaaDoor
