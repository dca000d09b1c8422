/-
  WALKS OF LAYER 4: whether the fields of other kinds are zero; isKind.
-/
import Derived.Test.YtcicfjfbnbkkcaaDoorEqs
namespace Go.Proofs.YtcicfjfbnbkkcaaDoor
open Go.RowKit
set_option linter.unusedVariables false
set_option linter.unusedSimpArgs false

def blobZ (o : Ob) : Bool := o.data.toList.isEmpty
def treeZ (o : Ob) : Bool := o.ents.isEmpty
def commitZ (o : Ob) : Bool := decide (o.tree = zId) && o.pars.isEmpty && decide (o.time = 0) && o.text.toList.isEmpty
def tagZ (o : Ob) : Bool := decide (o.target = zId) && decide (o.of = 0) && o.name.toList.isEmpty
theorem ret_bool {a b : Bool} (h : a = b) : Ending.returned (.bool a) = .returned (.bool b) := by rw [h]

set_option maxRecDepth 100000 in
theorem blobZ_any (cs : Array Value) (o : Ob) (ev pv : Value) (w : World) (F : ObF cs o ev pv) :
    Calls Tryd.prog 56 #[.agg cs] w fun r w' => r = .returned (.bool (blobZ o)) ∧ Below w.heap.size w w' := by
  have c1 := F.c1
  go_enter Tryd.func56, Tryd.ntmps56
  go_wp2
  go_ret
  exact ⟨rfl, (Below.refl _ _).alloc (Nat.le_refl _) _⟩

set_option maxRecDepth 100000 in
theorem treeZ_any (cs : Array Value) (o : Ob) (ao : Option Addr) (cap : Nat) (pv : Value) (w : World) (F : ObF cs o (.slice ao o.ents.length cap) pv) :
    Calls Tryd.prog 57 #[.agg cs] w fun r w' => r = .returned (.bool (treeZ o)) ∧ Below w.heap.size w w' := by
  have c2 := F.c2
  go_enter Tryd.func57, Tryd.ntmps57
  go_wp2
  go_ret
  refine ⟨ret_bool ?_, (Below.refl _ _).alloc (Nat.le_refl _) _⟩
  unfold treeZ; cases o.ents <;> first | rfl | (simp; done) | (simp; omega)

set_option maxRecDepth 100000 in
theorem commitZ_any (cs : Array Value) (o : Ob) (ev : Value) (ao : Option Addr) (cap : Nat) (w : World) (F : ObF cs o ev (.slice ao o.pars.length cap)) :
    Calls Tryd.prog 58 #[.agg cs] w fun r w' => r = .returned (.bool (commitZ o)) ∧ Below w.heap.size w w' := by
  have c35 := F.c35
  have c36 := F.c36
  have c37 := F.c37
  have HI := Lib.hid (idsize F.trl)
  have hu := Lib.hid Tryd.underlying25
  have hq := fun W => eq_id o.tree zId F.trl rfl W
  have hR := Lib.hid (F.rtr (heap_alloc_last w (.cells cs 29)))
  have HZ := Lib.hid (show commitZ o = (decide (o.tree = zId) && o.pars.isEmpty && decide (o.time = 0) && o.text.toList.isEmpty) from rfl)
  generalize commitZ o = z at HZ
  generalize decide (o.tree = zId) = tz at hq HZ
  go_enter Tryd.func58, Tryd.ntmps58
  go_wp2_with ((with_reducible refine at_wl ?_); first | (refine wpList_load_mid rfl 25 _ rfl w.heap.size 3 rfl _ _ hR.out hu.out rfl HI.out ?_) | (refine wpList_build_as rfl 25 _ rfl (idC zId).toArray (by kernel_rfl) ?_))
  all_goals
    go_ret
    exact ⟨ret_bool (by rw [HZ.out]; simp [*]), (Below.refl _ _).alloc (Nat.le_refl _) _⟩

set_option maxRecDepth 100000 in
theorem tagZ_any (cs : Array Value) (o : Ob) (ev pv : Value) (w : World) (F : ObF cs o ev pv) :
    Calls Tryd.prog 59 #[.agg cs] w fun r w' => r = .returned (.bool (tagZ o)) ∧ Below w.heap.size w w' := by
  have c70 := F.c70
  have c71 := F.c71
  have HI := Lib.hid (idsize F.tal)
  have hu := Lib.hid Tryd.underlying25
  have hq := fun W => eq_id o.target zId F.tal rfl W
  have hR := Lib.hid (F.rta (heap_alloc_last w (.cells cs 29)))
  have HZ := Lib.hid (show tagZ o = (decide (o.target = zId) && decide (o.of = 0) && o.name.toList.isEmpty) from rfl)
  generalize tagZ o = z at HZ
  generalize decide (o.target = zId) = tz at hq HZ
  go_enter Tryd.func59, Tryd.ntmps59
  go_wp2_with ((with_reducible refine at_wl ?_); first | (refine wpList_load_mid rfl 25 _ rfl w.heap.size 38 rfl _ _ hR.out hu.out rfl HI.out ?_) | (refine wpList_build_as rfl 25 _ rfl (idC zId).toArray (by kernel_rfl) ?_))
  all_goals
    go_ret
    exact ⟨ret_bool (by rw [HZ.out]; simp [*]), (Below.refl _ _).alloc (Nat.le_refl _) _⟩

set_option maxRecDepth 100000 in
theorem isKind_any (k : Int) (w : World) :
    Calls Tryd.prog 34 #[.int .i64 k] w fun r w' => r = .returned (.bool (decide (1 ≤ k ∧ k ≤ 4))) ∧ w = w' := by
  go_enter Tryd.func34, Tryd.ntmps34
  go_wp2
  all_goals
    go_ret
    exact ⟨ret_bool (by simp <;> omega), rfl⟩

/-- A call's own box, and all that lay before, stands. -/
structure Kp (w : World) (cs : Array Value) (t : TypeId) (W : World) : Prop where
  below : Below w.heap.size w W
  held : W.heap[w.heap.size]? = some (.cells cs t)
theorem Kp.box (w : World) (cs : Array Value) (t : TypeId) : Kp w cs t (w.alloc (.cells cs t)) := ⟨(Below.refl _ _).alloc (Nat.le_refl _) _, heap_alloc_last w _⟩
theorem Kp.step {w W W' : World} {cs : Array Value} {t : TypeId} (h : Kp w cs t W) (hb : Below W.heap.size W W') : Kp w cs t W' :=
  ⟨h.below.trans (hb.mono h.below.size), (hb.block _ (Array.getElem?_eq_some_iff.1 h.held).1).trans h.held⟩
theorem Kp.drew {w W : World} {cs : Array Value} {t : TypeId} (h : Kp w cs t W) : Kp w cs t W.drew := ⟨h.below.drew, h.held⟩
theorem Kp.cell {w W : World} {cs : Array Value} {t : TypeId} (h : Kp w cs t W) {i : Nat} {v : Value} (hc : cs[i]? = some v) : W.cell? ⟨w.heap.size, i, none⟩ = some v := by
  rw [cell_of_row _ _ _ cs t (0, 0) h.held]; exact hc

/-- The whole object out of its box. -/
theorem load_ob_g {ops : Array Oper} {rest : List Oper} {o : Oper} {a : Act} {w0 w : World} {Q : Exit → Act → World → Prop} {cs : Array Value} {x : Operand} (ho : o.op = .load 29 x)
    (hx : a.eval x = .pointer (some ⟨w0.heap.size, 0, none⟩)) (hw : Region.wanted o (yielded ops a.tmps) = true) (k : Kp w0 cs 29 w) (hs : cs.size = 72)
    (h : wpList Tryd.prog ops Q rest (a.put o.dst (.agg cs)) w) : wpList Tryd.prog ops Q (o :: rest) a w :=
  wpList_load_row_g hw 29 x ho w0.heap.size hx _ cs _ _ k.held Tryd.underlying29 rfl (obsize hs) h
theorem wp_load_ob {o : Oper} {a : Act} {w0 w : World} {K : Act → World → Prop} {Q : Exit → Act → World → Prop} {cs : Array Value} {x : Operand} (ho : o.op = .load 29 x)
    (hx : a.eval x = .pointer (some ⟨w0.heap.size, 0, none⟩)) (k : Kp w0 cs 29 w) (hs : cs.size = 72)
    (h : K (a.put o.dst (.agg cs)) w) : o.wp Tryd.prog a w K Q :=
  wp_load_row 29 x ho w0.heap.size hx _ cs _ _ k.held Tryd.underlying29 rfl (obsize hs) h
theorem load_ob {ops : Array Oper} {rest : List Oper} {o : Oper} {a : Act} {w0 w : World} {Q : Exit → Act → World → Prop} {cs : Array Value} {x : Operand} (hg : o.guard = none) (ho : o.op = .load 29 x)
    (hx : a.eval x = .pointer (some ⟨w0.heap.size, 0, none⟩)) (k : Kp w0 cs 29 w) (hs : cs.size = 72)
    (h : wpList Tryd.prog ops Q rest (a.put o.dst (.agg cs)) w) : wpList Tryd.prog ops Q (o :: rest) a w :=
  wpList_load_row hg 29 x ho w0.heap.size hx _ cs _ _ k.held Tryd.underlying29 rfl (obsize hs) h

def foreignZ (o : Ob) : Bool := (o.kind == 1 || blobZ o) && (o.kind == 2 || treeZ o) && (o.kind == 3 || commitZ o) && (o.kind == 4 || tagZ o)
end Go.Proofs.YtcicfjfbnbkkcaaDoor
