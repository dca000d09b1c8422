/-
  LAYER 4: an object in a box, its fields stored one by one.
-/
import Derived.Test.YtcicfjfbnbkkcaaDoorGuWalks
import Derived.Test.YtcicfjfbnbkkcaaDoorSame
import Derived.Deep.Upon
namespace Go.Proofs.YtcicfjfbnbkkcaaDoor
open Go.RowKit
set_option linter.unusedVariables false
set_option linter.unusedSimpArgs false

/-- An object in the box at block g. -/
def Bx (w : World) (g : Nat) (o : Ob) (ev pv : Value) : Prop := w.heap[g]? = some (.cells (obC o ev pv).toArray 29)

theorem obC_35 (o : Ob) (ev pv : Value) (j : Nat) (v : Value) (ht : o.tree.length = 32) : (obC o ev pv).set (35 + j) v = .int .i64 o.kind :: .string o.data :: ev :: (idC o.tree ++ (pv :: .int .u32 (o.time : Int) :: .string o.text :: (idC o.target ++ [.int .i64 o.of, .string o.name])).set j v) := by
  unfold obC
  rw [show 35 + j = (32 + j) + 1 + 1 + 1 by omega]
  simp only [List.set_cons_succ]
  rw [List.set_append_right _ _ (by rw [idC_length]; omega), idC_length, show 32 + j - o.tree.length = j by omega]
theorem obC_70 (o : Ob) (ev pv : Value) (j : Nat) (v : Value) (ht : o.tree.length = 32) (hg : o.target.length = 32) : (obC o ev pv).set (70 + j) v = .int .i64 o.kind :: .string o.data :: ev :: (idC o.tree ++ (pv :: .int .u32 (o.time : Int) :: .string o.text :: (idC o.target ++ ([.int .i64 o.of, .string o.name] : List Value).set j v))) := by
  rw [show 70 + j = 35 + (35 + j) by omega, obC_35 o ev pv _ v ht, show 35 + j = (32 + j) + 1 + 1 + 1 by omega]
  simp only [List.set_cons_succ]
  rw [List.set_append_right _ _ (by rw [idC_length]; omega), idC_length, show 32 + j - o.target.length = j by omega]

theorem Bx.set {w : World} {g : Nat} {o o' : Ob} {ev pv ev' pv' : Value} (h : Bx w g o ev pv) (i : Nat) (v : Value) (he : (obC o ev pv).set i v = obC o' ev' pv') : Bx (w.setCell ⟨g, i, none⟩ v) g o' ev' pv' := by
  unfold Bx at *
  rw [heap_setCell_same _ _ _ _ _ _ h, List.setIfInBounds_toArray, he]
theorem Bx.data {w : World} {g : Nat} {o : Ob} {ev pv : Value} (h : Bx w g o ev pv) (t : ByteArray) : Bx (w.setCell ⟨g, 1, none⟩ (.string t)) g { o with data := t } ev pv := h.set 1 _ rfl
theorem Bx.ents {w : World} {g : Nat} {o : Ob} {ev pv : Value} (h : Bx w g o ev pv) (v : Value) (es : List En) : Bx (w.setCell ⟨g, 2, none⟩ v) g { o with ents := es } v pv := h.set 2 _ rfl
theorem Bx.pars {w : World} {g : Nat} {o : Ob} {ev pv : Value} (h : Bx w g o ev pv) (v : Value) (ps : List (List UInt8)) (ht : o.tree.length = 32) : Bx (w.setCell ⟨g, 35, none⟩ v) g { o with pars := ps } ev v := h.set 35 _ (obC_35 o ev pv 0 v ht)
theorem Bx.time {w : World} {g : Nat} {o : Ob} {ev pv : Value} (h : Bx w g o ev pv) (n : Nat) (ht : o.tree.length = 32) : Bx (w.setCell ⟨g, 36, none⟩ (.int .u32 (n : Int))) g { o with time := n } ev pv := h.set 36 _ (obC_35 o ev pv 1 _ ht)
theorem Bx.text {w : World} {g : Nat} {o : Ob} {ev pv : Value} (h : Bx w g o ev pv) (t : ByteArray) (ht : o.tree.length = 32) : Bx (w.setCell ⟨g, 37, none⟩ (.string t)) g { o with text := t } ev pv := h.set 37 _ (obC_35 o ev pv 2 _ ht)
theorem Bx.of {w : World} {g : Nat} {o : Ob} {ev pv : Value} (h : Bx w g o ev pv) (k : Int) (ht : o.tree.length = 32) (hg : o.target.length = 32) : Bx (w.setCell ⟨g, 70, none⟩ (.int .i64 k)) g { o with of := k } ev pv := h.set 70 _ (obC_70 o ev pv 0 _ ht hg)
theorem Bx.name {w : World} {g : Nat} {o : Ob} {ev pv : Value} (h : Bx w g o ev pv) (t : ByteArray) (ht : o.tree.length = 32) (hg : o.target.length = 32) : Bx (w.setCell ⟨g, 71, none⟩ (.string t)) g { o with name := t } ev pv := h.set 71 _ (obC_70 o ev pv 1 _ ht hg)

/-- Cells set one by one in a known row. -/
def setAll : List Value → Nat → List Value → List Value
  | cs, _, [] => cs
  | cs, o, v :: r => setAll (cs.set o v) (o + 1) r
theorem heap_setCells_same (g : Nat) (t : TypeId) : ∀ (vs : List Value) (o : Nat) (w : World) (cs : List Value), w.heap[g]? = some (.cells cs.toArray t) → (w.setCells g o vs).heap[g]? = some (.cells (setAll cs o vs).toArray t)
  | [], o, w, cs, h => h
  | v :: r, o, w, cs, h => by
    rw [World.setCells]
    exact heap_setCells_same g t r (o + 1) _ _ (by rw [heap_setCell_same _ _ _ _ _ _ h, List.setIfInBounds_toArray])
theorem setAll_mid : ∀ (vs pre mid post : List Value), vs.length = mid.length → setAll (pre ++ (mid ++ post)) pre.length vs = pre ++ (vs ++ post)
  | [], pre, mid, post, h => by
    obtain rfl := List.eq_nil_of_length_eq_zero h.symm
    rfl
  | v :: r, pre, mid, post, h => by
    cases mid with
    | nil => simp at h
    | cons m ms =>
      have e : (pre ++ (m :: ms ++ post)).set pre.length v = (pre ++ [v]) ++ (ms ++ post) := by
        rw [List.set_append_right _ _ (Nat.le_refl _), Nat.sub_self]; simp
      rw [setAll, e]
      have := setAll_mid r (pre ++ [v]) ms post (by simpa using h)
      rw [List.length_append] at this
      rw [show pre.length + 1 = pre.length + [v].length from rfl, this]
      simp
theorem Bx.tree {w : World} {g : Nat} {o : Ob} {ev pv : Value} (h : Bx w g o ev pv) (l : List UInt8) (hl : l.length = 32) (ht : o.tree.length = 32) : Bx (w.setCells g 3 (idC l)) g { o with tree := l } ev pv := by
  unfold Bx at *
  rw [heap_setCells_same _ _ _ _ _ _ h]
  have := setAll_mid (idC l) [.int .i64 o.kind, .string o.data, ev] (idC o.tree) (pv :: .int .u32 (o.time : Int) :: .string o.text :: (idC o.target ++ [.int .i64 o.of, .string o.name])) (by rw [idC_length, idC_length, hl, ht])
  rw [show setAll (obC o ev pv) 3 (idC l) = obC { o with tree := l } ev pv from this]
theorem Bx.target {w : World} {g : Nat} {o : Ob} {ev pv : Value} (h : Bx w g o ev pv) (l : List UInt8) (hl : l.length = 32) (ht : o.tree.length = 32) (hg : o.target.length = 32) : Bx (w.setCells g 38 (idC l)) g { o with target := l } ev pv := by
  unfold Bx at *
  rw [heap_setCells_same _ _ _ _ _ _ h]
  have e : obC o ev pv = (.int .i64 o.kind :: .string o.data :: ev :: (idC o.tree ++ [pv, .int .u32 (o.time : Int), .string o.text])) ++ (idC o.target ++ [.int .i64 o.of, .string o.name]) := by simp [obC]
  have hlen : (.int .i64 o.kind :: .string o.data :: ev :: (idC o.tree ++ [pv, .int .u32 (o.time : Int), .string o.text]) : List Value).length = 38 := by simp [idC_length, ht]
  have := setAll_mid (idC l) (.int .i64 o.kind :: .string o.data :: ev :: (idC o.tree ++ [pv, .int .u32 (o.time : Int), .string o.text])) (idC o.target) [.int .i64 o.of, .string o.name] (by rw [idC_length, idC_length, hl, hg])
  rw [hlen, ← e] at this
  rw [this]
  congr 3
  simp [obC]

theorem Bx.grown {w w' : World} {g k : Nat} {o : Ob} {ev pv : Value} (h : Bx w g o ev pv) (hg : w.grownBy w' (some k)) (hne : g ≠ k) : Bx w' g o ev pv := held_grown h hg hne
theorem Bx.below {w w' : World} {g : Nat} {o : Ob} {ev pv : Value} (h : Bx w g o ev pv) (hb : Below w.heap.size w w') : Bx w' g o ev pv := (hb.block g (Array.getElem?_eq_some_iff.1 h).1).trans h
theorem Bx.held {w : World} {g : Nat} {o : Ob} {ev pv : Value} (h : Bx w g o ev pv) : w.heap[g]? = some (.cells (obC o ev pv).toArray 29) := h
theorem Bx.F {w : World} {g : Nat} {o : Ob} {ev pv : Value} (h : Bx w g o ev pv) (ht : o.tree.length = 32) (hg : o.target.length = 32) (he : ev.oneCell' = true) (hp : pv.oneCell' = true) : ObF (obC o ev pv).toArray o ev pv := obC_F o ev pv ht hg he hp
theorem Bx.cell {w : World} {g : Nat} {o : Ob} {ev pv : Value} (h : Bx w g o ev pv) (i : Nat) (v : Value) (hv : (obC o ev pv).toArray[i]? = some v) : w.cell? ⟨g, i, none⟩ = some v := by rw [cell_of_row _ _ _ _ _ (0, 0) h]; exact hv
theorem Bx.fr {w : World} {g : Nat} {o : Ob} {ev pv : Value} (h : Bx w g o ev pv) (i : Nat) : w.frozen? ⟨g, i, none⟩ = false := frozen_of_row w g i _ _ h

theorem Bx.there {w : World} {g : Nat} {o : Ob} {ev pv : Value} (h : Bx w g o ev pv) (hs : (obC o ev pv).toArray.size = 72) (i n : Nat) (hn : i + n ≤ 72) : w.there g i n := fun j hj => by
  refine ⟨?_, h.fr _⟩
  rw [cell_of_row _ _ _ _ _ (0, 0) h, Array.getElem?_eq_getElem (by omega)]; rfl
theorem below_setCells {B : Nat} {a : World} {g : Nat} (hg : B ≤ g) : ∀ (vs : List Value) (o : Nat) (w : World), Below B a w → Below B a (w.setCells g o vs)
  | [], o, w, h => h
  | v :: r, o, w, h => below_setCells hg r (o + 1) _ (h.setCell hg v)
theorem size_setCells' (g : Nat) : ∀ (vs : List Value) (o : Nat) (w : World), (w.setCells g o vs).heap.size = w.heap.size
  | [], o, w => rfl
  | v :: r, o, w => by rw [World.setCells, size_setCells' g r (o + 1)]; simp [World.setCell]
theorem held_setCells {w : World} {g k o : Nat} {vs : List Value} {ob : Obj} (h : w.heap[k]? = some ob) (hne : k ≠ g) : (w.setCells g o vs).heap[k]? = some ob :=
  (World.heap_setCells_other w g o vs (Array.getElem?_eq_some_iff.1 h).1 hne).trans h

theorem kindV_list : ∀ (l : List UInt8) (h : 0 < l.length), Rm.kindV l = ((l[0]).toNat : Int)
  | [], h => absurd h (by simp)
  | x :: r, _ => rfl
theorem kindV_at (s : ByteArray) (h : 0 < s.size) : Rm.kindV s.data.toList = (s[0].toNat : Int) := by
  rw [at_list s 0 h]; exact kindV_list _ _

/-- The end of guess: the object that bytes may be the encoding of, in memory. -/
def Gsd (l : List UInt8) (w : World) (r : Ending) (w' : World) : Prop :=
  ∃ (cs : Array Value) (ao bo : Option Addr) (ca cb : Nat), r = .returned (.agg cs) ∧ ObAt w' cs (Rm.guessF l) ao bo ca cb ∧ Below w.heap.size w w' ∧ ∀ a, ao = some a ∨ bo = some a → w.heap.size ≤ a.block

section
variable {ops : Array Oper} {rest : List Oper} {op : Oper} {a : Act} {w : World} {Q : Exit → Act → World → Prop} {x y : Operand}
theorem bd_kd {k : Int} {c : Array Value} (ho : op.op = .build 29 #[(0, x)]) (hx : a.eval x = .int .i64 k) (hg : op.guard = none) (hb : Tryd.prog.built 29 [(0, .int .i64 k)] = some c)
    (h : wpList Tryd.prog ops Q rest (a.put op.dst (.agg c)) w) : wpList Tryd.prog ops Q (op :: rest) a w :=
  wpList_build_as hg _ _ ho _ (by simp only [List.map_toArray, List.map_cons, List.map_nil, hx]; exact hb) h
theorem st_ob2 {g : Nat} {cs c : Array Value} (ho : op.op = .store 29 x y) (hx : a.eval x = .pointer (some ⟨g, 0, none⟩)) (hy : a.eval y = .agg cs) (hg : op.guard = none) (hc : c.size = 72) (hgs : g = w.heap.size) (hs : cs.size = 72) (h1 : cs.all (·.oneCell') = true)
    (h : wpList Tryd.prog ops Q rest (a.put op.dst undef) (w.alloc (.cells cs 29))) : wpList Tryd.prog ops Q (op :: rest) a (w.alloc (.cells c 29)) := by
  subst hgs; exact st_ob ho hx hy hg hc hs h1 h
/-- The whole object out of a block that is known. -/
theorem ld_obr {g : Nat} {cs : Array Value} (ho : op.op = .load 29 x) (hx : a.eval x = .pointer (some ⟨g, 0, none⟩)) (hg : op.guard = none) (hh : w.heap[g]? = some (.cells cs 29)) (hs : cs.size = 72)
    (h : wpList Tryd.prog ops Q rest (a.put op.dst (.agg cs)) w) : wpList Tryd.prog ops Q (op :: rest) a w :=
  wpList_load_row hg 29 x ho g hx _ cs _ _ hh Tryd.underlying29 rfl (obsize hs) h
/-- An id into the middle of a block. -/
theorem st_idmid {g o : Nat} {l : List UInt8} (ho : op.op = .store 25 x y) (hx : a.eval x = .pointer (some ⟨g, o, none⟩)) (hy : a.eval y = .agg (idC l).toArray) (hgd : op.guard = none) (hl : l.length = 32) (ht : w.there g o 32)
    (h : wpList Tryd.prog ops Q rest (a.put op.dst undef) (w.setCells g o (idC l))) : wpList Tryd.prog ops Q (op :: rest) a w :=
  wpList_store_mid hgd 25 x y ho g o (idC l).toArray hx hy (by rw [List.size_toArray, idC_length, hl]; exact ht) (by rw [List.size_toArray]; exact idsize hl) (all_oneCell_toArray (idC_one l)) h
end
set_option maxRecDepth 100000 in
theorem built_kd (k : Int) : Tryd.prog.built 29 [(0, .int .i64 k)] = some (obC { noOb with kind := k } nilV nilV).toArray := by kernel_rfl

end Go.Proofs.YtcicfjfbnbkkcaaDoor
