/-
  LAYER 10: slices of words as the program's memory holds them.
-/
import Derived.Test.YtkdljagcdaphdabDoorRows
import Derived.Test.YtkdljagcdaphdabDoorMath
import Derived.WalkKit
import Derived.WalkSpells
import Derived.WalkLawsBesides
import Derived.WalkSmall
import Derived.Lib.Hide
import Derived.Deep.QuietTactic
import Derived.BigQuiet
import Derived.BigRegion
import Derived.IntWalk
import Derived.OwnWalk
import Derived.Laws.Rows
import Derived.Laws.CopyOwn
import Derived.Laws.StructEq
import Derived.Deep.WholeRow
import Derived.Deep.MidRow
import Derived.Deep.Heap
import Derived.Deep.Cut
import Derived.Lib.ConvBytes
import Derived.Deep.RegionWith
import Derived.Deep.RegionHeld3
import Derived.Deep.RegionLaw
import Derived.StillTailTactics
import Derived.Deep.AppendLies
import Derived.Great.Walk
import Derived.Laws.AppendOwnNone
import Derived.ChangeKeysEq
namespace Go.Proofs.YtkdljagcdaphdabDoor
open Go.RowKit
set_option linter.unusedVariables false
set_option linter.unusedSimpArgs false

theorem ret_str {a b : ByteArray} (h : a = b) : Ending.returned (.string a) = .returned (.string b) := by rw [h]
theorem ret_bool {a b : Bool} (h : a = b) : Ending.returned (.bool a) = .returned (.bool b) := by rw [h]
theorem ret_int {k : IntKind} {a b : Int} (h : a = b) : Ending.returned (.int k a) = .returned (.int k b) := by rw [h]
theorem ret_tuple2 {a a' b b' : Value} (h1 : a = a') (h2 : b = b') : Ending.returned (.tuple #[a, b]) = .returned (.tuple #[a', b']) := by rw [h1, h2]
theorem val_str {a b : ByteArray} (h : a = b) : Value.string a = .string b := by rw [h]
theorem val_int {k : IntKind} {a b : Int} (h : a = b) : Value.int k a = .int k b := by rw [h]
theorem below_step {w w1 w2 : World} (h1 : Below w.heap.size w w1) (h2 : Below w1.heap.size w1 w2) : Below w.heap.size w w2 := h1.trans (h2.mono h1.size)
theorem below_new (w : World) (o : Obj) : Below w.heap.size w (w.alloc o) := (Below.refl _ _).alloc (Nat.le_refl _) _
theorem size_list (b : ByteArray) : b.data.toList.length = b.size := rfl
theorem list_ne {x : ByteArray} (h : ¬ x = ByteArray.empty) : x.data.toList ≠ [] := fun e => h (by
  cases x with | mk d => cases d with | mk l => simp at e; subst e; rfl)
theorem size_ne {x : ByteArray} (h : ¬ x = ByteArray.empty) : 0 < x.size := by
  have := list_ne h
  have h2 := size_list x
  have : x.data.toList.length ≠ 0 := fun e => this (List.eq_nil_of_length_eq_zero e)
  omega
theorem not_empty {x : ByteArray} (h : ¬ x = ByteArray.empty) : (!x.toList.isEmpty) = true := by
  have := list_ne h
  rw [ByteArray.toList_eq]
  simpa using this
theorem data_append (a b : ByteArray) : (a ++ b).data.toList = a.data.toList ++ b.data.toList := by rw [ByteArray.data_append]; simp
theorem held_set {wr : World} {g : Nat} {cs : Array Value} {t : TypeId} (h : wr.heap[g]? = some (.cells cs t)) (i : Nat) (v : Value) : (wr.setCell ⟨g, i, none⟩ v).heap[g]? = some (.cells (cs.setIfInBounds i v) t) := heap_setCell_same wr g i cs t v h
theorem getD_byte (b : ByteArray) (j : Nat) (hj : j < b.size) : b.data.toList.getD j 0 = b[j] := by
  rw [List.getD_eq_getElem?_getD, List.getElem?_eq_getElem (by simpa using hj)]; rfl
theorem isEmpty_iff (l : ByteArray) : l.toList.isEmpty = true ↔ l.size = 0 := by
  rw [ByteArray.toList_eq, List.isEmpty_iff, ← size_list]
  constructor
  · intro h; rw [h]; rfl
  · exact List.eq_nil_of_length_eq_zero
theorem add_add_mid (a : Addr) (n k : Nat) (hk : k ≠ 0) : (a.add n).add k = ⟨a.block, a.off + n + k, none⟩ := by
  unfold Addr.add
  rw [if_neg hk]
  split
  · subst_vars; simp
  · rfl
theorem add_off (a : Addr) (n : Nat) : (a.add n).off = a.off + n := by unfold Addr.add; split <;> simp_all
theorem own_below {w w' : World} {B e k n : Nat} {v : Value} {xs : List Value} (h : w.ownsRow B e k v n xs) (hb : Below w.heap.size w w') : w'.ownsRow B e k v n xs := by
  refine ⟨h.1, h.2.imp id ?_⟩
  rintro ⟨g, cap, cur, hv, hg, hh, hrest⟩
  have hlt : g < w.heap.size := (Array.getElem?_eq_some_iff.1 hh).1
  exact ⟨g, cap, cur, hv, hg, (hb.block g hlt).trans hh, hrest⟩
theorem region_tail {P : Program} {id : Nat} {Q : Exit → Act → World → Prop} {a : Act} {w : World} {l : List Oper} (n : Nat) (hm : P.follows .mixedOrders = true) (hB : Region.lexTailB .any l.toArray n = true)
    (h : wpStill P l.toArray w.drew (fun a' => wpList P l.toArray Q (l.drop n) a' w.drew) (l.take n) a) : (Code.region id l.toArray true).wp P Q a w := wp_region_still_tail n hm hB h
theorem region_still {P : Program} {id : Nat} {Q : Exit → Act → World → Prop} {a : Act} {w : World} {l : List Oper} (hm : P.follows .mixedOrders = true) (hB : Region.lexB .any l.toArray = true)
    (h : wpStill P l.toArray w.drew (fun a' => Q .normal a' w.drew) l a) : (Code.region id l.toArray true).wp P Q a w := wp_region_still_lit hm hB h
theorem bel_drewN {B : Nat} {w w' : World} (h : Below B w w') (n : Nat) : Below B w (w'.drewN n) := ⟨h.os, h.tape, h.output, h.size, h.block⟩
theorem add_block (a : Addr) (n : Nat) : (a.add n).block = a.block := by unfold Addr.add; split <;> rfl
theorem below_grown {w w' : World} (h : Below w.heap.size w w') : w.grownBy w' none := ⟨h.os, h.tape, h.output, h.size, fun k hk _ => h.block k hk⟩
/-- A slice of words in memory. -/
structure StrsAt (w : World) (v : Value) (L : List ByteArray) : Prop where
  out : (v = .slice none 0 0 ∧ L = []) ∨ ∃ a cap, v = .slice (some a) L.length cap ∧ L.length ≤ cap ∧ ∀ i s, L[i]? = some s → w.cell? (a.add i) = some (.string s)
theorem StrsAt.form {w : World} {v : Value} {L : List ByteArray} (h : StrsAt w v L) : ∃ ao cap, v = .slice ao L.length cap := by
  rcases h.out with ⟨rfl, rfl⟩ | ⟨a, cap, rfl, _⟩
  · exact ⟨none, 0, rfl⟩
  · exact ⟨some a, cap, rfl⟩
theorem StrsAt.elem {w : World} {ao : Option Addr} {n cap : Nat} {L : List ByteArray} (h : StrsAt w (.slice ao n cap) L) (i : Nat) (s : ByteArray) (hi : L[i]? = some s) : ∃ a, ao = some a ∧ w.cell? (a.add i) = some (.string s) := by
  rcases h.out with ⟨_, rfl⟩ | ⟨a, cap', hv, _, hc⟩
  · simp at hi
  · simp only [Value.slice.injEq] at hv
    exact ⟨a, hv.1, hc i s hi⟩
theorem StrsAt.below {w w' : World} {v : Value} {L : List ByteArray} (h : StrsAt w v L) (hb : Below w.heap.size w w') : StrsAt w' v L := by
  refine ⟨?_⟩
  rcases h.out with h0 | ⟨a, cap, hv, hcap, hc⟩
  · exact .inl h0
  · refine .inr ⟨a, cap, hv, hcap, fun i s hi => ?_⟩
    have h1 := hc i s hi
    rw [hb.cell (World.block_lt_of_cell? w _ h1)]
    exact h1
theorem StrsAt.nil (w : World) : StrsAt w (.slice none 0 0) [] := ⟨.inl ⟨rfl, rfl⟩⟩
theorem StrsAt.drawn {w : World} {v : Value} {L : List ByteArray} (h : StrsAt w v L) (n : Nat) : StrsAt (w.drewN n) v L := h.below (bel_drewN (Below.refl _ _) n)
/-- A slice that is not empty: where it lies. -/
theorem StrsAt.at {w : World} {v : Value} {L : List ByteArray} (h : StrsAt w v L) (h0 : L ≠ []) : ∃ b o cap, v = .slice (some ⟨b, o, none⟩) L.length cap ∧ L.length ≤ cap ∧ b < w.heap.size ∧ ∀ (j : Nat) x, L[j]? = some x → w.cell? ⟨b, o + j, none⟩ = some (.string x) := by
  rcases h.out with ⟨_, e⟩ | ⟨a, cap, hv, hcap, hc⟩
  · exact absurd e h0
  · obtain ⟨s, hs⟩ : ∃ s, L[0]? = some s := ⟨L[0]'(by cases L with | nil => exact absurd rfl h0 | cons x t => simp), List.getElem?_eq_getElem _⟩
    have c0 := hc 0 s hs
    have hsp := World.cell?_spot c0
    have hlt := World.block_lt_of_cell? w _ c0
    obtain ⟨b, o, spot⟩ := a
    have hsp' : spot = none := by simpa [Addr.add] using hsp
    subst hsp'
    refine ⟨b, o, cap, hv, hcap, by simpa [Addr.add] using hlt, fun j x hx => ?_⟩
    have := hc j x hx
    rw [Addr.add_mid] at this
    exact this
/-- A row of words of the call's own. -/
def OwnS (w : World) (B : Nat) (v : Value) (L : List ByteArray) : Prop := w.ownsRow B 9 1 v L.length (L.map Value.string)
theorem OwnS.rows {w : World} {B : Nat} {v : Value} {L : List ByteArray} (h : OwnS w B v L) : StrsAt w v L := by
  refine ⟨?_⟩
  rcases h.2 with ⟨rfl, h0⟩ | ⟨g, cap, cur, rfl, hg, hb, hcap, _⟩
  · exact .inl ⟨rfl, List.eq_nil_of_length_eq_zero h0⟩
  · refine .inr ⟨⟨g, 0, none⟩, cap, rfl, hcap, fun i s hi => ?_⟩
    exact World.ownsRow.cells h (g := g) rfl i _ (by rw [List.getElem?_map, hi]; rfl)
theorem OwnS.below {w w' : World} {B : Nat} {v : Value} {L : List ByteArray} (h : OwnS w B v L) (hb : Below w.heap.size w w') : OwnS w' B v L := own_below h hb
theorem ownS_nil (w : World) (B : Nat) : OwnS w B (.slice none 0 0) [] := World.ownsRow_nil _ _ _ _
theorem infoStr : (Tryd.prog.info? 9).map (fun i => (i.zero, i.size, i.bytes)) = some (some (.string ByteArray.empty), 1, 16) := by kernel_rfl
/-- A row of words made since w. -/
structure Os (w wr : World) (v : Value) (acc : List ByteArray) : Prop where
  own : OwnS wr w.heap.size v acc
  bel : Below w.heap.size w wr
theorem Os.below {w wr w' : World} {v : Value} {acc : List ByteArray} (h : Os w wr v acc) (hb : Below wr.heap.size wr w') : Os w w' v acc := ⟨own_below h.own hb, below_step h.bel hb⟩
theorem one_cell {w : World} {g : Nat} {x : Value} {t : TypeId} (h : w.heap[g]? = some (.cells #[x] t)) : ∀ j u, [x][j]? = some u → w.cell? ((⟨g, 0, none⟩ : Addr).add j) = some u := fun j u hu => by
  rw [Addr.add_mid, Nat.zero_add, cell_of_row _ _ _ _ t (0, 0) h]
  simpa using hu
theorem ap_os {ops : Array Oper} {rest : List Oper} {op : Oper} {a : Act} {Q : Exit → Act → World → Prop} {w wr : World} {v : Value} {acc : List ByteArray} {r : ByteArray} (s x : Operand)
    (ho : op.op = .call { callee := .builtin .append, args := #[s, x], argTypes := #[22, 22] }) (hg : op.guard = none) (hs : a.eval s = v) (hx : a.eval x = .slice (some ⟨wr.heap.size, 0, none⟩) 1 1)
    (h : Os w wr v acc) (hl : acc.length ≤ 1000)
    (hK : ∀ v' w', Hid (Os w w' v' (acc ++ [r])) → wpList Tryd.prog ops Q rest (a.put op.dst v') w') : wpList Tryd.prog ops Q (op :: rest) a (wr.alloc (.cells #[.string r] 9)) := by
  obtain ⟨i0, hi, hz0, hz1, hz2⟩ := info_parts infoStr
  have hlt := h.bel.size
  refine wpList_append_own _ hg s x 22 ho w.heap.size 9 i0 _ 1 16 Tryd.underlying22 hi hz0 hz1 hz2 rfl (by decide) v acc.length (acc.map Value.string) hs (World.ownsRow.alloc h.own _) ⟨wr.heap.size, 0, none⟩ 1 1 [.string r] hx rfl (one_cell (heap_alloc_new _ _)) (by intro u hu; simp at hu; subst hu; rfl) (by unfold maxLen; omega) (by omega) (by simp; omega) ?_
  intro v' w' h1 h2 _
  refine hK v' w' ⟨?_, (h.bel.alloc h.bel.size _).grown h2 (by simp; omega) (fun k hk => (World.ownsRow.lt h.own k hk).1)⟩
  unfold OwnS
  rw [List.map_append, List.length_append]
  exact h1

end Go.Proofs.YtkdljagcdaphdabDoor
