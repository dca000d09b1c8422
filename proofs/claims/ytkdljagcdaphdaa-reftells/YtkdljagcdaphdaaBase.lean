/-
  LAYER 9: ids, refs and updates as the program's memory holds them; slices of them; '==', loads and stores.
-/
import Derived.Test.YtkdljagcdaphdaaRows
import Derived.Test.YtkdljagcdaphdaaMath
import Derived.WalkKit
import Derived.WalkSpells
import Derived.WalkLawsBesides
import Derived.WalkSmall
import Derived.Lib.Hide
import Derived.Deep.QuietTactic
import Derived.BigQuiet
import Derived.BigRegion
import Derived.IntWalk
import Derived.OwnWalk
import Derived.Laws.Rows
import Derived.Laws.CopyOwn
import Derived.Laws.StructEq
import Derived.Deep.WholeRow
import Derived.Deep.MidRow
import Derived.Deep.Heap
import Derived.Deep.Cut
import Derived.Lib.ConvBytes
import Derived.Deep.RegionWith
import Derived.Deep.RegionHeld3
import Derived.Deep.RegionLaw
import Derived.StillTailTactics
import Derived.Deep.AppendLies
import Derived.ChangeKeysEq
namespace Go.Proofs.Ytkdljagcdaphdaa
open Go.RowKit
set_option linter.unusedVariables false
set_option linter.unusedSimpArgs false

theorem ret_str {a b : ByteArray} (h : a = b) : Ending.returned (.string a) = .returned (.string b) := by rw [h]
theorem ret_bool {a b : Bool} (h : a = b) : Ending.returned (.bool a) = .returned (.bool b) := by rw [h]
theorem ret_int {k : IntKind} {a b : Int} (h : a = b) : Ending.returned (.int k a) = .returned (.int k b) := by rw [h]
theorem ret_tuple2 {a a' b b' : Value} (h1 : a = a') (h2 : b = b') : Ending.returned (.tuple #[a, b]) = .returned (.tuple #[a', b']) := by rw [h1, h2]
theorem val_str {a b : ByteArray} (h : a = b) : Value.string a = .string b := by rw [h]
theorem val_int {k : IntKind} {a b : Int} (h : a = b) : Value.int k a = .int k b := by rw [h]
theorem below_step {w w1 w2 : World} (h1 : Below w.heap.size w w1) (h2 : Below w1.heap.size w1 w2) : Below w.heap.size w w2 := h1.trans (h2.mono h1.size)
theorem below_new (w : World) (o : Obj) : Below w.heap.size w (w.alloc o) := (Below.refl _ _).alloc (Nat.le_refl _) _
theorem size_list (b : ByteArray) : b.data.toList.length = b.size := rfl
theorem list_ne {x : ByteArray} (h : ¬ x = ByteArray.empty) : x.data.toList ≠ [] := fun e => h (by
  cases x with | mk d => cases d with | mk l => simp at e; subst e; rfl)
theorem size_ne {x : ByteArray} (h : ¬ x = ByteArray.empty) : 0 < x.size := by
  have := list_ne h
  have h2 := size_list x
  have : x.data.toList.length ≠ 0 := fun e => this (List.eq_nil_of_length_eq_zero e)
  omega
theorem not_empty {x : ByteArray} (h : ¬ x = ByteArray.empty) : (!x.toList.isEmpty) = true := by
  have := list_ne h
  rw [ByteArray.toList_eq]
  simpa using this
theorem data_append (a b : ByteArray) : (a ++ b).data.toList = a.data.toList ++ b.data.toList := by rw [ByteArray.data_append]; simp
theorem held_set {wr : World} {g : Nat} {cs : Array Value} {t : TypeId} (h : wr.heap[g]? = some (.cells cs t)) (i : Nat) (v : Value) : (wr.setCell ⟨g, i, none⟩ v).heap[g]? = some (.cells (cs.setIfInBounds i v) t) := heap_setCell_same wr g i cs t v h
theorem getD_byte (b : ByteArray) (j : Nat) (hj : j < b.size) : b.data.toList.getD j 0 = b[j] := by
  rw [List.getD_eq_getElem?_getD, List.getElem?_eq_getElem (by simpa using hj)]; rfl
theorem isEmpty_iff (l : ByteArray) : l.toList.isEmpty = true ↔ l.size = 0 := by
  rw [ByteArray.toList_eq, List.isEmpty_iff, ← size_list]
  constructor
  · intro h; rw [h]; rfl
  · exact List.eq_nil_of_length_eq_zero
theorem add_add_mid (a : Addr) (n k : Nat) (hk : k ≠ 0) : (a.add n).add k = ⟨a.block, a.off + n + k, none⟩ := by
  unfold Addr.add
  rw [if_neg hk]
  split
  · subst_vars; simp
  · rfl
theorem add_off (a : Addr) (n : Nat) : (a.add n).off = a.off + n := by unfold Addr.add; split <;> simp_all
theorem own_below {w w' : World} {B e k n : Nat} {v : Value} {xs : List Value} (h : w.ownsRow B e k v n xs) (hb : Below w.heap.size w w') : w'.ownsRow B e k v n xs := by
  refine ⟨h.1, h.2.imp id ?_⟩
  rintro ⟨g, cap, cur, hv, hg, hh, hrest⟩
  have hlt : g < w.heap.size := (Array.getElem?_eq_some_iff.1 hh).1
  exact ⟨g, cap, cur, hv, hg, (hb.block g hlt).trans hh, hrest⟩
theorem region_tail {P : Program} {id : Nat} {Q : Exit → Act → World → Prop} {a : Act} {w : World} {l : List Oper} (n : Nat) (hm : P.follows .mixedOrders = true) (hB : Region.lexTailB .any l.toArray n = true)
    (h : wpStill P l.toArray w.drew (fun a' => wpList P l.toArray Q (l.drop n) a' w.drew) (l.take n) a) : (Code.region id l.toArray true).wp P Q a w := wp_region_still_tail n hm hB h
theorem region_still {P : Program} {id : Nat} {Q : Exit → Act → World → Prop} {a : Act} {w : World} {l : List Oper} (hm : P.follows .mixedOrders = true) (hB : Region.lexB .any l.toArray = true)
    (h : wpStill P l.toArray w.drew (fun a' => Q .normal a' w.drew) l a) : (Code.region id l.toArray true).wp P Q a w := wp_region_still_lit hm hB h
def bv (x : UInt8) : Value := .int .u8 (x.toNat : Int)
def idC (l : List UInt8) : List Value := l.map bv
theorem idC_length (l : List UInt8) : (idC l).length = l.length := by simp [idC]
theorem idC_one (l : List UInt8) : ∀ v ∈ idC l, v.oneCell' = true := by
  intro v hv; simp only [idC, List.mem_map] at hv; obtain ⟨x, _, rfl⟩ := hv; rfl
theorem bv_inj {x y : UInt8} (h : bv x = bv y) : x = y := by
  simp only [bv, Value.int.injEq, true_and] at h
  exact UInt8.toNat_inj.1 (by omega)
theorem idC_inj : ∀ {a b : List UInt8}, idC a = idC b → a = b
  | [], [], _ => rfl
  | [], _ :: _, h => by simp [idC] at h
  | _ :: _, [], h => by simp [idC] at h
  | x :: a, y :: b, h => by
    simp only [idC, List.map_cons, List.cons.injEq] at h
    rw [bv_inj h.1, idC_inj (a := a) (b := b) h.2]
/-- A slice whose elements, of k cells each, lie in memory. -/
structure RowsAt (w : World) (v : Value) (k : Nat) (L : List (List Value)) : Prop where
  out : (v = .slice none 0 0 ∧ L = []) ∨ ∃ a cap, v = .slice (some a) L.length cap ∧ ∀ i cs, L[i]? = some cs → cs.length = k ∧ ∀ j x, cs[j]? = some x → w.cell? ((a.add (i * k)).add j) = some x
theorem RowsAt.form {w : World} {v : Value} {k : Nat} {L : List (List Value)} (h : RowsAt w v k L) : ∃ ao cap, v = .slice ao L.length cap := by
  rcases h.out with ⟨rfl, rfl⟩ | ⟨a, cap, rfl, _⟩
  · exact ⟨none, 0, rfl⟩
  · exact ⟨some a, cap, rfl⟩
theorem RowsAt.elem {w : World} {k cap : Nat} {ao : Option Addr} {n : Nat} {L : List (List Value)} (h : RowsAt w (.slice ao n cap) k L) (i : Nat) (cs : List Value) (hi : L[i]? = some cs) :
    ∃ a, ao = some a ∧ cs.length = k ∧ ∀ j x, cs[j]? = some x → w.cell? ((a.add (i * k)).add j) = some x := by
  rcases h.out with ⟨_, rfl⟩ | ⟨a, cap', hv, hc⟩
  · simp at hi
  · simp only [Value.slice.injEq] at hv
    exact ⟨a, hv.1, hc i cs hi⟩
theorem add_block (a : Addr) (n : Nat) : (a.add n).block = a.block := by unfold Addr.add; split <;> rfl
theorem RowsAt.below {w w' : World} {v : Value} {k : Nat} {L : List (List Value)} (h : RowsAt w v k L) (hb : Below w.heap.size w w') : RowsAt w' v k L := by
  refine ⟨?_⟩
  rcases h.out with h0 | ⟨a, cap, hv, hc⟩
  · exact .inl h0
  · refine .inr ⟨a, cap, hv, fun i cs hi => ⟨(hc i cs hi).1, fun j x hx => ?_⟩⟩
    have h1 := (hc i cs hi).2 j x hx
    rw [hb.cell (World.block_lt_of_cell? w _ h1)]
    exact h1
theorem RowsAt.nil (w : World) (k : Nat) : RowsAt w (.slice none 0 0) k [] := ⟨.inl ⟨rfl, rfl⟩⟩
theorem info24 : (Try.prog.info? 35).map (·.size) = some 32 := by kernel_rfl
theorem zero24 : (Try.prog.info? 35).map (fun i => (i.zero, i.size)) = some (some (.agg (idC Rf.zid).toArray), 32) := by kernel_rfl
theorem Try.infoByte : (Try.prog.info? 5).map (fun i => (i.zero, i.size, i.bytes)) = some (some (.int .u8 0), 1, 1) := by kernel_rfl
theorem info_byte : ∃ i, Try.prog.info? 5 = some i ∧ i.zero = some (.int .u8 0) ∧ i.size = 1 ∧ i.bytes = 1 := info_parts Try.infoByte
theorem cells_byte : Try.prog.cellsOf 5 = 1 := by kernel_rfl
theorem part_byte (xs : Array Value) (i : Nat) (v : Value) (h : xs[i]? = some v) (w : World) : (part 5 xs (i * 1)).run Try.prog w = .ok v w := by
  simp [part, Try.isAgg5, h, Result.andThen]
theorem idC_get (l : List UInt8) (i : Nat) (h : i < l.length) : (idC l).toArray[i]? = some (.int .u8 ((l.getD i 0).toNat : Int)) := by
  simp [idC, bv, h]
theorem eqItems_ids (d : Nat) (a b : List UInt8) (w : World) : ∀ is : List Nat, (∀ i ∈ is, i < a.length ∧ i < b.length) → (Op.eqItems (d + 1) 5 1 (idC a).toArray (idC b).toArray is).run Try.prog w = .ok (is.all fun i => a.getD i 0 == b.getD i 0) w
  | [], _ => by simp [Op.eqItems]
  | i :: is, h => by
    have ih := eqItems_ids d a b w is (fun j hj => h j (by simp [hj]))
    simp only [Op.eqItems, Sem.run_bind, part_byte _ i _ (idC_get a i (h i (by simp)).1), part_byte _ i _ (idC_get b i (h i (by simp)).2), Result.andThen_ok, run_equalIn_int w d 5 .u8 .u8 _ _ Try.underlying5]
    have e : (((a.getD i 0).toNat : Int) == ((b.getD i 0).toNat : Int)) = (a.getD i 0 == b.getD i 0) := by
      rw [Bool.eq_iff_iff, beq_iff_eq, beq_iff_eq, ← UInt8.toNat_inj]; omega
    rw [e, List.all_cons]
    cases (a.getD i 0 == b.getD i 0)
    · simp
    · simpa using ih
theorem ids_all (a b : List UInt8) (ha : a.length = 32) (hb : b.length = 32) : ((List.range 32).all fun i => a.getD i 0 == b.getD i 0) = decide (a = b) := by
  rw [Bool.eq_iff_iff, List.all_eq_true, decide_eq_true_iff]
  constructor
  · intro h
    apply List.ext_getElem?
    intro i
    by_cases hi : i < 32
    · have := h i (by simpa using hi)
      simpa [List.getD_eq_getElem?_getD, List.getElem?_eq_getElem (show i < a.length by omega), List.getElem?_eq_getElem (show i < b.length by omega)] using this
    · rw [List.getElem?_eq_none (by omega), List.getElem?_eq_none (by omega)]
  · rintro rfl i _
    simp
/-- '==' of two ids. -/
theorem eq_ids (a b : List UInt8) (ha : a.length = 32) (hb : b.length = 32) (d : Nat) (w : World) : (Op.equalIn (d + 1 + 1) 35 (.agg (idC a).toArray) (.agg (idC b).toArray)).run Try.prog w = .ok (decide (a = b)) w := by
  obtain ⟨i, hi, _⟩ := info_byte
  rw [run_equalIn_array w (d + 1) _ _ Try.underlying35 hi, cells_byte, eqItems_ids d a b w _ (fun j hj => by have := List.mem_range.1 hj; omega), ids_all a b ha hb]
theorem eq_id (a b : List UInt8) (ha : a.length = 32) (hb : b.length = 32) (w : World) : (Op.equalIn 10000 35 (.agg (idC a).toArray) (.agg (idC b).toArray)).run Try.prog w = .ok (decide (a = b)) w := eq_ids a b ha hb 9998 w
theorem part_id (xs : Array Value) (off : Nat) (w : World) : (part 35 xs off).run Try.prog w = .ok (.agg (xs.extract off (off + 32))) w := by
  have h1 : (isAgg 35).run Try.prog w = .ok true w := by
    unfold isAgg; rw [Sem.run_bind, run_underlying Try.underlying35 w]; simp
  cases hq : Try.prog.info? 35 with
  | none => have := info24; simp [hq] at this
  | some i =>
    have hs : i.size = 32 := by have := info24; simpa [hq] using this
    simp [part, Sem.run_bind, h1, Go.sizeOf, typeInfo, hq, hs]
theorem part_string (xs : Array Value) (i : Nat) (v : Value) (h : xs[i]? = some v) (w : World) : (part 9 xs i).run Try.prog w = .ok v w := by
  simp [part, Try.isAgg9, h, Result.andThen]
theorem eqFields_cons (d : Nat) (xs : Array Value) (f : Field) (fs : List Field) (v : Value) (w : World) (hn : decide (f.name = "_") = false) (hp : (part f.type xs f.offset).run Try.prog w = .ok v w) (he : (Op.equalIn d f.type v v).run Try.prog w = .ok true w)
    (hr : (Op.eqFields d xs xs fs).run Try.prog w = .ok true w) : (Op.eqFields d xs xs (f :: fs)).run Try.prog w = .ok true w := by
  have hn' : f.name ≠ "_" := by simpa using hn
  simp only [Op.eqFields, if_pos hn', Sem.run_bind, hp, he, Result.andThen_ok]
  simpa using hr
theorem two_of {l : List Field} {a b : Bool × TypeId × Nat} (h : l.map (fun f => (decide (f.name = "_"), f.type, f.offset)) = [a, b]) :
    ∃ x y : Field, l = [x, y] ∧ (decide (x.name = "_"), x.type, x.offset) = a ∧ (decide (y.name = "_"), y.type, y.offset) = b := by
  match l, h with
  | [x, y], h => simp only [List.map_cons, List.map_nil, List.cons.injEq, and_true] at h; exact ⟨x, y, rfl, h.1, h.2⟩
/-- The goal is a list of operations (asked ahead of a load's law: held against a call it would not end). -/
theorem at_wl {P : Program} {ops : Array Oper} {l : List Oper} {a : Act} {w : World} {Q : Exit → Act → World → Prop} (h : wpList P ops Q l a w) : wpList P ops Q l a w := h
theorem loadAt_row {P : Program} (w : World) (g : Nat) (t ty : TypeId) (cs : Array Value) (d : TypeDesc) (hg : w.heap[g]? = some (.cells cs t))
    (hu : P.underlying ty = some d) (hd : (match d with | .struct _ | .array _ _ => true | _ => false) = true) (hi : (P.info? ty).map (·.size) = some cs.size) :
    (Instr.loadAt ty (.pointer (some ⟨g, 0, none⟩))).run P w = .ok (.agg cs) w := by
  simp only [Instr.loadAt, Instr.sureAddr, Sem.run_bind, Sem.run_pure, Result.andThen]
  exact run_loadVar_row w g t ty cs _ d hg hu hd hi
theorem wpList_load_mid_g {P : Program} {ops : Array Oper} {rest : List Oper} {op : Oper} {a : Act} {w : World} {Q : Exit → Act → World → Prop} (hw : Region.wanted op (yielded ops a.tmps) = true) (ty : TypeId) (x : Operand) (ho : op.op = .load ty x)
    (b o : Nat) (hx : a.eval x = .pointer (some ⟨b, o, none⟩)) (cs : List Value) (d : TypeDesc) (hc : w.rangeAt b o cs)
    (hu : P.underlying ty = some d) (hd : d.isRow = true) (hi : (P.info? ty).map (·.size) = some cs.length)
    (h : wpList P ops Q rest (a.put op.dst (.agg cs.toArray)) w) : wpList P ops Q (op :: rest) a w :=
  wpList_step fun K hK => by rw [if_pos hw]; exact wp_load_mid ty x ho b o hx cs d hc hu hd hi (hK _ _ h)
/-- A whole array out of a block that is known, behind a guard that is met. -/
theorem wpList_load_row_g {P : Program} {ops : Array Oper} {rest : List Oper} {o : Oper} {a : Act} {w : World} {Q : Exit → Act → World → Prop} (hw : Region.wanted o (yielded ops a.tmps) = true) (ty : TypeId) (x : Operand) (ho : o.op = .load ty x)
    (g : Nat) (hx : a.eval x = .pointer (some ⟨g, 0, none⟩)) (t : TypeId) (cs : Array Value) (fr : Nat × Nat) (d : TypeDesc) (hg : w.heap[g]? = some (.cells cs t fr))
    (hu : P.underlying ty = some d) (hd : (match d with | .struct _ | .array _ _ => true | _ => false) = true) (hi : (P.info? ty).map (·.size) = some cs.size)
    (h : wpList P ops Q rest (a.put o.dst (.agg cs)) w) : wpList P ops Q (o :: rest) a w :=
  wpList_step fun K hK => by rw [if_pos hw]; exact wp_load_row ty x ho g hx t cs fr d hg hu hd hi (hK _ _ h)
/-- A variable of several cells at whatever address. -/
theorem run_loadVar_at {P : Program} (w : World) (a : Addr) (ty : TypeId) (cs : List Value) (d : TypeDesc) (hc : ∀ j v, cs[j]? = some v → w.cell? (a.add j) = some v)
    (hu : P.underlying ty = some d) (hd : d.isRow = true) (hi : (P.info? ty).map (·.size) = some cs.length) :
    (loadVar ty a).run P w = .ok (.agg cs.toArray) w := by
  have hl : (loadCells a cs.length).run P w = .ok cs.toArray w := run_loadCells_list (P := P) w a cs hc
  cases hq : P.info? ty with
  | none => simp [hq] at hi
  | some i =>
    have hs : i.size = cs.length := by simpa [hq] using hi
    have hagg : (isAgg ty).run P w = .ok true w := by
      unfold isAgg
      rw [Sem.run_bind, run_underlying hu w]
      cases d <;> simp_all
    simp [loadVar, Sem.run_bind, hagg, Go.sizeOf, typeInfo, hq, hs, hl]
theorem wp_load_at {P : Program} {op : Oper} {a : Act} {w : World} {K : Act → World → Prop} {Q : Exit → Act → World → Prop} (ty : TypeId) (x : Operand) (ho : op.op = .load ty x)
    (p : Addr) (hx : a.eval x = .pointer (some p)) (cs : List Value) (d : TypeDesc) (hc : ∀ j v, cs[j]? = some v → w.cell? (p.add j) = some v)
    (hu : P.underlying ty = some d) (hd : d.isRow = true) (hi : (P.info? ty).map (·.size) = some cs.length)
    (h : K (a.put op.dst (.agg cs.toArray)) w) : op.wp P a w K Q := by
  unfold Oper.wp execOp
  simp only [ho, hx, Instr.loadAt, Instr.sureAddr, Sem.run_bind, Sem.run_pure, Result.andThen_ok, run_loadVar_at w p ty cs d hc hu hd hi]
  exact h
theorem wpList_load_at {P : Program} {ops : Array Oper} {rest : List Oper} {op : Oper} {a : Act} {w : World} {Q : Exit → Act → World → Prop} (hgd : op.guard = none) (ty : TypeId) (x : Operand) (ho : op.op = .load ty x)
    (p : Addr) (hx : a.eval x = .pointer (some p)) (cs : List Value) (d : TypeDesc) (hc : ∀ j v, cs[j]? = some v → w.cell? (p.add j) = some v)
    (hu : P.underlying ty = some d) (hd : d.isRow = true) (hi : (P.info? ty).map (·.size) = some cs.length)
    (h : wpList P ops Q rest (a.put op.dst (.agg cs.toArray)) w) : wpList P ops Q (op :: rest) a w :=
  wpList_plain hgd fun _ hK => wp_load_at ty x ho p hx cs d hc hu hd hi (hK _ _ h)
theorem still_ld {ops : Array Oper} {w : World} {Q : Act → Prop} {a : Act} {o : Oper} {rest : List Oper} {cs : List Value} {ty : TypeId} {x : Operand} {p : Addr} {d : TypeDesc} (ho : o.op = .load ty x) (hx : a.eval x = .pointer (some p)) (hg : o.guard = none)
    (hc : ∀ j v, cs[j]? = some v → w.cell? (p.add j) = some v) (hu : Try.prog.underlying ty = some d) (hd : d.isRow = true) (hi : (Try.prog.info? ty).map (·.size) = some cs.length)
    (h : wpStill Try.prog ops w Q rest (a.put o.dst (.agg cs.toArray))) : wpStill Try.prog ops w Q (o :: rest) a := by
  refine wpStill_step fun K hK => ?_
  rw [if_pos (by simp [Region.wanted, hg])]
  unfold Oper.still execOp
  simp only [ho, hx, Instr.loadAt, Instr.sureAddr, Sem.run_bind, Sem.run_pure, Result.andThen_ok, run_loadVar_at w p ty cs d hc hu hd hi]
  exact ⟨rfl, hK _ h⟩
/-- An aggregate, built: its cells under a name. -/
theorem wpList_build_as {P : Program} {ops : Array Oper} {rest : List Oper} {o : Oper} {a : Act} {w : World} {Q : Exit → Act → World → Prop} (hg : o.guard = none) (t : TypeId) (parts : Array (Nat × Operand)) (ho : o.op = .build t parts) (cs : Array Value)
    (hb : P.built t (parts.map fun (i, x) => (i, a.eval x)).toList = some cs) (h : wpList P ops Q rest (a.put o.dst (.agg cs)) w) : wpList P ops Q (o :: rest) a w := by
  refine wpList_build hg t parts ho (by rw [hb]; rfl) ?_
  rw [hb]
  exact h
theorem idsize {l : List UInt8} (h : l.length = 32) : (Try.prog.info? 35).map (·.size) = some (idC l).length := by rw [idC_length, h]; exact info24

/-- A ref's cells, an update's cells. -/
def rfC (r : Rf.R) : List Value := .string r.name :: idC r.id
def upC (u : Rf.U) : List Value := .string u.name :: (idC u.old ++ idC u.new)
theorem rfC_length (r : Rf.R) : (rfC r).length = r.id.length + 1 := by simp [rfC, idC]
theorem upC_length (u : Rf.U) : (upC u).length = u.old.length + u.new.length + 1 := by simp [upC, idC]
theorem rfC_one (r : Rf.R) : ∀ v ∈ rfC r, v.oneCell' = true := by
  intro v hv; simp only [rfC, List.mem_cons] at hv
  rcases hv with rfl | h
  · rfl
  · exact idC_one _ _ h
theorem upC_one (u : Rf.U) : ∀ v ∈ upC u, v.oneCell' = true := by
  intro v hv; simp only [upC, List.mem_cons, List.mem_append] at hv
  rcases hv with rfl | h | h
  · rfl
  · exact idC_one _ _ h
  · exact idC_one _ _ h
theorem infoRf : (Try.prog.info? 54).map (fun i => (i.zero, i.size, i.bytes)) = some (some (.agg (.string ⟨#[]⟩ :: idC Rf.zid).toArray), 33, 48) := by kernel_rfl
theorem infoRs : (Try.prog.info? 54).map (·.size) = some 33 := by kernel_rfl
theorem infoUp : (Try.prog.info? 51).map (·.size) = some 65 := by kernel_rfl
theorem infoUq : (Try.prog.info? 51).map (fun i => (i.zero, i.size, i.bytes)) = some (some (.agg (.string ⟨#[]⟩ :: (idC Rf.zid ++ idC Rf.zid)).toArray), 65, 80) := by kernel_rfl
theorem underRf : Try.prog.underlying 54 = some (.struct (Try.prog.fieldsOf 54)) := by kernel_rfl
theorem underUp : Try.prog.underlying 51 = some (.struct (Try.prog.fieldsOf 51)) := by kernel_rfl
theorem fieldsRf : (Try.prog.fieldsOf 54).toList.map (fun f => (decide (f.name = "_"), f.type, f.offset)) = [(false, 9, 0), (false, 35, 1)] := by kernel_rfl
theorem rfsize {r : Rf.R} (h : r.id.length = 32) : (Try.prog.info? 54).map (·.size) = some (rfC r).length := by rw [rfC_length, h]; exact infoRs
theorem upsize {u : Rf.U} (h : u.old.length = 32) (k : u.new.length = 32) : (Try.prog.info? 51).map (·.size) = some (upC u).length := by rw [upC_length, h, k]; exact infoUp
theorem ext_rf (r : Rf.R) (h : r.id.length = 32) : (rfC r).toArray.extract 1 (1 + 32) = (idC r.id).toArray := by
  apply Array.ext'
  simp only [Array.toList_extract, List.extract_eq_take_drop, rfC]
  simp [List.take_of_length_le, idC_length, h]
/-- A ref is itself. -/
theorem eq_rf (r : Rf.R) (h : r.id.length = 32) (w : World) : (Op.equalIn 10000 54 (.agg (rfC r).toArray) (.agg (rfC r).toArray)).run Try.prog w = .ok true w := by
  obtain ⟨x, y, hl, hx, hy⟩ := two_of fieldsRf
  simp only [Prod.mk.injEq] at hx hy
  rw [show (10000 : Nat) = 9999 + 1 from rfl, run_equalIn_struct w 9999 54 _ _ underRf (by kernel_rfl), hl]
  refine eqFields_cons _ _ _ _ (.string r.name) w hx.1 (by rw [hx.2.1, hx.2.2]; exact part_string _ 0 _ rfl w) (by rw [hx.2.1, show (9999 : Nat) = 9998 + 1 from rfl, run_equalIn_string w _ _ _ _ Try.underlying9]; simp) ?_
  refine eqFields_cons _ _ _ _ (.agg (idC r.id).toArray) w hy.1 (by rw [hy.2.1, hy.2.2, part_id, ext_rf r h]) (by rw [hy.2.1, show (9999 : Nat) = 9997 + 1 + 1 from rfl, eq_ids _ _ h h]; simp) ?_
  simp [Op.eqFields]

section
variable {ops : Array Oper} {rest : List Oper} {op : Oper} {a : Act} {w : World} {Q : Exit → Act → World → Prop} {K : Act → World → Prop} {x y : Operand} {p : Addr}
theorem ld_rf {r : Rf.R} (ho : op.op = .load 54 x) (hx : a.eval x = .pointer (some p)) (hg : op.guard = none) (hc : ∀ j v, (rfC r)[j]? = some v → w.cell? (p.add j) = some v) (hid : r.id.length = 32)
    (h : wpList Try.prog ops Q rest (a.put op.dst (.agg (rfC r).toArray)) w) : wpList Try.prog ops Q (op :: rest) a w :=
  wpList_load_at hg 54 x ho p hx _ _ hc underRf rfl (rfsize hid) h
theorem ld_up {u : Rf.U} (ho : op.op = .load 51 x) (hx : a.eval x = .pointer (some p)) (hg : op.guard = none) (hc : ∀ j v, (upC u)[j]? = some v → w.cell? (p.add j) = some v) (h1 : u.old.length = 32) (h2 : u.new.length = 32)
    (h : wpList Try.prog ops Q rest (a.put op.dst (.agg (upC u).toArray)) w) : wpList Try.prog ops Q (op :: rest) a w :=
  wpList_load_at hg 51 x ho p hx _ _ hc underUp rfl (upsize h1 h2) h
theorem ld_id {l : List UInt8} (ho : op.op = .load 35 x) (hx : a.eval x = .pointer (some p)) (hg : op.guard = none) (hc : ∀ j v, (idC l)[j]? = some v → w.cell? (p.add j) = some v) (hl : l.length = 32)
    (h : wpList Try.prog ops Q rest (a.put op.dst (.agg (idC l).toArray)) w) : wpList Try.prog ops Q (op :: rest) a w :=
  wpList_load_at hg 35 x ho p hx _ _ hc Try.underlying35 rfl (idsize hl) h
theorem ld_idg {l : List UInt8} (ho : op.op = .load 35 x) (hx : a.eval x = .pointer (some p)) (hw : Region.wanted op (yielded ops a.tmps) = true) (hc : ∀ j v, (idC l)[j]? = some v → w.cell? (p.add j) = some v) (hl : l.length = 32)
    (h : wpList Try.prog ops Q rest (a.put op.dst (.agg (idC l).toArray)) w) : wpList Try.prog ops Q (op :: rest) a w :=
  wpList_step fun K hK => by rw [if_pos hw]; exact wp_load_at 35 x ho p hx _ _ hc Try.underlying35 rfl (idsize hl) (hK _ _ h)
theorem st_new {t : TypeId} {c cs : Array Value} (n : Nat) (ho : op.op = .store t x y) (hx : a.eval x = .pointer (some ⟨w.heap.size, 0, none⟩)) (hy : a.eval y = .agg cs) (hg : op.guard = none) (hc : c.size = n)
    (hi : (Try.prog.info? t).map (·.size) = some n) (hs : cs.size = n) (h1 : cs.all (·.oneCell') = true)
    (h : wpList Try.prog ops Q rest (a.put op.dst undef) (w.alloc (.cells cs t))) : wpList Try.prog ops Q (op :: rest) a (w.alloc (.cells c t)) := by
  refine wpList_store_row hg t x y ho w.heap.size cs hx hy t c (heap_alloc_last w _) (by rw [hs]; exact hi) (by rw [hc, hs]) h1 ?_
  rw [World.setRow_alloc_new]
  exact h
theorem st_rf {r : Rf.R} {c : Array Value} (ho : op.op = .store 54 x y) (hx : a.eval x = .pointer (some ⟨w.heap.size, 0, none⟩)) (hy : a.eval y = .agg (rfC r).toArray) (hg : op.guard = none) (hc : c.size = 33) (hid : r.id.length = 32)
    (h : wpList Try.prog ops Q rest (a.put op.dst undef) (w.alloc (.cells (rfC r).toArray 54))) : wpList Try.prog ops Q (op :: rest) a (w.alloc (.cells c 54)) :=
  st_new 33 ho hx hy hg hc infoRs (by simp [rfC_length, hid]) (all_oneCell_toArray (rfC_one r)) h
theorem st_up {u : Rf.U} {c : Array Value} (ho : op.op = .store 51 x y) (hx : a.eval x = .pointer (some ⟨w.heap.size, 0, none⟩)) (hy : a.eval y = .agg (upC u).toArray) (hg : op.guard = none) (hc : c.size = 65) (h1 : u.old.length = 32) (h2 : u.new.length = 32)
    (h : wpList Try.prog ops Q rest (a.put op.dst undef) (w.alloc (.cells (upC u).toArray 51))) : wpList Try.prog ops Q (op :: rest) a (w.alloc (.cells c 51)) :=
  st_new 65 ho hx hy hg hc infoUp (by simp [upC_length, h1, h2]) (all_oneCell_toArray (upC_one u)) h
theorem st_id {l : List UInt8} {c : Array Value} (ho : op.op = .store 35 x y) (hx : a.eval x = .pointer (some ⟨w.heap.size, 0, none⟩)) (hy : a.eval y = .agg (idC l).toArray) (hg : op.guard = none) (hc : c.size = 32) (hl : l.length = 32)
    (h : wpList Try.prog ops Q rest (a.put op.dst undef) (w.alloc (.cells (idC l).toArray 35))) : wpList Try.prog ops Q (op :: rest) a (w.alloc (.cells c 35)) :=
  st_new 32 ho hx hy hg hc info24 (by simp [idC_length, hl]) (all_oneCell_toArray (idC_one l)) h
end

/-- A slice of refs, of updates, in memory. -/
def RefsAt (w : World) (v : Value) (L : List Rf.R) : Prop := RowsAt w v 33 (L.map rfC)
def UpsAt (w : World) (v : Value) (L : List Rf.U) : Prop := RowsAt w v 65 (L.map upC)
theorem RefsAt.form {w : World} {v : Value} {L : List Rf.R} (h : RefsAt w v L) : ∃ ao cap, v = .slice ao L.length cap := by simpa using RowsAt.form h
theorem UpsAt.form {w : World} {v : Value} {L : List Rf.U} (h : UpsAt w v L) : ∃ ao cap, v = .slice ao L.length cap := by simpa using RowsAt.form h
theorem RefsAt.below {w w' : World} {v : Value} {L : List Rf.R} (h : RefsAt w v L) (hb : Below w.heap.size w w') : RefsAt w' v L := RowsAt.below h hb
theorem UpsAt.below {w w' : World} {v : Value} {L : List Rf.U} (h : UpsAt w v L) (hb : Below w.heap.size w w') : UpsAt w' v L := RowsAt.below h hb
theorem RefsAt.elem {w : World} {ao : Option Addr} {n cap : Nat} {L : List Rf.R} (h : RefsAt w (.slice ao n cap) L) (i : Nat) (r : Rf.R) (hi : L[i]? = some r) :
    ∃ a, ao = some a ∧ r.id.length = 32 ∧ ∀ j x, (rfC r)[j]? = some x → w.cell? ((a.add (i * 33)).add j) = some x := by
  obtain ⟨a, h1, h2, h3⟩ := RowsAt.elem h i (rfC r) (by simp [hi])
  rw [rfC_length] at h2
  exact ⟨a, h1, by omega, h3⟩
theorem RefsAt.len {w : World} {v : Value} {L : List Rf.R} (h : RefsAt w v L) : ∀ r ∈ L, r.id.length = 32 := fun r hr => by
  obtain ⟨ao, cap, rfl⟩ := h.form
  obtain ⟨i, hi⟩ := List.getElem?_of_mem hr
  obtain ⟨a, _, h2, _⟩ := h.elem i r hi
  exact h2
theorem RefsAt.nil (w : World) : RefsAt w (.slice none 0 0) [] := RowsAt.nil w 33
theorem rf_name {w : World} {p : Addr} {r : Rf.R} (h : ∀ j x, (rfC r)[j]? = some x → w.cell? (p.add j) = some x) : w.cell? p = some (.string r.name) := by
  have := h 0 _ rfl
  simpa [Addr.add] using this
theorem rf_id {w : World} {p : Addr} {r : Rf.R} (h : ∀ j x, (rfC r)[j]? = some x → w.cell? (p.add j) = some x) : ∀ j x, (idC r.id)[j]? = some x → w.cell? ((p.add 1).add j) = some x := fun j x hx => by
  have := h (j + 1) x (by simpa [rfC] using hx)
  have e : p.add (j + 1) = (p.add 1).add j := by
    unfold Addr.add; simp; split <;> simp_all
  rwa [e] at this
theorem up_id {w : World} {p : Addr} {u : Rf.U} (h : ∀ j x, (upC u)[j]? = some x → w.cell? (p.add j) = some x) (h1 : u.old.length = 32) : (∀ j x, (idC u.old)[j]? = some x → w.cell? ((p.add 1).add j) = some x) ∧ (∀ j x, (idC u.new)[j]? = some x → w.cell? ((p.add 33).add j) = some x) := by
  refine ⟨fun j x hx => ?_, fun j x hx => ?_⟩
  · have hj : j < (idC u.old).length := (List.getElem?_eq_some_iff.1 hx).1
    have := h (j + 1) x (by simp only [upC, List.getElem?_cons_succ]; rw [List.getElem?_append_left hj]; exact hx)
    have e : p.add (j + 1) = (p.add 1).add j := by
      unfold Addr.add; simp; split <;> simp_all
    rwa [e] at this
  · have hj : (idC u.old).length = 32 := by rw [idC_length, h1]
    have := h (j + 33) x (by
      simp only [upC]; rw [show j + 33 = (32 + j) + 1 by omega, List.getElem?_cons_succ, List.getElem?_append_right (by omega), hj]
      simpa using hx)
    have e : p.add (j + 33) = (p.add 33).add j := by
      unfold Addr.add; simp; split <;> simp_all
    rwa [e] at this

/-- A row of refs that a call has made. -/
def OwnF (w : World) (base : Nat) (v : Value) (L : List Rf.R) : Prop := w.ownsRow base 54 33 v L.length (L.flatMap rfC)
theorem flat_len (L : List Rf.R) (h : ∀ r ∈ L, r.id.length = 32) : (L.flatMap rfC).length = L.length * 33 := by
  induction L with
  | nil => rfl
  | cons r t ih =>
    rw [List.flatMap_cons, List.length_append, ih (fun x hx => h x (by simp [hx])), rfC_length, h r (by simp), List.length_cons]; omega
theorem flat_get (L : List Rf.R) : (∀ r ∈ L, r.id.length = 32) → ∀ (i : Nat) (p : Rf.R), L[i]? = some p → ∀ (j : Nat) (x : Value), (rfC p)[j]? = some x → (L.flatMap rfC)[i * 33 + j]? = some x := by
  induction L with
  | nil => intro _ i l hi; simp at hi
  | cons a r ih =>
    intro h i l hi j x hx
    have ha : (rfC a).length = 33 := by rw [rfC_length, h a (by simp)]
    rw [List.flatMap_cons]
    cases i with
    | zero =>
      simp at hi; subst hi
      have hj : j < 33 := by
        have := (List.getElem?_eq_some_iff.1 hx).1; omega
      rw [Nat.zero_mul, Nat.zero_add, List.getElem?_append_left (by omega)]
      exact hx
    | succ i =>
      simp at hi
      rw [List.getElem?_append_right (by omega), show (i + 1) * 33 + j - (rfC a).length = i * 33 + j by omega]
      exact ih (fun x hx => h x (by simp [hx])) i l hi j x hx
theorem OwnF.rows {w : World} {base : Nat} {v : Value} {L : List Rf.R} (h : OwnF w base v L) (hid : ∀ r ∈ L, r.id.length = 32) : RefsAt w v L := by
  refine ⟨?_⟩
  rcases h.2 with ⟨rfl, h0⟩ | ⟨g, cap, cur, rfl, hg, hb⟩
  · exact .inl ⟨rfl, by have : L = [] := by simpa using h0
                        simp [this]⟩
  · refine .inr ⟨⟨g, 0, none⟩, cap, by simp, fun i cs hi => ?_⟩
    rw [List.getElem?_map] at hi
    cases hq : L[i]? with
    | none => simp [hq] at hi
    | some r =>
      simp [hq] at hi; subst hi
      refine ⟨by rw [rfC_length, hid r (List.mem_of_getElem? hq)], fun j x hx => ?_⟩
      have := World.ownsRow.cells h (g := g) rfl (i * 33 + j) x (flat_get L hid i r hq j x hx)
      rw [Addr.add_mid] at this
      rw [Addr.add_mid, Addr.add_mid]
      simpa [Nat.add_assoc] using this
theorem own_nil (w : World) (base : Nat) : OwnF w base (.slice none 0 0) [] := World.ownsRow_nil _ _ _ _
theorem own_push {w : World} {base : Nat} {v : Value} {L : List Rf.R} {p : Rf.R} (h : w.ownsRow base 54 33 v (L.length + 1) (L.flatMap rfC ++ rfC p)) : OwnF w base v (L ++ [p]) := by
  unfold OwnF
  rw [List.flatMap_append, List.length_append]
  simpa using h
theorem news_row {w : World} {g : Nat} {l : List Value} {t : TypeId} (h : w.heap[g]? = some (.cells l.toArray t)) : ∀ j u, l[j]? = some u → w.cell? ((⟨g, 0, none⟩ : Addr).add j) = some u := fun j u hu => by
  rw [Addr.add_mid, Nat.zero_add, cell_of_row _ _ _ _ t (0, 0) h]
  simpa using hu
theorem below_grown {w w' : World} (h : Below w.heap.size w w') : w.grownBy w' none := ⟨h.os, h.tape, h.output, h.size, fun k hk _ => h.block k hk⟩

end Go.Proofs.Ytkdljagcdaphdaa
