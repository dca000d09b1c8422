/-
  WALKS OF LAYER 4: strings.Builder's writer at this program (its copyCheck is laid otherwise here than on the shelf).
  LAYER 4: what an object is, as the program's memory holds it: its 72 cells, and the rows behind its two slices.
  LAYER 4: '==' of ids, entries and links; an id's bytes as a string; loads out of the middle of a block.
  WALKS OF LAYER 4: whether the fields of other kinds are zero; isKind.
  WALKS OF LAYER 4: foreignFieldsZero.
  WALKS OF LAYER 4: Name, of the program and of the document.
  LAYER 4: loads and stores of ids, entries, links and objects, as a walk takes them (under 'with_reducible apply': then 'rfl' for each equation).
-/
import Derived.Test.YtipigedopmgemaaDoorVi
import Derived.Test.YtipigedopmgemaaDoorShelf
import Derived.Shelf.Strings.BuilderK
import Derived.Deep.MidRow
import Derived.Deep.WholeRow
import Derived.Deep.Cut
import Derived.StillTailTactics
import Derived.IntWalk
import Derived.Laws.StructEq
import Derived.ChangeKeysEq
section
namespace Go.Proofs.YtipigedopmgemaaDoor
open Go.RowKit
set_option linter.unusedVariables false
set_option linter.unusedSimpArgs false

theorem bSize : (Tryd.prog.info? 131).map (·.size) = some 2 := by kernel_rfl
theorem bLies : liesAt Tryd.prog Tryd.prog.depth 131 (2 / Tryd.prog.cellsOf 131) 0 131 1 = true := by kernel_rfl

set_option maxHeartbeats 1000000 in
set_option maxRecDepth 100000 in
theorem bcheck_used (b : Nat) (w : World) (h0 : w.cell? ⟨b, 0, none⟩ = some (.pointer (some ⟨b, 0, none⟩))) :
    Calls Tryd.prog 91 #[.pointer (some ⟨b, 0, none⟩)] w fun e w' => e = .returned (.tuple #[]) ∧ w' = w := by
  obtain ⟨j, hj, _⟩ := Option.map_eq_some_iff.1 bSize
  go_enter Tryd.func91, Tryd.ntmps91
  go_wp2
  rw [Lib.run_neq_ptr_same w _ Tryd.underlying129 hj]
  go_wp2
  go_end0
  exact ⟨rfl, rfl⟩

set_option maxHeartbeats 1000000 in
set_option maxRecDepth 100000 in
theorem bcheck_fresh (b : Nat) (w : World) (h0 : w.cell? ⟨b, 0, none⟩ = some (.pointer none)) (hsh : w.shape? b = some (131, 2)) (hfz : w.frozen? ⟨b, 0, none⟩ = false) :
    Calls Tryd.prog 91 #[.pointer (some ⟨b, 0, none⟩)] w fun e w' => e = .returned (.tuple #[]) ∧ w' = w.setCell ⟨b, 0, none⟩ (.pointer (some ⟨b, 0, none⟩)) := by
  obtain ⟨j, hj, hjs⟩ := Option.map_eq_some_iff.1 bSize
  go_enter Tryd.func91, Tryd.ntmps91
  go_wp2
  rw [Lib.run_to_unsafe w ⟨b, 0, none⟩ Tryd.underlying129 Tryd.underlying142 hj (by rw [hjs]; decide) hsh (Nat.zero_lt_succ 1)]
  simp only [Result.andThen]
  rw [Oper.upon_value]
  go_wp2
  rw [run_callFunc_extern Tryd.func97 (by kernel_rfl) (by kernel_rfl) (by kernel_rfl) (e := Extern.AbiNoEscape.same) (by kernel_rfl)]
  rw [Lib.run_noEscape]
  simp only [Result.andThen]
  rw [Oper.upon_value]
  go_wp2
  rw [Lib.run_from_unsafe w ⟨b, 0, none⟩ Tryd.underlying142 Tryd.underlying129 hj hsh bLies]
  simp only [Result.andThen]
  rw [Oper.upon_value]
  go_wp2
  go_end0
  exact ⟨rfl, rfl⟩

theorem bcheck (B b : Nat) (bs : List Value) (w : World) (h : Lib.IsBuilderF 131 5 B b bs w) :
    Calls Tryd.prog 91 #[.pointer (some ⟨b, 0, none⟩)] w fun e w' => e = .returned (.tuple #[]) ∧ (Lib.BuilderAtF 131 5 B b (.pointer (some ⟨b, 0, none⟩)) bs w' ∧ Below B w w' ∧ Lib.OthersKept 5 (some b) w w') := by
  rcases h with h | h
  · refine (bcheck_fresh b w h.cell0 h.shape h.frozen0).mono ?_
    rintro e w' ⟨rfl, rfl⟩
    exact ⟨rfl, h.used _, (Below.refl B w).setCell (p := ⟨b, 0, none⟩) h.1 _, (Lib.OthersKept.refl _ _ w).setCell ⟨b, 0, none⟩ rfl _⟩
  · refine (bcheck_used b w h.cell0).mono ?_
    rintro e w' ⟨rfl, rfl⟩
    exact ⟨rfl, h, Below.refl B _, Lib.OthersKept.refl _ _ _⟩

set_option maxHeartbeats 2000000 in
set_option maxRecDepth 100000 in
theorem bwrite (B b : Nat) (bs : List Value) (s : ByteArray) (w : World) (h : Lib.IsBuilderF 131 5 B b bs w) (hlen : bs.length + s.size ≤ 140737488355328) (hBw : B ≤ w.heap.size) :
    Calls Tryd.prog 85 #[.pointer (some ⟨b, 0, none⟩), .string s] w fun e w' => e = .returned (.tuple #[.int .i64 s.size, .nilIface]) ∧ (Lib.BuilderAtF 131 5 B b (.pointer (some ⟨b, 0, none⟩)) (bs ++ Lib.strCells s) w' ∧ Below B w w' ∧ Lib.OthersKept 5 (some b) w w') := by
  obtain ⟨i0, hi, hz0, hz1, hz2⟩ := info_parts Tryd.infoByte
  go_enter Tryd.func85, Tryd.ntmps85
  go_wp2_with fail
  refine (bcheck B b bs _ h).mono ?_
  rintro e w1 ⟨rfl, h1, hb1, hk1⟩
  obtain ⟨hB, v, hbk, hown, hne⟩ := h1
  have c0 : w1.cell? ⟨b, 0, none⟩ = some (.pointer (some ⟨b, 0, none⟩)) := by rw [Lib.cell_of_heap hbk]; rfl
  have c1 : w1.cell? ⟨b, 1, none⟩ = some v := by rw [Lib.cell_of_heap hbk]; rfl
  have HK := Lib.hid hbk
  clear hbk
  go_wp2_with (at_builtin; refine Lib.wpList_append_own_stringF _ rfl _ _ 56 9 rfl B 5 i0 Tryd.underlying56 Tryd.underlying9 hi hz0 hz1 hz2 _ _ _ rfl hown s rfl ?c3 ?c4 ?c5 ?_)
  case c3 => unfold maxLen; omega
  case c4 => omega
  case c5 => have := hb1.size; omega
  intro v' w2 hown' hgrow _
  have hbk := HK.out
  have hlt : b < w1.heap.size := by
    rcases Nat.lt_or_ge b w1.heap.size with h' | h'
    · exact h'
    · simp [Array.getElem?_eq_none h'] at hbk
  have hb2 : w2.heap[b]? = some (.cells #[.pointer (some ⟨b, 0, none⟩), v] 131 (0, 0)) := by
    rw [hgrow.block b hlt (fun e => hne e.symm)]
    exact hbk
  have d0 : w2.cell? ⟨b, 0, none⟩ = some (.pointer (some ⟨b, 0, none⟩)) := by rw [Lib.cell_of_heap hb2]; rfl
  have d1 : w2.cell? ⟨b, 1, none⟩ = some v := by rw [Lib.cell_of_heap hb2]; rfl
  have f1 : w2.frozen? ⟨b, 1, none⟩ = false := Lib.frozen_of_heap hb2 1
  have H2 := Lib.hid hb2
  clear hb2 hbk
  obtain ⟨ao, n', cap, rfl⟩ : ∃ ao n' cap, v' = .slice ao n' cap := by
    rcases hown'.2 with ⟨hv, _⟩ | ⟨g, cap, cur, fz, hv, _⟩
    · exact ⟨_, _, _, hv⟩
    · exact ⟨_, _, _, hv⟩
  go_wp2
  go_ret2
  refine ⟨rfl, ?_, ?_, (hk1.grown hgrow (Lib.ownsRowF_kind hown)).setCell ⟨b, 1, none⟩ rfl _⟩
  · exact Lib.BuilderAtF.put (T := 131) (e := 5) hB H2.out (bs' := bs ++ Lib.strCells s) (by simpa [Lib.strCells_length] using hown') (by decide)
  · exact (hb1.grown hgrow (by have := hb1.size; omega) (fun k hk => (hown.lt k hk).1)).setCell (p := ⟨b, 1, none⟩) hB _

end Go.Proofs.YtipigedopmgemaaDoor
end

section
namespace Go.Proofs.YtipigedopmgemaaDoor
open Go.RowKit
set_option linter.unusedVariables false
set_option linter.unusedSimpArgs false

def bv (x : UInt8) : Value := .int .u8 (x.toNat : Int)
def idC (l : List UInt8) : List Value := l.map bv
/-- An entry of a tree. -/
structure En where
  name : ByteArray
  kind : Int
  id : List UInt8
/-- An object. -/
structure Ob where
  kind : Int
  data : ByteArray
  ents : List En
  tree : List UInt8
  pars : List (List UInt8)
  time : Nat
  text : ByteArray
  target : List UInt8
  of : Int
  name : ByteArray
def enC (e : En) : List Value := .string e.name :: .int .i64 e.kind :: idC e.id
theorem idC_length (l : List UInt8) : (idC l).length = l.length := by simp [idC]
theorem enC_length (e : En) : (enC e).length = e.id.length + 2 := by simp [enC, idC]
theorem idC_one (l : List UInt8) : ∀ v ∈ idC l, v.oneCell' = true := by
  intro v hv; simp only [idC, List.mem_map] at hv; obtain ⟨x, _, rfl⟩ := hv; rfl
theorem bv_inj {x y : UInt8} (h : bv x = bv y) : x = y := by
  simp only [bv, Value.int.injEq, true_and] at h
  exact UInt8.toNat_inj.1 (by omega)
theorem idC_inj : ∀ {a b : List UInt8}, idC a = idC b → a = b
  | [], [], _ => rfl
  | [], _ :: _, h => by simp [idC] at h
  | _ :: _, [], h => by simp [idC] at h
  | x :: a, y :: b, h => by
    simp only [idC, List.map_cons, List.cons.injEq] at h
    rw [bv_inj h.1, idC_inj (a := a) (b := b) h.2]

/-- The 72 cells of an object; its two slices are ev and pv. -/
structure ObF (cs : Array Value) (o : Ob) (ev pv : Value) : Prop where
  c0 : cs[0]? = some (.int .i64 o.kind)
  c1 : cs[1]? = some (.string o.data)
  c2 : cs[2]? = some ev
  tr : ∀ j v, (idC o.tree)[j]? = some v → cs[3 + j]? = some v
  c35 : cs[35]? = some pv
  c36 : cs[36]? = some (.int .u32 (o.time : Int))
  c37 : cs[37]? = some (.string o.text)
  ta : ∀ j v, (idC o.target)[j]? = some v → cs[38 + j]? = some v
  c70 : cs[70]? = some (.int .i64 o.of)
  c71 : cs[71]? = some (.string o.name)
  trl : o.tree.length = 32
  tal : o.target.length = 32
  size : cs.size = 72
  one : cs.all (·.oneCell') = true

/-- A slice whose elements, of k cells each, lie in memory. -/
structure RowsAt (w : World) (v : Value) (k : Nat) (L : List (List Value)) : Prop where
  out : (v = .slice none 0 0 ∧ L = []) ∨ ∃ a cap, v = .slice (some a) L.length cap ∧ ∀ i cs, L[i]? = some cs → cs.length = k ∧ ∀ j x, cs[j]? = some x → w.cell? ((a.add (i * k)).add j) = some x

theorem RowsAt.form {w : World} {v : Value} {k : Nat} {L : List (List Value)} (h : RowsAt w v k L) : ∃ ao cap, v = .slice ao L.length cap := by
  rcases h.out with ⟨rfl, rfl⟩ | ⟨a, cap, rfl, _⟩
  · exact ⟨none, 0, rfl⟩
  · exact ⟨some a, cap, rfl⟩
theorem RowsAt.elem {w : World} {k cap : Nat} {ao : Option Addr} {n : Nat} {L : List (List Value)} (h : RowsAt w (.slice ao n cap) k L) (i : Nat) (cs : List Value) (hi : L[i]? = some cs) :
    ∃ a, ao = some a ∧ cs.length = k ∧ ∀ j x, cs[j]? = some x → w.cell? ((a.add (i * k)).add j) = some x := by
  rcases h.out with ⟨_, rfl⟩ | ⟨a, cap', hv, hc⟩
  · simp at hi
  · simp only [Value.slice.injEq] at hv
    exact ⟨a, hv.1, hc i cs hi⟩
theorem add_block (a : Addr) (n : Nat) : (a.add n).block = a.block := by unfold Addr.add; split <;> rfl
theorem RowsAt.below {w w' : World} {v : Value} {k : Nat} {L : List (List Value)} (h : RowsAt w v k L) (hb : Below w.heap.size w w') : RowsAt w' v k L := by
  refine ⟨?_⟩
  rcases h.out with h0 | ⟨a, cap, hv, hc⟩
  · exact .inl h0
  · refine .inr ⟨a, cap, hv, fun i cs hi => ⟨(hc i cs hi).1, fun j x hx => ?_⟩⟩
    have h1 := (hc i cs hi).2 j x hx
    rw [hb.cell (World.block_lt_of_cell? w _ h1)]
    exact h1
theorem RowsAt.nil (w : World) (k : Nat) : RowsAt w (.slice none 0 0) k [] := ⟨.inl ⟨rfl, rfl⟩⟩

theorem info28 : (Tryd.prog.info? 42).map (·.size) = some 72 := by kernel_rfl
theorem info24 : (Tryd.prog.info? 35).map (·.size) = some 32 := by kernel_rfl
theorem info45 : (Tryd.prog.info? 90).map (·.size) = some 34 := by kernel_rfl
def zId : List UInt8 := List.replicate 32 0
theorem zero24 : (Tryd.prog.info? 35).map (fun i => (i.zero, i.size)) = some (some (.agg (idC zId).toArray), 32) := by kernel_rfl

end Go.Proofs.YtipigedopmgemaaDoor
end

section
namespace Go.Proofs.YtipigedopmgemaaDoor
open Go.RowKit
set_option linter.unusedVariables false
set_option linter.unusedSimpArgs false

theorem info_byte : ∃ i, Tryd.prog.info? 5 = some i ∧ i.zero = some (.int .u8 0) ∧ i.size = 1 ∧ i.bytes = 1 := info_parts Tryd.infoByte
theorem cells_byte : Tryd.prog.cellsOf 5 = 1 := by kernel_rfl
theorem part_byte (xs : Array Value) (i : Nat) (v : Value) (h : xs[i]? = some v) (w : World) : (part 5 xs (i * 1)).run Tryd.prog w = .ok v w := by
  simp [part, Tryd.isAgg5, h, Result.andThen]
theorem idC_get (l : List UInt8) (i : Nat) (h : i < l.length) : (idC l).toArray[i]? = some (.int .u8 ((l.getD i 0).toNat : Int)) := by
  simp [idC, bv, h]
theorem eqItems_ids (d : Nat) (a b : List UInt8) (w : World) : ∀ is : List Nat, (∀ i ∈ is, i < a.length ∧ i < b.length) → (Op.eqItems (d + 1) 5 1 (idC a).toArray (idC b).toArray is).run Tryd.prog w = .ok (is.all fun i => a.getD i 0 == b.getD i 0) w
  | [], _ => by simp [Op.eqItems]
  | i :: is, h => by
    have ih := eqItems_ids d a b w is (fun j hj => h j (by simp [hj]))
    simp only [Op.eqItems, Sem.run_bind, part_byte _ i _ (idC_get a i (h i (by simp)).1), part_byte _ i _ (idC_get b i (h i (by simp)).2), Result.andThen_ok, run_equalIn_int w d 5 .u8 .u8 _ _ Tryd.underlying5]
    have e : (((a.getD i 0).toNat : Int) == ((b.getD i 0).toNat : Int)) = (a.getD i 0 == b.getD i 0) := by
      rw [Bool.eq_iff_iff, beq_iff_eq, beq_iff_eq, ← UInt8.toNat_inj]; omega
    rw [e, List.all_cons]
    cases (a.getD i 0 == b.getD i 0)
    · simp
    · simpa using ih
theorem ids_all (a b : List UInt8) (ha : a.length = 32) (hb : b.length = 32) : ((List.range 32).all fun i => a.getD i 0 == b.getD i 0) = decide (a = b) := by
  rw [Bool.eq_iff_iff, List.all_eq_true, decide_eq_true_iff]
  constructor
  · intro h
    apply List.ext_getElem?
    intro i
    by_cases hi : i < 32
    · have := h i (by simpa using hi)
      simpa [List.getD_eq_getElem?_getD, List.getElem?_eq_getElem (show i < a.length by omega), List.getElem?_eq_getElem (show i < b.length by omega)] using this
    · rw [List.getElem?_eq_none (by omega), List.getElem?_eq_none (by omega)]
  · rintro rfl i _
    simp
/-- '==' of two ids. -/
theorem eq_ids (a b : List UInt8) (ha : a.length = 32) (hb : b.length = 32) (d : Nat) (w : World) : (Op.equalIn (d + 1 + 1) 35 (.agg (idC a).toArray) (.agg (idC b).toArray)).run Tryd.prog w = .ok (decide (a = b)) w := by
  obtain ⟨i, hi, _⟩ := info_byte
  rw [run_equalIn_array w (d + 1) _ _ Tryd.underlying35 hi, cells_byte, eqItems_ids d a b w _ (fun j hj => by have := List.mem_range.1 hj; omega), ids_all a b ha hb]
theorem eq_id (a b : List UInt8) (ha : a.length = 32) (hb : b.length = 32) (w : World) : (Op.equalIn 10000 35 (.agg (idC a).toArray) (.agg (idC b).toArray)).run Tryd.prog w = .ok (decide (a = b)) w := eq_ids a b ha hb 9998 w

def lkC (l : List UInt8 × Int) : List Value := idC l.1 ++ [.int .i64 l.2]
theorem lkC_length (l : List UInt8 × Int) : (lkC l).length = l.1.length + 1 := by simp [lkC, idC]
theorem lkC_one (l : List UInt8 × Int) : ∀ v ∈ lkC l, v.oneCell' = true := by
  intro v hv; simp only [lkC, List.mem_append, List.mem_singleton] at hv
  rcases hv with h | rfl
  · exact idC_one _ _ h
  · rfl
theorem enC_one (e : En) : ∀ v ∈ enC e, v.oneCell' = true := by
  intro v hv; simp only [enC, List.mem_cons] at hv
  rcases hv with rfl | rfl | h
  · rfl
  · rfl
  · exact idC_one _ _ h

theorem part_id (xs : Array Value) (off : Nat) (w : World) : (part 35 xs off).run Tryd.prog w = .ok (.agg (xs.extract off (off + 32))) w := by
  have h1 : (isAgg 35).run Tryd.prog w = .ok true w := by
    unfold isAgg; rw [Sem.run_bind, run_underlying Tryd.underlying35 w]; simp
  cases hq : Tryd.prog.info? 35 with
  | none => have := info24; simp [hq] at this
  | some i =>
    have hs : i.size = 32 := by have := info24; simpa [hq] using this
    simp [part, Sem.run_bind, h1, Go.sizeOf, typeInfo, hq, hs]
theorem part_int (xs : Array Value) (i : Nat) (v : Value) (h : xs[i]? = some v) (w : World) : (part 3 xs i).run Tryd.prog w = .ok v w := by
  simp [part, Tryd.isAgg3, h, Result.andThen]
theorem part_string (xs : Array Value) (i : Nat) (v : Value) (h : xs[i]? = some v) (w : World) : (part 9 xs i).run Tryd.prog w = .ok v w := by
  simp [part, Tryd.isAgg9, h, Result.andThen]

theorem fields45 : (Tryd.prog.fieldsOf 90).toList.map (fun f => (decide (f.name = "_"), f.type, f.offset)) = [(false, 9, 0), (false, 3, 1), (false, 35, 2)] := by kernel_rfl
theorem eqFields_cons (d : Nat) (xs : Array Value) (f : Field) (fs : List Field) (v : Value) (w : World) (hn : decide (f.name = "_") = false) (hp : (part f.type xs f.offset).run Tryd.prog w = .ok v w) (he : (Op.equalIn d f.type v v).run Tryd.prog w = .ok true w)
    (hr : (Op.eqFields d xs xs fs).run Tryd.prog w = .ok true w) : (Op.eqFields d xs xs (f :: fs)).run Tryd.prog w = .ok true w := by
  have hn' : f.name ≠ "_" := by simpa using hn
  simp only [Op.eqFields, if_pos hn', Sem.run_bind, hp, he, Result.andThen_ok]
  simpa using hr
theorem three_of {l : List Field} {a b c : Bool × TypeId × Nat} (h : l.map (fun f => (decide (f.name = "_"), f.type, f.offset)) = [a, b, c]) :
    ∃ x y z : Field, l = [x, y, z] ∧ (decide (x.name = "_"), x.type, x.offset) = a ∧ (decide (y.name = "_"), y.type, y.offset) = b ∧ (decide (z.name = "_"), z.type, z.offset) = c := by
  match l, h with
  | [x, y, z], h => simp only [List.map_cons, List.map_nil, List.cons.injEq, and_true] at h; exact ⟨x, y, z, rfl, h.1, h.2.1, h.2.2⟩
theorem two_of {l : List Field} {a b : Bool × TypeId × Nat} (h : l.map (fun f => (decide (f.name = "_"), f.type, f.offset)) = [a, b]) :
    ∃ x y : Field, l = [x, y] ∧ (decide (x.name = "_"), x.type, x.offset) = a ∧ (decide (y.name = "_"), y.type, y.offset) = b := by
  match l, h with
  | [x, y], h => simp only [List.map_cons, List.map_nil, List.cons.injEq, and_true] at h; exact ⟨x, y, rfl, h.1, h.2⟩
theorem under45 : Tryd.prog.underlying 90 = some (.struct (Tryd.prog.fieldsOf 90)) := by kernel_rfl
theorem ext_en (e : En) (h : e.id.length = 32) : (enC e).toArray.extract 2 (2 + 32) = (idC e.id).toArray := by
  apply Array.ext'
  simp only [Array.toList_extract, List.extract_eq_take_drop, enC]
  simp [List.take_of_length_le, idC_length, h]
theorem ext_lk (l : List UInt8 × Int) (h : l.1.length = 32) : (lkC l).toArray.extract 0 (0 + 32) = (idC l.1).toArray := by
  apply Array.ext'
  simp only [Array.toList_extract, List.extract_eq_take_drop, lkC]
  simp [List.take_append_of_le_length, idC_length, h]
/-- An entry is itself. -/
theorem eq_en (e : En) (h : e.id.length = 32) (w : World) : (Op.equalIn 10000 90 (.agg (enC e).toArray) (.agg (enC e).toArray)).run Tryd.prog w = .ok true w := by
  obtain ⟨x, y, z, hl, hx, hy, hz⟩ := three_of fields45
  simp only [Prod.mk.injEq] at hx hy hz
  rw [show (10000 : Nat) = 9999 + 1 from rfl, run_equalIn_struct w 9999 90 _ _ under45 (by kernel_rfl), hl]
  refine eqFields_cons _ _ _ _ (.string e.name) w hx.1 (by rw [hx.2.1, hx.2.2]; exact part_string _ 0 _ rfl w) (by rw [hx.2.1, show (9999 : Nat) = 9998 + 1 from rfl, run_equalIn_string w _ _ _ _ Tryd.underlying9]; simp) ?_
  refine eqFields_cons _ _ _ _ (.int .i64 e.kind) w hy.1 (by rw [hy.2.1, hy.2.2]; exact part_int _ 1 _ rfl w) (by rw [hy.2.1, show (9999 : Nat) = 9998 + 1 from rfl, run_equalIn_int w _ _ _ _ _ _ Tryd.underlying3]; simp) ?_
  refine eqFields_cons _ _ _ _ (.agg (idC e.id).toArray) w hz.1 (by rw [hz.2.1, hz.2.2, part_id, ext_en e h]) (by rw [hz.2.1, show (9999 : Nat) = 9997 + 1 + 1 from rfl, eq_ids _ _ h h]; simp) ?_
  simp [Op.eqFields]
/-- An id in memory, as a string. -/
theorem conv_id (w : World) (a : Addr) (l : List UInt8) (h : l.length = 32) (hc : ∀ j v, (idC l)[j]? = some v → w.cell? (a.add j) = some v) :
    (convert 56 9 (.slice (some a) 32 32)).run Tryd.prog w = .ok (.string ⟨l.toArray⟩) w := by
  have := run_convert_bytes_back (P := Tryd.prog) w 56 9 5 a 32 l Tryd.underlying56 Tryd.underlying5 Tryd.underlying9 (fun j hj => hc j _ (by simp [idC, bv, hj]))
  rwa [h] at this

/-- The goal is a list of operations (asked ahead of a load's law: held against a call it would not end). -/
theorem at_wl {P : Program} {ops : Array Oper} {l : List Oper} {a : Act} {w : World} {Q : Exit → Act → World → Prop} (h : wpList P ops Q l a w) : wpList P ops Q l a w := h
theorem loadAt_row {P : Program} (w : World) (g : Nat) (t ty : TypeId) (cs : Array Value) (d : TypeDesc) (hg : w.heap[g]? = some (.cells cs t))
    (hu : P.underlying ty = some d) (hd : (match d with | .struct _ | .array _ _ => true | _ => false) = true) (hi : (P.info? ty).map (·.size) = some cs.size) :
    (Instr.loadAt ty (.pointer (some ⟨g, 0, none⟩))).run P w = .ok (.agg cs) w := by
  simp only [Instr.loadAt, Instr.sureAddr, Sem.run_bind, Sem.run_pure, Result.andThen]
  exact run_loadVar_row w g t ty cs _ d hg hu hd hi
theorem wpList_load_mid_g {P : Program} {ops : Array Oper} {rest : List Oper} {op : Oper} {a : Act} {w : World} {Q : Exit → Act → World → Prop} (hw : Region.wanted op (yielded ops a.tmps) = true) (ty : TypeId) (x : Operand) (ho : op.op = .load ty x)
    (b o : Nat) (hx : a.eval x = .pointer (some ⟨b, o, none⟩)) (cs : List Value) (d : TypeDesc) (hc : w.rangeAt b o cs)
    (hu : P.underlying ty = some d) (hd : d.isRow = true) (hi : (P.info? ty).map (·.size) = some cs.length)
    (h : wpList P ops Q rest (a.put op.dst (.agg cs.toArray)) w) : wpList P ops Q (op :: rest) a w :=
  wpList_step fun K hK => by rw [if_pos hw]; exact wp_load_mid ty x ho b o hx cs d hc hu hd hi (hK _ _ h)
/-- A whole array out of a block that is known, behind a guard that is met. -/
theorem wpList_load_row_g {P : Program} {ops : Array Oper} {rest : List Oper} {o : Oper} {a : Act} {w : World} {Q : Exit → Act → World → Prop} (hw : Region.wanted o (yielded ops a.tmps) = true) (ty : TypeId) (x : Operand) (ho : o.op = .load ty x)
    (g : Nat) (hx : a.eval x = .pointer (some ⟨g, 0, none⟩)) (t : TypeId) (cs : Array Value) (fr : Nat × Nat) (d : TypeDesc) (hg : w.heap[g]? = some (.cells cs t fr))
    (hu : P.underlying ty = some d) (hd : (match d with | .struct _ | .array _ _ => true | _ => false) = true) (hi : (P.info? ty).map (·.size) = some cs.size)
    (h : wpList P ops Q rest (a.put o.dst (.agg cs)) w) : wpList P ops Q (o :: rest) a w :=
  wpList_step fun K hK => by rw [if_pos hw]; exact wp_load_row ty x ho g hx t cs fr d hg hu hd hi (hK _ _ h)
/-- A variable of several cells at whatever address. -/
theorem run_loadVar_at {P : Program} (w : World) (a : Addr) (ty : TypeId) (cs : List Value) (d : TypeDesc) (hc : ∀ j v, cs[j]? = some v → w.cell? (a.add j) = some v)
    (hu : P.underlying ty = some d) (hd : d.isRow = true) (hi : (P.info? ty).map (·.size) = some cs.length) :
    (loadVar ty a).run P w = .ok (.agg cs.toArray) w := by
  have hl : (loadCells a cs.length).run P w = .ok cs.toArray w := run_loadCells_list (P := P) w a cs hc
  cases hq : P.info? ty with
  | none => simp [hq] at hi
  | some i =>
    have hs : i.size = cs.length := by simpa [hq] using hi
    have hagg : (isAgg ty).run P w = .ok true w := by
      unfold isAgg
      rw [Sem.run_bind, run_underlying hu w]
      cases d <;> simp_all
    simp [loadVar, Sem.run_bind, hagg, Go.sizeOf, typeInfo, hq, hs, hl]
theorem wp_load_at {P : Program} {op : Oper} {a : Act} {w : World} {K : Act → World → Prop} {Q : Exit → Act → World → Prop} (ty : TypeId) (x : Operand) (ho : op.op = .load ty x)
    (p : Addr) (hx : a.eval x = .pointer (some p)) (cs : List Value) (d : TypeDesc) (hc : ∀ j v, cs[j]? = some v → w.cell? (p.add j) = some v)
    (hu : P.underlying ty = some d) (hd : d.isRow = true) (hi : (P.info? ty).map (·.size) = some cs.length)
    (h : K (a.put op.dst (.agg cs.toArray)) w) : op.wp P a w K Q := by
  unfold Oper.wp execOp
  simp only [ho, hx, Instr.loadAt, Instr.sureAddr, Sem.run_bind, Sem.run_pure, Result.andThen_ok, run_loadVar_at w p ty cs d hc hu hd hi]
  exact h
theorem wpList_load_at {P : Program} {ops : Array Oper} {rest : List Oper} {op : Oper} {a : Act} {w : World} {Q : Exit → Act → World → Prop} (hgd : op.guard = none) (ty : TypeId) (x : Operand) (ho : op.op = .load ty x)
    (p : Addr) (hx : a.eval x = .pointer (some p)) (cs : List Value) (d : TypeDesc) (hc : ∀ j v, cs[j]? = some v → w.cell? (p.add j) = some v)
    (hu : P.underlying ty = some d) (hd : d.isRow = true) (hi : (P.info? ty).map (·.size) = some cs.length)
    (h : wpList P ops Q rest (a.put op.dst (.agg cs.toArray)) w) : wpList P ops Q (op :: rest) a w :=
  wpList_plain hgd fun _ hK => wp_load_at ty x ho p hx cs d hc hu hd hi (hK _ _ h)
/-- An aggregate, built: its cells under a name. -/
theorem wpList_build_as {P : Program} {ops : Array Oper} {rest : List Oper} {o : Oper} {a : Act} {w : World} {Q : Exit → Act → World → Prop} (hg : o.guard = none) (t : TypeId) (parts : Array (Nat × Operand)) (ho : o.op = .build t parts) (cs : Array Value)
    (hb : P.built t (parts.map fun (i, x) => (i, a.eval x)).toList = some cs) (h : wpList P ops Q rest (a.put o.dst (.agg cs)) w) : wpList P ops Q (o :: rest) a w := by
  refine wpList_build hg t parts ho (by rw [hb]; rfl) ?_
  rw [hb]
  exact h

theorem ObF.rta {cs : Array Value} {o : Ob} {ev pv : Value} (F : ObF cs o ev pv) {w : World} {g : Nat} {t : TypeId} (h : w.heap[g]? = some (.cells cs t)) : w.rangeAt g 38 (idC o.target) := fun j v hv => by
  rw [cell_of_row _ _ _ cs t (0, 0) h]; exact F.ta j v hv
theorem ObF.rtr {cs : Array Value} {o : Ob} {ev pv : Value} (F : ObF cs o ev pv) {w : World} {g : Nat} {t : TypeId} (h : w.heap[g]? = some (.cells cs t)) : w.rangeAt g 3 (idC o.tree) := fun j v hv => by
  rw [cell_of_row _ _ _ cs t (0, 0) h]; exact F.tr j v hv
theorem idsize {l : List UInt8} (h : l.length = 32) : (Tryd.prog.info? 35).map (·.size) = some (idC l).length := by rw [idC_length, h]; exact info24
theorem obsize {cs : Array Value} (h : cs.size = 72) : (Tryd.prog.info? 42).map (·.size) = some cs.size := by rw [h]; exact info28

end Go.Proofs.YtipigedopmgemaaDoor
end

section
namespace Go.Proofs.YtipigedopmgemaaDoor
open Go.RowKit
set_option linter.unusedVariables false
set_option linter.unusedSimpArgs false

def blobZ (o : Ob) : Bool := o.data.toList.isEmpty
def treeZ (o : Ob) : Bool := o.ents.isEmpty
def commitZ (o : Ob) : Bool := decide (o.tree = zId) && o.pars.isEmpty && decide (o.time = 0) && o.text.toList.isEmpty
def tagZ (o : Ob) : Bool := decide (o.target = zId) && decide (o.of = 0) && o.name.toList.isEmpty
theorem ret_bool {a b : Bool} (h : a = b) : Ending.returned (.bool a) = .returned (.bool b) := by rw [h]

set_option maxRecDepth 100000 in
theorem blobZ_any (cs : Array Value) (o : Ob) (ev pv : Value) (w : World) (F : ObF cs o ev pv) :
    Calls Tryd.prog 79 #[.agg cs] w fun r w' => r = .returned (.bool (blobZ o)) ∧ Below w.heap.size w w' := by
  have c1 := F.c1
  go_enter Tryd.func79, Tryd.ntmps79
  go_wp2
  go_ret
  exact ⟨rfl, (Below.refl _ _).alloc (Nat.le_refl _) _⟩

set_option maxRecDepth 100000 in
theorem treeZ_any (cs : Array Value) (o : Ob) (ao : Option Addr) (cap : Nat) (pv : Value) (w : World) (F : ObF cs o (.slice ao o.ents.length cap) pv) :
    Calls Tryd.prog 80 #[.agg cs] w fun r w' => r = .returned (.bool (treeZ o)) ∧ Below w.heap.size w w' := by
  have c2 := F.c2
  go_enter Tryd.func80, Tryd.ntmps80
  go_wp2
  go_ret
  refine ⟨ret_bool ?_, (Below.refl _ _).alloc (Nat.le_refl _) _⟩
  unfold treeZ; cases o.ents <;> first | rfl | (simp; done) | (simp; omega)

set_option maxRecDepth 100000 in
theorem commitZ_any (cs : Array Value) (o : Ob) (ev : Value) (ao : Option Addr) (cap : Nat) (w : World) (F : ObF cs o ev (.slice ao o.pars.length cap)) :
    Calls Tryd.prog 81 #[.agg cs] w fun r w' => r = .returned (.bool (commitZ o)) ∧ Below w.heap.size w w' := by
  have c35 := F.c35
  have c36 := F.c36
  have c37 := F.c37
  have HI := Lib.hid (idsize F.trl)
  have hu := Lib.hid Tryd.underlying35
  have hq := fun W => eq_id o.tree zId F.trl rfl W
  have hR := Lib.hid (F.rtr (heap_alloc_last w (.cells cs 42)))
  have HZ := Lib.hid (show commitZ o = (decide (o.tree = zId) && o.pars.isEmpty && decide (o.time = 0) && o.text.toList.isEmpty) from rfl)
  generalize commitZ o = z at HZ
  generalize decide (o.tree = zId) = tz at hq HZ
  go_enter Tryd.func81, Tryd.ntmps81
  go_wp2_with ((with_reducible refine at_wl ?_); first | (refine wpList_load_mid rfl 35 _ rfl w.heap.size 3 rfl _ _ hR.out hu.out rfl HI.out ?_) | (refine wpList_build_as rfl 35 _ rfl (idC zId).toArray (by kernel_rfl) ?_))
  all_goals
    go_ret
    exact ⟨ret_bool (by rw [HZ.out]; simp [*]), (Below.refl _ _).alloc (Nat.le_refl _) _⟩

set_option maxRecDepth 100000 in
theorem tagZ_any (cs : Array Value) (o : Ob) (ev pv : Value) (w : World) (F : ObF cs o ev pv) :
    Calls Tryd.prog 82 #[.agg cs] w fun r w' => r = .returned (.bool (tagZ o)) ∧ Below w.heap.size w w' := by
  have c70 := F.c70
  have c71 := F.c71
  have HI := Lib.hid (idsize F.tal)
  have hu := Lib.hid Tryd.underlying35
  have hq := fun W => eq_id o.target zId F.tal rfl W
  have hR := Lib.hid (F.rta (heap_alloc_last w (.cells cs 42)))
  have HZ := Lib.hid (show tagZ o = (decide (o.target = zId) && decide (o.of = 0) && o.name.toList.isEmpty) from rfl)
  generalize tagZ o = z at HZ
  generalize decide (o.target = zId) = tz at hq HZ
  go_enter Tryd.func82, Tryd.ntmps82
  go_wp2_with ((with_reducible refine at_wl ?_); first | (refine wpList_load_mid rfl 35 _ rfl w.heap.size 38 rfl _ _ hR.out hu.out rfl HI.out ?_) | (refine wpList_build_as rfl 35 _ rfl (idC zId).toArray (by kernel_rfl) ?_))
  all_goals
    go_ret
    exact ⟨ret_bool (by rw [HZ.out]; simp [*]), (Below.refl _ _).alloc (Nat.le_refl _) _⟩

set_option maxRecDepth 100000 in
theorem isKind_any (k : Int) (w : World) :
    Calls Tryd.prog 63 #[.int .i64 k] w fun r w' => r = .returned (.bool (decide (1 ≤ k ∧ k ≤ 4))) ∧ w = w' := by
  go_enter Tryd.func63, Tryd.ntmps63
  go_wp2
  all_goals
    go_ret
    exact ⟨ret_bool (by simp <;> omega), rfl⟩

/-- A call's own box, and all that lay before, stands. -/
structure Kp (w : World) (cs : Array Value) (t : TypeId) (W : World) : Prop where
  below : Below w.heap.size w W
  held : W.heap[w.heap.size]? = some (.cells cs t)
theorem Kp.box (w : World) (cs : Array Value) (t : TypeId) : Kp w cs t (w.alloc (.cells cs t)) := ⟨(Below.refl _ _).alloc (Nat.le_refl _) _, heap_alloc_last w _⟩
theorem Kp.step {w W W' : World} {cs : Array Value} {t : TypeId} (h : Kp w cs t W) (hb : Below W.heap.size W W') : Kp w cs t W' :=
  ⟨h.below.trans (hb.mono h.below.size), (hb.block _ (Array.getElem?_eq_some_iff.1 h.held).1).trans h.held⟩
theorem Kp.drew {w W : World} {cs : Array Value} {t : TypeId} (h : Kp w cs t W) : Kp w cs t W.drew := ⟨h.below.drew, h.held⟩
theorem Kp.cell {w W : World} {cs : Array Value} {t : TypeId} (h : Kp w cs t W) {i : Nat} {v : Value} (hc : cs[i]? = some v) : W.cell? ⟨w.heap.size, i, none⟩ = some v := by
  rw [cell_of_row _ _ _ cs t (0, 0) h.held]; exact hc

/-- The whole object out of its box. -/
theorem load_ob_g {ops : Array Oper} {rest : List Oper} {o : Oper} {a : Act} {w0 w : World} {Q : Exit → Act → World → Prop} {cs : Array Value} {x : Operand} (ho : o.op = .load 42 x)
    (hx : a.eval x = .pointer (some ⟨w0.heap.size, 0, none⟩)) (hw : Region.wanted o (yielded ops a.tmps) = true) (k : Kp w0 cs 42 w) (hs : cs.size = 72)
    (h : wpList Tryd.prog ops Q rest (a.put o.dst (.agg cs)) w) : wpList Tryd.prog ops Q (o :: rest) a w :=
  wpList_load_row_g hw 42 x ho w0.heap.size hx _ cs _ _ k.held Tryd.underlying42 rfl (obsize hs) h
theorem wp_load_ob {o : Oper} {a : Act} {w0 w : World} {K : Act → World → Prop} {Q : Exit → Act → World → Prop} {cs : Array Value} {x : Operand} (ho : o.op = .load 42 x)
    (hx : a.eval x = .pointer (some ⟨w0.heap.size, 0, none⟩)) (k : Kp w0 cs 42 w) (hs : cs.size = 72)
    (h : K (a.put o.dst (.agg cs)) w) : o.wp Tryd.prog a w K Q :=
  wp_load_row 42 x ho w0.heap.size hx _ cs _ _ k.held Tryd.underlying42 rfl (obsize hs) h
theorem load_ob {ops : Array Oper} {rest : List Oper} {o : Oper} {a : Act} {w0 w : World} {Q : Exit → Act → World → Prop} {cs : Array Value} {x : Operand} (hg : o.guard = none) (ho : o.op = .load 42 x)
    (hx : a.eval x = .pointer (some ⟨w0.heap.size, 0, none⟩)) (k : Kp w0 cs 42 w) (hs : cs.size = 72)
    (h : wpList Tryd.prog ops Q rest (a.put o.dst (.agg cs)) w) : wpList Tryd.prog ops Q (o :: rest) a w :=
  wpList_load_row hg 42 x ho w0.heap.size hx _ cs _ _ k.held Tryd.underlying42 rfl (obsize hs) h

def foreignZ (o : Ob) : Bool := (o.kind == 1 || blobZ o) && (o.kind == 2 || treeZ o) && (o.kind == 3 || commitZ o) && (o.kind == 4 || tagZ o)
end Go.Proofs.YtipigedopmgemaaDoor
end

section
namespace Go.Proofs.YtipigedopmgemaaDoor
open Go.RowKit
set_option linter.unusedVariables false
set_option linter.unusedSimpArgs false

set_option maxHeartbeats 1000000 in
set_option maxRecDepth 100000 in
theorem foreign_any (cs : Array Value) (o : Ob) (ao bo : Option Addr) (ca cb : Nat) (w : World) (F : ObF cs o (.slice ao o.ents.length ca) (.slice bo o.pars.length cb)) :
    Calls Tryd.prog 61 #[.agg cs] w fun r w' => r = .returned (.bool (foreignZ o)) ∧ Below w.heap.size w w' := by
  have H1 := Lib.hid (fun W => blobZ_any cs o _ _ W F)
  have H2 := Lib.hid (fun W => treeZ_any cs o _ _ _ W F)
  have H3 := Lib.hid (fun W => commitZ_any cs o _ _ _ W F)
  have H4 := Lib.hid (fun W => tagZ_any cs o _ _ W F)
  have HZ := Lib.hid (show foreignZ o = ((o.kind == 1 || blobZ o) && (o.kind == 2 || treeZ o) && (o.kind == 3 || commitZ o) && (o.kind == 4 || tagZ o)) from rfl)
  have HS := Lib.hid F.size
  have c0 := F.c0
  have C0 := Lib.hid F.c0
  have K0 := Kp.box w cs 42
  generalize foreignZ o = z at HZ
  generalize blobZ o = b1 at H1 HZ
  generalize treeZ o = b2 at H2 HZ
  generalize commitZ o = b3 at H3 HZ
  generalize tagZ o = b4 at H4 HZ
  generalize o.kind = k at HZ c0 C0
  clear F
  rcases (by omega : k = 1 ∨ k = 2 ∨ k = 3 ∨ k = 4 ∨ (k ≠ 1 ∧ k ≠ 2 ∧ k ≠ 3 ∧ k ≠ 4)) with rfl | rfl | rfl | rfl | ⟨n1, n2, n3, n4⟩
  · go_enter Tryd.func61, Tryd.ntmps61
    go_wp2_with (first
    | (go_at_call 79; refine (H1.out _).mono ?_; rintro r wx ⟨rfl, hx⟩; have kx := Kp.step (by assumption) hx; have cx := kx.cell C0.out; clear hx)
    | (go_at_call 80; refine (H2.out _).mono ?_; rintro r wx ⟨rfl, hx⟩; have kx := Kp.step (by assumption) hx; have cx := kx.cell C0.out; clear hx)
    | (go_at_call 81; refine (H3.out _).mono ?_; rintro r wx ⟨rfl, hx⟩; have kx := Kp.step (by assumption) hx; have cx := kx.cell C0.out; clear hx)
    | (go_at_call 82; refine (H4.out _).mono ?_; rintro r wx ⟨rfl, hx⟩; have kx := Kp.step (by assumption) hx; have cx := kx.cell C0.out; clear hx)
    | (go_guarded; (with_reducible apply wp_load_ob (k := by assumption) (hs := HS.out)); rfl; rfl))
    all_goals
      go_ret
      exact ⟨ret_bool (by rw [HZ.out]; simp [*]), Kp.below (by assumption)⟩
  · go_enter Tryd.func61, Tryd.ntmps61
    go_wp2_with (first
    | (go_at_call 79; refine (H1.out _).mono ?_; rintro r wx ⟨rfl, hx⟩; have kx := Kp.step (by assumption) hx; have cx := kx.cell C0.out; clear hx)
    | (go_at_call 80; refine (H2.out _).mono ?_; rintro r wx ⟨rfl, hx⟩; have kx := Kp.step (by assumption) hx; have cx := kx.cell C0.out; clear hx)
    | (go_at_call 81; refine (H3.out _).mono ?_; rintro r wx ⟨rfl, hx⟩; have kx := Kp.step (by assumption) hx; have cx := kx.cell C0.out; clear hx)
    | (go_at_call 82; refine (H4.out _).mono ?_; rintro r wx ⟨rfl, hx⟩; have kx := Kp.step (by assumption) hx; have cx := kx.cell C0.out; clear hx)
    | (go_guarded; (with_reducible apply wp_load_ob (k := by assumption) (hs := HS.out)); rfl; rfl))
    all_goals
      go_ret
      exact ⟨ret_bool (by rw [HZ.out]; simp [*]), Kp.below (by assumption)⟩
  · go_enter Tryd.func61, Tryd.ntmps61
    go_wp2_with (first
    | (go_at_call 79; refine (H1.out _).mono ?_; rintro r wx ⟨rfl, hx⟩; have kx := Kp.step (by assumption) hx; have cx := kx.cell C0.out; clear hx)
    | (go_at_call 80; refine (H2.out _).mono ?_; rintro r wx ⟨rfl, hx⟩; have kx := Kp.step (by assumption) hx; have cx := kx.cell C0.out; clear hx)
    | (go_at_call 81; refine (H3.out _).mono ?_; rintro r wx ⟨rfl, hx⟩; have kx := Kp.step (by assumption) hx; have cx := kx.cell C0.out; clear hx)
    | (go_at_call 82; refine (H4.out _).mono ?_; rintro r wx ⟨rfl, hx⟩; have kx := Kp.step (by assumption) hx; have cx := kx.cell C0.out; clear hx)
    | (go_guarded; (with_reducible apply wp_load_ob (k := by assumption) (hs := HS.out)); rfl; rfl))
    all_goals
      go_ret
      exact ⟨ret_bool (by rw [HZ.out]; simp [*]), Kp.below (by assumption)⟩
  · go_enter Tryd.func61, Tryd.ntmps61
    go_wp2_with (first
    | (go_at_call 79; refine (H1.out _).mono ?_; rintro r wx ⟨rfl, hx⟩; have kx := Kp.step (by assumption) hx; have cx := kx.cell C0.out; clear hx)
    | (go_at_call 80; refine (H2.out _).mono ?_; rintro r wx ⟨rfl, hx⟩; have kx := Kp.step (by assumption) hx; have cx := kx.cell C0.out; clear hx)
    | (go_at_call 81; refine (H3.out _).mono ?_; rintro r wx ⟨rfl, hx⟩; have kx := Kp.step (by assumption) hx; have cx := kx.cell C0.out; clear hx)
    | (go_at_call 82; refine (H4.out _).mono ?_; rintro r wx ⟨rfl, hx⟩; have kx := Kp.step (by assumption) hx; have cx := kx.cell C0.out; clear hx)
    | (go_guarded; (with_reducible apply wp_load_ob (k := by assumption) (hs := HS.out)); rfl; rfl))
    all_goals
      go_ret
      exact ⟨ret_bool (by rw [HZ.out]; simp [*]), Kp.below (by assumption)⟩
  · have m1 : (k == 1) = false := beq_eq_false_iff_ne.2 n1
    have m2 : (k == 2) = false := beq_eq_false_iff_ne.2 n2
    have m3 : (k == 3) = false := beq_eq_false_iff_ne.2 n3
    have m4 : (k == 4) = false := beq_eq_false_iff_ne.2 n4
    clear n1 n2 n3 n4
    go_enter Tryd.func61, Tryd.ntmps61
    go_wp2_with (first
    | (go_at_call 79; refine (H1.out _).mono ?_; rintro r wx ⟨rfl, hx⟩; have kx := Kp.step (by assumption) hx; have cx := kx.cell C0.out; clear hx)
    | (go_at_call 80; refine (H2.out _).mono ?_; rintro r wx ⟨rfl, hx⟩; have kx := Kp.step (by assumption) hx; have cx := kx.cell C0.out; clear hx)
    | (go_at_call 81; refine (H3.out _).mono ?_; rintro r wx ⟨rfl, hx⟩; have kx := Kp.step (by assumption) hx; have cx := kx.cell C0.out; clear hx)
    | (go_at_call 82; refine (H4.out _).mono ?_; rintro r wx ⟨rfl, hx⟩; have kx := Kp.step (by assumption) hx; have cx := kx.cell C0.out; clear hx)
    | (go_guarded; (with_reducible apply wp_load_ob (k := by assumption) (hs := HS.out)); rfl; rfl))
    all_goals
      go_ret
      exact ⟨ret_bool (by rw [HZ.out]; simp [*]), Kp.below (by assumption)⟩
end Go.Proofs.YtipigedopmgemaaDoor
end

section
namespace Go.Proofs.YtipigedopmgemaaDoor
open Go.RowKit
set_option linter.unusedVariables false
set_option linter.unusedSimpArgs false

def badB (c : UInt8) : Bool := c == 0 || c == 47
/-- A name that may be. -/
def nameOk (s : ByteArray) : Bool := decide (1 ≤ s.size) && decide (s.size ≤ 40) && !s.data.toList.any badB

theorem badB_eq (c : UInt8) : badB c = (((c.toNat : Int) == 0) || ((c.toNat : Int) == 47)) := by
  have h0 : (c == 0) = ((c.toNat : Int) == 0) := by
    rw [Bool.eq_iff_iff, beq_iff_eq, beq_iff_eq, ← UInt8.toNat_inj]; simp
  have h1 : (c == 47) = ((c.toNat : Int) == 47) := by
    rw [Bool.eq_iff_iff, beq_iff_eq, beq_iff_eq, ← UInt8.toNat_inj]; simp; omega
  rw [badB, h0, h1]

set_option maxHeartbeats 400000 in
set_option maxRecDepth 100000 in
theorem refname_any (s : ByteArray) (w : World) (hs : s.size ≤ maxLen) :
    Calls Tryd.prog 52 #[.string s] w fun r w' => r = .returned (.bool (nameOk s)) ∧ w = w' := by
  unfold maxLen at hs
  have HZ := Lib.hid (show nameOk s = (decide (1 ≤ s.size) && decide (s.size ≤ 40) && !s.data.toList.any badB) from rfl)
  generalize nameOk s = z at HZ
  go_enter Tryd.func52, Tryd.ntmps52
  go_wp2
  go_loop [3] (fun i => ∃ k : Nat, k ≤ s.size ∧ i = .int .i64 k ∧ Hid ((s.data.toList.take k).any badB = false)) (fun i => s.size - (intOf i).toNat)
  case atStart => exact ⟨0, Nat.zero_le _, rfl, by simp [Hid]⟩
  case round =>
    obtain ⟨k, hk, rfl, HN⟩ := hrel
    by_cases hlt : k < s.size
    · have hts : s.data.toList.take (k + 1) = s.data.toList.take k ++ [s[k]] := by
        rw [List.take_succ_eq_append_getElem (by simpa using hlt)]; rfl
      have hbb := badB_eq s[k]
      have hmem : s[k] ∈ s.data.toList := by
        have : s[k] = s.data.toList[k]'(by simpa using hlt) := rfl
        rw [this]; exact List.getElem_mem _
      cases hb : badB s[k] with
      | true =>
        rw [hb] at hbb
        have HZ2 := Lib.hid (show z = false by
          rw [HZ.out]
          have : s.data.toList.any badB = true := List.any_eq_true.2 ⟨_, hmem, hb⟩
          simp [this])
        have HB := Lib.hid hbb
        clear hts hmem hb hbb
        rcases (Bool.or_eq_true _ _).mp HB.out.symm with h0 | h0
        · go_wp2
          go_ret
          exact ⟨ret_bool HZ2.out.symm, rfl⟩
        · by_cases h1 : (((s[k]).toNat : Int) == 0) = true
          · go_wp2
            go_ret
            exact ⟨ret_bool HZ2.out.symm, rfl⟩
          · have h1' := Bool.not_eq_true _ ▸ h1
            go_wp2
            go_ret
            exact ⟨ret_bool HZ2.out.symm, rfl⟩
      | false =>
        rw [hb] at hbb
        have h2 := (Bool.or_eq_false_iff.mp hbb.symm)
        obtain ⟨h0, h1⟩ := h2
        have HN2 := Lib.hid (show (s.data.toList.take (k + 1)).any badB = false by rw [hts, List.any_append, HN.out]; simp [hb])
        clear hts hmem hb hbb
        go_wp2
        go_round
        case rel => exact ⟨k + 1, by omega, by go_num, HN2⟩
        case measure => simp [intOf]; omega
    · have HN2 := Lib.hid (show s.data.toList.any badB = false by
        have := HN.out
        rwa [List.take_of_length_le (by simp; omega)] at this)
      go_wp2
      all_goals
        go_ret
        exact ⟨ret_bool (by rw [HZ.out, HN2.out, Bool.eq_iff_iff]; simp; try omega), rfl⟩

theorem index_neg : ∀ (l : List UInt8) (c : UInt8), Lib.indexByte l c < 0 ↔ l.any (· == c) = false
  | [], c => by simp [Lib.indexByte]
  | x :: r, c => by
    have ih := index_neg r c
    have hg := Lib.indexByte_ge r c
    have e : Lib.indexByte (x :: r) c = if x == c then 0 else if Lib.indexByte r c == -1 then -1 else Lib.indexByte r c + 1 := rfl
    rw [e, List.any_cons]
    generalize Lib.indexByte r c = y at *
    generalize r.any (· == c) = b at *
    cases hx : (x == c)
    · by_cases hy : y = -1
      · subst hy; simpa using ih
      · have hy' : (y == -1) = false := by simpa using hy
        simp only [hy', Bool.false_eq_true, if_false, Bool.false_or]
        rw [← ih]; omega
    · simp
theorem any_bad : ∀ l : List UInt8, l.any badB = (l.any (· == 0) || l.any (· == 47))
  | [] => rfl
  | x :: r => by
    have ih := any_bad r
    simp only [List.any_cons, ih, badB]
    cases (x == 0) <;> cases (x == 47) <;> simp

set_option maxRecDepth 100000 in
theorem name_any (s : ByteArray) (w : World) (hs : s.size ≤ maxLen) :
    Calls Tryd.prog 64 #[.string s] w fun r w' => r = .returned (.bool (nameOk s)) ∧ w = w' := by
  unfold maxLen at hs
  have HZ := Lib.hid (show nameOk s = (decide (1 ≤ s.size) && decide (s.size ≤ 40) && !(s.data.toList.any (· == 0) || s.data.toList.any (· == 47))) by rw [← any_bad]; rfl)
  generalize nameOk s = z at HZ
  have I0 := Lib.hid (Tryd.strings_IndexByte s 0 w)
  have I1 := Lib.hid (Tryd.strings_IndexByte s 47 w)
  have N0 := Lib.hid (index_neg s.data.toList (Int.toNat 0).toUInt8)
  have N1 := Lib.hid (index_neg s.data.toList (Int.toNat 47).toUInt8)
  have e0 : (Int.toNat 0).toUInt8 = 0 := rfl
  have e1 : (Int.toNat 47).toUInt8 = 47 := rfl
  rw [e0] at I0 N0
  rw [e1] at I1 N1
  clear e0 e1
  generalize Lib.indexByte s.data.toList 0 = x0 at I0 N0
  generalize Lib.indexByte s.data.toList 47 = x1 at I1 N1
  generalize s.data.toList.any (· == 0) = b0 at HZ N0
  generalize s.data.toList.any (· == 47) = b1 at HZ N1
  go_enter Tryd.func64, Tryd.ntmps64
  go_wp2_with (first
    | (go_at_call 83; ((with_reducible refine I0.out.mono ?_); rintro e w' ⟨rfl, rfl⟩))
    | (go_at_call 83; ((with_reducible refine I1.out.mono ?_); rintro e w' ⟨rfl, rfl⟩)))
  all_goals
    go_ret
    refine ⟨ret_bool ?_, rfl⟩
    have n0 := N0.out
    have n1 := N1.out
    rw [HZ.out, Bool.eq_iff_iff]
    cases b0 <;> cases b1 <;> simp_all <;> omega
end Go.Proofs.YtipigedopmgemaaDoor
end

section
namespace Go.Proofs.YtipigedopmgemaaDoor
open Go.RowKit
set_option linter.unusedVariables false
set_option linter.unusedSimpArgs false

theorem ensize {e : En} (h : e.id.length = 32) : (Tryd.prog.info? 90).map (·.size) = some (enC e).length := by rw [enC_length, h]; exact info45
section
variable {ops : Array Oper} {rest : List Oper} {op : Oper} {a : Act} {w : World} {Q : Exit → Act → World → Prop} {K : Act → World → Prop} {x y : Operand} {p : Addr}

/-- An entry, out of wherever. -/
theorem ld_en {e : En} (ho : op.op = .load 90 x) (hx : a.eval x = .pointer (some p)) (hg : op.guard = none) (hc : ∀ j v, (enC e)[j]? = some v → w.cell? (p.add j) = some v) (hid : e.id.length = 32)
    (h : wpList Tryd.prog ops Q rest (a.put op.dst (.agg (enC e).toArray)) w) : wpList Tryd.prog ops Q (op :: rest) a w :=
  wpList_load_at hg 90 x ho p hx _ _ hc under45 rfl (ensize hid) h
/-- An id, out of wherever. -/
theorem ld_id {l : List UInt8} (ho : op.op = .load 35 x) (hx : a.eval x = .pointer (some p)) (hg : op.guard = none) (hc : ∀ j v, (idC l)[j]? = some v → w.cell? (p.add j) = some v) (hl : l.length = 32)
    (h : wpList Tryd.prog ops Q rest (a.put op.dst (.agg (idC l).toArray)) w) : wpList Tryd.prog ops Q (op :: rest) a w :=
  wpList_load_at hg 35 x ho p hx _ _ hc Tryd.underlying35 rfl (idsize hl) h
theorem wp_id {l : List UInt8} (ho : op.op = .load 35 x) (hx : a.eval x = .pointer (some p)) (hc : ∀ j v, (idC l)[j]? = some v → w.cell? (p.add j) = some v) (hl : l.length = 32)
    (h : K (a.put op.dst (.agg (idC l).toArray)) w) : op.wp Tryd.prog a w K Q :=
  wp_load_at 35 x ho p hx _ _ hc Tryd.underlying35 rfl (idsize hl) h
/-- An id, out of the middle of a block. -/
theorem ld_idm {l : List UInt8} {b o : Nat} (ho : op.op = .load 35 x) (hx : a.eval x = .pointer (some ⟨b, o, none⟩)) (hg : op.guard = none) (hc : w.rangeAt b o (idC l)) (hl : l.length = 32)
    (h : wpList Tryd.prog ops Q rest (a.put op.dst (.agg (idC l).toArray)) w) : wpList Tryd.prog ops Q (op :: rest) a w :=
  wpList_load_mid hg 35 x ho b o hx _ _ hc Tryd.underlying35 rfl (idsize hl) h
theorem wp_idm {l : List UInt8} {b o : Nat} (ho : op.op = .load 35 x) (hx : a.eval x = .pointer (some ⟨b, o, none⟩)) (hc : w.rangeAt b o (idC l)) (hl : l.length = 32)
    (h : K (a.put op.dst (.agg (idC l).toArray)) w) : op.wp Tryd.prog a w K Q :=
  wp_load_mid 35 x ho b o hx _ _ hc Tryd.underlying35 rfl (idsize hl) h
/-- A value of several cells into the block that was made last. -/
theorem st_new {t : TypeId} {c cs : Array Value} (n : Nat) (ho : op.op = .store t x y) (hx : a.eval x = .pointer (some ⟨w.heap.size, 0, none⟩)) (hy : a.eval y = .agg cs) (hg : op.guard = none) (hc : c.size = n)
    (hi : (Tryd.prog.info? t).map (·.size) = some n) (hs : cs.size = n) (h1 : cs.all (·.oneCell') = true)
    (h : wpList Tryd.prog ops Q rest (a.put op.dst undef) (w.alloc (.cells cs t))) : wpList Tryd.prog ops Q (op :: rest) a (w.alloc (.cells c t)) := by
  refine wpList_store_row hg t x y ho w.heap.size cs hx hy t c (heap_alloc_last w _) (by rw [hs]; exact hi) (by rw [hc, hs]) h1 ?_
  rw [World.setRow_alloc_new]
  exact h
theorem st_en {e : En} {c : Array Value} (ho : op.op = .store 90 x y) (hx : a.eval x = .pointer (some ⟨w.heap.size, 0, none⟩)) (hy : a.eval y = .agg (enC e).toArray) (hg : op.guard = none) (hc : c.size = 34) (hid : e.id.length = 32)
    (h : wpList Tryd.prog ops Q rest (a.put op.dst undef) (w.alloc (.cells (enC e).toArray 90))) : wpList Tryd.prog ops Q (op :: rest) a (w.alloc (.cells c 90)) :=
  st_new 34 ho hx hy hg hc info45 (by simp [enC_length, hid]) (all_oneCell_toArray (enC_one e)) h
theorem st_id {l : List UInt8} {c : Array Value} (ho : op.op = .store 35 x y) (hx : a.eval x = .pointer (some ⟨w.heap.size, 0, none⟩)) (hy : a.eval y = .agg (idC l).toArray) (hg : op.guard = none) (hc : c.size = 32) (hl : l.length = 32)
    (h : wpList Tryd.prog ops Q rest (a.put op.dst undef) (w.alloc (.cells (idC l).toArray 35))) : wpList Tryd.prog ops Q (op :: rest) a (w.alloc (.cells c 35)) :=
  st_new 32 ho hx hy hg hc info24 (by simp [idC_length, hl]) (all_oneCell_toArray (idC_one l)) h
theorem st_ob {cs c : Array Value} (ho : op.op = .store 42 x y) (hx : a.eval x = .pointer (some ⟨w.heap.size, 0, none⟩)) (hy : a.eval y = .agg cs) (hg : op.guard = none) (hc : c.size = 72) (hs : cs.size = 72) (h1 : cs.all (·.oneCell') = true)
    (h : wpList Tryd.prog ops Q rest (a.put op.dst undef) (w.alloc (.cells cs 42))) : wpList Tryd.prog ops Q (op :: rest) a (w.alloc (.cells c 42)) :=
  st_new 72 ho hx hy hg hc info28 hs h1 h
end

theorem ent_cells {w : World} {ao : Option Addr} {n cap : Nat} {es : List En} (h : RowsAt w (.slice ao n cap) 34 (es.map enC)) (i : Nat) (e : En) (hi : es[i]? = some e) :
    ∃ a, ao = some a ∧ ∀ j x, (enC e)[j]? = some x → w.cell? ((a.add (i * 34)).add j) = some x := by
  obtain ⟨a, h1, _, h3⟩ := h.elem i (enC e) (by simp [hi])
  exact ⟨a, h1, h3⟩
theorem par_cells {w : World} {ao : Option Addr} {n cap : Nat} {ps : List (List UInt8)} (h : RowsAt w (.slice ao n cap) 32 (ps.map idC)) (i : Nat) (l : List UInt8) (hi : ps[i]? = some l) :
    ∃ a, ao = some a ∧ ∀ j x, (idC l)[j]? = some x → w.cell? ((a.add (i * 32)).add j) = some x := by
  obtain ⟨a, h1, _, h3⟩ := h.elem i (idC l) (by simp [hi])
  exact ⟨a, h1, h3⟩
theorem en_rid {e : En} {w : World} {g : Nat} {t : TypeId} (h : w.heap[g]? = some (.cells (enC e).toArray t)) : w.rangeAt g 2 (idC e.id) := fun j v hv => by
  rw [cell_of_row _ _ _ _ t (0, 0) h]
  simp only [enC, List.getElem?_toArray]
  rw [show 2 + j = j + 1 + 1 by omega, List.getElem?_cons_succ, List.getElem?_cons_succ]
  exact hv
theorem id_rid {l : List UInt8} {w : World} {g : Nat} {t : TypeId} (h : w.heap[g]? = some (.cells (idC l).toArray t)) : w.rangeAt g 0 (idC l) := fun j v hv => by
  rw [cell_of_row _ _ _ _ t (0, 0) h]
  simpa using hv
/-- An id in the middle of a block, as a string. -/
theorem conv_idm (w : World) (b o : Nat) (l : List UInt8) (h : l.length = 32) (hc : w.rangeAt b o (idC l)) :
    (convert 56 9 (.slice (some ⟨b, o, none⟩) 32 32)).run Tryd.prog w = .ok (.string ⟨l.toArray⟩) w :=
  conv_id w ⟨b, o, none⟩ l h (fun j v hv => by rw [Addr.add_mid]; exact hc j v hv)

end Go.Proofs.YtipigedopmgemaaDoor
end
