/-
  WHAT THE WALKS STAND ON.
-/
import Derived.Test.YtkcjhkfelaplkaaProg
import Derived.Lib.Varint
import Derived.Test.YtkcjhkfelaplkaaRows
import Derived.WalkKit
import Derived.WalkSpells
import Derived.WalkLawsBesides
import Derived.Lib.Hide
import Derived.Lib.VarintBits
import Derived.Deep.QuietTactic
import Derived.BigQuiet
import Derived.Deep.MidRow
import Derived.Deep.WholeRow
import Derived.Deep.Cut
import Derived.StillTailTactics
import Derived.IntWalk
import Derived.Laws.StructEq
import Derived.ChangeKeysEq
import Derived.Deep.RegionHeld3
import Derived.Great.Walk
import Derived.Lib.BufferWrite
import Derived.Deep.Upon
import Derived.Laws.BitsLemmas
import Derived.Laws.BitsAllLaws
import Derived.Laws.Rows
import Derived.Laws.CopyOwn
import Derived.Lib.ConvBytes
import Derived.Laws.AppendOwn
import Derived.Laws.IdiomStrings
import Derived.Deep.CutRange
import Derived.ProofKit
import Derived.OpenShut
import Derived.SizedLaws
import Derived.LaidMore
import Derived.LaidLaws
import Derived.Lib.LaidTab
import Derived.Stop.Joined
import Derived.OwnWalk
import Derived.Deep.Heap
import Derived.Deep.RegionWith
import Derived.Deep.RegionLaw
import Derived.Deep.AppendLies
import Derived.Sort.Walk0
import Derived.Lib.Overlaps
import Derived.Lib.AppendZerosOnto
import Derived.Lib.SliceRun
import Derived.Maps.OwnSet
import Derived.WideKeyArr2
import Derived.Carry
import Derived.Maps.AppendAt
import Derived.Shelf.SlSortCmp.WholeK
import Derived.Laws.AppendOwnNone
import Derived.Shelf.SlSortCmp.KitK
section
section
namespace Go.Proofs.Ytkcjhkfelaplkaa
namespace Vi
open Go.Lib (uvarint uvarint_small uvarint_big uvarint_length64 uvarint_pos)

/-- What groups of seven bits spell, the lowest first. -/
def val : List UInt8 → Nat
  | [] => 0
  | b :: r => b.toNat % 128 + 128 * val r

theorem val_append : ∀ c d : List UInt8, val (c ++ d) = val c + 128 ^ c.length * val d
  | [], d => by simp [val]
  | b :: r, d => by
    simp only [List.cons_append, val, List.length_cons, val_append r d, Nat.pow_succ]
    rw [Nat.mul_add, Nat.mul_comm (128 ^ r.length) 128, Nat.mul_assoc]
    omega

theorem val_one (b : UInt8) : val [b] = b.toNat % 128 := by simp [val]

theorem val_lt : ∀ c : List UInt8, val c < 128 ^ c.length
  | [] => by simp [val]
  | b :: r => by
    have := val_lt r
    simp only [val, List.length_cons, Nat.pow_succ]
    omega

theorem val_take_succ (l : List UInt8) (k : Nat) (h : k < l.length) : val (l.take (k + 1)) = val (l.take k) + 128 ^ k * (l[k].toNat % 128) := by
  rw [List.take_succ_eq_append_getElem h, val_append, val_one, List.length_take, Nat.min_eq_left (by omega)]

/-- The bytes of l up to and with the one at e are the encoding of a number. -/
structure Ok (l : List UInt8) (e : Nat) : Prop where
  lt10 : e < 10
  lt : e < l.length
  more : ∀ (j : Nat) (h : j < l.length), j < e → 128 ≤ l[j].toNat
  last : l[e].toNat < 128
  least : 0 < e → l[e].toNat ≠ 0
  fits : e = 9 → l[e].toNat ≤ 1

theorem Ok.val_lt {l : List UInt8} {e : Nat} (h : Ok l e) : val (l.take (e + 1)) < 18446744073709551616 := by
  have hlt := h.lt
  rw [val_take_succ l e hlt]
  have h1 := Vi.val_lt (l.take e)
  rw [List.length_take, Nat.min_eq_left (by have := h.lt; omega)] at h1
  by_cases h9 : e = 9
  · have h2 := h.fits h9
    have h3 : l[e].toNat % 128 ≤ 1 := by omega
    have e9 : (128 : Nat) ^ e = 9223372036854775808 := by rw [h9]
    rw [e9] at h1 ⊢
    omega
  · have hle : e + 1 ≤ 9 := by have := h.lt10; omega
    have h4 : (128 : Nat) ^ (e + 1) ≤ 128 ^ 9 := Nat.pow_le_pow_right (by decide) hle
    have e9 : (128 : Nat) ^ 9 = 9223372036854775808 := by decide
    rw [Nat.pow_succ, e9] at h4
    have h5 : 128 ^ e * (l[e].toNat % 128) ≤ 128 ^ e * 127 := Nat.mul_le_mul_left _ (by omega)
    omega

/-- A list of bytes that is an encoding: all but the last have the bit 128, the last has not, and is not 0 if there is another. -/
def Can : List UInt8 → Prop
  | [] => False
  | [b] => b.toNat < 128
  | b :: c :: r => 128 ≤ b.toNat ∧ Can (c :: r) ∧ 0 < val (c :: r)

theorem byte_back (b : UInt8) (n : Nat) (h : n = b.toNat) : n.toUInt8 = b := by
  subst h; simp [Nat.toUInt8]

theorem Can.enc : ∀ c : List UInt8, Can c → uvarint (val c) = c
  | [], h => h.elim
  | [b], h => by
    have h' : b.toNat < 128 := h
    rw [val_one, Nat.mod_eq_of_lt h', uvarint_small h', byte_back b _ rfl]
  | b :: c :: r, h => by
    obtain ⟨h1, h2, h3⟩ := h
    have ih := Can.enc (c :: r) h2
    have hb := b.toNat_lt
    have hv : val (b :: c :: r) = b.toNat % 128 + 128 * val (c :: r) := rfl
    generalize val (c :: r) = v at *
    rw [hv, uvarint_big (by omega), byte_back b _ (by omega), show (b.toNat % 128 + 128 * v) / 128 = v by omega, ih]

theorem can_of : ∀ (c : List UInt8) (h0 : 0 < c.length), (∀ (j : Nat) (h : j < c.length), j < c.length - 1 → 128 ≤ c[j].toNat) →
    c[c.length - 1].toNat < 128 → (1 < c.length → c[c.length - 1].toNat ≠ 0) → Can c ∧ (c[c.length - 1].toNat ≠ 0 → 0 < val c)
  | [], h0, _, _, _ => absurd h0 (by simp)
  | [b], _, _, hl, _ => by
    have hl' : b.toNat < 128 := hl
    refine ⟨hl', fun h => ?_⟩
    have h' : b.toNat ≠ 0 := h
    rw [val_one]; omega
  | b :: c :: r, _, hm, hl, hz => by
    have hlen : (b :: c :: r).length = (c :: r).length + 1 := rfl
    have e1 : (b :: c :: r)[(b :: c :: r).length - 1]'(by simp) = (c :: r)[(c :: r).length - 1]'(by simp) := by simp [List.getElem_cons_succ]
    rw [e1] at hl hz
    have hz' := hz (by simp)
    have ih := can_of (c :: r) (by simp) (fun j h hj => by
        have := hm (j + 1) (by simp at h ⊢; omega) (by simp at hj ⊢; omega)
        simpa using this) hl (fun _ => hz')
    have hb := hm 0 (by simp) (by simp)
    have hp := ih.2 hz'
    refine ⟨⟨by simpa using hb, ih.1, hp⟩, fun _ => ?_⟩
    show 0 < b.toNat % 128 + 128 * val (c :: r)
    omega

theorem Ok.back {l : List UInt8} {e : Nat} (h : Ok l e) : uvarint (val (l.take (e + 1))) = l.take (e + 1) := by
  have hlt := h.lt
  have hlen : (l.take (e + 1)).length = e + 1 := by rw [List.length_take]; omega
  apply Can.enc
  refine (can_of _ (by omega) (fun j hj hj' => ?_) ?_ ?_).1
  · rw [List.getElem_take]; exact h.more j (by omega) (by omega)
  · rw [List.getElem_take]; simp only [hlen, Nat.add_sub_cancel]; exact h.last
  · intro h1
    rw [List.getElem_take]; simp only [hlen, Nat.add_sub_cancel]; exact h.least (by omega)

end Vi
end Go.Proofs.Ytkcjhkfelaplkaa
end

section
namespace Go.Proofs.Ytkcjhkfelaplkaa
open Go.RowKit
set_option linter.unusedVariables false

theorem size_list (s : ByteArray) : s.data.toList.length = s.size := by simp

end Go.Proofs.Ytkcjhkfelaplkaa
end

section
namespace Go.Proofs.Ytkcjhkfelaplkaa
open Go.RowKit
set_option linter.unusedVariables false

theorem Try.infoByte : (Try.prog.info? 5).map (fun i => (i.zero, i.size, i.bytes)) = some (some (.int .u8 0), 1, 1) := by kernel_rfl

/-- Bytes as the cells of a row. -/
def cellsOf (l : List UInt8) : List Value := l.map fun b => Value.int .u8 (b.toNat : Int)
end Go.Proofs.Ytkcjhkfelaplkaa
end

section
namespace Go.Proofs.Ytkcjhkfelaplkaa
open Go.RowKit
set_option linter.unusedVariables false

end Go.Proofs.Ytkcjhkfelaplkaa
end

section
namespace Go.Proofs.Ytkcjhkfelaplkaa
open Go.RowKit
set_option linter.unusedVariables false

end Go.Proofs.Ytkcjhkfelaplkaa
end
end

section
section
namespace Go.Proofs.Ytkcjhkfelaplkaa
open Go.RowKit
set_option linter.unusedVariables false
set_option linter.unusedSimpArgs false

end Go.Proofs.Ytkcjhkfelaplkaa
end

section
namespace Go.Proofs.Ytkcjhkfelaplkaa
open Go.RowKit
set_option linter.unusedVariables false
set_option linter.unusedSimpArgs false

def bv (x : UInt8) : Value := .int .u8 (x.toNat : Int)
def idC (l : List UInt8) : List Value := l.map bv
/-- An entry of a tree. -/
structure En where
  name : ByteArray
  kind : Int
  id : List UInt8
/-- An object. -/
structure Ob where
  kind : Int
  data : ByteArray
  ents : List En
  tree : List UInt8
  pars : List (List UInt8)
  time : Nat
  text : ByteArray
  target : List UInt8
  of : Int
  name : ByteArray
def enC (e : En) : List Value := .string e.name :: .int .i64 e.kind :: idC e.id
theorem idC_length (l : List UInt8) : (idC l).length = l.length := by simp [idC]
theorem idC_one (l : List UInt8) : ∀ v ∈ idC l, v.oneCell' = true := by
  intro v hv; simp only [idC, List.mem_map] at hv; obtain ⟨x, _, rfl⟩ := hv; rfl
theorem bv_inj {x y : UInt8} (h : bv x = bv y) : x = y := by
  simp only [bv, Value.int.injEq, true_and] at h
  exact UInt8.toNat_inj.1 (by omega)
theorem idC_inj : ∀ {a b : List UInt8}, idC a = idC b → a = b
  | [], [], _ => rfl
  | [], _ :: _, h => by simp [idC] at h
  | _ :: _, [], h => by simp [idC] at h
  | x :: a, y :: b, h => by
    simp only [idC, List.map_cons, List.cons.injEq] at h
    rw [bv_inj h.1, idC_inj (a := a) (b := b) h.2]

/-- The 72 cells of an object; its two slices are ev and pv. -/
structure ObF (cs : Array Value) (o : Ob) (ev pv : Value) : Prop where
  c0 : cs[0]? = some (.int .i64 o.kind)
  c1 : cs[1]? = some (.string o.data)
  c2 : cs[2]? = some ev
  tr : ∀ j v, (idC o.tree)[j]? = some v → cs[3 + j]? = some v
  c35 : cs[35]? = some pv
  c36 : cs[36]? = some (.int .u32 (o.time : Int))
  c37 : cs[37]? = some (.string o.text)
  ta : ∀ j v, (idC o.target)[j]? = some v → cs[38 + j]? = some v
  c70 : cs[70]? = some (.int .i64 o.of)
  c71 : cs[71]? = some (.string o.name)
  trl : o.tree.length = 32
  tal : o.target.length = 32
  size : cs.size = 72
  one : cs.all (·.oneCell') = true

/-- A slice whose elements, of k cells each, lie in memory. -/
structure RowsAt (w : World) (v : Value) (k : Nat) (L : List (List Value)) : Prop where
  out : (v = .slice none 0 0 ∧ L = []) ∨ ∃ a cap, v = .slice (some a) L.length cap ∧ ∀ i cs, L[i]? = some cs → cs.length = k ∧ ∀ j x, cs[j]? = some x → w.cell? ((a.add (i * k)).add j) = some x

theorem RowsAt.form {w : World} {v : Value} {k : Nat} {L : List (List Value)} (h : RowsAt w v k L) : ∃ ao cap, v = .slice ao L.length cap := by
  rcases h.out with ⟨rfl, rfl⟩ | ⟨a, cap, rfl, _⟩
  · exact ⟨none, 0, rfl⟩
  · exact ⟨some a, cap, rfl⟩
theorem RowsAt.elem {w : World} {k cap : Nat} {ao : Option Addr} {n : Nat} {L : List (List Value)} (h : RowsAt w (.slice ao n cap) k L) (i : Nat) (cs : List Value) (hi : L[i]? = some cs) :
    ∃ a, ao = some a ∧ cs.length = k ∧ ∀ j x, cs[j]? = some x → w.cell? ((a.add (i * k)).add j) = some x := by
  rcases h.out with ⟨_, rfl⟩ | ⟨a, cap', hv, hc⟩
  · simp at hi
  · simp only [Value.slice.injEq] at hv
    exact ⟨a, hv.1, hc i cs hi⟩
theorem add_block (a : Addr) (n : Nat) : (a.add n).block = a.block := by unfold Addr.add; split <;> rfl
theorem RowsAt.below {w w' : World} {v : Value} {k : Nat} {L : List (List Value)} (h : RowsAt w v k L) (hb : Below w.heap.size w w') : RowsAt w' v k L := by
  refine ⟨?_⟩
  rcases h.out with h0 | ⟨a, cap, hv, hc⟩
  · exact .inl h0
  · refine .inr ⟨a, cap, hv, fun i cs hi => ⟨(hc i cs hi).1, fun j x hx => ?_⟩⟩
    have h1 := (hc i cs hi).2 j x hx
    rw [hb.cell (World.block_lt_of_cell? w _ h1)]
    exact h1
theorem RowsAt.nil (w : World) (k : Nat) : RowsAt w (.slice none 0 0) k [] := ⟨.inl ⟨rfl, rfl⟩⟩

theorem info28 : (Try.prog.info? 67).map (·.size) = some 72 := by kernel_rfl
theorem info24 : (Try.prog.info? 28).map (·.size) = some 32 := by kernel_rfl
def zId : List UInt8 := List.replicate 32 0
end Go.Proofs.Ytkcjhkfelaplkaa
end

section
namespace Go.Proofs.Ytkcjhkfelaplkaa
open Go.RowKit
set_option linter.unusedVariables false
set_option linter.unusedSimpArgs false

theorem info_byte : ∃ i, Try.prog.info? 5 = some i ∧ i.zero = some (.int .u8 0) ∧ i.size = 1 ∧ i.bytes = 1 := info_parts Try.infoByte
theorem cells_byte : Try.prog.cellsOf 5 = 1 := by kernel_rfl
theorem part_byte (xs : Array Value) (i : Nat) (v : Value) (h : xs[i]? = some v) (w : World) : (part 5 xs (i * 1)).run Try.prog w = .ok v w := by
  simp [part, Try.isAgg5, h, Result.andThen]
theorem idC_get (l : List UInt8) (i : Nat) (h : i < l.length) : (idC l).toArray[i]? = some (.int .u8 ((l.getD i 0).toNat : Int)) := by
  simp [idC, bv, h]
theorem eqItems_ids (d : Nat) (a b : List UInt8) (w : World) : ∀ is : List Nat, (∀ i ∈ is, i < a.length ∧ i < b.length) → (Op.eqItems (d + 1) 5 1 (idC a).toArray (idC b).toArray is).run Try.prog w = .ok (is.all fun i => a.getD i 0 == b.getD i 0) w
  | [], _ => by simp [Op.eqItems]
  | i :: is, h => by
    have ih := eqItems_ids d a b w is (fun j hj => h j (by simp [hj]))
    simp only [Op.eqItems, Sem.run_bind, part_byte _ i _ (idC_get a i (h i (by simp)).1), part_byte _ i _ (idC_get b i (h i (by simp)).2), Result.andThen_ok, run_equalIn_int w d 5 .u8 .u8 _ _ Try.underlying5]
    have e : (((a.getD i 0).toNat : Int) == ((b.getD i 0).toNat : Int)) = (a.getD i 0 == b.getD i 0) := by
      rw [Bool.eq_iff_iff, beq_iff_eq, beq_iff_eq, ← UInt8.toNat_inj]; omega
    rw [e, List.all_cons]
    cases (a.getD i 0 == b.getD i 0)
    · simp
    · simpa using ih
theorem ids_all (a b : List UInt8) (ha : a.length = 32) (hb : b.length = 32) : ((List.range 32).all fun i => a.getD i 0 == b.getD i 0) = decide (a = b) := by
  rw [Bool.eq_iff_iff, List.all_eq_true, decide_eq_true_iff]
  constructor
  · intro h
    apply List.ext_getElem?
    intro i
    by_cases hi : i < 32
    · have := h i (by simpa using hi)
      simpa [List.getD_eq_getElem?_getD, List.getElem?_eq_getElem (show i < a.length by omega), List.getElem?_eq_getElem (show i < b.length by omega)] using this
    · rw [List.getElem?_eq_none (by omega), List.getElem?_eq_none (by omega)]
  · rintro rfl i _
    simp
/-- '==' of two ids. -/
theorem eq_ids (a b : List UInt8) (ha : a.length = 32) (hb : b.length = 32) (d : Nat) (w : World) : (Op.equalIn (d + 1 + 1) 28 (.agg (idC a).toArray) (.agg (idC b).toArray)).run Try.prog w = .ok (decide (a = b)) w := by
  obtain ⟨i, hi, _⟩ := info_byte
  rw [run_equalIn_array w (d + 1) _ _ Try.underlying28 hi, cells_byte, eqItems_ids d a b w _ (fun j hj => by have := List.mem_range.1 hj; omega), ids_all a b ha hb]
theorem eq_id (a b : List UInt8) (ha : a.length = 32) (hb : b.length = 32) (w : World) : (Op.equalIn 10000 28 (.agg (idC a).toArray) (.agg (idC b).toArray)).run Try.prog w = .ok (decide (a = b)) w := eq_ids a b ha hb 9998 w

/-- A variable of several cells at whatever address. -/
theorem run_loadVar_at {P : Program} (w : World) (a : Addr) (ty : TypeId) (cs : List Value) (d : TypeDesc) (hc : ∀ j v, cs[j]? = some v → w.cell? (a.add j) = some v)
    (hu : P.underlying ty = some d) (hd : d.isRow = true) (hi : (P.info? ty).map (·.size) = some cs.length) :
    (loadVar ty a).run P w = .ok (.agg cs.toArray) w := by
  have hl : (loadCells a cs.length).run P w = .ok cs.toArray w := run_loadCells_list (P := P) w a cs hc
  cases hq : P.info? ty with
  | none => simp [hq] at hi
  | some i =>
    have hs : i.size = cs.length := by simpa [hq] using hi
    have hagg : (isAgg ty).run P w = .ok true w := by
      unfold isAgg
      rw [Sem.run_bind, run_underlying hu w]
      cases d <;> simp_all
    simp [loadVar, Sem.run_bind, hagg, Go.sizeOf, typeInfo, hq, hs, hl]
theorem wp_load_at {P : Program} {op : Oper} {a : Act} {w : World} {K : Act → World → Prop} {Q : Exit → Act → World → Prop} (ty : TypeId) (x : Operand) (ho : op.op = .load ty x)
    (p : Addr) (hx : a.eval x = .pointer (some p)) (cs : List Value) (d : TypeDesc) (hc : ∀ j v, cs[j]? = some v → w.cell? (p.add j) = some v)
    (hu : P.underlying ty = some d) (hd : d.isRow = true) (hi : (P.info? ty).map (·.size) = some cs.length)
    (h : K (a.put op.dst (.agg cs.toArray)) w) : op.wp P a w K Q := by
  unfold Oper.wp execOp
  simp only [ho, hx, Instr.loadAt, Instr.sureAddr, Sem.run_bind, Sem.run_pure, Result.andThen_ok, run_loadVar_at w p ty cs d hc hu hd hi]
  exact h
theorem wpList_load_at {P : Program} {ops : Array Oper} {rest : List Oper} {op : Oper} {a : Act} {w : World} {Q : Exit → Act → World → Prop} (hgd : op.guard = none) (ty : TypeId) (x : Operand) (ho : op.op = .load ty x)
    (p : Addr) (hx : a.eval x = .pointer (some p)) (cs : List Value) (d : TypeDesc) (hc : ∀ j v, cs[j]? = some v → w.cell? (p.add j) = some v)
    (hu : P.underlying ty = some d) (hd : d.isRow = true) (hi : (P.info? ty).map (·.size) = some cs.length)
    (h : wpList P ops Q rest (a.put op.dst (.agg cs.toArray)) w) : wpList P ops Q (op :: rest) a w :=
  wpList_plain hgd fun _ hK => wp_load_at ty x ho p hx cs d hc hu hd hi (hK _ _ h)
/-- An aggregate, built: its cells under a name. -/
theorem wpList_build_as {P : Program} {ops : Array Oper} {rest : List Oper} {o : Oper} {a : Act} {w : World} {Q : Exit → Act → World → Prop} (hg : o.guard = none) (t : TypeId) (parts : Array (Nat × Operand)) (ho : o.op = .build t parts) (cs : Array Value)
    (hb : P.built t (parts.map fun (i, x) => (i, a.eval x)).toList = some cs) (h : wpList P ops Q rest (a.put o.dst (.agg cs)) w) : wpList P ops Q (o :: rest) a w := by
  refine wpList_build hg t parts ho (by rw [hb]; rfl) ?_
  rw [hb]
  exact h

theorem idsize {l : List UInt8} (h : l.length = 32) : (Try.prog.info? 28).map (·.size) = some (idC l).length := by rw [idC_length, h]; exact info24
theorem obsize {cs : Array Value} (h : cs.size = 72) : (Try.prog.info? 67).map (·.size) = some cs.size := by rw [h]; exact info28

end Go.Proofs.Ytkcjhkfelaplkaa
end

section
namespace Go.Proofs.Ytkcjhkfelaplkaa
open Go.RowKit
set_option linter.unusedVariables false
set_option linter.unusedSimpArgs false

def blobZ (o : Ob) : Bool := o.data.toList.isEmpty
def treeZ (o : Ob) : Bool := o.ents.isEmpty
def commitZ (o : Ob) : Bool := decide (o.tree = zId) && o.pars.isEmpty && decide (o.time = 0) && o.text.toList.isEmpty
def tagZ (o : Ob) : Bool := decide (o.target = zId) && decide (o.of = 0) && o.name.toList.isEmpty
theorem ret_bool {a b : Bool} (h : a = b) : Ending.returned (.bool a) = .returned (.bool b) := by rw [h]

/-- A call's own box, and all that lay before, stands. -/
structure Kp (w : World) (cs : Array Value) (t : TypeId) (W : World) : Prop where
  below : Below w.heap.size w W
  held : W.heap[w.heap.size]? = some (.cells cs t)
theorem Kp.box (w : World) (cs : Array Value) (t : TypeId) : Kp w cs t (w.alloc (.cells cs t)) := ⟨(Below.refl _ _).alloc (Nat.le_refl _) _, heap_alloc_last w _⟩
theorem Kp.step {w W W' : World} {cs : Array Value} {t : TypeId} (h : Kp w cs t W) (hb : Below W.heap.size W W') : Kp w cs t W' :=
  ⟨h.below.trans (hb.mono h.below.size), (hb.block _ (Array.getElem?_eq_some_iff.1 h.held).1).trans h.held⟩
theorem Kp.drew {w W : World} {cs : Array Value} {t : TypeId} (h : Kp w cs t W) : Kp w cs t W.drew := ⟨h.below.drew, h.held⟩
theorem Kp.cell {w W : World} {cs : Array Value} {t : TypeId} (h : Kp w cs t W) {i : Nat} {v : Value} (hc : cs[i]? = some v) : W.cell? ⟨w.heap.size, i, none⟩ = some v := by
  rw [cell_of_row _ _ _ cs t (0, 0) h.held]; exact hc

def foreignZ (o : Ob) : Bool := (o.kind == 1 || blobZ o) && (o.kind == 2 || treeZ o) && (o.kind == 3 || commitZ o) && (o.kind == 4 || tagZ o)
end Go.Proofs.Ytkcjhkfelaplkaa
end

section
namespace Go.Proofs.Ytkcjhkfelaplkaa
open Go.RowKit
set_option linter.unusedVariables false
set_option linter.unusedSimpArgs false

end Go.Proofs.Ytkcjhkfelaplkaa
end

section
namespace Go.Proofs.Ytkcjhkfelaplkaa
open Go.RowKit
set_option linter.unusedVariables false
set_option linter.unusedSimpArgs false

def badB (c : UInt8) : Bool := c == 0 || c == 47
/-- A name that may be. -/
def nameOk (s : ByteArray) : Bool := decide (1 ≤ s.size) && decide (s.size ≤ 40) && !s.data.toList.any badB

end Go.Proofs.Ytkcjhkfelaplkaa
end

section
namespace Go.Proofs.Ytkcjhkfelaplkaa
open Go.RowKit
set_option linter.unusedVariables false
set_option linter.unusedSimpArgs false

section
variable {ops : Array Oper} {rest : List Oper} {op : Oper} {a : Act} {w : World} {Q : Exit → Act → World → Prop} {K : Act → World → Prop} {x y : Operand} {p : Addr}

/-- An id, out of wherever. -/
theorem ld_id {l : List UInt8} (ho : op.op = .load 28 x) (hx : a.eval x = .pointer (some p)) (hg : op.guard = none) (hc : ∀ j v, (idC l)[j]? = some v → w.cell? (p.add j) = some v) (hl : l.length = 32)
    (h : wpList Try.prog ops Q rest (a.put op.dst (.agg (idC l).toArray)) w) : wpList Try.prog ops Q (op :: rest) a w :=
  wpList_load_at hg 28 x ho p hx _ _ hc Try.underlying28 rfl (idsize hl) h
/-- A value of several cells into the block that was made last. -/
theorem st_new {t : TypeId} {c cs : Array Value} (n : Nat) (ho : op.op = .store t x y) (hx : a.eval x = .pointer (some ⟨w.heap.size, 0, none⟩)) (hy : a.eval y = .agg cs) (hg : op.guard = none) (hc : c.size = n)
    (hi : (Try.prog.info? t).map (·.size) = some n) (hs : cs.size = n) (h1 : cs.all (·.oneCell') = true)
    (h : wpList Try.prog ops Q rest (a.put op.dst undef) (w.alloc (.cells cs t))) : wpList Try.prog ops Q (op :: rest) a (w.alloc (.cells c t)) := by
  refine wpList_store_row hg t x y ho w.heap.size cs hx hy t c (heap_alloc_last w _) (by rw [hs]; exact hi) (by rw [hc, hs]) h1 ?_
  rw [World.setRow_alloc_new]
  exact h
theorem st_id {l : List UInt8} {c : Array Value} (ho : op.op = .store 28 x y) (hx : a.eval x = .pointer (some ⟨w.heap.size, 0, none⟩)) (hy : a.eval y = .agg (idC l).toArray) (hg : op.guard = none) (hc : c.size = 32) (hl : l.length = 32)
    (h : wpList Try.prog ops Q rest (a.put op.dst undef) (w.alloc (.cells (idC l).toArray 28))) : wpList Try.prog ops Q (op :: rest) a (w.alloc (.cells c 28)) :=
  st_new 32 ho hx hy hg hc info24 (by simp [idC_length, hl]) (all_oneCell_toArray (idC_one l)) h
end

end Go.Proofs.Ytkcjhkfelaplkaa
end
end

section
section
namespace Go.Proofs.Ytkcjhkfelaplkaa
open Go.RowKit
set_option linter.unusedVariables false
set_option linter.unusedSimpArgs false

/-- A name behind another one. -/
def gtB (last name : ByteArray) : Bool := !(Op.bytesLess name.toList last.toList || name.toList == last.toList)
/-- Entries that may be, behind a name. -/
def entsOk : ByteArray → List En → Bool
  | _, [] => true
  | last, e :: r => nameOk e.name && gtB last e.name && (e.kind == 1 || e.kind == 2) && entsOk e.name r

end Go.Proofs.Ytkcjhkfelaplkaa
end

section
namespace Go.Proofs.Ytkcjhkfelaplkaa
open Go.RowKit
set_option linter.unusedVariables false
set_option linter.unusedSimpArgs false

/-- An object in memory, its sizes such as a machine has. -/
structure ObAt (w : World) (cs : Array Value) (o : Ob) (ao bo : Option Addr) (ca cb : Nat) : Prop where
  F : ObF cs o (.slice ao o.ents.length ca) (.slice bo o.pars.length cb)
  E : RowsAt w (.slice ao o.ents.length ca) 34 (o.ents.map enC)
  P : RowsAt w (.slice bo o.pars.length cb) 32 (o.pars.map idC)
  eid : ∀ e ∈ o.ents, e.id.length = 32
  enm : ∀ e ∈ o.ents, e.name.size ≤ maxLen
  pid : ∀ p ∈ o.pars, p.length = 32
  el : o.ents.length ≤ maxLen
  pl : o.pars.length ≤ maxLen
  nm : o.name.size ≤ maxLen
  ti : o.time < 4294967296
theorem ObAt.below {w w' : World} {cs : Array Value} {o : Ob} {ao bo : Option Addr} {ca cb : Nat} (h : ObAt w cs o ao bo ca cb) (hb : Below w.heap.size w w') : ObAt w' cs o ao bo ca cb :=
  ⟨h.F, h.E.below hb, h.P.below hb, h.eid, h.enm, h.pid, h.el, h.pl, h.nm, h.ti⟩

/-- An object that may be, but for the length of its encoding. -/
def validB (o : Ob) : Bool := foreignZ o && (if o.kind = 1 then true else if o.kind = 2 then (decide (o.ents.length ≤ 64) && entsOk .empty o.ents) else if o.kind = 3 then decide (o.pars.length ≤ 8) else if o.kind = 4 then (decide (1 ≤ o.of ∧ o.of ≤ 4) && nameOk o.name) else false)

end Go.Proofs.Ytkcjhkfelaplkaa
end

section
namespace Go.Proofs.Ytkcjhkfelaplkaa
open Go.RowKit
set_option linter.unusedVariables false
set_option linter.unusedSimpArgs false

/-! ### A builder of the call's own -/
/-! ### treeBody -/
end Go.Proofs.Ytkcjhkfelaplkaa
end

section
namespace Go.Proofs.Ytkcjhkfelaplkaa
open Go.RowKit
set_option linter.unusedVariables false
set_option linter.unusedSimpArgs false

end Go.Proofs.Ytkcjhkfelaplkaa
end

section
namespace Go.Proofs.Ytkcjhkfelaplkaa
open Go.RowKit
set_option linter.unusedVariables false
set_option linter.unusedSimpArgs false

end Go.Proofs.Ytkcjhkfelaplkaa
end

section
namespace Go.Proofs.Ytkcjhkfelaplkaa
open Go.RowKit
set_option linter.unusedVariables false
set_option linter.unusedSimpArgs false

end Go.Proofs.Ytkcjhkfelaplkaa
end

section
namespace Go.Proofs.Ytkcjhkfelaplkaa
open Go.RowKit
set_option linter.unusedVariables false
set_option linter.unusedSimpArgs false

end Go.Proofs.Ytkcjhkfelaplkaa
end

section
namespace Go.Proofs.Ytkcjhkfelaplkaa
open Go.RowKit
set_option linter.unusedVariables false
set_option linter.unusedSimpArgs false

end Go.Proofs.Ytkcjhkfelaplkaa
end
end

section
section
namespace Go.Proofs.Ytkcjhkfelaplkaa
open Go.RowKit
set_option linter.unusedVariables false
set_option linter.unusedSimpArgs false

end Go.Proofs.Ytkcjhkfelaplkaa
end

section
namespace Go.Proofs.Ytkcjhkfelaplkaa
open Go.RowKit
set_option linter.unusedVariables false
set_option linter.unusedSimpArgs false

set_option maxRecDepth 100000 in
theorem len32 {l : List UInt8} (h : l.length = 32) : ∃ x0 x1 x2 x3 x4 x5 x6 x7 x8 x9 x10 x11 x12 x13 x14 x15 x16 x17 x18 x19 x20 x21 x22 x23 x24 x25 x26 x27 x28 x29 x30 x31 : UInt8, l = [x0, x1, x2, x3, x4, x5, x6, x7, x8, x9, x10, x11, x12, x13, x14, x15, x16, x17, x18, x19, x20, x21, x22, x23, x24, x25, x26, x27, x28, x29, x30, x31] := by
  rcases l with _ | ⟨x0, l⟩
  · simp at h
  rcases l with _ | ⟨x1, l⟩
  · simp at h
  rcases l with _ | ⟨x2, l⟩
  · simp at h
  rcases l with _ | ⟨x3, l⟩
  · simp at h
  rcases l with _ | ⟨x4, l⟩
  · simp at h
  rcases l with _ | ⟨x5, l⟩
  · simp at h
  rcases l with _ | ⟨x6, l⟩
  · simp at h
  rcases l with _ | ⟨x7, l⟩
  · simp at h
  rcases l with _ | ⟨x8, l⟩
  · simp at h
  rcases l with _ | ⟨x9, l⟩
  · simp at h
  rcases l with _ | ⟨x10, l⟩
  · simp at h
  rcases l with _ | ⟨x11, l⟩
  · simp at h
  rcases l with _ | ⟨x12, l⟩
  · simp at h
  rcases l with _ | ⟨x13, l⟩
  · simp at h
  rcases l with _ | ⟨x14, l⟩
  · simp at h
  rcases l with _ | ⟨x15, l⟩
  · simp at h
  rcases l with _ | ⟨x16, l⟩
  · simp at h
  rcases l with _ | ⟨x17, l⟩
  · simp at h
  rcases l with _ | ⟨x18, l⟩
  · simp at h
  rcases l with _ | ⟨x19, l⟩
  · simp at h
  rcases l with _ | ⟨x20, l⟩
  · simp at h
  rcases l with _ | ⟨x21, l⟩
  · simp at h
  rcases l with _ | ⟨x22, l⟩
  · simp at h
  rcases l with _ | ⟨x23, l⟩
  · simp at h
  rcases l with _ | ⟨x24, l⟩
  · simp at h
  rcases l with _ | ⟨x25, l⟩
  · simp at h
  rcases l with _ | ⟨x26, l⟩
  · simp at h
  rcases l with _ | ⟨x27, l⟩
  · simp at h
  rcases l with _ | ⟨x28, l⟩
  · simp at h
  rcases l with _ | ⟨x29, l⟩
  · simp at h
  rcases l with _ | ⟨x30, l⟩
  · simp at h
  rcases l with _ | ⟨x31, l⟩
  · simp at h
  rcases l with _ | ⟨y, l⟩
  · exact ⟨_, _, _, _, _, _, _, _, _, _, _, _, _, _, _, _, _, _, _, _, _, _, _, _, _, _, _, _, _, _, _, _, rfl⟩
  · simp at h

set_option maxRecDepth 100000 in
theorem builtS_id (l : List UInt8) (h : l.length = 32) : Try.prog.builtSlice 28 1 [(0, .agg (idC l).toArray)] = some (idC l).toArray := by
  obtain ⟨x0, x1, x2, x3, x4, x5, x6, x7, x8, x9, x10, x11, x12, x13, x14, x15, x16, x17, x18, x19, x20, x21, x22, x23, x24, x25, x26, x27, x28, x29, x30, x31, rfl⟩ := len32 h
  kernel_rfl

/-- The cells of an object. -/
def obC (o : Ob) (ev pv : Value) : List Value := .int .i64 o.kind :: .string o.data :: ev :: (idC o.tree ++ (pv :: .int .u32 (o.time : Int) :: .string o.text :: (idC o.target ++ [.int .i64 o.of, .string o.name])))
theorem obC_F (o : Ob) (ev pv : Value) (h1 : o.tree.length = 32) (h2 : o.target.length = 32) (he : ev.oneCell' = true) (hp : pv.oneCell' = true) : ObF (obC o ev pv).toArray o ev pv := by
  have e1 : (idC o.tree).length = 32 := by rw [idC_length, h1]
  have e2 : (idC o.target).length = 32 := by rw [idC_length, h2]
  have g : ∀ j, (obC o ev pv).toArray[35 + j]? = (pv :: .int .u32 (o.time : Int) :: .string o.text :: (idC o.target ++ [.int .i64 o.of, .string o.name]))[j]? := fun j => by
    rw [List.getElem?_toArray, show 35 + j = (32 + j) + 1 + 1 + 1 by omega]
    simp only [obC, List.getElem?_cons_succ]
    rw [List.getElem?_append_right (by omega), e1]
    congr 1; omega
  have g2 : ∀ j, (obC o ev pv).toArray[70 + j]? = ([.int .i64 o.of, .string o.name] : List Value)[j]? := fun j => by
    rw [show 70 + j = 35 + (35 + j) by omega, g, show 35 + j = (32 + j) + 1 + 1 + 1 by omega]
    simp only [List.getElem?_cons_succ]
    rw [List.getElem?_append_right (by omega), e2]
    congr 1; omega
  refine ⟨rfl, rfl, rfl, fun j v hv => ?_, g 0, g 1, g 2, fun j v hv => ?_, g2 0, g2 1, h1, h2, ?_, ?_⟩
  · have hj := (List.getElem?_eq_some_iff.1 hv).1
    rw [List.getElem?_toArray, show 3 + j = j + 1 + 1 + 1 by omega]
    simp only [obC, List.getElem?_cons_succ]
    rw [List.getElem?_append_left hj]; exact hv
  · have hj := (List.getElem?_eq_some_iff.1 hv).1
    rw [show 38 + j = 35 + (j + 1 + 1 + 1) by omega, g]
    simp only [List.getElem?_cons_succ]
    rw [List.getElem?_append_left hj]; exact hv
  · simp [obC, e1, e2]
  · refine all_oneCell_toArray (fun v hv => ?_)
    simp only [obC, List.mem_cons, List.mem_append, List.not_mem_nil, or_false] at hv
    rcases hv with rfl | rfl | rfl | h | rfl | rfl | rfl | h | rfl | rfl
    all_goals first | rfl | exact he | exact hp | exact idC_one _ _ h
def noOb : Ob := ⟨0, ⟨#[]⟩, [], zId, [], 0, ⟨#[]⟩, zId, 0, ⟨#[]⟩⟩
def nilV : Value := .slice none 0 0
set_option maxRecDepth 100000 in
theorem built_none : Try.prog.built 67 [] = some (obC noOb nilV nilV).toArray := by kernel_rfl
end Go.Proofs.Ytkcjhkfelaplkaa
end

section
namespace Go.Proofs.Ytkcjhkfelaplkaa
open Go.RowKit
set_option linter.unusedVariables false
set_option linter.unusedSimpArgs false

/-- A reader in block g: what is left, and whether there was a fault. -/
def Rd (w : World) (g : Nat) (s : ByteArray) (b : Bool) : Prop := w.heap[g]? = some (.cells #[.string s, .bool b] 107)
theorem Rd.c0 {w : World} {g : Nat} {s : ByteArray} {b : Bool} (h : Rd w g s b) : w.cell? ⟨g, 0, none⟩ = some (.string s) := (Lib.cell_of_heap h 0)
theorem Rd.c1 {w : World} {g : Nat} {s : ByteArray} {b : Bool} (h : Rd w g s b) : w.cell? ⟨g, 1, none⟩ = some (.bool b) := (Lib.cell_of_heap h 1)
theorem Rd.f {w : World} {g : Nat} {s : ByteArray} {b : Bool} (h : Rd w g s b) (j : Nat) : w.frozen? ⟨g, j, none⟩ = false := Lib.frozen_of_heap h j
end Go.Proofs.Ytkcjhkfelaplkaa
end

section
namespace Go.Proofs.Ytkcjhkfelaplkaa
open Go.RowKit
set_option linter.unusedVariables false
set_option linter.unusedSimpArgs false

theorem bd_obz {ops : Array Oper} {rest : List Oper} {op : Oper} {a : Act} {w : World} {Q : Exit → Act → World → Prop} {z : Array Value} (ho : op.op = .build 67 #[]) (hg : op.guard = none) (hz : Try.prog.built 67 [] = some z)
    (h : wpList Try.prog ops Q rest (a.put op.dst (.agg z)) w) : wpList Try.prog ops Q (op :: rest) a w :=
  wpList_build_as hg _ _ ho _ (by simpa using hz) h
theorem zero28 : (Try.prog.info? 67).map (fun i => (i.zero, i.size)) = some (some (.agg (obC noOb nilV nilV).toArray), 72) := by kernel_rfl
theorem results_cell_tmp {P : Program} {fn : Func} {p q : Tmp} {ty : TypeId} (h : fn.results = #[.cell p ty, .tmp q]) (tmps : Array Value) (w : World) (g : Nat) (t : TypeId) (cs : Array Value) (fr : Nat × Nat) (d : TypeDesc)
    (hp : tmps.getD p undef = .pointer (some ⟨g, 0, none⟩)) (hg : w.heap[g]? = some (.cells cs t fr))
    (hu : P.underlying ty = some d) (hd : (match d with | .struct _ | .array _ _ => true | _ => false) = true) (hi : (P.info? ty).map (·.size) = some cs.size) :
    (results fn tmps).run P w = .ok (.tuple #[.agg cs, tmps.getD q undef]) w := by
  have hp' : tmps[p]?.getD undef = .pointer (some ⟨g, 0, none⟩) := by simpa using hp
  simp [results, h, hp', asAddr, run_loadVar_row w g t ty cs fr d hg hu hd hi]
/-- The whole object into a block that is known. -/
theorem st_obr {ops : Array Oper} {rest : List Oper} {op : Oper} {a : Act} {w : World} {Q : Exit → Act → World → Prop} {x y : Operand} {g : Nat} {cs c : Array Value} (ho : op.op = .store 67 x y) (hx : a.eval x = .pointer (some ⟨g, 0, none⟩)) (hy : a.eval y = .agg cs) (hgd : op.guard = none)
    (hg : w.heap[g]? = some (.cells c 67)) (hc : c.size = 72) (hs : cs.size = 72) (h1 : cs.all (·.oneCell') = true)
    (h : wpList Try.prog ops Q rest (a.put op.dst undef) (w.setRow g cs)) : wpList Try.prog ops Q (op :: rest) a w :=
  wpList_store_row hgd _ x y ho g cs hx hy _ c hg (obsize hs) (by rw [hc, hs]) h1 h
theorem below_setRow {B : Nat} {a w : World} (h : Below B a w) {g : Nat} (hg : B ≤ g) (cs : Array Value) : Below B a (w.setRow g cs) := by
  refine ⟨h.os, h.tape, h.output, Nat.le_trans h.size (by simp [World.setRow]), fun k hk => ?_⟩
  rw [← h.block k hk]
  simp only [World.setRow, Array.getElem?_modify]
  rw [if_neg (by omega)]
theorem noF : ObF (obC noOb nilV nilV).toArray noOb nilV nilV := obC_F noOb nilV nilV rfl rfl rfl rfl

end Go.Proofs.Ytkcjhkfelaplkaa
end

section
namespace Go.Proofs.Ytkcjhkfelaplkaa
open Go.RowKit
set_option linter.unusedVariables false
set_option linter.unusedSimpArgs false

end Go.Proofs.Ytkcjhkfelaplkaa
end
end

section
section
namespace Go.Proofs.Ytkcjhkfelaplkaa
open Go.RowKit
set_option linter.unusedVariables false
set_option linter.unusedSimpArgs false

theorem setRow_other (w : World) (g k : Nat) (cs : Array Value) (h : k ≠ g) : (w.setRow g cs).heap[k]? = w.heap[k]? := by
  simp only [World.setRow, Array.getElem?_modify]
  rw [if_neg (fun e => h e.symm)]
end Go.Proofs.Ytkcjhkfelaplkaa
end

section
namespace Go.Proofs.Ytkcjhkfelaplkaa
open Go.RowKit
set_option linter.unusedVariables false
set_option linter.unusedSimpArgs false

end Go.Proofs.Ytkcjhkfelaplkaa
end

section
namespace Go.Proofs.Ytkcjhkfelaplkaa
open Go.RowKit
set_option linter.unusedVariables false
set_option linter.unusedSimpArgs false

end Go.Proofs.Ytkcjhkfelaplkaa
end

section
namespace Go.Proofs.Ytkcjhkfelaplkaa
open Go.RowKit
set_option linter.unusedVariables false
set_option linter.unusedSimpArgs false
namespace Rm

def endAt : List UInt8 → Nat
  | [] => 0
  | b :: r => if 128 ≤ b.toNat then endAt r + 1 else 0
theorem endAt_more : ∀ (l : List UInt8) (j : Nat) (h : j < l.length), j < endAt l → 128 ≤ l[j].toNat
  | [], j, h, _ => absurd h (by simp)
  | b :: r, j, h, hj => by
    by_cases hb : 128 ≤ b.toNat
    · simp only [endAt, if_pos hb] at hj
      cases j with
      | zero => exact hb
      | succ j => exact endAt_more r j (by simpa using h) (by omega)
    · simp only [endAt, if_neg hb] at hj; omega
theorem endAt_last : ∀ (l : List UInt8) (h : endAt l < l.length), l[endAt l].toNat < 128
  | [], h => absurd h (by simp)
  | b :: r, h => by
    by_cases hb : 128 ≤ b.toNat
    · have he : endAt (b :: r) = endAt r + 1 := by simp only [endAt, if_pos hb]
      have hr : endAt r < r.length := by rw [he] at h; simpa using h
      have := endAt_last r hr
      have key : ∀ (k : Nat) (hk : k = endAt r + 1) (h : k < (b :: r).length), ((b :: r)[k]).toNat < 128 := by
        intro k hk h; subst hk; simpa using this
      exact key _ he _
    · have he : endAt (b :: r) = 0 := by simp only [endAt, if_neg hb]
      have key : ∀ (k : Nat) (hk : k = 0) (h : k < (b :: r).length), ((b :: r)[k]).toNat < 128 := by
        intro k hk h; subst hk; show b.toNat < 128; omega
      exact key _ he _
/-- The number that bytes begin with, and how many bytes it has. -/
def vget (l : List UInt8) : Option (Nat × Nat) :=
  if endAt l < 10 ∧ endAt l < l.length ∧ (0 < endAt l → (l.getD (endAt l) 0).toNat ≠ 0) ∧ (endAt l = 9 → (l.getD (endAt l) 0).toNat ≤ 1) then some (Vi.val (l.take (endAt l + 1)), endAt l + 1) else none
theorem getD_at (l : List UInt8) (e : Nat) (h : e < l.length) : l.getD e 0 = l[e] := by simp [h]
theorem vget_some {l : List UInt8} {n k : Nat} (h : vget l = some (n, k)) : ∃ e, Vi.Ok l e ∧ n = Vi.val (l.take (e + 1)) ∧ k = e + 1 := by
  unfold vget at h
  split at h
  · rename_i hc
    obtain ⟨h1, h2, h3, h4⟩ := hc
    simp only [Option.some.injEq, Prod.mk.injEq] at h
    rw [getD_at l _ h2] at h3 h4
    exact ⟨endAt l, ⟨h1, h2, endAt_more l, endAt_last l h2, h3, h4⟩, h.1.symm, h.2.symm⟩
  · cases h
theorem vget_bd {l : List UInt8} {n k : Nat} (h : vget l = some (n, k)) : 1 ≤ k ∧ k ≤ l.length ∧ k ≤ 10 ∧ n < 18446744073709551616 := by
  obtain ⟨e, he, rfl, rfl⟩ := vget_some h
  have := he.lt; have := he.lt10
  exact ⟨by omega, by omega, by omega, he.val_lt⟩
def kindV : List UInt8 → Int
  | [] => 0
  | x :: _ => x.toNat
def kindR (b : Bool) : List UInt8 → List UInt8 × Bool
  | [] => ([], true)
  | _ :: r => (r, b)
def vtake (l : List UInt8) : Option (List UInt8 × List UInt8) :=
  match vget l with
  | none => none
  | some (n, k) => if l.length - k < n then none else some ((l.drop k).take n, l.drop (k + n))
def textV (l : List UInt8) : List UInt8 := match vtake l with
  | none => []
  | some (t, _) => t
def textR (b : Bool) (l : List UInt8) : List UInt8 × Bool := match vtake l with
  | none => ([], true)
  | some (_, r) => (r, b)
def idV (l : List UInt8) : List UInt8 := if l.length < 32 then zId else l.take 32
def idR (b : Bool) (l : List UInt8) : List UInt8 × Bool := if l.length < 32 then ([], true) else (l.drop 32, b)
def numV (m : Nat) (l : List UInt8) : Nat := match vget l with
  | none => 0
  | some (n, _) => if m < n then 0 else n
def numR (m : Nat) (b : Bool) (l : List UInt8) : List UInt8 × Bool := match vget l with
  | none => ([], true)
  | some (n, k) => if m < n then ([], true) else (l.drop k, b)

theorem idV_len (l : List UInt8) : (idV l).length = 32 := by
  unfold idV; split
  · rfl
  · rw [List.length_take]; omega

/-! ### taken off: what stood there -/
/-! ### put there: what is taken off -/
/-! ### a tree's entries -/
def oneEn (b : Bool) (l : List UInt8) : En × (List UInt8 × Bool) :=
  (⟨⟨(textV (kindR b l).1).toArray⟩, kindV l, idV (textR (kindR b l).2 (kindR b l).1).1⟩,
   idR (textR (kindR b l).2 (kindR b l).1).2 (textR (kindR b l).2 (kindR b l).1).1)
def treeF : Nat → Bool → List UInt8 → List En → List En × Bool
  | 0, b, _, acc => (acc, b)
  | k + 1, b, l, acc => if l = [] then (acc, b) else treeF k (oneEn b l).2.2 (oneEn b l).2.1 (acc ++ [(oneEn b l).1])
theorem treeF_step {k : Nat} {b : Bool} {l : List UInt8} {acc : List En} (h : l ≠ []) : treeF (k + 1) b l acc = treeF k (oneEn b l).2.2 (oneEn b l).2.1 (acc ++ [(oneEn b l).1]) := by simp [treeF, h]
theorem one_len (b : Bool) (l : List UInt8) (h : l ≠ []) : (oneEn b l).2.1.length < l.length := by
  have h1 : (kindR b l).1.length < l.length := by cases l with
    | nil => exact absurd rfl h
    | cons x r => simp [kindR]
  have h2 : ∀ b' l', (textR b' l').1.length ≤ l'.length := fun b' l' => by
    unfold textR; split
    · simp
    · rename_i t r hv
      unfold vtake at hv
      split at hv
      · cases hv
      · split at hv
        · cases hv
        · simp only [Option.some.injEq, Prod.mk.injEq] at hv
          obtain ⟨_, rfl⟩ := hv
          rw [List.length_drop]; omega
  have h3 : ∀ b' l', (idR b' l').1.length ≤ l'.length := fun b' l' => by
    unfold idR; split
    · simp
    · rw [List.length_drop]; omega
  have e2 := h2 (kindR b l).2 (kindR b l).1
  have e3 := h3 (textR (kindR b l).2 (kindR b l).1).2 (textR (kindR b l).2 (kindR b l).1).1
  show (idR _ _).1.length < l.length
  omega
/-! ### a commit's parents -/
def parsF : Nat → Bool → List UInt8 → List (List UInt8) → List (List UInt8) × (List UInt8 × Bool)
  | 0, b, l, acc => (acc, l, b)
  | k + 1, b, l, acc => parsF k (idR b l).2 (idR b l).1 (acc ++ [idV l])
end Rm
end Go.Proofs.Ytkcjhkfelaplkaa
end

section
namespace Go.Proofs.Ytkcjhkfelaplkaa
open Go.RowKit
set_option linter.unusedVariables false
set_option linter.unusedSimpArgs false
namespace Rm

def maxT : Nat := 4294967295
/-- A body read: the object, what is left, and whether there was a fault. -/
def blobF (t : List UInt8) : Ob × (List UInt8 × Bool) := ({ noOb with kind := 1, data := ⟨t.toArray⟩ }, [], false)
def treeB (t : List UInt8) : Ob × (List UInt8 × Bool) := ({ noOb with kind := 2, ents := (treeF t.length false t []).1 }, [], (treeF t.length false t []).2)
/-- A commit's count, its parents, and what is left behind them. -/
def cmN (t : List UInt8) : Nat := numV 8 (idR false t).1
def cmS (t : List UInt8) : List UInt8 × Bool := numR 8 (idR false t).2 (idR false t).1
def cmP (t : List UInt8) : List (List UInt8) × (List UInt8 × Bool) := parsF (cmN t) (cmS t).2 (cmS t).1 []
def cmT (t : List UInt8) : Nat := numV maxT (cmP t).2.1
def cmU (t : List UInt8) : List UInt8 × Bool := numR maxT (cmP t).2.2 (cmP t).2.1
def cmX (t : List UInt8) : List UInt8 := textV (cmU t).1
def commitB (t : List UInt8) : Ob × (List UInt8 × Bool) := ({ noOb with kind := 3, tree := idV t, pars := (cmP t).1, time := cmT t, text := ⟨(cmX t).toArray⟩ }, textR (cmU t).2 (cmU t).1)
def tgI (t : List UInt8) : List UInt8 × Bool := idR (kindR false t).2 (kindR false t).1
def tagB (t : List UInt8) : Ob × (List UInt8 × Bool) := ({ noOb with kind := 4, target := idV (kindR false t).1, of := kindV t, name := ⟨(textV (tgI t).1).toArray⟩ }, textR (tgI t).2 (tgI t).1)
def bodyF (k : Int) (t : List UInt8) : Ob × (List UInt8 × Bool) := if k = 1 then blobF t else if k = 2 then treeB t else if k = 3 then commitB t else tagB t

/-- The text that an encoding's body is, and what is left. -/
def bdV (l : List UInt8) : List UInt8 := textV (kindR false l).1
def bdR (l : List UInt8) : List UInt8 × Bool := textR (kindR false l).2 (kindR false l).1
/-- The first half of Decode went well. -/
def okA (l : List UInt8) : Bool := decide (bdR l = ([], false)) && decide (1 ≤ kindV l ∧ kindV l ≤ 4)
/-- The second half did. -/
def okB (l : List UInt8) : Bool := decide ((bodyF (kindV l) (bdV l)).2 = ([], false)) && validB (bodyF (kindV l) (bdV l)).1
def dec (l : List UInt8) : Option Ob := if l.length ≤ 4096 ∧ okA l = true ∧ okB l = true then some (bodyF (kindV l) (bdV l)).1 else none

theorem mk_size (t : List UInt8) : (ByteArray.mk t.toArray).size = t.length := by rw [← size_list]

end Rm
end Go.Proofs.Ytkcjhkfelaplkaa
end

section
namespace Go.Proofs.Ytkcjhkfelaplkaa
open Go.RowKit
set_option linter.unusedVariables false
set_option linter.unusedSimpArgs false

/-- A reader in block g: what is left, as a list. -/
def Rl (w : World) (g : Nat) (s : List UInt8 × Bool) : Prop := Rd w g ⟨s.1.toArray⟩ s.2
end Go.Proofs.Ytkcjhkfelaplkaa
end
end

section
section
namespace Go.Proofs.Ytkcjhkfelaplkaa
open Go.RowKit
set_option linter.unusedVariables false
set_option linter.unusedSimpArgs false

theorem Rl.grown {w w' : World} {g k : Nat} {p : List UInt8 × Bool} (h : Rl w g p) (hg : w.grownBy w' (some k)) (hne : g ≠ k) : Rl w' g p :=
  (hg.block g (Array.getElem?_eq_some_iff.1 h).1 (by simpa using hne)).trans h
theorem Rl.alloc {w : World} {g : Nat} {p : List UInt8 × Bool} (h : Rl w g p) (o : Obj) : Rl (w.alloc o) g p := (Lib.alloc_old w o g (Array.getElem?_eq_some_iff.1 h).1).trans h
theorem Rl.setRow {w : World} {g k : Nat} {p : List UInt8 × Bool} (h : Rl w g p) (cs : Array Value) (hne : g ≠ k) : Rl (w.setRow k cs) g p := (setRow_other _ _ _ _ hne).trans h
theorem held_grown {w w' : World} {g k : Nat} {o : Obj} (h : w.heap[g]? = some o) (hg : w.grownBy w' (some k)) (hne : g ≠ k) : w'.heap[g]? = some o :=
  (hg.block g (Array.getElem?_eq_some_iff.1 h).1 (by simpa using hne)).trans h
theorem RowsAt.setRow {w : World} {k m : Nat} {cs : Array Value} {ao : Option Addr} {n cap : Nat} {L : List (List Value)} (h : RowsAt w (.slice ao n cap) m L) (hk : ∀ a, ao = some a → a.block ≠ k) : RowsAt (w.setRow k cs) (.slice ao n cap) m L := by
  refine ⟨?_⟩
  rcases h.out with h0 | ⟨a, cap', hv, hc⟩
  · exact .inl h0
  · refine .inr ⟨a, cap', hv, fun i c hi => ⟨(hc i c hi).1, fun j x hx => ?_⟩⟩
    have h1 := (hc i c hi).2 j x hx
    simp only [Value.slice.injEq] at hv
    have hne := hk a hv.1
    have hb : ((a.add (i * m)).add j).block = a.block := by rw [add_block, add_block]
    unfold World.cell? at h1 ⊢
    rw [setRow_other _ _ _ _ (by rw [hb]; exact hne)]
    exact h1
theorem ObAt.setRow {w : World} {k : Nat} {cs c : Array Value} {o : Ob} {ao bo : Option Addr} {ca cb : Nat} (h : ObAt w cs o ao bo ca cb) (hk : ∀ a, ao = some a ∨ bo = some a → a.block ≠ k) : ObAt (w.setRow k c) cs o ao bo ca cb :=
  ⟨h.F, h.E.setRow (fun a ha => hk a (.inl ha)), h.P.setRow (fun a ha => hk a (.inr ha)), h.eid, h.enm, h.pid, h.el, h.pl, h.nm, h.ti⟩
theorem textV_len (l : List UInt8) : (Rm.textV l).length ≤ l.length := by
  unfold Rm.textV; split
  · simp
  · rename_i t r hv
    unfold Rm.vtake at hv
    split at hv
    · cases hv
    · split at hv
      · cases hv
      · simp only [Option.some.injEq, Prod.mk.injEq] at hv
        obtain ⟨rfl, _⟩ := hv
        rw [List.length_take, List.length_drop]; omega
theorem kindR_len (b : Bool) (l : List UInt8) : (Rm.kindR b l).1.length ≤ l.length := by cases l <;> simp [Rm.kindR]
theorem idR_len (b : Bool) (l : List UInt8) : (Rm.idR b l).1.length ≤ l.length := by
  unfold Rm.idR; split
  · simp
  · rw [List.length_drop]; omega
end Go.Proofs.Ytkcjhkfelaplkaa
end

section
namespace Go.Proofs.Ytkcjhkfelaplkaa
open Go.RowKit
set_option linter.unusedVariables false
set_option linter.unusedSimpArgs false

section
variable {ops : Array Oper} {rest : List Oper} {op : Oper} {a : Act} {w : World} {Q : Exit → Act → World → Prop} {x y z : Operand}
end
/-- Where tree stands: the reader, the entries so far, and the rest of the work. -/
structure TrW (w : World) (g : Nat) (z : Array Value) (N : Nat) (R : List En × Bool) (l : List UInt8) (b : Bool) (acc : List En) (o : Value) (w1 : World) : Prop where
  rd : Rl w1 g (l, b)
  wk : ∃ k, l.length ≤ k ∧ Rm.treeF k b l acc = R
  own : w1.ownsRow (w.heap.size + 1) 129 34 o acc.length (acc.flatMap enC)
  box : w1.heap[w.heap.size]? = some (.cells z 67)
  gr : w.grownBy w1 (some g)
  big : w.heap.size + 1 ≤ w1.heap.size
  few : acc.length + l.length ≤ N
  ids : ∀ e ∈ acc, e.id.length = 32 ∧ e.name.size ≤ N

theorem TrW.next {w : World} {g : Nat} {z : Array Value} {N : Nat} {R : List En × Bool} {l : List UInt8} {b : Bool} {acc : List En} {o o' : Value} {w1 w2 : World} (T : TrW w g z N R l b acc o w1) (hl : l ≠ [])
    (rd : Rl w2 g (Rm.oneEn b l).2) (own : w2.ownsRow (w.heap.size + 1) 129 34 o' (acc.length + 1) (acc.flatMap enC ++ enC (Rm.oneEn b l).1)) (box : w2.heap[w.heap.size]? = some (.cells z 67)) (gr : w.grownBy w2 (some g)) (big : w.heap.size + 1 ≤ w2.heap.size) :
    TrW w g z N R (Rm.oneEn b l).2.1 (Rm.oneEn b l).2.2 (acc ++ [(Rm.oneEn b l).1]) o' w2 := by
  have h1 := Rm.one_len b l hl
  have h2 := T.few
  refine ⟨rd, ?_, ?_, box, gr, big, by simp; omega, fun e he => ?_⟩
  · obtain ⟨k, hk, hR⟩ := T.wk
    have hp := List.length_pos_iff.2 hl
    obtain ⟨k, rfl⟩ : ∃ k', k = k' + 1 := ⟨k - 1, by omega⟩
    rw [Rm.treeF_step hl] at hR
    exact ⟨k, by omega, hR⟩
  · rw [List.flatMap_append, List.length_append]
    simpa using own
  · rcases List.mem_append.1 he with he | he
    · exact T.ids e he
    · rw [List.mem_singleton.1 he]
      refine ⟨Rm.idV_len _, ?_⟩
      show (ByteArray.mk (Rm.textV (Rm.kindR b l).1).toArray).size ≤ N
      rw [Rm.mk_size]
      have := textV_len (Rm.kindR b l).1
      have := kindR_len b l
      omega

end Go.Proofs.Ytkcjhkfelaplkaa
end

section
namespace Go.Proofs.Ytkcjhkfelaplkaa
open Go.RowKit
set_option linter.unusedVariables false
set_option linter.unusedSimpArgs false

section
variable {ops : Array Oper} {rest : List Oper} {op : Oper} {a : Act} {w : World} {Q : Exit → Act → World → Prop} {k x y z u : Operand}
end

/-- Where commit stands: the reader, the parents so far, and the rest of the work. -/
structure CmW (w : World) (g : Nat) (z : Array Value) (gi : Nat) (tr : List UInt8) (N n : Nat) (R : List (List UInt8) × (List UInt8 × Bool)) (j : Nat) (l : List UInt8) (b : Bool) (acc : List (List UInt8)) (o : Value) (w1 : World) : Prop where
  rd : Rl w1 g (l, b)
  wk : Rm.parsF (n - j) b l acc = R
  own : w1.ownsRow (gi + 1) 28 32 o acc.length (acc.flatMap idC)
  box : w1.heap[w.heap.size]? = some (.cells z 67)
  idb : w1.heap[gi]? = some (.cells (idC tr).toArray 28)
  gr : w.grownBy w1 (some g)
  big : gi + 1 ≤ w1.heap.size
  few : acc.length ≤ j
  len : l.length ≤ N
  ids : ∀ p ∈ acc, p.length = 32

theorem CmW.next {w : World} {g : Nat} {z : Array Value} {gi : Nat} {tr : List UInt8} {N n : Nat} {R : List (List UInt8) × (List UInt8 × Bool)} {j : Nat} {l : List UInt8} {b : Bool} {acc : List (List UInt8)} {o o' : Value} {w1 w2 : World} (T : CmW w g z gi tr N n R j l b acc o w1) (hj : j < n)
    (rd : Rl w2 g (Rm.idR b l)) (own : w2.ownsRow (gi + 1) 28 32 o' (acc.length + 1) (acc.flatMap idC ++ idC (Rm.idV l))) (box : w2.heap[w.heap.size]? = some (.cells z 67)) (idb : w2.heap[gi]? = some (.cells (idC tr).toArray 28)) (gr : w.grownBy w2 (some g)) (big : gi + 1 ≤ w2.heap.size) :
    CmW w g z gi tr N n R (j + 1) (Rm.idR b l).1 (Rm.idR b l).2 (acc ++ [Rm.idV l]) o' w2 := by
  have h1 := T.few
  have h2 := T.len
  have h3 := idR_len b l
  refine ⟨rd, ?_, ?_, box, idb, gr, big, by simp; omega, by omega, fun e he => ?_⟩
  · have hR := T.wk
    rw [show n - j = (n - (j + 1)) + 1 by omega] at hR
    exact hR
  · rw [List.flatMap_append, List.length_append]
    simpa using own
  · rcases List.mem_append.1 he with he | he
    · exact T.ids e he
    · rw [List.mem_singleton.1 he]; exact Rm.idV_len l

end Go.Proofs.Ytkcjhkfelaplkaa
end

section
namespace Go.Proofs.Ytkcjhkfelaplkaa
open Go.RowKit
set_option linter.unusedVariables false
set_option linter.unusedSimpArgs false

end Go.Proofs.Ytkcjhkfelaplkaa
end

section
namespace Go.Proofs.Ytkcjhkfelaplkaa
open Go.RowKit
set_option linter.unusedVariables false
set_option linter.unusedSimpArgs false

end Go.Proofs.Ytkcjhkfelaplkaa
end

section
namespace Go.Proofs.Ytkcjhkfelaplkaa
open Go.RowKit
set_option linter.unusedVariables false
set_option linter.unusedSimpArgs false

/-- Both objects lie in their boxes. -/
structure Two (w : World) (c1 c2 : Array Value) (W : World) : Prop where
  a : W.heap[w.heap.size]? = some (.cells c1 67)
  b : W.heap[w.heap.size + 1]? = some (.cells c2 67)
  below : Below w.heap.size w W
theorem Two.ca {w W : World} {c1 c2 : Array Value} (h : Two w c1 c2 W) {i : Nat} {v : Value} (hv : c1[i]? = some v) : W.cell? ⟨w.heap.size, i, none⟩ = some v := by rw [cell_of_row _ _ _ _ _ (0, 0) h.a]; exact hv
theorem Two.cb {w W : World} {c1 c2 : Array Value} (h : Two w c1 c2 W) {i : Nat} {v : Value} (hv : c2[i]? = some v) : W.cell? ⟨w.heap.size + 1, i, none⟩ = some v := by rw [cell_of_row _ _ _ _ _ (0, 0) h.b]; exact hv
theorem Two.drew {w W : World} {c1 c2 : Array Value} (h : Two w c1 c2 W) : Two w c1 c2 W.drew := ⟨h.a, h.b, h.below.drew⟩

end Go.Proofs.Ytkcjhkfelaplkaa
end
end

section
section
namespace Go.Proofs.Ytkcjhkfelaplkaa
open Go.RowKit
set_option linter.unusedVariables false
set_option linter.unusedSimpArgs false

end Go.Proofs.Ytkcjhkfelaplkaa
end

section
namespace Go.Proofs.Ytkcjhkfelaplkaa
open Go.RowKit
set_option linter.unusedVariables false
set_option linter.unusedSimpArgs false

section
variable {ops : Array Oper} {rest : List Oper} {op : Oper} {a : Act} {w : World} {Q : Exit → Act → World → Prop} {x y : Operand}
end
/-- What an object leads to. -/
def linksL (o : Ob) : List (List UInt8 × Int) := if o.kind = 2 then o.ents.map (fun e => (e.id, e.kind)) else if o.kind = 3 then (o.tree, 2) :: o.pars.map (fun p => (p, 3)) else if o.kind = 4 then [(o.target, o.of)] else []
end Go.Proofs.Ytkcjhkfelaplkaa
end

section
namespace Go.Proofs.Ytkcjhkfelaplkaa
open Go.RowKit
set_option linter.unusedVariables false
set_option linter.unusedSimpArgs false

theorem region_still {P : Program} {id : Nat} {Q : Exit → Act → World → Prop} {a : Act} {w : World} {l : List Oper} (hm : P.follows .mixedOrders = true) (hB : Region.lexB .any l.toArray = true)
    (h : wpStill P l.toArray w.drew (fun a' => Q .normal a' w.drew) l a) : (Code.region id l.toArray true).wp P Q a w := wp_region_still_lit hm hB h
end Go.Proofs.Ytkcjhkfelaplkaa
end
end

section
section
namespace Go.Proofs.Ytkcjhkfelaplkaa
open Go.RowKit
set_option linter.unusedVariables false
set_option linter.unusedSimpArgs false

theorem Kp.drewN {w W : World} {cs : Array Value} {t : TypeId} (h : Kp w cs t W) (n : Nat) : Kp w cs t (W.drewN n) := ⟨⟨h.below.os, h.below.tape, h.below.output, h.below.size, h.below.block⟩, h.held⟩

end Go.Proofs.Ytkcjhkfelaplkaa
end

section
namespace Go.Proofs.Ytkcjhkfelaplkaa
open Go.RowKit
set_option linter.unusedVariables false
set_option linter.unusedSimpArgs false

end Go.Proofs.Ytkcjhkfelaplkaa
end

section
namespace Go.Proofs.Ytkcjhkfelaplkaa
open Go.RowKit
set_option linter.unusedVariables false


end Go.Proofs.Ytkcjhkfelaplkaa
end
end

section
section
namespace Go.Proofs.Ytkcjhkfelaplkaa
open Go.RowKit
set_option linter.unusedVariables false
set_option linter.unusedSimpArgs false
namespace Rm

def idG (l : List UInt8) : List UInt8 := l.take 32 ++ List.replicate (32 - l.length) 0
theorem idG_len (l : List UInt8) : (idG l).length = 32 := by unfold idG; simp; omega
def takeG (l : List UInt8) : List UInt8 × Nat := match vget l with
  | none => ([], 0)
  | some (n, k) => if l.length - k < n then ([], 0) else ((l.drop k).take n, k + n)
/-- What stands behind an entry's name. -/
def restG (t : List UInt8) : List UInt8 := t.drop (1 + (takeG (t.drop 1)).2)
def enG (t : List UInt8) : En := ⟨⟨(takeG (t.drop 1)).1.toArray⟩, kindV t, idG (restG t)⟩
def treeG : Nat → List UInt8 → List En → List En
  | 0, _, acc => acc
  | k + 1, t, acc => if t = [] then acc else treeG k ((restG t).drop 32) (acc ++ [enG t])
def parsG : Nat → List UInt8 → List (List UInt8) → List (List UInt8) × List UInt8
  | 0, t, acc => (acc, t)
  | k + 1, t, acc => parsG k (t.drop 32) (acc ++ [idG t])
/-! ### sizes -/
theorem takeG_len (l : List UInt8) : (takeG l).1.length ≤ l.length ∧ (takeG l).2 ≤ l.length := by
  unfold takeG; split
  · simp
  · rename_i n k h
    have := vget_bd h
    split
    · simp
    · rw [List.length_take, List.length_drop]; omega
/-! ### of an encoding -/
end Rm
end Go.Proofs.Ytkcjhkfelaplkaa
end

section
namespace Go.Proofs.Ytkcjhkfelaplkaa
open Go.RowKit
set_option linter.unusedVariables false
set_option linter.unusedSimpArgs false

end Go.Proofs.Ytkcjhkfelaplkaa
end

section
namespace Go.Proofs.Ytkcjhkfelaplkaa
open Go.RowKit
set_option linter.unusedVariables false
set_option linter.unusedSimpArgs false

/-- An object in the box at block g. -/
def Bx (w : World) (g : Nat) (o : Ob) (ev pv : Value) : Prop := w.heap[g]? = some (.cells (obC o ev pv).toArray 67)

theorem obC_35 (o : Ob) (ev pv : Value) (j : Nat) (v : Value) (ht : o.tree.length = 32) : (obC o ev pv).set (35 + j) v = .int .i64 o.kind :: .string o.data :: ev :: (idC o.tree ++ (pv :: .int .u32 (o.time : Int) :: .string o.text :: (idC o.target ++ [.int .i64 o.of, .string o.name])).set j v) := by
  unfold obC
  rw [show 35 + j = (32 + j) + 1 + 1 + 1 by omega]
  simp only [List.set_cons_succ]
  rw [List.set_append_right _ _ (by rw [idC_length]; omega), idC_length, show 32 + j - o.tree.length = j by omega]
theorem obC_70 (o : Ob) (ev pv : Value) (j : Nat) (v : Value) (ht : o.tree.length = 32) (hg : o.target.length = 32) : (obC o ev pv).set (70 + j) v = .int .i64 o.kind :: .string o.data :: ev :: (idC o.tree ++ (pv :: .int .u32 (o.time : Int) :: .string o.text :: (idC o.target ++ ([.int .i64 o.of, .string o.name] : List Value).set j v))) := by
  rw [show 70 + j = 35 + (35 + j) by omega, obC_35 o ev pv _ v ht, show 35 + j = (32 + j) + 1 + 1 + 1 by omega]
  simp only [List.set_cons_succ]
  rw [List.set_append_right _ _ (by rw [idC_length]; omega), idC_length, show 32 + j - o.target.length = j by omega]

theorem Bx.set {w : World} {g : Nat} {o o' : Ob} {ev pv ev' pv' : Value} (h : Bx w g o ev pv) (i : Nat) (v : Value) (he : (obC o ev pv).set i v = obC o' ev' pv') : Bx (w.setCell ⟨g, i, none⟩ v) g o' ev' pv' := by
  unfold Bx at *
  rw [heap_setCell_same _ _ _ _ _ _ h, List.setIfInBounds_toArray, he]
theorem Bx.data {w : World} {g : Nat} {o : Ob} {ev pv : Value} (h : Bx w g o ev pv) (t : ByteArray) : Bx (w.setCell ⟨g, 1, none⟩ (.string t)) g { o with data := t } ev pv := h.set 1 _ rfl
theorem Bx.ents {w : World} {g : Nat} {o : Ob} {ev pv : Value} (h : Bx w g o ev pv) (v : Value) (es : List En) : Bx (w.setCell ⟨g, 2, none⟩ v) g { o with ents := es } v pv := h.set 2 _ rfl
theorem Bx.pars {w : World} {g : Nat} {o : Ob} {ev pv : Value} (h : Bx w g o ev pv) (v : Value) (ps : List (List UInt8)) (ht : o.tree.length = 32) : Bx (w.setCell ⟨g, 35, none⟩ v) g { o with pars := ps } ev v := h.set 35 _ (obC_35 o ev pv 0 v ht)
theorem Bx.time {w : World} {g : Nat} {o : Ob} {ev pv : Value} (h : Bx w g o ev pv) (n : Nat) (ht : o.tree.length = 32) : Bx (w.setCell ⟨g, 36, none⟩ (.int .u32 (n : Int))) g { o with time := n } ev pv := h.set 36 _ (obC_35 o ev pv 1 _ ht)
theorem Bx.text {w : World} {g : Nat} {o : Ob} {ev pv : Value} (h : Bx w g o ev pv) (t : ByteArray) (ht : o.tree.length = 32) : Bx (w.setCell ⟨g, 37, none⟩ (.string t)) g { o with text := t } ev pv := h.set 37 _ (obC_35 o ev pv 2 _ ht)
theorem Bx.of {w : World} {g : Nat} {o : Ob} {ev pv : Value} (h : Bx w g o ev pv) (k : Int) (ht : o.tree.length = 32) (hg : o.target.length = 32) : Bx (w.setCell ⟨g, 70, none⟩ (.int .i64 k)) g { o with of := k } ev pv := h.set 70 _ (obC_70 o ev pv 0 _ ht hg)
theorem Bx.name {w : World} {g : Nat} {o : Ob} {ev pv : Value} (h : Bx w g o ev pv) (t : ByteArray) (ht : o.tree.length = 32) (hg : o.target.length = 32) : Bx (w.setCell ⟨g, 71, none⟩ (.string t)) g { o with name := t } ev pv := h.set 71 _ (obC_70 o ev pv 1 _ ht hg)

/-- Cells set one by one in a known row. -/
def setAll : List Value → Nat → List Value → List Value
  | cs, _, [] => cs
  | cs, o, v :: r => setAll (cs.set o v) (o + 1) r
theorem heap_setCells_same (g : Nat) (t : TypeId) : ∀ (vs : List Value) (o : Nat) (w : World) (cs : List Value), w.heap[g]? = some (.cells cs.toArray t) → (w.setCells g o vs).heap[g]? = some (.cells (setAll cs o vs).toArray t)
  | [], o, w, cs, h => h
  | v :: r, o, w, cs, h => by
    rw [World.setCells]
    exact heap_setCells_same g t r (o + 1) _ _ (by rw [heap_setCell_same _ _ _ _ _ _ h, List.setIfInBounds_toArray])
theorem setAll_mid : ∀ (vs pre mid post : List Value), vs.length = mid.length → setAll (pre ++ (mid ++ post)) pre.length vs = pre ++ (vs ++ post)
  | [], pre, mid, post, h => by
    obtain rfl := List.eq_nil_of_length_eq_zero h.symm
    rfl
  | v :: r, pre, mid, post, h => by
    cases mid with
    | nil => simp at h
    | cons m ms =>
      have e : (pre ++ (m :: ms ++ post)).set pre.length v = (pre ++ [v]) ++ (ms ++ post) := by
        rw [List.set_append_right _ _ (Nat.le_refl _), Nat.sub_self]; simp
      rw [setAll, e]
      have := setAll_mid r (pre ++ [v]) ms post (by simpa using h)
      rw [List.length_append] at this
      rw [show pre.length + 1 = pre.length + [v].length from rfl, this]
      simp
theorem Bx.tree {w : World} {g : Nat} {o : Ob} {ev pv : Value} (h : Bx w g o ev pv) (l : List UInt8) (hl : l.length = 32) (ht : o.tree.length = 32) : Bx (w.setCells g 3 (idC l)) g { o with tree := l } ev pv := by
  unfold Bx at *
  rw [heap_setCells_same _ _ _ _ _ _ h]
  have := setAll_mid (idC l) [.int .i64 o.kind, .string o.data, ev] (idC o.tree) (pv :: .int .u32 (o.time : Int) :: .string o.text :: (idC o.target ++ [.int .i64 o.of, .string o.name])) (by rw [idC_length, idC_length, hl, ht])
  rw [show setAll (obC o ev pv) 3 (idC l) = obC { o with tree := l } ev pv from this]
theorem Bx.target {w : World} {g : Nat} {o : Ob} {ev pv : Value} (h : Bx w g o ev pv) (l : List UInt8) (hl : l.length = 32) (ht : o.tree.length = 32) (hg : o.target.length = 32) : Bx (w.setCells g 38 (idC l)) g { o with target := l } ev pv := by
  unfold Bx at *
  rw [heap_setCells_same _ _ _ _ _ _ h]
  have e : obC o ev pv = (.int .i64 o.kind :: .string o.data :: ev :: (idC o.tree ++ [pv, .int .u32 (o.time : Int), .string o.text])) ++ (idC o.target ++ [.int .i64 o.of, .string o.name]) := by simp [obC]
  have hlen : (.int .i64 o.kind :: .string o.data :: ev :: (idC o.tree ++ [pv, .int .u32 (o.time : Int), .string o.text]) : List Value).length = 38 := by simp [idC_length, ht]
  have := setAll_mid (idC l) (.int .i64 o.kind :: .string o.data :: ev :: (idC o.tree ++ [pv, .int .u32 (o.time : Int), .string o.text])) (idC o.target) [.int .i64 o.of, .string o.name] (by rw [idC_length, idC_length, hl, hg])
  rw [hlen, ← e] at this
  rw [this]
  congr 3
  simp [obC]

theorem Bx.grown {w w' : World} {g k : Nat} {o : Ob} {ev pv : Value} (h : Bx w g o ev pv) (hg : w.grownBy w' (some k)) (hne : g ≠ k) : Bx w' g o ev pv := held_grown h hg hne
theorem Bx.below {w w' : World} {g : Nat} {o : Ob} {ev pv : Value} (h : Bx w g o ev pv) (hb : Below w.heap.size w w') : Bx w' g o ev pv := (hb.block g (Array.getElem?_eq_some_iff.1 h).1).trans h
theorem Bx.held {w : World} {g : Nat} {o : Ob} {ev pv : Value} (h : Bx w g o ev pv) : w.heap[g]? = some (.cells (obC o ev pv).toArray 67) := h
theorem Bx.F {w : World} {g : Nat} {o : Ob} {ev pv : Value} (h : Bx w g o ev pv) (ht : o.tree.length = 32) (hg : o.target.length = 32) (he : ev.oneCell' = true) (hp : pv.oneCell' = true) : ObF (obC o ev pv).toArray o ev pv := obC_F o ev pv ht hg he hp
theorem Bx.cell {w : World} {g : Nat} {o : Ob} {ev pv : Value} (h : Bx w g o ev pv) (i : Nat) (v : Value) (hv : (obC o ev pv).toArray[i]? = some v) : w.cell? ⟨g, i, none⟩ = some v := by rw [cell_of_row _ _ _ _ _ (0, 0) h]; exact hv
theorem Bx.fr {w : World} {g : Nat} {o : Ob} {ev pv : Value} (h : Bx w g o ev pv) (i : Nat) : w.frozen? ⟨g, i, none⟩ = false := frozen_of_row w g i _ _ h

theorem Bx.there {w : World} {g : Nat} {o : Ob} {ev pv : Value} (h : Bx w g o ev pv) (hs : (obC o ev pv).toArray.size = 72) (i n : Nat) (hn : i + n ≤ 72) : w.there g i n := fun j hj => by
  refine ⟨?_, h.fr _⟩
  rw [cell_of_row _ _ _ _ _ (0, 0) h, Array.getElem?_eq_getElem (by omega)]; rfl
section
variable {ops : Array Oper} {rest : List Oper} {op : Oper} {a : Act} {w : World} {Q : Exit → Act → World → Prop} {x y : Operand}
end
end Go.Proofs.Ytkcjhkfelaplkaa
end

section
namespace Go.Proofs.Ytkcjhkfelaplkaa
open Go.RowKit
set_option linter.unusedVariables false
set_option linter.unusedSimpArgs false

end Go.Proofs.Ytkcjhkfelaplkaa
end

section
namespace Go.Proofs.Ytkcjhkfelaplkaa
open Go.RowKit
set_option linter.unusedVariables false
set_option linter.unusedSimpArgs false

end Go.Proofs.Ytkcjhkfelaplkaa
end
end

section
section
namespace Go.Proofs.Ytkcjhkfelaplkaa
open Go.RowKit
set_option linter.unusedVariables false
set_option linter.unusedSimpArgs false

/-- Where guess stands in a tree. -/
structure GtW (w : World) (z : Array Value) (kd : Int) (R : List En) (n : Nat) (l : List UInt8) (acc : List En) (W : World) : Prop where
  wk : Rm.treeG (65 - n) l acc = R
  row : ∃ ev, W.ownsRow (w.heap.size + 2) 129 34 ev acc.length (acc.flatMap enC) ∧ Bx W (w.heap.size + 1) { noOb with kind := kd, ents := acc } ev nilV
  box : W.heap[w.heap.size]? = some (.cells z 67)
  below : Below w.heap.size w W
  big : w.heap.size + 2 ≤ W.heap.size
  len : l.length ≤ 5000
  few : acc.length ≤ n
  ids : ∀ e ∈ acc, e.id.length = 32 ∧ e.name.size ≤ 5000

theorem GtW.next {w : World} {z : Array Value} {kd : Int} {R : List En} {n : Nat} {l : List UInt8} {acc : List En} {W W' : World} {v' : Value} (T : GtW w z kd R n l acc W) (hl : l ≠ []) (hn : n < 65)
    (own : W'.ownsRow (w.heap.size + 2) 129 34 v' (acc.length + 1) (acc.flatMap enC ++ enC (Rm.enG l))) (bx : Bx W' (w.heap.size + 1) { noOb with kind := kd, ents := acc ++ [Rm.enG l] } v' nilV)
    (box : W'.heap[w.heap.size]? = some (.cells z 67)) (below : Below w.heap.size w W') (big : w.heap.size + 2 ≤ W'.heap.size) : GtW w z kd R (n + 1) ((Rm.restG l).drop 32) (acc ++ [Rm.enG l]) W' := by
  have hlen := T.len
  have hrl : (Rm.restG l).length ≤ l.length := by unfold Rm.restG; rw [List.length_drop]; omega
  refine ⟨?_, ⟨v', ?_, bx⟩, box, below, big, by rw [List.length_drop]; omega, by have := T.few; simp; omega, fun e he => ?_⟩
  · have h := T.wk
    rw [show 65 - n = (65 - (n + 1)) + 1 by omega] at h
    unfold Rm.treeG at h
    rw [if_neg hl] at h
    exact h
  · rw [List.flatMap_append, List.length_append]
    simpa using own
  · rcases List.mem_append.1 he with he | he
    · exact T.ids e he
    · rw [List.mem_singleton.1 he]
      refine ⟨Rm.idG_len _, ?_⟩
      show (ByteArray.mk (Rm.takeG (l.drop 1)).1.toArray).size ≤ 5000
      rw [Rm.mk_size]
      have := (Rm.takeG_len (l.drop 1)).1
      rw [List.length_drop] at this
      omega

end Go.Proofs.Ytkcjhkfelaplkaa
end

section
namespace Go.Proofs.Ytkcjhkfelaplkaa
open Go.RowKit
set_option linter.unusedVariables false
set_option linter.unusedSimpArgs false

/-- Where guess stands in a commit. -/
structure CtW (w : World) (z : Array Value) (kd : Int) (tr : List UInt8) (N : Nat) (R : List (List UInt8) × List UInt8) (j : Nat) (l : List UInt8) (acc : List (List UInt8)) (W : World) : Prop where
  wk : Rm.parsG (N - j) l acc = R
  row : ∃ pv, W.ownsRow (w.heap.size + 2) 28 32 pv acc.length (acc.flatMap idC) ∧ Bx W (w.heap.size + 1) { noOb with kind := kd, tree := tr, pars := acc } nilV pv
  box : W.heap[w.heap.size]? = some (.cells z 67)
  below : Below w.heap.size w W
  big : w.heap.size + 2 ≤ W.heap.size
  len : l.length ≤ 5000
  few : acc.length = j
  ids : ∀ e ∈ acc, e.length = 32

theorem CtW.next {w : World} {z : Array Value} {kd : Int} {tr : List UInt8} {N : Nat} {R : List (List UInt8) × List UInt8} {j : Nat} {l : List UInt8} {acc : List (List UInt8)} {W W' : World} {v' : Value} (T : CtW w z kd tr N R j l acc W) (hj : j < N)
    (own : W'.ownsRow (w.heap.size + 2) 28 32 v' (acc.length + 1) (acc.flatMap idC ++ idC (Rm.idG l))) (bx : Bx W' (w.heap.size + 1) { noOb with kind := kd, tree := tr, pars := acc ++ [Rm.idG l] } nilV v')
    (box : W'.heap[w.heap.size]? = some (.cells z 67)) (below : Below w.heap.size w W') (big : w.heap.size + 2 ≤ W'.heap.size) : CtW w z kd tr N R (j + 1) (l.drop 32) (acc ++ [Rm.idG l]) W' := by
  have hlen := T.len
  refine ⟨?_, ⟨v', ?_, bx⟩, box, below, big, by rw [List.length_drop]; omega, by have := T.few; simp; omega, fun e he => ?_⟩
  · have h := T.wk
    rw [show N - j = (N - (j + 1)) + 1 by omega] at h
    exact h
  · rw [List.flatMap_append, List.length_append]
    simpa using own
  · rcases List.mem_append.1 he with he | he
    · exact T.ids e he
    · rw [List.mem_singleton.1 he]
      exact Rm.idG_len _

end Go.Proofs.Ytkcjhkfelaplkaa
end

section
namespace Go.Proofs.Ytkcjhkfelaplkaa
open Go.RowKit
set_option linter.unusedVariables false
set_option linter.unusedSimpArgs false

end Go.Proofs.Ytkcjhkfelaplkaa
end

section
namespace Go.Proofs.Ytkcjhkfelaplkaa
open Go.RowKit
set_option linter.unusedVariables false
set_option linter.unusedSimpArgs false

end Go.Proofs.Ytkcjhkfelaplkaa
end
end

section
section
namespace Go.Proofs.Ytkcjhkfelaplkaa.S2
namespace Sh
set_option linter.unusedSimpArgs false

abbrev Wd := BitVec 32

/-- A word rotated right by n bits. -/
def rr (x : Wd) (n : Nat) : Wd := (x <<< (32 - n)) ||| (x >>> n)

def bw (b : UInt8) : Wd := BitVec.ofNat 32 b.toNat
/-- Four bytes, the highest one first. -/
def be4 (a b c d : UInt8) : Wd := ((bw a <<< 24 ||| bw b <<< 16) ||| bw c <<< 8) ||| bw d

theorem l1 : (16777216 : Wd).toNat = 16777216 := by decide
theorem l2 : (65536 : Wd).toNat = 65536 := by decide
def s0 (x : Wd) : Wd := (rr x 7 ^^^ rr x 18) ^^^ (x >>> 3)
def s1 (x : Wd) : Wd := (rr x 17 ^^^ rr x 19) ^^^ (x >>> 10)
def b1 (x : Wd) : Wd := (rr x 6 ^^^ rr x 11) ^^^ rr x 25
def b0 (x : Wd) : Wd := (rr x 2 ^^^ rr x 13) ^^^ rr x 22
def ch (e f g : Wd) : Wd := (e &&& f) ^^^ (~~~e &&& g)
def maj (a b c : Wd) : Wd := ((a &&& b) ^^^ (a &&& c)) ^^^ (b &&& c)

def nextW (ws : List Wd) (t : Nat) : Wd := ws.getD (t - 16) 0 + ws.getD (t - 7) 0 + s0 (ws.getD (t - 15) 0) + s1 (ws.getD (t - 2) 0)
/-- The word of four bytes of a block. -/
def blk (b : List UInt8) (t : Nat) : Wd := be4 (b.getD (4 * t) 0) (b.getD (4 * t + 1) 0) (b.getD (4 * t + 2) 0) (b.getD (4 * t + 3) 0)
def newW (b : List UInt8) (l : List Wd) (n : Nat) : Wd := if n < 16 then blk b n else nextW l n
/-- The first n words of a block. -/
def wd (b : List UInt8) : Nat → List Wd
  | 0 => []
  | n + 1 => wd b n ++ [newW b (wd b n) n]
def K : List Wd := [1116352408, 1899447441, 3049323471, 3921009573, 961987163, 1508970993, 2453635748, 2870763221, 3624381080, 310598401, 607225278, 1426881987, 1925078388, 2162078206, 2614888103, 3248222580, 3835390401, 4022224774, 264347078, 604807628, 770255983, 1249150122, 1555081692, 1996064986, 2554220882, 2821834349, 2952996808, 3210313671, 3336571891, 3584528711, 113926993, 338241895, 666307205, 773529912, 1294757372, 1396182291, 1695183700, 1986661051, 2177026350, 2456956037, 2730485921, 2820302411, 3259730800, 3345764771, 3516065817, 3600352804, 4094571909, 275423344, 430227734, 506948616, 659060556, 883997877, 958139571, 1322822218, 1537002063, 1747873779, 1955562222, 2024104815, 2227730452, 2361852424, 2428436474, 2756734187, 3204031479, 3329325298]

structure St where
  a : Wd
  b : Wd
  c : Wd
  d : Wd
  e : Wd
  f : Wd
  g : Wd
  h : Wd
  deriving DecidableEq

def xs (s : St) (k w : Wd) : Wd := s.h + b1 s.e + ch s.e s.f s.g + k + w
def ys (s : St) : Wd := b0 s.a + maj s.a s.b s.c
def rnd (s : St) (k w : Wd) : St := ⟨xs s k w + ys s, s.a, s.b, s.c, s.d + xs s k w, s.e, s.f, s.g⟩
def rounds (b : List UInt8) (s : St) : Nat → St
  | 0 => s
  | t + 1 => rnd (rounds b s t) (K.getD t 0) ((wd b 64).getD t 0)
def plus (s r : St) : St := ⟨s.a + r.a, s.b + r.b, s.c + r.c, s.d + r.d, s.e + r.e, s.f + r.f, s.g + r.g, s.h + r.h⟩
def mix (s : St) (b : List UInt8) : St := plus s (rounds b s 64)
def start : St := ⟨0x6a09e667, 0xbb67ae85, 0x3c6ef372, 0xa54ff53a, 0x510e527f, 0x9b05688c, 0x1f83d9ab, 0x5be0cd19⟩
/-- The state behind n whole blocks. -/
def proc : Nat → St → List UInt8 → St
  | 0, s, _ => s
  | n + 1, s, l => proc n (mix s (l.take 64)) (l.drop 64)
def St.list (s : St) : List Wd := [s.a, s.b, s.c, s.d, s.e, s.f, s.g, s.h]
/-- A byte of a state. -/
def byteOf (s : St) (i : Nat) : UInt8 := UInt8.ofNat ((s.list.getD (i / 4) 0).toNat / 2 ^ (24 - 8 * (i % 4)))
def idOf (s : St) : List UInt8 := (List.range 32).map (byteOf s)
theorem idOf_length (s : St) : (idOf s).length = 32 := by simp [idOf]

/-- How many zero bytes are wanted behind n bytes. -/
def gap (n : Nat) : Nat := (120 - n % 64) % 64
def be8 (n : Nat) (k : Nat) : UInt8 := UInt8.ofNat (n / 2 ^ (56 - 8 * k))
def ending (last : List UInt8) (n : Nat) : List UInt8 := last ++ [128] ++ List.replicate (gap (last.length + 1)) 0 ++ (List.range 8).map (be8 (8 * n))
/-- How many blocks a message of n bytes has. -/
def blocks (n : Nat) : Nat := (n + 9 + gap (n + 1)) / 64
def sha (m : List UInt8) : St := proc (blocks m.length) start (ending m m.length)

end Sh
end Go.Proofs.Ytkcjhkfelaplkaa.S2
end

section
namespace Go.Proofs.Ytkcjhkfelaplkaa.S2
open Go.RowKit
set_option linter.unusedVariables false
set_option linter.unusedSimpArgs false
open Sh (Wd)

/-! ### Words, as the walk spells them -/
end Go.Proofs.Ytkcjhkfelaplkaa.S2
end

section
namespace Go.Proofs.Ytkcjhkfelaplkaa.S2
open Go.RowKit
set_option linter.unusedVariables false
set_option linter.unusedSimpArgs false
open Sh (Wd)

def wv (x : Wd) : Value := .int .u32 (x.toNat : Int)
/-! ### Blocks that are known whole -/
theorem region_still {P : Program} {id : Nat} {Q : Exit → Act → World → Prop} {a : Act} {w : World} {l : List Oper} (hm : P.follows .mixedOrders = true) (hB : Region.lexB .any l.toArray = true)
    (h : wpStill P l.toArray w.drew (fun a' => Q .normal a' w.drew) l a) : (Code.region id l.toArray true).wp P Q a w := wp_region_still_lit hm hB h
end Go.Proofs.Ytkcjhkfelaplkaa.S2
end

section
namespace Go.Proofs.Ytkcjhkfelaplkaa.S2
open Go.RowKit
set_option linter.unusedVariables false
set_option linter.unusedSimpArgs false
open Sh (Wd)

end Go.Proofs.Ytkcjhkfelaplkaa.S2
end

section
namespace Go.Proofs.Ytkcjhkfelaplkaa.S2
open Go.RowKit
set_option linter.unusedVariables false
set_option linter.unusedSimpArgs false
open Sh (Wd)

end Go.Proofs.Ytkcjhkfelaplkaa.S2
end

section
namespace Go.Proofs.Ytkcjhkfelaplkaa.S2
open Go.RowKit
set_option linter.unusedVariables false
set_option linter.unusedSimpArgs false
open Sh (Wd)

def bv (x : UInt8) : Value := .int .u8 (x.toNat : Int)
/-- Thirty-two places, the first of them filled. -/
def idA (l : List UInt8) : Array Value := (l.map bv ++ List.replicate (32 - l.length) (Value.int .u8 0)).toArray
theorem idA_size (l : List UInt8) (h : l.length ≤ 32) : (idA l).size = 32 := by simp [idA]; omega
theorem idA_get (l : List UInt8) (i : Nat) (h : i < l.length) : (idA l)[i]? = some (.int .u8 ((l.getD i 0).toNat : Int)) := by
  simp only [idA, List.getElem?_toArray, List.getD_eq_getElem?_getD]
  rw [List.getElem?_append_left (by simpa using h), List.getElem?_map, List.getElem?_eq_getElem h]
  rfl
theorem info24 : (Try.prog.info? 28).map (fun i => (i.zero, i.size)) = some (some (.agg (idA [])), 32) := by kernel_rfl
theorem idsize {l : List UInt8} (h : l.length ≤ 32) : (Try.prog.info? 28).map (·.size) = some (idA l).size := by rw [idA_size l h]; exact (zero_of_info info24).2

end Go.Proofs.Ytkcjhkfelaplkaa.S2
end

section
namespace Go.Proofs.Ytkcjhkfelaplkaa.S2
open Go.RowKit
set_option linter.unusedVariables false
set_option linter.unusedSimpArgs false

theorem Try.infoByte : (Try.prog.info? 5).map (fun i => (i.zero, i.size, i.bytes)) = some (some (.int .u8 0), 1, 1) := by kernel_rfl

/-- Bytes as the cells of a row. -/
def cellsOf (l : List UInt8) : List Value := l.map fun b => Value.int .u8 (b.toNat : Int)
theorem cellsOf_get (l : List UInt8) (j : Nat) (hj : j < l.length) : (cellsOf l)[j]? = some (.int .u8 ((l[j]).toNat : Int)) := by simp [cellsOf, hj]

def OwnB (w : World) (base : Nat) (v : Value) (l : List UInt8) : Prop :=
  (v = .slice none 0 0 ∧ l = []) ∨
  ∃ g cap cur fz, v = .slice (some ⟨g, 0, none⟩) l.length cap ∧ base ≤ g ∧ w.heap[g]? = some (.cells cur 5 fz) ∧ (cur.size ≤ fz.1 ∨ fz.2 = 0) ∧ l.length ≤ cap ∧ cap ≤ maxLen ∧ cur.size = cap ∧ cur.toList.take l.length = cellsOf l

theorem OwnB.nil (w : World) (base : Nat) : OwnB w base (.slice none 0 0) [] := .inl ⟨rfl, rfl⟩
/-- What keeps the blocks from base on keeps the row. -/
theorem OwnB.alloc {w : World} {base : Nat} {v : Value} {l : List UInt8} (h : OwnB w base v l) (o : Obj) : OwnB (w.alloc o) base v l := by
  rcases h with h | ⟨g, cap, cur, fz, h1, h2, h3, h4⟩
  · exact .inl h
  · exact .inr ⟨g, cap, cur, fz, h1, h2, (Below.heap_alloc w o g (Array.getElem?_eq_some_iff.1 h3).1).trans h3, h4⟩
theorem OwnB.below {w w' : World} {base B : Nat} {v : Value} {l : List UInt8} (h : OwnB w base v l) (hb : Below w.heap.size w w') : OwnB w' base v l := by
  rcases h with h | ⟨g, cap, cur, fz, h1, h2, h3, h4⟩
  · exact .inl h
  · exact .inr ⟨g, cap, cur, fz, h1, h2, (hb.block g (Array.getElem?_eq_some_iff.1 h3).1).trans h3, h4⟩
theorem OwnB.drew {w : World} {base : Nat} {v : Value} {l : List UInt8} (h : OwnB w base v l) : OwnB w.drew base v l := h
theorem OwnB.form {w : World} {base : Nat} {v : Value} {l : List UInt8} (h : OwnB w base v l) : ∃ p cap, v = .slice p l.length cap := by
  rcases h with ⟨rfl, rfl⟩ | ⟨g, cap, cur, fz, h1, h2, h3, h4⟩
  · exact ⟨_, _, rfl⟩
  · exact ⟨_, _, h1⟩

theorem info_byte : ∃ i, Try.prog.info? 5 = some i ∧ i.zero = some (.int .u8 0) ∧ i.size = 1 ∧ i.bytes = 1 := info_parts Try.infoByte

/-- 'string(v)'. -/
theorem OwnB.back {w : World} {base : Nat} {v : Value} {l : List UInt8} (h : OwnB w base v l) (hl : l ≠ []) : (convert 62 9 v).run Try.prog w = .ok (.string ⟨l.toArray⟩) w := by
  rcases h with ⟨_, h0⟩ | ⟨g, cap, cur, fz, rfl, hg, hh, hf, hlc, hcm, hcs, htake⟩
  · exact absurd h0 hl
  · refine run_convert_bytes_back (P := Try.prog) w 62 9 5 ⟨g, 0, none⟩ cap l Try.underlying62 Try.underlying5 Try.underlying9 (fun j hj => ?_)
    have hadd : (⟨g, 0, none⟩ : Addr).add j = ⟨g, j, none⟩ := by unfold Addr.add; split <;> simp_all
    have hc := cellsOf_get l j hj
    rw [← htake, List.getElem?_take_of_lt hj] at hc
    rw [hadd, cell_of_row w g j cur _ _ hh]
    simpa using hc

end Go.Proofs.Ytkcjhkfelaplkaa.S2
end

section
namespace Go.Proofs.Ytkcjhkfelaplkaa.S2
open Go.RowKit
set_option linter.unusedVariables false
set_option linter.unusedSimpArgs false
open Sh (Wd)

/-- The bytes, the mark, and some zeros. -/
def zs (l : List UInt8) (k : Nat) : List UInt8 := l ++ [128] ++ List.replicate k 0
/-- .. and some bytes of the length. -/
def es (l : List UInt8) (m k : Nat) : List UInt8 := zs l (Sh.gap (l.length + 1)) ++ (List.range k).map (Sh.be8 m)
end Go.Proofs.Ytkcjhkfelaplkaa.S2
end
end

section
section
namespace Go.Proofs.Ytkcjhkfelaplkaa.S2
open Go.RowKit
set_option linter.unusedVariables false
set_option linter.unusedSimpArgs false
open Sh (Wd)

end Go.Proofs.Ytkcjhkfelaplkaa.S2
end

section
namespace Go.Proofs.Ytkcjhkfelaplkaa.S2
open Go.RowKit
set_option linter.unusedVariables false
set_option linter.unusedSimpArgs false
open Sh (Wd)

/-- An aggregate, built: its cells under a name. -/
theorem wpList_build_as {P : Program} {ops : Array Oper} {rest : List Oper} {o : Oper} {a : Act} {w : World} {Q : Exit → Act → World → Prop} (hg : o.guard = none) (t : TypeId) (parts : Array (Nat × Operand)) (ho : o.op = .build t parts) (cs : Array Value)
    (hb : P.built t (parts.map fun (i, x) => (i, a.eval x)).toList = some cs) (h : wpList P ops Q rest (a.put o.dst (.agg cs)) w) : wpList P ops Q (o :: rest) a w := by
  refine wpList_build hg t parts ho (by rw [hb]; rfl) ?_
  rw [hb]
  exact h

end Go.Proofs.Ytkcjhkfelaplkaa.S2
end

section
namespace Go.Proofs.Ytkcjhkfelaplkaa.S2
open Go.RowKit
set_option linter.unusedVariables false
set_option linter.unusedSimpArgs false
open Sh (Wd)

/-- Whether the first byte in which two rows differ is smaller in the first one. -/
def ltB : List UInt8 → List UInt8 → Bool
  | x :: r, y :: q => if x = y then ltB r q else decide (x.toNat < y.toNat)
  | _, _ => false
theorem ltB_step : ∀ (i : Nat) (a b : List UInt8), a.length = b.length → i < a.length → (∀ j, j < i → a.getD j 0 = b.getD j 0) → a.getD i 0 ≠ b.getD i 0 → ltB a b = decide ((a.getD i 0).toNat < (b.getD i 0).toNat)
  | 0, x :: r, y :: q, _, _, _, h => by
    have h' : x ≠ y := by simpa using h
    simp [ltB, h']
  | i + 1, x :: r, y :: q, hl, hi, he, h => by
    have h0 : x = y := by simpa using he 0 (by omega)
    have ih := ltB_step i r q (by simpa using hl) (by simpa using hi) (fun j hj => by simpa using he (j + 1) (by omega)) (by simpa using h)
    simp [ltB, h0]
    simpa using ih
  | _, [], _, _, hi, _, _ => by simp at hi
  | _, _ :: _, [], hl, _, _, _ => by simp at hl
theorem ltB_same : ∀ (a b : List UInt8), a.length = b.length → (∀ j, j < a.length → a.getD j 0 = b.getD j 0) → ltB a b = false
  | [], [], _, _ => rfl
  | x :: r, y :: q, hl, he => by
    have h0 : x = y := by simpa using he 0 (by simp)
    have ih := ltB_same r q (by simpa using hl) (fun j hj => by simpa using he (j + 1) (by simpa using hj))
    simp [ltB, h0, ih]
  | [], _ :: _, hl, _ => by simp at hl
  | _ :: _, [], hl, _ => by simp at hl

set_option maxHeartbeats 800000 in
set_option maxRecDepth 100000 in
theorem refless_any (a b : List UInt8) (w : World) (ha : a.length = 32) (hb : b.length = 32) :
    Calls Try.prog 29 #[.agg (idA a), .agg (idA b)] w fun r w' => r = .returned (.bool (ltB a b)) ∧ Below w.heap.size w w' := by
  have HA := Lib.hid ha
  have HB := Lib.hid hb
  have CA := Lib.hid (fun (i : Nat) (hi : i < 32) => idA_get a i (by omega))
  have CB := Lib.hid (fun (i : Nat) (hi : i < 32) => idA_get b i (by omega))
  clear ha hb
  generalize hia : idA a = ia at CA
  generalize hib : idA b = ib at CB
  clear hia hib
  generalize hR : ltB a b = R
  have HR := Lib.hid hR
  clear hR
  go_enter Try.func29, Try.ntmps29
  go_wp2
  go_loopw [5] (fun v wr => ∃ (k : Nat), k ≤ 32 ∧ v = .int .i64 k ∧ Hid (∀ j, j < k → a.getD j 0 = b.getD j 0) ∧ Hid (wr.heap[w.heap.size]? = some (.cells ia 28)) ∧ Hid (wr.heap[w.heap.size + 1]? = some (.cells ib 28)) ∧ Below w.heap.size w wr) (fun v _ => 32 - (intOf v).toNat)
  case atStart => exact ⟨0, by omega, rfl, fun j hj => absurd hj (by omega), heap_alloc2_old _ _ _, heap_alloc2_new _ _ _, ((Below.refl _ _).alloc (Nat.le_refl _) _).alloc (by simp) _⟩
  case round =>
    obtain ⟨k, hk, rfl, HJ, E0, E1, hbr⟩ := hrel
    by_cases hlt : k < 32
    · have c1 := (cell_of_row wr w.heap.size k _ _ _ E0.out).trans (CA.out k hlt)
      have c2 := (cell_of_row wr (w.heap.size + 1) k _ _ _ E1.out).trans (CB.out k hlt)
      have hlt' : (k : Int) < 32 := by omega
      by_cases he : a.getD k 0 = b.getD k 0
      · have HJ2 : Hid (∀ j, j < k + 1 → a.getD j 0 = b.getD j 0) := fun j hj => by
          rcases Nat.lt_or_ge j k with h | h
          · exact HJ.out j h
          · rw [show j = k by omega]; exact he
        rw [he] at c1
        have hne : (((b.getD k 0).toNat : Int) != ((b.getD k 0).toNat : Int)) = false := by simp
        generalize b.getD k 0 = x at c1 c2 hne
        clear he HJ
        go_wp2
        refine region_still (by kernel_rfl) (by kernel_rfl) ?_
        repeat still_step
        refine wpStill_nil ?_
        go_wp2
        go_roundw
        case rel => exact ⟨k + 1, by omega, by go_num, HJ2, E0, E1, hbr.drew⟩
        case measure => simp [intOf]; omega
      · have HS := Lib.hid (ltB_step k a b (by rw [HA.out, HB.out]) (by rw [HA.out]; exact hlt) HJ.out he)
        have hne : (((a.getD k 0).toNat : Int) != ((b.getD k 0).toNat : Int)) = true := by
          rw [bne_iff_ne]; intro h; exact he (UInt8.toNat_inj.1 (by omega))
        generalize a.getD k 0 = x at c1 HS hne
        generalize b.getD k 0 = y at c2 HS hne
        clear he HJ
        go_wp2
        refine region_still (by kernel_rfl) (by kernel_rfl) ?_
        repeat still_step
        refine wpStill_nil ?_
        go_wp2
        refine region_still (by kernel_rfl) (by kernel_rfl) ?_
        repeat still_step
        refine wpStill_nil ?_
        go_wp2
        go_ret
        exact ⟨by rw [← HR.out, HS.out]; rfl, hbr.drew.drew⟩
    · have HS := Lib.hid (ltB_same a b (by rw [HA.out, HB.out]) (fun j hj => HJ.out j (by rw [HA.out] at hj; omega)))
      go_wp2
      go_ret
      exact ⟨by rw [← HR.out, HS.out]; rfl, hbr⟩

/-! ### Figures -/
end Go.Proofs.Ytkcjhkfelaplkaa.S2
end

section
namespace Go.Proofs.Ytkcjhkfelaplkaa.S2
open Go.RowKit
set_option linter.unusedVariables false
set_option linter.unusedSimpArgs false
open Sh (Wd)

def one : List UInt8 := 1 :: List.replicate 31 0
def two : List UInt8 := 2 :: List.replicate 31 0
end Go.Proofs.Ytkcjhkfelaplkaa.S2
end

section
namespace Go.Proofs.Ytkcjhkfelaplkaa.S2
open Go.RowKit
set_option linter.unusedVariables false
set_option linter.unusedSimpArgs false
open Sh (Wd)

theorem cells_byte : Try.prog.cellsOf 5 = 1 := by kernel_rfl
theorem part_byte (xs : Array Value) (i : Nat) (v : Value) (h : xs[i]? = some v) (w : World) : (part 5 xs (i * 1)).run Try.prog w = .ok v w := by
  simp [part, Try.isAgg5, h, Result.andThen]
end Go.Proofs.Ytkcjhkfelaplkaa.S2
end

section
namespace Go.Proofs.Ytkcjhkfelaplkaa.S2
open Go.ChangeShapes Go.WideShapes Go.ChangeAt Go.RowKit
set_option linter.unusedVariables false

theorem Try.own : ownKnob Try.prog.godebug = none := by kernel_rfl
end Go.Proofs.Ytkcjhkfelaplkaa.S2
end
end

section
namespace Go.Proofs.Ytkcjhkfelaplkaa
set_option linter.unusedVariables false
set_option linter.unusedSimpArgs false

/-- Whether the first byte in which two ids differ is smaller in the first one. -/
def St.lt : List UInt8 → List UInt8 → Bool
  | x :: r, y :: q => if x = y then St.lt r q else decide (x.toNat < y.toNat)
  | _, _ => false
theorem St.lt_irrefl : ∀ a : List UInt8, St.lt a a = false
  | [] => rfl
  | x :: r => by simp [St.lt, St.lt_irrefl r]
theorem St.lt_trans : ∀ {a b c : List UInt8}, St.lt a b = true → St.lt b c = true → St.lt a c = true
  | [], _, _, h, _ => by simp [St.lt] at h
  | _ :: _, [], _, h, _ => by simp [St.lt] at h
  | _ :: _, _ :: _, [], _, h => by simp [St.lt] at h
  | x :: r, y :: q, z :: p, h, k => by
    unfold St.lt at h k ⊢
    by_cases e : x = y
    · subst e
      rw [if_pos rfl] at h
      by_cases e2 : x = z
      · subst e2
        rw [if_pos rfl] at k ⊢
        exact St.lt_trans h k
      · rw [if_neg e2] at k ⊢; exact k
    · rw [if_neg e, decide_eq_true_eq] at h
      by_cases e2 : y = z
      · subst e2
        rw [if_neg e, decide_eq_true_eq]; exact h
      · rw [if_neg e2, decide_eq_true_eq] at k
        have : ¬ x = z := fun e3 => by subst e3; omega
        rw [if_neg this, decide_eq_true_eq]; omega
theorem St.lt_tri : ∀ {a b : List UInt8}, a.length = b.length → St.lt a b = true ∨ a = b ∨ St.lt b a = true
  | [], [], _ => .inr (.inl rfl)
  | [], _ :: _, h => by simp at h
  | _ :: _, [], h => by simp at h
  | x :: r, y :: q, h => by
    unfold St.lt
    by_cases e : x = y
    · subst e
      rw [if_pos rfl, if_pos rfl]
      rcases St.lt_tri (a := r) (b := q) (by simpa using h) with h1 | h1 | h1
      · exact .inl h1
      · exact .inr (.inl (by rw [h1]))
      · exact .inr (.inr h1)
    · rw [if_neg e, if_neg (fun k => e k.symm), decide_eq_true_eq, decide_eq_true_eq]
      have : x.toNat ≠ y.toNat := fun k => e (UInt8.toNat_inj.1 k)
      omega
theorem St.lt_asymm {a b : List UInt8} (h : St.lt a b = true) : St.lt b a = false := by
  cases hq : St.lt b a with
  | false => rfl
  | true => have := St.lt_trans h hq; rw [St.lt_irrefl] at this; cases this
/-- An item: an encoding under its id. -/
structure St.It where
  id : List UInt8
  text : ByteArray
def St.Srt (L : List St.It) : Prop := L.Pairwise (fun a b => St.lt a.id b.id = true)
def St.Len (L : List St.It) : Prop := ∀ r ∈ L, r.id.length = 32
/-- Where an id stands, or would stand. -/
def St.pos (L : List St.It) (id : List UInt8) : Nat := L.findIdx (fun r => !St.lt r.id id)
def St.has (L : List St.It) (id : List UInt8) : Bool := L.any (fun r => decide (r.id = id))
/-- One item more. -/
def St.put (L : List St.It) (x : St.It) : List St.It := if St.has L x.id then L else L.take (St.pos L x.id) ++ x :: L.drop (St.pos L x.id)

end Go.Proofs.Ytkcjhkfelaplkaa
end

section
namespace Go.Proofs.Ytkcjhkfelaplkaa
open Go.RowKit
set_option linter.unusedVariables false
set_option linter.unusedSimpArgs false

theorem below_new (w : World) (o : Obj) : Below w.heap.size w (w.alloc o) := (Below.refl _ _).alloc (Nat.le_refl _) _
def itC (r : St.It) : List Value := idC r.id ++ [.string r.text]
theorem itC_length (r : St.It) : (itC r).length = r.id.length + 1 := by simp [itC, idC]
/-- A slice of items in memory. -/
def ItsAt (w : World) (v : Value) (L : List St.It) : Prop := RowsAt w v 33 (L.map itC)
theorem ItsAt.form {w : World} {v : Value} {L : List St.It} (h : ItsAt w v L) : ∃ ao cap, v = .slice ao L.length cap := by simpa using RowsAt.form h
theorem ItsAt.below {w w' : World} {v : Value} {L : List St.It} (h : ItsAt w v L) (hb : Below w.heap.size w w') : ItsAt w' v L := RowsAt.below h hb
theorem ItsAt.elem {w : World} {ao : Option Addr} {n cap : Nat} {L : List St.It} (h : ItsAt w (.slice ao n cap) L) (i : Nat) (r : St.It) (hi : L[i]? = some r) :
    ∃ a, ao = some a ∧ r.id.length = 32 ∧ ∀ j x, (itC r)[j]? = some x → w.cell? ((a.add (i * 33)).add j) = some x := by
  obtain ⟨a, h1, h2, h3⟩ := RowsAt.elem h i (itC r) (by simp [hi])
  rw [itC_length] at h2
  exact ⟨a, h1, by omega, h3⟩
theorem ItsAt.len {w : World} {v : Value} {L : List St.It} (h : ItsAt w v L) : ∀ r ∈ L, r.id.length = 32 := fun r hr => by
  obtain ⟨ao, cap, rfl⟩ := h.form
  obtain ⟨i, hi⟩ := List.getElem?_of_mem hr
  obtain ⟨a, _, h2, _⟩ := h.elem i r hi
  exact h2
theorem own_bel {w w' : World} {B e k n : Nat} {v : Value} {xs : List Value} (h : w.ownsRow B e k v n xs) (hb : Below w.heap.size w w') : w'.ownsRow B e k v n xs := by
  refine ⟨h.1, h.2.imp id ?_⟩
  rintro ⟨g, cap, cur, hv, hg, hh, hrest⟩
  have hlt : g < w.heap.size := (Array.getElem?_eq_some_iff.1 hh).1
  exact ⟨g, cap, cur, hv, hg, (hb.block g hlt).trans hh, hrest⟩
/-- A row of refs that a call has made. -/
def OwnF (w : World) (base : Nat) (v : Value) (L : List St.It) : Prop := w.ownsRow base 105 33 v L.length (L.flatMap itC)
theorem it_flat_get (L : List St.It) : (∀ r ∈ L, r.id.length = 32) → ∀ (i : Nat) (p : St.It), L[i]? = some p → ∀ (j : Nat) (x : Value), (itC p)[j]? = some x → (L.flatMap itC)[i * 33 + j]? = some x := by
  induction L with
  | nil => intro _ i l hi; simp at hi
  | cons a r ih =>
    intro h i l hi j x hx
    have ha : (itC a).length = 33 := by rw [itC_length, h a (by simp)]
    rw [List.flatMap_cons]
    cases i with
    | zero =>
      simp at hi; subst hi
      have hj : j < 33 := by
        have := (List.getElem?_eq_some_iff.1 hx).1; omega
      rw [Nat.zero_mul, Nat.zero_add, List.getElem?_append_left (by omega)]
      exact hx
    | succ i =>
      simp at hi
      rw [List.getElem?_append_right (by omega), show (i + 1) * 33 + j - (itC a).length = i * 33 + j by omega]
      exact ih (fun x hx => h x (by simp [hx])) i l hi j x hx
theorem OwnF.rows {w : World} {base : Nat} {v : Value} {L : List St.It} (h : OwnF w base v L) (hid : ∀ r ∈ L, r.id.length = 32) : ItsAt w v L := by
  refine ⟨?_⟩
  rcases h.2 with ⟨rfl, h0⟩ | ⟨g, cap, cur, rfl, hg, hb⟩
  · exact .inl ⟨rfl, by have : L = [] := by simpa using h0
                        simp [this]⟩
  · refine .inr ⟨⟨g, 0, none⟩, cap, by simp, fun i cs hi => ?_⟩
    rw [List.getElem?_map] at hi
    cases hq : L[i]? with
    | none => simp [hq] at hi
    | some r =>
      simp [hq] at hi; subst hi
      refine ⟨by rw [itC_length, hid r (List.mem_of_getElem? hq)], fun j x hx => ?_⟩
      have := World.ownsRow.cells h (g := g) rfl (i * 33 + j) x (it_flat_get L hid i r hq j x hx)
      rw [Addr.add_mid] at this
      rw [Addr.add_mid, Addr.add_mid]
      simpa [Nat.add_assoc] using this
theorem row_news {w : World} {g : Nat} {l : List Value} {t : TypeId} (h : w.heap[g]? = some (.cells l.toArray t)) : ∀ j u, l[j]? = some u → w.cell? ((⟨g, 0, none⟩ : Addr).add j) = some u := fun j u hu => by
  rw [Addr.add_mid, Nat.zero_add, cell_of_row _ _ _ _ t (0, 0) h]
  simpa using hu
theorem below_grown {w w' : World} (h : Below w.heap.size w w') : w.grownBy w' none := ⟨h.os, h.tape, h.output, h.size, fun k hk _ => h.block k hk⟩

theorem splice_cons {α : Type} (L : List α) (o : Nat) (v : α) (r : List α) (h : o < L.length) : splice (L.set o v) (o + 1) r = splice L o (v :: r) := by
  unfold splice
  rw [List.take_set, List.drop_set_of_lt (by omega), List.length_cons, show o + (r.length + 1) = o + 1 + r.length by omega]
  rw [List.take_succ_eq_append_getElem h, List.set_append_right _ _ (by simp; omega)]
  simp [Nat.min_eq_left (Nat.le_of_lt h)]
theorem setCells_row (b : Nat) (t : TypeId) : ∀ (vs : List Value) (o : Nat) (w : World) (cur : List Value), w.heap[b]? = some (.cells cur.toArray t (0, 0)) → o + vs.length ≤ cur.length → (w.setCells b o vs).heap[b]? = some (.cells (splice cur o vs).toArray t (0, 0))
  | [], o, w, cur, h, hl => by simpa [World.setCells, splice] using h
  | v :: r, o, w, cur, h, hl => by
    have hl' : o + (r.length + 1) ≤ cur.length := by simpa using hl
    rw [World.setCells]
    have h1 := heap_setCell_same w b o cur.toArray t v h
    have e : cur.toArray.setIfInBounds o v = (cur.set o v).toArray := by simp
    rw [e] at h1
    have := setCells_row b t r (o + 1) _ (cur.set o v) h1 (by simp; omega)
    rw [this, splice_cons _ _ _ _ (by omega)]
theorem grown_setCell (w : World) (a : Addr) (u : Value) : w.grownBy (w.setCell a u) (some a.block) :=
  ⟨rfl, rfl, rfl, by simp [World.setCell], fun k hk hne => Below.heap_setCell _ _ _ _ (fun e => hne (by rw [e]))⟩
theorem grown_refl (w : World) (row : Option Nat) : w.grownBy w row := ⟨rfl, rfl, rfl, Nat.le_refl _, fun _ _ _ => rfl⟩
theorem grown_setCells (b : Nat) : ∀ (vs : List Value) (o : Nat) (w : World), w.grownBy (w.setCells b o vs) (some b)
  | [], o, w => grown_refl w _
  | v :: r, o, w => (grown_setCell w ⟨b, o, none⟩ v).trans (grown_setCells b r (o + 1) _)
section
variable {P : Program}
end

/-! ### slices.Clone -/
theorem add_add (p : Addr) (i j : Nat) : (p.add i).add j = p.add (i + j) := by
  unfold Addr.add
  by_cases hi : i = 0
  · simp [hi]
  · by_cases hj : j = 0
    · simp [hi, hj]
    · simp [hi, hj]; omega
theorem it_flat_at : ∀ (L : List St.It), (∀ r ∈ L, r.id.length = 32) → ∀ (j : Nat) (u : Value), (L.flatMap itC)[j]? = some u → ∃ i r q, L[i]? = some r ∧ (itC r)[q]? = some u ∧ j = i * 33 + q
  | [], _, j, u, h => by simp at h
  | a :: t, hid, j, u, h => by
    have ha : (itC a).length = 33 := by rw [itC_length, hid a (by simp)]
    rw [List.flatMap_cons] at h
    by_cases hj : j < 33
    · rw [List.getElem?_append_left (by omega)] at h
      exact ⟨0, a, j, rfl, h, by omega⟩
    · rw [List.getElem?_append_right (by omega), ha] at h
      obtain ⟨i, r, q, h1, h2, h3⟩ := it_flat_at t (fun x hx => hid x (by simp [hx])) (j - 33) u h
      exact ⟨i + 1, r, q, by simpa using h1, h2, by omega⟩
theorem ItsAt.cells {w : World} {a : Addr} {n cap : Nat} {L : List St.It} (h : ItsAt w (.slice (some a) n cap) L) : ∀ j u, (L.flatMap itC)[j]? = some u → w.cell? (a.add j) = some u := fun j u hu => by
  obtain ⟨i, r, q, h1, h2, h3⟩ := it_flat_at L h.len j u hu
  obtain ⟨a', e, _, hc⟩ := h.elem i r h1
  cases e
  have := hc q u h2
  rw [add_add, ← h3] at this
  exact this
theorem own_cap (ao : Option Addr) (n c n' c' : Nat) : (Value.slice ao n c).ownBlock = (Value.slice ao n' c').ownBlock := by cases ao <;> rfl
end Go.Proofs.Ytkcjhkfelaplkaa
end

section
namespace Go.Proofs.Ytkcjhkfelaplkaa
open Go.RowKit
set_option linter.unusedVariables false
set_option linter.unusedSimpArgs false

theorem rgn_tail {P : Program} {id : Nat} {Q : Exit → Act → World → Prop} {a : Act} {w : World} {l : List Oper} (n : Nat) (hm : P.follows .mixedOrders = true) (hB : Region.lexTailB .any l.toArray n = true)
    (h : wpStill P l.toArray w.drew (fun a' => wpList P l.toArray Q (l.drop n) a' w.drew) (l.take n) a) : (Code.region id l.toArray true).wp P Q a w := wp_region_still_tail n hm hB h
theorem rgn_still {P : Program} {id : Nat} {Q : Exit → Act → World → Prop} {a : Act} {w : World} {l : List Oper} (hm : P.follows .mixedOrders = true) (hB : Region.lexB .any l.toArray = true)
    (h : wpStill P l.toArray w.drew (fun a' => Q .normal a' w.drew) l a) : (Code.region id l.toArray true).wp P Q a w := wp_region_still_lit hm hB h
/-- A value of several cells out of wherever, in a region that only reads. -/
theorem still_at {ops : Array Oper} {w : World} {Q : Act → Prop} {a : Act} {o : Oper} {rest : List Oper} {cs : List Value} {ty : TypeId} {x : Operand} {p : Addr} {d : TypeDesc} (ho : o.op = .load ty x) (hx : a.eval x = .pointer (some p)) (hg : o.guard = none)
    (hc : ∀ j v, cs[j]? = some v → w.cell? (p.add j) = some v) (hu : Try.prog.underlying ty = some d) (hd : d.isRow = true) (hi : (Try.prog.info? ty).map (·.size) = some cs.length)
    (h : wpStill Try.prog ops w Q rest (a.put o.dst (.agg cs.toArray))) : wpStill Try.prog ops w Q (o :: rest) a := by
  refine wpStill_step fun K hK => ?_
  rw [if_pos (by simp [Region.wanted, hg])]
  unfold Oper.still execOp
  simp only [ho, hx, Instr.loadAt, Instr.sureAddr, Sem.run_bind, Sem.run_pure, Result.andThen_ok, run_loadVar_at w p ty cs d hc hu hd hi]
  exact ⟨rfl, hK _ h⟩
theorem still_id {ops : Array Oper} {w : World} {Q : Act → Prop} {a : Act} {o : Oper} {rest : List Oper} {l : List UInt8} {x : Operand} {p : Addr} (ho : o.op = .load 28 x) (hx : a.eval x = .pointer (some p)) (hg : o.guard = none)
    (hc : ∀ j v, (idC l)[j]? = some v → w.cell? (p.add j) = some v) (hl : l.length = 32)
    (h : wpStill Try.prog ops w Q rest (a.put o.dst (.agg (idC l).toArray))) : wpStill Try.prog ops w Q (o :: rest) a :=
  still_at ho hx hg hc Try.underlying28 rfl (idsize hl) h

theorem lt_same : ∀ a b : List UInt8, S2.ltB a b = St.lt a b
  | [], [] => rfl
  | [], _ :: _ => rfl
  | _ :: _, [] => rfl
  | x :: r, y :: q => by unfold S2.ltB St.lt; rw [lt_same r q]
theorem idA_same (l : List UInt8) (h : l.length = 32) : S2.idA l = (idC l).toArray := by
  unfold S2.idA idC
  rw [h]; simp
  intro x _; rfl
theorem refless_id (a b : List UInt8) (w : World) (ha : a.length = 32) (hb : b.length = 32) :
    Calls Try.prog 29 #[.agg (idC a).toArray, .agg (idC b).toArray] w fun r w' => r = .returned (.bool (St.lt a b)) ∧ Below w.heap.size w w' := by
  have := S2.refless_any a b w ha hb
  rwa [idA_same a ha, idA_same b hb, lt_same] at this

/-- The program's store in memory: its block b, its row; what it holds. -/
structure PSt (w : World) (base b : Nat) (v : Value) (L : List St.It) : Prop where
  box : w.heap[b]? = some (.cells #[v] 91)
  own : OwnF w base v L
  ge : base ≤ b
  len : St.Len L
  srt : St.Srt L
  few : L.length ≤ 63
theorem PSt.below {w w' : World} {base b : Nat} {v : Value} {L : List St.It} (h : PSt w base b v L) (hb : Below w.heap.size w w') : PSt w' base b v L :=
  ⟨(hb.block b (Array.getElem?_eq_some_iff.1 h.box).1).trans h.box, own_bel h.own hb, h.ge, h.len, h.srt, h.few⟩
theorem PSt.cell {w : World} {base b : Nat} {v : Value} {L : List St.It} (h : PSt w base b v L) : w.cell? ⟨b, 0, none⟩ = some v := by
  rw [cell_of_row _ _ 0 _ _ _ h.box]; rfl
theorem PSt.lt {w : World} {base b : Nat} {v : Value} {L : List St.It} (h : PSt w base b v L) : b < w.heap.size := (Array.getElem?_eq_some_iff.1 h.box).1
theorem PSt.form {w : World} {base b : Nat} {v : Value} {L : List St.It} (h : PSt w base b v L) : ∃ ao cap, v = .slice ao L.length cap := (h.own.rows h.len).form
theorem PSt.elem {w : World} {base b : Nat} {ao : Option Addr} {n cap : Nat} {L : List St.It} (h : PSt w base b (.slice ao n cap) L) (i : Nat) (r : St.It) (hi : L[i]? = some r) :
    ∃ a, ao = some a ∧ r.id.length = 32 ∧ ∀ j x, (itC r)[j]? = some x → w.cell? ((a.add (i * 33)).add j) = some x := (h.own.rows h.len).elem i r hi

end Go.Proofs.Ytkcjhkfelaplkaa
end

section
namespace Go.Proofs.Ytkcjhkfelaplkaa
open Go.RowKit
set_option linter.unusedVariables false
set_option linter.unusedSimpArgs false

theorem still_idg {ops : Array Oper} {w : World} {Q : Act → Prop} {a : Act} {o : Oper} {rest : List Oper} {l : List UInt8} {x : Operand} {p : Addr} (ho : o.op = .load 28 x) (hx : a.eval x = .pointer (some p)) (hw : Region.wanted o (yielded ops a.tmps) = true)
    (hc : ∀ j v, (idC l)[j]? = some v → w.cell? (p.add j) = some v) (hl : l.length = 32)
    (h : wpStill Try.prog ops w Q rest (a.put o.dst (.agg (idC l).toArray))) : wpStill Try.prog ops w Q (o :: rest) a := by
  refine wpStill_step fun K hK => ?_
  rw [if_pos hw]
  unfold Oper.still execOp
  simp only [ho, hx, Instr.loadAt, Instr.sureAddr, Sem.run_bind, Sem.run_pure, Result.andThen_ok, run_loadVar_at w p 28 (idC l) _ hc Try.underlying28 rfl (idsize hl)]
  exact ⟨rfl, hK _ h⟩
theorem below2 (w : World) (o1 o2 : Obj) : Below w.heap.size w ((w.alloc o1).alloc o2) := ((Below.refl _ _).alloc (Nat.le_refl _) _).alloc (by simp) _
theorem new2 (w : World) (o1 o2 : Obj) : ((w.alloc o1).alloc o2).heap[w.heap.size + 1]? = some o2 := by
  have := heap_alloc_new (w.alloc o1) o2
  simpa using this
theorem bel_drewN {B : Nat} {w w' : World} (h : Below B w w') (n : Nat) : Below B w (w'.drewN n) := ⟨h.os, h.tape, h.output, h.size, h.block⟩
set_option maxHeartbeats 400000 in
set_option maxRecDepth 100000 in
theorem place_nil (id : List UInt8) (w : World) :
    Calls Try.prog 60 #[.pointer none, .agg (idC id).toArray] w fun r w' => r = .returned (.tuple #[.int .i64 0, .bool false]) ∧ Below w.heap.size w w' := by
  have HB := Lib.hid (below2 w)
  generalize (idC id).toArray = da at *
  go_enter Try.func60, Try.ntmps60
  go_wp2_with fail
  go_ret2
  exact ⟨rfl, HB.out _ _⟩

end Go.Proofs.Ytkcjhkfelaplkaa
end

section
namespace Go.Proofs.Ytkcjhkfelaplkaa
open Go.RowKit
set_option linter.unusedVariables false
set_option linter.unusedSimpArgs false

/-- What a call that works on one store leaves as it was: all but its block and its row. -/
structure Kept (w w' : World) (b : Nat) (v : Value) : Prop where
  os : w'.os = w.os
  tape : w'.tape = w.tape
  output : w'.output = w.output
  size : w.heap.size ≤ w'.heap.size
  block : ∀ k, k < w.heap.size → k ≠ b → some k ≠ v.ownBlock → w'.heap[k]? = w.heap[k]?
theorem Kept.below {w w' : World} {base b : Nat} {v : Value} {L : List St.It} (k : Kept w w' b v) (h : PSt w base b v L) : Below base w w' := by
  refine ⟨k.os, k.tape, k.output, k.size, fun i hi => ?_⟩
  have hb := h.ge
  have hlt := h.lt
  refine k.block i (by omega) (by omega) (fun e => ?_)
  have := (h.own.lt i e.symm).1
  omega
theorem own_kept {w w' : World} {B e k n : Nat} {v : Value} {xs : List Value} (h : w.ownsRow B e k v n xs) (hk : ∀ g, v.ownBlock = some g → w'.heap[g]? = w.heap[g]?) : w'.ownsRow B e k v n xs := by
  refine ⟨h.1, h.2.imp id ?_⟩
  rintro ⟨g, cap, cur, hv, hg, hh, hrest⟩
  exact ⟨g, cap, cur, hv, hg, (hk g (by rw [hv]; rfl)).trans hh, hrest⟩
/-- The box of the item. -/
structure BxI (W : World) (g : Nat) (x : St.It) : Prop where
  out : W.heap[g]? = some (.cells (itC x).toArray 105)
theorem BxI.below {W W' : World} {g : Nat} {x : St.It} (h : BxI W g x) (hb : Below W.heap.size W W') : BxI W' g x := ⟨(hb.block g (Array.getElem?_eq_some_iff.1 h.out).1).trans h.out⟩

end Go.Proofs.Ytkcjhkfelaplkaa
end

section
namespace Go.Proofs.Ytkcjhkfelaplkaa
open Go.RowKit
set_option linter.unusedVariables false
set_option linter.unusedSimpArgs false
namespace Rm

/-- An object whose ids are ids, and whose time fits. -/
structure Ids (o : Ob) : Prop where
  e : ∀ e ∈ o.ents, e.id.length = 32
  p : ∀ p ∈ o.pars, p.length = 32
  tr : o.tree.length = 32
  ta : o.target.length = 32
  ti : o.time < 4294967296
end Rm
end Go.Proofs.Ytkcjhkfelaplkaa
end

section
namespace Go.Proofs.Ytkcjhkfelaplkaa
open Go.RowKit
set_option linter.unusedVariables false
set_option linter.unusedSimpArgs false

/-- The id of an encoding. -/
def shaI (s : ByteArray) : List UInt8 := S2.Sh.idOf (S2.Sh.sha s.data.toList)
theorem shaI_len (s : ByteArray) : (shaI s).length = 32 := S2.Sh.idOf_length _
end Go.Proofs.Ytkcjhkfelaplkaa
end

section
namespace Go.Proofs.Ytkcjhkfelaplkaa
open Go.RowKit
set_option linter.unusedVariables false
set_option linter.unusedSimpArgs false

set_option maxHeartbeats 1000000 in
set_option maxRecDepth 100000 in
theorem get_nil (id : List UInt8) (w : World) (hil : id.length = 32) :
    Calls Try.prog 45 #[.pointer none, .agg (idC id).toArray] w fun r w' => r = .returned (.tuple #[.string ⟨#[]⟩, .bool false]) ∧ Below w.heap.size w w' := by
  have HB := Lib.hid (below_new w (.cells (idC id).toArray 28))
  have HR := Lib.hid (row_news (heap_alloc_new w (.cells (idC id).toArray 28)))
  have HL := Lib.hid hil
  have HP := Lib.hid (fun W => place_nil id W)
  clear hil
  go_enter Try.func45, Try.ntmps45
  go_wp2_with ((with_reducible refine ld_id (x := .tmp 3) (p := ⟨w.heap.size, 0, none⟩) ?_ ?_ ?_ HR.out HL.out ?_); rfl; rfl; rfl)
  refine (HP.out _).mono ?_
  rintro r w1 ⟨rfl, hb1⟩
  have hB := HB.out.trans (hb1.mono (by simp))
  clear hb1
  go_wp2_with fail
  go_ret2
  exact ⟨rfl, hB⟩

set_option maxHeartbeats 1000000 in
set_option maxRecDepth 100000 in
theorem kind_nil (id : List UInt8) (w : World) (hil : id.length = 32) :
    Calls Try.prog 32 #[.pointer none, .agg (idC id).toArray] w fun r w' => r = .returned (.int .i64 0) ∧ Below w.heap.size w w' := by
  have HB := Lib.hid (below_new w (.cells (idC id).toArray 28))
  have HR := Lib.hid (row_news (heap_alloc_new w (.cells (idC id).toArray 28)))
  have HL := Lib.hid hil
  have HP := Lib.hid (fun W => get_nil id W hil)
  clear hil
  go_enter Try.func32, Try.ntmps32
  go_wp2_with ((with_reducible refine ld_id (x := .tmp 3) (p := ⟨w.heap.size, 0, none⟩) ?_ ?_ ?_ HR.out HL.out ?_); rfl; rfl; rfl)
  refine (HP.out _).mono ?_
  rintro r w1 ⟨rfl, hb1⟩
  have hB := HB.out.trans (hb1.mono (by simp))
  clear hb1
  go_wp2_with fail
  go_ret
  exact ⟨rfl, hB⟩

set_option maxHeartbeats 400000 in
theorem len_nil (w : World) : Calls Try.prog 31 #[.pointer none] w fun r w' => r = .returned (.int .i64 0) ∧ w = w' := by
  go_enter Try.func31, Try.ntmps31
  go_wp2_with fail
  go_ret
  exact ⟨rfl, rfl⟩
set_option maxHeartbeats 1000000 in
set_option maxRecDepth 100000 in
theorem object_nil (id : List UInt8) (w : World) (hil : id.length = 32) :
    Calls Try.prog 30 #[.pointer none, .agg (idC id).toArray] w fun r w' => r = .returned (.tuple #[.agg (obC noOb nilV nilV).toArray, .bool false]) ∧ Below w.heap.size w w' := by
  have hz28 := (zero_of_info zero28).1
  have HS0 := Lib.hid noF.size
  have HN0 := Lib.hid noF.one
  have HBN := Lib.hid built_none
  have HL := Lib.hid hil
  have HP := Lib.hid (fun W => get_nil id W hil)
  generalize (obC noOb nilV nilV).toArray = z at *
  have HR := Lib.hid (row_news (heap_alloc_new w (.cells (idC id).toArray 28)))
  have HR2 := Lib.hid (fun j u hu => ((below_new _ (.cells z 67)).cell (World.block_lt_of_cell? _ _ (HR.out j u hu))).trans (HR.out j u hu))
  have HE2 := Lib.hid (heap_alloc_new (w.alloc (.cells (idC id).toArray 28)) (.cells z 67))
  have HB2 := Lib.hid (below2 w (.cells (idC id).toArray 28) (.cells z 67))
  rw [show (w.alloc (.cells (idC id).toArray 28)).heap.size = w.heap.size + 1 by simp] at HE2
  clear hil
  go_enter Try.func30, Try.ntmps30
  go_wp2_with ((with_reducible refine ld_id (x := .tmp 3) (p := ⟨w.heap.size, 0, none⟩) ?_ ?_ ?_ HR2.out HL.out ?_); rfl; rfl; rfl)
  refine (HP.out _).mono ?_
  rintro r w1 ⟨rfl, hb1⟩
  have hB := HB2.out.trans (hb1.mono (by simp; omega))
  have E1 := Lib.hid ((hb1.block (w.heap.size + 1) (by simp)).trans HE2.out)
  clear hb1 HR HR2 HE2 HB2 HP
  go_wp2_with (first
    | ((with_reducible refine bd_obz ?_ ?_ HBN.out ?_); rfl; rfl)
    | ((with_reducible refine st_obr (x := .tmp 4) (y := .tmp 18) ?_ ?_ ?_ ?_ E1.out HS0.out HS0.out HN0.out ?_); rfl; rfl; rfl; rfl))
  refine bodyPost_ret (results_cell_tmp (fn := Try.f30) (p := 4) (q := 5) (by rfl) _ _ (w.heap.size + 1) _ _ _ _ (by rfl) (setRow_heap _ _ _ _ _ _ E1.out) Try.underlying67 rfl (obsize HS0.out)) rfl ⟨rfl, below_setRow hB (by omega) _⟩

end Go.Proofs.Ytkcjhkfelaplkaa
end

section
namespace Go.Proofs.Ytkcjhkfelaplkaa
open Go.RowKit
set_option linter.unusedVariables false
set_option linter.unusedSimpArgs false

theorem flatK_len {k : Nat} : ∀ (C : List (List Value)), (∀ c ∈ C, c.length = k) → C.flatten.length = C.length * k
  | [], _ => by simp
  | c :: t, h => by
    rw [List.flatten_cons, List.length_append, flatK_len t (fun x hx => h x (by simp [hx])), h c (by simp), List.length_cons, Nat.succ_mul]; omega
theorem flatK_get {k : Nat} : ∀ (C : List (List Value)), (∀ c ∈ C, c.length = k) → ∀ (i : Nat) (c : List Value), C[i]? = some c → ∀ (j : Nat) (x : Value), c[j]? = some x → C.flatten[i * k + j]? = some x
  | [], _, i, c, hi, _, _, _ => by simp at hi
  | a :: t, h, i, c, hi, j, x, hx => by
    have ha : a.length = k := h a (by simp)
    rw [List.flatten_cons]
    cases i with
    | zero =>
      simp at hi; subst hi
      have hj : j < a.length := (List.getElem?_eq_some_iff.1 hx).1
      rw [Nat.zero_mul, Nat.zero_add, List.getElem?_append_left hj]
      exact hx
    | succ i =>
      simp at hi
      rw [List.getElem?_append_right (by rw [ha, Nat.succ_mul]; omega), show (i + 1) * k + j - a.length = i * k + j by rw [ha, Nat.succ_mul]; omega]
      exact flatK_get t (fun x hx => h x (by simp [hx])) i c hi j x hx
/-- A row that a call has made, read as a slice of elements. -/
theorem own_rowsK {w : World} {base e k : Nat} {v : Value} {C : List (List Value)} (h : w.ownsRow base e k v C.length C.flatten) (hk : ∀ c ∈ C, c.length = k) : RowsAt w v k C := by
  refine ⟨?_⟩
  rcases h.2 with ⟨rfl, h0⟩ | ⟨g, cap, cur, rfl, hg, hb⟩
  · exact .inl ⟨rfl, by simpa using h0⟩
  · refine .inr ⟨⟨g, 0, none⟩, cap, rfl, fun i cs hi => ⟨hk cs (List.mem_of_getElem? hi), fun j x hx => ?_⟩⟩
    have := World.ownsRow.cells h (g := g) rfl (i * k + j) x (flatK_get C hk i cs hi j x hx)
    rw [Addr.add_mid] at this
    rw [Addr.add_mid, Addr.add_mid]
    simpa [Nat.add_assoc] using this
theorem own_pushK {w : World} {base e k : Nat} {v : Value} {C : List (List Value)} {c : List Value} (h : w.ownsRow base e k v (C.length + 1) (C.flatten ++ c)) : w.ownsRow base e k v (C ++ [c]).length (C ++ [c]).flatten := by
  rw [List.flatten_append, List.length_append]
  simpa using h
/-- Ids in memory. -/
def IdsAt (w : World) (v : Value) (I : List (List UInt8)) : Prop := RowsAt w v 32 (I.map idC)
theorem ids_len {I : List (List UInt8)} (h : ∀ i ∈ I, i.length = 32) : ∀ c ∈ I.map idC, c.length = 32 := fun c hc => by
  obtain ⟨i, hi, rfl⟩ := List.mem_map.1 hc
  rw [idC_length, h i hi]
theorem infoIdz : (Try.prog.info? 28).map (fun i => (i.zero, i.size, i.bytes)) = some (some (.agg (idC zId).toArray), 32, 32) := by kernel_rfl

end Go.Proofs.Ytkcjhkfelaplkaa
end

section
namespace Go.Proofs.Ytkcjhkfelaplkaa
open Go.RowKit
set_option linter.unusedVariables false
set_option linter.unusedSimpArgs false

def riC (id : List UInt8) (t : ByteArray) (cs : Array Value) : List Value := idC id ++ (.string t :: cs.toList)
theorem riC_length {id : List UInt8} (t : ByteArray) {cs : Array Value} (h : id.length = 32) (hs : cs.size = 72) : (riC id t cs).length = 105 := by simp [riC, idC_length, h, hs]
theorem riC_one (id : List UInt8) (t : ByteArray) {cs : Array Value} (h : cs.all (·.oneCell') = true) : ∀ v ∈ riC id t cs, v.oneCell' = true := by
  intro v hv
  simp only [riC, List.mem_append, List.mem_cons] at hv
  rcases hv with h1 | rfl | h1
  · exact idC_one _ _ h1
  · rfl
  · exact (Array.all_eq_true_iff_forall_mem.1 h) v (by simpa using h1)
end Go.Proofs.Ytkcjhkfelaplkaa
end

section
namespace Go.Proofs.Ytkcjhkfelaplkaa
open Go.RowKit
set_option linter.unusedVariables false
set_option linter.unusedSimpArgs false

/-- An item of the document's store: its 105 cells (of its object the kind alone is looked at). -/
def DIt (_w : World) (c : List Value) (x : St.It) : Prop :=
  ∃ (o : Ob) (cs : Array Value), c = riC x.id x.text cs ∧ cs.size = 72 ∧ cs.all (·.oneCell') = true ∧ cs[0]? = some (.int .i64 o.kind) ∧ Rm.dec x.text.data.toList = some o ∧ shaI x.text = x.id
theorem DIt.below {w w' : World} {c : List Value} {x : St.It} (h : DIt w c x) (hb : Below w.heap.size w w') : DIt w' c x := h
theorem DIt.idl {w : World} {c : List Value} {x : St.It} (h : DIt w c x) : x.id.length = 32 := by
  obtain ⟨o, cs, _, _, _, _, _, h4⟩ := h
  rw [← h4]; exact shaI_len _
theorem DIt.len {w : World} {c : List Value} {x : St.It} (h : DIt w c x) : c.length = 105 := by
  have := h.idl
  obtain ⟨o, cs, rfl, h2, _⟩ := h
  exact riC_length _ this h2
theorem DIt.one {w : World} {c : List Value} {x : St.It} (h : DIt w c x) : ∀ v ∈ c, v.oneCell' = true := by
  obtain ⟨o, cs, rfl, _, h2, _⟩ := h
  exact riC_one _ _ h2
/-- Rows of items, each what it is to be. -/
structure Its (w : World) (C : List (List Value)) (L : List St.It) : Prop where
  len : C.length = L.length
  at_ : ∀ (i : Nat) (c : List Value) (x : St.It), C[i]? = some c → L[i]? = some x → DIt w c x
theorem Its.below {w w' : World} {C : List (List Value)} {L : List St.It} (h : Its w C L) (hb : Below w.heap.size w w') : Its w' C L := ⟨h.len, fun i c x h1 h2 => (h.at_ i c x h1 h2).below hb⟩
theorem ri_id {w : World} {p : Addr} {id : List UInt8} {t : ByteArray} {cs : Array Value} (h : ∀ j x, (riC id t cs)[j]? = some x → w.cell? (p.add j) = some x) : ∀ j x, (idC id)[j]? = some x → w.cell? (p.add j) = some x := fun j x hx => h j x (by
  simp only [riC]
  rw [List.getElem?_append_left (List.getElem?_eq_some_iff.1 hx).1]; exact hx)
end Go.Proofs.Ytkcjhkfelaplkaa
end

section
namespace Go.Proofs.Ytkcjhkfelaplkaa
open Go.RowKit
set_option linter.unusedVariables false
set_option linter.unusedSimpArgs false

/-- A row of ids that a call has made. -/
structure OwnI (w : World) (base : Nat) (v : Value) (I : List (List UInt8)) : Prop where
  own : w.ownsRow base 28 32 v I.length (I.map idC).flatten
  len : ∀ i ∈ I, i.length = 32
theorem OwnI.nil (w : World) (base : Nat) : OwnI w base (.slice none 0 0) [] := ⟨World.ownsRow_nil _ _ _ _, (fun i h => by cases h)⟩
theorem OwnI.below {w w' : World} {base : Nat} {v : Value} {I : List (List UInt8)} (h : OwnI w base v I) (hb : Below w.heap.size w w') : OwnI w' base v I := ⟨own_bel h.own hb, h.len⟩
theorem OwnI.rows {w : World} {base : Nat} {v : Value} {I : List (List UInt8)} (h : OwnI w base v I) : IdsAt w v I := own_rowsK (C := I.map idC) (by simpa using h.own) (ids_len h.len)
theorem wp_ap_id {op : Oper} {a : Act} {wr : World} {K : Act → World → Prop} {Q : Exit → Act → World → Prop} {v : Value} {I : List (List UInt8)} {id : List UInt8} {base : Nat} (s x : Operand)
    (ho : op.op = .call { callee := .builtin .append, args := #[s, x], argTypes := #[22, 22] }) (hs : a.eval s = v) (hx : a.eval x = .slice (some ⟨wr.heap.size, 0, none⟩) 1 1)
    (h : OwnI wr base v I) (hb : base ≤ wr.heap.size) (hid : id.length = 32) (hl : I.length ≤ 2000)
    (hK : ∀ v' w', Hid (OwnI w' base v' (I ++ [id])) → Hid ((wr.alloc (.cells (idC id).toArray 28)).grownBy w' v.ownBlock) → K (a.put op.dst v') w') : op.wp Try.prog a (wr.alloc (.cells (idC id).toArray 28)) K Q := by
  obtain ⟨i0, hi, hz0, hz1, hz2⟩ := info_parts infoIdz
  refine wp_append_own _ s x 22 ho base 28 i0 _ 32 32 Try.underlying22 hi hz0 hz1 hz2 (by decide) (by decide) v I.length (I.map idC).flatten hs (World.ownsRow.alloc h.own _) ⟨wr.heap.size, 0, none⟩ 1 1 (idC id) hx (by rw [idC_length, hid]) (row_news (heap_alloc_new _ _)) (idC_one id) (by unfold maxLen; omega) (by omega) (by simp; omega) ?_
  intro v' w' h1 h2 _
  refine hK v' w' ⟨?_, ?_⟩ h2
  · have := own_pushK (C := I.map idC) (c := idC id) (by simpa using h1)
    rw [show (I ++ [id]).map idC = I.map idC ++ [idC id] by simp, show (I ++ [id]).length = (I.map idC ++ [idC id]).length by simp]
    exact this
  · intro i hi
    rcases List.mem_append.1 hi with h | h
    · exact OwnI.len ‹_› i h
    · rw [List.mem_singleton.1 h]; exact hid
theorem ap_id {ops : Array Oper} {rest : List Oper} {op : Oper} {a : Act} {wr : World} {Q : Exit → Act → World → Prop} {v : Value} {I : List (List UInt8)} {id : List UInt8} {base : Nat} (s x : Operand)
    (ho : op.op = .call { callee := .builtin .append, args := #[s, x], argTypes := #[22, 22] }) (hs : a.eval s = v) (hx : a.eval x = .slice (some ⟨wr.heap.size, 0, none⟩) 1 1) (hg : op.guard = none)
    (h : OwnI wr base v I) (hb : base ≤ wr.heap.size) (hid : id.length = 32) (hl : I.length ≤ 2000)
    (hK : ∀ v' w', Hid (OwnI w' base v' (I ++ [id])) → Hid ((wr.alloc (.cells (idC id).toArray 28)).grownBy w' v.ownBlock) → wpList Try.prog ops Q rest (a.put op.dst v') w') : wpList Try.prog ops Q (op :: rest) a (wr.alloc (.cells (idC id).toArray 28)) :=
  wpList_plain hg fun _ hK' => wp_ap_id s x ho hs hx h hb hid hl (fun v' w' h1 h2 => hK' _ _ (hK v' w' h1 h2))
theorem bs_id2 {ops : Array Oper} {rest : List Oper} {op : Oper} {a : Act} {w : World} {Q : Exit → Act → World → Prop} {x : Operand} {l : List UInt8} (ho : op.op = .buildSlice 22 1 #[(0, x)]) (hx : a.eval x = .agg (idC l).toArray) (hg : op.guard = none) (hl : l.length = 32)
    (h : wpList Try.prog ops Q rest (a.put op.dst (.slice (some ⟨w.heap.size, 0, none⟩) 1 1)) (w.alloc (.cells (idC l).toArray 28))) : wpList Try.prog ops Q (op :: rest) a w :=
  Great.wpList_buildSliceTo hg _ 28 1 _ ho w.heap.size rfl op.dst rfl Try.underlying22 _ (by simp only [List.map_toArray, List.map_cons, List.map_nil, hx]; exact builtS_id l hl) h
theorem OwnI.grown {w wr w' : World} {base : Nat} {v : Value} {I : List (List UInt8)} {o : Obj} (h : OwnI wr base v I) (hb : Below base w wr) (hbs : base ≤ wr.heap.size) (hg : (wr.alloc o).grownBy w' v.ownBlock) : Below base w w' :=
  (hb.alloc hbs _).grown hg (by simp; omega) (fun k hk => (h.own.lt k hk).1)

set_option maxHeartbeats 2000000 in
set_option maxRecDepth 100000 in
/-- Two lists of ids that are one. -/
theorem sameids_any (w : World) (v1 v2 : Value) (I : List (List UInt8)) (h1 : IdsAt w v1 I) (h2 : IdsAt w v2 I) (hl : ∀ i ∈ I, i.length = 32) (hn : I.length ≤ 1000) :
    Calls Try.prog 5 #[v1, v2] w fun r w' => r = .returned (.bool true) ∧ Below w.heap.size w w' := by
  obtain ⟨ao, c1, rfl⟩ : ∃ ao cap, v1 = .slice ao I.length cap := by simpa using RowsAt.form h1
  obtain ⟨bo, c2, rfl⟩ : ∃ ao cap, v2 = .slice ao I.length cap := by simpa using RowsAt.form h2
  have H1 := Lib.hid h1
  have H2 := Lib.hid h2
  have HL := Lib.hid hl
  clear h1 h2 hl
  go_enter Try.func5, Try.ntmps5
  go_wp2_with fail
  go_loopw [5] (fun i wr => ∃ (k : Nat), k ≤ I.length ∧ i = .int .i64 k ∧ Hid (Below w.heap.size w wr)) (fun i _ => I.length - (intOf i).toNat)
  case atStart => exact ⟨0, by omega, rfl, Below.refl _ _⟩
  case round =>
    obtain ⟨k, hk, rfl, HB⟩ := hrel
    by_cases hlt : k < I.length
    · have hlt' : (k : Int) < (I.length : Int) := by omega
      have hk0 : (0 : Int) ≤ (k : Int) := by omega
      obtain ⟨id, hx⟩ : ∃ x, I[k]? = some x := ⟨I[k], List.getElem?_eq_getElem hlt⟩
      have hxl := HL.out id (List.mem_of_getElem? hx)
      obtain ⟨a, rfl, _, hc⟩ := (RowsAt.below H1.out HB.out).elem k (idC id) (by simp [hx])
      obtain ⟨b, rfl, _, hd⟩ := (RowsAt.below H2.out HB.out).elem k (idC id) (by simp [hx])
      have HC1 := Lib.hid (show ∀ j u, (idC id)[j]? = some u → wr.drew.cell? ((a.add (k * 32)).add j) = some u from hc)
      have HC2 := Lib.hid (show ∀ j u, (idC id)[j]? = some u → wr.drew.cell? ((b.add (k * 32)).add j) = some u from hd)
      have HXL := Lib.hid hxl
      have hq : ∀ W, (Op.equalIn 10000 28 (.agg (idC id).toArray) (.agg (idC id).toArray)).run Try.prog W = .ok true W := fun W => by
        have := eq_id id id hxl hxl W; simpa using this
      clear hx hxl hc hd
      go_wp2_with fail
      refine rgn_still (by kernel_rfl) (by kernel_rfl) ?_
      repeat still_step
      (with_reducible apply still_id (hc := HC1.out) (hl := HXL.out))
      rfl
      rfl
      rfl
      repeat still_step
      (with_reducible apply still_id (hc := HC2.out) (hl := HXL.out))
      rfl
      rfl
      rfl
      repeat still_step
      refine wpStill_nil ?_
      go_wp2_with fail
      go_roundw
      case rel => exact ⟨k + 1, by omega, by go_num, HB.out.drew⟩
      case measure => simp [intOf]; omega
    · go_wp2_with fail
      go_ret
      exact ⟨rfl, HB.out⟩

end Go.Proofs.Ytkcjhkfelaplkaa
end

section
namespace Go.Proofs.Ytkcjhkfelaplkaa
open Go.RowKit
set_option linter.unusedVariables false
set_option linter.unusedSimpArgs false

/-- Items of the old store, and one that is new. -/
structure ItN (w : World) (c0 : List Value) (x : St.It) (C : List (List Value)) (M : List St.It) : Prop where
  len : C.length = M.length
  at_ : ∀ (i : Nat) (c : List Value) (y : St.It), C[i]? = some c → M[i]? = some y → DIt w c y ∨ (c = c0 ∧ y = x)
theorem ItN.nil (w : World) (c0 : List Value) (x : St.It) : ItN w c0 x [] [] := ⟨rfl, fun i c y h => by simp at h⟩
theorem ItN.its {w W : World} {c0 : List Value} {x : St.It} {C : List (List Value)} {M : List St.It} (h : ItN w c0 x C M) (hb : Below w.heap.size w W) (hx : DIt W c0 x) : Its W C M :=
  ⟨h.len, fun i c y hc hy => by
    rcases h.at_ i c y hc hy with h1 | ⟨rfl, rfl⟩
    · exact h1.below hb
    · exact hx⟩
theorem DIt.ids {w W : World} {c : List Value} {x : St.It} {p : Addr} (h : DIt w c x) (hc : ∀ j u, c[j]? = some u → W.cell? (p.add j) = some u) : ∀ j u, (idC x.id)[j]? = some u → W.cell? (p.add j) = some u := by
  obtain ⟨o, cs, rfl, _⟩ := h
  exact ri_id hc
/-- What With's last region reads. -/
structure Rd2 (n0 n2 : Nat) (v : Value) (id : List UInt8) (W : World) : Prop where
  c : W.cell? ⟨n0, 0, none⟩ = some v
  r : W.rangeAt n2 0 (idC id)
theorem Rd2.setRow {n0 n2 k : Nat} {v : Value} {id : List UInt8} {W : World} (h : Rd2 n0 n2 v id W) (h0 : n0 ≠ k) (h2 : n2 ≠ k) (cs : Array Value) : Rd2 n0 n2 v id (W.setRow k cs) :=
  ⟨by rw [cell_setRow_other _ _ _ _ h0]; exact h.c, fun j u hu => by rw [cell_setRow_other _ _ _ _ h2]; exact h.r j u hu⟩
end Go.Proofs.Ytkcjhkfelaplkaa
end

section
namespace Go.Proofs.Ytkcjhkfelaplkaa
open Go.RowKit
set_option linter.unusedVariables false
set_option linter.unusedSimpArgs false

/-- A row of bytes, as an argument brings it. -/
structure ByAt (w : World) (v : Value) (R : List UInt8) : Prop where
  out : (v = .slice none 0 0 ∧ R = []) ∨ ∃ a cap, v = .slice (some a) R.length cap ∧ ∀ (j : Nat) (x : UInt8), R[j]? = some x → w.cell? (a.add j) = some (.int .u8 (x.toNat : Int))
theorem ByAt.below {w w' : World} {v : Value} {R : List UInt8} (h : ByAt w v R) (hb : Below w.heap.size w w') : ByAt w' v R := by
  refine ⟨?_⟩
  rcases h.out with h0 | ⟨a, cap, hv, hc⟩
  · exact .inl h0
  · exact .inr ⟨a, cap, hv, fun j x hx => by rw [hb.cell (World.block_lt_of_cell? w _ (hc j x hx))]; exact hc j x hx⟩
theorem ByAt.form {w : World} {v : Value} {R : List UInt8} (h : ByAt w v R) : ∃ ao cap, v = .slice ao R.length cap := by
  rcases h.out with ⟨rfl, rfl⟩ | ⟨a, cap, rfl, _⟩
  · exact ⟨none, 0, rfl⟩
  · exact ⟨some a, cap, rfl⟩
theorem ByAt.elem {w : World} {ao : Option Addr} {n cap : Nat} {R : List UInt8} (h : ByAt w (.slice ao n cap) R) (j : Nat) (x : UInt8) (hx : R[j]? = some x) : ∃ a, ao = some a ∧ w.cell? (a.add j) = some (.int .u8 (x.toNat : Int)) := by
  rcases h.out with ⟨_, rfl⟩ | ⟨a, cap', hv, hc⟩
  · simp at hx
  · simp only [Value.slice.injEq] at hv
    exact ⟨a, hv.1, hc j x hx⟩

/-- A seed's four cells. -/
def sdC (K : Nat) (rv : Value) (T : Nat) (X : ByteArray) : Array Value := #[.int .u8 (K : Int), rv, .int .u16 (T : Int), .string X]
end Go.Proofs.Ytkcjhkfelaplkaa
end

section
namespace Go.Proofs.Ytkcjhkfelaplkaa
open Go.RowKit
set_option linter.unusedVariables false
set_option linter.unusedSimpArgs false

/-- What the region that adds an entry reads. -/
structure Sx (B g : Nat) (id : List UInt8) (w0 W : World) : Prop where
  b : Below B w0 W
  r : W.heap[g]? = some (.cells (idC id).toArray 28 (0, 0))
theorem Sx.lt {B g : Nat} {id : List UInt8} {w0 W : World} (h : Sx B g id w0 W) : g < W.heap.size := (Array.getElem?_eq_some_iff.1 h.r).1
theorem Sx.below {B g : Nat} {id : List UInt8} {w0 W W' : World} (h : Sx B g id w0 W) (hb : Below W.heap.size W W') (hB : B ≤ W.heap.size) : Sx B g id w0 W' := ⟨h.b.trans (hb.mono hB), (hb.block g h.lt).trans h.r⟩
end Go.Proofs.Ytkcjhkfelaplkaa
end

section
namespace Go.Proofs.Ytkcjhkfelaplkaa
open Go.RowKit
set_option linter.unusedVariables false
set_option linter.unusedSimpArgs false

/-- A seed. -/
structure Sd where
  k : Nat
  refs : List UInt8
  t : Nat
  x : ByteArray
def Sd.ok (s : Sd) : Prop := s.refs.length ≤ 10 ∧ s.x.size ≤ 300
instance (s : Sd) : Decidable s.ok := by unfold Sd.ok; infer_instance
/-- Seeds, as an argument brings them. -/
structure SdsAt (w : World) (v : Value) (S : List Sd) : Prop where
  out : (v = .slice none 0 0 ∧ S = []) ∨ ∃ a cap, v = .slice (some a) S.length cap ∧ ∀ (i : Nat) (s : Sd), S[i]? = some s → ∃ rv, ByAt w rv s.refs ∧ ∀ (j : Nat) (u : Value), (sdC s.k rv s.t s.x)[j]? = some u → w.cell? ((a.add (i * 4)).add j) = some u
  k : ∀ s ∈ S, s.k < 256 ∧ s.t < 65536 ∧ s.refs.length ≤ maxLen ∧ s.x.size ≤ maxLen
theorem SdsAt.below {w w' : World} {v : Value} {S : List Sd} (h : SdsAt w v S) (hb : Below w.heap.size w w') : SdsAt w' v S := by
  refine ⟨?_, h.k⟩
  rcases h.out with h0 | ⟨a, cap, hv, hc⟩
  · exact .inl h0
  · refine .inr ⟨a, cap, hv, fun i s hi => ?_⟩
    obtain ⟨rv, h1, h2⟩ := hc i s hi
    exact ⟨rv, h1.below hb, fun j u hu => by rw [hb.cell (World.block_lt_of_cell? w _ (h2 j u hu))]; exact h2 j u hu⟩
theorem SdsAt.form {w : World} {v : Value} {S : List Sd} (h : SdsAt w v S) : ∃ ao cap, v = .slice ao S.length cap := by
  rcases h.out with ⟨rfl, rfl⟩ | ⟨a, cap, rfl, _⟩
  · exact ⟨none, 0, rfl⟩
  · exact ⟨some a, cap, rfl⟩
theorem SdsAt.elem {w : World} {ao : Option Addr} {n cap : Nat} {S : List Sd} (h : SdsAt w (.slice ao n cap) S) (i : Nat) (s : Sd) (hi : S[i]? = some s) : ∃ a rv, ao = some a ∧ ByAt w rv s.refs ∧ ∀ (j : Nat) (u : Value), (sdC s.k rv s.t s.x)[j]? = some u → w.cell? ((a.add (i * 4)).add j) = some u := by
  rcases h.out with ⟨_, rfl⟩ | ⟨a, cap', hv, hc⟩
  · simp at hi
  · simp only [Value.slice.injEq] at hv
    obtain ⟨rv, h1, h2⟩ := hc i s hi
    exact ⟨a, rv, hv.1, h1, h2⟩
/-- Whether seeds are such as are gone through. -/
def goodS (S : List Sd) : Prop := S.length ≤ 20 ∧ ∀ s ∈ S, s.ok
instance (S : List Sd) : Decidable (goodS S) := by unfold goodS; infer_instance

theorem yields_at {ops : Array Oper} {S : World → Prop} {op : Oper} {a : Act} {ty : TypeId} {x : Operand} {p : Addr} {cs : List Value} {d : TypeDesc} (hw : Region.wanted op (yielded ops a.tmps) = true) (ho : op.op = .load ty x) (hx : a.eval x = .pointer (some p)) (hS : ∀ w, S w → ∀ j v, cs[j]? = some v → w.cell? (p.add j) = some v)
    (hu : Try.prog.underlying ty = some d) (hd : d.isRow = true) (hi : (Try.prog.info? ty).map (·.size) = some cs.length) : YieldsIf Try.prog ops S op (.agg cs.toArray) a :=
  .inl ⟨hw, fun w hw' => by
    unfold execOp
    simp only [ho, hx, Instr.loadAt, Instr.sureAddr, Sem.run_bind, Sem.run_pure, Result.andThen_ok, run_loadVar_at w p ty cs d (hS w hw') hu hd hi]⟩
end Go.Proofs.Ytkcjhkfelaplkaa
end

section
namespace Go.Proofs.Ytkcjhkfelaplkaa
set_option linter.unusedVariables false
set_option linter.unusedSimpArgs false

abbrev Gr.Id := List UInt8
/-- Reached from some by steps. -/
inductive Gr.Rch (nx : Gr.Id → List Gr.Id) (F : List Gr.Id) : Gr.Id → Prop
  | base {x} : x ∈ F → Gr.Rch nx F x
  | step {x y} : Gr.Rch nx F x → y ∈ nx x → Gr.Rch nx F y
theorem Gr.Rch.least {nx : Gr.Id → List Gr.Id} {F : List Gr.Id} {P : Gr.Id → Prop} (h0 : ∀ x ∈ F, P x) (h1 : ∀ x y, P x → y ∈ nx x → P y) : ∀ {x}, Gr.Rch nx F x → P x
  | _, .base h => h0 _ h
  | _, .step h hy => h1 _ _ (Gr.Rch.least h0 h1 h) hy

/-- Where the program stands: what waits (the last one is next), what was seen, of it what is there and what is missing. -/
structure Gr.Dfs (nx : Gr.Id → List Gr.Id) (hs : Gr.Id → Bool) (F W S T M : List Gr.Id) : Prop where
  sound : ∀ x, x ∈ W ∨ x ∈ S → Gr.Rch nx F x
  from_ : ∀ x ∈ F, x ∈ W ∨ x ∈ S
  clos : ∀ x ∈ S, ∀ y ∈ nx x, y ∈ W ∨ y ∈ S
  seen : ∀ x, x ∈ S ↔ x ∈ T ∨ x ∈ M
  tn : T.Nodup
  mn : M.Nodup
  th : ∀ x ∈ T, hs x = true
  mh : ∀ x ∈ M, hs x = false
theorem Gr.Dfs.start (nx : Gr.Id → List Gr.Id) (hs : Gr.Id → Bool) (F : List Gr.Id) : Gr.Dfs nx hs F F [] [] [] where
  sound := fun x h => .base (by simpa using h)
  from_ := fun x h => .inl h
  clos := fun x h => by cases h
  seen := fun x => by simp
  tn := .nil
  mn := .nil
  th := fun x h => by cases h
  mh := fun x h => by cases h
theorem Gr.Dfs.skip {nx : Gr.Id → List Gr.Id} {hs : Gr.Id → Bool} {F W S T M : List Gr.Id} {x : Gr.Id} (h : Gr.Dfs nx hs F (W ++ [x]) S T M) (hx : x ∈ S) : Gr.Dfs nx hs F W S T M where
  sound := fun y hy => h.sound y (by
    rcases hy with hy | hy
    · exact .inl (by simp [hy])
    · exact .inr hy)
  from_ := fun y hy => by
    rcases h.from_ y hy with k | k
    · rcases List.mem_append.1 k with k | k
      · exact .inl k
      · rw [List.mem_singleton.1 k]; exact .inr hx
    · exact .inr k
  clos := fun z hz y hy => by
    rcases h.clos z hz y hy with k | k
    · rcases List.mem_append.1 k with k | k
      · exact .inl k
      · rw [List.mem_singleton.1 k]; exact .inr hx
    · exact .inr k
  seen := h.seen
  tn := h.tn
  mn := h.mn
  th := h.th
  mh := h.mh
theorem Gr.nodup_snoc {T : List Gr.Id} {x : Gr.Id} (h : T.Nodup) (hx : x ∉ T) : (T ++ [x]).Nodup := by
  rw [List.nodup_append]
  refine ⟨h, by simp, fun a ha b hb => ?_⟩
  rw [List.mem_singleton.1 hb]
  exact fun e => hx (by rw [← e]; exact ha)
theorem Gr.Dfs.more {nx : Gr.Id → List Gr.Id} {hs : Gr.Id → Bool} {F W S T M : List Gr.Id} {x : Gr.Id} (h : Gr.Dfs nx hs F (W ++ [x]) S T M) (hx : x ∉ S) (hh : hs x = true) : Gr.Dfs nx hs F (W ++ nx x) (S ++ [x]) (T ++ [x]) M where
  sound := fun y hy => by
    simp only [List.mem_append, List.mem_singleton] at hy
    rcases hy with (hy | hy) | hy | hy
    · exact h.sound y (.inl (by simp [hy]))
    · exact .step (h.sound x (.inl (by simp))) hy
    · exact h.sound y (.inr hy)
    · rw [hy]; exact h.sound x (.inl (by simp))
  from_ := fun y hy => by
    have := h.from_ y hy
    simp only [List.mem_append, List.mem_singleton] at this ⊢
    rcases this with (k | k) | k
    · exact .inl (.inl k)
    · exact .inr (.inr k)
    · exact .inr (.inl k)
  clos := fun z hz y hy => by
    simp only [List.mem_append, List.mem_singleton] at hz
    rcases hz with hz | rfl
    · have := h.clos z hz y hy
      simp only [List.mem_append, List.mem_singleton] at this ⊢
      rcases this with (k | k) | k
      · exact .inl (.inl k)
      · exact .inr (.inr k)
      · exact .inr (.inl k)
    · exact .inl (by simp [hy])
  seen := fun y => by
    simp only [List.mem_append, List.mem_singleton]; rw [h.seen y]
    constructor
    · rintro ((k | k) | k)
      · exact .inl (.inl k)
      · exact .inr k
      · exact .inl (.inr k)
    · rintro ((k | k) | k)
      · exact .inl (.inl k)
      · exact .inr k
      · exact .inl (.inr k)
  tn := Gr.nodup_snoc h.tn (fun k => hx ((h.seen x).2 (.inl k)))
  mn := h.mn
  th := fun y hy => by
    rcases List.mem_append.1 hy with k | k
    · exact h.th y k
    · rw [List.mem_singleton.1 k]; exact hh
  mh := h.mh
/-- Where the document stands: all that was found, of which the first i were gone through. -/
structure Gr.Bfs (nx : Gr.Id → List Gr.Id) (F A : List Gr.Id) (i : Nat) : Prop where
  sound : ∀ x ∈ A, Gr.Rch nx F x
  from_ : ∀ x ∈ F, x ∈ A
  clos : ∀ j x, j < i → A[j]? = some x → ∀ y ∈ nx x, y ∈ A
  nd : A.Nodup
/-- Some, and of others those that are not there yet. -/
def Gr.uni (A : List Gr.Id) : List Gr.Id → List Gr.Id
  | [] => A
  | x :: r => Gr.uni (if x ∈ A then A else A ++ [x]) r
theorem Gr.uni_mem (A B : List Gr.Id) (x : Gr.Id) : x ∈ Gr.uni A B ↔ x ∈ A ∨ x ∈ B := by
  induction B generalizing A with
  | nil => simp [Gr.uni]
  | cons b r ih =>
    simp only [Gr.uni]
    rw [ih]
    by_cases hb : b ∈ A
    · rw [if_pos hb]; simp only [List.mem_cons]
      exact ⟨fun h => h.elim .inl (fun k => .inr (.inr k)), fun h => h.elim .inl (fun k => k.elim (fun e => .inl (e ▸ hb)) .inr)⟩
    · rw [if_neg hb]; simp only [List.mem_append, List.mem_singleton, List.mem_cons, List.not_mem_nil, or_false]
      exact or_assoc
theorem Gr.uni_nodup (A B : List Gr.Id) (h : A.Nodup) : (Gr.uni A B).Nodup := by
  induction B generalizing A with
  | nil => exact h
  | cons b r ih =>
    simp only [Gr.uni]
    refine ih _ ?_
    by_cases hb : b ∈ A
    · rw [if_pos hb]; exact h
    · rw [if_neg hb]; exact Gr.nodup_snoc h hb
theorem Gr.uni_get (A B : List Gr.Id) (j : Nat) (x : Gr.Id) (h : A[j]? = some x) : (Gr.uni A B)[j]? = some x := by
  induction B generalizing A with
  | nil => exact h
  | cons b r ih =>
    simp only [Gr.uni]
    refine ih _ ?_
    by_cases hb : b ∈ A
    · rw [if_pos hb]; exact h
    · rw [if_neg hb, List.getElem?_append_left (List.getElem?_eq_some_iff.1 h).1]; exact h
theorem Gr.Bfs.start (nx : Gr.Id → List Gr.Id) (F : List Gr.Id) : Gr.Bfs nx F (Gr.uni [] F) 0 where
  sound := fun x hx => .base (by simpa using (Gr.uni_mem [] F x).1 hx)
  from_ := fun x hx => (Gr.uni_mem [] F x).2 (.inr hx)
  clos := fun j x hj => by omega
  nd := Gr.uni_nodup _ _ .nil
theorem Gr.Bfs.step {nx : Gr.Id → List Gr.Id} {F A : List Gr.Id} {i : Nat} {x : Gr.Id} (h : Gr.Bfs nx F A i) (hx : A[i]? = some x) : Gr.Bfs nx F (Gr.uni A (nx x)) (i + 1) where
  sound := fun y hy => by
    rcases (Gr.uni_mem _ _ _).1 hy with k | k
    · exact h.sound y k
    · exact .step (h.sound x (List.mem_of_getElem? hx)) k
  from_ := fun y hy => (Gr.uni_mem _ _ _).2 (.inl (h.from_ y hy))
  clos := fun j z hj hz y hy => by
    have hl : i < A.length := (List.getElem?_eq_some_iff.1 hx).1
    have hzA : A[j]? = some z := by
      have := Gr.uni_get A (nx x) j A[j] (List.getElem?_eq_getElem (by omega))
      rw [this] at hz
      rw [List.getElem?_eq_getElem (by omega), hz]
    rcases Nat.lt_or_eq_of_le (Nat.le_of_lt_succ hj) with k | k
    · exact (Gr.uni_mem _ _ _).2 (.inl (h.clos j z k hzA y hy))
    · subst k
      rw [hx] at hzA
      injection hzA with e
      subst e
      exact (Gr.uni_mem _ _ _).2 (.inr hy)
  nd := Gr.uni_nodup _ _ h.nd

/-- Rising ids. -/
def Gr.Up (L : List Gr.Id) : Prop := L.Pairwise (fun a b => St.lt a b = true)
/-- Rising rows of the same ids are one. -/
theorem Gr.up_eq : ∀ {A B : List Gr.Id}, Gr.Up A → Gr.Up B → (∀ x, x ∈ A ↔ x ∈ B) → A = B
  | [], [], _, _, _ => rfl
  | [], b :: q, _, _, h => by have := (h b).2 (by simp); cases this
  | a :: r, [], _, _, h => by have := (h a).1 (by simp); cases this
  | a :: r, b :: q, ha, hb, h => by
    have ha' := List.pairwise_cons.1 ha
    have hb' := List.pairwise_cons.1 hb
    have e : a = b := by
      rcases List.mem_cons.1 ((h a).1 (by simp)) with k | k
      · exact k
      · rcases List.mem_cons.1 ((h b).2 (by simp)) with k2 | k2
        · exact k2.symm
        · have h1 := hb'.1 a k
          have h2 := ha'.1 b k2
          rw [St.lt_asymm h1] at h2; cases h2
    subst e
    refine congrArg (a :: ·) (Gr.up_eq ha'.2 hb'.2 (fun x => ?_))
    constructor
    · intro hx
      rcases List.mem_cons.1 ((h x).1 (by simp [hx])) with k | k
      · subst k; have := ha'.1 x hx; rw [St.lt_irrefl] at this; cases this
      · exact k
    · intro hx
      rcases List.mem_cons.1 ((h x).2 (by simp [hx])) with k | k
      · subst k; have := hb'.1 x hx; rw [St.lt_irrefl] at this; cases this
      · exact k

/-- One id more among rising ones, at its place. -/
theorem Gr.up_ins {L : List Gr.Id} {id : Gr.Id} {n : Nat} (h : Gr.Up L) (hl : ∀ x ∈ L, x.length = 32) (hid : id.length = 32) (hn : n ≤ L.length) (h1 : ∀ j x, n ≤ j → L[j]? = some x → St.lt id x = true) (h2 : n = 0 ∨ ∃ y, L[n - 1]? = some y ∧ y ≠ id ∧ St.lt id y = false) : Gr.Up (L.take n ++ id :: L.drop n) := by
  have hcut : L.take n ++ L.drop n = L := List.take_append_drop _ _
  have h' := h
  unfold Gr.Up at h'
  rw [← hcut, List.pairwise_append] at h'
  obtain ⟨ht, hd, htd⟩ := h'
  have hbig : ∀ b ∈ L.drop n, St.lt id b = true := fun b hb => by
    obtain ⟨j, hj⟩ := List.getElem?_of_mem hb
    rw [List.getElem?_drop] at hj
    exact h1 _ b (by omega) hj
  have hsmall : ∀ a ∈ L.take n, St.lt a id = true := fun a ha => by
    rcases h2 with rfl | ⟨y, hy, hne, hlt⟩
    · simp at ha
    · have hy32 := hl y (List.mem_of_getElem? hy)
      have hyl : St.lt y id = true := by
        rcases St.lt_tri (a := y) (b := id) (by rw [hy32, hid]) with k | k | k
        · exact k
        · exact absurd k hne
        · rw [k] at hlt; cases hlt
      obtain ⟨j, hj⟩ := List.getElem?_of_mem ha
      rw [List.getElem?_take] at hj
      split at hj
      · rename_i hjn
        rcases Nat.lt_or_ge j (n - 1) with k | k
        · obtain ⟨hj1, hj2⟩ := List.getElem?_eq_some_iff.1 hj
          obtain ⟨hy1, hy2⟩ := List.getElem?_eq_some_iff.1 hy
          have := List.pairwise_iff_getElem.1 h j (n - 1) hj1 hy1 k
          rw [hj2, hy2] at this
          exact St.lt_trans this hyl
        · have : j = n - 1 := by omega
          subst this
          rw [hj] at hy
          injection hy with e
          subst e; exact hyl
      · cases hj
  unfold Gr.Up
  rw [List.pairwise_append]
  refine ⟨ht, List.pairwise_cons.2 ⟨hbig, hd⟩, fun a ha b hb => ?_⟩
  rcases List.mem_cons.1 hb with rfl | hb
  · exact hsmall a ha
  · exact htd a ha b hb
theorem Gr.mem_ins {L : List Gr.Id} {id : Gr.Id} {n : Nat} (x : Gr.Id) : x ∈ L.take n ++ id :: L.drop n ↔ x ∈ L ∨ x = id := by
  have hcut : x ∈ L ↔ x ∈ L.take n ∨ x ∈ L.drop n := by rw [← List.mem_append, List.take_append_drop]
  rw [hcut]
  simp only [List.mem_append, List.mem_cons]
  constructor
  · rintro (k | k | k)
    · exact .inl (.inl k)
    · exact .inr k
    · exact .inl (.inr k)
  · rintro ((k | k) | k)
    · exact .inl k
    · exact .inr (.inr k)
    · exact .inr (.inl k)
end Go.Proofs.Ytkcjhkfelaplkaa
end

section
namespace Go.Proofs.Ytkcjhkfelaplkaa
open Go.RowKit Go.WideMaps Go.Maps
set_option linter.unusedVariables false
set_option linter.unusedSimpArgs false

theorem mapM_of {α β : Type} {f : α → Option β} {g : α → β} : ∀ {L : List α}, (∀ i ∈ L, f i = some (g i)) → L.mapM f = some (L.map g)
  | [], _ => rfl
  | a :: r, h => by
    rw [List.mapM_cons, h a (by simp), mapM_of (L := r) (fun i hi => h i (by simp [hi]))]; rfl
theorem idArr : ArrKey Try.prog 28 5 32 := ⟨Try.underlying28, by kernel_rfl, by kernel_rfl, by kernel_rfl⟩
theorem idKeyed : Keyed Try.prog 28 := Keyed.of_law idArr.law
theorem typesPos : ∃ m, Try.prog.types.size = m + 1 := ⟨Try.prog.types.size - 1, by have : 0 < Try.prog.types.size := of_decide_eq_true (by kernel_rfl); omega⟩
def idLits (l : List UInt8) : List Lit := ((List.range 32).map fun i => [Lit.int .u8 ((l.getD i 0).toNat : Int)]).flatten
/-- An id as a map's key. -/
def idKey (l : List UInt8) : Lit := .string (keyBytes (idLits l))
theorem keyOf_id {l : List UInt8} (h : l.length = 32) : keyOf Try.prog 28 (.agg (idC l).toArray) = some (idKey l) := by
  have A := idArr
  have hkt := A.keyType typesPos
  obtain ⟨m, hm⟩ := typesPos
  have hl : (idC l).length = 32 := by rw [idC_length, h]
  have h1 : Try.prog.keyLits (m + 1 + 1) 28 (idC l) = some (idLits l) := by
    unfold Program.keyLits
    simp only [A.hu]
    rw [if_pos (by rw [A.size, hl])]
    rw [mapM_of (g := fun i => [Lit.int .u8 ((l.getD i 0).toNat : Int)])]
    · rfl
    · intro i hi
      have hi' : i < 32 := by simpa using hi
      rw [A.one, Nat.mul_one]
      have hd : ((idC l).drop i).take 1 = [Value.int .u8 ((l.getD i 0).toNat : Int)] := by
        rw [List.drop_eq_getElem_cons (by omega), List.take_succ_cons, List.take_zero]
        simp [idC, bv, List.getD_eq_getElem?_getD, List.getElem?_eq_getElem (show i < l.length by omega)]
      rw [hd]
      unfold Program.keyLits
      simp only [Try.underlying5]
      rw [if_pos]
      have := (l.getD i 0).toNat_lt
      generalize (l.getD i 0).toNat = q at *
      simp [Lit.wf, IntKind.min, IntKind.max, IntKind.signed, IntKind.bits]
      omega
  unfold keyOf
  simp only [A.hu]
  rw [if_pos (by simp [hkt, Value.formed, A.hu, A.size, hl]), hm]
  simp only [Value.cells]
  rw [h1]; rfl
theorem idKey_inj {a b : List UInt8} (ha : a.length = 32) (hb : b.length = 32) (h : idKey a = idKey b) : a = b := by
  have := idKeyed.inj (keyOf_id ha) (by rw [h]; exact keyOf_id hb)
  injection this with e
  exact idC_inj (by simpa using e)
theorem zeroUnit (w : World) : (zeroValue 56).run Try.prog w = .ok (.agg #[]) w := by kernel_rfl
/-- Block b is a set of ids. -/
structure Ids (w : World) (b n : Nat) (S : List (List UInt8)) : Prop where
  out : ∃ D : DataW Unit, w.ownsMap Try.prog 28 unitElem b n D ∧ Maps.IsMap D ∧ ∀ id : List UInt8, id.length = 32 → Maps.has D (idKey id) = decide (id ∈ S)
theorem Ids.made (w : World) : Ids (w.alloc (.map #[] 0)) w.heap.size 0 [] := ⟨.map [], World.ownsMap_made _ _ _ _, Maps.isMap_empty, fun id _ => by simp; rfl⟩
theorem Ids.kept {w w' : World} {b n : Nat} {S : List (List UInt8)} {row : Option Nat} (h : Ids w b n S) (hg : w.grownBy w' row) (hne : some b ≠ row) : Ids w' b n S := by
  obtain ⟨D, h1, h2⟩ := h.out
  exact ⟨D, h1.kept hg hne, h2⟩
theorem Ids.lt {w : World} {b n : Nat} {S : List (List UInt8)} (h : Ids w b n S) : b < w.heap.size := by
  obtain ⟨D, h1, h2⟩ := h.out
  exact h1.lt
theorem Ids.below {w w' : World} {b n : Nat} {S : List (List UInt8)} (h : Ids w b n S) (hb : Below w.heap.size w w') : Ids w' b n S := h.kept (below_grown hb) (by simp)
theorem Ids.alloc {w : World} {b n : Nat} {S : List (List UInt8)} (h : Ids w b n S) (o : Obj) : Ids (w.alloc o) b n S := h.below ((Below.refl _ _).alloc (Nat.le_refl _) o)
section
variable (w : World) {ops : Array Oper} {rest : List Oper} {o : Oper} {a : Act} {Q : Exit → Act → World → Prop}
end

end Go.Proofs.Ytkcjhkfelaplkaa
end

section
namespace Go.Proofs.Ytkcjhkfelaplkaa
open Go.RowKit Go.WideMaps Go.Maps
set_option linter.unusedVariables false
set_option linter.unusedSimpArgs false

theorem grown_below {w w1 w' : World} {row : Option Nat} (hb : Below w.heap.size w w1) (hg : w1.grownBy w' row) : w.grownBy w' row :=
  ⟨hg.os.trans hb.os, hg.tape.trans hb.tape, hg.output.trans hb.output, Nat.le_trans hb.size hg.size, fun k hk hne => (hg.block k (Nat.lt_of_lt_of_le hk hb.size) hne).trans (hb.block k hk)⟩

end Go.Proofs.Ytkcjhkfelaplkaa
end

section
namespace Go.Proofs.Ytkcjhkfelaplkaa
open Go.RowKit
set_option linter.unusedVariables false
set_option linter.unusedSimpArgs false

/-- Where an object's rows lie. -/
structure Far (B k : Nat) (o : Ob) (ao bo : Option Addr) : Prop where
  e : o.ents ≠ [] → ∀ a, ao = some a → B ≤ a.block ∧ a.block ≠ k
  p : o.pars ≠ [] → ∀ a, bo = some a → B ≤ a.block ∧ a.block ≠ k
theorem RowsAt.moved {w w' : World} {n m cap : Nat} {ao : Option Addr} {C : List (List Value)} (h : RowsAt w (.slice ao n cap) m C) (hm : 0 < m) (hs : C ≠ [] → ∀ a, ao = some a → a.block < w.heap.size → w'.heap[a.block]? = w.heap[a.block]?) : RowsAt w' (.slice ao n cap) m C := by
  rcases h.out with h0 | ⟨a, cap', hv, hc⟩
  · exact ⟨.inl h0⟩
  · refine ⟨.inr ⟨a, cap', hv, fun i cs hi => ⟨(hc i cs hi).1, fun j x hx => ?_⟩⟩⟩
    have h1 := (hc i cs hi).2 j x hx
    have hl := World.block_lt_of_cell? w _ h1
    have hb : ((a.add (i * m)).add j).block = a.block := by rw [add_block, add_block]
    rw [hb] at hl
    have hne : C ≠ [] := fun e => by rw [e] at hi; simp at hi
    have ha : ao = some a := by simp only [Value.slice.injEq] at hv; exact hv.1
    rw [World.cell?_of_block (w := w) (by rw [hb]; exact hs hne a ha hl)]
    exact h1
theorem RowsAt.blk {w : World} {n m cap : Nat} {a : Addr} {C : List (List Value)} (h : RowsAt w (.slice (some a) n cap) m C) (hm : 0 < m) (hc : C ≠ []) : a.block < w.heap.size := by
  rcases h.out with ⟨_, h0⟩ | ⟨a', cap', hv, hr⟩
  · exact absurd h0 hc
  · obtain ⟨c, r, rfl⟩ := List.exists_cons_of_ne_nil hc
    obtain ⟨h1, h2⟩ := hr 0 c rfl
    have h3 := h2 0 c[0] (by rw [List.getElem?_eq_getElem])
    have h4 := World.block_lt_of_cell? w _ h3
    rw [add_block, add_block] at h4
    simp only [Value.slice.injEq] at hv
    obtain rfl : a = a' := by simpa using hv.1
    exact h4
theorem ObAt.moved {w w' : World} {cs : Array Value} {o : Ob} {ao bo : Option Addr} {ca cb B k : Nat} (h : ObAt w cs o ao bo ca cb) (hf : Far B k o ao bo) (hs : ∀ g, B ≤ g → g ≠ k → g < w.heap.size → w'.heap[g]? = w.heap[g]?) : ObAt w' cs o ao bo ca cb :=
  ⟨h.F, h.E.moved (by decide) (fun hc a ha hl => by
      obtain ⟨h1, h2⟩ := hf.e (fun e => hc (by rw [e]; rfl)) a ha
      exact hs _ h1 h2 hl), h.P.moved (by decide) (fun hc a ha hl => by
      obtain ⟨h1, h2⟩ := hf.p (fun e => hc (by rw [e]; rfl)) a ha
      exact hs _ h1 h2 hl), h.eid, h.enm, h.pid, h.el, h.pl, h.nm, h.ti⟩
theorem Far.le {B B' k : Nat} {o : Ob} {ao bo : Option Addr} (hf : Far B k o ao bo) (hb : B' ≤ B) : Far B' k o ao bo :=
  ⟨fun hc a ha => ⟨Nat.le_trans hb (hf.e hc a ha).1, (hf.e hc a ha).2⟩, fun hc a ha => ⟨Nat.le_trans hb (hf.p hc a ha).1, (hf.p hc a ha).2⟩⟩

namespace R
/-- An item of the document's store: its 105 cells, its object whole. -/
def DIt (B k : Nat) (w : World) (c : List Value) (x : St.It) : Prop :=
  ∃ (o : Ob) (cs : Array Value) (ao bo : Option Addr) (ca cb : Nat), c = riC x.id x.text cs ∧ ObAt w cs o ao bo ca cb ∧ Far B k o ao bo ∧ Rm.dec x.text.data.toList = some o ∧ shaI x.text = x.id
theorem DIt.old {B k : Nat} {w : World} {c : List Value} {x : St.It} (h : DIt B k w c x) : Go.Proofs.Ytkcjhkfelaplkaa.DIt w c x := by
  obtain ⟨o, cs, ao, bo, ca, cb, h1, h2, h3, h4, h5⟩ := h
  exact ⟨o, cs, h1, h2.F.size, h2.F.one, h2.F.c0, h4, h5⟩
theorem DIt.moved {B k : Nat} {w w' : World} {c : List Value} {x : St.It} (h : DIt B k w c x) (hs : ∀ g, B ≤ g → g ≠ k → g < w.heap.size → w'.heap[g]? = w.heap[g]?) : DIt B k w' c x := by
  obtain ⟨o, cs, ao, bo, ca, cb, h1, h2, h3, h4, h5⟩ := h
  exact ⟨o, cs, ao, bo, ca, cb, h1, h2.moved h3 hs, h3, h4, h5⟩
theorem DIt.le {B B' k : Nat} {w : World} {c : List Value} {x : St.It} (h : DIt B k w c x) (hk : B' ≤ B) : DIt B' k w c x := by
  obtain ⟨o, cs, ao, bo, ca, cb, h1, h2, h3, h4, h5⟩ := h
  exact ⟨o, cs, ao, bo, ca, cb, h1, h2, h3.le hk, h4, h5⟩
theorem DIt.below {B k : Nat} {w w' : World} {c : List Value} {x : St.It} (h : DIt B k w c x) (hb : Below w.heap.size w w') : DIt B k w' c x := by
  obtain ⟨o, cs, ao, bo, ca, cb, h1, h2, h3, h4, h5⟩ := h
  exact ⟨o, cs, ao, bo, ca, cb, h1, h2.below hb, h3, h4, h5⟩
theorem DIt.len {B k : Nat} {w : World} {c : List Value} {x : St.It} (h : DIt B k w c x) : c.length = 105 := h.old.len
theorem DIt.one {B k : Nat} {w : World} {c : List Value} {x : St.It} (h : DIt B k w c x) : ∀ v ∈ c, v.oneCell' = true := h.old.one
theorem DIt.idl {B k : Nat} {w : World} {c : List Value} {x : St.It} (h : DIt B k w c x) : x.id.length = 32 := h.old.idl
theorem DIt.ids {B k : Nat} {w W : World} {c : List Value} {x : St.It} {p : Addr} (h : DIt B k w c x) (hc : ∀ j u, c[j]? = some u → W.cell? (p.add j) = some u) : ∀ j u, (idC x.id)[j]? = some u → W.cell? (p.add j) = some u := h.old.ids hc
/-- Rows of items, each what it is to be. -/
structure Its (B k : Nat) (w : World) (C : List (List Value)) (L : List St.It) : Prop where
  len : C.length = L.length
  at_ : ∀ (i : Nat) (c : List Value) (x : St.It), C[i]? = some c → L[i]? = some x → DIt B k w c x
theorem Its.old {B k : Nat} {w : World} {C : List (List Value)} {L : List St.It} (h : Its B k w C L) : Go.Proofs.Ytkcjhkfelaplkaa.Its w C L := ⟨h.len, fun i c x h1 h2 => (h.at_ i c x h1 h2).old⟩
theorem Its.below {B k : Nat} {w w' : World} {C : List (List Value)} {L : List St.It} (h : Its B k w C L) (hb : Below w.heap.size w w') : Its B k w' C L := ⟨h.len, fun i c x h1 h2 => (h.at_ i c x h1 h2).below hb⟩
end R

end Go.Proofs.Ytkcjhkfelaplkaa
end

section
namespace Go.Proofs.Ytkcjhkfelaplkaa
open Go.RowKit
set_option linter.unusedVariables false
set_option linter.unusedSimpArgs false
namespace R
/-- Items of the old store, and one that is new. -/
structure ItN (B kk : Nat) (w : World) (c0 : List Value) (x : St.It) (C : List (List Value)) (M : List St.It) : Prop where
  len : C.length = M.length
  at_ : ∀ (i : Nat) (c : List Value) (y : St.It), C[i]? = some c → M[i]? = some y → DIt B kk w c y ∨ (c = c0 ∧ y = x)
theorem ItN.nil (B kk : Nat) (w : World) (c0 : List Value) (x : St.It) : ItN B kk w c0 x [] [] := ⟨rfl, fun i c y h => by simp at h⟩
theorem ItN.its {B kk : Nat} {w W : World} {c0 : List Value} {x : St.It} {C : List (List Value)} {M : List St.It} (h : ItN B kk w c0 x C M) (hb : Below w.heap.size w W) (hx : DIt B kk W c0 x) : Its B kk W C M :=
  ⟨h.len, fun i c y hc hy => by
    rcases h.at_ i c y hc hy with h1 | ⟨rfl, rfl⟩
    · exact h1.below hb
    · exact hx⟩
end R
end Go.Proofs.Ytkcjhkfelaplkaa
end

section
namespace Go.Proofs.Ytkcjhkfelaplkaa
open Go.RowKit
set_option linter.unusedVariables false
set_option linter.unusedSimpArgs false
/-- Whether seeds are such as are gone through. -/
def goodG (S : List Sd) : Prop := S.length ≤ 24 ∧ ∀ s ∈ S, s.ok
instance (S : List Sd) : Decidable (goodG S) := by unfold goodG; infer_instance

namespace R
end R
end Go.Proofs.Ytkcjhkfelaplkaa
end

section
namespace Go.Proofs.Ytkcjhkfelaplkaa
open Go.RowKit Go.Sort
set_option linter.unusedVariables false
set_option linter.unusedSimpArgs false

/-- An id. -/
abbrev Gr.I := { l : List UInt8 // l.length = 32 }
theorem zId_len : zId.length = 32 := by decide
instance : Inhabited Gr.I := ⟨⟨zId, zId_len⟩⟩
def Gr.enc (x : Gr.I) : List Value := idC x.1
def Gr.cfL (a b : List UInt8) : Int := if St.lt a b then -1 else if a = b then 0 else 1
def Gr.cf (x y : Gr.I) : Int := Gr.cfL x.1 y.1
theorem Gr.ltOf_cf (x y : Gr.I) : ltOf Gr.cf x y = St.lt x.1 y.1 := by
  unfold ltOf Gr.cf Gr.cfL
  cases St.lt x.1 y.1 with
  | true => simp
  | false => by_cases h : x.1 = y.1 <;> simp [h]
theorem Gr.swo : SWO (ltOf Gr.cf) where
  irrefl x := by rw [Gr.ltOf_cf]; exact St.lt_irrefl _
  trans x y z h1 h2 := by rw [Gr.ltOf_cf] at *; exact St.lt_trans h1 h2
  ntrans x y z h1 h2 := by
    rw [Gr.ltOf_cf] at *
    cases h : St.lt x.1 z.1 with
    | false => rfl
    | true =>
      rcases St.lt_tri (a := x.1) (b := y.1) (by rw [x.2, y.2]) with k | k | k
      · rw [k] at h1; cases h1
      · rw [k] at h; rw [h] at h2; cases h2
      · rw [St.lt_trans k h] at h2; cases h2
theorem grow_of {w w' : World} (hb : RowKit.Below w.heap.size w w') (hd : w.drawn ≤ w'.drawn) : ∃ q os', w' = grow (w.drewN q) os' := by
  refine ⟨w'.drawn - w.drawn, w'.heap.extract w.heap.size w'.heap.size, ?_⟩
  cases w with
  | mk heap tape drawn os output =>
    cases w' with
    | mk heap' tape' drawn' os' output' =>
      obtain ⟨h1, h2, h3, h4, h5⟩ := hb
      simp only at h1 h2 h3 h4 h5 hd
      subst h1 h2 h3
      simp only [grow, World.drewN, World.mk.injEq, and_true, true_and]
      refine ⟨?_, by omega⟩
      apply Array.ext_getElem?
      intro i
      rw [Array.getElem?_append]
      by_cases hi : i < heap.size
      · rw [if_pos hi]; exact h5 i hi
      · rw [if_neg hi, Array.getElem?_extract]
        by_cases hi' : i < heap'.size
        · rw [if_pos (by omega)]; congr 1; omega
        · rw [if_neg (by omega), Array.getElem?_eq_none (by omega)]

end Go.Proofs.Ytkcjhkfelaplkaa
end

section
namespace Go.Proofs.Ytkcjhkfelaplkaa
open Go.RowKit Go.Sort
set_option linter.unusedVariables false
set_option linter.unusedSimpArgs false

theorem Gr.enc_len (x : Gr.I) : (Gr.enc x).length = 32 := by unfold Gr.enc; rw [idC_length]; exact x.2
theorem Gr.enc_one (x : Gr.I) : ∀ v ∈ Gr.enc x, v.oneCell' = true := idC_one x.1
def Gr.subs (I : List (List UInt8)) (h : ∀ i ∈ I, i.length = 32) : List Gr.I := I.attach.map fun x => ⟨x.1, h x.1 x.2⟩
theorem Gr.subs_map (I : List (List UInt8)) (h : ∀ i ∈ I, i.length = 32) : (Gr.subs I h).map (·.1) = I := by
  unfold Gr.subs
  rw [List.map_map]
  exact List.attach_map_subtype_val I
theorem Gr.subs_len (I : List (List UInt8)) (h : ∀ i ∈ I, i.length = 32) : (Gr.subs I h).length = I.length := by unfold Gr.subs; simp
theorem Gr.subs_get (I : List (List UInt8)) (h : ∀ i ∈ I, i.length = 32) (j : Nat) (hj : j < I.length) : ((Gr.subs I h).toArray[j]!).1 = I[j] := by
  have h1 := Gr.subs_map I h
  have hl := Gr.subs_len I h
  rw [getElem!_pos _ j (by simpa [hl] using hj)]
  have h2 : ((Gr.subs I h).map (·.1))[j]? = I[j]? := by rw [h1]
  rw [List.getElem?_map, List.getElem?_eq_getElem (by omega), List.getElem?_eq_getElem hj] at h2
  simpa using h2
theorem holds_of_own {w : World} {base g cap : Nat} {I : List (List UInt8)} (h : OwnI w base (.slice (some ⟨g, 0, none⟩) I.length cap) I) : HoldsK Gr.enc 32 w g 0 (Gr.subs I h.len).toArray := by
  intro j hj
  have hl := Gr.subs_len I h.len
  rw [size_flatK] at hj
  have hj' : j < I.length * 32 := by simpa [hl] using hj
  have hfl : ((I.map idC).flatten).length = I.length * 32 := by rw [flatK_len _ (ids_len h.len)]; simp
  have hq : j / 32 < I.length := by omega
  have hc := h.own.cellAt j (by omega)
  rw [Nat.zero_add]
  refine ⟨?_, h.own.frozenAt j⟩
  rw [hc, get_flatK _ _ _ j hj]
  have h1 := flatK_get (I.map idC) (ids_len h.len) (j / 32) (idC I[j / 32]) (by rw [List.getElem?_map, List.getElem?_eq_getElem hq]; rfl) (j % 32)
  have h2 : j % 32 < (idC I[j / 32]).length := by rw [idC_length, h.len _ (List.getElem_mem hq)]; omega
  have h3 := h1 _ (List.getElem?_eq_getElem h2)
  rw [show j / 32 * 32 + j % 32 = j by omega] at h3
  have h4 : Gr.enc (Gr.subs I h.len).toArray[j / 32]! = idC I[j / 32] := by unfold Gr.enc; rw [Gr.subs_get I h.len _ hq]
  rw [h3, h4]
  show some _ = some (id _)
  rw [List.getElem!_eq_getElem?_getD, List.getElem?_eq_getElem h2]; rfl
theorem sorted_grown {w : World} {g n : Nat} {d : Array Gr.I} {os : Array Obj} : w.grownBy (sortWorldK Gr.enc 32 w g 0 n d os) (some g) := by
  refine ⟨rfl, rfl, rfl, size_sortWorldK_c .., fun k hk hne => ?_⟩
  have hkg : k ≠ g := fun e => hne (by rw [e])
  unfold sortWorldK
  rw [heap_grow_old _ _ (by rw [size_putRowK]; exact hk)]
  unfold putRowK putRow mapBlock
  simp only [Array.getElem?_modify]
  rw [if_neg (fun e => hkg e.symm)]
  rfl

end Go.Proofs.Ytkcjhkfelaplkaa
end

section
namespace Go.Proofs.Ytkcjhkfelaplkaa
open Go.RowKit
set_option linter.unusedVariables false
set_option linter.unusedSimpArgs false

/-- Two slices that own no block together. -/
def Ap (a b : Value) : Prop := ∀ g, a.ownBlock = some g → b.ownBlock ≠ some g
theorem Ap.symm {a b : Value} (h : Ap a b) : Ap b a := fun g hg hc => h g hc hg
theorem Ap.nil (b : Value) : Ap (.slice none 0 0) b := fun g hg => by simp [Value.ownBlock] at hg
theorem Ap.next {a a' b : Value} {w : World} {B : Nat} {I : List (List UInt8)} (h : Ap a b) (hb : OwnI w B b I) (ha : a'.ownBlock = a.ownBlock ∨ a'.ownBlock = some (w.heap.size + 1)) : Ap a' b := fun g hg hc => by
  rcases ha with e | e
  · exact h g (by rw [← e]; exact hg) hc
  · rw [e] at hg
    injection hg with e2
    have := (hb.own.lt g hc).2
    omega
theorem OwnI.other {wr w' : World} {B : Nat} {v : Value} {I : List (List UInt8)} {o : Obj} {row : Option Nat} (h : OwnI wr B v I) (hg : (wr.alloc o).grownBy w' row) (hne : ∀ g, v.ownBlock = some g → row ≠ some g) : OwnI w' B v I :=
  ⟨own_kept h.own (fun g hv => by
    have hlt := (h.own.lt g hv).2
    rw [hg.block g (by simp; omega) (fun e => hne g hv e.symm), heap_alloc_old _ _ hlt]), h.len⟩
theorem Ids.other {wr w' : World} {sb sn B : Nat} {S : List (List UInt8)} {v : Value} {I : List (List UInt8)} {o : Obj} (h : Ids wr sb sn S) (ho : OwnI wr B v I) (hs : sb < B) (hg : (wr.alloc o).grownBy w' v.ownBlock) : Ids w' sb sn S :=
  (h.alloc o).kept hg (fun e => by have := (ho.own.lt sb e.symm).1; omega)
/-- A row cut by its last id. -/
theorem OwnI.cut {w : World} {B n cap : Nat} {ao : Option Addr} {I : List (List UInt8)} {x : List UInt8} (h : OwnI w B (.slice ao n cap) (I ++ [x])) : OwnI w B (.slice ao I.length cap) I ∧ (I.length : Int) + 1 ≤ cap := by
  have hl := h.own.1
  rcases h.own.2 with ⟨_, h0⟩ | ⟨g, c, cur, hv, hb, hh, h1, h2, h3, h4⟩
  · simp at h0
  · simp only [Value.slice.injEq] at hv
    obtain ⟨rfl, hn, rfl⟩ := hv
    have hil : ∀ i ∈ I, i.length = 32 := fun i hi => h.len i (by simp [hi])
    have hfl : ((I.map idC).flatten).length = I.length * 32 := by rw [flatK_len _ (ids_len hil)]; simp
    simp only [List.length_append, List.length_singleton] at h1 h4
    refine ⟨⟨⟨by rw [hfl], .inr ⟨g, cap, cur, rfl, hb, hh, by omega, h2, h3, ?_⟩⟩, hil⟩, by omega⟩
    have h5 : (cur.toList.take ((I.length + 1) * 32)).take (I.length * 32) = (I.map idC).flatten := by
      rw [h4, List.map_append, List.flatten_append, List.take_append_of_le_length (by omega), List.take_of_length_le (by omega)]
    rw [List.take_take, Nat.min_eq_left (by omega)] at h5
    exact h5

theorem ids_flat_at {w : World} {a : Addr} {n cap : Nat} {I : List (List UInt8)} (h : IdsAt w (.slice (some a) n cap) I) (hl : ∀ i ∈ I, i.length = 32) : ∀ j u, (I.map idC).flatten[j]? = some u → w.cell? (a.add j) = some u := fun j u hu => by
  have hfl : ((I.map idC).flatten).length = I.length * 32 := by rw [flatK_len _ (ids_len hl)]; simp
  have hj : j < I.length * 32 := by have := (List.getElem?_eq_some_iff.1 hu).1; omega
  have hq : j / 32 < I.length := by omega
  have h0 : (I.map idC)[j / 32]? = some (idC I[j / 32]) := by rw [List.getElem?_map, List.getElem?_eq_getElem hq]; rfl
  have h2 : j % 32 < (idC I[j / 32]).length := by rw [idC_length, hl _ (List.getElem_mem hq)]; omega
  have h3 := flatK_get (I.map idC) (ids_len hl) (j / 32) _ h0 (j % 32) _ (List.getElem?_eq_getElem h2)
  rw [show j / 32 * 32 + j % 32 = j by omega, hu] at h3
  obtain ⟨a', e, _, hc⟩ := h.elem (j / 32) _ h0
  injection e with e
  subst e
  have := hc (j % 32) _ (List.getElem?_eq_getElem h2)
  rw [add_add, show j / 32 * 32 + j % 32 = j by omega] at this
  rw [this, ← h3]
theorem ids_flat_one (I : List (List UInt8)) : ∀ v ∈ (I.map idC).flatten, v.oneCell' = true := fun v hv => by
  obtain ⟨c, hc, hv⟩ := List.mem_flatten.1 hv
  obtain ⟨i, _, rfl⟩ := List.mem_map.1 hc
  exact idC_one i v hv
theorem eql_nilI (w : World) (a : Option Addr) (n c : Nat) : (binOp .eql 22 (.slice a n c) (.slice none 0 0)).run Try.prog w = .ok (.bool a.isNone) w := Lib.run_eql_slice_nil w _ _ a n c 0 0 Try.underlying22
set_option maxHeartbeats 1000000 in
set_option maxRecDepth 100000 in
theorem cloneI_any (v : Value) (I : List (List UInt8)) (w : World) (hI : IdsAt w v I) (hid : ∀ i ∈ I, i.length = 32) (hl : I.length ≤ 100000) :
    Calls Try.prog 11 #[v] w fun r w' => ∃ v', r = .returned v' ∧ OwnI w' w.heap.size v' I ∧ Below w.heap.size w w' := by
  have hlen : ((I.map idC).flatten).length = I.length * 32 := by rw [flatK_len _ (ids_len hid)]; simp
  obtain ⟨ao, cap, rfl⟩ := hI.form
  rw [List.length_map] at hI ⊢
  obtain ⟨i0, hi, hz0, hz1, hz2⟩ := info_parts infoIdz
  have HI := Lib.hid hI
  have HD := Lib.hid hid
  clear hI hid
  have hq := eql_nilI w
  cases ao with
  | none =>
    have HN := Lib.hid (show I = [] by
      rcases HI.out.out with ⟨_, h0⟩ | ⟨a, c, h0, _⟩
      · simpa using h0
      · simp at h0)
    clear hlen
    go_enter Try.func11, Try.ntmps11
    go_wp2_with fail
    go_ret
    exact ⟨_, rfl, by rw [HN.out]; exact OwnI.nil _ _, Below.refl _ _⟩
  | some a =>
    have HC := Lib.hid (ids_flat_at (RowsAt.below HI.out (below_new w (.cells #[] 28))) HD.out)
    have HLEN := Lib.hid hlen
    clear hlen
    go_enter Try.func11, Try.ntmps11
    go_wp2_with (at_builtin; refine wpList_append_own _ rfl _ _ 22 rfl w.heap.size 28 i0 _ 32 32 Try.underlying22 hi hz0 hz1 hz2 rfl (by decide) _ _ _ rfl (World.ownsRow_made w #[] 0 (Nat.le_refl _) (Nat.zero_le _) rfl) a I.length cap ((I.map idC).flatten) rfl ?qc1 ?qc2 ?qc3 ?qc4 ?qc5 ?qc6 ?_)
    case qc1 => exact HLEN.out
    case qc2 => exact HC.out
    case qc3 => exact ids_flat_one I
    case qc4 => unfold maxLen; omega
    case qc5 => omega
    case qc6 => simp
    intro v' w1 hown hgrow hnil
    have hb := ((Below.refl _ w).alloc (Nat.le_refl _) (.cells #[] 28)).grown hgrow (by simp) (by intro k hk; simp [Value.ownBlock] at hk; omega)
    have HO := Lib.hid (show OwnI w1 w.heap.size v' I from ⟨by simpa using hown, HD.out⟩)
    clear hown hgrow hnil
    go_wp2_with fail
    go_ret
    exact ⟨_, rfl, HO.out, hb⟩

/-- The object under an id. -/
def Gr.ob (L : List St.It) (id : List UInt8) : Option Ob := if St.has L id then (L[St.pos L id]?).bind fun r => Rm.dec r.text.data.toList else none
/-- The ids that an object leads to. -/
def Gr.lk (o : Ob) : List (List UInt8) := (linksL o).map (·.1)
/-- An object of a commit that is cut. -/
def Gr.cutO (o : Ob) : Ob := { o with pars := [] }
/-- What an id leads to, with a cut. -/
def Gr.nx (L : List St.It) (cut : List (List UInt8)) (id : List UInt8) : List (List UInt8) := match Gr.ob L id with
  | none => []
  | some o => Gr.lk (if id ∈ cut then Gr.cutO o else o)
end Go.Proofs.Ytkcjhkfelaplkaa
end

section
namespace Go.Proofs.Ytkcjhkfelaplkaa
open Go.RowKit
set_option linter.unusedVariables false
set_option linter.unusedSimpArgs false

theorem OwnI.form {w : World} {B : Nat} {v : Value} {I : List (List UInt8)} (h : OwnI w B v I) : ∃ ao cap, v = .slice ao I.length cap := by simpa using h.rows.form
structure Rs (w wr : World) (B sb sn cb cn : Nat) (tv mv wv : Value) (T M W S SC : List (List UInt8)) : Prop where
  t : OwnI wr B tv T
  m : OwnI wr B mv M
  q : OwnI wr B wv W
  s : Ids wr sb sn S
  c : Ids wr cb cn SC
  tm : Ap tv mv
  tq : Ap tv wv
  mq : Ap mv wv
  sB : sb < B
  cB : cb < sb
  bel : Below w.heap.size w wr
  wB : w.heap.size ≤ cb
  BB : B ≤ wr.heap.size
theorem Rs.below {w wr w' : World} {B sb sn cb cn : Nat} {tv mv wv : Value} {T M W S SC : List (List UInt8)} (h : Rs w wr B sb sn cb cn tv mv wv T M W S SC) (hb : Below wr.heap.size wr w') : Rs w w' B sb sn cb cn tv mv wv T M W S SC :=
  ⟨h.t.below hb, h.m.below hb, h.q.below hb, h.s.below hb, h.c.below hb, h.tm, h.tq, h.mq, h.sB, h.cB, h.bel.trans (hb.mono h.bel.size), h.wB, Nat.le_trans h.BB hb.size⟩
theorem Rs.cut {w wr : World} {B sb sn cb cn n cap : Nat} {tv mv : Value} {ao : Option Addr} {T M W S SC : List (List UInt8)} {x : List UInt8} (h : Rs w wr B sb sn cb cn tv mv (.slice ao n cap) T M (W ++ [x]) S SC) : Rs w wr B sb sn cb cn tv mv (.slice ao W.length cap) T M W S SC :=
  ⟨h.t, h.m, h.q.cut.1, h.s, h.c, h.tm, (fun g hg hc => h.tq g hg (by rw [own_cap ao n cap W.length cap]; exact hc)), (fun g hg hc => h.mq g hg (by rw [own_cap ao n cap W.length cap]; exact hc)), h.sB, h.cB, h.bel, h.wB, h.BB⟩
theorem Rs.grown {w wr w' : World} {B sb sn cb cn : Nat} {tv mv wv v : Value} {I : List (List UInt8)} {o : Obj} {T M W S SC : List (List UInt8)} (h : Rs w wr B sb sn cb cn tv mv wv T M W S SC) (hv : OwnI wr B v I) (hg : (wr.alloc o).grownBy w' v.ownBlock) : Ids w' sb sn S ∧ Ids w' cb cn SC ∧ Below w.heap.size w w' ∧ B ≤ w'.heap.size := by
  have hs := hg.size
  have ha : (wr.alloc o).heap.size = wr.heap.size + 1 := by simp
  have h1 := h.wB
  have h2 := h.cB
  have h3 := h.sB
  have h4 := h.BB
  exact ⟨h.s.other hv h.sB hg, h.c.other hv (by omega) hg, (h.bel.alloc h.bel.size o).grown hg (by omega) (fun k hk => by have := (hv.own.lt k hk).1; omega), by omega⟩
/-- What a decoded object leads to: few. -/
theorem Gr.few {o : Ob} (h : o.ents.length ≤ 64) (h2 : o.pars.length ≤ 8) : (linksL o).length ≤ 64 := by
  unfold linksL
  split
  · simpa using h
  · split
    · simp; omega
    · split <;> simp
end Go.Proofs.Ytkcjhkfelaplkaa
end

section
namespace Go.Proofs.Ytkcjhkfelaplkaa
open Go.RowKit
set_option linter.unusedVariables false
set_option linter.unusedSimpArgs false

theorem take_id {F : List (List UInt8)} {k : Nat} {x : List UInt8} (h : F[k]? = some x) : F.take (k + 1) = F.take k ++ [x] := by
  obtain ⟨hk, rfl⟩ := List.getElem?_eq_some_iff.1 h
  exact List.take_succ_eq_append_getElem hk

end Go.Proofs.Ytkcjhkfelaplkaa
end

section
namespace Go.Proofs.Ytkcjhkfelaplkaa
open Go.RowKit
set_option linter.unusedVariables false
set_option linter.unusedSimpArgs false

set_option maxHeartbeats 1000000 in
set_option maxRecDepth 100000 in
theorem in_any (w : World) (v : Value) (I : List (List UInt8)) (id : List UInt8) (h : IdsAt w v I) (hl : ∀ i ∈ I, i.length = 32) (hil : id.length = 32) (hn : I.length ≤ 100000) :
    Calls Try.prog 16 #[v, .agg (idC id).toArray] w fun r w' => r = .returned (.bool (decide (id ∈ I))) ∧ Below w.heap.size w w' := by
  obtain ⟨ao, cap, rfl⟩ : ∃ ao cap, v = .slice ao I.length cap := by simpa using RowsAt.form h
  have HB1 := Lib.hid (below_new w (.cells (idC id).toArray 28))
  have HN1 := Lib.hid (row_news (heap_alloc_new w (.cells (idC id).toArray 28)))
  have HH := Lib.hid h
  have HL := Lib.hid hl
  have HIL := Lib.hid hil
  generalize hZ : decide (id ∈ I) = Z
  have HZ := Lib.hid hZ
  clear h hl hil hZ
  go_enter Try.func16, Try.ntmps16
  go_wp2_with fail
  go_loopw [5] (fun i wr => ∃ (k : Nat), k ≤ I.length ∧ i = .int .i64 k ∧ Hid (∀ (j : Nat) (x : List UInt8), j < k → I[j]? = some x → x ≠ id) ∧ Hid (Below w.heap.size w wr) ∧ Hid (∀ j u, (idC id)[j]? = some u → wr.cell? ((⟨w.heap.size, 0, none⟩ : Addr).add j) = some u)) (fun i _ => I.length - (intOf i).toNat)
  case atStart => exact ⟨0, by omega, rfl, fun j x h => absurd h (by omega), HB1.out, HN1.out⟩
  case round =>
    obtain ⟨k, hk, rfl, HA, HB, HI⟩ := hrel
    by_cases hlt : k < I.length
    · have hlt' : (k : Int) < (I.length : Int) := by omega
      have hk0 : (0 : Int) ≤ (k : Int) := by omega
      obtain ⟨x, hx⟩ : ∃ x, I[k]? = some x := ⟨I[k], List.getElem?_eq_getElem hlt⟩
      have hxl := HL.out x (List.mem_of_getElem? hx)
      obtain ⟨a, rfl, _, hc⟩ := (RowsAt.below HH.out HB.out).elem k (idC x) (by simp [hx])
      have HC1 := Lib.hid (show ∀ j u, (idC x)[j]? = some u → wr.drew.cell? ((a.add (k * 32)).add j) = some u from hc)
      have HC2 := Lib.hid (show ∀ j u, (idC id)[j]? = some u → wr.drew.cell? ((⟨w.heap.size, 0, none⟩ : Addr).add j) = some u from HI.out)
      have HXL := Lib.hid hxl
      have HX := Lib.hid hx
      have hq := fun W => eq_id x id hxl HIL.out W
      clear hx hxl hc
      by_cases he : x = id
      · have HR := Lib.hid (show Z = true by rw [← HZ.out]; exact decide_eq_true (by rw [← he]; exact List.mem_of_getElem? HX.out))
        rw [show decide (x = id) = true from decide_eq_true he] at hq
        clear he
        go_wp2_with fail
        refine rgn_still (by kernel_rfl) (by kernel_rfl) ?_
        repeat still_step
        (with_reducible apply still_id (hc := HC1.out) (hl := HXL.out))
        rfl
        rfl
        rfl
        (with_reducible apply still_id (hc := HC2.out) (hl := HIL.out))
        rfl
        rfl
        rfl
        repeat still_step
        refine wpStill_nil ?_
        go_wp2_with fail
        go_ret
        exact ⟨ret_bool HR.out.symm, HB.out.drew⟩
      · have HA2 := Lib.hid (show ∀ (j : Nat) (y : List UInt8), j < k + 1 → I[j]? = some y → y ≠ id from fun j y hj hy => by
          by_cases e : j = k
          · subst e; rw [HX.out] at hy; cases hy; exact he
          · exact HA.out j y (by omega) hy)
        rw [show decide (x = id) = false from decide_eq_false he] at hq
        clear he
        go_wp2_with fail
        refine rgn_still (by kernel_rfl) (by kernel_rfl) ?_
        repeat still_step
        (with_reducible apply still_id (hc := HC1.out) (hl := HXL.out))
        rfl
        rfl
        rfl
        (with_reducible apply still_id (hc := HC2.out) (hl := HIL.out))
        rfl
        rfl
        rfl
        repeat still_step
        refine wpStill_nil ?_
        go_wp2_with fail
        go_roundw
        case rel => exact ⟨k + 1, by omega, by go_num, HA2.out, HB.out.drew, HI.out⟩
        case measure => simp [intOf]; omega
    · have HR := Lib.hid (show Z = false by
        rw [← HZ.out]
        refine decide_eq_false (fun hin => ?_)
        obtain ⟨j, hj⟩ := List.getElem?_of_mem hin
        exact HA.out j id (by have := (List.getElem?_eq_some_iff.1 hj).1; omega) hj rfl)
      have hlt' : ¬ (k : Int) < (I.length : Int) := by omega
      go_wp2_with fail
      go_ret
      exact ⟨ret_bool HR.out.symm, HB.out⟩

/-- The kind under an id. -/
def Gr.kd (L : List St.It) (id : List UInt8) : Int := match Gr.ob L id with
  | none => 0
  | some o => o.kind
namespace R
end R
end Go.Proofs.Ytkcjhkfelaplkaa
end

section
namespace Go.Proofs.Ytkcjhkfelaplkaa
open Go.RowKit
set_option linter.unusedVariables false
set_option linter.unusedSimpArgs false

theorem own_le0 {w : World} {B B' e k n : Nat} {v : Value} {xs : List Value} (h : w.ownsRow B e k v n xs) (hb : B' ≤ B) : w.ownsRow B' e k v n xs := by
  refine ⟨h.1, h.2.imp id ?_⟩
  rintro ⟨g, cap, cur, hv, hg, rest⟩
  exact ⟨g, cap, cur, hv, Nat.le_trans hb hg, rest⟩
namespace R
end R
end Go.Proofs.Ytkcjhkfelaplkaa
end

section
namespace Go.Proofs.Ytkcjhkfelaplkaa
open Go.RowKit
set_option linter.unusedVariables false
set_option linter.unusedSimpArgs false

/-- What Sorted answers. -/
def SortedP (I : List (List UInt8)) (w : World) (r : Ending) (w' : World) : Prop :=
  ∃ v' I', r = .returned v' ∧ IdsAt w' v' I' ∧ Gr.Up I' ∧ (∀ x, x ∈ I' ↔ x ∈ I) ∧ Below w.heap.size w w'
theorem IdsAt.kept {w w' : World} {v : Value} {I : List (List UInt8)} (h : IdsAt w v I) (hs : ∀ g, v.ownBlock = some g → g < w.heap.size → w'.heap[g]? = w.heap[g]?) : IdsAt w' v I := by
  obtain ⟨ao, cap, rfl⟩ := RowsAt.form h
  exact RowsAt.moved h (by decide) (fun _ a ha hl => hs a.block (by rw [ha]; rfl) hl)
namespace R
end R
end Go.Proofs.Ytkcjhkfelaplkaa
end

section
namespace Go.Proofs.Ytkcjhkfelaplkaa
open Go.RowKit
set_option linter.unusedVariables false
set_option linter.unusedSimpArgs false

/-- A row of ids put behind a row that a call has made. -/
theorem wp_apI {op : Oper} {a : Act} {w : World} {K : Act → World → Prop} {Q : Exit → Act → World → Prop} {v jv : Value} {I J : List (List UInt8)} {base : Nat} (s x : Operand)
    (ho : op.op = .call { callee := .builtin .append, args := #[s, x], argTypes := #[22, 22] }) (hs : a.eval s = v) (hx : a.eval x = jv)
    (h : OwnI w base v I) (hJ : IdsAt w jv J) (hJl : ∀ i ∈ J, i.length = 32) (hb : base ≤ w.heap.size) (hl : I.length + J.length ≤ 100000)
    (hK : ∀ v' w', OwnI w' base v' (I ++ J) → w.grownBy w' v.ownBlock → K (a.put op.dst v') w') : op.wp Try.prog a w K Q := by
  obtain ⟨i0, hi, hz0, hz1, hz2⟩ := info_parts infoIdz
  obtain ⟨ao, cap, rfl⟩ : ∃ ao cap, jv = .slice ao J.length cap := by simpa using RowsAt.form hJ
  have hfl : ((J.map idC).flatten).length = J.length * 32 := by rw [flatK_len _ (ids_len hJl)]; simp
  cases ao with
  | none =>
    have hn : J = [] ∧ cap = 0 := by
      rcases hJ.out with ⟨h1, h0⟩ | ⟨a', c, h0, _⟩
      · have : J = [] := by simpa using h0
        subst this
        simp at h1
        exact ⟨rfl, h1⟩
      · simp at h0
    obtain ⟨rfl, rfl⟩ := hn
    have hrun := run_append_owned_none (P := Try.prog) (w := w) base 22 op.type 28 i0 32 Try.underlying22 hi v I.length _ h.own
    unfold Oper.wp
    simp [execOp, ho, resolve, invoke, builtin, hs, hx, hrun, Result.andThen]
    exact hK v w (by simpa using h) (World.grownBy.refl _ _)
  | some ad =>
    refine wp_append_own _ s x 22 ho base 28 i0 _ 32 32 Try.underlying22 hi hz0 hz1 hz2 (by decide) (by decide) v I.length (I.map idC).flatten hs h.own ad J.length cap ((J.map idC).flatten) hx hfl (ids_flat_at hJ hJl) (ids_flat_one J) (by unfold maxLen; omega) (by omega) hb ?_
    intro v' w' h1 h2 _
    refine hK v' w' ⟨?_, ?_⟩ h2
    · simpa using h1
    · intro i hi
      rcases List.mem_append.1 hi with h' | h'
      · exact h.len i h'
      · exact hJl i h'
theorem take_at {w : World} {a : Addr} {n m cap cap' : Nat} {I : List (List UInt8)} (h : IdsAt w (.slice (some a) n cap) I) (hm : m ≤ I.length) : IdsAt w (.slice (some a) m cap') (I.take m) := by
  refine ⟨.inr ⟨a, cap', by simp [Nat.min_eq_left hm], fun i cs hi => ?_⟩⟩
  rw [List.map_take, List.getElem?_take] at hi
  split at hi
  · obtain ⟨a', e, h1, h2⟩ := h.elem i cs hi
    injection e with e
    subst e
    exact ⟨h1, h2⟩
  · cases hi
theorem drop_at {w : World} {a : Addr} {n m cap cap' : Nat} {I : List (List UInt8)} (h : IdsAt w (.slice (some a) n cap) I) : IdsAt w (.slice (some (a.add (m * 32))) (I.length - m) cap') (I.drop m) := by
  refine ⟨.inr ⟨a.add (m * 32), cap', by simp, fun i cs hi => ?_⟩⟩
  rw [List.map_drop, List.getElem?_drop] at hi
  obtain ⟨a', e, h1, h2⟩ := h.elem (m + i) cs hi
  injection e with e
  subst e
  refine ⟨h1, fun j x hx => ?_⟩
  have := h2 j x hx
  rw [add_add] at this
  rw [add_add, add_add, show m * 32 + (i * 32 + j) = (m + i) * 32 + j by omega]
  exact this
theorem one_at {w : World} {g : Nat} {id : List UInt8} (h : w.heap[g]? = some (.cells (idC id).toArray 28 (0, 0))) (hl : id.length = 32) : IdsAt w (.slice (some ⟨g, 0, none⟩) 1 1) [id] := by
  refine ⟨.inr ⟨⟨g, 0, none⟩, 1, rfl, fun i cs hi => ?_⟩⟩
  cases i with
  | zero =>
    simp at hi
    subst hi
    exact ⟨by rw [idC_length]; exact hl, fun j x hx => by have := row_news h j x hx; simpa [Addr.add_mid] using this⟩
  | succ i => simp at hi
theorem wp_bs1 {op : Oper} {a : Act} {w : World} {K : Act → World → Prop} {Q : Exit → Act → World → Prop} {x : Operand} {l : List UInt8} (ho : op.op = .buildSlice 22 1 #[(0, x)]) (hx : a.eval x = .agg (idC l).toArray) (hl : l.length = 32)
    (h : K (a.put op.dst (.slice (some ⟨w.heap.size, 0, none⟩) 1 1)) (w.alloc (.cells (idC l).toArray 28))) : op.wp Try.prog a w K Q := by
  obtain ⟨ie, hie, hz, h1, _⟩ := info_parts infoIdz
  have hf := builtS_id l hl
  unfold Program.builtSlice at hf
  simp only [hie, hz] at hf
  rw [if_neg (by rw [h1]; decide)] at hf
  exact wp_buildSlice 22 28 1 _ ho _ ie _ Try.underlying22 hie hz (by rw [h1]; decide) (by rw [h1]; decide) (by simp only [List.map_toArray, List.map_cons, List.map_nil, hx]; exact hf) h
set_option maxHeartbeats 8000000 in
set_option maxRecDepth 100000 in
theorem sorted_any (w : World) (v : Value) (I : List (List UInt8)) (hI : IdsAt w v I) (hIl : ∀ i ∈ I, i.length = 32) (hIn : I.length ≤ 7000) : Calls Try.prog 17 #[v] w (SortedP I w) := by
  unfold SortedP
  obtain ⟨lo, lc, rfl⟩ : ∃ ao cap, v = .slice ao I.length cap := by simpa using RowsAt.form hI
  have HI := Lib.hid hI
  have HL := Lib.hid hIl
  clear hI hIl
  go_enter Try.func17, Try.ntmps17
  go_wp2_with fail
  go_loopw [3, 4] (fun ov i wr => ∃ (k : Nat) (O : List (List UInt8)), k ≤ I.length ∧ i = .int .i64 k ∧ Hid (O.length ≤ k) ∧ Hid (Gr.Up O) ∧ Hid (∀ x, x ∈ O ↔ x ∈ I.take k) ∧ Hid (OwnI wr w.heap.size ov O) ∧ Hid (Below w.heap.size w wr)) (fun _ i _ => I.length - (intOf i).toNat)
  case atStart => exact ⟨0, [], by omega, rfl, Nat.le_refl _, .nil, fun x => by simp, OwnI.nil _ _, Below.refl _ _⟩
  case round =>
    obtain ⟨wr2, hwr2⟩ : ∃ W, W = wr := ⟨_, rfl⟩
    subst hwr2
    obtain ⟨k, O, hk, rfl, HOK, HUP, HMM, HO, HB⟩ := hrel
    obtain ⟨oo, oc, rfl⟩ := HO.out.form
    have hO7 : O.length ≤ 7000 := by have := HOK.out; omega
    have hbs := HB.out.size
    by_cases hlt : k < I.length
    · have hlt' : (k : Int) < (I.length : Int) := by omega
      have hk0 : (0 : Int) ≤ (k : Int) := by omega
      obtain ⟨id, hx⟩ : ∃ x, I[k]? = some x := ⟨I[k], List.getElem?_eq_getElem hlt⟩
      have HXL := Lib.hid (HL.out id (List.mem_of_getElem? hx))
      have HTK := Lib.hid (take_id hx)
      obtain ⟨la, hla, _, hc⟩ := (RowsAt.below HI.out HB.out).elem k (idC id) (by simp [hx])
      subst hla
      have HC := Lib.hid hc
      clear hc hx
      go_wp2_with fail
      go_loopw [5] (fun av wr => ∃ (n : Nat), n ≤ O.length ∧ av = .int .i64 n ∧ Hid (∀ (j : Nat) (x : List UInt8), n ≤ j → O[j]? = some x → St.lt id x = true) ∧ Hid (Below wr2.heap.size wr2 wr)) (fun av _ => (intOf av).toNat)
      case atStart => exact ⟨O.length, Nat.le_refl _, rfl, fun j x hj hx => by have := (List.getElem?_eq_some_iff.1 hx).1; omega, Below.refl _ _⟩
      case round =>
        obtain ⟨wr3, hwr3⟩ : ∃ W, W = wr := ⟨_, rfl⟩
        subst hwr3
        obtain ⟨n, hn, rfl, HGT, HB3⟩ := hrel
        have HO3 := Lib.hid (HO.out.below HB3.out)
        have HC3 := Lib.hid (show ∀ j u, (idC id)[j]? = some u → wr3.cell? ((la.add (k * 32)).add j) = some u from fun j u hu => by
          have h1 := HC.out j u hu
          rw [HB3.out.cell (World.block_lt_of_cell? _ _ h1)]; exact h1)
        by_cases hn0 : n = 0
        · subst hn0
          go_wp2_with fail
          go_quiet (fail)
          go_wp2_with fail
          -- N0
          obtain ⟨q1, hq1⟩ : ∃ q, q = nq := ⟨_, rfl⟩
          subst hq1
          go_quiet (fail)
          have HB9 := Lib.hid (bel_drewN (bel_drewN (Below.refl wr3.heap.size wr3) q1) nq)
          generalize (wr3.drewN q1).drewN nq = wr9 at *
          have hn' : (0 : Int) ≤ (oc : Int) := by omega
          have HB29 := Lib.hid (HB3.out.trans (HB9.out.mono HB3.out.size))
          have HO9 := Lib.hid (HO3.out.below HB9.out)
          have HCA := Lib.hid (show ∀ W, Below wr9.heap.size wr9.drew W → ∀ j u, (idC id)[j]? = some u → W.cell? ((la.add (k * 32)).add j) = some u from fun W hb j u hu => by
            have h1 := (HB9.out.cell (World.block_lt_of_cell? _ _ (HC3.out j u hu))).trans (HC3.out j u hu)
            exact (hb.cell (World.block_lt_of_cell? _ _ h1)).trans h1)
          have HMM2 := Lib.hid (show ∀ x, x ∈ O.take 0 ++ id :: O.drop 0 ↔ x ∈ I.take (k + 1) from fun x => by rw [Gr.mem_ins x, HTK.out, HMM.out x]; simp)
          have HUP2 := Lib.hid (Gr.up_ins (n := 0) HUP.out HO.out.len HXL.out (Nat.zero_le _) HGT.out (.inl rfl))
          have HJ1 := Lib.hid (show ∀ W, Below wr9.heap.size wr9.drew W → IdsAt W (.slice oo 0 oc) (O.take 0) from fun W hb => by
            rcases (RowsAt.below HO9.out.rows (Below.refl _ _).drew).out with ⟨h1, _⟩ | ⟨a, c, h1, _⟩
            · simp only [Value.slice.injEq] at h1; obtain ⟨rfl, h2, rfl⟩ := h1; exact RowsAt.nil _ _
            · simp only [Value.slice.injEq] at h1; obtain ⟨rfl, h2, rfl⟩ := h1; exact ⟨.inr ⟨a, oc, rfl, fun i cs hi => by simp at hi⟩⟩)
          have HJ2 := Lib.hid (show ∀ W, Below wr9.heap.size wr9.drew W → IdsAt W (.slice oo O.length oc) (O.drop 0) from fun W hb => RowsAt.below (show IdsAt wr9.drew (.slice oo O.length oc) O from RowsAt.below HO9.out.rows (Below.refl _ _).drew) hb)
          go_wp2_with fail
          refine wp_region_noPanic ?_
          refine wp_region_held_drew (S := (fun w' => Below wr9.heap.size wr9.drew w')) (by kernel_rfl) (Below.refl _ _) (fun hH => ?_)
          refine wpAnyH_take (i := 1) (v := ?_) rfl (by kernel_rfl) (by kernel_rfl) (by kernel_rfl) (fun _ _ _ h => h) (Or.inl ⟨by rfl, ?_⟩) (by assumption) ?_
          rotate_left
          · intro w' hSw; go_simp; try rfl
          try simp only [Act.put, List.getElem_toArray, List.getElem_cons_zero, List.getElem_cons_succ, List.setIfInBounds_toArray, List.set_cons_zero, List.set_cons_succ]
          refine wpAnyH_take (i := 2) (v := ?_) rfl (by kernel_rfl) (by kernel_rfl) (by kernel_rfl) (fun _ _ _ h => h) (Or.inl ⟨by rfl, ?_⟩) (by assumption) ?_
          rotate_left
          · intro w' hSw; go_simp; try rfl
          try simp only [Act.put, List.getElem_toArray, List.getElem_cons_zero, List.getElem_cons_succ, List.setIfInBounds_toArray, List.set_cons_zero, List.set_cons_succ]
          refine wpAnyH_take (i := 3) (v := ?_) rfl (by kernel_rfl) (by kernel_rfl) (by kernel_rfl) (fun _ _ _ h => h) (Or.inl ⟨by rfl, ?_⟩) (by assumption) ?_
          rotate_left
          · intro w' hSw; go_simp; try rfl
          try simp only [Act.put, List.getElem_toArray, List.getElem_cons_zero, List.getElem_cons_succ, List.setIfInBounds_toArray, List.set_cons_zero, List.set_cons_succ]
          refine wpAnyH_take (i := 5) (v := ?_) rfl (by kernel_rfl) (by kernel_rfl) (by kernel_rfl) (fun _ _ _ h => h) (Or.inl ⟨by rfl, ?_⟩) (by assumption) ?_
          rotate_left
          · intro w' hSw; go_simp; try rfl
          try simp only [Act.put, List.getElem_toArray, List.getElem_cons_zero, List.getElem_cons_succ, List.setIfInBounds_toArray, List.set_cons_zero, List.set_cons_succ]
          refine wpAnyH_take (i := 6) (v := ?_) rfl (by kernel_rfl) (by kernel_rfl) (by kernel_rfl) (fun _ _ _ h => h) (Or.inl ⟨by rfl, ?_⟩) (by assumption) ?_
          rotate_left
          · intro w' hSw; go_simp; try rfl
          try simp only [Act.put, List.getElem_toArray, List.getElem_cons_zero, List.getElem_cons_succ, List.setIfInBounds_toArray, List.set_cons_zero, List.set_cons_succ]
          refine wpAnyH_take (i := 7) (v := ?_) rfl (by kernel_rfl) (by kernel_rfl) (by kernel_rfl) (fun _ _ _ h => h) (Or.inl ⟨by rfl, ?_⟩) (by assumption) ?_
          rotate_left
          · intro w' hSw; go_simp; try rfl
          try simp only [Act.put, List.getElem_toArray, List.getElem_cons_zero, List.getElem_cons_succ, List.setIfInBounds_toArray, List.set_cons_zero, List.set_cons_succ]
          refine wpAnyH_take (i := 8) rfl (by kernel_rfl) (by kernel_rfl) (by kernel_rfl) (fun _ _ _ h => h) (yields_at (p := la.add (k * 32)) (cs := idC id) (by rfl) rfl rfl HCA.out Try.underlying28 rfl (idsize HXL.out)) (by assumption) ?_
          try simp only [Act.put, List.getElem_toArray, List.getElem_cons_zero, List.getElem_cons_succ, List.setIfInBounds_toArray, List.set_cons_zero, List.set_cons_succ]
          refine wpAnyH_take (i := 11) (v := ?_) rfl (by kernel_rfl) (by kernel_rfl) (by kernel_rfl) (fun _ _ _ h => h) (Or.inl ⟨by rfl, ?_⟩) (by assumption) ?_
          rotate_left
          · intro w' hSw; go_simp; try rfl
          try simp only [Act.put, List.getElem_toArray, List.getElem_cons_zero, List.getElem_cons_succ, List.setIfInBounds_toArray, List.set_cons_zero, List.set_cons_succ]
          refine wpAnyH_take (i := 12) (v := ?_) rfl (by kernel_rfl) (by kernel_rfl) (by kernel_rfl) (fun _ _ _ h => h) (Or.inl ⟨by rfl, ?_⟩) (by assumption) ?_
          rotate_left
          · intro w' hSw; go_simp; try rfl
          try simp only [Act.put, List.getElem_toArray, List.getElem_cons_zero, List.getElem_cons_succ, List.setIfInBounds_toArray, List.set_cons_zero, List.set_cons_succ]
          refine wpAnyH_take (i := 13) (v := ?_) rfl (by kernel_rfl) (by kernel_rfl) (by kernel_rfl) (fun _ _ _ h => h) (Or.inl ⟨by rfl, ?_⟩) (by assumption) ?_
          rotate_left
          · intro w' hSw; go_simp; try rfl
          try simp only [Act.put, List.getElem_toArray, List.getElem_cons_zero, List.getElem_cons_succ, List.setIfInBounds_toArray, List.set_cons_zero, List.set_cons_succ]
          refine wpAnyH_ready (rs := [0, 9]) (by kernel_rfl) (by simp) ?_
          refine AllReadyH.cons rfl (fun K hK => ?_) (AllReadyH.cons rfl (fun K hK => ?_) AllReadyH.nil)
          · go_simp
            have hS1 : Below wr9.heap.size wr9.drew (wr9.drew.alloc (.cells #[] 28)) := below_new wr9.drew _
            refine hK.out _ _ hS1 (fun hH1 => ?_)
            clear hK K
            try simp only [Act.put, List.getElem_toArray, List.getElem_cons_zero, List.getElem_cons_succ, List.setIfInBounds_toArray, List.set_cons_zero, List.set_cons_succ]
            refine wpAnyH_ready (rs := [4, 9]) (by kernel_rfl) (by simp) ?_
            have HO1 : OwnI (wr9.drew.alloc (.cells #[] 28)) wr9.heap.size (.slice (some ⟨wr9.heap.size, 0, none⟩) 0 0) [] := ⟨by simpa using World.ownsRow_made wr9.drew #[] 0 (Nat.le_refl _) (Nat.zero_le _) rfl, fun i hi => by cases hi⟩
            refine AllReadyH.cons rfl (fun K hK => ?_) (AllReadyH.cons rfl (fun K hK => ?_) AllReadyH.nil)
            · rw [if_pos (by rfl)]
              refine wp_apI (v := .slice (some ⟨wr9.heap.size, 0, none⟩) 0 0) (J := O.take 0) (base := wr9.heap.size) (.tmp 44) (.tmp 47) rfl rfl rfl HO1 (HJ1.out _ hS1) (fun i hi => HO.out.len i (List.mem_of_mem_take hi)) hS1.size (by first | (simp; done) | (simp; omega)) (fun v2 w2 HO2 hg2 => ?_)
              have hS2 := hS1.grown hg2 hS1.size (fun q hq => (HO1.own.lt q hq).1)
              refine hK.out _ _ hS2 (fun hH2 => ?_)
              clear hK K
              try simp only [Act.put, List.getElem_toArray, List.getElem_cons_zero, List.getElem_cons_succ, List.setIfInBounds_toArray, List.set_cons_zero, List.set_cons_succ]
              refine wpAnyH_ready (rs := [9]) (by kernel_rfl) (by simp) ?_
              refine AllReadyH.cons rfl (fun K hK => ?_) AllReadyH.nil
              rw [if_pos (by rfl)]
              refine wp_bs1 (l := id) (x := .tmp 52) rfl rfl HXL.out ?_
              have hS3 := hS2.alloc hS2.size (.cells (idC id).toArray 28)
              have HO3' := HO2.below (below_new w2 (.cells (idC id).toArray 28))
              have HG9 := Lib.hid (heap_alloc_new w2 (.cells (idC id).toArray 28))
              refine hK.out _ _ hS3 (fun hH3 => ?_)
              clear hK K
              try simp only [Act.put, List.getElem_toArray, List.getElem_cons_zero, List.getElem_cons_succ, List.setIfInBounds_toArray, List.set_cons_zero, List.set_cons_succ]
              refine wpAnyH_ready (rs := [10]) (by kernel_rfl) (by simp) ?_
              refine AllReadyH.cons rfl (fun K hK => ?_) AllReadyH.nil
              rw [if_pos (by rfl)]
              refine wp_apI (v := v2) (jv := .slice (some ⟨w2.heap.size, 0, none⟩) 1 1) (J := [id]) (base := wr9.heap.size) (.tmp 48) (.tmp 53) rfl rfl rfl HO3' (one_at HG9.out HXL.out) (fun i hi => by rw [List.mem_singleton.1 hi]; exact HXL.out) hS3.size (by first | (simp; done) | (simp; omega)) (fun v5 w5 HO5 hg5 => ?_)
              have hS5 := hS3.grown hg5 hS3.size (fun q hq => (HO3'.own.lt q hq).1)
              refine hK.out _ _ hS5 (fun hH5 => ?_)
              clear hK K
              try simp only [Act.put, List.getElem_toArray, List.getElem_cons_zero, List.getElem_cons_succ, List.setIfInBounds_toArray, List.set_cons_zero, List.set_cons_succ]
              refine wpAnyH_ready (rs := [14]) (by kernel_rfl) (by simp) ?_
              refine AllReadyH.cons rfl (fun K hK => ?_) AllReadyH.nil
              rw [if_pos (by rfl)]
              refine wp_apI (v := v5) (J := O.drop 0) (base := wr9.heap.size) (.tmp 54) (.tmp 57) rfl rfl rfl HO5 (HJ2.out _ hS5) (fun i hi => HO.out.len i (List.mem_of_mem_drop hi)) hS5.size (by first | (simp; done) | (simp; omega)) (fun v6 w6 HO6 hg6 => ?_)
              have hS6 := hS5.grown hg6 hS5.size (fun q hq => (HO5.own.lt q hq).1)
              refine hK.out _ _ hS6 (fun hH6 => ?_)
              clear hK K
              try simp only [Act.put, List.getElem_toArray, List.getElem_cons_zero, List.getElem_cons_succ, List.setIfInBounds_toArray, List.set_cons_zero, List.set_cons_succ]
              refine wpAnyH_take (i := 15) (v := ?_) rfl (by kernel_rfl) (by kernel_rfl) (by kernel_rfl) (fun _ _ _ h => h) (Or.inl ⟨by rfl, ?_⟩) (by assumption) ?_
              rotate_left
              · intro w' hSw; go_simp; try rfl
              try simp only [Act.put, List.getElem_toArray, List.getElem_cons_zero, List.getElem_cons_succ, List.setIfInBounds_toArray, List.set_cons_zero, List.set_cons_succ]
              refine wpAnyH_done (by kernel_rfl) ?_ _
              refine NoPanic.normal ?_
              have HOF := Lib.hid HO6
              have HSF := Lib.hid hS6
              clear hS6 HO6 hS5 HO5 hg5 hg6 HG9 HJ1 HJ2
              go_wp2_with fail
              go_roundw
              case rel => exact ⟨k + 1, O.take 0 ++ id :: O.drop 0, by omega, by go_num, by show _ ≤ _; have := HOK.out; simp; omega, HUP2.out, HMM2.out, ⟨own_le0 (by have := HOF.out.own; simpa using this) (by have := HB29.out.size; omega), by have := HOF.out.len; simpa using this⟩, HB.out.trans ((HB29.out.trans (((Below.refl wr9.heap.size wr9).drew.trans HSF.out).mono HB29.out.size)).mono hbs)⟩
              case measure => simp [intOf]; omega
            · rw [if_pos (by rfl)]
              refine wp_bs1 (l := id) (x := .tmp 52) rfl rfl HXL.out ?_
              have hS2 := hS1.alloc hS1.size (.cells (idC id).toArray 28)
              have HO2 := HO1.below (below_new _ (.cells (idC id).toArray 28))
              have HG8 := heap_alloc_new (wr9.drew.alloc (.cells #[] 28)) (.cells (idC id).toArray 28)
              refine hK.out _ _ hS2 (fun hH2 => ?_)
              clear hK K
              try simp only [Act.put, List.getElem_toArray, List.getElem_cons_zero, List.getElem_cons_succ, List.setIfInBounds_toArray, List.set_cons_zero, List.set_cons_succ]
              refine wpAnyH_ready (rs := [4]) (by kernel_rfl) (by simp) ?_
              refine AllReadyH.cons rfl (fun K hK => ?_) AllReadyH.nil
              rw [if_pos (by rfl)]
              refine wp_apI (v := .slice (some ⟨wr9.heap.size, 0, none⟩) 0 0) (J := O.take 0) (base := wr9.heap.size) (.tmp 44) (.tmp 47) rfl rfl rfl HO2 (HJ1.out _ hS2) (fun i hi => HO.out.len i (List.mem_of_mem_take hi)) hS2.size (by first | (simp; done) | (simp; omega)) (fun v3 w3 HO3' hg3 => ?_)
              have hS3 := hS2.grown hg3 hS2.size (fun q hq => (HO2.own.lt q hq).1)
              have HG9 := Lib.hid ((hg3.block (wr9.drew.alloc (.cells #[] 28)).heap.size (by simp) (by simp [Value.ownBlock])).trans HG8)
              refine hK.out _ _ hS3 (fun hH3 => ?_)
              clear hK K HG8
              try simp only [Act.put, List.getElem_toArray, List.getElem_cons_zero, List.getElem_cons_succ, List.setIfInBounds_toArray, List.set_cons_zero, List.set_cons_succ]
              refine wpAnyH_ready (rs := [10]) (by kernel_rfl) (by simp) ?_
              refine AllReadyH.cons rfl (fun K hK => ?_) AllReadyH.nil
              rw [if_pos (by rfl)]
              refine wp_apI (v := v3) (jv := .slice (some ⟨(wr9.drew.alloc (.cells #[] 28)).heap.size, 0, none⟩) 1 1) (J := [id]) (base := wr9.heap.size) (.tmp 48) (.tmp 53) rfl rfl rfl HO3' (one_at HG9.out HXL.out) (fun i hi => by rw [List.mem_singleton.1 hi]; exact HXL.out) hS3.size (by first | (simp; done) | (simp; omega)) (fun v5 w5 HO5 hg5 => ?_)
              have hS5 := hS3.grown hg5 hS3.size (fun q hq => (HO3'.own.lt q hq).1)
              refine hK.out _ _ hS5 (fun hH5 => ?_)
              clear hK K
              try simp only [Act.put, List.getElem_toArray, List.getElem_cons_zero, List.getElem_cons_succ, List.setIfInBounds_toArray, List.set_cons_zero, List.set_cons_succ]
              refine wpAnyH_ready (rs := [14]) (by kernel_rfl) (by simp) ?_
              refine AllReadyH.cons rfl (fun K hK => ?_) AllReadyH.nil
              rw [if_pos (by rfl)]
              refine wp_apI (v := v5) (J := O.drop 0) (base := wr9.heap.size) (.tmp 54) (.tmp 57) rfl rfl rfl HO5 (HJ2.out _ hS5) (fun i hi => HO.out.len i (List.mem_of_mem_drop hi)) hS5.size (by first | (simp; done) | (simp; omega)) (fun v6 w6 HO6 hg6 => ?_)
              have hS6 := hS5.grown hg6 hS5.size (fun q hq => (HO5.own.lt q hq).1)
              refine hK.out _ _ hS6 (fun hH6 => ?_)
              clear hK K
              try simp only [Act.put, List.getElem_toArray, List.getElem_cons_zero, List.getElem_cons_succ, List.setIfInBounds_toArray, List.set_cons_zero, List.set_cons_succ]
              refine wpAnyH_take (i := 15) (v := ?_) rfl (by kernel_rfl) (by kernel_rfl) (by kernel_rfl) (fun _ _ _ h => h) (Or.inl ⟨by rfl, ?_⟩) (by assumption) ?_
              rotate_left
              · intro w' hSw; go_simp; try rfl
              try simp only [Act.put, List.getElem_toArray, List.getElem_cons_zero, List.getElem_cons_succ, List.setIfInBounds_toArray, List.set_cons_zero, List.set_cons_succ]
              refine wpAnyH_done (by kernel_rfl) ?_ _
              refine NoPanic.normal ?_
              have HOF := Lib.hid HO6
              have HSF := Lib.hid hS6
              clear hS6 HO6 hS5 HO5 hg5 hg6 HG9 HJ1 HJ2
              go_wp2_with fail
              go_roundw
              case rel => exact ⟨k + 1, O.take 0 ++ id :: O.drop 0, by omega, by go_num, by show _ ≤ _; have := HOK.out; simp; omega, HUP2.out, HMM2.out, ⟨own_le0 (by have := HOF.out.own; simpa using this) (by have := HB29.out.size; omega), by have := HOF.out.len; simpa using this⟩, HB.out.trans ((HB29.out.trans (((Below.refl wr9.heap.size wr9).drew.trans HSF.out).mono HB29.out.size)).mono hbs)⟩
              case measure => simp [intOf]; omega
          · rw [if_pos (by rfl)]
            refine wp_bs1 (l := id) (x := .tmp 52) rfl rfl HXL.out ?_
            have hS1 : Below wr9.heap.size wr9.drew (wr9.drew.alloc (.cells (idC id).toArray 28)) := below_new wr9.drew _
            have HG7 := heap_alloc_new wr9.drew (.cells (idC id).toArray 28)
            refine hK.out _ _ hS1 (fun hH1 => ?_)
            clear hK K
            try simp only [Act.put, List.getElem_toArray, List.getElem_cons_zero, List.getElem_cons_succ, List.setIfInBounds_toArray, List.set_cons_zero, List.set_cons_succ]
            refine wpAnyH_ready (rs := [0]) (by kernel_rfl) (by simp) ?_
            refine AllReadyH.cons rfl (fun K hK => ?_) AllReadyH.nil
            go_simp
            have hS2 := hS1.alloc hS1.size (.cells #[] 28)
            have HG8 : ((wr9.drew.alloc (.cells (idC id).toArray 28)).alloc (.cells #[] 28)).heap[wr9.heap.size]? = some (.cells (idC id).toArray 28 (0, 0)) := heap_alloc2_old wr9.drew _ _
            have HO2 : OwnI ((wr9.drew.alloc (.cells (idC id).toArray 28)).alloc (.cells #[] 28)) wr9.heap.size (.slice (some ⟨wr9.heap.size + 1, 0, none⟩) 0 0) [] := ⟨by have := World.ownsRow_made (wr9.drew.alloc (.cells (idC id).toArray 28)) (e := 28) (size := 32) (base := wr9.heap.size) #[] 0 (by simp) (Nat.zero_le _) rfl; simpa using this, fun i hi => by cases hi⟩
            refine hK.out _ _ hS2 (fun hH2 => ?_)
            clear hK K
            try simp only [Act.put, List.getElem_toArray, List.getElem_cons_zero, List.getElem_cons_succ, List.setIfInBounds_toArray, List.set_cons_zero, List.set_cons_succ]
            refine wpAnyH_ready (rs := [4]) (by kernel_rfl) (by simp) ?_
            refine AllReadyH.cons rfl (fun K hK => ?_) AllReadyH.nil
            rw [if_pos (by rfl)]
            refine wp_apI (v := .slice (some ⟨wr9.heap.size + 1, 0, none⟩) 0 0) (J := O.take 0) (base := wr9.heap.size) (.tmp 44) (.tmp 47) rfl rfl rfl HO2 (HJ1.out _ hS2) (fun i hi => HO.out.len i (List.mem_of_mem_take hi)) hS2.size (by first | (simp; done) | (simp; omega)) (fun v3 w3 HO3' hg3 => ?_)
            have hS3 := hS2.grown hg3 hS2.size (fun q hq => (HO2.own.lt q hq).1)
            have HG9 := Lib.hid ((hg3.block wr9.heap.size (by simp; omega) (by simp [Value.ownBlock])).trans HG8)
            refine hK.out _ _ hS3 (fun hH3 => ?_)
            clear hK K HG8 HG7
            try simp only [Act.put, List.getElem_toArray, List.getElem_cons_zero, List.getElem_cons_succ, List.setIfInBounds_toArray, List.set_cons_zero, List.set_cons_succ]
            refine wpAnyH_ready (rs := [10]) (by kernel_rfl) (by simp) ?_
            refine AllReadyH.cons rfl (fun K hK => ?_) AllReadyH.nil
            rw [if_pos (by rfl)]
            refine wp_apI (v := v3) (jv := .slice (some ⟨wr9.heap.size, 0, none⟩) 1 1) (J := [id]) (base := wr9.heap.size) (.tmp 48) (.tmp 53) rfl rfl rfl HO3' (one_at HG9.out HXL.out) (fun i hi => by rw [List.mem_singleton.1 hi]; exact HXL.out) hS3.size (by first | (simp; done) | (simp; omega)) (fun v5 w5 HO5 hg5 => ?_)
            have hS5 := hS3.grown hg5 hS3.size (fun q hq => (HO3'.own.lt q hq).1)
            refine hK.out _ _ hS5 (fun hH5 => ?_)
            clear hK K
            try simp only [Act.put, List.getElem_toArray, List.getElem_cons_zero, List.getElem_cons_succ, List.setIfInBounds_toArray, List.set_cons_zero, List.set_cons_succ]
            refine wpAnyH_ready (rs := [14]) (by kernel_rfl) (by simp) ?_
            refine AllReadyH.cons rfl (fun K hK => ?_) AllReadyH.nil
            rw [if_pos (by rfl)]
            refine wp_apI (v := v5) (J := O.drop 0) (base := wr9.heap.size) (.tmp 54) (.tmp 57) rfl rfl rfl HO5 (HJ2.out _ hS5) (fun i hi => HO.out.len i (List.mem_of_mem_drop hi)) hS5.size (by first | (simp; done) | (simp; omega)) (fun v6 w6 HO6 hg6 => ?_)
            have hS6 := hS5.grown hg6 hS5.size (fun q hq => (HO5.own.lt q hq).1)
            refine hK.out _ _ hS6 (fun hH6 => ?_)
            clear hK K
            try simp only [Act.put, List.getElem_toArray, List.getElem_cons_zero, List.getElem_cons_succ, List.setIfInBounds_toArray, List.set_cons_zero, List.set_cons_succ]
            refine wpAnyH_take (i := 15) (v := ?_) rfl (by kernel_rfl) (by kernel_rfl) (by kernel_rfl) (fun _ _ _ h => h) (Or.inl ⟨by rfl, ?_⟩) (by assumption) ?_
            rotate_left
            · intro w' hSw; go_simp; try rfl
            try simp only [Act.put, List.getElem_toArray, List.getElem_cons_zero, List.getElem_cons_succ, List.setIfInBounds_toArray, List.set_cons_zero, List.set_cons_succ]
            refine wpAnyH_done (by kernel_rfl) ?_ _
            refine NoPanic.normal ?_
            have HOF := Lib.hid HO6
            have HSF := Lib.hid hS6
            clear hS6 HO6 hS5 HO5 hg5 hg6 HG9 HJ1 HJ2
            go_wp2_with fail
            go_roundw
            case rel => exact ⟨k + 1, O.take 0 ++ id :: O.drop 0, by omega, by go_num, by show _ ≤ _; have := HOK.out; simp; omega, HUP2.out, HMM2.out, ⟨own_le0 (by have := HOF.out.own; simpa using this) (by have := HB29.out.size; omega), by have := HOF.out.len; simpa using this⟩, HB.out.trans ((HB29.out.trans (((Below.refl wr9.heap.size wr9).drew.trans HSF.out).mono HB29.out.size)).mono hbs)⟩
            case measure => simp [intOf]; omega
        · obtain ⟨m, rfl⟩ : ∃ m, n = m + 1 := ⟨n - 1, by omega⟩
          have hm0 : (0 : Int) ≤ (m : Int) := by omega
          have hm1 : (m : Int) < (O.length : Int) := by omega
          have hmp : (0 : Int) < (m : Int) + 1 := by omega
          have hmz : ((m : Int) + 1 == 0) = false := by rw [beq_eq_false_iff_ne]; omega
          have hw0 : IntKind.i64.wrap ((m : Int) + 1 - 1) = (m : Int) := by rw [show (m : Int) + 1 - 1 = m by omega]; exact IntWalk.i64_in _ (by omega)
          have hw1 : IntKind.i64.wrap (((m + 1 : Nat) : Int) - 1) = (m : Int) := by rw [show ((m + 1 : Nat) : Int) - 1 = m by omega]; exact IntWalk.i64_in _ (by omega)
          have hw2 : IntKind.i64.wrap (m : Int) = (m : Int) := IntWalk.i64_in _ (by omega)
          have hmt : ((m : Int)).toNat = m := Int.toNat_natCast m
          obtain ⟨y, hy⟩ : ∃ y, O[m]? = some y := ⟨O[m], List.getElem?_eq_getElem (by omega)⟩
          have HYL := Lib.hid (HO.out.len y (List.mem_of_getElem? hy))
          obtain ⟨a, hae, _, hyc⟩ := HO3.out.rows.elem m (idC y) (by simp [hy])
          subst hae
          have HYC := Lib.hid (show ∀ j u, (idC y)[j]? = some u → wr3.drew.cell? ((a.add (m * 32)).add j) = some u from hyc)
          have HCD := Lib.hid (show ∀ j u, (idC id)[j]? = some u → wr3.drew.cell? ((la.add (k * 32)).add j) = some u from HC3.out)
          have HLS := Lib.hid (fun W => refless_id id y W HXL.out HYL.out)
          have HYY := Lib.hid hy
          have hoc : (m : Int) + 1 ≤ (oc : Int) := by
            rcases HO.out.own.2 with ⟨_, h0⟩ | ⟨g, c, cur, hv, _, _, h1, _⟩
            · omega
            · simp only [Value.slice.injEq] at hv
              obtain ⟨_, _, rfl⟩ := hv
              omega
          have hmo : (m : Int) + 1 ≤ (O.length : Int) := by omega
          have hOc : O.length ≤ oc := by
            rcases HO.out.own.2 with ⟨_, h0⟩ | ⟨g, c, cur, hv, _, _, h1, _⟩
            · omega
            · simp only [Value.slice.injEq] at hv
              obtain ⟨_, _, rfl⟩ := hv
              exact h1
          clear hy hyc hn0
          cases hlt3 : St.lt id y with
          | true =>
            rw [hlt3] at HLS
            have HG2 := Lib.hid (show ∀ (j : Nat) (x : List UInt8), m ≤ j → O[j]? = some x → St.lt id x = true from fun j x hj hx => by
              rcases Nat.lt_or_eq_of_le hj with h | h
              · exact HGT.out j x (by omega) hx
              · subst h; rw [HYY.out] at hx; injection hx with e; rw [← e]; exact hlt3)
            clear hlt3
            go_wp2_with fail
            refine rgn_tail 12 (by kernel_rfl) (by kernel_rfl) ?_
            simp only [List.take_succ_cons, List.take_zero, List.drop_succ_cons, List.drop_zero]
            repeat still_step
            (with_reducible apply still_idg (hc := HCD.out) (hl := HXL.out))
            rfl
            rfl
            kernel_rfl
            repeat still_step
            (with_reducible apply still_idg (hc := HYC.out) (hl := HYL.out))
            rfl
            rfl
            kernel_rfl
            repeat still_step
            refine wpStill_nil ?_
            go_wp2_with fail
            refine (HLS.out _).mono ?_
            rintro r w5 ⟨rfl, hb5⟩
            have hb35 : Below wr3.heap.size wr3 w5 := (Below.refl wr3.heap.size wr3).drew.trans hb5
            have HB5 := Lib.hid (HB3.out.trans (hb35.mono HB3.out.size))
            clear hb5 hb35 HLS HYC HCD
            go_wp2_with fail
            go_roundw
            case rel => exact ⟨m, by omega, by go_num, HG2.out, HB5.out⟩
            case measure => simp [intOf]
          | false =>
            rw [hlt3] at HLS
            have HLT := Lib.hid hlt3
            clear hlt3
            have hq := fun W => eq_id y id HYL.out HXL.out W
            by_cases hye : y = id
            · have HIN := Lib.hid (show id ∈ O by rw [← hye]; exact List.mem_of_getElem? HYY.out)
              rw [decide_eq_true hye] at hq
              clear hye
              go_wp2_with fail
              refine rgn_tail 12 (by kernel_rfl) (by kernel_rfl) ?_
              simp only [List.take_succ_cons, List.take_zero, List.drop_succ_cons, List.drop_zero]
              repeat still_step
              (with_reducible apply still_idg (hc := HCD.out) (hl := HXL.out))
              rfl
              rfl
              kernel_rfl
              repeat still_step
              (with_reducible apply still_idg (hc := HYC.out) (hl := HYL.out))
              rfl
              rfl
              kernel_rfl
              repeat still_step
              refine wpStill_nil ?_
              go_wp2_with fail
              refine (HLS.out _).mono ?_
              rintro r w5 ⟨rfl, hb5⟩
              have hb35 : Below wr3.heap.size wr3 w5 := (Below.refl wr3.heap.size wr3).drew.trans hb5
              have HB5 := Lib.hid (HB3.out.trans (hb35.mono HB3.out.size))
              have HYC5 := Lib.hid (show ∀ j u, (idC y)[j]? = some u → w5.drew.cell? ((a.add (m * 32)).add j) = some u from fun j u hu => by
                have h1 := HYC.out j u hu
                exact (hb35.cell (World.block_lt_of_cell? _ _ (show wr3.cell? _ = some u from h1))).trans h1)
              have HCD5 := Lib.hid (show ∀ j u, (idC id)[j]? = some u → w5.drew.cell? ((la.add (k * 32)).add j) = some u from fun j u hu => by
                have h1 := HCD.out j u hu
                exact (hb35.cell (World.block_lt_of_cell? _ _ (show wr3.cell? _ = some u from h1))).trans h1)
              have HB9 := Lib.hid (show Below wr3.heap.size wr3 w5.drew from hb35.drew)
              clear hb5 hb35 HLS HYC HCD
              go_wp2_with fail
              refine rgn_still (by kernel_rfl) (by kernel_rfl) ?_
              repeat still_step
              (with_reducible apply still_idg (hc := HYC5.out) (hl := HYL.out))
              rfl
              rfl
              kernel_rfl
              repeat still_step
              (with_reducible apply still_idg (hc := HCD5.out) (hl := HXL.out))
              rfl
              rfl
              kernel_rfl
              repeat still_step
              refine wpStill_nil ?_
              generalize w5.drew = wr9 at *
              clear HYC5 HCD5
              go_wp2_with fail
              go_roundw
              case rel => exact ⟨k + 1, O, by omega, by go_num, by show _ ≤ _; have := HOK.out; omega, HUP.out, fun x => by rw [HTK.out, List.mem_append, List.mem_singleton, ← HMM.out x]; exact ⟨.inl, fun h => h.elim (fun h => h) (fun e => by rw [e]; exact HIN.out)⟩, (HO3.out.below HB9.out), HB.out.trans ((HB3.out.trans (HB9.out.mono HB3.out.size)).mono hbs)⟩
              case measure => simp [intOf]; omega
            · have HUP2 := Lib.hid (Gr.up_ins (n := m + 1) HUP.out HO.out.len HXL.out hn HGT.out (.inr ⟨y, by simpa using HYY.out, hye, HLT.out⟩))
              rw [decide_eq_false hye] at hq
              clear hye
              go_wp2_with fail
              refine rgn_tail 12 (by kernel_rfl) (by kernel_rfl) ?_
              simp only [List.take_succ_cons, List.take_zero, List.drop_succ_cons, List.drop_zero]
              repeat still_step
              (with_reducible apply still_idg (hc := HCD.out) (hl := HXL.out))
              rfl
              rfl
              kernel_rfl
              repeat still_step
              (with_reducible apply still_idg (hc := HYC.out) (hl := HYL.out))
              rfl
              rfl
              kernel_rfl
              repeat still_step
              refine wpStill_nil ?_
              go_wp2_with fail
              refine (HLS.out _).mono ?_
              rintro r w5 ⟨rfl, hb5⟩
              have hb35 : Below wr3.heap.size wr3 w5 := (Below.refl wr3.heap.size wr3).drew.trans hb5
              have HB5 := Lib.hid (HB3.out.trans (hb35.mono HB3.out.size))
              have HYC5 := Lib.hid (show ∀ j u, (idC y)[j]? = some u → w5.drew.cell? ((a.add (m * 32)).add j) = some u from fun j u hu => by
                have h1 := HYC.out j u hu
                exact (hb35.cell (World.block_lt_of_cell? _ _ (show wr3.cell? _ = some u from h1))).trans h1)
              have HCD5 := Lib.hid (show ∀ j u, (idC id)[j]? = some u → w5.drew.cell? ((la.add (k * 32)).add j) = some u from fun j u hu => by
                have h1 := HCD.out j u hu
                exact (hb35.cell (World.block_lt_of_cell? _ _ (show wr3.cell? _ = some u from h1))).trans h1)
              have HB9 := Lib.hid (show Below wr3.heap.size wr3 w5.drew from hb35.drew)
              clear hb5 hb35 HLS HYC HCD
              go_wp2_with fail
              refine rgn_still (by kernel_rfl) (by kernel_rfl) ?_
              repeat still_step
              (with_reducible apply still_idg (hc := HYC5.out) (hl := HYL.out))
              rfl
              rfl
              kernel_rfl
              repeat still_step
              (with_reducible apply still_idg (hc := HCD5.out) (hl := HXL.out))
              rfl
              rfl
              kernel_rfl
              repeat still_step
              refine wpStill_nil ?_
              generalize w5.drew = wr9 at *
              clear HYC5 HCD5
              have HB29 := Lib.hid (HB3.out.trans (HB9.out.mono HB3.out.size))
              have HO9 := Lib.hid (HO3.out.below HB9.out)
              have HCA := Lib.hid (show ∀ W, Below wr9.heap.size wr9.drew W → ∀ j u, (idC id)[j]? = some u → W.cell? ((la.add (k * 32)).add j) = some u from fun W hb j u hu => by
                have h1 := (HB9.out.cell (World.block_lt_of_cell? _ _ (HC3.out j u hu))).trans (HC3.out j u hu)
                exact (hb.cell (World.block_lt_of_cell? _ _ h1)).trans h1)
              have HMM2 := Lib.hid (show ∀ x, x ∈ O.take (m + 1) ++ id :: O.drop (m + 1) ↔ x ∈ I.take (k + 1) from fun x => by rw [Gr.mem_ins x, HTK.out, HMM.out x]; simp)
              have HJ1 := Lib.hid (show ∀ W, Below wr9.heap.size wr9.drew W → IdsAt W (.slice (some a) (m + 1) oc) (O.take (m + 1)) from fun W hb => take_at (RowsAt.below (RowsAt.below HO9.out.rows (Below.refl _ _).drew) hb) hn)
              have HJ2 := Lib.hid (show ∀ W, Below wr9.heap.size wr9.drew W → IdsAt W (.slice (if oc = m + 1 then some a else some (a.add ((m + 1) * 32))) (O.length - (m + 1)) (oc - (m + 1))) (O.drop (m + 1)) from fun W hb => by
                split
                · rename_i hocm
                  have h0 : O.drop (m + 1) = [] := List.drop_eq_nil_of_le (by omega)
                  rw [h0]
                  exact ⟨.inr ⟨a, oc - (m + 1), by rw [show O.length - (m + 1) = 0 by omega]; rfl, fun i cs hi => by simp at hi⟩⟩
                · exact drop_at (RowsAt.below (RowsAt.below HO9.out.rows (Below.refl _ _).drew) hb))
              go_wp2_with fail
              refine wp_region_noPanic ?_
              refine wp_region_held_drew (S := (fun w' => Below wr9.heap.size wr9.drew w')) (by kernel_rfl) (Below.refl _ _) (fun hH => ?_)
              refine wpAnyH_take (i := 1) (v := ?_) rfl (by kernel_rfl) (by kernel_rfl) (by kernel_rfl) (fun _ _ _ h => h) (Or.inl ⟨by rfl, ?_⟩) (by assumption) ?_
              rotate_left
              · intro w' hSw; go_simp; try rfl
              try simp only [Act.put, List.getElem_toArray, List.getElem_cons_zero, List.getElem_cons_succ, List.setIfInBounds_toArray, List.set_cons_zero, List.set_cons_succ]
              refine wpAnyH_take (i := 2) (v := ?_) rfl (by kernel_rfl) (by kernel_rfl) (by kernel_rfl) (fun _ _ _ h => h) (Or.inl ⟨by rfl, ?_⟩) (by assumption) ?_
              rotate_left
              · intro w' hSw; go_simp; try rfl
              try simp only [Act.put, List.getElem_toArray, List.getElem_cons_zero, List.getElem_cons_succ, List.setIfInBounds_toArray, List.set_cons_zero, List.set_cons_succ]
              refine wpAnyH_take (i := 3) (v := ?_) rfl (by kernel_rfl) (by kernel_rfl) (by kernel_rfl) (fun _ _ _ h => h) (Or.inl ⟨by rfl, ?_⟩) (by assumption) ?_
              rotate_left
              · intro w' hSw; go_simp; try rfl
              try simp only [Act.put, List.getElem_toArray, List.getElem_cons_zero, List.getElem_cons_succ, List.setIfInBounds_toArray, List.set_cons_zero, List.set_cons_succ]
              refine wpAnyH_take (i := 5) (v := ?_) rfl (by kernel_rfl) (by kernel_rfl) (by kernel_rfl) (fun _ _ _ h => h) (Or.inl ⟨by rfl, ?_⟩) (by assumption) ?_
              rotate_left
              · intro w' hSw; go_simp; try rfl
              try simp only [Act.put, List.getElem_toArray, List.getElem_cons_zero, List.getElem_cons_succ, List.setIfInBounds_toArray, List.set_cons_zero, List.set_cons_succ]
              refine wpAnyH_take (i := 6) (v := ?_) rfl (by kernel_rfl) (by kernel_rfl) (by kernel_rfl) (fun _ _ _ h => h) (Or.inl ⟨by rfl, ?_⟩) (by assumption) ?_
              rotate_left
              · intro w' hSw; go_simp; try rfl
              try simp only [Act.put, List.getElem_toArray, List.getElem_cons_zero, List.getElem_cons_succ, List.setIfInBounds_toArray, List.set_cons_zero, List.set_cons_succ]
              refine wpAnyH_take (i := 7) (v := ?_) rfl (by kernel_rfl) (by kernel_rfl) (by kernel_rfl) (fun _ _ _ h => h) (Or.inl ⟨by rfl, ?_⟩) (by assumption) ?_
              rotate_left
              · intro w' hSw; go_simp; try rfl
              try simp only [Act.put, List.getElem_toArray, List.getElem_cons_zero, List.getElem_cons_succ, List.setIfInBounds_toArray, List.set_cons_zero, List.set_cons_succ]
              refine wpAnyH_take (i := 8) rfl (by kernel_rfl) (by kernel_rfl) (by kernel_rfl) (fun _ _ _ h => h) (yields_at (p := la.add (k * 32)) (cs := idC id) (by rfl) rfl rfl HCA.out Try.underlying28 rfl (idsize HXL.out)) (by assumption) ?_
              try simp only [Act.put, List.getElem_toArray, List.getElem_cons_zero, List.getElem_cons_succ, List.setIfInBounds_toArray, List.set_cons_zero, List.set_cons_succ]
              refine wpAnyH_take (i := 11) (v := ?_) rfl (by kernel_rfl) (by kernel_rfl) (by kernel_rfl) (fun _ _ _ h => h) (Or.inl ⟨by rfl, ?_⟩) (by assumption) ?_
              rotate_left
              · intro w' hSw; go_simp; try rfl
              try simp only [Act.put, List.getElem_toArray, List.getElem_cons_zero, List.getElem_cons_succ, List.setIfInBounds_toArray, List.set_cons_zero, List.set_cons_succ]
              refine wpAnyH_take (i := 12) (v := ?_) rfl (by kernel_rfl) (by kernel_rfl) (by kernel_rfl) (fun _ _ _ h => h) (Or.inl ⟨by rfl, ?_⟩) (by assumption) ?_
              rotate_left
              · intro w' hSw; go_simp; try rfl
              try simp only [Act.put, List.getElem_toArray, List.getElem_cons_zero, List.getElem_cons_succ, List.setIfInBounds_toArray, List.set_cons_zero, List.set_cons_succ]
              refine wpAnyH_take (i := 13) (v := ?_) rfl (by kernel_rfl) (by kernel_rfl) (by kernel_rfl) (fun _ _ _ h => h) (Or.inl ⟨by rfl, ?_⟩) (by assumption) ?_
              rotate_left
              · intro w' hSw; go_simp; try rfl
              try simp only [Act.put, List.getElem_toArray, List.getElem_cons_zero, List.getElem_cons_succ, List.setIfInBounds_toArray, List.set_cons_zero, List.set_cons_succ]
              refine wpAnyH_ready (rs := [0, 9]) (by kernel_rfl) (by simp) ?_
              refine AllReadyH.cons rfl (fun K hK => ?_) (AllReadyH.cons rfl (fun K hK => ?_) AllReadyH.nil)
              · go_simp
                have hS1 : Below wr9.heap.size wr9.drew (wr9.drew.alloc (.cells #[] 28)) := below_new wr9.drew _
                refine hK.out _ _ hS1 (fun hH1 => ?_)
                clear hK K
                try simp only [Act.put, List.getElem_toArray, List.getElem_cons_zero, List.getElem_cons_succ, List.setIfInBounds_toArray, List.set_cons_zero, List.set_cons_succ]
                refine wpAnyH_ready (rs := [4, 9]) (by kernel_rfl) (by simp) ?_
                have HO1 : OwnI (wr9.drew.alloc (.cells #[] 28)) wr9.heap.size (.slice (some ⟨wr9.heap.size, 0, none⟩) 0 0) [] := ⟨by simpa using World.ownsRow_made wr9.drew #[] 0 (Nat.le_refl _) (Nat.zero_le _) rfl, fun i hi => by cases hi⟩
                refine AllReadyH.cons rfl (fun K hK => ?_) (AllReadyH.cons rfl (fun K hK => ?_) AllReadyH.nil)
                · rw [if_pos (by rfl)]
                  refine wp_apI (v := .slice (some ⟨wr9.heap.size, 0, none⟩) 0 0) (J := O.take (m + 1)) (base := wr9.heap.size) (.tmp 44) (.tmp 47) rfl rfl rfl HO1 (HJ1.out _ hS1) (fun i hi => HO.out.len i (List.mem_of_mem_take hi)) hS1.size (by first | (simp; done) | (simp; omega)) (fun v2 w2 HO2 hg2 => ?_)
                  have hS2 := hS1.grown hg2 hS1.size (fun q hq => (HO1.own.lt q hq).1)
                  refine hK.out _ _ hS2 (fun hH2 => ?_)
                  clear hK K
                  try simp only [Act.put, List.getElem_toArray, List.getElem_cons_zero, List.getElem_cons_succ, List.setIfInBounds_toArray, List.set_cons_zero, List.set_cons_succ]
                  refine wpAnyH_ready (rs := [9]) (by kernel_rfl) (by simp) ?_
                  refine AllReadyH.cons rfl (fun K hK => ?_) AllReadyH.nil
                  rw [if_pos (by rfl)]
                  refine wp_bs1 (l := id) (x := .tmp 52) rfl rfl HXL.out ?_
                  have hS3 := hS2.alloc hS2.size (.cells (idC id).toArray 28)
                  have HO3' := HO2.below (below_new w2 (.cells (idC id).toArray 28))
                  have HG9 := Lib.hid (heap_alloc_new w2 (.cells (idC id).toArray 28))
                  refine hK.out _ _ hS3 (fun hH3 => ?_)
                  clear hK K
                  try simp only [Act.put, List.getElem_toArray, List.getElem_cons_zero, List.getElem_cons_succ, List.setIfInBounds_toArray, List.set_cons_zero, List.set_cons_succ]
                  refine wpAnyH_ready (rs := [10]) (by kernel_rfl) (by simp) ?_
                  refine AllReadyH.cons rfl (fun K hK => ?_) AllReadyH.nil
                  rw [if_pos (by rfl)]
                  refine wp_apI (v := v2) (jv := .slice (some ⟨w2.heap.size, 0, none⟩) 1 1) (J := [id]) (base := wr9.heap.size) (.tmp 48) (.tmp 53) rfl rfl rfl HO3' (one_at HG9.out HXL.out) (fun i hi => by rw [List.mem_singleton.1 hi]; exact HXL.out) hS3.size (by first | (simp; done) | (simp; omega)) (fun v5 w5 HO5 hg5 => ?_)
                  have hS5 := hS3.grown hg5 hS3.size (fun q hq => (HO3'.own.lt q hq).1)
                  refine hK.out _ _ hS5 (fun hH5 => ?_)
                  clear hK K
                  try simp only [Act.put, List.getElem_toArray, List.getElem_cons_zero, List.getElem_cons_succ, List.setIfInBounds_toArray, List.set_cons_zero, List.set_cons_succ]
                  refine wpAnyH_ready (rs := [14]) (by kernel_rfl) (by simp) ?_
                  refine AllReadyH.cons rfl (fun K hK => ?_) AllReadyH.nil
                  rw [if_pos (by rfl)]
                  refine wp_apI (v := v5) (J := O.drop (m + 1)) (base := wr9.heap.size) (.tmp 54) (.tmp 57) rfl rfl rfl HO5 (HJ2.out _ hS5) (fun i hi => HO.out.len i (List.mem_of_mem_drop hi)) hS5.size (by first | (simp; done) | (simp; omega)) (fun v6 w6 HO6 hg6 => ?_)
                  have hS6 := hS5.grown hg6 hS5.size (fun q hq => (HO5.own.lt q hq).1)
                  refine hK.out _ _ hS6 (fun hH6 => ?_)
                  clear hK K
                  try simp only [Act.put, List.getElem_toArray, List.getElem_cons_zero, List.getElem_cons_succ, List.setIfInBounds_toArray, List.set_cons_zero, List.set_cons_succ]
                  refine wpAnyH_take (i := 15) (v := ?_) rfl (by kernel_rfl) (by kernel_rfl) (by kernel_rfl) (fun _ _ _ h => h) (Or.inl ⟨by rfl, ?_⟩) (by assumption) ?_
                  rotate_left
                  · intro w' hSw; go_simp; try rfl
                  try simp only [Act.put, List.getElem_toArray, List.getElem_cons_zero, List.getElem_cons_succ, List.setIfInBounds_toArray, List.set_cons_zero, List.set_cons_succ]
                  refine wpAnyH_done (by kernel_rfl) ?_ _
                  refine NoPanic.normal ?_
                  have HOF := Lib.hid HO6
                  have HSF := Lib.hid hS6
                  clear hS6 HO6 hS5 HO5 hg5 hg6 HG9 HJ1 HJ2
                  go_wp2_with fail
                  go_roundw
                  case rel => exact ⟨k + 1, O.take (m + 1) ++ id :: O.drop (m + 1), by omega, by go_num, by show _ ≤ _; have := HOK.out; simp; omega, HUP2.out, HMM2.out, ⟨own_le0 (by have := HOF.out.own; simpa using this) (by have := HB29.out.size; omega), by have := HOF.out.len; simpa using this⟩, HB.out.trans ((HB29.out.trans (((Below.refl wr9.heap.size wr9).drew.trans HSF.out).mono HB29.out.size)).mono hbs)⟩
                  case measure => simp [intOf]; omega
                · rw [if_pos (by rfl)]
                  refine wp_bs1 (l := id) (x := .tmp 52) rfl rfl HXL.out ?_
                  have hS2 := hS1.alloc hS1.size (.cells (idC id).toArray 28)
                  have HO2 := HO1.below (below_new _ (.cells (idC id).toArray 28))
                  have HG8 := heap_alloc_new (wr9.drew.alloc (.cells #[] 28)) (.cells (idC id).toArray 28)
                  refine hK.out _ _ hS2 (fun hH2 => ?_)
                  clear hK K
                  try simp only [Act.put, List.getElem_toArray, List.getElem_cons_zero, List.getElem_cons_succ, List.setIfInBounds_toArray, List.set_cons_zero, List.set_cons_succ]
                  refine wpAnyH_ready (rs := [4]) (by kernel_rfl) (by simp) ?_
                  refine AllReadyH.cons rfl (fun K hK => ?_) AllReadyH.nil
                  rw [if_pos (by rfl)]
                  refine wp_apI (v := .slice (some ⟨wr9.heap.size, 0, none⟩) 0 0) (J := O.take (m + 1)) (base := wr9.heap.size) (.tmp 44) (.tmp 47) rfl rfl rfl HO2 (HJ1.out _ hS2) (fun i hi => HO.out.len i (List.mem_of_mem_take hi)) hS2.size (by first | (simp; done) | (simp; omega)) (fun v3 w3 HO3' hg3 => ?_)
                  have hS3 := hS2.grown hg3 hS2.size (fun q hq => (HO2.own.lt q hq).1)
                  have HG9 := Lib.hid ((hg3.block (wr9.drew.alloc (.cells #[] 28)).heap.size (by simp) (by simp [Value.ownBlock])).trans HG8)
                  refine hK.out _ _ hS3 (fun hH3 => ?_)
                  clear hK K HG8
                  try simp only [Act.put, List.getElem_toArray, List.getElem_cons_zero, List.getElem_cons_succ, List.setIfInBounds_toArray, List.set_cons_zero, List.set_cons_succ]
                  refine wpAnyH_ready (rs := [10]) (by kernel_rfl) (by simp) ?_
                  refine AllReadyH.cons rfl (fun K hK => ?_) AllReadyH.nil
                  rw [if_pos (by rfl)]
                  refine wp_apI (v := v3) (jv := .slice (some ⟨(wr9.drew.alloc (.cells #[] 28)).heap.size, 0, none⟩) 1 1) (J := [id]) (base := wr9.heap.size) (.tmp 48) (.tmp 53) rfl rfl rfl HO3' (one_at HG9.out HXL.out) (fun i hi => by rw [List.mem_singleton.1 hi]; exact HXL.out) hS3.size (by first | (simp; done) | (simp; omega)) (fun v5 w5 HO5 hg5 => ?_)
                  have hS5 := hS3.grown hg5 hS3.size (fun q hq => (HO3'.own.lt q hq).1)
                  refine hK.out _ _ hS5 (fun hH5 => ?_)
                  clear hK K
                  try simp only [Act.put, List.getElem_toArray, List.getElem_cons_zero, List.getElem_cons_succ, List.setIfInBounds_toArray, List.set_cons_zero, List.set_cons_succ]
                  refine wpAnyH_ready (rs := [14]) (by kernel_rfl) (by simp) ?_
                  refine AllReadyH.cons rfl (fun K hK => ?_) AllReadyH.nil
                  rw [if_pos (by rfl)]
                  refine wp_apI (v := v5) (J := O.drop (m + 1)) (base := wr9.heap.size) (.tmp 54) (.tmp 57) rfl rfl rfl HO5 (HJ2.out _ hS5) (fun i hi => HO.out.len i (List.mem_of_mem_drop hi)) hS5.size (by first | (simp; done) | (simp; omega)) (fun v6 w6 HO6 hg6 => ?_)
                  have hS6 := hS5.grown hg6 hS5.size (fun q hq => (HO5.own.lt q hq).1)
                  refine hK.out _ _ hS6 (fun hH6 => ?_)
                  clear hK K
                  try simp only [Act.put, List.getElem_toArray, List.getElem_cons_zero, List.getElem_cons_succ, List.setIfInBounds_toArray, List.set_cons_zero, List.set_cons_succ]
                  refine wpAnyH_take (i := 15) (v := ?_) rfl (by kernel_rfl) (by kernel_rfl) (by kernel_rfl) (fun _ _ _ h => h) (Or.inl ⟨by rfl, ?_⟩) (by assumption) ?_
                  rotate_left
                  · intro w' hSw; go_simp; try rfl
                  try simp only [Act.put, List.getElem_toArray, List.getElem_cons_zero, List.getElem_cons_succ, List.setIfInBounds_toArray, List.set_cons_zero, List.set_cons_succ]
                  refine wpAnyH_done (by kernel_rfl) ?_ _
                  refine NoPanic.normal ?_
                  have HOF := Lib.hid HO6
                  have HSF := Lib.hid hS6
                  clear hS6 HO6 hS5 HO5 hg5 hg6 HG9 HJ1 HJ2
                  go_wp2_with fail
                  go_roundw
                  case rel => exact ⟨k + 1, O.take (m + 1) ++ id :: O.drop (m + 1), by omega, by go_num, by show _ ≤ _; have := HOK.out; simp; omega, HUP2.out, HMM2.out, ⟨own_le0 (by have := HOF.out.own; simpa using this) (by have := HB29.out.size; omega), by have := HOF.out.len; simpa using this⟩, HB.out.trans ((HB29.out.trans (((Below.refl wr9.heap.size wr9).drew.trans HSF.out).mono HB29.out.size)).mono hbs)⟩
                  case measure => simp [intOf]; omega
              · rw [if_pos (by rfl)]
                refine wp_bs1 (l := id) (x := .tmp 52) rfl rfl HXL.out ?_
                have hS1 : Below wr9.heap.size wr9.drew (wr9.drew.alloc (.cells (idC id).toArray 28)) := below_new wr9.drew _
                have HG7 := heap_alloc_new wr9.drew (.cells (idC id).toArray 28)
                refine hK.out _ _ hS1 (fun hH1 => ?_)
                clear hK K
                try simp only [Act.put, List.getElem_toArray, List.getElem_cons_zero, List.getElem_cons_succ, List.setIfInBounds_toArray, List.set_cons_zero, List.set_cons_succ]
                refine wpAnyH_ready (rs := [0]) (by kernel_rfl) (by simp) ?_
                refine AllReadyH.cons rfl (fun K hK => ?_) AllReadyH.nil
                go_simp
                have hS2 := hS1.alloc hS1.size (.cells #[] 28)
                have HG8 : ((wr9.drew.alloc (.cells (idC id).toArray 28)).alloc (.cells #[] 28)).heap[wr9.heap.size]? = some (.cells (idC id).toArray 28 (0, 0)) := heap_alloc2_old wr9.drew _ _
                have HO2 : OwnI ((wr9.drew.alloc (.cells (idC id).toArray 28)).alloc (.cells #[] 28)) wr9.heap.size (.slice (some ⟨wr9.heap.size + 1, 0, none⟩) 0 0) [] := ⟨by have := World.ownsRow_made (wr9.drew.alloc (.cells (idC id).toArray 28)) (e := 28) (size := 32) (base := wr9.heap.size) #[] 0 (by simp) (Nat.zero_le _) rfl; simpa using this, fun i hi => by cases hi⟩
                refine hK.out _ _ hS2 (fun hH2 => ?_)
                clear hK K
                try simp only [Act.put, List.getElem_toArray, List.getElem_cons_zero, List.getElem_cons_succ, List.setIfInBounds_toArray, List.set_cons_zero, List.set_cons_succ]
                refine wpAnyH_ready (rs := [4]) (by kernel_rfl) (by simp) ?_
                refine AllReadyH.cons rfl (fun K hK => ?_) AllReadyH.nil
                rw [if_pos (by rfl)]
                refine wp_apI (v := .slice (some ⟨wr9.heap.size + 1, 0, none⟩) 0 0) (J := O.take (m + 1)) (base := wr9.heap.size) (.tmp 44) (.tmp 47) rfl rfl rfl HO2 (HJ1.out _ hS2) (fun i hi => HO.out.len i (List.mem_of_mem_take hi)) hS2.size (by first | (simp; done) | (simp; omega)) (fun v3 w3 HO3' hg3 => ?_)
                have hS3 := hS2.grown hg3 hS2.size (fun q hq => (HO2.own.lt q hq).1)
                have HG9 := Lib.hid ((hg3.block wr9.heap.size (by simp; omega) (by simp [Value.ownBlock])).trans HG8)
                refine hK.out _ _ hS3 (fun hH3 => ?_)
                clear hK K HG8 HG7
                try simp only [Act.put, List.getElem_toArray, List.getElem_cons_zero, List.getElem_cons_succ, List.setIfInBounds_toArray, List.set_cons_zero, List.set_cons_succ]
                refine wpAnyH_ready (rs := [10]) (by kernel_rfl) (by simp) ?_
                refine AllReadyH.cons rfl (fun K hK => ?_) AllReadyH.nil
                rw [if_pos (by rfl)]
                refine wp_apI (v := v3) (jv := .slice (some ⟨wr9.heap.size, 0, none⟩) 1 1) (J := [id]) (base := wr9.heap.size) (.tmp 48) (.tmp 53) rfl rfl rfl HO3' (one_at HG9.out HXL.out) (fun i hi => by rw [List.mem_singleton.1 hi]; exact HXL.out) hS3.size (by first | (simp; done) | (simp; omega)) (fun v5 w5 HO5 hg5 => ?_)
                have hS5 := hS3.grown hg5 hS3.size (fun q hq => (HO3'.own.lt q hq).1)
                refine hK.out _ _ hS5 (fun hH5 => ?_)
                clear hK K
                try simp only [Act.put, List.getElem_toArray, List.getElem_cons_zero, List.getElem_cons_succ, List.setIfInBounds_toArray, List.set_cons_zero, List.set_cons_succ]
                refine wpAnyH_ready (rs := [14]) (by kernel_rfl) (by simp) ?_
                refine AllReadyH.cons rfl (fun K hK => ?_) AllReadyH.nil
                rw [if_pos (by rfl)]
                refine wp_apI (v := v5) (J := O.drop (m + 1)) (base := wr9.heap.size) (.tmp 54) (.tmp 57) rfl rfl rfl HO5 (HJ2.out _ hS5) (fun i hi => HO.out.len i (List.mem_of_mem_drop hi)) hS5.size (by first | (simp; done) | (simp; omega)) (fun v6 w6 HO6 hg6 => ?_)
                have hS6 := hS5.grown hg6 hS5.size (fun q hq => (HO5.own.lt q hq).1)
                refine hK.out _ _ hS6 (fun hH6 => ?_)
                clear hK K
                try simp only [Act.put, List.getElem_toArray, List.getElem_cons_zero, List.getElem_cons_succ, List.setIfInBounds_toArray, List.set_cons_zero, List.set_cons_succ]
                refine wpAnyH_take (i := 15) (v := ?_) rfl (by kernel_rfl) (by kernel_rfl) (by kernel_rfl) (fun _ _ _ h => h) (Or.inl ⟨by rfl, ?_⟩) (by assumption) ?_
                rotate_left
                · intro w' hSw; go_simp; try rfl
                try simp only [Act.put, List.getElem_toArray, List.getElem_cons_zero, List.getElem_cons_succ, List.setIfInBounds_toArray, List.set_cons_zero, List.set_cons_succ]
                refine wpAnyH_done (by kernel_rfl) ?_ _
                refine NoPanic.normal ?_
                have HOF := Lib.hid HO6
                have HSF := Lib.hid hS6
                clear hS6 HO6 hS5 HO5 hg5 hg6 HG9 HJ1 HJ2
                go_wp2_with fail
                go_roundw
                case rel => exact ⟨k + 1, O.take (m + 1) ++ id :: O.drop (m + 1), by omega, by go_num, by show _ ≤ _; have := HOK.out; simp; omega, HUP2.out, HMM2.out, ⟨own_le0 (by have := HOF.out.own; simpa using this) (by have := HB29.out.size; omega), by have := HOF.out.len; simpa using this⟩, HB.out.trans ((HB29.out.trans (((Below.refl wr9.heap.size wr9).drew.trans HSF.out).mono HB29.out.size)).mono hbs)⟩
                case measure => simp [intOf]; omega
    · have hlt' : ¬ (k : Int) < (I.length : Int) := by omega
      go_wp2_with fail
      go_ret
      exact ⟨_, rfl, O, HO.out.rows, HUP.out, fun x => by rw [HMM.out x, List.take_of_length_le (by omega)], HB.out⟩
end Go.Proofs.Ytkcjhkfelaplkaa
end

section
namespace Go.Proofs.Ytkcjhkfelaplkaa
open Go.RowKit
set_option linter.unusedVariables false
set_option linter.unusedSimpArgs false

/-- An id of one byte. -/
def oneId (x : UInt8) : List UInt8 := x :: List.replicate 31 0
theorem oneId_len (x : UInt8) : (oneId x).length = 32 := rfl
set_option maxRecDepth 100000 in
theorem built_one (x : UInt8) : Try.prog.built 28 [(0, .int .u8 (x.toNat : Int))] = some (idC (oneId x)).toArray := by kernel_rfl
theorem bd_one {q : Nat} {ops : Array Oper} {rest : List Oper} {op : Oper} {a : Act} {w : World} {Q : Exit → Act → World → Prop} {x : Operand} {b : UInt8} (ho : op.op = .build 28 #[(0, x)]) (hx : a.eval x = .int .u8 (q : Int)) (hg : op.guard = none) (hq : b.toNat = q)
    (h : wpList Try.prog ops Q rest (a.put op.dst (.agg (idC (oneId b)).toArray)) w) : wpList Try.prog ops Q (op :: rest) a w :=
  wpList_build_as hg _ _ ho _ (by simp only [List.map_toArray, List.map_cons, List.map_nil, hx, ← hq]; exact built_one b) h
end Go.Proofs.Ytkcjhkfelaplkaa
end

section
namespace Go.Proofs.Ytkcjhkfelaplkaa
set_option linter.unusedVariables false
set_option linter.unusedSimpArgs false

/-- A strict order in which of any two things that are not alike one is ahead, up to ties. -/
structure Hp.Ord {α : Type} (lt : α → α → Bool) : Prop where
  asy : ∀ a b, lt a b = true → lt b a = false
  nt : ∀ a b c, lt a b = false → lt b c = false → lt a c = false
theorem Hp.Ord.tr {α : Type} {lt : α → α → Bool} (h : Hp.Ord lt) {a b c : α} (h1 : lt a c = true) (h2 : lt b c = false) : lt b a = false := by
  cases hb : lt b a with
  | false => rfl
  | true =>
    have := h.nt _ _ _ (h.asy _ _ hb) (h2)
    rw [h1] at this; cases this
def Hp.sw {α : Type} (f : Nat → α) (i j : Nat) : Nat → α := fun k => if k = i then f j else if k = j then f i else f k
def Hp.Is {α : Type} (lt : α → α → Bool) (f : Nat → α) (n : Nat) : Prop := ∀ k, 0 < k → k < n → lt (f k) (f ((k - 1) / 2)) = false
def Hp.Up {α : Type} (lt : α → α → Bool) (f : Nat → α) (n j : Nat) : Prop :=
  j < n ∧ (∀ k, 0 < k → k < n → k ≠ j → lt (f k) (f ((k - 1) / 2)) = false) ∧ ∀ k, 0 < k → k < n → (k - 1) / 2 = j → 0 < j → lt (f k) (f ((j - 1) / 2)) = false
theorem Hp.Up.start {α : Type} {lt : α → α → Bool} {f : Nat → α} {n : Nat} (h : Hp.Is lt f n) : Hp.Up lt f (n + 1) n :=
  ⟨by omega, fun k h0 h1 h2 => h k h0 (by omega), fun k h0 h1 h2 h3 => by omega⟩
theorem Hp.Up.step {α : Type} {lt : α → α → Bool} (ho : Hp.Ord lt) {f : Nat → α} {n j : Nat} (h : Hp.Up lt f n j) (hj : 0 < j) (hl : lt (f j) (f ((j - 1) / 2)) = true) : Hp.Up lt (Hp.sw f ((j - 1) / 2) j) n ((j - 1) / 2) := by
  obtain ⟨h1, h2, h3⟩ := h
  generalize hi : (j - 1) / 2 = i at *
  have hij : i < j := by omega
  have si : Hp.sw f i j i = f j := by simp [Hp.sw]
  have sj : Hp.sw f i j j = f i := by unfold Hp.sw; rw [if_neg (by omega), if_pos rfl]
  have sk : ∀ k, k ≠ i → k ≠ j → Hp.sw f i j k = f k := fun k a b => by unfold Hp.sw; rw [if_neg a, if_neg b]
  refine ⟨by omega, fun k k0 k1 k2 => ?_, fun k k0 k1 k2 i0 => ?_⟩
  · by_cases e : k = j
    · subst e; rw [hi, si, sj]; exact ho.asy _ _ hl
    · rw [sk k k2 e]
      by_cases e1 : (k - 1) / 2 = j
      · rw [e1, sj]; exact h3 k k0 k1 e1 hj
      · by_cases e2 : (k - 1) / 2 = i
        · rw [e2, si]
          have := h2 k k0 k1 e
          rw [e2] at this
          exact ho.tr hl this
        · rw [sk _ e2 e1]; exact h2 k k0 k1 e
  · have p : (i - 1) / 2 < i := by omega
    rw [sk ((i - 1) / 2) (by omega) (by omega)]
    have hii := h2 i i0 (by omega) (by omega)
    by_cases e : k = j
    · subst e; rw [sj]; exact hii
    · rw [sk k (by omega) e]
      have := h2 k k0 k1 e
      rw [k2] at this
      exact ho.nt _ _ _ this hii
def Hp.Dn {α : Type} (lt : α → α → Bool) (f : Nat → α) (n i : Nat) : Prop :=
  (∀ k, 0 < k → k < n → (k - 1) / 2 ≠ i → lt (f k) (f ((k - 1) / 2)) = false) ∧ ∀ k, 0 < k → k < n → (k - 1) / 2 = i → 0 < i → lt (f k) (f ((i - 1) / 2)) = false
theorem Hp.Dn.step {α : Type} {lt : α → α → Bool} (ho : Hp.Ord lt) {f : Nat → α} {n i j : Nat} (h : Hp.Dn lt f n i) (hj : j = 2 * i + 1 ∨ j = 2 * i + 2) (hn : j < n) (hc : ∀ k, k < n → k = 2 * i + 1 ∨ k = 2 * i + 2 → lt (f k) (f j) = false) (hl : lt (f j) (f i) = true) : Hp.Dn lt (Hp.sw f i j) n j := by
  obtain ⟨h1, h2⟩ := h
  have si : Hp.sw f i j i = f j := by simp [Hp.sw]
  have sj : Hp.sw f i j j = f i := by unfold Hp.sw; rw [if_neg (by omega), if_pos rfl]
  have sk : ∀ k, k ≠ i → k ≠ j → Hp.sw f i j k = f k := fun k a b => by unfold Hp.sw; rw [if_neg a, if_neg b]
  refine ⟨fun k k0 k1 k2 => ?_, fun k k0 k1 k2 j0 => ?_⟩
  · by_cases e : (k - 1) / 2 = i
    · rw [e, si]
      by_cases ej : k = j
      · subst ej; rw [sj]; exact ho.asy _ _ hl
      · rw [sk k (by omega) ej]; exact hc k k1 (by omega)
    · by_cases ei : k = i
      · subst ei
        rw [si, sk _ (by omega) k2]
        exact h2 j (by omega) hn (by omega) k0
      · have ej : k ≠ j := by omega
        rw [sk k ei ej, sk _ e k2]
        exact h1 k k0 k1 e
  · have e : (j - 1) / 2 = i := by omega
    rw [e, si, sk k (by omega) (by omega)]
    have := h1 k k0 k1 (by omega)
    rw [k2] at this
    exact this
theorem Hp.Dn.start {α : Type} {lt : α → α → Bool} {f : Nat → α} {n : Nat} (h : Hp.Is lt f (n + 1)) : Hp.Dn lt (Hp.sw f 0 n) n 0 := by
  refine ⟨fun k k0 k1 k2 => ?_, fun k k0 k1 k2 j0 => by omega⟩
  have : Hp.sw f 0 n k = f k := by unfold Hp.sw; rw [if_neg (by omega), if_neg (by omega)]
  rw [this]
  have : Hp.sw f 0 n ((k - 1) / 2) = f ((k - 1) / 2) := by unfold Hp.sw; rw [if_neg (by omega), if_neg (by omega)]
  rw [this]
  exact h k k0 (by omega)
theorem Hp.Is.congr {α : Type} {lt : α → α → Bool} {f g : Nat → α} {n : Nat} (h : Hp.Is lt f n) (he : ∀ k, k < n → f k = g k) : Hp.Is lt g n := fun k h0 h1 => by
  rw [← he k h1, ← he _ (show (k - 1) / 2 < n by omega)]; exact h k h0 h1
theorem Hp.Up.congr {α : Type} {lt : α → α → Bool} {f g : Nat → α} {n j : Nat} (h : Hp.Up lt f n j) (he : ∀ k, k < n → f k = g k) : Hp.Up lt g n j :=
  ⟨h.1, fun k h0 h1 h2 => by rw [← he k h1, ← he _ (show (k - 1) / 2 < n by omega)]; exact h.2.1 k h0 h1 h2, fun k h0 h1 h2 h3 => by
    rw [← he k h1, ← he _ (show (j - 1) / 2 < n by have := h.1; omega)]; exact h.2.2 k h0 h1 h2 h3⟩
theorem Hp.Dn.congr {α : Type} {lt : α → α → Bool} {f g : Nat → α} {n i : Nat} (h : Hp.Dn lt f n i) (he : ∀ k, k < n → f k = g k) : Hp.Dn lt g n i :=
  ⟨fun k h0 h1 h2 => by rw [← he k h1, ← he _ (show (k - 1) / 2 < n by omega)]; exact h.1 k h0 h1 h2, fun k h0 h1 h2 h3 => by
    rw [← he k h1, ← he _ (show (i - 1) / 2 < n by omega)]; exact h.2 k h0 h1 h2 h3⟩
end Go.Proofs.Ytkcjhkfelaplkaa
end

section
namespace Go.Proofs.Ytkcjhkfelaplkaa
open Go.RowKit Go.Sort
set_option linter.unusedVariables false
set_option linter.unusedSimpArgs false

/-- A candidate: its id, its time, the slice of its parents. -/
structure Cd where
  id : List UInt8
  time : Nat
  par : Value
  idl : id.length = 32
  tml : time < 4294967296
  parl : par.oneCell' = true
instance : Inhabited Cd := ⟨⟨zId, 0, .slice none 0 0, by decide, by decide, rfl⟩⟩
def Cd.lt (a b : Cd) : Bool := if a.time = b.time then St.lt a.id b.id else decide (b.time < a.time)
/-- Rows of cells, one of them another one. -/
theorem splice_app {α : Type} (A X c : List α) (n : Nat) : splice (A ++ X) (A.length + n) c = A ++ splice X n c := by
  unfold splice
  rw [List.take_length_add_append, show A.length + n + c.length = A.length + (n + c.length) by omega, List.drop_length_add_append, List.append_assoc]
theorem flatK_set {k : Nat} : ∀ (C : List (List Value)), (∀ c ∈ C, c.length = k) → ∀ (i : Nat) (c : List Value), i < C.length → c.length = k → (C.set i c).flatten = splice C.flatten (i * k) c
  | [], _, i, c, h, _ => by simp at h
  | a :: r, hk, 0, c, _, hc => by
    have ha : a.length = k := hk a (by simp)
    simp [splice, hc, ← ha]
  | a :: r, hk, i + 1, c, h, hc => by
    have ha : a.length = k := hk a (by simp)
    rw [List.set_cons_succ, List.flatten_cons, List.flatten_cons, flatK_set r (fun x hx => hk x (by simp [hx])) i c (by simpa using h) hc, show (i + 1) * k = a.length + i * k by rw [Nat.succ_mul]; omega, splice_app]
theorem splice_take {α : Type} (L vs : List α) (o m : Nat) (h : o + vs.length ≤ m) (hm : m ≤ L.length) : (splice L o vs).take m = splice (L.take m) o vs := by
  unfold splice
  have hl : (L.take o).length = o := by rw [List.length_take, Nat.min_eq_left (by omega)]
  have h1 : (L.take o).take m = L.take o := List.take_of_length_le (by omega)
  have h2 : vs.take (m - o) = vs := List.take_of_length_le (by omega)
  rw [List.take_append, hl, h1, List.take_append, h2, List.take_take, Nat.min_eq_left (by omega), List.drop_take, show m - o - vs.length = m - (o + vs.length) by omega]
theorem splice_length {α : Type} (L vs : List α) (o : Nat) (h : o + vs.length ≤ L.length) : (splice L o vs).length = L.length := by
  unfold splice; simp; omega
end Go.Proofs.Ytkcjhkfelaplkaa
end

section
namespace Go.Proofs.Ytkcjhkfelaplkaa
set_option linter.unusedVariables false
set_option linter.unusedSimpArgs false

/-- A walk: S has been found, O been told; R is what is told in the end. -/
inductive Wk {α : Type} (ah : α → α → Bool) (pr : α → List α) : List α → List α → List α → Prop
  | done {S O : List α} : (∀ x ∈ S, x ∈ O) → Wk ah pr S O O
  | more {S S' O R : List α} {x : α} : x ∈ S → x ∉ O → (∀ y ∈ S, y ∉ O → y ≠ x → ah x y = true) → (∀ y, y ∈ S' ↔ y ∈ S ∨ y ∈ pr x) → Wk ah pr S' (O ++ [x]) R → Wk ah pr S O R
theorem Wk.congr {α : Type} {ah : α → α → Bool} {pr : α → List α} {S S2 O R : List α} (h : Wk ah pr S O R) (he : ∀ x, x ∈ S ↔ x ∈ S2) : Wk ah pr S2 O R := by
  cases h with
  | done h1 => exact .done fun x hx => h1 x ((he x).2 hx)
  | more h1 h2 h3 h4 h5 => exact .more ((he _).1 h1) h2 (fun y hy => h3 y ((he y).2 hy)) (fun y => by rw [h4 y, he y]) h5
theorem Wk.same {α : Type} {ah : α → α → Bool} {pr : α → List α} (hsy : ∀ a b, ah a b = true → ah b a = false) {S O R : List α} (h : Wk ah pr S O R) : ∀ {R2 : List α}, Wk ah pr S O R2 → R = R2 := by
  induction h with
  | done h1 =>
    intro R2 h2
    cases h2 with
    | done _ => rfl
    | more k1 k2 _ _ _ => exact absurd (h1 _ k1) k2
  | more h1 h2 h3 h4 h5 ih =>
    rename_i S S' O R x
    intro R2 k
    cases k with
    | done k1 => exact absurd (k1 _ h1) h2
    | more k1 k2 k3 k4 k5 =>
      rename_i T y
      have e : y = x := by
        by_cases e : y = x
        · exact e
        · have a := h3 y k1 k2 e
          have b := k3 x h1 h2 (fun e2 => e e2.symm)
          rw [hsy _ _ a] at b; cases b
      subst e
      exact ih (k5.congr fun z => by rw [k4 z, h4 z])
/-- What a walk keeps. -/
theorem Wk.keeps {α : Type} {ah : α → α → Bool} {pr : α → List α} {S O R : List α} (h : Wk ah pr S O R) (hO : O.Nodup) (hs : ∀ x ∈ O, x ∈ S) : R.Nodup ∧ (∃ R', R = O ++ R') ∧ (∀ x ∈ S, x ∈ R) ∧ ∀ (i : Nat) (x : α), O.length ≤ i → R[i]? = some x → x ∈ S ∨ ∃ k y, k < i ∧ R[k]? = some y ∧ x ∈ pr y := by
  induction h with
  | done h1 => exact ⟨hO, ⟨[], by simp⟩, h1, fun i x hi hx => by rw [List.getElem?_eq_none hi] at hx; cases hx⟩
  | more h1 h2 h3 h4 h5 ih =>
    rename_i S S' O R x
    have hn : (O ++ [x]).Nodup := by
      rw [List.nodup_append]
      exact ⟨hO, by simp, fun a ha b hb => by rw [List.mem_singleton.1 hb]; exact fun e => h2 (e ▸ ha)⟩
    obtain ⟨i1, ⟨R', i2⟩, i3, i4⟩ := ih hn (fun y hy => by
      rw [h4 y]
      rcases List.mem_append.1 hy with k | k
      · exact .inl (hs y k)
      · rw [List.mem_singleton.1 k]; exact .inl h1)
    refine ⟨i1, ⟨x :: R', by rw [i2]; simp⟩, fun y hy => i3 y ((h4 y).2 (.inl hy)), fun i y hi hy => ?_⟩
    by_cases e : i = O.length
    · have : R[O.length]? = some x := by rw [i2, List.append_assoc, List.getElem?_append_right (Nat.le_refl _)]; simp
      rw [e, this] at hy
      injection hy with hy
      exact .inl (hy ▸ h1)
    · rcases i4 i y (by simp; omega) hy with k | k
      · rcases (h4 y).1 k with k | k
        · exact .inl k
        · exact .inr ⟨O.length, x, by omega, by rw [i2, List.append_assoc, List.getElem?_append_right (Nat.le_refl _)]; simp, k⟩
      · exact .inr k
theorem Wk.least {α : Type} {ah : α → α → Bool} {pr : α → List α} {P : α → Prop} (hp : ∀ x y, P x → y ∈ pr x → P y) {S O R : List α} (h : Wk ah pr S O R) (hS : ∀ x ∈ S, P x) (hO : ∀ x ∈ O, P x) : ∀ x ∈ R, P x := by
  induction h with
  | done h1 => exact hO
  | more h1 h2 h3 h4 h5 ih =>
    refine ih (fun y hy => ?_) (fun y hy => ?_)
    · rcases (h4 y).1 hy with k | k
      · exact hS y k
      · exact hp _ y (hS _ h1) k
    · rcases List.mem_append.1 hy with k | k
      · exact hO y k
      · rw [List.mem_singleton.1 k]; exact hS _ h1
end Go.Proofs.Ytkcjhkfelaplkaa
end
