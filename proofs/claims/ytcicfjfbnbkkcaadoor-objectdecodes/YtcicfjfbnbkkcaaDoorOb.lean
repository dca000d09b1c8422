/-
  LAYER 4: what an object is, as the program's memory holds it: its 72 cells, and the rows behind its two slices.
-/
import Derived.Test.YtcicfjfbnbkkcaaDoorBld
import Derived.Deep.MidRow
import Derived.Deep.WholeRow
import Derived.Deep.Cut
import Derived.StillTailTactics
import Derived.IntWalk
import Derived.Laws.StructEq
import Derived.ChangeKeysEq
namespace Go.Proofs.YtcicfjfbnbkkcaaDoor
open Go.RowKit
set_option linter.unusedVariables false
set_option linter.unusedSimpArgs false

def bv (x : UInt8) : Value := .int .u8 (x.toNat : Int)
def idC (l : List UInt8) : List Value := l.map bv
/-- An entry of a tree. -/
structure En where
  name : ByteArray
  kind : Int
  id : List UInt8
/-- An object. -/
structure Ob where
  kind : Int
  data : ByteArray
  ents : List En
  tree : List UInt8
  pars : List (List UInt8)
  time : Nat
  text : ByteArray
  target : List UInt8
  of : Int
  name : ByteArray
def enC (e : En) : List Value := .string e.name :: .int .i64 e.kind :: idC e.id
theorem idC_length (l : List UInt8) : (idC l).length = l.length := by simp [idC]
theorem enC_length (e : En) : (enC e).length = e.id.length + 2 := by simp [enC, idC]
theorem idC_one (l : List UInt8) : ∀ v ∈ idC l, v.oneCell' = true := by
  intro v hv; simp only [idC, List.mem_map] at hv; obtain ⟨x, _, rfl⟩ := hv; rfl
theorem bv_inj {x y : UInt8} (h : bv x = bv y) : x = y := by
  simp only [bv, Value.int.injEq, true_and] at h
  exact UInt8.toNat_inj.1 (by omega)
theorem idC_inj : ∀ {a b : List UInt8}, idC a = idC b → a = b
  | [], [], _ => rfl
  | [], _ :: _, h => by simp [idC] at h
  | _ :: _, [], h => by simp [idC] at h
  | x :: a, y :: b, h => by
    simp only [idC, List.map_cons, List.cons.injEq] at h
    rw [bv_inj h.1, idC_inj (a := a) (b := b) h.2]

/-- The 72 cells of an object; its two slices are ev and pv. -/
structure ObF (cs : Array Value) (o : Ob) (ev pv : Value) : Prop where
  c0 : cs[0]? = some (.int .i64 o.kind)
  c1 : cs[1]? = some (.string o.data)
  c2 : cs[2]? = some ev
  tr : ∀ j v, (idC o.tree)[j]? = some v → cs[3 + j]? = some v
  c35 : cs[35]? = some pv
  c36 : cs[36]? = some (.int .u32 (o.time : Int))
  c37 : cs[37]? = some (.string o.text)
  ta : ∀ j v, (idC o.target)[j]? = some v → cs[38 + j]? = some v
  c70 : cs[70]? = some (.int .i64 o.of)
  c71 : cs[71]? = some (.string o.name)
  trl : o.tree.length = 32
  tal : o.target.length = 32
  size : cs.size = 72
  one : cs.all (·.oneCell') = true

/-- A slice whose elements, of k cells each, lie in memory. -/
structure RowsAt (w : World) (v : Value) (k : Nat) (L : List (List Value)) : Prop where
  out : (v = .slice none 0 0 ∧ L = []) ∨ ∃ a cap, v = .slice (some a) L.length cap ∧ ∀ i cs, L[i]? = some cs → cs.length = k ∧ ∀ j x, cs[j]? = some x → w.cell? ((a.add (i * k)).add j) = some x

theorem RowsAt.form {w : World} {v : Value} {k : Nat} {L : List (List Value)} (h : RowsAt w v k L) : ∃ ao cap, v = .slice ao L.length cap := by
  rcases h.out with ⟨rfl, rfl⟩ | ⟨a, cap, rfl, _⟩
  · exact ⟨none, 0, rfl⟩
  · exact ⟨some a, cap, rfl⟩
theorem RowsAt.elem {w : World} {k cap : Nat} {ao : Option Addr} {n : Nat} {L : List (List Value)} (h : RowsAt w (.slice ao n cap) k L) (i : Nat) (cs : List Value) (hi : L[i]? = some cs) :
    ∃ a, ao = some a ∧ cs.length = k ∧ ∀ j x, cs[j]? = some x → w.cell? ((a.add (i * k)).add j) = some x := by
  rcases h.out with ⟨_, rfl⟩ | ⟨a, cap', hv, hc⟩
  · simp at hi
  · simp only [Value.slice.injEq] at hv
    exact ⟨a, hv.1, hc i cs hi⟩
theorem add_block (a : Addr) (n : Nat) : (a.add n).block = a.block := by unfold Addr.add; split <;> rfl
theorem RowsAt.below {w w' : World} {v : Value} {k : Nat} {L : List (List Value)} (h : RowsAt w v k L) (hb : Below w.heap.size w w') : RowsAt w' v k L := by
  refine ⟨?_⟩
  rcases h.out with h0 | ⟨a, cap, hv, hc⟩
  · exact .inl h0
  · refine .inr ⟨a, cap, hv, fun i cs hi => ⟨(hc i cs hi).1, fun j x hx => ?_⟩⟩
    have h1 := (hc i cs hi).2 j x hx
    rw [hb.cell (World.block_lt_of_cell? w _ h1)]
    exact h1
theorem RowsAt.nil (w : World) (k : Nat) : RowsAt w (.slice none 0 0) k [] := ⟨.inl ⟨rfl, rfl⟩⟩

theorem info28 : (Tryd.prog.info? 29).map (·.size) = some 72 := by kernel_rfl
theorem info24 : (Tryd.prog.info? 25).map (·.size) = some 32 := by kernel_rfl
theorem info45 : (Tryd.prog.info? 52).map (·.size) = some 34 := by kernel_rfl
def zId : List UInt8 := List.replicate 32 0
theorem zero24 : (Tryd.prog.info? 25).map (fun i => (i.zero, i.size)) = some (some (.agg (idC zId).toArray), 32) := by kernel_rfl

end Go.Proofs.YtcicfjfbnbkkcaaDoor
