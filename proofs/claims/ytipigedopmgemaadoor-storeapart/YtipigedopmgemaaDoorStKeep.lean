/-
  WALKS OF LAYER 11: keep: an item is inserted at its place; what is under an id already remains.
-/
import Derived.Test.YtipigedopmgemaaDoorStPlace2
import Derived.Test.YtipigedopmgemaaDoorLc
namespace Go.Proofs.YtipigedopmgemaaDoor
open Go.RowKit
set_option linter.unusedVariables false
set_option linter.unusedSimpArgs false

theorem built_it (l : List UInt8) (t : ByteArray) (h : l.length = 32) : Tryd.prog.built 70 [(0, .agg (idC l).toArray), (1, .string t)] = some (itC ⟨l, t⟩).toArray := by
  obtain ⟨x0, x1, x2, x3, x4, x5, x6, x7, x8, x9, x10, x11, x12, x13, x14, x15, x16, x17, x18, x19, x20, x21, x22, x23, x24, x25, x26, x27, x28, x29, x30, x31, rfl⟩ := len32 h
  kernel_rfl
theorem builtS_it (r : St.It) (h : r.id.length = 32) : Tryd.prog.builtSlice 70 1 [(0, .agg (itC r).toArray)] = some (itC r).toArray := by
  obtain ⟨l, t⟩ := r
  obtain ⟨x0, x1, x2, x3, x4, x5, x6, x7, x8, x9, x10, x11, x12, x13, x14, x15, x16, x17, x18, x19, x20, x21, x22, x23, x24, x25, x26, x27, x28, x29, x30, x31, rfl⟩ := len32 h
  kernel_rfl
theorem bs_it {ops : Array Oper} {rest : List Oper} {op : Oper} {a : Act} {w : World} {Q : Exit → Act → World → Prop} {x : Operand} {r : St.It} (ho : op.op = .buildSlice 63 1 #[(0, x)]) (hx : a.eval x = .agg (itC r).toArray) (hg : op.guard = none) (hl : r.id.length = 32)
    (h : wpList Tryd.prog ops Q rest (a.put op.dst (.slice (some ⟨w.heap.size, 0, none⟩) 1 1)) (w.alloc (.cells (itC r).toArray 70))) : wpList Tryd.prog ops Q (op :: rest) a w :=
  Great.wpList_buildSliceTo hg _ 70 1 _ ho w.heap.size rfl op.dst rfl Tryd.underlying63 _ (by simp only [List.map_toArray, List.map_cons, List.map_nil, hx]; exact builtS_it r hl) h

theorem wp_bs_it {o : Oper} {a : Act} {w : World} {K : Act → World → Prop} {Q : Exit → Act → World → Prop} {r : St.It} (x : Operand) (ho : o.op = .buildSlice 63 1 #[(0, x)]) (hx : a.eval x = .agg (itC r).toArray) (hl : r.id.length = 32)
    (h : K (a.put o.dst (.slice (some ⟨w.heap.size, 0, none⟩) 1 1)) (w.alloc (.cells (itC r).toArray 70))) : o.wp Tryd.prog a w K Q := by
  have hf := builtS_it r hl
  unfold Program.builtSlice at hf
  cases hie : Tryd.prog.info? 70 with
  | none => simp [hie] at hf
  | some ie =>
    simp only [hie] at hf
    cases hz : ie.zero with
    | none => simp [hz] at hf
    | some z =>
      simp only [hz] at hf
      by_cases hc : 1 * ie.size > 2 ^ 24 ∨ 1 * ie.size = 0
      · rw [if_pos hc] at hf; cases hf
      · rw [if_neg hc] at hf
        exact wp_buildSlice 63 70 1 #[(0, x)] ho (itC r).toArray ie z Tryd.underlying63 hie hz (fun h' => hc (Or.inl h')) (fun h' => hc (Or.inr h')) (by simp only [List.map_toArray, List.map_cons, List.map_nil, hx]; exact hf) h

/-- What a call that works on one store leaves as it was: all but its block and its row. -/
structure Kept (w w' : World) (b : Nat) (v : Value) : Prop where
  os : w'.os = w.os
  tape : w'.tape = w.tape
  output : w'.output = w.output
  size : w.heap.size ≤ w'.heap.size
  block : ∀ k, k < w.heap.size → k ≠ b → some k ≠ v.ownBlock → w'.heap[k]? = w.heap[k]?
theorem Kept.of_below {w w' : World} (h : Below w.heap.size w w') (b : Nat) (v : Value) : Kept w w' b v := ⟨h.os, h.tape, h.output, h.size, fun k hk _ _ => h.block k hk⟩
theorem Kept.after {w w1 w' : World} {b : Nat} {v : Value} (h : Below w.heap.size w w1) (k : Kept w1 w' b v) : Kept w w' b v :=
  ⟨k.os.trans h.os, k.tape.trans h.tape, k.output.trans h.output, Nat.le_trans h.size k.size, fun i hi h1 h2 => (k.block i (Nat.lt_of_lt_of_le hi h.size) h1 h2).trans (h.block i hi)⟩
theorem Kept.below {w w' : World} {base b : Nat} {v : Value} {L : List St.It} (k : Kept w w' b v) (h : PSt w base b v L) : Below base w w' := by
  refine ⟨k.os, k.tape, k.output, k.size, fun i hi => ?_⟩
  have hb := h.ge
  have hlt := h.lt
  refine k.block i (by omega) (by omega) (fun e => ?_)
  have := (h.own.lt i e.symm).1
  omega
theorem own_kept {w w' : World} {B e k n : Nat} {v : Value} {xs : List Value} (h : w.ownsRow B e k v n xs) (hk : ∀ g, v.ownBlock = some g → w'.heap[g]? = w.heap[g]?) : w'.ownsRow B e k v n xs := by
  refine ⟨h.1, h.2.imp id ?_⟩
  rintro ⟨g, cap, cur, hv, hg, hh, hrest⟩
  exact ⟨g, cap, cur, hv, hg, (hk g (by rw [hv]; rfl)).trans hh, hrest⟩
theorem own_box {w : World} {base e k n b t : Nat} {v : Value} {xs : List Value} {cs : Array Value} (h : w.ownsRow base e k v n xs) (hb : w.heap[b]? = some (.cells cs t)) (ht : t ≠ e) : some b ≠ v.ownBlock := by
  rcases h.2 with ⟨rfl, _⟩ | ⟨g, cap, cur, rfl, _, hh, _⟩
  · simp [Value.ownBlock]
  · intro e1
    simp only [Value.ownBlock, Option.some.injEq] at e1
    subst e1
    rw [hh] at hb
    simp at hb
    exact ht hb.2.symm
theorem own_shape {w : World} {base e k n : Nat} {v : Value} {xs : List Value} (h : w.ownsRow base e k v n xs) : ∃ ao cap, v = .slice ao n cap := by
  rcases h.2 with ⟨rfl, rfl⟩ | ⟨g, cap, cur, rfl, _⟩
  · exact ⟨none, 0, rfl⟩
  · exact ⟨_, cap, rfl⟩
/-- What keep leaves. -/
def KeepP (w : World) (base b : Nat) (v : Value) (L : List St.It) (x : St.It) (r : Ending) (w' : World) : Prop :=
  r = .returned (.tuple #[]) ∧ ∃ v', PSt w' base b v' (St.put L x) ∧ Kept w w' b v ∧ (v'.ownBlock = v.ownBlock ∨ ∃ g, v'.ownBlock = some g ∧ w.heap.size ≤ g)
/-- The box of the item. -/
structure BxI (W : World) (g : Nat) (x : St.It) : Prop where
  out : W.heap[g]? = some (.cells (itC x).toArray 70)
theorem BxI.rng {W : World} {g : Nat} {x : St.It} (h : BxI W g x) : W.rangeAt g 0 (itC x) := fun j u hu => by
  rw [cell_of_row _ _ _ _ _ _ h.out]; simpa using hu
theorem BxI.below {W W' : World} {g : Nat} {x : St.It} (h : BxI W g x) (hb : Below W.heap.size W W') : BxI W' g x := ⟨(hb.block g (Array.getElem?_eq_some_iff.1 h.out).1).trans h.out⟩

set_option maxHeartbeats 1000000 in
set_option maxRecDepth 100000 in
theorem keep_there (w : World) (base b : Nat) (v : Value) (L : List St.It) (x : St.It) (h : PSt w base b v L) (hil : x.id.length = 32) (hh : St.has L x.id = true) :
    Calls Tryd.prog 23 #[.pointer (some ⟨b, 0, none⟩), .agg (itC x).toArray] w (KeepP w base b v L x) := by
  have HQ := Lib.hid (show ∀ w', Below w.heap.size w w' → KeepP w base b v L x (.returned (.tuple #[])) w' from fun w' hb => ⟨rfl, v, by rw [St.put_has hh]; exact h.below hb, Kept.of_below hb b v, .inl rfl⟩)
  have HB := Lib.hid (below_new w (.cells (itC x).toArray 70))
  have HI := Lib.hid (it_id (row_news (heap_alloc_new w (.cells (itC x).toArray 70))))
  have HL := Lib.hid hil
  have HP := Lib.hid (place_any (w.alloc (.cells (itC x).toArray 70)) base b v L x.id (h.below HB.out) hil)
  rw [hh] at HP
  clear h hh hil
  generalize (itC x).toArray = da at *
  go_enter Tryd.func23, Tryd.ntmps23
  go_wp2_with ((with_reducible apply ld_id (hc := HI.out) (hl := HL.out)); rfl; rfl; rfl)
  refine HP.out.mono ?_
  rintro r w1 ⟨rfl, hb1⟩
  go_wp2_with fail
  refine bodyPost_end (results_none rfl _ _ _) rfl ?_
  exact HQ.out _ (HB.out.trans (hb1.mono (by simp)))

end Go.Proofs.YtipigedopmgemaaDoor
