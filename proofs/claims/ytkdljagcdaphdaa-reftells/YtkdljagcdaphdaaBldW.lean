/-
  WALKS OF LAYER 9: strings.Builder's writer at this program (its copyCheck is laid otherwise here than on the shelf).
-/
import Derived.Test.YtkdljagcdaphdaaTxMath
import Derived.Test.YtkdljagcdaphdaaSet
import Derived.Test.YtkdljagcdaphdaaShelf
import Derived.Shelf.Strings.BuilderK
namespace Go.Proofs.Ytkdljagcdaphdaa
open Go.RowKit
set_option linter.unusedVariables false
set_option linter.unusedSimpArgs false

theorem bSize : (Try.prog.info? 58).map (·.size) = some 2 := by kernel_rfl
theorem bLies : liesAt Try.prog Try.prog.depth 58 (2 / Try.prog.cellsOf 58) 0 58 1 = true := by kernel_rfl

set_option maxHeartbeats 1000000 in
set_option maxRecDepth 100000 in
theorem bcheck_used (b : Nat) (w : World) (h0 : w.cell? ⟨b, 0, none⟩ = some (.pointer (some ⟨b, 0, none⟩))) :
    Calls Try.prog 40 #[.pointer (some ⟨b, 0, none⟩)] w fun e w' => e = .returned (.tuple #[]) ∧ w' = w := by
  obtain ⟨j, hj, _⟩ := Option.map_eq_some_iff.1 bSize
  go_enter Try.func40, Try.ntmps40
  go_wp2
  rw [Lib.run_neq_ptr_same w _ Try.underlying55 hj]
  go_wp2
  go_end0
  exact ⟨rfl, rfl⟩

set_option maxHeartbeats 1000000 in
set_option maxRecDepth 100000 in
theorem bcheck_fresh (b : Nat) (w : World) (h0 : w.cell? ⟨b, 0, none⟩ = some (.pointer none)) (hsh : w.shape? b = some (58, 2)) (hfz : w.frozen? ⟨b, 0, none⟩ = false) :
    Calls Try.prog 40 #[.pointer (some ⟨b, 0, none⟩)] w fun e w' => e = .returned (.tuple #[]) ∧ w' = w.setCell ⟨b, 0, none⟩ (.pointer (some ⟨b, 0, none⟩)) := by
  obtain ⟨j, hj, hjs⟩ := Option.map_eq_some_iff.1 bSize
  go_enter Try.func40, Try.ntmps40
  go_wp2
  rw [Lib.run_to_unsafe w ⟨b, 0, none⟩ Try.underlying55 Try.underlying90 hj (by rw [hjs]; decide) hsh (Nat.zero_lt_succ 1)]
  simp only [Result.andThen]
  rw [Oper.upon_value]
  go_wp2
  rw [run_callFunc_extern Try.func46 (by kernel_rfl) (by kernel_rfl) (by kernel_rfl) (e := Extern.AbiNoEscape.same) (by kernel_rfl)]
  rw [Lib.run_noEscape]
  simp only [Result.andThen]
  rw [Oper.upon_value]
  go_wp2
  rw [Lib.run_from_unsafe w ⟨b, 0, none⟩ Try.underlying90 Try.underlying55 hj hsh bLies]
  simp only [Result.andThen]
  rw [Oper.upon_value]
  go_wp2
  go_end0
  exact ⟨rfl, rfl⟩

theorem bcheck (B b : Nat) (bs : List Value) (w : World) (h : Lib.IsBuilderF 58 5 B b bs w) :
    Calls Try.prog 40 #[.pointer (some ⟨b, 0, none⟩)] w fun e w' => e = .returned (.tuple #[]) ∧ (Lib.BuilderAtF 58 5 B b (.pointer (some ⟨b, 0, none⟩)) bs w' ∧ Below B w w' ∧ Lib.OthersKept 5 (some b) w w') := by
  rcases h with h | h
  · refine (bcheck_fresh b w h.cell0 h.shape h.frozen0).mono ?_
    rintro e w' ⟨rfl, rfl⟩
    exact ⟨rfl, h.used _, (Below.refl B w).setCell (p := ⟨b, 0, none⟩) h.1 _, (Lib.OthersKept.refl _ _ w).setCell ⟨b, 0, none⟩ rfl _⟩
  · refine (bcheck_used b w h.cell0).mono ?_
    rintro e w' ⟨rfl, rfl⟩
    exact ⟨rfl, h, Below.refl B _, Lib.OthersKept.refl _ _ _⟩

set_option maxHeartbeats 2000000 in
set_option maxRecDepth 100000 in
theorem bwrite (B b : Nat) (bs : List Value) (s : ByteArray) (w : World) (h : Lib.IsBuilderF 58 5 B b bs w) (hlen : bs.length + s.size ≤ 140737488355328) (hBw : B ≤ w.heap.size) :
    Calls Try.prog 23 #[.pointer (some ⟨b, 0, none⟩), .string s] w fun e w' => e = .returned (.tuple #[.int .i64 s.size, .nilIface]) ∧ (Lib.BuilderAtF 58 5 B b (.pointer (some ⟨b, 0, none⟩)) (bs ++ Lib.strCells s) w' ∧ Below B w w' ∧ Lib.OthersKept 5 (some b) w w') := by
  obtain ⟨i0, hi, hz0, hz1, hz2⟩ := info_parts Try.infoByte
  go_enter Try.func23, Try.ntmps23
  go_wp2_with fail
  refine (bcheck B b bs _ h).mono ?_
  rintro e w1 ⟨rfl, h1, hb1, hk1⟩
  obtain ⟨hB, v, hbk, hown, hne⟩ := h1
  have c0 : w1.cell? ⟨b, 0, none⟩ = some (.pointer (some ⟨b, 0, none⟩)) := by rw [Lib.cell_of_heap hbk]; rfl
  have c1 : w1.cell? ⟨b, 1, none⟩ = some v := by rw [Lib.cell_of_heap hbk]; rfl
  have HK := Lib.hid hbk
  clear hbk
  go_wp2_with (at_builtin; refine Lib.wpList_append_own_stringF _ rfl _ _ 56 9 rfl B 5 i0 Try.underlying56 Try.underlying9 hi hz0 hz1 hz2 _ _ _ rfl hown s rfl ?c3 ?c4 ?c5 ?_)
  case c3 => unfold maxLen; omega
  case c4 => omega
  case c5 => have := hb1.size; omega
  intro v' w2 hown' hgrow _
  have hbk := HK.out
  have hlt : b < w1.heap.size := by
    rcases Nat.lt_or_ge b w1.heap.size with h' | h'
    · exact h'
    · simp [Array.getElem?_eq_none h'] at hbk
  have hb2 : w2.heap[b]? = some (.cells #[.pointer (some ⟨b, 0, none⟩), v] 58 (0, 0)) := by
    rw [hgrow.block b hlt (fun e => hne e.symm)]
    exact hbk
  have d0 : w2.cell? ⟨b, 0, none⟩ = some (.pointer (some ⟨b, 0, none⟩)) := by rw [Lib.cell_of_heap hb2]; rfl
  have d1 : w2.cell? ⟨b, 1, none⟩ = some v := by rw [Lib.cell_of_heap hb2]; rfl
  have f1 : w2.frozen? ⟨b, 1, none⟩ = false := Lib.frozen_of_heap hb2 1
  have H2 := Lib.hid hb2
  clear hb2 hbk
  obtain ⟨ao, n', cap, rfl⟩ : ∃ ao n' cap, v' = .slice ao n' cap := by
    rcases hown'.2 with ⟨hv, _⟩ | ⟨g, cap, cur, fz, hv, _⟩
    · exact ⟨_, _, _, hv⟩
    · exact ⟨_, _, _, hv⟩
  go_wp2
  go_ret2
  refine ⟨rfl, ?_, ?_, (hk1.grown hgrow (Lib.ownsRowF_kind hown)).setCell ⟨b, 1, none⟩ rfl _⟩
  · exact Lib.BuilderAtF.put (T := 58) (e := 5) hB H2.out (bs' := bs ++ Lib.strCells s) (by simpa [Lib.strCells_length] using hown') (by decide)
  · exact (hb1.grown hgrow (by have := hb1.size; omega) (fun k hk => (hown.lt k hk).1)).setCell (p := ⟨b, 1, none⟩) hB _

/-! ### A builder of the call's own -/
theorem grown_of_below {W W' : World} (hb : Below W.heap.size W W') : W.grownBy W' none := ⟨hb.os, hb.tape, hb.output, hb.size, fun i hi _ => hb.block i hi⟩
theorem bAt_below {B b : Nat} {p : Value} {bs : List Value} {W W' : World} (h : Lib.BuilderAtF 58 5 B b p bs W) (hb : Below W.heap.size W W') : Lib.BuilderAtF 58 5 B b p bs W' := by
  have hlt := h.lt
  obtain ⟨hB, v, hbk, hown, hne⟩ := h
  exact ⟨hB, v, (hb.block b hlt).trans hbk, hown.kept (grown_of_below hb) (by cases hv : v.ownBlock <;> simp), hne⟩
/-- A builder in block B, made by a call that began in w, holding acc. -/
structure Bd (w : World) (B : Nat) (acc : List UInt8) (W : World) : Prop where
  b : Lib.IsBuilderF 58 5 B B (Lib.byteCells acc) W
  below : Below w.heap.size w W
  le : w.heap.size ≤ B
theorem Bd.lt {w W : World} {B : Nat} {acc : List UInt8} (h : Bd w B acc W) : B < W.heap.size := h.b.elim (fun x => x.lt) (fun x => x.lt)
theorem Bd.step {w W W' : World} {B : Nat} {acc : List UInt8} (h : Bd w B acc W) (hb : Below W.heap.size W W') : Bd w B acc W' :=
  ⟨h.b.elim (fun x => .inl (bAt_below x hb)) (fun x => .inr (bAt_below x hb)), h.below.trans (hb.mono h.below.size), h.le⟩
theorem Bd.alloc {w W : World} {B : Nat} {acc : List UInt8} (h : Bd w B acc W) (o : Obj) : Bd w B acc (W.alloc o) := h.step ((Below.refl _ _).alloc (Nat.le_refl _) _)
theorem Bd.fresh (w W : World) (h : Below w.heap.size w W) : Bd w W.heap.size [] (W.alloc (.cells #[.pointer none, .slice none 0 0] 58)) :=
  ⟨.of (Lib.fresh_isBuilder _ _ W), h.alloc h.size _, h.size⟩
theorem strCells_eq (s : ByteArray) : Lib.strCells s = Lib.byteCells s.data.toList := by
  simp [Lib.strCells, Lib.byteCells]
theorem bd_write {w W : World} {B : Nat} {acc : List UInt8} (h : Bd w B acc W) (s : ByteArray) (hl : acc.length + s.size ≤ 140737488355328) :
    Calls Try.prog 23 #[.pointer (some ⟨B, 0, none⟩), .string s] W fun r w' => r = .returned (.tuple #[.int .i64 s.size, .nilIface]) ∧ Bd w B (acc ++ s.data.toList) w' ∧ Lib.OthersKept 5 (some B) W w' := by
  refine (bwrite B B (Lib.byteCells acc) s W h.b (by simp [Lib.byteCells]; omega) (by have := h.lt; omega)).mono ?_
  rintro r w' ⟨h1, h2, h3, h4⟩
  refine ⟨h1, ⟨.inr ?_, h.below.trans (h3.mono h.le), h.le⟩, h4⟩
  rw [strCells_eq] at h2
  simpa [Lib.byteCells] using h2
theorem bd_string {w W : World} {B : Nat} {acc : List UInt8} (h : Bd w B acc W) :
    Calls Try.prog 25 #[.pointer (some ⟨B, 0, none⟩)] W fun r w' => r = .returned (.string ⟨acc.toArray⟩) ∧ Below w.heap.size w w' := by
  refine (Try.Builder_String_any_k B B acc W h.b (by have := h.lt; omega)).mono ?_
  rintro r w' ⟨h1, _, h3, _⟩
  exact ⟨h1, h.below.trans (h3.mono h.le)⟩
theorem kept_block {W W' : World} {B g : Nat} {cs : Array Value} {t : TypeId} (h : Lib.OthersKept 5 (some B) W W') (hg : W.heap[g]? = some (.cells cs t)) (hne : g ≠ B) (ht : t ≠ 5) : W'.heap[g]? = some (.cells cs t) :=
  h g _ hg (by simpa using hne) (fun c fz he => by simp only [Obj.cells.injEq] at he; exact ht he.2.1)
theorem below_block {W W' : World} {g : Nat} {x : Obj} (h : Below W.heap.size W W') (hg : W.heap[g]? = some x) : W'.heap[g]? = some x := (h.block _ (Array.getElem?_eq_some_iff.1 hg).1).trans hg

end Go.Proofs.Ytkdljagcdaphdaa
