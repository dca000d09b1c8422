/-
  SLICES OF REFS AND OF UPDATES, OPENED: what an argument holds.
-/
import Derived.Test.YtkdljagcdaphdaaWalksB
import Derived.ProofKit
import Derived.OpenShut
import Derived.SizedLaws
import Derived.Deep.Slices
import Derived.ChangeSame
import Derived.Carry
namespace Go.Proofs.Ytkdljagcdaphdaa
open Go.ChangeShapes Go.WideShapes Go.ChangeAt Go.RowKit Go.Deep
open Go.ChangeMaps (open_string shut_string)
set_option linter.unusedVariables false
set_option linter.unusedSimpArgs false

theorem Try.own : ownKnob Try.prog.godebug = none := by kernel_rfl
theorem kS : Try.prog.cellsOf 9 = 1 := by kernel_rfl
theorem kB : Try.prog.cellsOf 5 = 1 := by kernel_rfl
theorem kI : Try.prog.cellsOf 35 = 32 := by kernel_rfl
theorem kR : Try.prog.cellsOf 54 = 33 := by kernel_rfl
theorem kU : Try.prog.cellsOf 51 = 65 := by kernel_rfl

def byteOf : Value → UInt8
  | .int _ n => UInt8.ofNat n.toNat
  | _ => 0
theorem bv_byteOf {z : Int} (h : (Lit.int .u8 z).wf = true) : bv (byteOf (.int .u8 z)) = .int .u8 z := by
  simp [Lit.wf, IntKind.min, IntKind.max, IntKind.signed, IntKind.bits] at h
  have : z.toNat % 256 = z.toNat := by omega
  simp [bv, byteOf, UInt8.toNat_ofNat', this]
  omega
theorem one_at {cs : List Value} {k : Nat} {v : Value} (h : (cs.drop k).take 1 = [v]) : cs[k]? = some v := by
  have := congrArg (·[0]?) h
  simpa [List.getElem?_take, List.getElem?_drop] using this
theorem many_at {cs l : List Value} {k n : Nat} (h : (cs.drop k).take n = l) (hl : l.length = n) : ∀ j v, l[j]? = some v → cs[k + j]? = some v := fun j v hv => by
  have hj := (List.getElem?_eq_some_iff.1 hv).1
  rw [← h, List.getElem?_take, if_pos (by omega), List.getElem?_drop] at hv
  exact hv
theorem list_of {α : Type} {P : Nat → α → Prop} : ∀ n : Nat, (∀ i, i < n → ∃ e, P i e) → ∃ l : List α, l.length = n ∧ ∀ i e, l[i]? = some e → P i e
  | 0, _ => ⟨[], rfl, fun i e h => by simp at h⟩
  | n + 1, h => by
    obtain ⟨l, hl, hp⟩ := list_of n (fun i hi => h i (by omega))
    obtain ⟨e, he⟩ := h n (by omega)
    refine ⟨l ++ [e], by simp [hl], fun i x hx => ?_⟩
    by_cases hi : i < n
    · rw [List.getElem?_append_left (by omega)] at hx
      exact hp i x hx
    · have hin : i < n + 1 := by
        have := (List.getElem?_eq_some_iff.1 hx).1
        simp [hl] at this; omega
      have : i = n := by omega
      subst this
      rw [List.getElem?_append_right (by omega), hl] at hx
      simp at hx; subst hx; exact he

section
variable {H : Type} {enc : TypeId × Value → H} {w : World} {base : Nat} {spare : Nat → Bool} {held : Bool} {fuel : Nat} {cs : List Value} {x : DataW H × List MemPlace}
theorem open_idl (h : DataW.trod enc Try.prog w base spare held fuel 35 cs = some x) : ∃ l : List UInt8, cs = idC l ∧ l.length = 32 := by
  obtain ⟨ys, m, _, ex, hlen, hl, hel⟩ := DataW.trod_array Try.underlying35 h
  rw [kB] at hel
  rw [kI] at hlen
  have key : ∀ (i : Nat) (hi : i < 32), ∃ z, cs[i]? = some (.int .u8 z) ∧ (Lit.int .u8 z).wf = true := by
    intro i hi
    have k := hel i hi
    rw [List.getElem?_eq_getElem (by omega)] at k
    obtain ⟨z, e1, e2, e3⟩ := DataW.trod_int Try.underlying5 k
    exact ⟨z, by simpa using one_at e1, e3⟩
  refine ⟨cs.map byteOf, ?_, by simpa using hlen⟩
  apply List.ext_getElem?
  intro i
  by_cases hi : i < 32
  · obtain ⟨z, e1, e3⟩ := key i hi
    simp only [idC, List.map_map, List.getElem?_map, e1, Option.map_some, Function.comp_apply, bv_byteOf e3]
  · rw [List.getElem?_eq_none (by omega), List.getElem?_eq_none (by simp [idC]; omega)]
theorem open_rf (h : DataW.trod enc Try.prog w base spare held fuel 54 cs = some x) : ∃ e : Rf.R, cs = rfC e ∧ e.id.length = 32 ∧ e.name.size ≤ maxLen := by
  obtain ⟨xs, n, _, _, hlen, hl, hg⟩ := DataW.trod_struct Try.underlying54 h
  have hl3 : xs.length = 2 := hl
  rw [kR] at hlen
  have g0 : DataW.trod enc Try.prog w base spare held n 9 ((cs.drop 0).take (Try.prog.cellsOf 9)) = xs[0]? := hg 0 _ rfl
  have g2 : DataW.trod enc Try.prog w base spare held n 35 ((cs.drop 1).take (Try.prog.cellsOf 35)) = xs[1]? := hg 1 _ rfl
  rw [kS, List.getElem?_eq_getElem (by omega)] at g0
  rw [kI, List.getElem?_eq_getElem (by omega)] at g2
  obtain ⟨s, e0, _, hs⟩ := DataW.trod_string Try.underlying9 g0
  obtain ⟨l, e2, h32⟩ := open_idl g2
  match cs, hlen, e0, e2 with
  | c0 :: r, hlen, e0, e2 =>
    simp at e0
    have hr : r.length = 32 := by simpa using hlen
    have e2' : r.take 32 = idC l := by simpa using e2
    rw [List.take_of_length_le (by omega)] at e2'
    exact ⟨⟨s, l⟩, by rw [e0, e2']; rfl, h32, hs⟩
  | [], hlen, _, _ => simp at hlen
theorem open_up (h : DataW.trod enc Try.prog w base spare held fuel 51 cs = some x) : ∃ e : Rf.U, cs = upC e ∧ e.old.length = 32 ∧ e.new.length = 32 ∧ e.name.size ≤ maxLen := by
  obtain ⟨xs, n, _, _, hlen, hl, hg⟩ := DataW.trod_struct Try.underlying51 h
  have hl3 : xs.length = 3 := hl
  rw [kU] at hlen
  have g0 : DataW.trod enc Try.prog w base spare held n 9 ((cs.drop 0).take (Try.prog.cellsOf 9)) = xs[0]? := hg 0 _ rfl
  have g1 : DataW.trod enc Try.prog w base spare held n 35 ((cs.drop 1).take (Try.prog.cellsOf 35)) = xs[1]? := hg 1 _ rfl
  have g2 : DataW.trod enc Try.prog w base spare held n 35 ((cs.drop 33).take (Try.prog.cellsOf 35)) = xs[2]? := hg 2 _ rfl
  rw [kS, List.getElem?_eq_getElem (by omega)] at g0
  rw [kI, List.getElem?_eq_getElem (by omega)] at g1
  rw [kI, List.getElem?_eq_getElem (by omega)] at g2
  obtain ⟨s, e0, _, hs⟩ := DataW.trod_string Try.underlying9 g0
  obtain ⟨l, e1, h31⟩ := open_idl g1
  obtain ⟨m, e2, h32⟩ := open_idl g2
  match cs, hlen, e0, e1, e2 with
  | c0 :: r, hlen, e0, e1, e2 =>
    simp at e0
    have hr : r.length = 64 := by simpa using hlen
    have e1' : r.take 32 = idC l := by simpa using e1
    have e2' : (r.drop 32).take 32 = idC m := by simpa using e2
    rw [List.take_of_length_le (by simp; omega)] at e2'
    exact ⟨⟨s, l, m⟩, by rw [e0]; show _ = Value.string s :: (idC l ++ idC m); rw [← e1', ← e2', List.take_append_drop], h31, h32, hs⟩
  | [], hlen, _, _, _ => simp at hlen
theorem open_refs (h : DataW.trod enc Try.prog w base (fun _ => true) held fuel 22 cs = some x) :
    ∃ (L : List Rf.R) (ao : Option Addr) (ca : Nat), cs = [.slice ao L.length ca] ∧ RefsAt w (.slice ao L.length ca) L ∧ L.length ≤ maxLen ∧ ∀ r ∈ L, r.name.size ≤ maxLen := by
  rcases open_slice Try.underlying22 h with ⟨rfl, _⟩ | ⟨a, len, cap, m, n, D, Pl, hcs, hb, hl, hm, hmm, hx, hi⟩
  · exact ⟨[], none, 0, rfl, RefsAt.nil _, Nat.zero_le _, fun r hr => by simp at hr⟩
  · have hm' : m = cap := by simpa using hmm
    rw [kR] at hi
    obtain ⟨L, hlen, hes⟩ := list_of (P := fun i (e : Rf.R) => (e.id.length = 32 ∧ e.name.size ≤ maxLen) ∧ ∀ j v, (rfC e)[j]? = some v → w.cell? ((a.add (i * 33)).add j) = some v) len (fun i hi' => by
      obtain ⟨cs', hc, ht⟩ := hi i (by omega)
      obtain ⟨e, rfl, h32, hs⟩ := open_rf ht
      obtain ⟨_, hcl, hat⟩ := World.cells?_some hc
      exact ⟨e, ⟨h32, hs⟩, fun j v hv => by rw [hat j (by have := (List.getElem?_eq_some_iff.1 hv).1; rw [rfC_length] at this; omega)]; exact hv⟩)
    subst hlen
    refine ⟨L, some a, cap, hcs, ⟨.inr ⟨a, cap, by simp, fun i cs hi => ?_⟩⟩, by omega, fun r hr => ?_⟩
    · rw [List.getElem?_map] at hi
      cases hq : L[i]? with
      | none => simp [hq] at hi
      | some r =>
        simp [hq] at hi; subst hi
        obtain ⟨⟨h1, _⟩, h2⟩ := hes i r hq
        exact ⟨by rw [rfC_length, h1], h2⟩
    · obtain ⟨i, hi⟩ := List.getElem?_of_mem hr
      exact (hes i r hi).1.2
theorem open_ups (h : DataW.trod enc Try.prog w base (fun _ => true) held fuel 41 cs = some x) :
    ∃ (L : List Rf.U) (ao : Option Addr) (ca : Nat), cs = [.slice ao L.length ca] ∧ UpsAt w (.slice ao L.length ca) L ∧ L.length ≤ maxLen ∧ ∀ r ∈ L, r.old.length = 32 ∧ r.new.length = 32 := by
  rcases open_slice Try.underlying41 h with ⟨rfl, _⟩ | ⟨a, len, cap, m, n, D, Pl, hcs, hb, hl, hm, hmm, hx, hi⟩
  · exact ⟨[], none, 0, rfl, RowsAt.nil _ _, Nat.zero_le _, fun r hr => by simp at hr⟩
  · have hm' : m = cap := by simpa using hmm
    rw [kU] at hi
    obtain ⟨L, hlen, hes⟩ := list_of (P := fun i (e : Rf.U) => (e.old.length = 32 ∧ e.new.length = 32) ∧ ∀ j v, (upC e)[j]? = some v → w.cell? ((a.add (i * 65)).add j) = some v) len (fun i hi' => by
      obtain ⟨cs', hc, ht⟩ := hi i (by omega)
      obtain ⟨e, rfl, h31, h32, hs⟩ := open_up ht
      obtain ⟨_, hcl, hat⟩ := World.cells?_some hc
      exact ⟨e, ⟨h31, h32⟩, fun j v hv => by rw [hat j (by have := (List.getElem?_eq_some_iff.1 hv).1; rw [upC_length] at this; omega)]; exact hv⟩)
    subst hlen
    refine ⟨L, some a, cap, hcs, ⟨.inr ⟨a, cap, by simp, fun i cs hi => ?_⟩⟩, by omega, fun r hr => ?_⟩
    · rw [List.getElem?_map] at hi
      cases hq : L[i]? with
      | none => simp [hq] at hi
      | some r =>
        simp [hq] at hi; subst hi
        obtain ⟨⟨h1, h1'⟩, h2⟩ := hes i r hq
        exact ⟨by rw [upC_length, h1, h1'], h2⟩
    · obtain ⟨i, hi⟩ := List.getElem?_of_mem hr
      exact (hes i r hi).1
end

end Go.Proofs.Ytkdljagcdaphdaa
