/-
  A SLICE OF LINES, OPENED: what an argument of the type []pkt.Pkt holds.
-/
import Derived.Test.YtaaemdmeicjnbaaBase
import Derived.ProofKit
import Derived.OpenShut
import Derived.SizedLaws
import Derived.Deep.Slices
import Derived.ChangeSame
import Derived.Carry
namespace Go.Proofs.Ytaaemdmeicjnbaa
open Go.ChangeShapes Go.WideShapes Go.ChangeAt Go.RowKit Go.Deep
open Go.ChangeMaps (open_string shut_string)
set_option linter.unusedVariables false
set_option linter.unusedSimpArgs false
open Pk (Ln)

theorem Try.own : ownKnob Try.prog.godebug = none := by kernel_rfl
theorem laidOut : laidOutB Try.prog = true := by kernel_rfl
theorem kI : Try.prog.cellsOf 3 = 1 := by kernel_rfl
theorem kS : Try.prog.cellsOf 9 = 1 := by kernel_rfl
theorem kP : Try.prog.cellsOf 34 = 2 := by kernel_rfl

theorem list_of {α : Type} {P : Nat → α → Prop} : ∀ n : Nat, (∀ i, i < n → ∃ e, P i e) → ∃ l : List α, l.length = n ∧ ∀ i e, l[i]? = some e → P i e
  | 0, _ => ⟨[], rfl, fun i e h => by simp at h⟩
  | n + 1, h => by
    obtain ⟨l, hl, hp⟩ := list_of n (fun i hi => h i (by omega))
    obtain ⟨e, he⟩ := h n (by omega)
    refine ⟨l ++ [e], by simp [hl], fun i x hx => ?_⟩
    by_cases hi : i < n
    · rw [List.getElem?_append_left (by omega)] at hx
      exact hp i x hx
    · have hin : i < n + 1 := by
        have := (List.getElem?_eq_some_iff.1 hx).1
        simp [hl] at this; omega
      have : i = n := by omega
      subst this
      rw [List.getElem?_append_right (by omega), hl] at hx
      simp at hx; subst hx; exact he

section
variable {H : Type} {enc : TypeId × Value → H} {w : World} {base : Nat} {spare : Nat → Bool} {held : Bool} {fuel : Nat} {cs : List Value} {x : DataW H × List MemPlace}
theorem open_ln (h : DataW.trod enc Try.prog w base spare held fuel 34 cs = some x) : ∃ e : Ln, cs = [.int .i64 e.kind, .string e.load] := by
  obtain ⟨xs, n, _, _, hlen, hl, hg⟩ := DataW.trod_struct Try.underlying34 h
  have hl2 : xs.length = 2 := hl
  rw [kP] at hlen
  have g0 : DataW.trod enc Try.prog w base spare held n 3 ((cs.drop 0).take (Try.prog.cellsOf 3)) = xs[0]? := hg 0 _ rfl
  have g1 : DataW.trod enc Try.prog w base spare held n 9 ((cs.drop 1).take (Try.prog.cellsOf 9)) = xs[1]? := hg 1 _ rfl
  rw [kI, List.getElem?_eq_getElem (by omega)] at g0
  rw [kS, List.getElem?_eq_getElem (by omega)] at g1
  obtain ⟨a, e0, _, _⟩ := DataW.trod_int Try.underlying3 g0
  obtain ⟨s, e1, _, _⟩ := DataW.trod_string Try.underlying9 g1
  match cs, hlen, e0, e1 with
  | [c0, c1], _, e0, e1 =>
    simp at e0 e1
    exact ⟨⟨a, s⟩, by rw [e0, e1]⟩
theorem open_lines (h : DataW.trod enc Try.prog w base (fun _ => true) held fuel 23 cs = some x) :
    ∃ (L : List Ln) (ao : Option Addr) (ca : Nat), cs = [.slice ao L.length ca] ∧ LinesAt w (.slice ao L.length ca) L ∧ L.length ≤ maxLen := by
  rcases open_slice Try.underlying23 h with ⟨rfl, _⟩ | ⟨a, len, cap, m, n, D, Pl, hcs, hb, hl, hm, hmm, hx, hi⟩
  · exact ⟨[], none, 0, rfl, ⟨.inl ⟨rfl, rfl⟩⟩, Nat.zero_le _⟩
  · have hm' : m = cap := by simpa using hmm
    rw [kP] at hi
    obtain ⟨L, hlen, hes⟩ := list_of (P := fun i (e : Ln) => w.cell? (a.add (i * 2)) = some (.int .i64 e.kind) ∧ w.cell? ((a.add (i * 2)).add 1) = some (.string e.load)) len (fun i hi' => by
      obtain ⟨cs', hc, ht⟩ := hi i (by omega)
      obtain ⟨e, rfl⟩ := open_ln ht
      obtain ⟨_, hcl, hat⟩ := World.cells?_some hc
      refine ⟨e, ?_, by rw [hat 1 (by omega)]; rfl⟩
      have := hat 0 (by omega)
      rw [show (a.add (i * 2)).add 0 = a.add (i * 2) by simp [Addr.add]] at this
      rw [this]; rfl)
    subst hlen
    exact ⟨L, some a, cap, hcs, ⟨.inr ⟨a, cap, rfl, hes⟩⟩, by omega⟩
end

end Go.Proofs.Ytaaemdmeicjnbaa
