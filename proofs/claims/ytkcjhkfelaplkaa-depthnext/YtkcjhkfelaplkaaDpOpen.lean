/-
  A SLICE OF IDS, OPENED: what an argument holds.
-/
import Derived.Test.YtkcjhkfelaplkaaBase2
import Derived.ProofKit
import Derived.OpenShut
import Derived.SizedLaws
import Derived.Deep.Slices
import Derived.ChangeSame
import Derived.Carry
namespace Go.Proofs.Ytkcjhkfelaplkaa
open Go.ChangeShapes Go.WideShapes Go.ChangeAt Go.RowKit Go.Deep
open Go.ChangeMaps (open_string shut_string)
set_option linter.unusedVariables false
set_option linter.unusedSimpArgs false

theorem dpown : ownKnob Try.prog.godebug = none := by kernel_rfl
theorem dpkB : Try.prog.cellsOf 5 = 1 := by kernel_rfl
theorem dpkI : Try.prog.cellsOf 28 = 32 := by kernel_rfl

def dpbyteOf : Value → UInt8
  | .int _ n => UInt8.ofNat n.toNat
  | _ => 0
theorem dpbv_byteOf {z : Int} (h : (Lit.int .u8 z).wf = true) : bv (dpbyteOf (.int .u8 z)) = .int .u8 z := by
  simp [Lit.wf, IntKind.min, IntKind.max, IntKind.signed, IntKind.bits] at h
  have : z.toNat % 256 = z.toNat := by omega
  simp [bv, dpbyteOf, UInt8.toNat_ofNat', this]
  omega
theorem dpone_at {cs : List Value} {k : Nat} {v : Value} (h : (cs.drop k).take 1 = [v]) : cs[k]? = some v := by
  have := congrArg (·[0]?) h
  simpa [List.getElem?_take, List.getElem?_drop] using this
theorem dpmany_at {cs l : List Value} {k n : Nat} (h : (cs.drop k).take n = l) (hl : l.length = n) : ∀ j v, l[j]? = some v → cs[k + j]? = some v := fun j v hv => by
  have hj := (List.getElem?_eq_some_iff.1 hv).1
  rw [← h, List.getElem?_take, if_pos (by omega), List.getElem?_drop] at hv
  exact hv
theorem dplist_of {α : Type} {P : Nat → α → Prop} : ∀ n : Nat, (∀ i, i < n → ∃ e, P i e) → ∃ l : List α, l.length = n ∧ ∀ i e, l[i]? = some e → P i e
  | 0, _ => ⟨[], rfl, fun i e h => by simp at h⟩
  | n + 1, h => by
    obtain ⟨l, hl, hp⟩ := dplist_of n (fun i hi => h i (by omega))
    obtain ⟨e, he⟩ := h n (by omega)
    refine ⟨l ++ [e], by simp [hl], fun i x hx => ?_⟩
    by_cases hi : i < n
    · rw [List.getElem?_append_left (by omega)] at hx
      exact hp i x hx
    · have hin : i < n + 1 := by
        have := (List.getElem?_eq_some_iff.1 hx).1
        simp [hl] at this; omega
      have : i = n := by omega
      subst this
      rw [List.getElem?_append_right (by omega), hl] at hx
      simp at hx; subst hx; exact he

section
variable {H : Type} {enc : TypeId × Value → H} {w : World} {base : Nat} {spare : Nat → Bool} {held : Bool} {fuel : Nat} {cs : List Value} {x : DataW H × List MemPlace}
theorem dpopen_idl (h : DataW.trod enc Try.prog w base spare held fuel 28 cs = some x) : ∃ l : List UInt8, cs = idC l ∧ l.length = 32 := by
  obtain ⟨ys, m, _, ex, hlen, hl, hel⟩ := DataW.trod_array Try.underlying28 h
  rw [dpkB] at hel
  rw [dpkI] at hlen
  have key : ∀ (i : Nat) (hi : i < 32), ∃ z, cs[i]? = some (.int .u8 z) ∧ (Lit.int .u8 z).wf = true := by
    intro i hi
    have k := hel i hi
    rw [List.getElem?_eq_getElem (by omega)] at k
    obtain ⟨z, e1, e2, e3⟩ := DataW.trod_int Try.underlying5 k
    exact ⟨z, by simpa using dpone_at e1, e3⟩
  refine ⟨cs.map dpbyteOf, ?_, by simpa using hlen⟩
  apply List.ext_getElem?
  intro i
  by_cases hi : i < 32
  · obtain ⟨z, e1, e3⟩ := key i hi
    simp only [idC, List.map_map, List.getElem?_map, e1, Option.map_some, Function.comp_apply, dpbv_byteOf e3]
  · rw [List.getElem?_eq_none (by omega), List.getElem?_eq_none (by simp [idC]; omega)]
theorem open_ids (h : DataW.trod enc Try.prog w base (fun _ => true) held fuel 22 cs = some x) :
    ∃ (L : List (List UInt8)) (ao : Option Addr) (ca : Nat), cs = [.slice ao L.length ca] ∧ IdsAt w (.slice ao L.length ca) L ∧ (∀ i ∈ L, i.length = 32) := by
  rcases open_slice Try.underlying22 h with ⟨rfl, _⟩ | ⟨a, len, cap, m, n, D, Pl, hcs, hb, hl, hm, hmm, hx, hi⟩
  · exact ⟨[], none, 0, rfl, RowsAt.nil _ _, fun r hr => by simp at hr⟩
  · have hm' : m = cap := by simpa using hmm
    rw [dpkI] at hi
    obtain ⟨L, hlen, hes⟩ := dplist_of (P := fun i (e : List UInt8) => e.length = 32 ∧ ∀ j v, (idC e)[j]? = some v → w.cell? ((a.add (i * 32)).add j) = some v) len (fun i hi' => by
      obtain ⟨cs', hc, ht⟩ := hi i (by omega)
      obtain ⟨e, rfl, h32⟩ := dpopen_idl ht
      obtain ⟨_, hcl, hat⟩ := World.cells?_some hc
      exact ⟨e, h32, fun j v hv => by rw [hat j (by have := (List.getElem?_eq_some_iff.1 hv).1; rw [idC_length] at this; omega)]; exact hv⟩)
    subst hlen
    refine ⟨L, some a, cap, hcs, ⟨.inr ⟨a, cap, by simp, fun i cs hi => ?_⟩⟩, fun r hr => ?_⟩
    · rw [List.getElem?_map] at hi
      cases hq : L[i]? with
      | none => simp [hq] at hi
      | some r =>
        simp [hq] at hi; subst hi
        obtain ⟨h1, h2⟩ := hes i r hq
        exact ⟨by rw [idC_length, h1], h2⟩
    · obtain ⟨i, hi⟩ := List.getElem?_of_mem hr
      exact (hes i r hi).1
end
end Go.Proofs.Ytkcjhkfelaplkaa
