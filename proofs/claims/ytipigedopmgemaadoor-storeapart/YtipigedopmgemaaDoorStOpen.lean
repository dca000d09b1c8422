/-
  LAYER 11: seeds as arguments: a slice of structs with a slice of bytes in each; slices of bytes.
-/
import Derived.Test.YtipigedopmgemaaDoorStGrow
import Derived.ProofKit
import Derived.OpenShut
import Derived.LaidMore
import Derived.ChangeSlices
import Derived.Carry
import Derived.Deep.Slices
import Derived.Deep.Lists
namespace Go.Proofs.YtipigedopmgemaaDoor
open Go.ChangeShapes Go.WideShapes Go.ChangeAt Go.RowKit Go.Deep
set_option linter.unusedVariables false
set_option linter.unusedSimpArgs false

theorem opLaid : laidOutB Tryd.prog = true := by kernel_rfl
theorem opK8 : Tryd.prog.cellsOf 5 = 1 := by kernel_rfl
theorem opK16 : Tryd.prog.cellsOf 57 = 1 := by kernel_rfl
theorem opKs : Tryd.prog.cellsOf 9 = 1 := by kernel_rfl
theorem opKb : Tryd.prog.cellsOf 56 = 1 := by kernel_rfl
theorem opKsd : Tryd.prog.cellsOf 59 = 4 := by kernel_rfl

theorem list_of {α : Type} {P : Nat → α → Prop} : ∀ n : Nat, (∀ i, i < n → ∃ e, P i e) → ∃ l : List α, l.length = n ∧ ∀ i e, l[i]? = some e → P i e
  | 0, _ => ⟨[], rfl, fun i e h => by simp at h⟩
  | n + 1, h => by
    obtain ⟨l, hl, hp⟩ := list_of n (fun i hi => h i (by omega))
    obtain ⟨e, he⟩ := h n (by omega)
    refine ⟨l ++ [e], by simp [hl], fun i x hx => ?_⟩
    by_cases hi : i < n
    · rw [List.getElem?_append_left (by omega)] at hx
      exact hp i x hx
    · have hin : i < n + 1 := by
        have := (List.getElem?_eq_some_iff.1 hx).1
        simp [hl] at this; omega
      have : i = n := by omega
      subst this
      rw [List.getElem?_append_right (by omega), hl] at hx
      simp at hx; subst hx; exact he

section
variable {H : Type} {enc : TypeId × Value → H} {w : World} {base : Nat} {spare : Nat → Bool} {held : Bool} {fuel : Nat} {cs : List Value} {x : DataW H × List MemPlace}
theorem open_by (h : DataW.trod enc Tryd.prog w base (fun _ => true) held fuel 56 cs = some x) :
    ∃ (R : List UInt8) (ao : Option Addr) (ca : Nat), cs = [.slice ao R.length ca] ∧ ByAt w (.slice ao R.length ca) R ∧ R.length ≤ maxLen := by
  rcases open_ints Tryd.underlying56 Tryd.underlying5 opK8 h with ⟨rfl, _⟩ | ⟨a, len, cap, zs, hcs, hb, hl, hm, hz, hx, hc, hw⟩
  · exact ⟨[], none, 0, rfl, ⟨.inl ⟨rfl, rfl⟩⟩, Nat.zero_le _⟩
  · have hz' : zs.length = cap := by simpa using hz
    obtain ⟨R, hlen, hes⟩ := list_of (P := fun i (e : UInt8) => w.cell? (a.add i) = some (.int .u8 (e.toNat : Int))) len (fun i hi => by
      have hlt : i < zs.length := by omega
      have hmem : zs.getD i 0 ∈ zs := by
        rw [List.getD_eq_getElem?_getD, List.getElem?_eq_getElem hlt]; exact List.getElem_mem hlt
      have hwf := hw _ hmem
      simp [Lit.wf, IntKind.min, IntKind.max, IntKind.signed, IntKind.bits] at hwf
      refine ⟨UInt8.ofNat (zs.getD i 0).toNat, ?_⟩
      rw [hc i hlt]
      have h1 : (zs.getD i 0).toNat < 256 := by simp only [List.getD_eq_getElem?_getD] at hwf ⊢; omega
      have h2 : (UInt8.ofNat (zs.getD i 0).toNat).toNat = (zs.getD i 0).toNat := by
        rw [UInt8.toNat_ofNat']; exact Nat.mod_eq_of_lt h1
      rw [h2]
      have h3 : (((zs.getD i 0).toNat : Nat) : Int) = zs.getD i 0 := by simp only [List.getD_eq_getElem?_getD] at hwf ⊢; omega
      rw [h3])
    subst hlen
    exact ⟨R, some a, cap, hcs, ⟨.inr ⟨a, cap, rfl, hes⟩⟩, by omega⟩

theorem wf_u8 {k : Int} (h : (Lit.int .u8 k).wf = true) : 0 ≤ k ∧ k < 256 := by
  simp [Lit.wf, IntKind.min, IntKind.max, IntKind.signed, IntKind.bits] at h
  omega
theorem wf_u16 {k : Int} (h : (Lit.int .u16 k).wf = true) : 0 ≤ k ∧ k < 65536 := by
  simp [Lit.wf, IntKind.min, IntKind.max, IntKind.signed, IntKind.bits] at h
  omega
theorem four_list : ∀ {cs : List Value}, cs.length = 4 → ∃ a b c d, cs = [a, b, c, d]
  | [a, b, c, d], _ => ⟨a, b, c, d, rfl⟩
theorem sd_of {k t : Int} {rv : Value} {R : List UInt8} {X : ByteArray} (hlen : cs.length = 4) (e0 : (cs.drop 0).take 1 = [Value.int .u8 k]) (e1 : (cs.drop 1).take 1 = [rv]) (e2 : (cs.drop 2).take 1 = [Value.int .u16 t]) (e3 : (cs.drop 3).take 1 = [Value.string X])
    (hk : 0 ≤ k ∧ k < 256) (ht : 0 ≤ t ∧ t < 65536) (hR : ByAt w rv R) (hRl : R.length ≤ maxLen) (hX : X.size ≤ maxLen) :
    ∃ (s : Sd) (rv : Value), cs = (sdC s.k rv s.t s.x).toList ∧ ByAt w rv s.refs ∧ s.k < 256 ∧ s.t < 65536 ∧ s.refs.length ≤ maxLen ∧ s.x.size ≤ maxLen := by
  obtain ⟨c0, c1, c2, c3, rfl⟩ := four_list hlen
  simp only [List.drop_zero, List.take_succ_cons, List.take_zero, List.drop_succ_cons, List.cons.injEq, and_true] at e0 e1 e2 e3
  subst e0 e1 e2 e3
  refine ⟨⟨k.toNat, R, t.toNat, X⟩, c1, ?_, hR, ?_, ?_, hRl, hX⟩
  · simp only [sdC]
    rw [show ((k.toNat : Nat) : Int) = k from Int.toNat_of_nonneg hk.1, show ((t.toNat : Nat) : Int) = t from Int.toNat_of_nonneg ht.1]
  · show k.toNat < 256
    omega
  · show t.toNat < 65536
    omega
theorem open_sd (h : DataW.trod enc Tryd.prog w base (fun _ => true) held fuel 59 cs = some x) :
    ∃ (s : Sd) (rv : Value), cs = (sdC s.k rv s.t s.x).toList ∧ ByAt w rv s.refs ∧ s.k < 256 ∧ s.t < 65536 ∧ s.refs.length ≤ maxLen ∧ s.x.size ≤ maxLen := by
  obtain ⟨xs, n, _, _, hlen, hl, hg⟩ := DataW.trod_struct Tryd.underlying59 h
  have hl4 : xs.length = 4 := hl
  rw [opKsd] at hlen
  have g0 : DataW.trod enc Tryd.prog w base (fun _ => true) held n 5 ((cs.drop 0).take (Tryd.prog.cellsOf 5)) = xs[0]? := hg 0 _ rfl
  have g1 : DataW.trod enc Tryd.prog w base (fun _ => true) held n 56 ((cs.drop 1).take (Tryd.prog.cellsOf 56)) = xs[1]? := hg 1 _ rfl
  have g2 : DataW.trod enc Tryd.prog w base (fun _ => true) held n 57 ((cs.drop 2).take (Tryd.prog.cellsOf 57)) = xs[2]? := hg 2 _ rfl
  have g3 : DataW.trod enc Tryd.prog w base (fun _ => true) held n 9 ((cs.drop 3).take (Tryd.prog.cellsOf 9)) = xs[3]? := hg 3 _ rfl
  rw [opK8, List.getElem?_eq_getElem (by omega)] at g0
  rw [opKb, List.getElem?_eq_getElem (by omega)] at g1
  rw [opK16, List.getElem?_eq_getElem (by omega)] at g2
  rw [opKs, List.getElem?_eq_getElem (by omega)] at g3
  obtain ⟨k, e0, _, hk⟩ := DataW.trod_int Tryd.underlying5 g0
  obtain ⟨R, ro, rc, e1, hR, hRl⟩ := open_by g1
  obtain ⟨t, e2, _, ht⟩ := DataW.trod_int Tryd.underlying57 g2
  obtain ⟨X, e3, _, hX⟩ := DataW.trod_string Tryd.underlying9 g3
  exact sd_of hlen e0 e1 e2 e3 (wf_u8 hk) (wf_u16 ht) hR hRl hX

theorem open_sds (h : DataW.trod enc Tryd.prog w base (fun _ => true) held fuel 22 cs = some x) :
    ∃ (S : List Sd) (ao : Option Addr) (ca : Nat), cs = [.slice ao S.length ca] ∧ SdsAt w (.slice ao S.length ca) S ∧ S.length ≤ maxLen := by
  rcases open_slice Tryd.underlying22 h with ⟨rfl, _⟩ | ⟨a, len, cap, m, n, D, Pl, hcs, hb, hl, hm, hmm, hx, hi⟩
  · exact ⟨[], none, 0, rfl, ⟨.inl ⟨rfl, rfl⟩, fun s hs => by cases hs⟩, Nat.zero_le _⟩
  · have hm' : m = cap := by simpa using hmm
    rw [opKsd] at hi
    obtain ⟨S, hlen, hes⟩ := list_of (P := fun i (s : Sd) => (∃ rv, ByAt w rv s.refs ∧ ∀ (j : Nat) (u : Value), (sdC s.k rv s.t s.x)[j]? = some u → w.cell? ((a.add (i * 4)).add j) = some u) ∧ s.k < 256 ∧ s.t < 65536 ∧ s.refs.length ≤ maxLen ∧ s.x.size ≤ maxLen) len (fun i hi' => by
      obtain ⟨cs', hc, ht⟩ := hi i (by omega)
      obtain ⟨s, rv, rfl, hR, hk⟩ := open_sd ht
      obtain ⟨_, hcl, hat⟩ := World.cells?_some hc
      refine ⟨s, ⟨rv, hR, fun j u hu => ?_⟩, hk⟩
      have hj : j < 4 := by
        obtain ⟨hj, _⟩ := Array.getElem?_eq_some_iff.1 hu
        exact hj
      rw [hat j hj, ← hu, Array.getElem?_toList])
    subst hlen
    refine ⟨S, some a, cap, hcs, ⟨.inr ⟨a, cap, rfl, fun i s hs => (hes i s hs).1⟩, fun s hs => ?_⟩, by omega⟩
    obtain ⟨i, hi'⟩ := List.getElem?_of_mem hs
    exact (hes i s hi').2
end

end Go.Proofs.YtipigedopmgemaaDoor
