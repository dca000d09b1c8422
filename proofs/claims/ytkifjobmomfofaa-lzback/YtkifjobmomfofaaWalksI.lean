/-
  WALKS OF LAYER 5: shorten.
-/
import Derived.Test.YtkifjobmomfofaaWalksH
namespace Go.Proofs.Ytkifjobmomfofaa
open Go.RowKit Go.WideMaps Go.Maps
set_option linter.unusedVariables false
set_option linter.unusedSimpArgs false

/-- What the map knows when the places ahead of p were kept. -/
structure Kn (l : List UInt8) (p : Nat) (M : List UInt8 → Option Nat) : Prop where
  old : ∀ key x, M key = some x → x < p ∧ (l.drop x).take 4 = key
  all : ∀ x, x < p → x + 4 ≤ l.length → ∃ y, M ((l.drop x).take 4) = some y

theorem Kn.zero (l : List UInt8) : Kn l 0 (fun _ => none) := ⟨(fun _ _ h => by cases h), (fun x h => absurd h (by omega))⟩
theorem Kn.step {l : List UInt8} {p : Nat} {M : List UInt8 → Option Nat} (h : Kn l p M) : Kn l (p + 1) (keptM l p M) := by
  unfold keptM
  split
  · refine ⟨fun key x hx => ?_, fun x hx h4 => ?_⟩
    · unfold upd at hx
      split at hx
      · rename_i hk
        cases hx
        exact ⟨by omega, hk.symm⟩
      · have := h.old key x hx
        exact ⟨by omega, this.2⟩
    · unfold upd
      split
      · exact ⟨_, rfl⟩
      · rename_i hne
        by_cases hxp : x = p
        · subst hxp; exact absurd rfl hne
        · exact h.all x (by omega) h4
  · rename_i hno
    refine ⟨fun key x hx => ?_, fun x hx h4 => ?_⟩
    · have := h.old key x hx
      exact ⟨by omega, this.2⟩
    · by_cases hxp : x = p
      · subst hxp; exact absurd h4 hno
      · exact h.all x (by omega) h4

/-- A text of equal bytes, of 8 to 4096. -/
def Eqs (l : List UInt8) : Prop := (∀ i j, i < l.length → j < l.length → l.getD i 0 = l.getD j 0) ∧ 8 ≤ l.length ∧ l.length ≤ 4096

/-- Where shorten stands: at p, with what lies ahead of wr written as the steps L. -/
structure Sh (l : List UInt8) (p wr : Nat) (L : List Lz.Ins) : Prop where
  wp : wr ≤ p
  pl : p ≤ l.length
  oks : Lz.oks [] L
  outs : Lz.outs [] L = l.take wr
  len : (Lz.encs L).length ≤ 31 * wr
  eqs : Eqs l → ((p = 0 ∨ p = 1) ∧ wr = 0 ∧ L = []) ∨ (p = l.length ∧ wr = l.length ∧ (Lz.encs L).length ≤ 5)

theorem Sh.zero (l : List UInt8) : Sh l 0 0 [] := ⟨Nat.le_refl _, Nat.zero_le _, trivial, rfl, Nat.zero_le _, fun _ => .inl ⟨.inl rfl, rfl, rfl⟩⟩

theorem enc_lit_len (t : List UInt8) (h : t.length < 4611686018427387904) : ((Lz.Ins.lit t).enc).length ≤ 10 + t.length := by
  have := Lib.uvarint_length64 (x := 2 * t.length) (by omega)
  simp [Lz.Ins.enc]; omega
theorem enc_mat_len (c f : Nat) (h1 : c < 4611686018427387904) (h2 : f < 65536) : ((Lz.Ins.mat c f).enc).length ≤ 20 := by
  have := Lib.uvarint_length64 (x := 2 * c + 1) (by omega)
  have := Lib.uvarint_length64 (x := f) (by omega)
  simp [Lz.Ins.enc]; omega

/-- The literal that is written for what lies between. -/
def litI (l : List UInt8) (a b : Nat) : List Lz.Ins := if a = b then [] else [.lit ((l.drop a).take (b - a))]

theorem litE_encs (l : List UInt8) (a b : Nat) (h1 : a ≤ b) (h2 : b ≤ l.length) : litE ((l.drop a).take (b - a)) = Lz.encs (litI l a b) := by
  unfold litE litI
  by_cases h : a = b
  · subst h; simp [Lz.encs]
  · have hl : ((l.drop a).take (b - a)).length = b - a := by rw [List.length_take, List.length_drop]; omega
    rw [if_neg (fun e => by rw [e] at hl; simp at hl; omega), if_neg h]
    simp [Lz.encs]

theorem lit_on {l : List UInt8} {L : List Lz.Ins} {a b : Nat} (h1 : a ≤ b) (h2 : b ≤ l.length) (hl : l.length < 4611686018427387904) (ho : Lz.oks [] L) (hu : Lz.outs [] L = l.take a) :
    Lz.oks [] (L ++ litI l a b) ∧ Lz.outs [] (L ++ litI l a b) = l.take b ∧ (Lz.encs (L ++ litI l a b)).length ≤ (Lz.encs L).length + (if a = b then 0 else 10 + (b - a)) ∧ Lz.encs (L ++ litI l a b) = Lz.encs L ++ Lz.encs (litI l a b) := by
  unfold litI
  by_cases h : a = b
  · subst h
    rw [if_pos rfl, if_pos rfl, List.append_nil]
    exact ⟨ho, hu, Nat.le_refl _, by simp [Lz.encs]⟩
  · rw [if_neg h, if_neg h]
    have hlen : ((l.drop a).take (b - a)).length = b - a := by rw [List.length_take, List.length_drop]; omega
    refine ⟨Lz.oks_snoc L [] _ ho ⟨by omega, by omega⟩, ?_, ?_, by simp [Lz.encs]⟩
    · rw [Lz.outs_snoc, hu]
      show l.take a ++ (l.drop a).take (b - a) = l.take b
      rw [← List.take_add, show a + (b - a) = b by omega]
    · rw [Lz.encs_snoc, List.length_append]
      have := enc_lit_len ((l.drop a).take (b - a)) (by omega)
      omega

/-- Nothing was found: one on. -/
theorem Sh.next {l : List UInt8} {p wr : Nat} {L : List Lz.Ins} {M : List UInt8 → Option Nat} {f : Nat} (h : Sh l p wr L) (hp : p < l.length) (hK : Kn l p M) (hf : FndOk l p (M ((l.drop p).take 4)) 0 f) : Sh l (p + 1) wr L := by
  refine ⟨Nat.le_succ_of_le h.wp, hp, h.oks, h.outs, h.len, fun he => ?_⟩
  rcases h.eqs he with ⟨h0, hw, hL⟩ | ⟨h1, _⟩
  · rcases h0 with rfl | rfl
    · exact .inl ⟨.inr rfl, hw, hL⟩
    · exfalso
      obtain ⟨he1, he2, he3⟩ := he
      have heq : (l.drop 1).take 4 = (l.drop 0).take 4 := by
        apply List.ext_getElem?
        intro i
        by_cases hi : i < 4
        · rw [List.getElem?_take, List.getElem?_take, if_pos hi, if_pos hi, List.getElem?_drop, List.getElem?_drop, List.getElem?_eq_getElem (by omega), List.getElem?_eq_getElem (by omega)]
          have := he1 (1 + i) (0 + i) (by omega) (by omega)
          rw [Lz.getD_at _ _ (by omega), Lz.getD_at _ _ (by omega)] at this
          rw [this]
        · rw [List.getElem?_take, List.getElem?_take, if_neg hi, if_neg hi]
      obtain ⟨y, hy⟩ := hK.all 0 (by omega) (by omega)
      have hy0 := hK.old _ y hy
      rcases hf with ⟨_, hf⟩ | ⟨hf, _⟩
      · have := hf y (by rw [heq]; exact hy) (by omega)
        omega
      · omega
  · omega

/-- A match was found: the literal, the match, and on. -/
theorem Sh.found {l : List UInt8} {p wr : Nat} {L : List Lz.Ins} {M : List UInt8 → Option Nat} {c f : Nat} (h : Sh l p wr L) (hp : p < l.length) (hl : l.length < 4611686018427387904) (hK : Kn l p M) (hc : c ≠ 0) (hf : FndOk l p (M ((l.drop p).take 4)) c f) :
    Sh l (p + c) (p + c) (L ++ litI l wr p ++ [.mat c f]) := by
  rcases hf with ⟨h0, _⟩ | ⟨h4, hpc, hf1, hf2, hf3, hal, hmax, hq⟩
  · exact absurd h0 hc
  · obtain ⟨a1, a2, a3, a4⟩ := lit_on h.wp (by omega) hl h.oks h.outs
    have hlen := h.len
    have hwp := h.wp
    have hml := enc_mat_len c f (by omega) (by omega)
    refine ⟨Nat.le_refl _, hpc, Lz.oks_snoc _ [] _ a1 ⟨h4, by omega, hf1, hf2, by rw [a2, List.length_take]; omega⟩, ?_, ?_, fun he => ?_⟩
    · rw [Lz.outs_snoc, a2]
      exact Lz.copy_match l f hf1 c p hf3 hpc hal
    · rw [Lz.encs_snoc, List.length_append]
      split at a3 <;> omega
    · obtain ⟨he1, he2, he3⟩ := id he
      rcases h.eqs he with ⟨h0, hw, hL⟩ | ⟨h1, _⟩
      · have hend : p + c = l.length := by
          rcases Nat.lt_or_ge (p + c) l.length with g | g
          · exact absurd (he1 _ _ (by omega) g) (hmax g)
          · omega
        right
        refine ⟨hend, hend, ?_⟩
        rcases h0 with rfl | rfl
        · omega
        · subst hw hL
          have hfe : f = 1 := by omega
          subst hfe
          rw [Lz.encs_snoc, List.length_append]
          have e1 : (Lz.encs ([] ++ litI l 0 1)).length = 2 := by
            unfold litI
            rw [if_neg (by decide)]
            have ht : ((l.drop 0).take (1 - 0)).length = 1 := by rw [List.length_take, List.length_drop]; omega
            simp only [List.nil_append, Lz.encs, List.flatMap_cons, List.flatMap_nil, List.append_nil, Lz.Ins.enc, List.length_append, ht]
            rw [Lib.uvarint_small (by decide)]; rfl
          have e2 : ((Lz.Ins.mat c 1).enc).length ≤ 3 := by
            have hc2 : 2 * c + 1 < 16384 := by omega
            have u1 : (Lib.uvarint 1).length = 1 := by rw [Lib.uvarint_small (by decide)]; rfl
            have u2 : (Lib.uvarint (2 * c + 1)).length ≤ 2 := by
              by_cases hs : 2 * c + 1 < 128
              · rw [Lib.uvarint_small hs]; simp
              · rw [Lib.uvarint_big (by omega), Lib.uvarint_small (by omega)]; simp
            simp only [Lz.Ins.enc, List.length_append]; omega
          omega
      · omega

/-- The end: what is left, as a literal. -/
theorem Sh.done {l : List UInt8} {wr : Nat} {L : List Lz.Ins} (h : Sh l l.length wr L) (hl : l.length < 4611686018427387904) :
    Lz.oks [] (L ++ litI l wr l.length) ∧ Lz.outs [] (L ++ litI l wr l.length) = l ∧ (Eqs l → (Lz.encs (L ++ litI l wr l.length)).length ≤ 5) ∧ Lz.encs (L ++ litI l wr l.length) = Lz.encs L ++ Lz.encs (litI l wr l.length) := by
  obtain ⟨a1, a2, a3, a4⟩ := lit_on h.wp (Nat.le_refl _) hl h.oks h.outs
  refine ⟨a1, by rw [a2, List.take_length], fun he => ?_, a4⟩
  obtain ⟨_, he2, _⟩ := id he
  rcases h.eqs he with ⟨h0, _⟩ | ⟨_, hw, h5⟩
  · omega
  · rw [if_pos hw] at a3; omega

end Go.Proofs.Ytkifjobmomfofaa
