/-
  THE MATHEMATICS OF LAYER 5 (lz), the other way: a text written as literals and matches; what such steps are unpacked to; a packed text.
-/
import Derived.Test.YtkifjobmomfofaaMath
namespace Go.Proofs.Ytkifjobmomfofaa
namespace Lz
open Vi
set_option linter.unusedVariables false

/-- A step that is written. -/
inductive Ins where
  | lit (t : List UInt8)
  | mat (c f : Nat)

def Ins.enc : Ins → List UInt8
  | .lit t => Go.Lib.uvarint (2 * t.length) ++ t
  | .mat c f => Go.Lib.uvarint (2 * c + 1) ++ Go.Lib.uvarint f
def Ins.out (o : List UInt8) : Ins → List UInt8
  | .lit t => o ++ t
  | .mat c f => copy f c o
def Ins.ok (o : List UInt8) : Ins → Prop
  | .lit t => 1 ≤ t.length ∧ t.length < 4611686018427387904
  | .mat c f => 4 ≤ c ∧ c < 4611686018427387904 ∧ 1 ≤ f ∧ f ≤ 65535 ∧ f ≤ o.length
def encs (L : List Ins) : List UInt8 := L.flatMap Ins.enc
def outs (o : List UInt8) (L : List Ins) : List UInt8 := L.foldl Ins.out o
def oks : List UInt8 → List Ins → Prop
  | _, [] => True
  | o, i :: r => i.ok o ∧ oks (i.out o) r

theorem encs_snoc (L : List Ins) (i : Ins) : encs (L ++ [i]) = encs L ++ i.enc := by simp [encs]
theorem outs_snoc (o : List UInt8) (L : List Ins) (i : Ins) : outs o (L ++ [i]) = i.out (outs o L) := by simp [outs]
theorem oks_snoc : ∀ (L : List Ins) (o : List UInt8) (i : Ins), oks o L → i.ok (outs o L) → oks o (L ++ [i])
  | [], o, i, _, h => ⟨h, trivial⟩
  | j :: r, o, i, h, hi => ⟨h.1, oks_snoc r (j.out o) i h.2 hi⟩

theorem out_ge (o : List UInt8) (i : Ins) : o.length ≤ (i.out o).length := by
  cases i with
  | lit t => simp [Ins.out]
  | mat c f => simp [Ins.out, copy_length]
theorem outs_ge : ∀ (L : List Ins) (o : List UInt8), o.length ≤ (outs o L).length
  | [], o => Nat.le_refl _
  | i :: r, o => Nat.le_trans (out_ge o i) (outs_ge r (i.out o))

theorem stp_enc (i : Ins) (o tail : List UInt8) (h : i.ok o) : ∃ c f k, stp (i.enc ++ tail) o.length = some (c, f, k) ∧ (i.enc ++ tail).drop (used c f k) = tail ∧ emit (i.enc ++ tail) o c f k = i.out o := by
  cases i with
  | lit t =>
    obtain ⟨h1, h2⟩ := h
    have hv := vget_put (2 * t.length) (by omega) (t ++ tail)
    have he : (Ins.lit t).enc ++ tail = Go.Lib.uvarint (2 * t.length) ++ (t ++ tail) := by simp [Ins.enc]
    refine ⟨t.length, 0, (Go.Lib.uvarint (2 * t.length)).length, ?_, ?_, ?_⟩
    · rw [he]; unfold stp; rw [hv]
      simp only
      rw [if_pos (by omega), if_neg (by rw [List.length_append, List.length_append]; omega), show 2 * t.length / 2 = t.length by omega]
    · rw [he]; unfold used; rw [if_pos rfl, ← List.append_assoc, List.drop_left' (by simp)]
    · rw [he]; unfold emit; rw [if_pos rfl, List.drop_left' rfl, List.take_left' rfl]; rfl
  | mat c f =>
    obtain ⟨h1, h2, h3, h4, h5⟩ := h
    have hv := vget_put (2 * c + 1) (by omega) (Go.Lib.uvarint f ++ tail)
    have hv2 := vget_put f (by omega) tail
    have he : (Ins.mat c f).enc ++ tail = Go.Lib.uvarint (2 * c + 1) ++ (Go.Lib.uvarint f ++ tail) := by simp [Ins.enc]
    have hf : f ≠ 0 := by omega
    refine ⟨c, f, (Go.Lib.uvarint (2 * c + 1)).length + (Go.Lib.uvarint f).length, ?_, ?_, ?_⟩
    · rw [he]; unfold stp; rw [hv]
      simp only
      rw [if_neg (by omega), List.drop_left' rfl, hv2]
      simp only
      rw [if_neg (by omega), show (2 * c + 1) / 2 = c by omega]
    · rw [he]; unfold used; rw [if_neg hf, ← List.append_assoc, List.drop_left' (by simp)]
    · unfold emit; rw [if_neg hf]; rfl

theorem enc_ne (i : Ins) : i.enc ≠ [] := by
  cases i with
  | lit t => intro h; have := Go.Lib.uvarint_pos (2 * t.length); have h2 := congrArg List.length h; simp [Ins.enc] at h2; rw [h2.1] at this; simp at this
  | mat c f => intro h; have := Go.Lib.uvarint_pos (2 * c + 1); have h2 := congrArg List.length h; simp [Ins.enc] at h2; rw [h2.1] at this; simp at this

/-- What steps that may be are unpacked to. -/
theorem run_enc (most : Nat) : ∀ (L : List Ins) (o : List UInt8) (k : Nat), oks o L → o.length ≤ most → (encs L).length ≤ k → runF most k (encs L) o = if (outs o L).length ≤ most then (0, outs o L) else (3, [])
  | [], o, k, _, hm, _ => by
    show runF most k [] o = if o.length ≤ most then (0, o) else (3, [])
    rw [runF_nil, if_pos hm]
  | i :: r, o, k, h, hm, hk => by
    have he : encs (i :: r) = i.enc ++ encs r := rfl
    obtain ⟨c, f, q, hs, hd, hem⟩ := stp_enc i o (encs r) h.1
    have hne : i.enc ++ encs r ≠ [] := by intro e; exact enc_ne i (List.append_eq_nil_iff.1 e).1
    have hol := emit_length (out := o) hs
    rw [hem] at hol
    have hog := outs_ge r (i.out o)
    rw [he] at hk ⊢
    show runF most k (i.enc ++ encs r) o = if (outs (i.out o) r).length ≤ most then (0, outs (i.out o) r) else (3, [])
    by_cases hmo : most < o.length + c
    · rw [runF_most hne hk hs hmo, if_neg (by omega)]
    · obtain ⟨k, rfl⟩ : ∃ k', k = k' + 1 := ⟨k - 1, by
        have := (List.length_pos_iff.2 hne); omega⟩
      rw [runF_step hne hs hmo, hd, hem]
      refine run_enc most r (i.out o) k h.2 (by omega) ?_
      have h1 : 0 < i.enc.length := List.length_pos_iff.2 (enc_ne i)
      rw [List.length_append] at hk; omega

/-- A packed text: the steps where they are fewer, else the text itself. -/
def packL (s D : List UInt8) : List UInt8 := if D.length < s.length then 1 :: D else 0 :: s

theorem pack_len (s D : List UInt8) : (packL s D).length ≤ s.length + 1 ∧ (packL s D).length ≤ D.length + 1 ∨ (packL s D).length = s.length + 1 ∧ s.length ≤ D.length := by
  unfold packL; split
  · left; simp; omega
  · right; simp; omega

theorem unp_zero (s : List UInt8) (m : Int) (h : 0 ≤ m) : unp (0 :: s) m = if m < (s.length : Int) then (3, []) else (0, s) := by
  unfold unp
  rw [if_neg (by omega)]
  show (if (0 : UInt8).toNat = 0 then _ else _) = _
  rw [if_pos (by decide)]
theorem unp_one (D : List UInt8) (m : Int) (h : 0 ≤ m) : unp (1 :: D) m = runF m.toNat D.length D [] := by
  unfold unp
  rw [if_neg (by omega)]
  show (if (1 : UInt8).toNat = 0 then _ else if (1 : UInt8).toNat = 1 then _ else _) = _
  rw [if_neg (by decide), if_pos (by decide)]

theorem pack_unp (s : List UInt8) (L : List Ins) (h : oks [] L) (ho : outs [] L = s) : unp (packL s (encs L)) (s.length : Int) = (0, s) ∧ (s ≠ [] → unp (packL s (encs L)) ((s.length : Int) - 1) = (3, [])) ∧ (s = [] → unp (packL s (encs L)) ((s.length : Int) - 1) = (1, [])) := by
  have hrun := fun most => run_enc most L [] (encs L).length h (Nat.zero_le most) (Nat.le_refl _)
  refine ⟨?_, fun hs => ?_, fun hs => ?_⟩
  · unfold packL
    split
    · rw [unp_one _ _ (by omega), Int.toNat_natCast, hrun, ho, if_pos (Nat.le_refl _)]
    · rw [unp_zero _ _ (by omega), if_neg (by omega)]
  · have hpos : 0 < s.length := List.length_pos_iff.2 hs
    unfold packL
    split
    · rw [unp_one _ _ (by omega), hrun, ho, if_neg (by omega)]
    · rw [unp_zero _ _ (by omega), if_pos (by omega)]
  · subst hs
    unfold unp
    rw [if_pos (by decide)]

/-- A match that is alike writes the text on. -/
theorem copy_match (l : List UInt8) (f : Nat) (hf : 1 ≤ f) : ∀ (c p : Nat), f ≤ p → p + c ≤ l.length → (∀ i, i < c → l.getD (p - f + i) 0 = l.getD (p + i) 0) → copy f c (l.take p) = l.take (p + c)
  | 0, p, _, _, _ => rfl
  | c + 1, p, hp, hl, h => by
    have hlen : (l.take p).length = p := by rw [List.length_take]; omega
    have h0 := h 0 (by omega)
    rw [Nat.add_zero, Nat.add_zero] at h0
    rw [copy, hlen]
    have e1 : (l.take p).getD (p - f) 0 = l.getD p 0 := by
      rw [← h0, List.getD_eq_getElem?_getD, List.getElem?_take, if_pos (by omega), ← List.getD_eq_getElem?_getD]
    have e2 : l.take p ++ [l.getD p 0] = l.take (p + 1) := by
      rw [List.take_succ_eq_append_getElem (by omega), List.getD_eq_getElem?_getD, List.getElem?_eq_getElem (by omega)]; rfl
    rw [e1, e2, copy_match l f hf c (p + 1) (by omega) (by omega) (fun i hi => by
      have := h (i + 1) (by omega)
      rw [show p + 1 - f + i = p - f + (i + 1) by omega, show p + 1 + i = p + (i + 1) by omega]; exact this), show p + 1 + c = p + (c + 1) by omega]

end Lz
end Go.Proofs.Ytkifjobmomfofaa
