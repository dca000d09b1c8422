/-
  THE MATHEMATICS OF LAYER 6 (delta), the other way: a text written as literals and copies; what such steps come to; a delta that is made; how many bytes two texts begin with alike.
-/
import Derived.Test.YtoglbmibbdpjcaaMath
namespace Go.Proofs.Ytoglbmibbdpjcaa
namespace Dl
open Vi Lz
set_option linter.unusedVariables false

/-- A step that is written. -/
inductive Ins where
  | lit (t : List UInt8)
  | cop (f c : Nat)

def Ins.enc : Ins → List UInt8
  | .lit t => Go.Lib.uvarint (2 * t.length) ++ t
  | .cop f c => Go.Lib.uvarint (2 * c + 1) ++ Go.Lib.uvarint f
def Ins.out (base : List UInt8) : Ins → List UInt8
  | .lit t => t
  | .cop f c => (base.drop f).take c
def Ins.ok (base : List UInt8) : Ins → Prop
  | .lit t => 1 ≤ t.length ∧ t.length < 4611686018427387904
  | .cop f c => 1 ≤ c ∧ f + c ≤ base.length ∧ base.length < 4611686018427387904
def encs (L : List Ins) : List UInt8 := L.flatMap Ins.enc
def outs (base : List UInt8) (L : List Ins) : List UInt8 := L.flatMap (Ins.out base)
def oks (base : List UInt8) (L : List Ins) : Prop := ∀ i ∈ L, i.ok base

theorem encs_append (A B : List Ins) : encs (A ++ B) = encs A ++ encs B := by simp [encs]
theorem encs_snoc (L : List Ins) (i : Ins) : encs (L ++ [i]) = encs L ++ i.enc := by simp [encs]
theorem outs_append (base : List UInt8) (A B : List Ins) : outs base (A ++ B) = outs base A ++ outs base B := by simp [outs]
theorem outs_snoc (base : List UInt8) (L : List Ins) (i : Ins) : outs base (L ++ [i]) = outs base L ++ i.out base := by simp [outs]
theorem oks_snoc {base : List UInt8} {L : List Ins} {i : Ins} (h : oks base L) (hi : i.ok base) : oks base (L ++ [i]) := by
  intro j hj
  rcases List.mem_append.1 hj with h1 | h1
  · exact h j h1
  · rw [List.mem_singleton.1 h1]; exact hi

theorem stp_enc (base : List UInt8) (i : Ins) (tail : List UInt8) (h : i.ok base) : ∃ q, stp base (i.enc ++ tail) = some (i.out base, q) ∧ (i.enc ++ tail).drop q = tail := by
  cases i with
  | lit t =>
    obtain ⟨h1, h2⟩ := h
    have hv := vget_put (2 * t.length) (by omega) (t ++ tail)
    have he : (Ins.lit t).enc ++ tail = Go.Lib.uvarint (2 * t.length) ++ (t ++ tail) := by simp [Ins.enc]
    refine ⟨(Go.Lib.uvarint (2 * t.length)).length + t.length, ?_, ?_⟩
    · rw [he]; unfold stp; rw [hv]
      simp only
      rw [if_pos (by omega), if_neg (by rw [List.length_append, List.length_append]; omega), show 2 * t.length / 2 = t.length by omega, List.drop_left' rfl, List.take_left' rfl]
      rfl
    · rw [he, ← List.append_assoc, List.drop_left' (by simp)]
  | cop f c =>
    obtain ⟨h1, h2, h3⟩ := h
    have hv := vget_put (2 * c + 1) (by omega) (Go.Lib.uvarint f ++ tail)
    have hv2 := vget_put f (by omega) tail
    have he : (Ins.cop f c).enc ++ tail = Go.Lib.uvarint (2 * c + 1) ++ (Go.Lib.uvarint f ++ tail) := by simp [Ins.enc]
    refine ⟨(Go.Lib.uvarint (2 * c + 1)).length + (Go.Lib.uvarint f).length, ?_, ?_⟩
    · rw [he]; unfold stp; rw [hv]
      simp only
      rw [if_neg (by omega), List.drop_left' rfl, hv2]
      simp only
      rw [if_neg (by omega), show (2 * c + 1) / 2 = c by omega]
      rfl
    · rw [he, ← List.append_assoc, List.drop_left' (by simp)]

theorem enc_ne (i : Ins) : i.enc ≠ [] := by
  cases i with
  | lit t => intro h; have := Go.Lib.uvarint_pos (2 * t.length); have h2 := congrArg List.length h; simp [Ins.enc] at h2; rw [h2.1] at this; simp at this
  | cop f c => intro h; have := Go.Lib.uvarint_pos (2 * c + 1); have h2 := congrArg List.length h; simp [Ins.enc] at h2; rw [h2.1] at this; simp at this

/-- What steps that may be come to. -/
theorem run_enc (base : List UInt8) (t : Nat) : ∀ (L : List Ins) (o : List UInt8) (k : Nat), oks base L → (encs L).length ≤ k → (o ++ outs base L).length = t → runF base t k (encs L) o = some (o ++ outs base L)
  | [], o, k, _, _, ht => by
    show runF base t k [] o = some (o ++ [])
    rw [runF_nil, List.append_nil, if_pos (by simpa [outs] using ht)]
  | i :: r, o, k, h, hk, ht => by
    have he : encs (i :: r) = i.enc ++ encs r := rfl
    have ho : outs base (i :: r) = i.out base ++ outs base r := rfl
    obtain ⟨q, hs, hd⟩ := stp_enc base i (encs r) (h i (by simp))
    have hne : i.enc ++ encs r ≠ [] := by intro e; exact enc_ne i (List.append_eq_nil_iff.1 e).1
    rw [he] at hk ⊢
    rw [ho] at ht ⊢
    have hl : ¬ t < o.length + (i.out base).length := by
      rw [List.length_append, List.length_append] at ht; omega
    obtain ⟨k, rfl⟩ : ∃ k', k = k' + 1 := ⟨k - 1, by
      have := (List.length_pos_iff.2 hne); omega⟩
    rw [runF_step hne hs hl, hd, ← List.append_assoc]
    refine run_enc base t r (o ++ i.out base) k (fun j hj => h j (by simp [hj])) ?_ (by rw [List.append_assoc]; exact ht)
    have h1 : 0 < i.enc.length := List.length_pos_iff.2 (enc_ne i)
    rw [List.length_append] at hk; omega

/-- A delta that is made. -/
def mk (base text S : List UInt8) : List UInt8 := Go.Lib.uvarint base.length ++ (Go.Lib.uvarint text.length ++ S)

theorem hd_mk (base text S : List UInt8) (hb : base.length < 18446744073709551616) (ht : text.length < 18446744073709551616) : ∃ k, hd (mk base text S) = some (base.length, text.length, k) ∧ (mk base text S).drop k = S := by
  refine ⟨(Go.Lib.uvarint base.length).length + (Go.Lib.uvarint text.length).length, ?_, ?_⟩
  · unfold hd mk
    rw [vget_put _ hb]
    simp only
    rw [List.drop_left' rfl, vget_put _ ht]
  · unfold mk
    rw [← List.append_assoc, List.drop_left' (by simp)]

/-- What a delta that was made of steps comes to. -/
structure Made (base text d : List UInt8) : Prop where
  back : app base d (text.length : Int) = (0, text)
  less : text ≠ [] → app base d ((text.length : Int) - 1) = (3, [])
  other : ∀ b : List UInt8, b.length ≠ base.length → app b d (text.length : Int) = (6, [])
  size : siz d = (0, text.length)

theorem made_of (base text : List UInt8) (L : List Ins) (hb : base.length < 2147483647) (ht : text.length < 2147483647) (h : oks base L) (ho : outs base L = text) : Made base text (mk base text (encs L)) := by
  obtain ⟨k, h1, h2⟩ := hd_mk base text (encs L) (by omega) (by omega)
  have h3 := congrArg List.length h2
  rw [List.length_drop] at h3
  refine ⟨?_, fun hne => ?_, fun b hbl => ?_, ?_⟩
  · unfold app
    rw [if_neg (by omega), h1]
    simp only
    rw [if_neg (by simp), if_neg (by omega), h2, run_enc base text.length L [] _ h (by omega) (by rw [ho]; rfl), ho]
    rfl
  · have hpos : 0 < text.length := List.length_pos_iff.2 hne
    unfold app
    rw [if_neg (by omega), h1]
    simp only
    rw [if_neg (by simp), if_pos (by omega)]
  · unfold app
    rw [if_neg (by omega), h1]
    simp only
    rw [if_pos (fun e => hbl e.symm)]
  · unfold siz
    rw [h1]
    simp only
    rw [if_neg (by omega)]

theorem mk_len (base text S : List UInt8) (hb : base.length < 18446744073709551616) (ht : text.length < 18446744073709551616) : (mk base text S).length ≤ 20 + S.length := by
  have h1 := Go.Lib.uvarint_length64 hb
  have h2 := Go.Lib.uvarint_length64 ht
  unfold mk
  rw [List.length_append, List.length_append]; omega

theorem enc_lit_len (t : List UInt8) (h : t.length < 4611686018427387904) : (Ins.lit t).enc.length ≤ 10 + t.length := by
  have := Go.Lib.uvarint_length64 (x := 2 * t.length) (by omega)
  simp only [Ins.enc, List.length_append]; omega
theorem enc_cop_len (f c : Nat) (hf : f < 4611686018427387904) (hc : c < 4611686018427387904) : (Ins.cop f c).enc.length ≤ 20 := by
  have h1 := Go.Lib.uvarint_length64 (x := 2 * c + 1) (by omega)
  have h2 := Go.Lib.uvarint_length64 (x := f) (by omega)
  simp only [Ins.enc, List.length_append]; omega

/-- The literal of the text from one place to another: none for no bytes. -/
def litI (t : List UInt8) : List Ins := if t = [] then [] else [.lit t]
def litE (t : List UInt8) : List UInt8 := if t = [] then [] else (Ins.lit t).enc
theorem litE_encs (t : List UInt8) : litE t = encs (litI t) := by unfold litE litI; split <;> simp [encs]
theorem litE_len (t : List UInt8) (h : t.length < 4611686018427387904) : (litE t).length ≤ 10 + t.length := by
  unfold litE
  split
  · simp
  · exact enc_lit_len t h
theorem litI_out (base t : List UInt8) : outs base (litI t) = t := by
  unfold litI; split
  · rename_i h; rw [h]; rfl
  · simp [outs, Ins.out]
theorem litI_ok (base t : List UInt8) (h : t.length < 4611686018427387904) : oks base (litI t) := by
  unfold litI; split
  · intro i hi; cases hi
  · rename_i hne
    intro i hi
    rw [List.mem_singleton.1 hi]
    exact ⟨List.length_pos_iff.2 hne, h⟩

/-- How many bytes both begin with. -/
def com : List UInt8 → List UInt8 → Nat
  | x :: a, y :: b => if x = y then com a b + 1 else 0
  | _, _ => 0

theorem com_take : ∀ a b : List UInt8, a.take (com a b) = b.take (com a b) ∧ com a b ≤ a.length ∧ com a b ≤ b.length
  | [], b => by simp [com]
  | x :: a, [] => by simp [com]
  | x :: a, y :: b => by
    have ih := com_take a b
    by_cases h : x = y
    · subst h
      simp only [com, if_true, List.take_succ_cons, List.length_cons]
      exact ⟨by rw [ih.1], by omega, by omega⟩
    · simp [com, h]
theorem com_self : ∀ a : List UInt8, com a a = a.length
  | [] => rfl
  | x :: a => by simp [com, com_self a]
theorem com_step {a b : List UInt8} {k : Nat} (ha : k < a.length) (hb : k < b.length) (h : a[k] = b[k]) : com (a.drop k) (b.drop k) = com (a.drop (k + 1)) (b.drop (k + 1)) + 1 := by
  rw [List.drop_eq_getElem_cons ha, List.drop_eq_getElem_cons hb]
  simp only [com]
  rw [if_pos h]
theorem com_stop {a b : List UInt8} {k : Nat} (ha : k < a.length) (hb : k < b.length) (h : a[k] ≠ b[k]) : com (a.drop k) (b.drop k) = 0 := by
  rw [List.drop_eq_getElem_cons ha, List.drop_eq_getElem_cons hb]
  simp only [com]
  rw [if_neg h]
theorem com_nil {a b : List UInt8} {k : Nat} (h : a.length ≤ k ∨ b.length ≤ k) : com (a.drop k) (b.drop k) = 0 := by
  rcases h with h | h
  · rw [List.drop_of_length_le h]; rfl
  · rw [List.drop_of_length_le h]; cases a.drop k <;> rfl

/-- Where share stands: at p, written up to q. -/
structure Sh (base text : List UInt8) (p q : Nat) (L : List Ins) : Prop where
  ok : oks base L
  out : outs base L = text.take q
  qp : q ≤ p
  pl : p ≤ text.length
  len : (encs L).length ≤ 31 * q
  own : base = text → 4 ≤ base.length → (p = 0 ∧ q = 0 ∧ L = []) ∨ (p = base.length ∧ q = base.length ∧ (encs L).length ≤ 20)

theorem Sh.zero (base text : List UInt8) : Sh base text 0 0 [] := ⟨fun i hi => (by cases hi), rfl, Nat.le_refl _, Nat.zero_le _, Nat.zero_le _, fun _ _ => .inl ⟨rfl, rfl, rfl⟩⟩

/-- What longest tells of the text from a place on. -/
structure Lg (base text : List UInt8) (f c : Nat) : Prop where
  le : c ≤ text.length
  fit : f + c ≤ base.length
  same : (base.drop f).take c = text.take c
  own : base = text → 4 ≤ base.length → c = base.length

theorem Sh.next {base text : List UInt8} {p q f : Nat} {L : List Ins} (h : Sh base text p q L) (hp : p < text.length) (hg : Lg base (text.drop p) f 0) : Sh base text (p + 1) q L := by
  refine ⟨h.ok, h.out, by have := h.qp; omega, by omega, h.len, fun he h4 => ?_⟩
  rcases h.own he h4 with ⟨h1, h2, h3⟩ | ⟨h1, _⟩
  · subst h1
    have := hg.own (by simpa using he) h4
    omega
  · exfalso; rw [he] at h1; omega

theorem Sh.found {base text : List UInt8} {p q f c : Nat} {L : List Ins} (h : Sh base text p q L) (hp : p < text.length) (hb : base.length < 16777217) (ht : text.length < 16777217) (hc : c ≠ 0) (hg : Lg base (text.drop p) f c) :
    Sh base text (p + c) (p + c) (L ++ litI ((text.drop q).take (p - q)) ++ [.cop f c]) := by
  have hqp := h.qp
  have hpl := h.pl
  have hle := hg.le
  have hfit := hg.fit
  rw [List.length_drop] at hle
  have htl : ((text.drop q).take (p - q)).length = p - q := by rw [List.length_take, List.length_drop]; omega
  have hout : outs base (L ++ litI ((text.drop q).take (p - q)) ++ [.cop f c]) = text.take (p + c) := by
    rw [outs_snoc, outs_append, h.out, litI_out]
    show text.take q ++ (text.drop q).take (p - q) ++ (base.drop f).take c = text.take (p + c)
    rw [hg.same, ← List.take_add, show q + (p - q) = p by omega, ← List.take_add]
  have hlen : (encs (L ++ litI ((text.drop q).take (p - q)) ++ [.cop f c])).length ≤ (encs L).length + (litE ((text.drop q).take (p - q))).length + 20 := by
    have := enc_cop_len f c (by omega) (by omega)
    rw [encs_snoc, encs_append, ← litE_encs, List.length_append, List.length_append]; omega
  have hll := litE_len ((text.drop q).take (p - q)) (by omega)
  have hl0 := h.len
  refine ⟨oks_snoc (fun i hi => ?_) ⟨by omega, hfit, by omega⟩, hout, Nat.le_refl _, by omega, by omega, fun he h4 => ?_⟩
  · rcases List.mem_append.1 hi with h1 | h1
    · exact h.ok i h1
    · exact litI_ok base _ (by omega) i h1
  · rcases h.own he h4 with ⟨h1, h2, h3⟩ | ⟨h1, _⟩
    · subst h1; subst h2; subst h3
      have := hg.own (by simpa using he) h4
      refine .inr ⟨by omega, by omega, ?_⟩
      have hz : litE ((text.drop 0).take (0 - 0)) = [] := by simp [litE]
      rw [hz] at hlen
      simpa [encs] using hlen
    · exfalso; rw [he] at h1; omega

/-- The end: what is left is a literal. -/
theorem Sh.done {base text : List UInt8} {p q : Nat} {L : List Ins} (h : Sh base text p q L) (hp : p = text.length) (ht : text.length < 16777217) :
    oks base (L ++ litI (text.drop q)) ∧ outs base (L ++ litI (text.drop q)) = text ∧ (base = text → 4 ≤ base.length → (encs (L ++ litI (text.drop q))).length ≤ 20) ∧ (encs (L ++ litI (text.drop q))).length ≤ 31 * text.length + 10 := by
  have hqp := h.qp
  have hll := litE_len (text.drop q) (by rw [List.length_drop]; omega)
  rw [List.length_drop] at hll
  have hl0 := h.len
  refine ⟨fun i hi => ?_, by rw [outs_append, h.out, litI_out, List.take_append_drop], fun he h4 => ?_, by rw [encs_append, ← litE_encs, List.length_append]; omega⟩
  · rcases List.mem_append.1 hi with h1 | h1
    · exact h.ok i h1
    · exact litI_ok base _ (by rw [List.length_drop]; omega) i h1
  · rcases h.own he h4 with ⟨h1, _⟩ | ⟨h1, h2, h3⟩
    · exfalso; rw [he] at h4; omega
    · have hz : litI (text.drop q) = [] := by
        unfold litI
        rw [if_pos (List.drop_of_length_le (by rw [← he]; omega))]
      rw [hz, List.append_nil]; exact h3

end Dl
end Go.Proofs.Ytoglbmibbdpjcaa
