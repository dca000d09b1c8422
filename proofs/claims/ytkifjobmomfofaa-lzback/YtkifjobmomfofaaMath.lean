/-
  THE MATHEMATICS OF LAYER 5 (lz): no program, no model: a step of a packed text, what steps come to, and that measuring first and producing then is the same as going step by step.
-/
import Derived.Test.YtkifjobmomfofaaViMath
namespace Go.Proofs.Ytkifjobmomfofaa
namespace Lz
open Vi

def endAt : List UInt8 → Nat
  | [] => 0
  | b :: r => if 128 ≤ b.toNat then endAt r + 1 else 0

theorem endAt_eq : ∀ (l : List UInt8) (e : Nat) (h : e < l.length), (∀ (j : Nat) (h : j < l.length), j < e → 128 ≤ l[j].toNat) → l[e].toNat < 128 → endAt l = e
  | [], e, h, _, _ => absurd h (by simp)
  | b :: r, 0, _, _, hl => by
    have hl' : b.toNat < 128 := hl
    simp only [endAt]; rw [if_neg (by omega)]
  | b :: r, e + 1, h, hm, hl => by
    have h0 : 128 ≤ b.toNat := hm 0 (by simp) (by omega)
    simp only [endAt]; rw [if_pos h0, endAt_eq r e (by simpa using h) (fun j hj hje => hm (j + 1) (by simpa using hj) (by omega)) hl]

theorem endAt_more : ∀ (l : List UInt8) (j : Nat) (h : j < l.length), j < endAt l → 128 ≤ l[j].toNat
  | [], j, h, _ => absurd h (by simp)
  | b :: r, j, h, hj => by
    by_cases hb : 128 ≤ b.toNat
    · simp only [endAt, if_pos hb] at hj
      cases j with
      | zero => exact hb
      | succ j => exact endAt_more r j (by simpa using h) (by omega)
    · simp only [endAt, if_neg hb] at hj; omega

theorem endAt_last : ∀ (l : List UInt8) (h : endAt l < l.length), l[endAt l].toNat < 128
  | [], h => absurd h (by simp)
  | b :: r, h => by
    by_cases hb : 128 ≤ b.toNat
    · have he : endAt (b :: r) = endAt r + 1 := by simp only [endAt, if_pos hb]
      have hr : endAt r < r.length := by rw [he] at h; simpa using h
      have := endAt_last r hr
      have key : ∀ (k : Nat) (hk : k = endAt r + 1) (h : k < (b :: r).length), ((b :: r)[k]).toNat < 128 := by
        intro k hk h; subst hk; simpa using this
      exact key _ he _
    · have he : endAt (b :: r) = 0 := by simp only [endAt, if_neg hb]
      have key : ∀ (k : Nat) (hk : k = 0) (h : k < (b :: r).length), ((b :: r)[k]).toNat < 128 := by
        intro k hk h; subst hk; show b.toNat < 128; omega
      exact key _ he _

/-- The number that bytes begin with, and how many bytes it has. -/
def vget (l : List UInt8) : Option (Nat × Nat) :=
  if endAt l < 10 ∧ endAt l < l.length ∧ (0 < endAt l → (l.getD (endAt l) 0).toNat ≠ 0) ∧ (endAt l = 9 → (l.getD (endAt l) 0).toNat ≤ 1) then some (val (l.take (endAt l + 1)), endAt l + 1) else none

theorem getD_at (l : List UInt8) (e : Nat) (h : e < l.length) : l.getD e 0 = l[e] := by simp [h]

theorem vget_ok {l : List UInt8} {e : Nat} (h : Ok l e) : vget l = some (val (l.take (e + 1)), e + 1) := by
  have he := endAt_eq l e h.lt h.more h.last
  have hlt := h.lt
  unfold vget
  rw [he, if_pos ⟨h.lt10, h.lt, fun h0 => by rw [getD_at l e hlt]; exact h.least h0, fun h9 => by rw [getD_at l e hlt]; exact h.fits h9⟩]

theorem vget_some {l : List UInt8} {n k : Nat} (h : vget l = some (n, k)) : ∃ e, Ok l e ∧ n = val (l.take (e + 1)) ∧ k = e + 1 := by
  unfold vget at h
  split at h
  · rename_i hc
    obtain ⟨h1, h2, h3, h4⟩ := hc
    simp only [Option.some.injEq, Prod.mk.injEq] at h
    rw [getD_at l _ h2] at h3 h4
    exact ⟨endAt l, ⟨h1, h2, endAt_more l, endAt_last l h2, h3, h4⟩, h.1.symm, h.2.symm⟩
  · cases h

theorem vget_none {l : List UInt8} (h : vget l = none) : ∀ e, ¬ Ok l e := fun e he => by rw [vget_ok he] at h; cases h

theorem vget_bd {l : List UInt8} {n k : Nat} (h : vget l = some (n, k)) : 1 ≤ k ∧ k ≤ l.length ∧ k ≤ 10 ∧ n < 18446744073709551616 := by
  obtain ⟨e, he, rfl, rfl⟩ := vget_some h
  have := he.lt; have := he.lt10
  exact ⟨by omega, by omega, by omega, he.val_lt⟩

theorem vget_put (n : Nat) (hn : n < 18446744073709551616) (s : List UInt8) : vget (Go.Lib.uvarint n ++ s) = some (n, (Go.Lib.uvarint n).length) := by
  have hp := Go.Lib.uvarint_pos n
  rw [vget_ok (ok_put n hn s), val_put, show (Go.Lib.uvarint n).length - 1 + 1 = (Go.Lib.uvarint n).length by omega]

/-- The first step of bytes, when so many bytes were produced: how many bytes it produces, how far back they lie (0: they stand behind it), and how many bytes its numbers have. -/
def stp (l : List UInt8) (tot : Nat) : Option (Nat × Nat × Nat) :=
  match vget l with
  | none => none
  | some (n, k) =>
    if n % 2 = 0 then (if n / 2 < 1 ∨ l.length - k < n / 2 then none else some (n / 2, 0, k))
    else match vget (l.drop k) with
      | none => none
      | some (f, m) => if n / 2 < 4 ∨ f < 1 ∨ 65535 < f ∨ tot < f then none else some (n / 2, f, k + m)

/-- How many bytes the step has in all. -/
def used (c f h : Nat) : Nat := if f = 0 then h + c else h

def copy (f : Nat) : Nat → List UInt8 → List UInt8
  | 0, out => out
  | c + 1, out => copy f c (out ++ [out.getD (out.length - f) 0])

/-- What is there behind the step. -/
def emit (l out : List UInt8) (c f h : Nat) : List UInt8 := if f = 0 then out ++ (l.drop h).take c else copy f c out

theorem stp_bd {l : List UInt8} {t c f h : Nat} (hs : stp l t = some (c, f, h)) : 1 ≤ c ∧ c < 9223372036854775808 ∧ 1 ≤ h ∧ used c f h ≤ l.length ∧ f ≤ 65535 ∧ f ≤ t ∧ h ≤ l.length ∧ (f = 0 → h + c ≤ l.length) := by
  unfold stp at hs
  split at hs
  · cases hs
  · rename_i n k hv
    have hb := vget_bd hv
    split at hs
    · split at hs
      · cases hs
      · simp only [Option.some.injEq, Prod.mk.injEq] at hs
        obtain ⟨rfl, rfl, rfl⟩ := hs
        unfold used
        refine ⟨by omega, by omega, by omega, by rw [if_pos rfl]; omega, by omega, by omega, by omega, fun _ => by omega⟩
    · split at hs
      · cases hs
      · rename_i f' m hv2
        have hb2 := vget_bd hv2
        rw [List.length_drop] at hb2
        split at hs
        · cases hs
        · simp only [Option.some.injEq, Prod.mk.injEq] at hs
          obtain ⟨rfl, rfl, rfl⟩ := hs
          unfold used
          refine ⟨by omega, by omega, by omega, by rw [if_neg (by omega)]; omega, by omega, by omega, by omega, fun h => by omega⟩

theorem copy_length (f : Nat) : ∀ (c : Nat) (out : List UInt8), (copy f c out).length = out.length + c
  | 0, out => rfl
  | c + 1, out => by rw [copy, copy_length f c]; simp; omega

theorem emit_length {l out : List UInt8} {t c f h : Nat} (hs : stp l t = some (c, f, h)) : (emit l out c f h).length = out.length + c := by
  have hb := stp_bd hs
  unfold emit
  split
  · rename_i hf
    have := hb.2.2.2.2.2.2.2 hf
    simp; omega
  · exact copy_length _ _ _

theorem drop_lt {l : List UInt8} {t c f h : Nat} (hs : stp l t = some (c, f, h)) (k : Nat) (hk : l.length ≤ k + 1) : (l.drop (used c f h)).length ≤ k := by
  have hb := stp_bd hs
  have : 1 ≤ used c f h := by unfold used; split <;> omega
  rw [List.length_drop]; omega

/-- What steps come to, step by step: the error's number, and the text. -/
def runF (most : Nat) : Nat → List UInt8 → List UInt8 → Nat × List UInt8
  | 0, _, out => (0, out)
  | k + 1, l, out =>
    if l = [] then (0, out)
    else match stp l out.length with
      | none => (2, [])
      | some (c, f, h) => if most < out.length + c then (3, []) else runF most k (l.drop (used c f h)) (emit l out c f h)

/-- The steps measured alone: the error's number, and the length. -/
def mesF (most : Nat) : Nat → List UInt8 → Nat → Nat × Nat
  | 0, _, t => (0, t)
  | k + 1, l, t =>
    if l = [] then (0, t)
    else match stp l t with
      | none => (2, 0)
      | some (c, f, h) => if most < t + c then (3, 0) else mesF most k (l.drop (used c f h)) (t + c)

/-- The text that steps produce. -/
def proF : Nat → List UInt8 → List UInt8 → List UInt8
  | 0, _, out => out
  | k + 1, l, out =>
    if l = [] then out
    else match stp l out.length with
      | none => out
      | some (c, f, h) => proF k (l.drop (used c f h)) (emit l out c f h)

theorem runF_nil (most k : Nat) (out : List UInt8) : runF most k [] out = (0, out) := by cases k <;> simp [runF]
theorem mesF_nil (most k t : Nat) : mesF most k [] t = (0, t) := by cases k <;> simp [mesF]
theorem proF_nil (k : Nat) (out : List UInt8) : proF k [] out = out := by cases k <;> simp [proF]

theorem runF_bad {most k : Nat} {l out : List UInt8} (hl : l ≠ []) (hk : l.length ≤ k) (h : stp l out.length = none) : runF most k l out = (2, []) := by
  cases k with
  | zero => exact absurd (List.eq_nil_of_length_eq_zero (by omega)) hl
  | succ k => simp [runF, hl, h]
theorem runF_most {most k : Nat} {l out : List UInt8} {c f h : Nat} (hl : l ≠ []) (hk : l.length ≤ k) (hs : stp l out.length = some (c, f, h)) (hm : most < out.length + c) : runF most k l out = (3, []) := by
  cases k with
  | zero => exact absurd (List.eq_nil_of_length_eq_zero (by omega)) hl
  | succ k => simp [runF, hl, hs, hm]
theorem runF_step {most k : Nat} {l out : List UInt8} {c f h : Nat} (hl : l ≠ []) (hs : stp l out.length = some (c, f, h)) (hm : ¬ most < out.length + c) : runF most (k + 1) l out = runF most k (l.drop (used c f h)) (emit l out c f h) := by
  simp [runF, hl, hs, hm]
theorem mesF_bad {most k t : Nat} {l : List UInt8} (hl : l ≠ []) (hk : l.length ≤ k) (h : stp l t = none) : mesF most k l t = (2, 0) := by
  cases k with
  | zero => exact absurd (List.eq_nil_of_length_eq_zero (by omega)) hl
  | succ k => simp [mesF, hl, h]
theorem mesF_most {most k t : Nat} {l : List UInt8} {c f h : Nat} (hl : l ≠ []) (hk : l.length ≤ k) (hs : stp l t = some (c, f, h)) (hm : most < t + c) : mesF most k l t = (3, 0) := by
  cases k with
  | zero => exact absurd (List.eq_nil_of_length_eq_zero (by omega)) hl
  | succ k => simp [mesF, hl, hs, hm]
theorem mesF_step {most k t : Nat} {l : List UInt8} {c f h : Nat} (hl : l ≠ []) (hs : stp l t = some (c, f, h)) (hm : ¬ most < t + c) : mesF most (k + 1) l t = mesF most k (l.drop (used c f h)) (t + c) := by
  simp [mesF, hl, hs, hm]
theorem proF_step {k : Nat} {l out : List UInt8} {c f h : Nat} (hl : l ≠ []) (hs : stp l out.length = some (c, f, h)) : proF (k + 1) l out = proF k (l.drop (used c f h)) (emit l out c f h) := by
  simp [proF, hl, hs]

/-- Measured first, produced then: the same as step by step. -/
theorem run_split (most : Nat) : ∀ (k : Nat) (l out : List UInt8), l.length ≤ k →
    ((mesF most k l out.length).1 = 0 ∧ runF most k l out = (0, proF k l out) ∧ (proF k l out).length = (mesF most k l out.length).2) ∨
    ((mesF most k l out.length).1 ≠ 0 ∧ runF most k l out = ((mesF most k l out.length).1, []))
  | 0, l, out, _ => .inl ⟨rfl, rfl, rfl⟩
  | k + 1, l, out, hk => by
    by_cases hl : l = []
    · subst hl; left; rw [mesF_nil, runF_nil, proF_nil]; exact ⟨rfl, rfl, rfl⟩
    · cases hs : stp l out.length with
      | none => right; rw [mesF_bad hl hk hs, runF_bad hl hk hs]; exact ⟨by decide, rfl⟩
      | some p =>
        obtain ⟨c, f, h⟩ := p
        by_cases hm : most < out.length + c
        · right; rw [mesF_most hl hk hs hm, runF_most hl hk hs hm]; exact ⟨by decide, rfl⟩
        · rw [mesF_step hl hs hm, runF_step hl hs hm, proF_step hl hs]
          have := run_split most k (l.drop (used c f h)) (emit l out c f h) (drop_lt hs k hk)
          rw [emit_length hs] at this
          exact this

/-- The measure's own bound. -/
theorem mes_le (most : Nat) : ∀ (k : Nat) (l : List UInt8) (t : Nat), t ≤ most → (mesF most k l t).2 ≤ most ∧ ((mesF most k l t).1 = 0 → t ≤ (mesF most k l t).2)
  | 0, l, t, h => ⟨h, fun _ => Nat.le_refl _⟩
  | k + 1, l, t, h => by
    by_cases hl : l = []
    · subst hl; rw [mesF_nil]; exact ⟨h, fun _ => Nat.le_refl _⟩
    · cases hs : stp l t with
      | none => simp [mesF, hl, hs]
      | some p =>
        obtain ⟨c, f, h'⟩ := p
        by_cases hm : most < t + c
        · simp [mesF, hl, hs, hm]
        · rw [mesF_step hl hs hm]
          have := mes_le most k (l.drop (used c f h')) (t + c) (by omega)
          exact ⟨this.1, fun h0 => by have := this.2 h0; omega⟩

/-- Unpack as the document has it: the error's number, and the text. -/
def unp (l : List UInt8) (most : Int) : Nat × List UInt8 :=
  if most < 0 then (1, [])
  else match l with
    | [] => (2, [])
    | b :: r =>
      if b.toNat = 0 then (if most < (r.length : Int) then (3, []) else (0, r))
      else if b.toNat = 1 then runF most.toNat r.length r []
      else (2, [])

end Lz
end Go.Proofs.Ytkifjobmomfofaa
