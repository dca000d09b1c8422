/-
  THE MATHEMATICS OF LAYER 6 (delta): no program, no model: a step of a delta, what steps come to, and that measuring first and producing then is the same as going step by step.
-/
import Derived.Test.YtoglbmibbdpjcaaViMath
namespace Go.Proofs.Ytoglbmibbdpjcaa
namespace Lz
open Vi

def endAt : List UInt8 → Nat
  | [] => 0
  | b :: r => if 128 ≤ b.toNat then endAt r + 1 else 0

theorem endAt_eq : ∀ (l : List UInt8) (e : Nat) (h : e < l.length), (∀ (j : Nat) (h : j < l.length), j < e → 128 ≤ l[j].toNat) → l[e].toNat < 128 → endAt l = e
  | [], e, h, _, _ => absurd h (by simp)
  | b :: r, 0, _, _, hl => by
    have hl' : b.toNat < 128 := hl
    simp only [endAt]; rw [if_neg (by omega)]
  | b :: r, e + 1, h, hm, hl => by
    have h0 : 128 ≤ b.toNat := hm 0 (by simp) (by omega)
    simp only [endAt]; rw [if_pos h0, endAt_eq r e (by simpa using h) (fun j hj hje => hm (j + 1) (by simpa using hj) (by omega)) hl]

theorem endAt_more : ∀ (l : List UInt8) (j : Nat) (h : j < l.length), j < endAt l → 128 ≤ l[j].toNat
  | [], j, h, _ => absurd h (by simp)
  | b :: r, j, h, hj => by
    by_cases hb : 128 ≤ b.toNat
    · simp only [endAt, if_pos hb] at hj
      cases j with
      | zero => exact hb
      | succ j => exact endAt_more r j (by simpa using h) (by omega)
    · simp only [endAt, if_neg hb] at hj; omega

theorem endAt_last : ∀ (l : List UInt8) (h : endAt l < l.length), l[endAt l].toNat < 128
  | [], h => absurd h (by simp)
  | b :: r, h => by
    by_cases hb : 128 ≤ b.toNat
    · have he : endAt (b :: r) = endAt r + 1 := by simp only [endAt, if_pos hb]
      have hr : endAt r < r.length := by rw [he] at h; simpa using h
      have := endAt_last r hr
      have key : ∀ (k : Nat) (hk : k = endAt r + 1) (h : k < (b :: r).length), ((b :: r)[k]).toNat < 128 := by
        intro k hk h; subst hk; simpa using this
      exact key _ he _
    · have he : endAt (b :: r) = 0 := by simp only [endAt, if_neg hb]
      have key : ∀ (k : Nat) (hk : k = 0) (h : k < (b :: r).length), ((b :: r)[k]).toNat < 128 := by
        intro k hk h; subst hk; show b.toNat < 128; omega
      exact key _ he _

/-- The number that bytes begin with, and how many bytes it has. -/
def vget (l : List UInt8) : Option (Nat × Nat) :=
  if endAt l < 10 ∧ endAt l < l.length ∧ (0 < endAt l → (l.getD (endAt l) 0).toNat ≠ 0) ∧ (endAt l = 9 → (l.getD (endAt l) 0).toNat ≤ 1) then some (val (l.take (endAt l + 1)), endAt l + 1) else none

theorem getD_at (l : List UInt8) (e : Nat) (h : e < l.length) : l.getD e 0 = l[e] := by simp [h]

theorem vget_ok {l : List UInt8} {e : Nat} (h : Ok l e) : vget l = some (val (l.take (e + 1)), e + 1) := by
  have he := endAt_eq l e h.lt h.more h.last
  have hlt := h.lt
  unfold vget
  rw [he, if_pos ⟨h.lt10, h.lt, fun h0 => by rw [getD_at l e hlt]; exact h.least h0, fun h9 => by rw [getD_at l e hlt]; exact h.fits h9⟩]

theorem vget_some {l : List UInt8} {n k : Nat} (h : vget l = some (n, k)) : ∃ e, Ok l e ∧ n = val (l.take (e + 1)) ∧ k = e + 1 := by
  unfold vget at h
  split at h
  · rename_i hc
    obtain ⟨h1, h2, h3, h4⟩ := hc
    simp only [Option.some.injEq, Prod.mk.injEq] at h
    rw [getD_at l _ h2] at h3 h4
    exact ⟨endAt l, ⟨h1, h2, endAt_more l, endAt_last l h2, h3, h4⟩, h.1.symm, h.2.symm⟩
  · cases h

theorem vget_none {l : List UInt8} (h : vget l = none) : ∀ e, ¬ Ok l e := fun e he => by rw [vget_ok he] at h; cases h

theorem vget_bd {l : List UInt8} {n k : Nat} (h : vget l = some (n, k)) : 1 ≤ k ∧ k ≤ l.length ∧ k ≤ 10 ∧ n < 18446744073709551616 := by
  obtain ⟨e, he, rfl, rfl⟩ := vget_some h
  have := he.lt; have := he.lt10
  exact ⟨by omega, by omega, by omega, he.val_lt⟩

theorem vget_put (n : Nat) (hn : n < 18446744073709551616) (s : List UInt8) : vget (Go.Lib.uvarint n ++ s) = some (n, (Go.Lib.uvarint n).length) := by
  have hp := Go.Lib.uvarint_pos n
  rw [vget_ok (ok_put n hn s), val_put, show (Go.Lib.uvarint n).length - 1 + 1 = (Go.Lib.uvarint n).length by omega]

end Lz
namespace Dl
open Lz (vget vget_bd)

/-- The first step of bytes: what it appends, and how many bytes it has. -/
def stp (base l : List UInt8) : Option (List UInt8 × Nat) :=
  match vget l with
  | none => none
  | some (n, k) =>
    if n % 2 = 0 then (if n / 2 < 1 ∨ l.length - k < n / 2 then none else some ((l.drop k).take (n / 2), k + n / 2))
    else match vget (l.drop k) with
      | none => none
      | some (p, m) => if n / 2 < 1 ∨ base.length < p ∨ base.length - p < n / 2 then none else some ((base.drop p).take (n / 2), k + m)

theorem stp_bd {base l x : List UInt8} {h : Nat} (hs : stp base l = some (x, h)) : 1 ≤ x.length ∧ 1 ≤ h ∧ h ≤ l.length ∧ x.length ≤ base.length + h := by
  unfold stp at hs
  split at hs
  · cases hs
  · rename_i n k hv
    have hb := vget_bd hv
    split at hs
    · split at hs
      · cases hs
      · simp only [Option.some.injEq, Prod.mk.injEq] at hs
        obtain ⟨rfl, rfl⟩ := hs
        rw [List.length_take, List.length_drop]
        omega
    · split at hs
      · cases hs
      · rename_i p m hv2
        have hb2 := vget_bd hv2
        rw [List.length_drop] at hb2
        split at hs
        · cases hs
        · simp only [Option.some.injEq, Prod.mk.injEq] at hs
          obtain ⟨rfl, rfl⟩ := hs
          rw [List.length_take, List.length_drop]
          omega

/-- What steps come to, step by step: the text, if it has just so many bytes. -/
def runF (base : List UInt8) (tgt : Nat) : Nat → List UInt8 → List UInt8 → Option (List UInt8)
  | 0, _, out => if out.length = tgt then some out else none
  | k + 1, l, out =>
    if l = [] then (if out.length = tgt then some out else none)
    else match stp base l with
      | none => none
      | some (x, h) => if tgt < out.length + x.length then none else runF base tgt k (l.drop h) (out ++ x)

/-- The steps measured alone. -/
def mesF (base : List UInt8) : Nat → List UInt8 → Nat → Bool
  | 0, _, left => decide (left = 0)
  | k + 1, l, left =>
    if l = [] then decide (left = 0)
    else match stp base l with
      | none => false
      | some (x, h) => if left < x.length then false else mesF base k (l.drop h) (left - x.length)

/-- The text that steps produce. -/
def proF (base : List UInt8) : Nat → List UInt8 → List UInt8 → List UInt8
  | 0, _, out => out
  | k + 1, l, out =>
    if l = [] then out
    else match stp base l with
      | none => out
      | some (x, h) => proF base k (l.drop h) (out ++ x)

theorem runF_nil (base : List UInt8) (t k : Nat) (out : List UInt8) : runF base t k [] out = if out.length = t then some out else none := by cases k <;> simp [runF]
theorem mesF_nil (base : List UInt8) (k t : Nat) : mesF base k [] t = decide (t = 0) := by cases k <;> simp [mesF]
theorem proF_nil (base : List UInt8) (k : Nat) (out : List UInt8) : proF base k [] out = out := by cases k <;> simp [proF]

theorem runF_bad {base : List UInt8} {t k : Nat} {l out : List UInt8} (hl : l ≠ []) (hk : l.length ≤ k) (h : stp base l = none) : runF base t k l out = none := by
  cases k with
  | zero => exact absurd (List.eq_nil_of_length_eq_zero (by omega)) hl
  | succ k => simp [runF, hl, h]
theorem runF_most {base : List UInt8} {t k : Nat} {l out x : List UInt8} {h : Nat} (hl : l ≠ []) (hk : l.length ≤ k) (hs : stp base l = some (x, h)) (hm : t < out.length + x.length) : runF base t k l out = none := by
  cases k with
  | zero => exact absurd (List.eq_nil_of_length_eq_zero (by omega)) hl
  | succ k => simp [runF, hl, hs, hm]
theorem runF_step {base : List UInt8} {t k : Nat} {l out x : List UInt8} {h : Nat} (hl : l ≠ []) (hs : stp base l = some (x, h)) (hm : ¬ t < out.length + x.length) : runF base t (k + 1) l out = runF base t k (l.drop h) (out ++ x) := by
  simp [runF, hl, hs, hm]
theorem mesF_bad {base : List UInt8} {k t : Nat} {l : List UInt8} (hl : l ≠ []) (hk : l.length ≤ k) (h : stp base l = none) : mesF base k l t = false := by
  cases k with
  | zero => exact absurd (List.eq_nil_of_length_eq_zero (by omega)) hl
  | succ k => simp [mesF, hl, h]
theorem mesF_most {base : List UInt8} {k t : Nat} {l x : List UInt8} {h : Nat} (hl : l ≠ []) (hk : l.length ≤ k) (hs : stp base l = some (x, h)) (hm : t < x.length) : mesF base k l t = false := by
  cases k with
  | zero => exact absurd (List.eq_nil_of_length_eq_zero (by omega)) hl
  | succ k => simp [mesF, hl, hs, hm]
theorem mesF_step {base : List UInt8} {k t : Nat} {l x : List UInt8} {h : Nat} (hl : l ≠ []) (hs : stp base l = some (x, h)) (hm : ¬ t < x.length) : mesF base (k + 1) l t = mesF base k (l.drop h) (t - x.length) := by
  simp [mesF, hl, hs, hm]
theorem proF_step {base : List UInt8} {k : Nat} {l out x : List UInt8} {h : Nat} (hl : l ≠ []) (hs : stp base l = some (x, h)) : proF base (k + 1) l out = proF base k (l.drop h) (out ++ x) := by
  simp [proF, hl, hs]

theorem drop_lt {base l x : List UInt8} {h : Nat} (hs : stp base l = some (x, h)) (k : Nat) (hk : l.length ≤ k + 1) : (l.drop h).length ≤ k := by
  have hb := stp_bd hs
  rw [List.length_drop]; omega

/-- Measured first, produced then: the same as step by step. -/
theorem run_split (base : List UInt8) (t : Nat) : ∀ (k : Nat) (l out : List UInt8), l.length ≤ k → out.length ≤ t →
    (mesF base k l (t - out.length) = true ∧ runF base t k l out = some (proF base k l out) ∧ (proF base k l out).length = t) ∨
    (mesF base k l (t - out.length) = false ∧ runF base t k l out = none)
  | 0, l, out, _, ht => by
    by_cases h : out.length = t
    · left; simp [mesF, runF, proF, h]
    · right; simp [mesF, runF, h]; omega
  | k + 1, l, out, hk, ht => by
    by_cases hl : l = []
    · subst hl; rw [mesF_nil, runF_nil, proF_nil]
      by_cases h : out.length = t
      · left; simp [h]
      · right; simp [h]; omega
    · cases hs : stp base l with
      | none => right; rw [mesF_bad hl hk hs, runF_bad hl hk hs]; exact ⟨rfl, rfl⟩
      | some p =>
        obtain ⟨x, h⟩ := p
        by_cases hm : t < out.length + x.length
        · right; rw [mesF_most hl hk hs (by omega), runF_most hl hk hs hm]; exact ⟨rfl, rfl⟩
        · rw [mesF_step hl hs (by omega), runF_step hl hs hm, proF_step hl hs]
          have := run_split base t k (l.drop h) (out ++ x) (drop_lt hs k hk) (by rw [List.length_append]; omega)
          rw [List.length_append, show t - (out.length + x.length) = t - out.length - x.length by omega] at this
          exact this

/-- What steps that are measured can come to at most. -/
theorem mes_le (base : List UInt8) : ∀ (k : Nat) (l : List UInt8) (t : Nat), l.length ≤ k → mesF base k l t = true → t ≤ l.length * (base.length + 1)
  | 0, l, t, hk, h => by simp [mesF] at h; omega
  | k + 1, l, t, hk, h => by
    by_cases hl : l = []
    · subst hl; rw [mesF_nil] at h; simp at h; omega
    · cases hs : stp base l with
      | none => rw [mesF_bad hl hk hs] at h; cases h
      | some p =>
        obtain ⟨x, q⟩ := p
        by_cases hm : t < x.length
        · rw [mesF_most hl hk hs hm] at h; cases h
        · rw [mesF_step hl hs hm] at h
          have ih := mes_le base k (l.drop q) (t - x.length) (drop_lt hs k hk) h
          have hb := stp_bd hs
          rw [List.length_drop] at ih
          have e1 : (l.length - q) * (base.length + 1) + q * (base.length + 1) = l.length * (base.length + 1) := by
            rw [← Nat.add_mul, Nat.sub_add_cancel hb.2.2.1]
          have e2 : base.length + q ≤ q * (base.length + 1) := by
            obtain ⟨r, hr⟩ : ∃ r, q = r + 1 := ⟨q - 1, by omega⟩
            subst hr
            rw [Nat.add_mul, Nat.mul_add]
            have : 0 ≤ r * base.length := Nat.zero_le _
            omega
          omega

/-- The two numbers that a delta begins with, and how many bytes they have. -/
def hd (d : List UInt8) : Option (Nat × Nat × Nat) :=
  match vget d with
  | none => none
  | some (b, k) => match vget (d.drop k) with
    | none => none
    | some (t, m) => some (b, t, k + m)

theorem hd_bd {d : List UInt8} {b t k : Nat} (h : hd d = some (b, t, k)) : k ≤ d.length ∧ b < 18446744073709551616 ∧ t < 18446744073709551616 ∧ 2 ≤ k := by
  unfold hd at h
  split at h
  · cases h
  · rename_i b' k' hv
    split at h
    · cases h
    · rename_i t' m hv2
      have h1 := vget_bd hv
      have h2 := vget_bd hv2
      rw [List.length_drop] at h2
      simp only [Option.some.injEq, Prod.mk.injEq] at h
      obtain ⟨rfl, rfl, rfl⟩ := h
      omega

def ofRun : Option (List UInt8) → Nat × List UInt8
  | none => (2, [])
  | some o => (0, o)

/-- Apply as the document has it: the error's number, and the text. -/
def app (base d : List UInt8) (most : Int) : Nat × List UInt8 :=
  if most < 0 then (1, [])
  else match hd d with
    | none => (2, [])
    | some (b, t, k) =>
      if b ≠ base.length then (6, [])
      else if most.toNat < t then (3, [])
      else ofRun (runF base t (d.length - k) (d.drop k) [])

/-- Size as the document has it: the error's number, and the number. -/
def siz (d : List UInt8) : Nat × Nat :=
  match hd d with
  | none => (2, 0)
  | some (_, t, _) => if 2147483647 < t then (2, 0) else (0, t)

end Dl
end Go.Proofs.Ytoglbmibbdpjcaa
