/-
  THE MATHEMATICS OF LAYER 1 (varints): no program, no model: what the groups of seven bits spell, which bytes are an encoding, and that encoding and reading undo one another.
-/
import Derived.Lib.Varint
namespace Go.Proofs.YtcicfjfbnbkkcaaDoor
namespace Vi
open Go.Lib (uvarint uvarint_small uvarint_big uvarint_length64 uvarint_pos)

/-- What groups of seven bits spell, the lowest first. -/
def val : List UInt8 → Nat
  | [] => 0
  | b :: r => b.toNat % 128 + 128 * val r

theorem val_append : ∀ c d : List UInt8, val (c ++ d) = val c + 128 ^ c.length * val d
  | [], d => by simp [val]
  | b :: r, d => by
    simp only [List.cons_append, val, List.length_cons, val_append r d, Nat.pow_succ]
    rw [Nat.mul_add, Nat.mul_comm (128 ^ r.length) 128, Nat.mul_assoc]
    omega

theorem val_one (b : UInt8) : val [b] = b.toNat % 128 := by simp [val]

theorem val_lt : ∀ c : List UInt8, val c < 128 ^ c.length
  | [] => by simp [val]
  | b :: r => by
    have := val_lt r
    simp only [val, List.length_cons, Nat.pow_succ]
    omega

theorem val_drop_le (c : List UInt8) (k : Nat) : val (c.drop k) ≤ val c := by
  have h := val_append (c.take k) (c.drop k)
  rw [List.take_append_drop] at h
  have hp : 0 < 128 ^ (c.take k).length := Nat.pow_pos (by decide)
  have : val (c.drop k) ≤ 128 ^ (c.take k).length * val (c.drop k) := Nat.le_mul_of_pos_left _ hp
  omega

theorem val_take_succ (l : List UInt8) (k : Nat) (h : k < l.length) : val (l.take (k + 1)) = val (l.take k) + 128 ^ k * (l[k].toNat % 128) := by
  rw [List.take_succ_eq_append_getElem h, val_append, val_one, List.length_take, Nat.min_eq_left (by omega)]

theorem val_drop_succ (c : List UInt8) (k : Nat) (h : k < c.length) : val (c.drop k) = c[k].toNat % 128 + 128 * val (c.drop (k + 1)) := by
  rw [List.drop_eq_getElem_cons h]; rfl

/-- The bytes of l up to and with the one at e are the encoding of a number. -/
structure Ok (l : List UInt8) (e : Nat) : Prop where
  lt10 : e < 10
  lt : e < l.length
  more : ∀ (j : Nat) (h : j < l.length), j < e → 128 ≤ l[j].toNat
  last : l[e].toNat < 128
  least : 0 < e → l[e].toNat ≠ 0
  fits : e = 9 → l[e].toNat ≤ 1

theorem Ok.val_lt {l : List UInt8} {e : Nat} (h : Ok l e) : val (l.take (e + 1)) < 18446744073709551616 := by
  have hlt := h.lt
  rw [val_take_succ l e hlt]
  have h1 := Vi.val_lt (l.take e)
  rw [List.length_take, Nat.min_eq_left (by have := h.lt; omega)] at h1
  by_cases h9 : e = 9
  · have h2 := h.fits h9
    have h3 : l[e].toNat % 128 ≤ 1 := by omega
    have e9 : (128 : Nat) ^ e = 9223372036854775808 := by rw [h9]
    rw [e9] at h1 ⊢
    omega
  · have hle : e + 1 ≤ 9 := by have := h.lt10; omega
    have h4 : (128 : Nat) ^ (e + 1) ≤ 128 ^ 9 := Nat.pow_le_pow_right (by decide) hle
    have e9 : (128 : Nat) ^ 9 = 9223372036854775808 := by decide
    rw [Nat.pow_succ, e9] at h4
    have h5 : 128 ^ e * (l[e].toNat % 128) ≤ 128 ^ e * 127 := Nat.mul_le_mul_left _ (by omega)
    omega

theorem Ok.uniq {l : List UInt8} {a b : Nat} (h : Ok l a) (k : Ok l b) : a = b := by
  rcases Nat.lt_trichotomy a b with g | g | g
  · have := k.more a h.lt g; have := h.last; omega
  · exact g
  · have := h.more b k.lt g; have := k.last; omega

/-- A list of bytes that is an encoding: all but the last have the bit 128, the last has not, and is not 0 if there is another. -/
def Can : List UInt8 → Prop
  | [] => False
  | [b] => b.toNat < 128
  | b :: c :: r => 128 ≤ b.toNat ∧ Can (c :: r) ∧ 0 < val (c :: r)

theorem byte_back (b : UInt8) (n : Nat) (h : n = b.toNat) : n.toUInt8 = b := by
  subst h; simp [Nat.toUInt8]

theorem Can.enc : ∀ c : List UInt8, Can c → uvarint (val c) = c
  | [], h => h.elim
  | [b], h => by
    have h' : b.toNat < 128 := h
    rw [val_one, Nat.mod_eq_of_lt h', uvarint_small h', byte_back b _ rfl]
  | b :: c :: r, h => by
    obtain ⟨h1, h2, h3⟩ := h
    have ih := Can.enc (c :: r) h2
    have hb := b.toNat_lt
    have hv : val (b :: c :: r) = b.toNat % 128 + 128 * val (c :: r) := rfl
    generalize val (c :: r) = v at *
    rw [hv, uvarint_big (by omega), byte_back b _ (by omega), show (b.toNat % 128 + 128 * v) / 128 = v by omega, ih]

theorem can_of : ∀ (c : List UInt8) (h0 : 0 < c.length), (∀ (j : Nat) (h : j < c.length), j < c.length - 1 → 128 ≤ c[j].toNat) →
    c[c.length - 1].toNat < 128 → (1 < c.length → c[c.length - 1].toNat ≠ 0) → Can c ∧ (c[c.length - 1].toNat ≠ 0 → 0 < val c)
  | [], h0, _, _, _ => absurd h0 (by simp)
  | [b], _, _, hl, _ => by
    have hl' : b.toNat < 128 := hl
    refine ⟨hl', fun h => ?_⟩
    have h' : b.toNat ≠ 0 := h
    rw [val_one]; omega
  | b :: c :: r, _, hm, hl, hz => by
    have hlen : (b :: c :: r).length = (c :: r).length + 1 := rfl
    have e1 : (b :: c :: r)[(b :: c :: r).length - 1]'(by simp) = (c :: r)[(c :: r).length - 1]'(by simp) := by simp [List.getElem_cons_succ]
    rw [e1] at hl hz
    have hz' := hz (by simp)
    have ih := can_of (c :: r) (by simp) (fun j h hj => by
        have := hm (j + 1) (by simp at h ⊢; omega) (by simp at hj ⊢; omega)
        simpa using this) hl (fun _ => hz')
    have hb := hm 0 (by simp) (by simp)
    have hp := ih.2 hz'
    refine ⟨⟨by simpa using hb, ih.1, hp⟩, fun _ => ?_⟩
    show 0 < b.toNat % 128 + 128 * val (c :: r)
    omega

theorem Ok.back {l : List UInt8} {e : Nat} (h : Ok l e) : uvarint (val (l.take (e + 1))) = l.take (e + 1) := by
  have hlt := h.lt
  have hlen : (l.take (e + 1)).length = e + 1 := by rw [List.length_take]; omega
  apply Can.enc
  refine (can_of _ (by omega) (fun j hj hj' => ?_) ?_ ?_).1
  · rw [List.getElem_take]; exact h.more j (by omega) (by omega)
  · rw [List.getElem_take]; simp only [hlen, Nat.add_sub_cancel]; exact h.last
  · intro h1
    rw [List.getElem_take]; simp only [hlen, Nat.add_sub_cancel]; exact h.least (by omega)

theorem val_uvarint : ∀ n : Nat, val (uvarint n) = n := by
  intro n
  induction n using Nat.strongRecOn with
  | _ n ih =>
    by_cases h : n < 128
    · rw [uvarint_small h, val_one]
      have : n.toUInt8.toNat = n := by simp [Nat.toUInt8]; omega
      omega
    · rw [uvarint_big (by omega)]
      have e : (n % 128 + 128).toUInt8.toNat = n % 128 + 128 := by simp [Nat.toUInt8]; omega
      simp only [val, e, ih (n / 128) (by omega)]
      omega

theorem uvarint_more : ∀ (n j : Nat) (h : j < (uvarint n).length), j + 1 < (uvarint n).length → 128 ≤ ((uvarint n)[j]).toNat := by
  intro n
  induction n using Nat.strongRecOn with
  | _ n ih =>
    intro j h h1
    by_cases hn : n < 128
    · rw [uvarint_small hn] at h1; simp at h1
    · have e := uvarint_big (x := n) (by omega)
      have eb : (n % 128 + 128).toUInt8.toNat = n % 128 + 128 := by simp [Nat.toUInt8]; omega
      have key : ∀ (c : List UInt8) (hc : c = (n % 128 + 128).toUInt8 :: uvarint (n / 128)) (h : j < c.length), j + 1 < c.length → 128 ≤ (c[j]).toNat := by
        intro c hc h h1
        subst hc
        cases j with
        | zero => rw [List.getElem_cons_zero, eb]; omega
        | succ j =>
          rw [List.getElem_cons_succ]
          exact ih (n / 128) (by omega) j (by simpa using h) (by simpa using h1)
      exact key _ e h h1

theorem uvarint_last : ∀ (n : Nat) (h : (uvarint n).length - 1 < (uvarint n).length), ((uvarint n)[(uvarint n).length - 1]).toNat < 128 ∧ (128 ≤ n → ((uvarint n)[(uvarint n).length - 1]).toNat ≠ 0) ∧ (0 < n → ((uvarint n)[(uvarint n).length - 1]).toNat ≠ 0) := by
  intro n
  induction n using Nat.strongRecOn with
  | _ n ih =>
    intro h
    by_cases hn : n < 128
    · have e := uvarint_small hn
      have key : ∀ (c : List UInt8) (hc : c = [n.toUInt8]) (h : c.length - 1 < c.length), (c[c.length - 1]).toNat = n := by
        intro c hc h; subst hc; simp [Nat.toUInt8]; omega
      rw [key _ e h]; omega
    · have e := uvarint_big (x := n) (by omega)
      have hp := uvarint_pos (n / 128)
      have key : ∀ (c : List UInt8) (hc : c = (n % 128 + 128).toUInt8 :: uvarint (n / 128)) (h : c.length - 1 < c.length), c[c.length - 1] = (uvarint (n / 128))[(uvarint (n / 128)).length - 1]'(by omega) := by
        intro c hc h; subst hc
        simp only [List.length_cons, Nat.add_sub_cancel]
        rw [List.getElem_cons]
        rw [dif_neg (by omega)]
      rw [key _ e h]
      have := ih (n / 128) (by omega) (by omega)
      exact ⟨this.1, fun _ => this.2.2 (by omega), fun _ => this.2.2 (by omega)⟩

theorem len_one (n : Nat) (h : 1 < (uvarint n).length) : 128 ≤ n := by
  by_cases hn : n < 128
  · rw [uvarint_small hn] at h; simp at h
  · omega

/-- What is put stands, whatever is behind it, as the encoding of a number. -/
theorem ok_put (n : Nat) (hn : n < 18446744073709551616) (s : List UInt8) : Ok (uvarint n ++ s) ((uvarint n).length - 1) := by
  have hp := uvarint_pos n
  have h10 := uvarint_length64 hn
  have hlast := uvarint_last n (by omega)
  have eg : (uvarint n ++ s)[(uvarint n).length - 1]'(by simp; omega) = (uvarint n)[(uvarint n).length - 1]'(by omega) := List.getElem_append_left (by omega)
  refine ⟨by omega, by simp; omega, fun j h hj => ?_, ?_, fun h => ?_, fun h9 => ?_⟩
  · rw [List.getElem_append_left (by omega)]; exact uvarint_more n j (by omega) (by omega)
  · rw [eg]; exact hlast.1
  · rw [eg]; exact hlast.2.1 (len_one n (by omega))
  · rw [eg]
    have hl : (uvarint n).length = 9 + 1 := by omega
    have hv := val_take_succ (uvarint n) 9 (by omega)
    rw [List.take_of_length_le (by omega), val_uvarint] at hv
    have e9 : (128 : Nat) ^ 9 = 9223372036854775808 := by decide
    rw [e9] at hv
    have h1 := hlast.1
    have key : ∀ (k : Nat) (hk : k = 9) (h : k < (uvarint n).length), ((uvarint n)[k]).toNat < 128 → ((uvarint n)[k]).toNat ≤ 1 := by
      intro k hk h hlt; subst hk; omega
    exact key _ h9 _ h1

theorem take_put (n : Nat) (s : List UInt8) : (uvarint n ++ s).take ((uvarint n).length - 1 + 1) = uvarint n := by
  have hp := uvarint_pos n
  rw [show (uvarint n).length - 1 + 1 = (uvarint n).length by omega, List.take_left']
  rfl

theorem val_put (n : Nat) (s : List UInt8) : val ((uvarint n ++ s).take ((uvarint n).length - 1 + 1)) = n := by rw [take_put, val_uvarint]

end Vi
end Go.Proofs.YtcicfjfbnbkkcaaDoor
