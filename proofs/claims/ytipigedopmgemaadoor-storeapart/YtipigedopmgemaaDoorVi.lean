/-
  THE MATHEMATICS OF LAYER 1 (varints): no program, no model: what the groups of seven bits spell, which bytes are an encoding, and that encoding and reading undo one another.
  WALKS OF LAYER 1: mayEnd, Get (varint).
  WALKS OF LAYER 1: Put (varint), Put (knapsackref01).
  WALKS OF LAYER 1: Text and Take, of the program and of the document.
  WALKS OF LAYER 1, taken up in layer 4: what was put is got, a text that was written is taken.
-/
import Derived.Lib.Varint
import Derived.Test.YtipigedopmgemaaDoorRows
import Derived.WalkKit
import Derived.WalkSpells
import Derived.WalkLawsBesides
import Derived.Lib.Hide
import Derived.Lib.VarintBits
import Derived.Deep.QuietTactic
import Derived.BigQuiet
section
namespace Go.Proofs.YtipigedopmgemaaDoor
namespace Vi
open Go.Lib (uvarint uvarint_small uvarint_big uvarint_length64 uvarint_pos)

/-- What groups of seven bits spell, the lowest first. -/
def val : List UInt8 → Nat
  | [] => 0
  | b :: r => b.toNat % 128 + 128 * val r

theorem val_append : ∀ c d : List UInt8, val (c ++ d) = val c + 128 ^ c.length * val d
  | [], d => by simp [val]
  | b :: r, d => by
    simp only [List.cons_append, val, List.length_cons, val_append r d, Nat.pow_succ]
    rw [Nat.mul_add, Nat.mul_comm (128 ^ r.length) 128, Nat.mul_assoc]
    omega

theorem val_one (b : UInt8) : val [b] = b.toNat % 128 := by simp [val]

theorem val_lt : ∀ c : List UInt8, val c < 128 ^ c.length
  | [] => by simp [val]
  | b :: r => by
    have := val_lt r
    simp only [val, List.length_cons, Nat.pow_succ]
    omega

theorem val_drop_le (c : List UInt8) (k : Nat) : val (c.drop k) ≤ val c := by
  have h := val_append (c.take k) (c.drop k)
  rw [List.take_append_drop] at h
  have hp : 0 < 128 ^ (c.take k).length := Nat.pow_pos (by decide)
  have : val (c.drop k) ≤ 128 ^ (c.take k).length * val (c.drop k) := Nat.le_mul_of_pos_left _ hp
  omega

theorem val_take_succ (l : List UInt8) (k : Nat) (h : k < l.length) : val (l.take (k + 1)) = val (l.take k) + 128 ^ k * (l[k].toNat % 128) := by
  rw [List.take_succ_eq_append_getElem h, val_append, val_one, List.length_take, Nat.min_eq_left (by omega)]

theorem val_drop_succ (c : List UInt8) (k : Nat) (h : k < c.length) : val (c.drop k) = c[k].toNat % 128 + 128 * val (c.drop (k + 1)) := by
  rw [List.drop_eq_getElem_cons h]; rfl

/-- The bytes of l up to and with the one at e are the encoding of a number. -/
structure Ok (l : List UInt8) (e : Nat) : Prop where
  lt10 : e < 10
  lt : e < l.length
  more : ∀ (j : Nat) (h : j < l.length), j < e → 128 ≤ l[j].toNat
  last : l[e].toNat < 128
  least : 0 < e → l[e].toNat ≠ 0
  fits : e = 9 → l[e].toNat ≤ 1

theorem Ok.val_lt {l : List UInt8} {e : Nat} (h : Ok l e) : val (l.take (e + 1)) < 18446744073709551616 := by
  have hlt := h.lt
  rw [val_take_succ l e hlt]
  have h1 := Vi.val_lt (l.take e)
  rw [List.length_take, Nat.min_eq_left (by have := h.lt; omega)] at h1
  by_cases h9 : e = 9
  · have h2 := h.fits h9
    have h3 : l[e].toNat % 128 ≤ 1 := by omega
    have e9 : (128 : Nat) ^ e = 9223372036854775808 := by rw [h9]
    rw [e9] at h1 ⊢
    omega
  · have hle : e + 1 ≤ 9 := by have := h.lt10; omega
    have h4 : (128 : Nat) ^ (e + 1) ≤ 128 ^ 9 := Nat.pow_le_pow_right (by decide) hle
    have e9 : (128 : Nat) ^ 9 = 9223372036854775808 := by decide
    rw [Nat.pow_succ, e9] at h4
    have h5 : 128 ^ e * (l[e].toNat % 128) ≤ 128 ^ e * 127 := Nat.mul_le_mul_left _ (by omega)
    omega

theorem Ok.uniq {l : List UInt8} {a b : Nat} (h : Ok l a) (k : Ok l b) : a = b := by
  rcases Nat.lt_trichotomy a b with g | g | g
  · have := k.more a h.lt g; have := h.last; omega
  · exact g
  · have := h.more b k.lt g; have := k.last; omega

/-- A list of bytes that is an encoding: all but the last have the bit 128, the last has not, and is not 0 if there is another. -/
def Can : List UInt8 → Prop
  | [] => False
  | [b] => b.toNat < 128
  | b :: c :: r => 128 ≤ b.toNat ∧ Can (c :: r) ∧ 0 < val (c :: r)

theorem byte_back (b : UInt8) (n : Nat) (h : n = b.toNat) : n.toUInt8 = b := by
  subst h; simp [Nat.toUInt8]

theorem Can.enc : ∀ c : List UInt8, Can c → uvarint (val c) = c
  | [], h => h.elim
  | [b], h => by
    have h' : b.toNat < 128 := h
    rw [val_one, Nat.mod_eq_of_lt h', uvarint_small h', byte_back b _ rfl]
  | b :: c :: r, h => by
    obtain ⟨h1, h2, h3⟩ := h
    have ih := Can.enc (c :: r) h2
    have hb := b.toNat_lt
    have hv : val (b :: c :: r) = b.toNat % 128 + 128 * val (c :: r) := rfl
    generalize val (c :: r) = v at *
    rw [hv, uvarint_big (by omega), byte_back b _ (by omega), show (b.toNat % 128 + 128 * v) / 128 = v by omega, ih]

theorem can_of : ∀ (c : List UInt8) (h0 : 0 < c.length), (∀ (j : Nat) (h : j < c.length), j < c.length - 1 → 128 ≤ c[j].toNat) →
    c[c.length - 1].toNat < 128 → (1 < c.length → c[c.length - 1].toNat ≠ 0) → Can c ∧ (c[c.length - 1].toNat ≠ 0 → 0 < val c)
  | [], h0, _, _, _ => absurd h0 (by simp)
  | [b], _, _, hl, _ => by
    have hl' : b.toNat < 128 := hl
    refine ⟨hl', fun h => ?_⟩
    have h' : b.toNat ≠ 0 := h
    rw [val_one]; omega
  | b :: c :: r, _, hm, hl, hz => by
    have hlen : (b :: c :: r).length = (c :: r).length + 1 := rfl
    have e1 : (b :: c :: r)[(b :: c :: r).length - 1]'(by simp) = (c :: r)[(c :: r).length - 1]'(by simp) := by simp [List.getElem_cons_succ]
    rw [e1] at hl hz
    have hz' := hz (by simp)
    have ih := can_of (c :: r) (by simp) (fun j h hj => by
        have := hm (j + 1) (by simp at h ⊢; omega) (by simp at hj ⊢; omega)
        simpa using this) hl (fun _ => hz')
    have hb := hm 0 (by simp) (by simp)
    have hp := ih.2 hz'
    refine ⟨⟨by simpa using hb, ih.1, hp⟩, fun _ => ?_⟩
    show 0 < b.toNat % 128 + 128 * val (c :: r)
    omega

theorem Ok.back {l : List UInt8} {e : Nat} (h : Ok l e) : uvarint (val (l.take (e + 1))) = l.take (e + 1) := by
  have hlt := h.lt
  have hlen : (l.take (e + 1)).length = e + 1 := by rw [List.length_take]; omega
  apply Can.enc
  refine (can_of _ (by omega) (fun j hj hj' => ?_) ?_ ?_).1
  · rw [List.getElem_take]; exact h.more j (by omega) (by omega)
  · rw [List.getElem_take]; simp only [hlen, Nat.add_sub_cancel]; exact h.last
  · intro h1
    rw [List.getElem_take]; simp only [hlen, Nat.add_sub_cancel]; exact h.least (by omega)

theorem val_uvarint : ∀ n : Nat, val (uvarint n) = n := by
  intro n
  induction n using Nat.strongRecOn with
  | _ n ih =>
    by_cases h : n < 128
    · rw [uvarint_small h, val_one]
      have : n.toUInt8.toNat = n := by simp [Nat.toUInt8]; omega
      omega
    · rw [uvarint_big (by omega)]
      have e : (n % 128 + 128).toUInt8.toNat = n % 128 + 128 := by simp [Nat.toUInt8]; omega
      simp only [val, e, ih (n / 128) (by omega)]
      omega

theorem uvarint_more : ∀ (n j : Nat) (h : j < (uvarint n).length), j + 1 < (uvarint n).length → 128 ≤ ((uvarint n)[j]).toNat := by
  intro n
  induction n using Nat.strongRecOn with
  | _ n ih =>
    intro j h h1
    by_cases hn : n < 128
    · rw [uvarint_small hn] at h1; simp at h1
    · have e := uvarint_big (x := n) (by omega)
      have eb : (n % 128 + 128).toUInt8.toNat = n % 128 + 128 := by simp [Nat.toUInt8]; omega
      have key : ∀ (c : List UInt8) (hc : c = (n % 128 + 128).toUInt8 :: uvarint (n / 128)) (h : j < c.length), j + 1 < c.length → 128 ≤ (c[j]).toNat := by
        intro c hc h h1
        subst hc
        cases j with
        | zero => rw [List.getElem_cons_zero, eb]; omega
        | succ j =>
          rw [List.getElem_cons_succ]
          exact ih (n / 128) (by omega) j (by simpa using h) (by simpa using h1)
      exact key _ e h h1

theorem uvarint_last : ∀ (n : Nat) (h : (uvarint n).length - 1 < (uvarint n).length), ((uvarint n)[(uvarint n).length - 1]).toNat < 128 ∧ (128 ≤ n → ((uvarint n)[(uvarint n).length - 1]).toNat ≠ 0) ∧ (0 < n → ((uvarint n)[(uvarint n).length - 1]).toNat ≠ 0) := by
  intro n
  induction n using Nat.strongRecOn with
  | _ n ih =>
    intro h
    by_cases hn : n < 128
    · have e := uvarint_small hn
      have key : ∀ (c : List UInt8) (hc : c = [n.toUInt8]) (h : c.length - 1 < c.length), (c[c.length - 1]).toNat = n := by
        intro c hc h; subst hc; simp [Nat.toUInt8]; omega
      rw [key _ e h]; omega
    · have e := uvarint_big (x := n) (by omega)
      have hp := uvarint_pos (n / 128)
      have key : ∀ (c : List UInt8) (hc : c = (n % 128 + 128).toUInt8 :: uvarint (n / 128)) (h : c.length - 1 < c.length), c[c.length - 1] = (uvarint (n / 128))[(uvarint (n / 128)).length - 1]'(by omega) := by
        intro c hc h; subst hc
        simp only [List.length_cons, Nat.add_sub_cancel]
        rw [List.getElem_cons]
        rw [dif_neg (by omega)]
      rw [key _ e h]
      have := ih (n / 128) (by omega) (by omega)
      exact ⟨this.1, fun _ => this.2.2 (by omega), fun _ => this.2.2 (by omega)⟩

theorem len_one (n : Nat) (h : 1 < (uvarint n).length) : 128 ≤ n := by
  by_cases hn : n < 128
  · rw [uvarint_small hn] at h; simp at h
  · omega

/-- What is put stands, whatever is behind it, as the encoding of a number. -/
theorem ok_put (n : Nat) (hn : n < 18446744073709551616) (s : List UInt8) : Ok (uvarint n ++ s) ((uvarint n).length - 1) := by
  have hp := uvarint_pos n
  have h10 := uvarint_length64 hn
  have hlast := uvarint_last n (by omega)
  have eg : (uvarint n ++ s)[(uvarint n).length - 1]'(by simp; omega) = (uvarint n)[(uvarint n).length - 1]'(by omega) := List.getElem_append_left (by omega)
  refine ⟨by omega, by simp; omega, fun j h hj => ?_, ?_, fun h => ?_, fun h9 => ?_⟩
  · rw [List.getElem_append_left (by omega)]; exact uvarint_more n j (by omega) (by omega)
  · rw [eg]; exact hlast.1
  · rw [eg]; exact hlast.2.1 (len_one n (by omega))
  · rw [eg]
    have hl : (uvarint n).length = 9 + 1 := by omega
    have hv := val_take_succ (uvarint n) 9 (by omega)
    rw [List.take_of_length_le (by omega), val_uvarint] at hv
    have e9 : (128 : Nat) ^ 9 = 9223372036854775808 := by decide
    rw [e9] at hv
    have h1 := hlast.1
    have key : ∀ (k : Nat) (hk : k = 9) (h : k < (uvarint n).length), ((uvarint n)[k]).toNat < 128 → ((uvarint n)[k]).toNat ≤ 1 := by
      intro k hk h hlt; subst hk; omega
    exact key _ h9 _ h1

theorem take_put (n : Nat) (s : List UInt8) : (uvarint n ++ s).take ((uvarint n).length - 1 + 1) = uvarint n := by
  have hp := uvarint_pos n
  rw [show (uvarint n).length - 1 + 1 = (uvarint n).length by omega, List.take_left']
  rfl

theorem val_put (n : Nat) (s : List UInt8) : val ((uvarint n ++ s).take ((uvarint n).length - 1 + 1)) = n := by rw [take_put, val_uvarint]

end Vi
end Go.Proofs.YtipigedopmgemaaDoor
end

section
namespace Go.Proofs.YtipigedopmgemaaDoor
open Go.RowKit
set_option linter.unusedVariables false

theorem ret_tuple2 {a a' b b' : Value} (h1 : a = a') (h2 : b = b') : Ending.returned (.tuple #[a, b]) = .returned (.tuple #[a', b']) := by rw [h1, h2]

set_option maxHeartbeats 400000 in
theorem mayEnd_yes (b i : Int) (w : World) (hi : 0 ≤ i) (hi9 : i ≤ 9) (hb : 0 ≤ b) (hz : i = 0 ∨ 1 ≤ b) (h9 : i ≤ 8 ∨ b ≤ 1) :
    Calls Tryd.prog 89 #[.int .u8 b, .int .i64 i] w fun e w' => e = .returned (.bool true) ∧ w = w' := by
  go_enter Tryd.func89, Tryd.ntmps89
  go_wp2
  all_goals go_ret
  all_goals refine ⟨?_, rfl⟩
  all_goals first | rfl | (simp; omega)

set_option maxHeartbeats 400000 in
theorem mayEnd_no (b i : Int) (w : World) (hi : 0 ≤ i) (hi9 : i ≤ 9) (hb : 0 ≤ b) (h : (0 < i ∧ b = 0) ∨ (i = 9 ∧ 1 < b)) :
    Calls Tryd.prog 89 #[.int .u8 b, .int .i64 i] w fun e w' => e = .returned (.bool false) ∧ w = w' := by
  rcases h with ⟨h1, rfl⟩ | ⟨rfl, h1⟩
  all_goals
    go_enter Tryd.func89, Tryd.ntmps89
    go_wp2
    all_goals go_ret
    all_goals refine ⟨?_, rfl⟩
    all_goals first | rfl | (simp; omega)

theorem ret_tuple3 {a a' b b' c c' : Value} (h1 : a = a') (h2 : b = b') (h3 : c = c') : Ending.returned (.tuple #[a, b, c]) = .returned (.tuple #[a', b', c']) := by rw [h1, h2, h3]
theorem val_int {k : IntKind} {a b : Int} (h : a = b) : Value.int k a = .int k b := by rw [h]

theorem pow7 (k : Nat) : (2 : Int) ^ (7 * k) = 128 ^ k := by rw [Int.pow_mul]; rfl

/-- One group more: 'n |= uint64(s[k]%128) << (7*k)'. -/
theorem or_step (l : List UInt8) (k : Nat) (h : k < l.length) (h9 : k ≤ 9) (hf : k = 9 → l[k].toNat % 128 ≤ 1) :
    bits .or .u64 (Vi.val (l.take k) : Int) (IntKind.u64.wrap ((l[k].toNat : Int) % 128 * 2 ^ (7 * k))) = (Vi.val (l.take (k + 1)) : Int) := by
  have h1 := Vi.val_lt (l.take k)
  rw [List.length_take, Nat.min_eq_left (by omega)] at h1
  have hb : 128 ^ k * (l[k].toNat % 128) < 18446744073709551616 := by
    by_cases e9 : k = 9
    · have h3 := hf e9
      have p9 : (128 : Nat) ^ k = 9223372036854775808 := by rw [e9]
      rw [p9]; omega
    · have h4 : (128 : Nat) ^ (k + 1) ≤ 128 ^ 9 := Nat.pow_le_pow_right (by decide) (by omega)
      have p9 : (128 : Nat) ^ 9 = 9223372036854775808 := by decide
      rw [Nat.pow_succ, p9] at h4
      have h5 : 128 ^ k * (l[k].toNat % 128) ≤ 128 ^ k * 127 := Nat.mul_le_mul_left _ (by omega)
      omega
  have hlow : (128 : Nat) ^ k ≤ 9223372036854775808 := by
    have h4 : (128 : Nat) ^ k ≤ 128 ^ 9 := Nat.pow_le_pow_right (by decide) h9
    have p9 : (128 : Nat) ^ 9 = 9223372036854775808 := by decide
    omega
  have ex : (l[k].toNat : Int) % 128 * 2 ^ (7 * k) = ((128 ^ k * (l[k].toNat % 128) : Nat) : Int) := by
    rw [pow7, Int.mul_comm]
    simp
  rw [ex, u64_wrap_id _ (by omega) (by omega), Vi.val_take_succ l k h]
  rw [bits_join_low .u64 64 (by decide) wraps_u64 (7 * k) _ _ (by omega) (by rw [pow7]; exact_mod_cast h1) (by omega) (by omega) (by rw [pow7]; simp) (by omega)]
  simp

theorem at_list (s : ByteArray) (k : Nat) (h : k < s.size) : s[k] = s.data.toList[k]'(by simpa using h) := rfl
theorem size_list (s : ByteArray) : s.data.toList.length = s.size := by simp

set_option maxHeartbeats 400000 in
set_option maxRecDepth 100000 in
theorem get_ok (s : ByteArray) (w : World) (hs : s.size ≤ maxLen) (e : Nat) (h : Vi.Ok s.data.toList e) :
    Calls Tryd.prog 76 #[.string s] w fun r w' => r = .returned (.tuple #[.int .u64 (Vi.val (s.data.toList.take (e + 1))), .string (s.extract (e + 1) s.size), .int .i64 0]) ∧ ∃ n, w' = w.drewN n := by
  unfold maxLen at hs
  have hle := size_list s
  have hes : e < s.size := by have := h.lt; omega
  have h10 := h.lt10
  clear hle
  go_enter Tryd.func76, Tryd.ntmps76
  go_wp2
  go_loop [5, 6] (fun n i => ∃ k : Nat, k ≤ e ∧ i = .int .i64 k ∧ n = .int .u64 (Vi.val (s.data.toList.take k))) (fun _ i => e - (intOf i).toNat)
  case atStart => exact ⟨0, Nat.zero_le _, rfl, rfl⟩
  case round =>
    obtain ⟨k, hk, rfl, rfl⟩ := hrel
    by_cases hlt : k < e
    · have hks : k < s.size := by omega
      have h128 : (128 : Int) ≤ (s[k].toNat : Int) := by rw [at_list s k hks]; have := h.more k (by rw [size_list]; omega) hlt; omega
      go_wp2_with fail
      go_round
      case rel => exact ⟨k + 1, by omega, by go_num, val_int (or_step s.data.toList k (by rw [size_list]; omega) (by omega) (fun h => by omega))⟩
      case measure => simp [intOf]; omega
    · obtain rfl : k = e := by omega
      have hl : (s[k].toNat : Int) < 128 := by rw [at_list s k hes]; have := h.last; omega
      have hz : (k : Int) = 0 ∨ (1 : Int) ≤ (s[k].toNat : Int) := by
        rw [at_list s k hes]
        by_cases h0 : k = 0
        · left; omega
        · right; have := h.least (by omega); omega
      have h9 : (k : Int) ≤ 8 ∨ (s[k].toNat : Int) ≤ 1 := by
        rw [at_list s k hes]
        by_cases h9 : k = 9
        · right; have := h.fits h9; omega
        · left; omega
      have HO := Lib.hid (or_step s.data.toList k (by rw [size_list]; omega) (by omega) (fun hk9 => by have := h.fits hk9; omega))
      go_wp2_with (go_at_call 89; refine (mayEnd_yes _ _ _ (by omega) (by omega) (by omega) hz h9).mono ?_; rintro e w' ⟨rfl, rfl⟩)
      go_region
      go_wp2
      go_ret3
      exact ⟨ret_tuple3 (val_int HO.out) rfl rfl, _, rfl⟩

set_option maxHeartbeats 400000 in
set_option maxRecDepth 100000 in
theorem get_none (s : ByteArray) (w : World) (hs : s.size ≤ maxLen) (h : ∀ e, ¬ Vi.Ok s.data.toList e) :
    Calls Tryd.prog 76 #[.string s] w fun r w' => r = .returned (.tuple #[.int .u64 0, .string ⟨#[]⟩, .int .i64 2]) ∧ w = w' := by
  unfold maxLen at hs
  have HN := Lib.hid h
  clear h
  go_enter Tryd.func76, Tryd.ntmps76
  go_wp2
  go_loop [5, 6] (fun n i => ∃ (k : Nat) (m : Int), k ≤ 10 ∧ k ≤ s.size ∧ i = .int .i64 k ∧ n = .int .u64 m ∧ Hid (∀ (j : Nat) (h : j < s.data.toList.length), j < k → 128 ≤ (s.data.toList[j]).toNat)) (fun _ i => 10 - (intOf i).toNat)
  case atStart => exact ⟨0, 0, by omega, Nat.zero_le _, rfl, rfl, fun j _ h => absurd h (by omega)⟩
  case round =>
    obtain ⟨k, m, hk, hks, rfl, rfl, HM⟩ := hrel
    by_cases hin : k < s.size ∧ k < 10
    · obtain ⟨hlt, hl10⟩ := hin
      by_cases hb : (128 : Int) ≤ (s[k].toNat : Int)
      · go_wp2_with fail
        go_round
        case rel =>
          refine ⟨k + 1, _, by omega, by omega, by go_num, rfl, fun j hj hjk => ?_⟩
          by_cases e : j = k
          · subst e; rw [at_list s j hlt] at hb; omega
          · exact HM.out j hj (by omega)
        case measure => simp [intOf]; omega
      · have hl : (s[k].toNat : Int) < 128 := by omega
        have hno : (0 < (k : Int) ∧ (s[k].toNat : Int) = 0) ∨ ((k : Int) = 9 ∧ 1 < (s[k].toNat : Int)) := by
          by_cases c1 : 0 < k ∧ s[k].toNat = 0
          · left; omega
          · by_cases c2 : k = 9 ∧ 1 < s[k].toNat
            · right; omega
            · exfalso
              have hkl : k < s.data.toList.length := by rw [size_list]; exact hlt
              have e : s[k].toNat = (s.data.toList[k]).toNat := by rw [at_list s k hlt]
              refine HN.out k ⟨hl10, hkl, HM.out, by omega, fun h0 hz => c1 ⟨h0, by omega⟩, fun h9 => ?_⟩
              rcases Nat.lt_or_ge 1 s[k].toNat with g | g
              · exact absurd ⟨h9, g⟩ c2
              · omega
        have HO := Lib.hid hno
        clear hno hb
        go_wp2_with (go_at_call 89; refine (mayEnd_no _ _ _ (by omega) (by omega) (by omega) HO.out).mono ?_; rintro e w' ⟨rfl, rfl⟩)
        go_ret3
        exact ⟨rfl, rfl⟩
    · by_cases hlt : k < s.size
      · have hge : (10 : Int) ≤ (k : Int) := by omega
        go_wp2_with fail
        go_ret3
        exact ⟨rfl, rfl⟩
      · go_wp2_with fail
        go_ret3
        exact ⟨rfl, rfl⟩

end Go.Proofs.YtipigedopmgemaaDoor
end

section
namespace Go.Proofs.YtipigedopmgemaaDoor
open Go.RowKit
set_option linter.unusedVariables false

theorem Tryd.infoByte : (Tryd.prog.info? 5).map (fun i => (i.zero, i.size, i.bytes)) = some (some (.int .u8 0), 1, 1) := by kernel_rfl

/-- Bytes as the cells of a row. -/
def cellsOf (l : List UInt8) : List Value := l.map fun b => Value.int .u8 (b.toNat : Int)
theorem cellsOf_length (l : List UInt8) : (cellsOf l).length = l.length := by simp [cellsOf]

theorem cellsOf_snoc (l : List UInt8) (b : UInt8) (x : Int) (h : x = (b.toNat : Int)) : cellsOf l ++ [.int .u8 x] = cellsOf (l ++ [b]) := by
  subst h; simp [cellsOf]

/-- A row of bytes that is owned, and not empty: where it lies, and its cells. -/
theorem own_bytes {w : World} {base : Nat} {v : Value} {n : Nat} {l : List UInt8} (h : w.ownsRow base 5 1 v n (cellsOf l)) (hn : 0 < n) :
    ∃ g cap, v = .slice (some ⟨g, 0, none⟩) n cap ∧ n = l.length ∧ base ≤ g ∧ ∀ (j : Nat) (hj : j < l.length), w.cell? ((⟨g, 0, none⟩ : Addr).add j) = some (.int .u8 ((l[j]).toNat : Int)) := by
  have hl := h.1
  rw [cellsOf_length] at hl
  have hnl : n = l.length := by omega
  rcases h.2 with ⟨_, h0⟩ | ⟨g, cap, cur, hv, hg, _⟩
  · omega
  · refine ⟨g, cap, hv, hnl, hg, fun j hj => ?_⟩
    refine h.cells (by rw [hv]; rfl) j _ ?_
    simp [cellsOf, hj]

theorem u8_or128 (m : Nat) : bits .or .u8 ((m : Int) % 128) 128 = ((m % 128 + 128).toUInt8.toNat : Int) := by
  rw [Lib.u8_or128_any _ (by omega) (by omega)]
  have : (m % 128 + 128).toUInt8.toNat = m % 128 + 128 := by simp [Nat.toUInt8]; omega
  omega

theorem ret_str {a b : ByteArray} (h : a = b) : Ending.returned (.string a) = .returned (.string b) := by rw [h]

/-- 'string([]byte{x})': the row that was just laid, as a string. -/
theorem conv_one (w : World) (b : UInt8) (x : Int) (h : x = (b.toNat : Int)) : (convert 56 9 (.slice (some ⟨w.heap.size, 0, none⟩) 1 1)).run Tryd.prog (w.alloc (.cells #[.int .u8 x] 5)) = .ok (.string ⟨#[b]⟩) (w.alloc (.cells #[.int .u8 x] 5)) := by
  subst h
  exact run_convert_bytes_back (P := Tryd.prog) (w.alloc (.cells #[.int .u8 (b.toNat : Int)] 5)) 56 9 5 ⟨w.heap.size, 0, none⟩ 1 [b] Tryd.underlying56 Tryd.underlying5 Tryd.underlying9 (fun j hj => by
    have hj0 : j = 0 := by simpa using hj
    subst hj0
    exact cell_one_new w _ 5 0 _ rfl)

theorem bytes_snoc (acc : List UInt8) (x y : UInt8) (h : x = y) : (ByteArray.mk acc.toArray ++ ByteArray.mk #[x]) = ByteArray.mk (acc ++ [y]).toArray := by
  subst h; exact ByteArray.mk_append_mk acc [x]
theorem val_str {a b : ByteArray} (h : a = b) : Value.string a = .string b := by rw [h]

set_option maxHeartbeats 400000 in
set_option maxRecDepth 100000 in
theorem refput_any (n : Nat) (w : World) (hn : n < 18446744073709551616) :
    Calls Tryd.prog 53 #[.int .u64 n] w fun r w' => r = .returned (.string ⟨(Lib.uvarint n).toArray⟩) ∧ Below w.heap.size w w' := by
  have h10 := Lib.uvarint_length64 hn
  go_enter Tryd.func53, Tryd.ntmps53
  go_wp2
  go_loopw [0, 3] (fun x b wr => ∃ (m : Nat) (acc : List UInt8), x = .int .u64 m ∧ m ≤ n ∧ Hid (Lib.uvarint n = acc ++ Lib.uvarint m) ∧ b = .string ⟨acc.toArray⟩ ∧ Below w.heap.size w wr) (fun x _ _ => (intOf x).toNat)
  case atStart => exact ⟨n, [], rfl, Nat.le_refl _, rfl, rfl, Below.refl _ _⟩
  case round =>
    obtain ⟨m, acc, rfl, hm, HU, rfl, hb⟩ := hrel
    have hacc : acc.length + (Lib.uvarint m).length ≤ 10 := by have := HU.out; rw [this] at h10; simpa using h10
    have hbs := hb.size
    by_cases hlt : (128 : Int) ≤ (m : Int)
    · have hcv := conv_one wr (m % 128 + 128).toUInt8 (128 + (m : Int) % 128) (by have : (m % 128 + 128).toUInt8.toNat = m % 128 + 128 := by { simp [Nat.toUInt8]; omega }; omega)
      have hmid : Lib.uvarint n = (acc ++ [(m % 128 + 128).toUInt8]) ++ Lib.uvarint (m / 128) := by
        rw [HU.out, Lib.uvarint_big (by omega)]; simp
      have HU' := Lib.hid hmid
      clear hmid HU
      go_wp2_with fail
      exact ⟨⟨m / 128, acc ++ [(m % 128 + 128).toUInt8], by go_num, by omega, HU'.out, val_str (bytes_snoc _ _ _ (by simp)), hb.alloc hbs _⟩, by simp [intOf]; omega⟩
    · have hcv := conv_one wr m.toUInt8 (m : Int) (by have : m.toUInt8.toNat = m := by { simp [Nat.toUInt8]; omega }; omega)
      have hmid : Lib.uvarint n = acc ++ [m.toUInt8] := by rw [HU.out, Lib.uvarint_small (by omega)]
      have HU' := Lib.hid hmid
      clear hmid HU
      go_wp2_with fail
      go_ret
      exact ⟨ret_str (by rw [HU'.out]; exact bytes_snoc _ _ _ (by simp)), hb.alloc hbs _⟩

end Go.Proofs.YtipigedopmgemaaDoor
end

section
namespace Go.Proofs.YtipigedopmgemaaDoor
open Go.RowKit
set_option linter.unusedVariables false

/-- The bytes of a string with its length ahead. -/
def textOf (t : ByteArray) : ByteArray := ⟨(Lib.uvarint t.size).toArray⟩ ++ t

set_option maxHeartbeats 400000 in
set_option maxRecDepth 100000 in
theorem reftext_any (t : ByteArray) (w : World) (ht : t.size ≤ 281474976710656) :
    Calls Tryd.prog 35 #[.string t] w fun r w' => r = .returned (.string (textOf t)) ∧ Below w.heap.size w w' := by
  have hl := Lib.uvarint_length64 (x := t.size) (by omega)
  go_enter Tryd.func35, Tryd.ntmps35
  go_wp2_with fail
  refine (refput_any t.size _ (by omega)).mono ?_
  rintro e w1 ⟨rfl, hb⟩
  go_wp2_with fail
  go_ret
  exact ⟨rfl, hb⟩

set_option maxHeartbeats 400000 in
set_option maxRecDepth 100000 in
theorem take_none (s : ByteArray) (w : World) (hs : s.size ≤ maxLen) (h : ∀ e, ¬ Vi.Ok s.data.toList e) :
    Calls Tryd.prog 56 #[.string s] w fun r w' => r = .returned (.tuple #[.string ⟨#[]⟩, .string ⟨#[]⟩, .int .i64 2]) ∧ w = w' := by
  have H := Lib.hid h
  clear h
  go_enter Tryd.func56, Tryd.ntmps56
  go_wp2_with fail
  refine (get_none s _ hs H.out).mono ?_
  rintro e w1 ⟨rfl, rfl⟩
  go_wp2_with fail
  go_ret3
  exact ⟨rfl, rfl⟩

set_option maxHeartbeats 400000 in
set_option maxRecDepth 100000 in
theorem take_short (s : ByteArray) (w : World) (hs : s.size ≤ maxLen) (e : Nat) (h : Vi.Ok s.data.toList e) (hv : s.size - (e + 1) < Vi.val (s.data.toList.take (e + 1))) :
    Calls Tryd.prog 56 #[.string s] w fun r w' => r = .returned (.tuple #[.string ⟨#[]⟩, .string ⟨#[]⟩, .int .i64 2]) ∧ ∃ n, w' = w.drewN n := by
  have hlt := h.lt
  rw [size_list] at hlt
  have H := Lib.hid h
  have hsz := hs
  unfold maxLen at hsz
  have hvl := h.val_lt
  clear h
  generalize hx : Vi.val (s.data.toList.take (e + 1)) = x at *
  have HX := Lib.hid hx
  clear hx
  go_enter Tryd.func56, Tryd.ntmps56
  go_wp2_with fail
  refine (get_ok s _ hs e H.out).mono ?_
  rintro r w1 ⟨rfl, n1, rfl⟩
  rw [HX.out]
  go_wp2_with fail
  go_ret3
  exact ⟨rfl, _, rfl⟩

set_option maxHeartbeats 400000 in
set_option maxRecDepth 100000 in
theorem take_ok (s : ByteArray) (w : World) (hs : s.size ≤ maxLen) (e : Nat) (h : Vi.Ok s.data.toList e) (hv : Vi.val (s.data.toList.take (e + 1)) ≤ s.size - (e + 1)) :
    Calls Tryd.prog 56 #[.string s] w fun r w' => r = .returned (.tuple #[.string ((s.extract (e + 1) s.size).extract 0 (Vi.val (s.data.toList.take (e + 1)))), .string ((s.extract (e + 1) s.size).extract (Vi.val (s.data.toList.take (e + 1))) (s.size - (e + 1))), .int .i64 0]) ∧ ∃ n, w' = w.drewN n := by
  have hlt := h.lt
  rw [size_list] at hlt
  have H := Lib.hid h
  have hsz := hs
  unfold maxLen at hsz
  have hvl := h.val_lt
  clear h
  generalize hx : Vi.val (s.data.toList.take (e + 1)) = x at *
  have HX := Lib.hid hx
  clear hx
  have hrs : (s.extract (e + 1) s.size).size = s.size - (e + 1) := by simp
  rw [← hrs]
  generalize hre : s.extract (e + 1) s.size = rest at *
  have HR := Lib.hid hre
  clear hre
  have hr1 : x ≤ rest.size := by omega
  have hr2 : rest.size ≤ 9223372036854775807 := by omega
  have hw3 : IntKind.u64.wrap (rest.size : Int) = (rest.size : Int) := u64_wrap_id _ (by omega) (by omega)
  clear hrs hv hvl hlt hsz
  go_enter Tryd.func56, Tryd.ntmps56
  go_wp2_with fail
  refine (get_ok s _ hs e H.out).mono ?_
  rintro r w1 ⟨rfl, n1, rfl⟩
  rw [HX.out, HR.out]
  go_wp2_with fail
  go_region
  all_goals go_wp2
  all_goals go_ret3
  all_goals exact ⟨rfl, n1 + 1, rfl⟩

end Go.Proofs.YtipigedopmgemaaDoor
end

section
namespace Go.Proofs.YtipigedopmgemaaDoor
open Go.RowKit
set_option linter.unusedVariables false

theorem below_step {w w1 w2 : World} (h1 : Below w.heap.size w w1) (h2 : Below w1.heap.size w1 w2) : Below w.heap.size w w2 := h1.trans (h2.mono h1.size)
theorem below_drawn (w : World) (n : Nat) : Below w.heap.size w (w.drewN n) := below_drewN (Below.refl _ _) n

theorem extract_list (s : ByteArray) (a b : Nat) : (s.extract a b).toList = (s.data.toList.drop a).take (b - a) := by
  rw [ByteArray.toList_eq, show s.extract a b = (ByteArray.mk s.data.toList.toArray).extract a b by simp, ByteArray.extract_mk]

theorem bytes_ext {a b : ByteArray} (h : a.data.toList = b.data.toList) : a = b := by
  cases a with | mk x => cases b with | mk y => simp only [Array.toList_inj] at h; subst h; rfl

theorem list_append (a b : ByteArray) : (a ++ b).data.toList = a.data.toList ++ b.data.toList := by
  rw [ByteArray.data_append]; simp

theorem extract_data (s : ByteArray) (a b : Nat) : (s.extract a b).data.toList = (s.data.toList.drop a).take (b - a) := by
  rw [← ByteArray.toList_eq, extract_list]

theorem put_list (n : Nat) (s : ByteArray) : (ByteArray.mk (Lib.uvarint n).toArray ++ s).data.toList = Lib.uvarint n ++ s.data.toList := by
  rw [list_append]

/-- What was put is got, whatever stands behind. -/
theorem get_put (n : Nat) (s : ByteArray) (w : World) (hn : n < 18446744073709551616) (hs : s.size ≤ 562949953421312) :
    Calls Tryd.prog 76 #[.string (⟨(Lib.uvarint n).toArray⟩ ++ s)] w fun r w' => r = .returned (.tuple #[.int .u64 n, .string s, .int .i64 0]) ∧ ∃ k, w' = w.drewN k := by
  have hl := Lib.uvarint_length64 hn
  have hp := Lib.uvarint_pos n
  have hsz : (ByteArray.mk (Lib.uvarint n).toArray ++ s).size = (Lib.uvarint n).length + s.size := by rw [← size_list, put_list]; simp
  have hok : Vi.Ok (ByteArray.mk (Lib.uvarint n).toArray ++ s).data.toList ((Lib.uvarint n).length - 1) := by rw [put_list]; exact Vi.ok_put n hn _
  refine (get_ok _ w (by unfold maxLen; omega) _ hok).mono ?_
  rintro r w' ⟨rfl, h⟩
  refine ⟨ret_tuple3 (val_int ?_) (val_str (bytes_ext ?_)) rfl, h⟩
  · rw [put_list, Vi.val_put]
  · rw [extract_data, put_list, hsz, show (Lib.uvarint n).length - 1 + 1 = (Lib.uvarint n).length by omega, List.drop_left' rfl, List.take_of_length_le (by simp)]

/-- A text that was written is taken, whatever stands behind. -/
theorem take_text (t s : ByteArray) (w : World) (ht : t.size ≤ 281474976710656) (hs : s.size ≤ 281474976710656) :
    Calls Tryd.prog 56 #[.string (textOf t ++ s)] w fun r w' => r = .returned (.tuple #[.string t, .string s, .int .i64 0]) ∧ ∃ k, w' = w.drewN k := by
  have hn : t.size < 18446744073709551616 := by omega
  have hl := Lib.uvarint_length64 hn
  have hp := Lib.uvarint_pos t.size
  have hlist : (textOf t ++ s).data.toList = Lib.uvarint t.size ++ (t.data.toList ++ s.data.toList) := by
    unfold textOf; rw [list_append, put_list, List.append_assoc]
  have hsz : (textOf t ++ s).size = (Lib.uvarint t.size).length + (t.size + s.size) := by
    rw [← size_list, hlist]; simp
  have hok : Vi.Ok (textOf t ++ s).data.toList ((Lib.uvarint t.size).length - 1) := by rw [hlist]; exact Vi.ok_put _ hn _
  have hval : Vi.val ((textOf t ++ s).data.toList.take ((Lib.uvarint t.size).length - 1 + 1)) = t.size := by rw [hlist, Vi.val_put]
  refine (take_ok _ w (by unfold maxLen; omega) _ hok (by rw [hval]; omega)).mono ?_
  rintro r w' ⟨rfl, h⟩
  have hdrop : ((textOf t ++ s).extract ((Lib.uvarint t.size).length - 1 + 1) (textOf t ++ s).size).data.toList = t.data.toList ++ s.data.toList := by
    rw [extract_data, hlist, hsz, show (Lib.uvarint t.size).length - 1 + 1 = (Lib.uvarint t.size).length by omega, List.drop_left' rfl, List.take_of_length_le (by simp)]
  refine ⟨ret_tuple3 (val_str (bytes_ext ?_)) (val_str (bytes_ext ?_)) rfl, h⟩
  · rw [extract_data, hdrop, hval, List.drop_zero, Nat.sub_zero, List.take_left' (by simp)]
  · rw [extract_data, hdrop, hval, hsz, List.drop_left' (by simp), List.take_of_length_le (by simp; omega)]

theorem got_put {s : ByteArray} {e : Nat} (h : Vi.Ok s.data.toList e) :
    ((ByteArray.mk (Lib.uvarint (Vi.val (s.data.toList.take (e + 1)))).toArray ++ s.extract (e + 1) s.size).toList == s.toList) = true := by
  rw [beq_iff_eq, ByteArray.toList_eq, ByteArray.toList_eq, put_list, h.back, extract_data, List.take_of_length_le (l := List.drop _ _) (by simp), List.take_append_drop]

theorem took_text {s : ByteArray} {e : Nat} (h : Vi.Ok s.data.toList e) (hv : Vi.val (s.data.toList.take (e + 1)) ≤ s.size - (e + 1)) :
    ((textOf ((s.extract (e + 1) s.size).extract 0 (Vi.val (s.data.toList.take (e + 1)))) ++ (s.extract (e + 1) s.size).extract (Vi.val (s.data.toList.take (e + 1))) (s.size - (e + 1))).toList == s.toList) = true := by
  have hb := h.back
  have hlt := h.lt
  rw [size_list] at hlt
  generalize Vi.val (s.data.toList.take (e + 1)) = x at *
  have hd : (s.extract (e + 1) s.size).data.toList = s.data.toList.drop (e + 1) := by rw [extract_data, List.take_of_length_le (by simp)]
  have hsz : ((s.extract (e + 1) s.size).extract 0 x).size = x := by
    rw [← size_list, extract_data, hd]; simp; omega
  have h1 : ((s.extract (e + 1) s.size).extract 0 x).data.toList = (s.data.toList.drop (e + 1)).take x := by
    rw [extract_data (s.extract (e + 1) s.size), hd, List.drop_zero, Nat.sub_zero]
  have h2 : ((s.extract (e + 1) s.size).extract x (s.size - (e + 1))).data.toList = (s.data.toList.drop (e + 1)).drop x := by
    rw [extract_data (s.extract (e + 1) s.size), hd, List.take_of_length_le (by simp; omega)]
  rw [beq_iff_eq, ByteArray.toList_eq, ByteArray.toList_eq]
  unfold textOf
  rw [list_append, put_list, hsz, hb, h1, h2, List.append_assoc, List.take_append_drop, List.take_append_drop]

theorem text_size (t : ByteArray) (ht : t.size ≤ 281474976710656) : (textOf t).size ≤ 281474976710666 := by
  have hl := Lib.uvarint_length64 (x := t.size) (by omega)
  unfold textOf
  rw [← size_list, put_list]; simp; omega

end Go.Proofs.YtipigedopmgemaaDoor
end
