/-
  WALKS OF LAYER 1: mayEnd, Get (varint).
-/
import Derived.Test.YtcicfjfbnbkkcaaDoorRows
import Derived.Test.YtcicfjfbnbkkcaaDoorViMath
import Derived.WalkKit
import Derived.WalkSpells
import Derived.WalkLawsBesides
import Derived.Lib.Hide
import Derived.Lib.VarintBits
import Derived.Deep.QuietTactic
import Derived.BigQuiet
namespace Go.Proofs.YtcicfjfbnbkkcaaDoor
open Go.RowKit
set_option linter.unusedVariables false

theorem ret_tuple2 {a a' b b' : Value} (h1 : a = a') (h2 : b = b') : Ending.returned (.tuple #[a, b]) = .returned (.tuple #[a', b']) := by rw [h1, h2]

set_option maxHeartbeats 400000 in
theorem mayEnd_yes (b i : Int) (w : World) (hi : 0 ≤ i) (hi9 : i ≤ 9) (hb : 0 ≤ b) (hz : i = 0 ∨ 1 ≤ b) (h9 : i ≤ 8 ∨ b ≤ 1) :
    Calls Tryd.prog 68 #[.int .u8 b, .int .i64 i] w fun e w' => e = .returned (.bool true) ∧ w = w' := by
  go_enter Tryd.func68, Tryd.ntmps68
  go_wp2
  all_goals go_ret
  all_goals refine ⟨?_, rfl⟩
  all_goals first | rfl | (simp; omega)

set_option maxHeartbeats 400000 in
theorem mayEnd_no (b i : Int) (w : World) (hi : 0 ≤ i) (hi9 : i ≤ 9) (hb : 0 ≤ b) (h : (0 < i ∧ b = 0) ∨ (i = 9 ∧ 1 < b)) :
    Calls Tryd.prog 68 #[.int .u8 b, .int .i64 i] w fun e w' => e = .returned (.bool false) ∧ w = w' := by
  rcases h with ⟨h1, rfl⟩ | ⟨rfl, h1⟩
  all_goals
    go_enter Tryd.func68, Tryd.ntmps68
    go_wp2
    all_goals go_ret
    all_goals refine ⟨?_, rfl⟩
    all_goals first | rfl | (simp; omega)

theorem ret_tuple3 {a a' b b' c c' : Value} (h1 : a = a') (h2 : b = b') (h3 : c = c') : Ending.returned (.tuple #[a, b, c]) = .returned (.tuple #[a', b', c']) := by rw [h1, h2, h3]
theorem val_int {k : IntKind} {a b : Int} (h : a = b) : Value.int k a = .int k b := by rw [h]

theorem pow7 (k : Nat) : (2 : Int) ^ (7 * k) = 128 ^ k := by rw [Int.pow_mul]; rfl

/-- One group more: 'n |= uint64(s[k]%128) << (7*k)'. -/
theorem or_step (l : List UInt8) (k : Nat) (h : k < l.length) (h9 : k ≤ 9) (hf : k = 9 → l[k].toNat % 128 ≤ 1) :
    bits .or .u64 (Vi.val (l.take k) : Int) (IntKind.u64.wrap ((l[k].toNat : Int) % 128 * 2 ^ (7 * k))) = (Vi.val (l.take (k + 1)) : Int) := by
  have h1 := Vi.val_lt (l.take k)
  rw [List.length_take, Nat.min_eq_left (by omega)] at h1
  have hb : 128 ^ k * (l[k].toNat % 128) < 18446744073709551616 := by
    by_cases e9 : k = 9
    · have h3 := hf e9
      have p9 : (128 : Nat) ^ k = 9223372036854775808 := by rw [e9]
      rw [p9]; omega
    · have h4 : (128 : Nat) ^ (k + 1) ≤ 128 ^ 9 := Nat.pow_le_pow_right (by decide) (by omega)
      have p9 : (128 : Nat) ^ 9 = 9223372036854775808 := by decide
      rw [Nat.pow_succ, p9] at h4
      have h5 : 128 ^ k * (l[k].toNat % 128) ≤ 128 ^ k * 127 := Nat.mul_le_mul_left _ (by omega)
      omega
  have hlow : (128 : Nat) ^ k ≤ 9223372036854775808 := by
    have h4 : (128 : Nat) ^ k ≤ 128 ^ 9 := Nat.pow_le_pow_right (by decide) h9
    have p9 : (128 : Nat) ^ 9 = 9223372036854775808 := by decide
    omega
  have ex : (l[k].toNat : Int) % 128 * 2 ^ (7 * k) = ((128 ^ k * (l[k].toNat % 128) : Nat) : Int) := by
    rw [pow7, Int.mul_comm]
    simp
  rw [ex, u64_wrap_id _ (by omega) (by omega), Vi.val_take_succ l k h]
  rw [bits_join_low .u64 64 (by decide) wraps_u64 (7 * k) _ _ (by omega) (by rw [pow7]; exact_mod_cast h1) (by omega) (by omega) (by rw [pow7]; simp) (by omega)]
  simp

theorem at_list (s : ByteArray) (k : Nat) (h : k < s.size) : s[k] = s.data.toList[k]'(by simpa using h) := rfl
theorem size_list (s : ByteArray) : s.data.toList.length = s.size := by simp

set_option maxHeartbeats 400000 in
set_option maxRecDepth 100000 in
theorem get_ok (s : ByteArray) (w : World) (hs : s.size ≤ maxLen) (e : Nat) (h : Vi.Ok s.data.toList e) :
    Calls Tryd.prog 53 #[.string s] w fun r w' => r = .returned (.tuple #[.int .u64 (Vi.val (s.data.toList.take (e + 1))), .string (s.extract (e + 1) s.size), .int .i64 0]) ∧ ∃ n, w' = w.drewN n := by
  unfold maxLen at hs
  have hle := size_list s
  have hes : e < s.size := by have := h.lt; omega
  have h10 := h.lt10
  clear hle
  go_enter Tryd.func53, Tryd.ntmps53
  go_wp2
  go_loop [5, 6] (fun n i => ∃ k : Nat, k ≤ e ∧ i = .int .i64 k ∧ n = .int .u64 (Vi.val (s.data.toList.take k))) (fun _ i => e - (intOf i).toNat)
  case atStart => exact ⟨0, Nat.zero_le _, rfl, rfl⟩
  case round =>
    obtain ⟨k, hk, rfl, rfl⟩ := hrel
    by_cases hlt : k < e
    · have hks : k < s.size := by omega
      have h128 : (128 : Int) ≤ (s[k].toNat : Int) := by rw [at_list s k hks]; have := h.more k (by rw [size_list]; omega) hlt; omega
      go_wp2_with fail
      go_round
      case rel => exact ⟨k + 1, by omega, by go_num, val_int (or_step s.data.toList k (by rw [size_list]; omega) (by omega) (fun h => by omega))⟩
      case measure => simp [intOf]; omega
    · obtain rfl : k = e := by omega
      have hl : (s[k].toNat : Int) < 128 := by rw [at_list s k hes]; have := h.last; omega
      have hz : (k : Int) = 0 ∨ (1 : Int) ≤ (s[k].toNat : Int) := by
        rw [at_list s k hes]
        by_cases h0 : k = 0
        · left; omega
        · right; have := h.least (by omega); omega
      have h9 : (k : Int) ≤ 8 ∨ (s[k].toNat : Int) ≤ 1 := by
        rw [at_list s k hes]
        by_cases h9 : k = 9
        · right; have := h.fits h9; omega
        · left; omega
      have HO := Lib.hid (or_step s.data.toList k (by rw [size_list]; omega) (by omega) (fun hk9 => by have := h.fits hk9; omega))
      go_wp2_with (go_at_call 68; refine (mayEnd_yes _ _ _ (by omega) (by omega) (by omega) hz h9).mono ?_; rintro e w' ⟨rfl, rfl⟩)
      go_region
      go_wp2
      go_ret3
      exact ⟨ret_tuple3 (val_int HO.out) rfl rfl, _, rfl⟩

set_option maxHeartbeats 400000 in
set_option maxRecDepth 100000 in
theorem get_none (s : ByteArray) (w : World) (hs : s.size ≤ maxLen) (h : ∀ e, ¬ Vi.Ok s.data.toList e) :
    Calls Tryd.prog 53 #[.string s] w fun r w' => r = .returned (.tuple #[.int .u64 0, .string ⟨#[]⟩, .int .i64 2]) ∧ w = w' := by
  unfold maxLen at hs
  have HN := Lib.hid h
  clear h
  go_enter Tryd.func53, Tryd.ntmps53
  go_wp2
  go_loop [5, 6] (fun n i => ∃ (k : Nat) (m : Int), k ≤ 10 ∧ k ≤ s.size ∧ i = .int .i64 k ∧ n = .int .u64 m ∧ Hid (∀ (j : Nat) (h : j < s.data.toList.length), j < k → 128 ≤ (s.data.toList[j]).toNat)) (fun _ i => 10 - (intOf i).toNat)
  case atStart => exact ⟨0, 0, by omega, Nat.zero_le _, rfl, rfl, fun j _ h => absurd h (by omega)⟩
  case round =>
    obtain ⟨k, m, hk, hks, rfl, rfl, HM⟩ := hrel
    by_cases hin : k < s.size ∧ k < 10
    · obtain ⟨hlt, hl10⟩ := hin
      by_cases hb : (128 : Int) ≤ (s[k].toNat : Int)
      · go_wp2_with fail
        go_round
        case rel =>
          refine ⟨k + 1, _, by omega, by omega, by go_num, rfl, fun j hj hjk => ?_⟩
          by_cases e : j = k
          · subst e; rw [at_list s j hlt] at hb; omega
          · exact HM.out j hj (by omega)
        case measure => simp [intOf]; omega
      · have hl : (s[k].toNat : Int) < 128 := by omega
        have hno : (0 < (k : Int) ∧ (s[k].toNat : Int) = 0) ∨ ((k : Int) = 9 ∧ 1 < (s[k].toNat : Int)) := by
          by_cases c1 : 0 < k ∧ s[k].toNat = 0
          · left; omega
          · by_cases c2 : k = 9 ∧ 1 < s[k].toNat
            · right; omega
            · exfalso
              have hkl : k < s.data.toList.length := by rw [size_list]; exact hlt
              have e : s[k].toNat = (s.data.toList[k]).toNat := by rw [at_list s k hlt]
              refine HN.out k ⟨hl10, hkl, HM.out, by omega, fun h0 hz => c1 ⟨h0, by omega⟩, fun h9 => ?_⟩
              rcases Nat.lt_or_ge 1 s[k].toNat with g | g
              · exact absurd ⟨h9, g⟩ c2
              · omega
        have HO := Lib.hid hno
        clear hno hb
        go_wp2_with (go_at_call 68; refine (mayEnd_no _ _ _ (by omega) (by omega) (by omega) HO.out).mono ?_; rintro e w' ⟨rfl, rfl⟩)
        go_ret3
        exact ⟨rfl, rfl⟩
    · by_cases hlt : k < s.size
      · have hge : (10 : Int) ≤ (k : Int) := by omega
        go_wp2_with fail
        go_ret3
        exact ⟨rfl, rfl⟩
      · go_wp2_with fail
        go_ret3
        exact ⟨rfl, rfl⟩

end Go.Proofs.YtcicfjfbnbkkcaaDoor
