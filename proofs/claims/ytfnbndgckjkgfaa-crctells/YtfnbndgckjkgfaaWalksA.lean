/-
  WALKS OF LAYER 3: the words' own operations in the model's spelling; divide, Sum (crc).
-/
import Derived.Test.YtfnbndgckjkgfaaRows
import Derived.Test.YtfnbndgckjkgfaaMath
import Derived.WalkKit
import Derived.WalkSpells
import Derived.WalkLawsBesides
import Derived.Lib.Hide
import Derived.Laws.BitsLemmas
import Derived.Laws.BitsAllLaws
import Derived.Deep.QuietTactic
import Derived.BigQuiet
namespace Go.Proofs.Ytfnbndgckjkgfaa
open Go.RowKit
set_option linter.unusedVariables false
set_option linter.unusedSimpArgs false
open Cr (Wd)

/-! ### Words, as the walk spells them -/
theorem ofInt_wd (x : Wd) : BitVec.ofInt 32 (x.toNat : Int) = x := by simp
theorem w_lt (x : Wd) : x.toNat < 4294967296 := x.isLt
theorem w_and (x y : Wd) : bits .and .u32 (x.toNat : Int) (y.toNat : Int) = ((x &&& y).toNat : Int) := by
  show IntKind.u32.wrap ((BitVec.ofInt 32 (x.toNat : Int) &&& BitVec.ofInt 32 (y.toNat : Int)).toNat : Int) = _
  rw [ofInt_wd, ofInt_wd, IntKind.wrap_u32]; have := w_lt (x &&& y); omega
theorem w_xor (x y : Wd) : bits .xor .u32 (x.toNat : Int) (y.toNat : Int) = ((x ^^^ y).toNat : Int) := by
  show IntKind.u32.wrap ((BitVec.ofInt 32 (x.toNat : Int) ^^^ BitVec.ofInt 32 (y.toNat : Int)).toNat : Int) = _
  rw [ofInt_wd, ofInt_wd, IntKind.wrap_u32]; have := w_lt (x ^^^ y); omega
theorem w_not (x : Wd) : bits .xor .u32 4294967295 (x.toNat : Int) = ((~~~x).toNat : Int) := by
  show IntKind.u32.wrap ((BitVec.ofInt 32 4294967295 ^^^ BitVec.ofInt 32 (x.toNat : Int)).toNat : Int) = _
  rw [ofInt_wd, show BitVec.ofInt 32 4294967295 = BitVec.allOnes 32 from rfl, BitVec.allOnes_xor, IntKind.wrap_u32]
  have := w_lt (~~~x); omega
theorem w_shr (x : Wd) (n : Nat) : (x.toNat : Int) / 2 ^ n = ((x >>> n).toNat : Int) := by
  rw [BitVec.toNat_ushiftRight, Nat.shiftRight_eq_div_pow]; simp
theorem w_shr1 (x : Wd) : (x.toNat : Int) / (2 : Int) = ((x >>> 1).toNat : Int) := w_shr x 1
theorem w_poly (x : Wd) : bits .xor .u32 (x.toNat : Int) 3988292384 = ((x ^^^ Cr.poly).toNat : Int) := w_xor x Cr.poly
theorem w_low (x : Wd) : bits .and .u32 (x.toNat : Int) 1 = if x.getLsbD 0 then 1 else 0 := by
  have h := w_and x 1#32
  have e : ((1#32).toNat : Int) = 1 := rfl
  rw [e] at h
  rw [h, BitVec.toNat_and, show (1#32).toNat = 1 from rfl, Nat.and_one_is_mod, BitVec.getLsbD, Nat.testBit_zero]
  by_cases hm : x.toNat % 2 = 1
  · rw [hm]; simp
  · have : x.toNat % 2 = 0 := by omega
    rw [this]; simp

theorem ret_u32 {a b : Int} (h : a = b) : Ending.returned (.int .u32 a) = .returned (.int .u32 b) := by rw [h]
theorem val_int {k : IntKind} {a b : Int} (h : a = b) : Value.int k a = .int k b := by rw [h]
theorem step_one (x : Wd) (h : x.getLsbD 0 = true) : Cr.step x = (x >>> 1) ^^^ Cr.poly := by rw [Cr.step, if_pos h]
theorem step_nul (x : Wd) (h : x.getLsbD 0 = false) : Cr.step x = x >>> 1 := by rw [Cr.step, h]; rfl

set_option maxHeartbeats 400000 in
set_option maxRecDepth 100000 in
theorem divide_any (x : Wd) (w : World) :
    Calls Try.prog 13 #[.int .u32 (x.toNat : Int)] w fun r w' => r = .returned (.int .u32 ((Cr.steps 8 x).toNat : Int)) ∧ w = w' := by
  go_enter Try.func13, Try.ntmps13
  go_wp2
  go_loop [0, 4] (fun r i => ∃ k : Nat, k ≤ 8 ∧ i = .int .i64 k ∧ r = .int .u32 ((Cr.steps k x).toNat : Int)) (fun _ i => 8 - (intOf i).toNat)
  case atStart => exact ⟨0, Nat.zero_le _, rfl, rfl⟩
  case round =>
    obtain ⟨k, hk, rfl, rfl⟩ := hrel
    by_cases hlt : k < 8
    · have HS := Lib.hid (show Cr.steps (k + 1) x = Cr.step (Cr.steps k x) from rfl)
      generalize Cr.steps k x = y at *
      have hlow := w_low y
      cases hb : y.getLsbD 0
      · rw [hb] at hlow
        simp only [Bool.false_eq_true, if_false] at hlow
        have HB := Lib.hid (step_nul y hb)
        clear hb
        go_wp2
        go_round
        case rel => exact ⟨k + 1, by omega, by go_num, val_int (by rw [HS.out, HB.out, w_shr1])⟩
        case measure => simp [intOf]; omega
      · rw [hb] at hlow
        simp only [if_true] at hlow
        have HB := Lib.hid (step_one y hb)
        clear hb
        go_wp2
        go_round
        case rel => exact ⟨k + 1, by omega, by go_num, val_int (by rw [HS.out, HB.out, w_shr1, w_poly])⟩
        case measure => simp [intOf]; omega
    · obtain rfl : k = 8 := by omega
      go_wp2
      go_ret
      exact ⟨rfl, rfl⟩

theorem at_list (s : ByteArray) (k : Nat) (h : k < s.size) : s[k] = s.data.toList[k]'(by simpa using h) := rfl
theorem size_list (s : ByteArray) : s.data.toList.length = s.size := by simp
theorem take_snoc (s : ByteArray) (k : Nat) (h : k < s.size) : s.data.toList.take (k + 1) = s.data.toList.take k ++ [s[k]] := by
  rw [List.take_succ_eq_append_getElem (by simpa using h)]; rfl
theorem take_all (s : ByteArray) (k : Nat) (h : s.size ≤ k) : s.data.toList.take k = s.data.toList := List.take_of_length_le (by simpa using h)
theorem w_byte (x : Wd) (b : UInt8) : bits .xor .u32 (x.toNat : Int) ((b.toNat : Int) % 4294967296) = ((x ^^^ Cr.bw b).toNat : Int) := by
  have := b.toNat_lt
  rw [← w_xor, Cr.bw_toNat, Int.emod_eq_of_lt (by omega) (by omega)]

set_option maxHeartbeats 400000 in
set_option maxRecDepth 100000 in
theorem sum_any (s : ByteArray) (w : World) (hs : s.size ≤ 281474976710656) :
    Calls Try.prog 8 #[.string s] w fun r w' => r = .returned (.int .u32 ((Cr.sum s.data.toList).toNat : Int)) ∧ w = w' := by
  go_enter Try.func8, Try.ntmps8
  go_wp2
  go_loop [3, 7] (fun r i => ∃ k : Nat, k ≤ s.size ∧ i = .int .i64 k ∧ r = .int .u32 ((Cr.reg (s.data.toList.take k)).toNat : Int)) (fun _ i => s.size - (intOf i).toNat)
  case atStart => exact ⟨0, Nat.zero_le _, rfl, rfl⟩
  case round =>
    obtain ⟨k, hk, rfl, rfl⟩ := hrel
    by_cases hlt : k < s.size
    · have HS := Lib.hid (show Cr.reg (s.data.toList.take (k + 1)) = Cr.steps 8 (Cr.reg (s.data.toList.take k) ^^^ Cr.bw s[k]) by rw [take_snoc s k hlt, Cr.reg_snoc]; rfl)
      generalize Cr.reg (s.data.toList.take k) = y at *
      have hx := w_byte y s[k]
      go_wp2_with fail
      refine (divide_any (y ^^^ Cr.bw s[k]) _).mono ?_
      rintro e w' ⟨rfl, rfl⟩
      go_wp2_with fail
      go_round
      case rel => exact ⟨k + 1, by omega, by go_num, val_int (by rw [HS.out])⟩
      case measure => simp [intOf]; omega
    · have HT := Lib.hid (show Cr.sum s.data.toList = ~~~(Cr.reg (s.data.toList.take k)) by rw [take_all s k (by omega)]; rfl)
      generalize Cr.reg (s.data.toList.take k) = y at *
      go_wp2
      go_ret
      exact ⟨ret_u32 (by rw [HT.out, ← w_not]; rfl), rfl⟩

end Go.Proofs.Ytfnbndgckjkgfaa
