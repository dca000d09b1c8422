/-
  WALKS OF LAYER 2: the words' own operations in the model's spelling; right, turn.
-/
import Derived.Test.YtijlmeodfmanmaaDoorRows
import Derived.Test.YtijlmeodfmanmaaDoorMath
import Derived.WalkKit
import Derived.WalkSpells
import Derived.WalkLawsBesides
import Derived.Lib.Hide
import Derived.Laws.BitsLemmas
import Derived.Laws.BitsAllLaws
import Derived.Deep.QuietTactic
import Derived.BigQuiet
namespace Go.Proofs.YtijlmeodfmanmaaDoor
open Go.RowKit
set_option linter.unusedVariables false
set_option linter.unusedSimpArgs false
open Sh (Wd)

/-! ### Words, as the walk spells them -/
theorem w_add (x y : Wd) : IntKind.u32.wrap ((x.toNat : Int) + (y.toNat : Int)) = ((x + y).toNat : Int) := by
  rw [IntKind.wrap_u32, BitVec.toNat_add]; omega
theorem w_mul (x y : Wd) : IntKind.u32.wrap ((x.toNat : Int) * (y.toNat : Int)) = ((x * y).toNat : Int) := by
  rw [IntKind.wrap_u32, BitVec.toNat_mul]; simp
theorem ofInt_wd (x : Wd) : BitVec.ofInt 32 (x.toNat : Int) = x := by simp
theorem w_lt (x : Wd) : x.toNat < 4294967296 := x.isLt
theorem w_and (x y : Wd) : bits .and .u32 (x.toNat : Int) (y.toNat : Int) = ((x &&& y).toNat : Int) := by
  show IntKind.u32.wrap ((BitVec.ofInt 32 (x.toNat : Int) &&& BitVec.ofInt 32 (y.toNat : Int)).toNat : Int) = _
  rw [ofInt_wd, ofInt_wd, IntKind.wrap_u32]; have := w_lt (x &&& y); omega
theorem w_or (x y : Wd) : bits .or .u32 (x.toNat : Int) (y.toNat : Int) = ((x ||| y).toNat : Int) := by
  show IntKind.u32.wrap ((BitVec.ofInt 32 (x.toNat : Int) ||| BitVec.ofInt 32 (y.toNat : Int)).toNat : Int) = _
  rw [ofInt_wd, ofInt_wd, IntKind.wrap_u32]; have := w_lt (x ||| y); omega
theorem w_xor (x y : Wd) : bits .xor .u32 (x.toNat : Int) (y.toNat : Int) = ((x ^^^ y).toNat : Int) := by
  show IntKind.u32.wrap ((BitVec.ofInt 32 (x.toNat : Int) ^^^ BitVec.ofInt 32 (y.toNat : Int)).toNat : Int) = _
  rw [ofInt_wd, ofInt_wd, IntKind.wrap_u32]; have := w_lt (x ^^^ y); omega
theorem w_not (x : Wd) : bits .xor .u32 4294967295 (x.toNat : Int) = ((~~~x).toNat : Int) := by
  show IntKind.u32.wrap ((BitVec.ofInt 32 4294967295 ^^^ BitVec.ofInt 32 (x.toNat : Int)).toNat : Int) = _
  rw [ofInt_wd, show BitVec.ofInt 32 4294967295 = BitVec.allOnes 32 from rfl, BitVec.allOnes_xor, IntKind.wrap_u32]
  have := w_lt (~~~x); omega
theorem w_not' (x : Wd) : bits .xor .u32 IntKind.u32.max (x.toNat : Int) = ((~~~x).toNat : Int) := w_not x
theorem w_shl (x : Wd) (n : Nat) : IntKind.u32.wrap ((x.toNat : Int) * 2 ^ n) = ((x <<< n).toNat : Int) := by
  rw [IntKind.wrap_u32, BitVec.toNat_shiftLeft, Nat.shiftLeft_eq]; simp
theorem w_shr (x : Wd) (n : Nat) : (x.toNat : Int) / 2 ^ n = ((x >>> n).toNat : Int) := by
  rw [BitVec.toNat_ushiftRight, Nat.shiftRight_eq_div_pow]; simp

theorem w_add' (x y : Wd) : ((x.toNat : Int) + (y.toNat : Int)) % 4294967296 = ((x + y).toNat : Int) := by rw [← w_add, IntKind.wrap_u32]
theorem w_mul' (x y : Wd) : ((x.toNat : Int) * (y.toNat : Int)) % 4294967296 = ((x * y).toNat : Int) := by rw [← w_mul, IntKind.wrap_u32]
theorem w_shl' (x : Wd) (n : Nat) : (x.toNat : Int) * 2 ^ n % 4294967296 = ((x <<< n).toNat : Int) := by rw [← w_shl, IntKind.wrap_u32]

theorem rot_mask : ∀ n : Fin 32, n.val ≠ 0 → bits BinOp.and IntKind.u64 (IntKind.u64.wrap (-(n.val : Int))) 31 = ((32 - n.val : Nat) : Int) := by decide +kernel

theorem ret_u32 {a b : Int} (h : a = b) : Ending.returned (.int .u32 a) = .returned (.int .u32 b) := by rw [h]

set_option maxRecDepth 100000 in
theorem rotl_any (x : Wd) (n : Nat) (w : World) (h0 : 0 < n) (h : n < 32) :
    Calls Tryd.prog 37 #[.int .u32 (x.toNat : Int), .int .i64 (-(n : Int))] w fun r w' => r = .returned (.int .u32 ((Sh.rr x n).toNat : Int)) ∧ w = w' := by
  have hm := rot_mask ⟨n, h⟩ (by simp; omega)
  have hk : IntKind.u64.wrap (32 - ((32 - n : Nat) : Int)) = (n : Int) := by
    rw [show (32 : Int) - ((32 - n : Nat) : Int) = (n : Int) by omega]
    simp [IntKind.wrap, IntKind.bits, IntKind.signed]
    omega
  go_enter Tryd.func37, Tryd.ntmps37
  go_wp2
  go_ret
  refine ⟨ret_u32 ?_, rfl⟩
  rw [w_shl', w_shr, w_or]
  rfl

set_option maxRecDepth 100000 in
theorem right_any (x : Wd) (n : Nat) (w : World) (h0 : 0 < n) (h : n < 32) :
    Calls Tryd.prog 33 #[.int .u32 (x.toNat : Int), .int .i64 (n : Int)] w fun r w' => r = .returned (.int .u32 ((Sh.rr x n).toNat : Int)) ∧ w = w' := by
  go_enter Tryd.func33, Tryd.ntmps33
  go_wp2_with fail
  refine (rotl_any x n _ h0 h).mono ?_
  rintro e w1 ⟨rfl, rfl⟩
  go_wp2_with fail
  go_ret
  exact ⟨rfl, rfl⟩

set_option maxRecDepth 100000 in
theorem turn_any (x : Wd) (n : Nat) (w : World) (h0 : 0 < n) (h : n < 32) :
    Calls Tryd.prog 28 #[.int .u32 (x.toNat : Int), .int .u64 (n : Int)] w fun r w' => r = .returned (.int .u32 ((Sh.rr x n).toNat : Int)) ∧ w = w' := by
  have hk : IntKind.u64.wrap (32 - (n : Int)) = ((32 - n : Nat) : Int) := by
    rw [show (32 : Int) - (n : Int) = ((32 - n : Nat) : Int) by omega]
    simp [IntKind.wrap, IntKind.bits, IntKind.signed]
    omega
  go_enter Tryd.func28, Tryd.ntmps28
  go_wp2
  go_ret
  refine ⟨ret_u32 ?_, rfl⟩
  rw [w_shl', w_shr, w_add', Sh.turn_eq x n h0 h]

end Go.Proofs.YtijlmeodfmanmaaDoor
