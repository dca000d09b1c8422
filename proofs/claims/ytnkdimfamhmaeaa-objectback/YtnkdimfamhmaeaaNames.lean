/-
  WALKS OF LAYER 4: Name, of the program and of the document.
-/
import Derived.Test.YtnkdimfamhmaeaaForeign
namespace Go.Proofs.Ytnkdimfamhmaeaa
open Go.RowKit
set_option linter.unusedVariables false
set_option linter.unusedSimpArgs false

def badB (c : UInt8) : Bool := c == 0 || c == 47
/-- A name that may be. -/
def nameOk (s : ByteArray) : Bool := decide (1 ≤ s.size) && decide (s.size ≤ 40) && !s.data.toList.any badB

theorem badB_eq (c : UInt8) : badB c = (((c.toNat : Int) == 0) || ((c.toNat : Int) == 47)) := by
  have h0 : (c == 0) = ((c.toNat : Int) == 0) := by
    rw [Bool.eq_iff_iff, beq_iff_eq, beq_iff_eq, ← UInt8.toNat_inj]; simp
  have h1 : (c == 47) = ((c.toNat : Int) == 47) := by
    rw [Bool.eq_iff_iff, beq_iff_eq, beq_iff_eq, ← UInt8.toNat_inj]; simp; omega
  rw [badB, h0, h1]

theorem index_neg : ∀ (l : List UInt8) (c : UInt8), Lib.indexByte l c < 0 ↔ l.any (· == c) = false
  | [], c => by simp [Lib.indexByte]
  | x :: r, c => by
    have ih := index_neg r c
    have hg := Lib.indexByte_ge r c
    have e : Lib.indexByte (x :: r) c = if x == c then 0 else if Lib.indexByte r c == -1 then -1 else Lib.indexByte r c + 1 := rfl
    rw [e, List.any_cons]
    generalize Lib.indexByte r c = y at *
    generalize r.any (· == c) = b at *
    cases hx : (x == c)
    · by_cases hy : y = -1
      · subst hy; simpa using ih
      · have hy' : (y == -1) = false := by simpa using hy
        simp only [hy', Bool.false_eq_true, if_false, Bool.false_or]
        rw [← ih]; omega
    · simp
theorem any_bad : ∀ l : List UInt8, l.any badB = (l.any (· == 0) || l.any (· == 47))
  | [] => rfl
  | x :: r => by
    have ih := any_bad r
    simp only [List.any_cons, ih, badB]
    cases (x == 0) <;> cases (x == 47) <;> simp

set_option maxRecDepth 100000 in
theorem name_any (s : ByteArray) (w : World) (hs : s.size ≤ maxLen) :
    Calls Try.prog 9 #[.string s] w fun r w' => r = .returned (.bool (nameOk s)) ∧ w = w' := by
  unfold maxLen at hs
  have HZ := Lib.hid (show nameOk s = (decide (1 ≤ s.size) && decide (s.size ≤ 40) && !(s.data.toList.any (· == 0) || s.data.toList.any (· == 47))) by rw [← any_bad]; rfl)
  generalize nameOk s = z at HZ
  have I0 := Lib.hid (Try.strings_IndexByte s 0 w)
  have I1 := Lib.hid (Try.strings_IndexByte s 47 w)
  have N0 := Lib.hid (index_neg s.data.toList (Int.toNat 0).toUInt8)
  have N1 := Lib.hid (index_neg s.data.toList (Int.toNat 47).toUInt8)
  have e0 : (Int.toNat 0).toUInt8 = 0 := rfl
  have e1 : (Int.toNat 47).toUInt8 = 47 := rfl
  rw [e0] at I0 N0
  rw [e1] at I1 N1
  clear e0 e1
  generalize Lib.indexByte s.data.toList 0 = x0 at I0 N0
  generalize Lib.indexByte s.data.toList 47 = x1 at I1 N1
  generalize s.data.toList.any (· == 0) = b0 at HZ N0
  generalize s.data.toList.any (· == 47) = b1 at HZ N1
  go_enter Try.func9, Try.ntmps9
  go_wp2_with (first
    | (go_at_call 18; ((with_reducible refine I0.out.mono ?_); rintro e w' ⟨rfl, rfl⟩))
    | (go_at_call 18; ((with_reducible refine I1.out.mono ?_); rintro e w' ⟨rfl, rfl⟩)))
  all_goals
    go_ret
    refine ⟨ret_bool ?_, rfl⟩
    have n0 := N0.out
    have n1 := N1.out
    rw [HZ.out, Bool.eq_iff_iff]
    cases b0 <;> cases b1 <;> simp_all <;> omega
end Go.Proofs.Ytnkdimfamhmaeaa
