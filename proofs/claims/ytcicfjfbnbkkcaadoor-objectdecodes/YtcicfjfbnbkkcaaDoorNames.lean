/-
  WALKS OF LAYER 4: Name, of the program and of the document.
-/
import Derived.Test.YtcicfjfbnbkkcaaDoorForeign
namespace Go.Proofs.YtcicfjfbnbkkcaaDoor
open Go.RowKit
set_option linter.unusedVariables false
set_option linter.unusedSimpArgs false

def badB (c : UInt8) : Bool := c == 0 || c == 47
/-- A name that may be. -/
def nameOk (s : ByteArray) : Bool := decide (1 ≤ s.size) && decide (s.size ≤ 40) && !s.data.toList.any badB

theorem badB_eq (c : UInt8) : badB c = (((c.toNat : Int) == 0) || ((c.toNat : Int) == 47)) := by
  have h0 : (c == 0) = ((c.toNat : Int) == 0) := by
    rw [Bool.eq_iff_iff, beq_iff_eq, beq_iff_eq, ← UInt8.toNat_inj]; simp
  have h1 : (c == 47) = ((c.toNat : Int) == 47) := by
    rw [Bool.eq_iff_iff, beq_iff_eq, beq_iff_eq, ← UInt8.toNat_inj]; simp; omega
  rw [badB, h0, h1]

set_option maxHeartbeats 400000 in
set_option maxRecDepth 100000 in
theorem refname_any (s : ByteArray) (w : World) (hs : s.size ≤ maxLen) :
    Calls Tryd.prog 60 #[.string s] w fun r w' => r = .returned (.bool (nameOk s)) ∧ w = w' := by
  unfold maxLen at hs
  have HZ := Lib.hid (show nameOk s = (decide (1 ≤ s.size) && decide (s.size ≤ 40) && !s.data.toList.any badB) from rfl)
  generalize nameOk s = z at HZ
  go_enter Tryd.func60, Tryd.ntmps60
  go_wp2
  go_loop [3] (fun i => ∃ k : Nat, k ≤ s.size ∧ i = .int .i64 k ∧ Hid ((s.data.toList.take k).any badB = false)) (fun i => s.size - (intOf i).toNat)
  case atStart => exact ⟨0, Nat.zero_le _, rfl, by simp [Hid]⟩
  case round =>
    obtain ⟨k, hk, rfl, HN⟩ := hrel
    by_cases hlt : k < s.size
    · have hts : s.data.toList.take (k + 1) = s.data.toList.take k ++ [s[k]] := by
        rw [List.take_succ_eq_append_getElem (by simpa using hlt)]; rfl
      have hbb := badB_eq s[k]
      have hmem : s[k] ∈ s.data.toList := by
        have : s[k] = s.data.toList[k]'(by simpa using hlt) := rfl
        rw [this]; exact List.getElem_mem _
      cases hb : badB s[k] with
      | true =>
        rw [hb] at hbb
        have HZ2 := Lib.hid (show z = false by
          rw [HZ.out]
          have : s.data.toList.any badB = true := List.any_eq_true.2 ⟨_, hmem, hb⟩
          simp [this])
        have HB := Lib.hid hbb
        clear hts hmem hb hbb
        rcases (Bool.or_eq_true _ _).mp HB.out.symm with h0 | h0
        · go_wp2
          go_ret
          exact ⟨ret_bool HZ2.out.symm, rfl⟩
        · by_cases h1 : (((s[k]).toNat : Int) == 0) = true
          · go_wp2
            go_ret
            exact ⟨ret_bool HZ2.out.symm, rfl⟩
          · have h1' := Bool.not_eq_true _ ▸ h1
            go_wp2
            go_ret
            exact ⟨ret_bool HZ2.out.symm, rfl⟩
      | false =>
        rw [hb] at hbb
        have h2 := (Bool.or_eq_false_iff.mp hbb.symm)
        obtain ⟨h0, h1⟩ := h2
        have HN2 := Lib.hid (show (s.data.toList.take (k + 1)).any badB = false by rw [hts, List.any_append, HN.out]; simp [hb])
        clear hts hmem hb hbb
        go_wp2
        go_round
        case rel => exact ⟨k + 1, by omega, by go_num, HN2⟩
        case measure => simp [intOf]; omega
    · have HN2 := Lib.hid (show s.data.toList.any badB = false by
        have := HN.out
        rwa [List.take_of_length_le (by simp; omega)] at this)
      go_wp2
      all_goals
        go_ret
        exact ⟨ret_bool (by rw [HZ.out, HN2.out, Bool.eq_iff_iff]; simp; try omega), rfl⟩

theorem index_neg : ∀ (l : List UInt8) (c : UInt8), Lib.indexByte l c < 0 ↔ l.any (· == c) = false
  | [], c => by simp [Lib.indexByte]
  | x :: r, c => by
    have ih := index_neg r c
    have hg := Lib.indexByte_ge r c
    have e : Lib.indexByte (x :: r) c = if x == c then 0 else if Lib.indexByte r c == -1 then -1 else Lib.indexByte r c + 1 := rfl
    rw [e, List.any_cons]
    generalize Lib.indexByte r c = y at *
    generalize r.any (· == c) = b at *
    cases hx : (x == c)
    · by_cases hy : y = -1
      · subst hy; simpa using ih
      · have hy' : (y == -1) = false := by simpa using hy
        simp only [hy', Bool.false_eq_true, if_false, Bool.false_or]
        rw [← ih]; omega
    · simp
theorem any_bad : ∀ l : List UInt8, l.any badB = (l.any (· == 0) || l.any (· == 47))
  | [] => rfl
  | x :: r => by
    have ih := any_bad r
    simp only [List.any_cons, ih, badB]
    cases (x == 0) <;> cases (x == 47) <;> simp

set_option maxRecDepth 100000 in
theorem name_any (s : ByteArray) (w : World) (hs : s.size ≤ maxLen) :
    Calls Tryd.prog 11 #[.string s] w fun r w' => r = .returned (.bool (nameOk s)) ∧ w = w' := by
  unfold maxLen at hs
  have HZ := Lib.hid (show nameOk s = (decide (1 ≤ s.size) && decide (s.size ≤ 40) && !(s.data.toList.any (· == 0) || s.data.toList.any (· == 47))) by rw [← any_bad]; rfl)
  generalize nameOk s = z at HZ
  have I0 := Lib.hid (Tryd.strings_IndexByte s 0 w)
  have I1 := Lib.hid (Tryd.strings_IndexByte s 47 w)
  have N0 := Lib.hid (index_neg s.data.toList (Int.toNat 0).toUInt8)
  have N1 := Lib.hid (index_neg s.data.toList (Int.toNat 47).toUInt8)
  have e0 : (Int.toNat 0).toUInt8 = 0 := rfl
  have e1 : (Int.toNat 47).toUInt8 = 47 := rfl
  rw [e0] at I0 N0
  rw [e1] at I1 N1
  clear e0 e1
  generalize Lib.indexByte s.data.toList 0 = x0 at I0 N0
  generalize Lib.indexByte s.data.toList 47 = x1 at I1 N1
  generalize s.data.toList.any (· == 0) = b0 at HZ N0
  generalize s.data.toList.any (· == 47) = b1 at HZ N1
  go_enter Tryd.func11, Tryd.ntmps11
  go_wp2_with (first
    | (go_at_call 25; ((with_reducible refine I0.out.mono ?_); rintro e w' ⟨rfl, rfl⟩))
    | (go_at_call 25; ((with_reducible refine I1.out.mono ?_); rintro e w' ⟨rfl, rfl⟩)))
  all_goals
    go_ret
    refine ⟨ret_bool ?_, rfl⟩
    have n0 := N0.out
    have n1 := N1.out
    rw [HZ.out, Bool.eq_iff_iff]
    cases b0 <;> cases b1 <;> simp_all <;> omega
end Go.Proofs.YtcicfjfbnbkkcaaDoor
