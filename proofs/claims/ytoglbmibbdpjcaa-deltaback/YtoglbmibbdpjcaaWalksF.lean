/-
  WALKS OF LAYER 6: common, literalStep, copyStep.
-/
import Derived.Test.YtoglbmibbdpjcaaWalksE
import Derived.Test.YtoglbmibbdpjcaaMath2
import Derived.IntWalk
namespace Go.Proofs.Ytoglbmibbdpjcaa
open Go.RowKit
set_option linter.unusedVariables false
set_option linter.unusedSimpArgs false

theorem drewN_add (w : World) (a b : Nat) : (w.drewN a).drewN b = w.drewN (a + b) := by simp [World.drewN, Nat.add_assoc]

set_option maxHeartbeats 800000 in
set_option maxRecDepth 100000 in
theorem common_any (a b : ByteArray) (w : World) (ha : a.size ≤ 16777216) (hb : b.size ≤ 16777216) :
    Calls Try.prog 27 #[.string a, .string b] w fun r w' => r = .returned (.int .i64 (Dl.com a.data.toList b.data.toList : Nat)) ∧ ∃ n, w' = w.drewN n := by
  generalize hR : Dl.com a.data.toList b.data.toList = R
  have HR : Hid (Dl.com a.data.toList b.data.toList = R) := hR
  clear hR
  go_enter Try.func27, Try.ntmps27
  go_wp2_with fail
  go_loopw [5] (fun i wr => ∃ c k : Nat, i = .int .i64 c ∧ c ≤ a.size ∧ c ≤ b.size ∧ Hid (c + Dl.com (a.data.toList.drop c) (b.data.toList.drop c) = R) ∧ wr = w.drewN k) (fun i _ => a.size - (intOf i).toNat)
  case atStart => exact ⟨0, 0, rfl, Nat.zero_le _, Nat.zero_le _, by show 0 + _ = R; simpa using HR.out, rfl⟩
  case round =>
    obtain ⟨c, k, rfl, hca, hcb, HC, rfl⟩ := hrel
    clear HR
    by_cases h1 : (c : Int) < (a.size : Int)
    · have hd1 : decide ((c : Int) < (a.size : Int)) = true := by simpa using h1
      by_cases h2 : (c : Int) < (b.size : Int)
      · have hd2 : decide ((c : Int) < (b.size : Int)) = true := by simpa using h2
        have h1n : c < a.size := by omega
        have h2n : c < b.size := by omega
        by_cases heq : a[c] = b[c]
        · have hbe : ((a[c].toNat : Int) == (b[c].toNat : Int)) = true := by rw [heq]; simp
          have HC2 : Hid (c + 1 + Dl.com (a.data.toList.drop (c + 1)) (b.data.toList.drop (c + 1)) = R) := by
            have := Dl.com_step (a := a.data.toList) (b := b.data.toList) (k := c) (by rw [size_list]; exact h1n) (by rw [size_list]; exact h2n) heq
            have h3 := HC.out
            show _ = R
            omega
          clear heq HC
          go_wp2_with fail
          go_quiet (fail)
          go_wp2_with fail
          go_roundw
          case rel => exact ⟨c + 1, _, by go_num, by omega, by omega, HC2, by first | rfl | simp [World.drewN_drewN] | exact (drewN_add w k _)⟩
          case measure => simp [intOf]; omega
        · have hbe : ((a[c].toNat : Int) == (b[c].toNat : Int)) = false := by
            rw [beq_eq_false_iff_ne]; intro e; exact heq (UInt8.toNat_inj.1 (by omega))
          have HC2 : Hid (c = R) := by
            have := Dl.com_stop (a := a.data.toList) (b := b.data.toList) (k := c) (by rw [size_list]; exact h1n) (by rw [size_list]; exact h2n) heq
            have h3 := HC.out
            show _ = R
            omega
          clear heq HC
          go_wp2_with fail
          go_quiet (fail)
          go_wp2_with fail
          go_ret
          exact ⟨by rw [← HC2.out]; rfl, _, drewN_add w k _⟩
      · have hd2 : decide ((c : Int) < (b.size : Int)) = false := by simpa using h2
        have hd3 : decide (c < b.size) = false := by simp; omega
        have HC2 : Hid (c = R) := by
          have := Dl.com_nil (a := a.data.toList) (b := b.data.toList) (k := c) (.inr (by rw [size_list]; omega))
          have h3 := HC.out
          show _ = R
          omega
        clear HC
        go_wp2_with fail
        go_quiet (fail)
        go_wp2_with fail
        go_ret
        exact ⟨by rw [← HC2.out]; rfl, _, drewN_add w k _⟩
    · have hd1 : decide ((c : Int) < (a.size : Int)) = false := by simpa using h1
      have hd3 : decide (c < a.size) = false := by simp; omega
      have HC2 : Hid (c = R) := by
        have := Dl.com_nil (a := a.data.toList) (b := b.data.toList) (k := c) (.inl (by rw [size_list]; omega))
        have h3 := HC.out
        show _ = R
        omega
      clear HC
      go_wp2_with fail
      go_quiet (fail)
      go_wp2_with fail
      go_ret
      exact ⟨by rw [← HC2.out]; rfl, _, drewN_add w k _⟩

/-- A call that gave back a string of these bytes. -/
def Str (l : List UInt8) (w : World) (r : Ending) (w' : World) : Prop := ∃ b : ByteArray, r = .returned (.string b) ∧ b.data.toList = l ∧ Below w.heap.size w w'

set_option maxHeartbeats 800000 in
set_option maxRecDepth 100000 in
theorem literalStep_any (t : ByteArray) (w : World) (ht : t.size ≤ 16777216) :
    Calls Try.prog 17 #[.string t] w (Str (Dl.litE t.data.toList) w) := by
  unfold Dl.litE
  by_cases hx : t = ByteArray.empty
  · subst hx
    rw [if_pos (show ByteArray.empty.data.toList = [] from rfl)]
    go_enter Try.func17, Try.ntmps17
    go_wp2_with fail
    go_ret
    exact ⟨_, rfl, rfl, Below.refl _ _⟩
  · rw [if_neg (list_ne hx)]
    have hse : t.toList.isEmpty = false := by have := not_empty hx; simpa using this
    have hw3 : IntKind.u64.wrap (t.size : Int) = (t.size : Int) := u64_wrap_id _ (by omega) (by omega)
    have hw4 : IntKind.u64.wrap (2 * (t.size : Int)) = 2 * (t.size : Int) := u64_wrap_id _ (by omega) (by omega)
    have hl := Lib.uvarint_length64 (x := 2 * t.size) (by omega)
    have hsl := size_list t
    have HS := Lib.hid hsl
    clear hsl
    have hput : Calls Try.prog 18 #[.int .u64 (2 * (t.size : Int))] w fun r w' => r = .returned (.string ⟨(Lib.uvarint (2 * t.size)).toArray⟩) ∧ Below w.heap.size w w' := put_any (2 * t.size) w (by omega)
    have HP := Lib.hid hput
    clear hput
    go_enter Try.func17, Try.ntmps17
    go_wp2_with fail
    refine HP.out.mono ?_
    rintro e w1 ⟨rfl, hb⟩
    go_wp2_with fail
    go_ret
    exact ⟨_, rfl, by simp [ByteArray.data_append, Dl.Ins.enc], hb⟩

set_option maxHeartbeats 800000 in
set_option maxRecDepth 100000 in
theorem copyStep_any (f c : Nat) (w : World) (hc : c ≤ 16777216) (hf : f ≤ 16777216) :
    Calls Try.prog 24 #[.int .i64 f, .int .i64 c] w (Str ((Dl.Ins.cop f c).enc) w) := by
  have hw1 : IntKind.u64.wrap (c : Int) = (c : Int) := u64_wrap_id _ (by omega) (by omega)
  have hw2 : IntKind.u64.wrap (2 * (c : Int)) = 2 * (c : Int) := u64_wrap_id _ (by omega) (by omega)
  have hw3 : IntKind.u64.wrap (2 * (c : Int) + 1) = 2 * (c : Int) + 1 := u64_wrap_id _ (by omega) (by omega)
  have hw4 : IntKind.u64.wrap (f : Int) = (f : Int) := u64_wrap_id _ (by omega) (by omega)
  have hl1 := Lib.uvarint_length64 (x := 2 * c + 1) (by omega)
  have hl2 := Lib.uvarint_length64 (x := f) (by omega)
  have hput : Calls Try.prog 18 #[.int .u64 (2 * (c : Int) + 1)] w fun r w' => r = .returned (.string ⟨(Lib.uvarint (2 * c + 1)).toArray⟩) ∧ Below w.heap.size w w' := put_any (2 * c + 1) w (by omega)
  have HP := Lib.hid hput
  clear hput
  go_enter Try.func24, Try.ntmps24
  go_wp2_with fail
  refine HP.out.mono ?_
  rintro e w1 ⟨rfl, hb⟩
  go_wp2_with fail
  refine (put_any f _ (by omega)).mono ?_
  rintro e w2 ⟨rfl, hb2⟩
  go_wp2_with fail
  go_ret
  exact ⟨_, rfl, by simp [ByteArray.data_append, Dl.Ins.enc], below_step hb hb2⟩

end Go.Proofs.Ytoglbmibbdpjcaa
