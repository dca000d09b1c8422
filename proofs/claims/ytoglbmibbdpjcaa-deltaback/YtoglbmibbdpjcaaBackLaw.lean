/-
  THE WALK OF THE LAW DeltaBack: whatever the base and the text, the law answers true.
-/
import Derived.Test.YtoglbmibbdpjcaaWalksI
namespace Go.Proofs.Ytoglbmibbdpjcaa
open Go.RowKit
set_option linter.unusedVariables false
set_option linter.unusedSimpArgs false

set_option maxHeartbeats 2000000 in
set_option maxRecDepth 100000 in
theorem back_long (base text : ByteArray) (w : World) (hbs : base.size ≤ maxLen) (hts : text.size ≤ maxLen) (h : 1500 < base.size ∨ 1500 < text.size) :
    Calls Try.prog 5 #[.string base, .string text] w fun r w' => r = .returned (.bool true) ∧ Below w.heap.size w w' := by
  unfold maxLen at hbs hts
  by_cases h1 : (1500 : Int) < (base.size : Int)
  · clear h
    go_enter Try.func5, Try.ntmps5
    go_wp2_with fail
    refine (knows_true _).mono ?_
    rintro e w1 ⟨rfl, hb1⟩
    go_wp2_with fail
    go_ret
    exact ⟨rfl, hb1⟩
  · have h2 : (1500 : Int) < (text.size : Int) := by omega
    clear h
    go_enter Try.func5, Try.ntmps5
    go_wp2_with fail
    refine (knows_true _).mono ?_
    rintro e w1 ⟨rfl, hb1⟩
    go_wp2_with fail
    go_ret
    exact ⟨rfl, hb1⟩

theorem more_len (base : ByteArray) : (base ++ ByteArray.mk #[120]).data.toList.length ≠ base.data.toList.length := by
  rw [ByteArray.data_append, Array.toList_append, List.length_append]; simp

set_option maxHeartbeats 2000000 in
set_option maxRecDepth 100000 in
theorem back_any (base text : ByteArray) (w : World) (hbs : base.size ≤ maxLen) (hts : text.size ≤ maxLen) :
    Calls Try.prog 5 #[.string base, .string text] w fun r w' => r = .returned (.bool true) ∧ Below w.heap.size w w' := by
  by_cases hlong : 1500 < base.size ∨ 1500 < text.size
  · exact back_long base text w hbs hts hlong
  have h1 : ¬ (1500 : Int) < (base.size : Int) := by omega
  have h2 : ¬ (1500 : Int) < (text.size : Int) := by omega
  have HLB := Lib.hid (size_list base)
  have HLT := Lib.hid (size_list text)
  have hb1 : base.size ≤ 1500 := by omega
  have ht1 : text.size ≤ 1500 := by omega
  clear hlong hbs hts
  have hmx := more_len base
  have hmxs : (base ++ ByteArray.mk #[120]).size = base.size + 1 := by rw [ByteArray.size_append]; rfl
  have hmxl : ¬ 9223372036854775807 < base.size + 1 := by omega
  go_enter Try.func5, Try.ntmps5
  go_wp2_with fail
  refine (make_any base text _ (by omega) (by omega)).mono ?_
  rintro e w1 ⟨d, rfl, hmd, hds, _, hbl1⟩
  rw [HLT.out] at hds
  have hA := hmd.back
  have hL := hmd.less
  have hO := hmd.other _ hmx
  have hZ := hmd.size
  rw [HLT.out] at hA hL hO hZ
  have HA := Lib.hid hA
  have HO := Lib.hid (show Dl.app (base ++ ByteArray.mk #[120]).data.toList d.data.toList (text.size : Int) = (6, (ByteArray.empty).data.toList) from hO)
  have HZ := Lib.hid hZ
  have HL2 := Lib.hid hL
  clear hA hL hO hZ hmd hmx
  have hdl : d.size ≤ 5000 := by omega
  have hdm : d.size ≤ maxLen := by unfold maxLen; omega
  have hds2 : ¬ (text.size : Int) + 30 < (d.size : Int) := by omega
  go_wp2_with fail
  refine (apply_eq base d (text.size : Int) 0 text _ (by omega) hdl (by omega) HA.out).mono ?_
  rintro e w2 ⟨rfl, hbl2⟩
  have hb12 := below_step hbl1 hbl2
  clear hbl1 hbl2
  go_wp2_with fail
  refine (refapply_eq base d (text.size : Int) 0 text _ (by omega) hdl (by omega) HA.out).mono ?_
  rintro e w3 ⟨rfl, hbl3⟩
  have hb13 := below_step hb12 hbl3
  clear hb12 hbl3
  obtain ⟨R, HR, hR⟩ : ∃ R : Nat, Hid (Dl.app base.data.toList d.data.toList ((text.size : Int) - 1) = (R, (ByteArray.empty).data.toList)) ∧ (¬ text = ByteArray.empty → R = 3) := by
    by_cases hx : text = ByteArray.empty
    · refine ⟨1, ?_, fun h => absurd hx h⟩
      subst hx
      show Dl.app _ _ (((0 : Nat) : Int) - 1) = (1, [])
      unfold Dl.app
      rw [if_pos (by decide)]
    · exact ⟨3, HL2.out (list_ne hx), fun _ => rfl⟩
  have HRR := Lib.hid hR
  clear hR HL2
  go_wp2_with fail
  refine (apply_eq base d ((text.size : Int) - 1) R ByteArray.empty _ (by omega) hdl (by omega) HR.out).mono ?_
  rintro e w4 ⟨rfl, hbl4⟩
  have hb14 := below_step hb13 hbl4
  clear hb13 hbl4
  go_wp2_with fail
  refine (apply_eq (base ++ ByteArray.mk #[120]) d (text.size : Int) 6 ByteArray.empty _ (by omega) hdl (by omega) HO.out).mono ?_
  rintro e w5 ⟨rfl, hbl5⟩
  have hb15 := below_step hb14 hbl5
  clear hb14 hbl5
  go_wp2_with fail
  refine (size_eq d 0 text.size _ hdm HZ.out).mono ?_
  rintro e w6 ⟨rfl, hbl6⟩
  have hb16 := below_step hb15 hbl6
  clear hb15 hbl6 HA HO HZ HR
  by_cases hx : text = ByteArray.empty
  · subst hx
    clear HRR
    go_wp2_with fail
    refine (make_any base base _ (by omega) (by omega)).mono ?_
    rintro e w7 ⟨d2, rfl, hmd2, _, hd40, hbl7⟩
    have hd40' : d2.size ≤ 40 := hd40 rfl
    have hA2 := hmd2.back
    rw [HLB.out] at hA2
    have HA2 := Lib.hid hA2
    have hb17 := below_step hb16 hbl7
    clear hd40 hmd2 hA2 hb16 hbl7
    have hd41 : (d2.size : Int) ≤ 40 := by omega
    go_wp2_with fail
    refine (apply_eq base d2 (base.size : Int) 0 base _ (by omega) (by omega) (by omega) HA2.out).mono ?_
    rintro e w8 ⟨rfl, hbl8⟩
    have hb18 := below_step hb17 hbl8
    clear hb17 hbl8
    go_wp2_with fail
    refine (knows_true _).mono ?_
    rintro e w9 ⟨rfl, hbl9⟩
    go_wp2_with fail
    go_ret
    exact ⟨rfl, below_step hb18 hbl9⟩
  · obtain rfl := HRR.out hx
    have hxe := not_empty hx
    clear HRR
    go_wp2_with fail
    refine (make_any base base _ (by omega) (by omega)).mono ?_
    rintro e w7 ⟨d2, rfl, hmd2, _, hd40, hbl7⟩
    have hd40' : d2.size ≤ 40 := hd40 rfl
    have hA2 := hmd2.back
    rw [HLB.out] at hA2
    have HA2 := Lib.hid hA2
    have hb17 := below_step hb16 hbl7
    clear hd40 hmd2 hA2 hb16 hbl7
    have hd41 : (d2.size : Int) ≤ 40 := by omega
    go_wp2_with fail
    refine (apply_eq base d2 (base.size : Int) 0 base _ (by omega) (by omega) (by omega) HA2.out).mono ?_
    rintro e w8 ⟨rfl, hbl8⟩
    have hb18 := below_step hb17 hbl8
    clear hb17 hbl8
    go_wp2_with fail
    refine (knows_true _).mono ?_
    rintro e w9 ⟨rfl, hbl9⟩
    go_wp2_with fail
    go_ret
    exact ⟨rfl, below_step hb18 hbl9⟩

end Go.Proofs.Ytoglbmibbdpjcaa
