/-
  WALKS OF LAYER 1: the document's own Get (knapsackref01.Get).
-/
import Derived.Test.YtcicfjfbnbkkcaaDoorViText
namespace Go.Proofs.YtcicfjfbnbkkcaaDoor
open Go.RowKit
set_option linter.unusedVariables false


/-- What the second loop has gathered once it has come down to i. -/
def down (l : List UInt8) (e : Nat) (i : Int) : Nat := Vi.val ((l.take (e + 1)).drop (i + 1).toNat)

theorem down_top (l : List UInt8) (e : Nat) : down l e e = 0 := by
  unfold down
  rw [List.drop_of_length_le (by rw [List.length_take]; omega)]; rfl

theorem down_end (l : List UInt8) (e : Nat) : down l e (-1) = Vi.val (l.take (e + 1)) := by
  unfold down; simp

theorem down_step {l : List UInt8} {e : Nat} (h : Vi.Ok l e) (j : Nat) (hj : j ≤ e) (hl : j < l.length) : down l e ((j : Int) - 1) = (l[j]).toNat % 128 + 128 * down l e j := by
  have := h.lt
  unfold down
  rw [show ((j : Int) - 1 + 1).toNat = j by omega, show ((j : Int) + 1).toNat = j + 1 by omega, Vi.val_drop_succ _ j (by rw [List.length_take]; omega), List.getElem_take]

theorem down_lt {l : List UInt8} {e : Nat} (h : Vi.Ok l e) (i : Int) : down l e i < 18446744073709551616 := by
  have h1 := h.val_lt
  have h2 := Vi.val_drop_le (l.take (e + 1)) (i + 1).toNat
  unfold down; omega

set_option maxHeartbeats 800000 in
set_option maxRecDepth 100000 in
theorem refget_ok (s : ByteArray) (w : World) (hs : s.size ≤ maxLen) (e : Nat) (h : Vi.Ok s.data.toList e) :
    Calls Tryd.prog 38 #[.string s] w fun r w' => r = .returned (.tuple #[.int .u64 (Vi.val (s.data.toList.take (e + 1))), .int .i64 ((e : Int) + 1)]) ∧ w = w' := by
  unfold maxLen at hs
  have hle := size_list s
  have hes : e < s.size := by have := h.lt; omega
  have h10 := h.lt10
  clear hle
  have hl : (s[e].toNat : Int) < 128 := by rw [at_list s e hes]; have := h.last; omega
  go_enter Tryd.func38, Tryd.ntmps38
  go_wp2
  go_loop [4] (fun i => ∃ k : Nat, k ≤ e ∧ i = .int .i64 k) (fun i => e - (intOf i).toNat)
  case atStart => exact ⟨0, Nat.zero_le _, rfl⟩
  case round =>
    obtain ⟨k, hk, rfl⟩ := hrel
    by_cases hlt : k < e
    · have hks : k < s.size := by omega
      have h128 : (128 : Int) ≤ (s[k].toNat : Int) := by rw [at_list s k hks]; have := h.more k (by rw [size_list]; omega) hlt; omega
      go_wp2_with fail
      go_round
      case rel => exact ⟨k + 1, by omega, by go_num⟩
      case measure => simp [intOf]; omega
    · obtain rfl : k = e := by omega
      have hb := (s[k]).toNat_lt
      have hthree : k = 9 ∨ (k ≠ 9 ∧ 0 < k) ∨ k = 0 := by omega
      rcases hthree with rfl | ⟨h9, h0⟩ | rfl
      · have h1 : (s[9].toNat : Int) ≤ 1 := by rw [at_list s 9 hes]; have := h.fits rfl; omega
        have h2 : ((s[9].toNat : Int) == 0) = false := by rw [at_list s 9 hes]; have := h.least (by omega); exact beq_eq_false_iff_ne.2 (by omega)
        go_wp2_with fail
        go_loop [5, 6] (fun n i => ∃ j : Int, -1 ≤ j ∧ j ≤ 9 ∧ i = .int .i64 j ∧ n = .int .u64 (down s.data.toList 9 j)) (fun _ i => (intOf i + 1).toNat)
        case atStart => exact ⟨9, by omega, by omega, rfl, val_int (by have := down_top s.data.toList 9; simp at this; simp [this])⟩
        case round =>
          obtain ⟨j, hj1, hj2, rfl, rfl⟩ := hrel
          by_cases hj : 0 ≤ j
          · obtain ⟨m, rfl⟩ := Int.eq_ofNat_of_zero_le hj
            have hm : m < s.size := by omega
            have hd := down_step h m (by omega) (by rw [size_list]; omega)
            have hd1 := down_lt h ((m : Int) - 1)
            have HD : Hid (128 * (down s.data.toList 9 (m : Int) : Int) + (s[m].toNat : Int) % 128 = (down s.data.toList 9 ((m : Int) - 1) : Int)) := by
              rw [at_list s m hm]; show _ = _; omega
            have hd2 : 128 * (down s.data.toList 9 (m : Int) : Int) + (s[m].toNat : Int) % 128 < 18446744073709551616 := by rw [at_list s m hm]; omega
            clear hd hd1
            go_wp2_with fail
            go_round
            case rel => exact ⟨(m : Int) - 1, by omega, by omega, by go_num, val_int HD.out⟩
            case measure => simp [intOf]
          · obtain rfl : j = -1 := by omega
            have HE := Lib.hid (down_end s.data.toList 9)
            go_wp2_with fail
            go_ret2
            exact ⟨ret_tuple2 (val_int (by rw [HE.out])) rfl, rfl⟩
      · have h1 : ((k : Int) == 9) = false := beq_eq_false_iff_ne.2 (by omega)
        have h2 : ((s[k].toNat : Int) == 0) = false := by rw [at_list s k hes]; have := h.least (by omega); exact beq_eq_false_iff_ne.2 (by omega)
        go_wp2_with fail
        go_loop [5, 6] (fun n i => ∃ j : Int, -1 ≤ j ∧ j ≤ (k : Int) ∧ i = .int .i64 j ∧ n = .int .u64 (down s.data.toList k j)) (fun _ i => (intOf i + 1).toNat)
        case atStart => exact ⟨(k : Int), by omega, by omega, rfl, val_int (by have := down_top s.data.toList k; simp [this])⟩
        case round =>
          obtain ⟨j, hj1, hj2, rfl, rfl⟩ := hrel
          by_cases hj : 0 ≤ j
          · obtain ⟨m, rfl⟩ := Int.eq_ofNat_of_zero_le hj
            have hm : m < s.size := by omega
            have hd := down_step h m (by omega) (by rw [size_list]; omega)
            have hd1 := down_lt h ((m : Int) - 1)
            have HD : Hid (128 * (down s.data.toList k (m : Int) : Int) + (s[m].toNat : Int) % 128 = (down s.data.toList k ((m : Int) - 1) : Int)) := by
              rw [at_list s m hm]; show _ = _; omega
            have hd2 : 128 * (down s.data.toList k (m : Int) : Int) + (s[m].toNat : Int) % 128 < 18446744073709551616 := by rw [at_list s m hm]; omega
            clear hd hd1
            go_wp2_with fail
            go_round
            case rel => exact ⟨(m : Int) - 1, by omega, by omega, by go_num, val_int HD.out⟩
            case measure => simp [intOf]
          · obtain rfl : j = -1 := by omega
            have HE := Lib.hid (down_end s.data.toList k)
            go_wp2_with fail
            go_ret2
            exact ⟨ret_tuple2 (val_int (by rw [HE.out])) rfl, rfl⟩
      · have hne : ¬ s = ByteArray.empty := fun h => by subst h; simp at hes
        go_wp2_with fail
        go_loop [5, 6] (fun n i => ∃ j : Int, -1 ≤ j ∧ j ≤ 0 ∧ i = .int .i64 j ∧ n = .int .u64 (down s.data.toList 0 j)) (fun _ i => (intOf i + 1).toNat)
        case atStart => exact ⟨0, by omega, by omega, rfl, val_int (by have := down_top s.data.toList 0; simp at this; simp [this])⟩
        case round =>
          obtain ⟨j, hj1, hj2, rfl, rfl⟩ := hrel
          by_cases hj : 0 ≤ j
          · obtain ⟨m, rfl⟩ := Int.eq_ofNat_of_zero_le hj
            have hm : m < s.size := by omega
            have hd := down_step h m (by omega) (by rw [size_list]; omega)
            have hd1 := down_lt h ((m : Int) - 1)
            have HD : Hid (128 * (down s.data.toList 0 (m : Int) : Int) + (s[m].toNat : Int) % 128 = (down s.data.toList 0 ((m : Int) - 1) : Int)) := by
              rw [at_list s m hm]; show _ = _; omega
            have hd2 : 128 * (down s.data.toList 0 (m : Int) : Int) + (s[m].toNat : Int) % 128 < 18446744073709551616 := by rw [at_list s m hm]; omega
            clear hd hd1
            go_wp2_with fail
            go_round
            case rel => exact ⟨(m : Int) - 1, by omega, by omega, by go_num, val_int HD.out⟩
            case measure => simp [intOf]
          · obtain rfl : j = -1 := by omega
            have HE := Lib.hid (down_end s.data.toList 0)
            go_wp2_with fail
            go_ret2
            exact ⟨ret_tuple2 (val_int (by rw [HE.out])) rfl, rfl⟩

set_option maxHeartbeats 800000 in
set_option maxRecDepth 100000 in
theorem refget_none (s : ByteArray) (w : World) (hs : s.size ≤ maxLen) (h : ∀ e, ¬ Vi.Ok s.data.toList e) :
    Calls Tryd.prog 38 #[.string s] w fun r w' => r = .returned (.tuple #[.int .u64 0, .int .i64 0]) ∧ w = w' := by
  unfold maxLen at hs
  have HN := Lib.hid h
  clear h
  go_enter Tryd.func38, Tryd.ntmps38
  go_wp2
  go_loop [4] (fun i => ∃ (k : Nat), k ≤ 10 ∧ k ≤ s.size ∧ i = .int .i64 k ∧ Hid (∀ (j : Nat) (h : j < s.data.toList.length), j < k → 128 ≤ (s.data.toList[j]).toNat)) (fun i => 10 - (intOf i).toNat)
  case atStart => exact ⟨0, by omega, Nat.zero_le _, rfl, fun j _ h => absurd h (by omega)⟩
  case round =>
    obtain ⟨k, hk, hks, rfl, HM⟩ := hrel
    by_cases hin : k < s.size ∧ k < 10
    · obtain ⟨hlt, hl10⟩ := hin
      by_cases hb : (128 : Int) ≤ (s[k].toNat : Int)
      · go_wp2_with fail
        go_round
        case rel =>
          refine ⟨k + 1, by omega, by omega, by go_num, fun j hj hjk => ?_⟩
          by_cases e : j = k
          · subst e; rw [at_list s j hlt] at hb; omega
          · exact HM.out j hj (by omega)
        case measure => simp [intOf]; omega
      · have hl : (s[k].toNat : Int) < 128 := by omega
        have hno : (0 < (k : Int) ∧ (s[k].toNat : Int) = 0) ∨ (k = 9 ∧ 1 < (s[k].toNat : Int)) := by
          by_cases c1 : 0 < k ∧ s[k].toNat = 0
          · left; omega
          · by_cases c2 : k = 9 ∧ 1 < s[k].toNat
            · right; omega
            · exfalso
              have hkl : k < s.data.toList.length := by rw [size_list]; exact hlt
              have e : s[k].toNat = (s.data.toList[k]).toNat := by rw [at_list s k hlt]
              refine HN.out k ⟨hl10, hkl, HM.out, by omega, fun h0 hz => c1 ⟨h0, by omega⟩, fun h9 => ?_⟩
              rcases Nat.lt_or_ge 1 s[k].toNat with g | g
              · exact absurd ⟨h9, g⟩ c2
              · omega
        clear hb
        rcases hno with ⟨h0, hz⟩ | ⟨rfl, h1⟩
        · have hz' : ((s[k].toNat : Int) == 0) = true := beq_iff_eq.2 hz
          clear hz
          by_cases h9 : k = 9
          · subst h9
            go_wp2_with fail
            all_goals go_ret2
            all_goals exact ⟨rfl, rfl⟩
          · have h9' : ((k : Int) == 9) = false := beq_eq_false_iff_ne.2 (by omega)
            go_wp2_with fail
            all_goals go_ret2
            all_goals exact ⟨rfl, rfl⟩
        · go_wp2_with fail
          all_goals go_ret2
          all_goals exact ⟨rfl, rfl⟩
    · by_cases hlt : k < s.size
      · have hge : (10 : Int) ≤ (k : Int) := by omega
        go_wp2_with fail
        all_goals go_ret2
        all_goals exact ⟨rfl, rfl⟩
      · go_wp2_with fail
        all_goals go_ret2
        all_goals exact ⟨rfl, rfl⟩


set_option maxHeartbeats 400000 in
set_option maxRecDepth 100000 in
theorem reftake_none (s : ByteArray) (w : World) (hs : s.size ≤ maxLen) (h : ∀ e, ¬ Vi.Ok s.data.toList e) :
    Calls Tryd.prog 35 #[.string s] w fun r w' => r = .returned (.tuple #[.string ⟨#[]⟩, .int .i64 0]) ∧ w = w' := by
  have H := Lib.hid h
  clear h
  go_enter Tryd.func35, Tryd.ntmps35
  go_wp2_with fail
  refine (refget_none s _ hs H.out).mono ?_
  rintro e w1 ⟨rfl, rfl⟩
  go_wp2_with fail
  go_ret2
  exact ⟨rfl, rfl⟩

set_option maxHeartbeats 400000 in
set_option maxRecDepth 100000 in
theorem reftake_short (s : ByteArray) (w : World) (hs : s.size ≤ maxLen) (e : Nat) (h : Vi.Ok s.data.toList e) (hv : s.size - (e + 1) < Vi.val (s.data.toList.take (e + 1))) :
    Calls Tryd.prog 35 #[.string s] w fun r w' => r = .returned (.tuple #[.string ⟨#[]⟩, .int .i64 0]) ∧ w = w' := by
  have hlt := h.lt
  rw [size_list] at hlt
  have H := Lib.hid h
  have hsz := hs
  unfold maxLen at hsz
  have hvl := h.val_lt
  clear h
  generalize hx : Vi.val (s.data.toList.take (e + 1)) = x at *
  have HX := Lib.hid hx
  clear hx
  have hk0 : ((e : Int) + 1 == 0) = false := beq_eq_false_iff_ne.2 (by omega)
  have hgt : (s.size : Int) - ((e : Int) + 1) < (x : Int) := by omega
  have hge : (0 : Int) ≤ (s.size : Int) - ((e : Int) + 1) := by omega
  go_enter Tryd.func35, Tryd.ntmps35
  go_wp2_with fail
  refine (refget_ok s _ hs e H.out).mono ?_
  rintro r w1 ⟨rfl, rfl⟩
  rw [HX.out]
  go_wp2_with fail
  all_goals go_ret2
  all_goals exact ⟨rfl, rfl⟩

set_option maxHeartbeats 400000 in
set_option maxRecDepth 100000 in
theorem reftake_ok (s : ByteArray) (w : World) (hs : s.size ≤ maxLen) (e : Nat) (h : Vi.Ok s.data.toList e) (hv : Vi.val (s.data.toList.take (e + 1)) ≤ s.size - (e + 1)) :
    Calls Tryd.prog 35 #[.string s] w fun r w' => r = .returned (.tuple #[.string (s.extract (e + 1) (e + 1 + Vi.val (s.data.toList.take (e + 1)))), .int .i64 ((e : Int) + 1 + (Vi.val (s.data.toList.take (e + 1)) : Int))]) ∧ w = w' := by
  have hlt := h.lt
  rw [size_list] at hlt
  have H := Lib.hid h
  have hsz := hs
  unfold maxLen at hsz
  have hvl := h.val_lt
  clear h
  generalize hx : Vi.val (s.data.toList.take (e + 1)) = x at *
  have HX := Lib.hid hx
  clear hx
  have hk0 : ((e : Int) + 1 == 0) = false := beq_eq_false_iff_ne.2 (by omega)
  have hgt : (x : Int) ≤ (s.size : Int) - ((e : Int) + 1) := by omega
  have hge : (0 : Int) ≤ (s.size : Int) - ((e : Int) + 1) := by omega
  go_enter Tryd.func35, Tryd.ntmps35
  go_wp2_with fail
  refine (refget_ok s _ hs e H.out).mono ?_
  rintro r w1 ⟨rfl, rfl⟩
  rw [HX.out]
  go_wp2_with fail
  all_goals go_ret2
  all_goals exact ⟨rfl, rfl⟩

end Go.Proofs.YtcicfjfbnbkkcaaDoor
