/-
  WALKS OF LAYER 10: words, Fine; of the program and of the document; few.
-/
import Derived.Test.YtkdljagcdaphdabDoorBase
namespace Go.Proofs.YtkdljagcdaphdabDoor
open Go.RowKit
set_option linter.unusedVariables false
set_option linter.unusedSimpArgs false

theorem take_snoc (s : ByteArray) (k : Nat) (h : k < s.size) : s.data.toList.take (k + 1) = s.data.toList.take k ++ [s[k]] := by
  rw [List.take_succ_eq_append_getElem (by simpa using h)]; rfl
theorem byte_mem (s : ByteArray) (k : Nat) (h : k < s.size) : s[k] ∈ s.data.toList := by
  have : s[k] = s.data.toList[k]'(by simpa using h) := rfl
  rw [this]; exact List.getElem_mem _
theorem word_bad {s : ByteArray} {k : Nat} (h : k < s.size) (hb : Cp.okB s[k] = false) : Cp.wordOk s = false := by
  cases hq : Cp.wordOk s with
  | false => rfl
  | true =>
    unfold Cp.wordOk at hq; simp only [Bool.and_eq_true] at hq
    have := List.all_eq_true.1 hq.2 _ (byte_mem s k h)
    rw [hb] at this; cases this
theorem word_good {s : ByteArray} (h1 : 1 ≤ s.size) (h2 : s.size ≤ 20) (h : s.data.toList.all Cp.okB = true) : Cp.wordOk s = true := by
  unfold Cp.wordOk; rw [h]; simp [h1, h2]
theorem okB_eq (c : UInt8) : Cp.okB c = ((decide (97 ≤ (c.toNat : Int)) && decide ((c.toNat : Int) ≤ 122)) || (decide (48 ≤ (c.toNat : Int)) && decide ((c.toNat : Int) ≤ 57)) || ((c.toNat : Int) == 45)) := by
  unfold Cp.okB
  rw [Bool.eq_iff_iff]; simp; omega
set_option maxHeartbeats 400000 in
set_option maxRecDepth 100000 in
theorem nameByte_any (c : UInt8) (w : World) : Calls Tryd.prog 27 #[.int .u8 (c.toNat : Int)] w fun r w' => r = .returned (.bool (Cp.okB c)) ∧ w = w' := by
  have HZ := Lib.hid (okB_eq c)
  have hc := c.toNat_lt
  generalize Cp.okB c = z at HZ
  generalize c.toNat = n at HZ hc
  by_cases h1 : (97 : Int) ≤ (n : Int)
  · by_cases h2 : (n : Int) ≤ 122
    · go_enter Tryd.func27, Tryd.ntmps27
      go_wp2_with fail
      go_ret
      exact ⟨ret_bool (by rw [HZ.out]; simp [h1, h2]), rfl⟩
    · have h3 : (48 : Int) ≤ (n : Int) := by omega
      have h4 : ¬ (n : Int) ≤ 57 := by omega
      have h5 : ((n : Int) == 45) = false := beq_eq_false_iff_ne.2 (by omega)
      go_enter Tryd.func27, Tryd.ntmps27
      go_wp2_with fail
      go_ret
      exact ⟨ret_bool (by rw [HZ.out, h5]; simp [h2, h4]), rfl⟩
  · by_cases h3 : (48 : Int) ≤ (n : Int)
    · by_cases h4 : (n : Int) ≤ 57
      · go_enter Tryd.func27, Tryd.ntmps27
        go_wp2_with fail
        go_ret
        exact ⟨ret_bool (by rw [HZ.out]; simp [h1, h3, h4]), rfl⟩
      · have h5 : ((n : Int) == 45) = false := beq_eq_false_iff_ne.2 (by omega)
        go_enter Tryd.func27, Tryd.ntmps27
        go_wp2_with fail
        go_ret
        exact ⟨ret_bool (by rw [HZ.out, h5]; simp [h1, h4]; omega), rfl⟩
    · cases h5 : ((n : Int) == 45) with
      | true =>
        go_enter Tryd.func27, Tryd.ntmps27
        go_wp2_with fail
        go_ret
        exact ⟨ret_bool (by rw [HZ.out, h5]; simp), rfl⟩
      | false =>
        go_enter Tryd.func27, Tryd.ntmps27
        go_wp2_with fail
        go_ret
        exact ⟨ret_bool (by rw [HZ.out, h5]; simp [h1, h3]; omega), rfl⟩

set_option maxHeartbeats 400000 in
set_option maxRecDepth 100000 in
theorem isName_any (s : ByteArray) (w : World) (hs : s.size ≤ maxLen) :
    Calls Tryd.prog 21 #[.string s] w fun r w' => r = .returned (.bool (Cp.wordOk s)) ∧ w = w' := by
  unfold maxLen at hs
  by_cases h1 : s = ByteArray.empty
  · have HZ := Lib.hid (show Cp.wordOk s = false by subst h1; decide)
    generalize Cp.wordOk s = z at HZ
    subst h1
    go_enter Tryd.func21, Tryd.ntmps21
    go_wp2_with fail
    go_ret
    exact ⟨ret_bool HZ.out.symm, rfl⟩
  · have hne := size_ne h1
    have hnx := not_empty h1
    have hnx2 : s.toList.isEmpty = false := by simpa using hnx
    have hq0 : ¬ s.toList = [] := by rw [ByteArray.toList_eq]; exact list_ne h1
    by_cases h2 : 20 < s.size
    · have HZ := Lib.hid (show Cp.wordOk s = false by
        cases hq : Cp.wordOk s with
        | false => rfl
        | true => have := (Cp.word_size hq).2; omega)
      have h2' : 20 < (s.size : Int) := by omega
      clear h2
      generalize Cp.wordOk s = z at HZ
      go_enter Tryd.func21, Tryd.ntmps21
      go_wp2_with fail
      go_ret
      exact ⟨ret_bool HZ.out.symm, rfl⟩
    · have h2' : ¬ 20 < (s.size : Int) := by omega
      have HB := Lib.hid (fun k (h : k < s.size) hb => word_bad (s := s) (k := k) h hb)
      have HG := Lib.hid (fun h => word_good (s := s) (by omega) (by omega) h)
      generalize Cp.wordOk s = z at HB HG
      go_enter Tryd.func21, Tryd.ntmps21
      go_wp2_with fail
      go_loop [13] (fun i => ∃ k : Nat, k ≤ s.size ∧ i = .int .i64 k ∧ Hid ((s.data.toList.take k).all Cp.okB = true)) (fun i => s.size - (intOf i).toNat)
      case atStart => exact ⟨0, Nat.zero_le _, rfl, by simp [Hid]⟩
      case round =>
        obtain ⟨k, hk, rfl, HN⟩ := hrel
        by_cases hlt : k < s.size
        · have hlt' : (k : Int) < (s.size : Int) := by omega
          have HNB := Lib.hid (fun W => nameByte_any s[k] W)
          cases hok : Cp.okB s[k] with
          | false =>
            rw [hok] at HNB
            have HZ := Lib.hid (HB.out k hlt hok)
            clear hok
            go_wp2_with (go_at_call 27; ((with_reducible refine (HNB.out _).mono ?_); rintro r wx ⟨rfl, rfl⟩))
            go_ret
            exact ⟨ret_bool HZ.out.symm, rfl⟩
          | true =>
            rw [hok] at HNB
            have HN2 := Lib.hid (show (s.data.toList.take (k + 1)).all Cp.okB = true by rw [take_snoc s k hlt, List.all_append, HN.out]; simp [hok])
            clear hok
            go_wp2_with (go_at_call 27; ((with_reducible refine (HNB.out _).mono ?_); rintro r wx ⟨rfl, rfl⟩))
            go_round
            case rel => exact ⟨k + 1, by omega, by go_num, HN2⟩
            case measure => simp [intOf]; omega
        · have HZ := Lib.hid (HG.out (by
            have := HN.out
            rwa [List.take_of_length_le (by simp; omega)] at this))
          go_wp2_with fail
          go_ret
          exact ⟨ret_bool HZ.out.symm, rfl⟩

theorem okB_cases (n : Nat) (z : Bool) (h : z = ((decide (97 ≤ (n : Int)) && decide ((n : Int) ≤ 122)) || (decide (48 ≤ (n : Int)) && decide ((n : Int) ≤ 57)) || ((n : Int) == 45))) :
    (z = true ∧ (((n : Int) == 45) = true ∨ (((n : Int) == 45) = false ∧ 48 ≤ (n : Int) ∧ (n : Int) ≤ 57) ∨ (((n : Int) == 45) = false ∧ 97 ≤ (n : Int) ∧ (n : Int) ≤ 122))) ∨
    (z = false ∧ ((n : Int) == 45) = false ∧ ((¬ 48 ≤ (n : Int)) ∨ (48 ≤ (n : Int) ∧ ¬ (n : Int) ≤ 57 ∧ ¬ 97 ≤ (n : Int)) ∨ (48 ≤ (n : Int) ∧ ¬ (n : Int) ≤ 57 ∧ 97 ≤ (n : Int) ∧ ¬ (n : Int) ≤ 122))) := by
  subst h
  by_cases h5 : (n : Int) = 45
  · left; refine ⟨by simp [h5], .inl (by simp [h5])⟩
  · have h5' : ((n : Int) == 45) = false := beq_eq_false_iff_ne.2 h5
    by_cases h3 : (48 : Int) ≤ (n : Int)
    · by_cases h4 : (n : Int) ≤ 57
      · left; exact ⟨by simp [h3, h4], .inr (.inl ⟨h5', h3, h4⟩)⟩
      · by_cases h1 : (97 : Int) ≤ (n : Int)
        · by_cases h2 : (n : Int) ≤ 122
          · left; exact ⟨by simp [h1, h2], .inr (.inr ⟨h5', h1, h2⟩)⟩
          · right; exact ⟨by rw [h5']; simp [h2, h4], h5', .inr (.inr ⟨h3, h4, h1, h2⟩)⟩
        · right; exact ⟨by rw [h5']; simp [h1, h4], h5', .inr (.inl ⟨h3, h4, h1⟩)⟩
    · right; exact ⟨by rw [h5']; simp [h3]; omega, h5', .inl h3⟩

set_option maxHeartbeats 1000000 in
set_option maxRecDepth 100000 in
theorem refword_any (s : ByteArray) (w : World) (hs : s.size ≤ maxLen) :
    Calls Tryd.prog 19 #[.string s] w fun r w' => r = .returned (.bool (Cp.wordOk s)) ∧ w = w' := by
  unfold maxLen at hs
  have HB := Lib.hid (fun k (h : k < s.size) hb => word_bad (s := s) (k := k) h hb)
  have HW := Lib.hid (show s.data.toList.all Cp.okB = true → Cp.wordOk s = (decide (1 ≤ (s.size : Int)) && decide ((s.size : Int) ≤ 20)) from fun h => by
    unfold Cp.wordOk; rw [h, Bool.and_true, Bool.eq_iff_iff]; simp; omega)
  generalize Cp.wordOk s = z at HB HW
  go_enter Tryd.func19, Tryd.ntmps19
  go_wp2_with fail
  go_loop [3] (fun i => ∃ k : Nat, k ≤ s.size ∧ i = .int .i64 k ∧ Hid ((s.data.toList.take k).all Cp.okB = true)) (fun i => s.size - (intOf i).toNat)
  case atStart => exact ⟨0, Nat.zero_le _, rfl, by simp [Hid]⟩
  case round =>
    obtain ⟨k, hk, rfl, HN⟩ := hrel
    by_cases hlt : k < s.size
    · have hlt' : (k : Int) < (s.size : Int) := by omega
      rcases okB_cases s[k].toNat (Cp.okB s[k]) (okB_eq s[k]) with ⟨hz, hc⟩ | ⟨hz, h5, hc⟩
      · have HN2 := Lib.hid (show (s.data.toList.take (k + 1)).all Cp.okB = true by rw [take_snoc s k hlt, List.all_append, HN.out]; simp [hz])
        clear hz
        rcases hc with h5 | ⟨h5, h3, h4⟩ | ⟨h5, h1, h2⟩
        · go_wp2_with fail
          go_round
          case rel => exact ⟨k + 1, by omega, by go_num, HN2⟩
          case measure => simp [intOf]; omega
        · go_wp2_with fail
          go_round
          case rel => exact ⟨k + 1, by omega, by go_num, HN2⟩
          case measure => simp [intOf]; omega
        · have h3 : (48 : Int) ≤ (s[k].toNat : Int) := by omega
          have h4 : ¬ (s[k].toNat : Int) ≤ 57 := by omega
          go_wp2_with fail
          go_round
          case rel => exact ⟨k + 1, by omega, by go_num, HN2⟩
          case measure => simp [intOf]; omega
      · have HZ := Lib.hid (HB.out k hlt hz)
        clear hz
        rcases hc with h3 | ⟨h3, h4, h1⟩ | ⟨h3, h4, h1, h2⟩
        · have h1 : ¬ (97 : Int) ≤ (s[k].toNat : Int) := by omega
          go_wp2_with fail
          go_ret
          exact ⟨ret_bool HZ.out.symm, rfl⟩
        · go_wp2_with fail
          go_ret
          exact ⟨ret_bool HZ.out.symm, rfl⟩
        · go_wp2_with fail
          go_ret
          exact ⟨ret_bool HZ.out.symm, rfl⟩
    · have HZ := Lib.hid (HW.out (by
        have := HN.out
        rwa [List.take_of_length_le (by simp; omega)] at this))
      by_cases h1 : (1 : Int) ≤ (s.size : Int)
      · go_wp2_with fail
        go_ret
        exact ⟨ret_bool (by rw [HZ.out, decide_eq_true h1, Bool.true_and]), rfl⟩
      · go_wp2_with fail
        go_ret
        exact ⟨ret_bool (by rw [HZ.out, decide_eq_false (show ¬ (1 : Int) ≤ (s.size : Int) by omega), Bool.false_and]), rfl⟩

/-! ### Fine -/
def lastN (L : List ByteArray) : Nat → Option ByteArray
  | 0 => none
  | k + 1 => L[k]?
theorem fine_step {L : List ByteArray} {k : Nat} {e : ByteArray} (he : L[k]? = some e) : Cp.fineF (lastN L k) (L.drop k) = (Cp.wordOk e && Cp.aft (lastN L k) e && Cp.fineF (lastN L (k + 1)) (L.drop (k + 1))) := by
  obtain ⟨hk, rfl⟩ := List.getElem?_eq_some_iff.1 he
  rw [List.drop_eq_getElem_cons hk]
  simp [Cp.fineF, lastN, List.getElem?_eq_getElem hk]

set_option maxHeartbeats 1000000 in
set_option maxRecDepth 100000 in
theorem fine_any (v : Value) (L : List ByteArray) (w : World) (hL : StrsAt w v L) (hn : ∀ r ∈ L, r.size ≤ maxLen) (hl : L.length ≤ maxLen) :
    Calls Tryd.prog 9 #[v] w fun r w' => r = .returned (.bool (Cp.fine L)) ∧ w = w' := by
  obtain ⟨ao, cap, rfl⟩ := hL.form
  unfold maxLen at hl
  have HL := Lib.hid hL
  have HN := Lib.hid hn
  clear hL hn
  by_cases h20 : L.length ≤ 20
  · have h20' : ¬ (20 : Int) < (L.length : Int) := by omega
    have HZ := Lib.hid (show Cp.fine L = Cp.fineF none L by unfold Cp.fine; simp [h20])
    generalize Cp.fine L = z at HZ
    go_enter Tryd.func9, Tryd.ntmps9
    go_wp2_with fail
    go_loop [10] (fun i => ∃ (k : Nat), k ≤ L.length ∧ i = .int .i64 k ∧ Hid (z = Cp.fineF (lastN L k) (L.drop k))) (fun i => L.length - (intOf i).toNat)
    case atStart => exact ⟨0, by omega, rfl, HZ.out⟩
    case round =>
      obtain ⟨k, hk, rfl, HE⟩ := hrel
      by_cases hlt : k < L.length
      · have hlt' : (k : Int) < (L.length : Int) := by omega
        have hk0 : (0 : Int) ≤ (k : Int) := by omega
        obtain ⟨e, he⟩ : ∃ e, L[k]? = some e := ⟨L[k], List.getElem?_eq_getElem hlt⟩
        obtain ⟨a, rfl, c0⟩ := HL.out.elem k e he
        have HS := Lib.hid (HE.out.trans (fine_step he))
        have HNM := Lib.hid (fun W => isName_any e W (HN.out e (List.mem_of_getElem? he)))
        clear HE he
        cases hnm : Cp.wordOk e with
        | false =>
          rw [hnm] at HNM HS
          have HZ2 := Lib.hid (show z = false by rw [HS.out]; rfl)
          clear hnm HS
          go_wp2_with (go_at_call 21; ((with_reducible refine (HNM.out _).mono ?_); rintro r wx ⟨rfl, rfl⟩))
          go_ret
          exact ⟨ret_bool HZ2.out.symm, rfl⟩
        | true =>
          rw [hnm] at HNM HS
          clear hnm
          rcases Nat.eq_zero_or_pos k with hkz | hkp
          · have HS2 := Lib.hid (show z = Cp.fineF (lastN L (k + 1)) (L.drop (k + 1)) by rw [HS.out, hkz]; rfl)
            have g1 : decide ((0 : Int) < (k : Int)) = false := by simp; omega
            have g2 : decide (0 < k) = false := by simp; omega
            have g3 : ¬ (0 : Int) < (k : Int) := by omega
            clear HS hkz
            go_wp2_with (go_at_call 21; ((with_reducible refine (HNM.out _).mono ?_); rintro r wx ⟨rfl, rfl⟩))
            go_round
            case rel => exact ⟨k + 1, by omega, by go_num, HS2⟩
            case measure => simp [intOf]; omega
          · obtain ⟨j, hj⟩ : ∃ j, k = j + 1 := ⟨k - 1, by omega⟩
            obtain ⟨p, hp⟩ : ∃ p, L[j]? = some p := ⟨L[j], List.getElem?_eq_getElem (by omega)⟩
            have HS2 := Lib.hid (show z = (Cp.lt p e && Cp.fineF (lastN L (k + 1)) (L.drop (k + 1))) by
              have hla : lastN L k = some p := by rw [hj]; exact hp
              rw [HS.out, hla]; rfl)
            have HLE := Lib.hid (Cp.leq_iff e p)
            have cj := (by
              obtain ⟨a', e', h'⟩ := HL.out.elem j p hp
              cases e'
              exact h' : w.cell? (a.add j) = some (.string p))
            have g1 : decide ((0 : Int) < (k : Int)) = true := by simp; omega
            have g2 : decide (0 < k) = true := by simp; omega
            have g3 : (0 : Int) < (k : Int) := by omega
            have g4 : (0 : Int) ≤ (j : Int) := by omega
            have g5 : (j : Int) < (L.length : Int) := by omega
            have g6 : (k : Int) - 1 = (j : Int) := by omega
            clear HS hp hj
            have HS2' := Lib.hid (show z = (Op.bytesLess p.toList e.toList && Cp.fineF (lastN L (k + 1)) (L.drop (k + 1))) from HS2.out)
            clear HS2 HLE
            cases hbl : Op.bytesLess p.toList e.toList with
            | true =>
              have HS3 := Lib.hid (show z = Cp.fineF (lastN L (k + 1)) (L.drop (k + 1)) by rw [HS2'.out, hbl]; rfl)
              go_wp2_with (go_at_call 21; ((with_reducible refine (HNM.out _).mono ?_); rintro r wx ⟨rfl, rfl⟩))
              go_round
              case rel => exact ⟨k + 1, by omega, by go_num, HS3⟩
              case measure => simp [intOf]; omega
            | false =>
              have HS3 := Lib.hid (show z = false by rw [HS2'.out, hbl]; rfl)
              go_wp2_with (go_at_call 21; ((with_reducible refine (HNM.out _).mono ?_); rintro r wx ⟨rfl, rfl⟩))
              go_ret
              exact ⟨ret_bool HS3.out.symm, rfl⟩
      · have HS := Lib.hid (show z = true by rw [HE.out, List.drop_of_length_le (by omega)]; rfl)
        go_wp2_with fail
        go_ret
        exact ⟨ret_bool HS.out.symm, rfl⟩
  · have h20' : (20 : Int) < (L.length : Int) := by omega
    have HS := Lib.hid (show Cp.fine L = false by unfold Cp.fine; simp [h20])
    generalize Cp.fine L = z at HS
    go_enter Tryd.func9, Tryd.ntmps9
    go_wp2_with fail
    go_ret
    exact ⟨ret_bool HS.out.symm, rfl⟩

end Go.Proofs.YtkdljagcdaphdabDoor
