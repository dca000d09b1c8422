/-
  WALKS OF LAYER 10: the document's Fine; few, Same, Has, Known, Choose.
-/
import Derived.Test.YtkdljagcdaphdabDoorWalksA
import Derived.Test.YtkdljagcdaphdabDoorShelf
namespace Go.Proofs.YtkdljagcdaphdabDoor
open Go.RowKit
set_option linter.unusedVariables false
set_option linter.unusedSimpArgs false

set_option maxHeartbeats 1000000 in
set_option maxRecDepth 100000 in
theorem reffine_any (v : Value) (L : List ByteArray) (w : World) (hL : StrsAt w v L) (hn : ∀ r ∈ L, r.size ≤ maxLen) (hl : L.length ≤ maxLen) :
    Calls Tryd.prog 7 #[v] w fun r w' => r = .returned (.bool (Cp.fine L)) ∧ Below w.heap.size w w' := by
  obtain ⟨ao, cap, rfl⟩ := hL.form
  unfold maxLen at hl
  have HL := Lib.hid hL
  have HN := Lib.hid hn
  clear hL hn
  have HZ := Lib.hid (show Cp.fine L = (decide (L.length ≤ 20) && Cp.fineF none L) from rfl)
  generalize Cp.fine L = z at HZ
  go_enter Tryd.func7, Tryd.ntmps7
  go_wp2_with fail
  go_loopw [3] (fun i wr => ∃ (k m : Nat), k ≤ L.length ∧ i = .int .i64 k ∧ Hid (z = (decide (L.length ≤ 20) && Cp.fineF (lastN L k) (L.drop k))) ∧ wr = w.drewN m) (fun i _ => L.length - (intOf i).toNat)
  case atStart => exact ⟨0, 0, by omega, rfl, HZ.out, rfl⟩
  case round =>
    obtain ⟨k, m, hk, rfl, HE, rfl⟩ := hrel
    by_cases hlt : k < L.length
    · have hlt' : (k : Int) < (L.length : Int) := by omega
      have hk0 : (0 : Int) ≤ (k : Int) := by omega
      obtain ⟨e, he⟩ : ∃ e, L[k]? = some e := ⟨L[k], List.getElem?_eq_getElem hlt⟩
      obtain ⟨a, rfl, c0⟩ := HL.out.elem k e he
      have HS := Lib.hid (show z = (decide (L.length ≤ 20) && (Cp.wordOk e && Cp.aft (lastN L k) e && Cp.fineF (lastN L (k + 1)) (L.drop (k + 1)))) by rw [HE.out, fine_step he])
      have HNM := Lib.hid (fun W => refword_any e W (HN.out e (List.mem_of_getElem? he)))
      clear HE he
      cases hnm : Cp.wordOk e with
      | false =>
        rw [hnm] at HNM HS
        have HZ2 := Lib.hid (show z = false by rw [HS.out]; simp)
        clear hnm HS
        go_wp2_with (go_at_call 19; ((with_reducible refine (HNM.out _).mono ?_); rintro r wx ⟨rfl, rfl⟩))
        go_ret
        exact ⟨ret_bool HZ2.out.symm, bel_drewN (Below.refl _ _) _⟩
      | true =>
        rw [hnm] at HNM HS
        clear hnm
        rcases Nat.eq_zero_or_pos k with hkz | hkp
        · have HS2 := Lib.hid (show z = (decide (L.length ≤ 20) && Cp.fineF (lastN L (k + 1)) (L.drop (k + 1))) by rw [HS.out, hkz]; rfl)
          have g1 : decide ((0 : Int) < (k : Int)) = false := by simp; omega
          have g2 : decide (0 < k) = false := by simp; omega
          have g3 : ¬ (0 : Int) < (k : Int) := by omega
          clear HS hkz
          go_wp2_with (go_at_call 19; ((with_reducible refine (HNM.out _).mono ?_); rintro r wx ⟨rfl, rfl⟩))
          go_quiet (fail)
          go_wp2_with fail
          go_roundw
          case rel => exact ⟨k + 1, _, by omega, by go_num, HS2, rfl⟩
          case measure => simp [intOf]; omega
        · obtain ⟨j, hj⟩ : ∃ j, k = j + 1 := ⟨k - 1, by omega⟩
          obtain ⟨p, hp⟩ : ∃ p, L[j]? = some p := ⟨L[j], List.getElem?_eq_getElem (by omega)⟩
          have HS2 := Lib.hid (show z = (decide (L.length ≤ 20) && (Cp.lt p e && Cp.fineF (lastN L (k + 1)) (L.drop (k + 1)))) by
            have hla : lastN L k = some p := by rw [hj]; exact hp
            rw [HS.out, hla]; rfl)
          have HLE := Lib.hid (Cp.leq_iff e p)
          have cj := (by
            obtain ⟨a', e', h'⟩ := HL.out.elem j p hp
            cases e'
            exact h' : w.cell? (a.add j) = some (.string p))
          have g1 : decide ((0 : Int) < (k : Int)) = true := by simp; omega
          have g2 : decide (0 < k) = true := by simp; omega
          have g3 : (0 : Int) < (k : Int) := by omega
          have g4 : (0 : Int) ≤ (j : Int) := by omega
          have g5 : (j : Int) < (L.length : Int) := by omega
          have HJ := Lib.hid (show (k : Int) - 1 = (j : Int) by omega)
          clear HS hp hj
          go_wp2_with (go_at_call 19; ((with_reducible refine (HNM.out _).mono ?_); rintro r wx ⟨rfl, rfl⟩))
          have g6 := HJ.out
          have g7 : IntKind.i64.wrap ((k : Int) - 1) = (j : Int) := by rw [g6]; exact IntWalk.i64_in _ (by omega)
          cases hbl : Cp.lt p e with
          | true =>
            rw [hbl] at HLE HS2
            have hle : (Op.bytesLess e.toList p.toList || e.toList == p.toList) = false := HLE.out
            obtain ⟨hl1, hl2⟩ := Bool.or_eq_false_iff.1 HLE.out
            have HS3 := Lib.hid (show z = (decide (L.length ≤ 20) && Cp.fineF (lastN L (k + 1)) (L.drop (k + 1))) by rw [HS2.out]; rfl)
            clear hbl
            go_quiet (fail)
            go_wp2_with fail
            go_roundw
            case rel => exact ⟨k + 1, _, by omega, by go_num, HS3, rfl⟩
            case measure => simp [intOf]; omega
          | false =>
            rw [hbl] at HLE HS2
            have hle : (Op.bytesLess e.toList p.toList || e.toList == p.toList) = true := HLE.out
            have HS3 := Lib.hid (show z = false by rw [HS2.out]; simp)
            clear hbl
            go_quiet (fail)
            go_wp2_with fail
            go_ret
            exact ⟨ret_bool HS3.out.symm, bel_drewN (bel_drewN (Below.refl _ _) _) _⟩
    · have HS := Lib.hid (show z = decide (L.length ≤ 20) by
        rw [HE.out, List.drop_of_length_le (by omega)]
        simp [Cp.fineF])
      by_cases h20 : L.length ≤ 20
      · have h20' : (L.length : Int) ≤ 20 := by omega
        have HS2 := Lib.hid (show z = true by rw [HS.out]; simp [h20])
        clear h20
        go_wp2_with fail
        go_ret
        exact ⟨ret_bool HS2.out.symm, bel_drewN (Below.refl _ _) _⟩
      · have h20' : ¬ (L.length : Int) ≤ 20 := by omega
        have HS2 := Lib.hid (show z = false by rw [HS.out]; simp [h20])
        clear h20
        go_wp2_with fail
        go_ret
        exact ⟨ret_bool HS2.out.symm, bel_drewN (Below.refl _ _) _⟩

/-- What few tells. -/
def FewP (L : List ByteArray) (r : Ending) : Prop := ∃ b : Bool, r = .returned (.bool b) ∧ (b = true → L.length ≤ 30 ∧ ∀ e ∈ L, e.size ≤ 100)
set_option maxHeartbeats 400000 in
set_option maxRecDepth 100000 in
theorem few_any (v : Value) (L : List ByteArray) (w : World) (hL : StrsAt w v L) (hl : L.length ≤ maxLen) :
    Calls Tryd.prog 5 #[v] w fun r w' => FewP L r ∧ w = w' := by
  obtain ⟨ao, cap, rfl⟩ := hL.form
  unfold maxLen at hl
  have HL := Lib.hid hL
  clear hL
  go_enter Tryd.func5, Tryd.ntmps5
  go_wp2_with fail
  go_loop [3] (fun i => ∃ k : Nat, k ≤ L.length ∧ k ≤ 30 ∧ i = .int .i64 k ∧ Hid (∀ i e, L[i]? = some e → i < k → e.size ≤ 100)) (fun i => 30 - (intOf i).toNat)
  case atStart => exact ⟨0, by omega, by omega, rfl, fun i e _ h => absurd h (by omega)⟩
  case round =>
    obtain ⟨k, hk, hk30, rfl, HO⟩ := hrel
    by_cases hlt : k < L.length
    · have hlt' : (k : Int) < (L.length : Int) := by omega
      by_cases h30 : k < 30
      · have h30' : (k : Int) < 30 := by omega
        have hk0 : (0 : Int) ≤ (k : Int) := by omega
        obtain ⟨e, he⟩ : ∃ e, L[k]? = some e := ⟨L[k], List.getElem?_eq_getElem hlt⟩
        obtain ⟨a, ea, c0⟩ := HL.out.elem k e he
        subst ea
        have HO2 : Hid (e.size ≤ 100 → ∀ i x, L[i]? = some x → i < k + 1 → x.size ≤ 100) := fun hh i x hx hi => by
          by_cases hik : i = k
          · subst hik; rw [he] at hx; cases hx; exact hh
          · exact HO.out i x hx (by omega)
        clear he HO
        by_cases q1 : (100 : Int) < (e.size : Int)
        · go_wp2_with fail
          go_ret
          exact ⟨⟨false, rfl, fun h => by cases h⟩, rfl⟩
        · go_wp2_with fail
          go_round
          case rel => exact ⟨k + 1, by omega, by omega, by go_num, HO2.out (by omega)⟩
          case measure => simp [intOf]; omega
      · have h30' : ¬ (k : Int) < 30 := by omega
        have hl30 : ¬ (L.length : Int) ≤ 30 := by omega
        go_wp2_with fail
        go_ret
        exact ⟨⟨false, rfl, fun h => by cases h⟩, rfl⟩
    · have hlt' : ¬ (k : Int) < (L.length : Int) := by omega
      have hl30 : (L.length : Int) ≤ 30 := by omega
      go_wp2_with fail
      go_ret
      exact ⟨⟨true, rfl, fun _ => ⟨by omega, fun e he => by
        obtain ⟨i, hi⟩ := List.getElem?_of_mem he
        exact HO.out i e hi (by have := (List.getElem?_eq_some_iff.1 hi).1; omega)⟩⟩, rfl⟩

set_option maxHeartbeats 800000 in
set_option maxRecDepth 100000 in
theorem same_any (L : List ByteArray) (va vb : Value) (w : World) (hA : StrsAt w va L) (hB : StrsAt w vb L) (hl : L.length ≤ 3000) :
    Calls Tryd.prog 13 #[va, vb] w fun r w' => r = .returned (.bool true) ∧ ∃ n, w' = w.drewN n := by
  obtain ⟨ao, ca, rfl⟩ := hA.form
  obtain ⟨bo, cb, rfl⟩ := hB.form
  have HA := Lib.hid hA
  have HB := Lib.hid hB
  clear hA hB
  have k5 : ((L.length : Int) != (L.length : Int)) = false := by simp
  go_enter Tryd.func13, Tryd.ntmps13
  go_wp2_with fail
  go_loopw [5] (fun i wr => ∃ (k m : Nat), k ≤ L.length ∧ i = .int .i64 k ∧ wr = w.drewN m) (fun i _ => L.length - (intOf i).toNat)
  case atStart => exact ⟨0, 0, by omega, rfl, rfl⟩
  case round =>
    obtain ⟨k, m, hk, rfl, rfl⟩ := hrel
    by_cases hlt : k < L.length
    · have hlt' : (k : Int) < (L.length : Int) := by omega
      have hk0 : (0 : Int) ≤ (k : Int) := by omega
      obtain ⟨e, he⟩ : ∃ e, L[k]? = some e := ⟨L[k], List.getElem?_eq_getElem hlt⟩
      obtain ⟨a, rfl, a1⟩ := HA.out.elem k e he
      obtain ⟨b, rfl, b1⟩ := HB.out.elem k e he
      have k6 : (e.toList != e.toList) = false := by simp
      clear he
      go_wp2_with fail
      go_quiet (fail)
      go_wp2_with fail
      go_roundw
      case rel => exact ⟨k + 1, _, by omega, by go_num, rfl⟩
      case measure => simp [intOf]; omega
    · have hlt' : ¬ (k : Int) < (L.length : Int) := by omega
      go_wp2_with fail
      go_ret
      exact ⟨rfl, m, rfl⟩

/-! ### Has -/
theorem contains_has (L : List ByteArray) (n : ByteArray) : Lib.containsS L n = Cp.hasW L n := by
  rw [Bool.eq_iff_iff, Lib.containsS_iff]
  unfold Cp.hasW
  rw [List.any_eq_true]
  constructor
  · intro h; exact ⟨n, h, by simp⟩
  · rintro ⟨x, hx, he⟩
    have : x = n := by simpa using he
    rw [← this]; exact hx
theorem cont_any (v : Value) (L : List ByteArray) (n : ByteArray) (w : World) (hL : StrsAt w v L) (hl : L.length ≤ maxLen) :
    Calls Tryd.prog 23 #[v, .string n] w fun r w' => r = .returned (.bool (Cp.hasW L n)) ∧ w = w' := by
  unfold maxLen at hl
  by_cases h0 : L = []
  · subst h0
    obtain ⟨ao, cap, rfl⟩ := hL.form
    exact (Tryd.slices_Contains_string_empty ao cap n w).mono fun r w' ⟨h1, h2⟩ => ⟨h1, h2.symm⟩
  · obtain ⟨b, o, cap, rfl, hcap, hb, hc⟩ := hL.at h0
    refine (Tryd.slices_Contains_string b o L.length cap L n w (Nat.le_refl _) (by omega) (fun j hj => ?_)).mono fun r w' ⟨h1, h2⟩ => ⟨?_, h2.symm⟩
    · rw [List.getD_eq_getElem?_getD, List.getElem?_eq_getElem hj]
      exact hc j _ (List.getElem?_eq_getElem hj)
    · rw [h1, List.take_length, contains_has]
set_option maxRecDepth 100000 in
theorem has_any (v : Value) (L : List ByteArray) (n : ByteArray) (w : World) (hL : StrsAt w v L) (hl : L.length ≤ maxLen) :
    Calls Tryd.prog 14 #[v, .string n] w fun r w' => r = .returned (.bool (Cp.hasW L n)) ∧ w = w' := by
  have HC := Lib.hid (cont_any v L n w hL hl)
  generalize Cp.hasW L n = z at HC
  clear hL
  go_enter Tryd.func14, Tryd.ntmps14
  go_wp2_with fail
  refine HC.out.mono ?_
  rintro r wx ⟨rfl, rfl⟩
  go_wp2_with fail
  go_ret
  exact ⟨rfl, rfl⟩
theorem has_drop {L : List ByteArray} {k : Nat} {e : ByteArray} (he : L[k]? = some e) (n : ByteArray) : Cp.hasW (L.drop k) n = (decide (e = n) || Cp.hasW (L.drop (k + 1)) n) := by
  obtain ⟨hk, rfl⟩ := List.getElem?_eq_some_iff.1 he
  rw [List.drop_eq_getElem_cons hk]; rfl
set_option maxHeartbeats 400000 in
set_option maxRecDepth 100000 in
theorem refhas_any (v : Value) (L : List ByteArray) (n : ByteArray) (w : World) (hL : StrsAt w v L) (hl : L.length ≤ maxLen) :
    Calls Tryd.prog 15 #[v, .string n] w fun r w' => r = .returned (.bool (Cp.hasW L n)) ∧ w = w' := by
  obtain ⟨ao, cap, rfl⟩ := hL.form
  unfold maxLen at hl
  have HL := Lib.hid hL
  clear hL
  generalize hz : Cp.hasW L n = z
  have HZ := Lib.hid hz
  clear hz
  go_enter Tryd.func15, Tryd.ntmps15
  go_wp2_with fail
  go_loop [5] (fun i => ∃ k : Nat, k ≤ L.length ∧ i = .int .i64 k ∧ Hid (Cp.hasW (L.drop k) n = z)) (fun i => L.length - (intOf i).toNat)
  case atStart => exact ⟨0, by omega, rfl, HZ.out⟩
  case round =>
    obtain ⟨k, hk, rfl, HE⟩ := hrel
    by_cases hlt : k < L.length
    · have hlt' : (k : Int) < (L.length : Int) := by omega
      have hk0 : (0 : Int) ≤ (k : Int) := by omega
      obtain ⟨e, he⟩ : ∃ e, L[k]? = some e := ⟨L[k], List.getElem?_eq_getElem hlt⟩
      obtain ⟨a, rfl, c0⟩ := HL.out.elem k e he
      have HS := Lib.hid (HE.out.symm.trans (has_drop he n))
      have HQ := Lib.hid (Cp.beq_iff e n)
      clear he HE
      cases hq : (e.toList == n.toList) with
      | true =>
        have HS2 := Lib.hid (show z = true by rw [HS.out, ← HQ.out, hq]; rfl)
        go_wp2_with fail
        go_ret
        exact ⟨ret_bool HS2.out.symm, rfl⟩
      | false =>
        have HS2 := Lib.hid (show Cp.hasW (L.drop (k + 1)) n = z by rw [HS.out, ← HQ.out, hq]; rfl)
        go_wp2_with fail
        go_round
        case rel => exact ⟨k + 1, by omega, by go_num, HS2⟩
        case measure => simp [intOf]; omega
    · have HS := Lib.hid (show z = false by rw [← HE.out, List.drop_of_length_le (by omega)]; rfl)
      go_wp2_with fail
      go_ret
      exact ⟨ret_bool HS.out.symm, rfl⟩

/-! ### Known, Choose -/
theorem strs_new (w : World) : StrsAt (w.alloc (.cells (Cp.known.map Value.string).toArray 9)) (.slice (some ⟨w.heap.size, 0, none⟩) 5 5) Cp.known := by
  refine ⟨.inr ⟨⟨w.heap.size, 0, none⟩, 5, rfl, by decide, fun i s hi => ?_⟩⟩
  rw [Addr.add_mid, Nat.zero_add, cell_of_row _ _ _ _ _ (0, 0) (heap_alloc_new w _)]
  simp only [List.getElem?_toArray, List.getElem?_map, hi]; rfl
set_option maxRecDepth 100000 in
theorem known_any (w : World) : Calls Tryd.prog 18 #[] w fun r w' => r = .returned (.slice (some ⟨w.heap.size, 0, none⟩) 5 5) ∧ w' = w.alloc (.cells (Cp.known.map Value.string).toArray 9) := by
  go_enter Tryd.func18, Tryd.ntmps18
  go_wp2_with fail
  go_ret
  exact ⟨rfl, rfl⟩
/-- What Choose leaves. -/
def ChP (A B : List ByteArray) (w : World) (r : Ending) (w' : World) : Prop := ∃ v, r = .returned v ∧ StrsAt w' v (Cp.choose A B) ∧ Below w.heap.size w w'
def chK (A B : List ByteArray) (k : Nat) : List ByteArray := (Cp.known.take k).filter (fun x => Cp.hasW A x && Cp.hasW B x)
theorem chK_step {A B : List ByteArray} {k : Nat} {e : ByteArray} (he : Cp.known[k]? = some e) : chK A B (k + 1) = if (Cp.hasW A e && Cp.hasW B e) = true then chK A B k ++ [e] else chK A B k := by
  obtain ⟨hk, rfl⟩ := List.getElem?_eq_some_iff.1 he
  unfold chK
  rw [List.take_succ_eq_append_getElem hk, List.filter_append]
  by_cases h : (Cp.hasW A Cp.known[k] && Cp.hasW B Cp.known[k]) = true
  · rw [if_pos h]; simp [List.filter_cons, h]
  · rw [if_neg h]; simp [List.filter_cons, h]
theorem chK_len (A B : List ByteArray) (k : Nat) : (chK A B k).length ≤ 5 := by
  unfold chK
  have h1 := List.length_filter_le (fun x => Cp.hasW A x && Cp.hasW B x) (Cp.known.take k)
  have h2 : (Cp.known.take k).length ≤ 5 := by rw [List.length_take]; exact Nat.min_le_right _ _
  omega
theorem os_nil (w w1 : World) (h : Below w.heap.size w w1) : Os w w1 (.slice none 0 0) [] := ⟨ownS_nil _ _, h⟩
set_option maxHeartbeats 1000000 in
set_option maxRecDepth 100000 in
theorem choose_any (va vb : Value) (A B : List ByteArray) (w : World) (hA : StrsAt w va A) (hB : StrsAt w vb B) (hla : A.length ≤ maxLen) (hlb : B.length ≤ maxLen) :
    Calls Tryd.prog 16 #[va, vb] w (ChP A B w) := by
  have HA := Lib.hid hA
  have HB := Lib.hid hB
  have HKN := Lib.hid (known_any w)
  have HP := Lib.hid (show ∀ v w', StrsAt w' v (chK A B 5) → Below w.heap.size w w' → ChP A B w (.returned v) w' from fun v w' h1 h2 => ⟨v, rfl, h1, h2⟩)
  clear hA hB
  go_enter Tryd.func16, Tryd.ntmps16
  go_wp2_with fail
  refine HKN.out.mono ?_
  rintro r w1 ⟨rfl, hw1⟩
  have HK1 := Lib.hid (show StrsAt w1 (.slice (some ⟨w.heap.size, 0, none⟩) 5 5) Cp.known by rw [hw1]; exact strs_new w)
  have HB1 := Lib.hid (show Below w.heap.size w w1 by rw [hw1]; exact below_new _ _)
  clear hw1 HKN
  go_wp2_with fail
  go_loopw [5, 10] (fun v i wr => ∃ (k : Nat), k ≤ 5 ∧ i = .int .i64 k ∧ Hid (Os w1 wr v (chK A B k))) (fun _ i _ => 5 - (intOf i).toNat)
  case atStart => exact ⟨0, by omega, rfl, os_nil _ _ (Below.refl _ _)⟩
  case round =>
    obtain ⟨k, hk, rfl, HO⟩ := hrel
    have HBW := Lib.hid (below_step HB1.out HO.out.bel)
    by_cases hlt : k < 5
    · have hlt' : (k : Int) < 5 := by omega
      have hk0 : (0 : Int) ≤ (k : Int) := by omega
      obtain ⟨e, he⟩ : ∃ e, Cp.known[k]? = some e := ⟨Cp.known[k]'(by show k < 5; omega), List.getElem?_eq_getElem _⟩
      obtain ⟨a, ea, c0⟩ := (HK1.out.below HO.out.bel).elem k e he
      cases ea
      have c0' : wr.cell? ⟨w.heap.size, k, none⟩ = some (.string e) := by rw [Addr.add_mid, Nat.zero_add] at c0; exact c0
      have HH1 := Lib.hid (has_any va A e wr (HA.out.below HBW.out) hla)
      have HH2 := Lib.hid (has_any vb B e wr (HB.out.below HBW.out) hlb)
      have HST := Lib.hid (chK_step (A := A) (B := B) he)
      have hcl := chK_len A B k
      clear he c0
      generalize Cp.hasW A e = ha at HH1 HST
      generalize Cp.hasW B e = hb at HH2 HST
      cases ha with
      | false =>
        have HST2 := Lib.hid (show chK A B (k + 1) = chK A B k by rw [HST.out]; rfl)
        go_wp2_with fail
        refine HH1.out.mono ?_
        rintro r wx ⟨rfl, rfl⟩
        go_wp2_with fail
        go_roundw
        case rel => exact ⟨k + 1, by omega, by go_num, by show Os _ _ _ _; rw [HST2.out]; exact HO.out⟩
        case measure => simp [intOf]; omega
      | true =>
        cases hb with
        | false =>
          have HST2 := Lib.hid (show chK A B (k + 1) = chK A B k by rw [HST.out]; rfl)
          go_wp2_with fail
          refine HH1.out.mono ?_
          rintro r wx ⟨rfl, rfl⟩
          go_wp2_with fail
          refine HH2.out.mono ?_
          rintro r wx ⟨rfl, rfl⟩
          go_wp2_with fail
          go_roundw
          case rel => exact ⟨k + 1, by omega, by go_num, by show Os _ _ _ _; rw [HST2.out]; exact HO.out⟩
          case measure => simp [intOf]; omega
        | true =>
          have HST2 := Lib.hid (show chK A B (k + 1) = chK A B k ++ [e] by rw [HST.out]; rfl)
          go_wp2_with fail
          refine HH1.out.mono ?_
          rintro r wx ⟨rfl, rfl⟩
          go_wp2_with fail
          refine HH2.out.mono ?_
          rintro r wx ⟨rfl, rfl⟩
          go_wp2_with (at_builtin; refine ap_os (r := e) (.tmp 22) (.tmp 24) rfl rfl rfl rfl HO.out (by omega) ?_; intro v2 w2 HO2)
          go_roundw
          case rel => exact ⟨k + 1, by omega, by go_num, by show Os _ _ _ _; rw [HST2.out]; exact HO2.out⟩
          case measure => simp [intOf]; omega
    · have hlt' : ¬ (k : Int) < 5 := by omega
      obtain rfl : k = 5 := by omega
      have HQ := Lib.hid (HP.out _ wr HO.out.own.rows HBW.out)
      go_wp2_with fail
      go_ret
      exact HQ.out

set_option maxHeartbeats 1000000 in
set_option maxRecDepth 100000 in
theorem refchoose_any (va vb : Value) (A B : List ByteArray) (w : World) (hA : StrsAt w va A) (hB : StrsAt w vb B) (hla : A.length ≤ maxLen) (hlb : B.length ≤ maxLen) :
    Calls Tryd.prog 17 #[va, vb] w (ChP A B w) := by
  have HA := Lib.hid hA
  have HB := Lib.hid hB
  have HP := Lib.hid (show ∀ v w', StrsAt w' v (chK A B 5) → Below w.heap.size w w' → ChP A B w (.returned v) w' from fun v w' h1 h2 => ⟨v, rfl, h1, h2⟩)
  clear hA hB
  go_enter Tryd.func17, Tryd.ntmps17
  go_wp2_with fail
  generalize hw1 : w.alloc _ = w1
  have HK1 := Lib.hid (show StrsAt w1 (.slice (some ⟨w.heap.size, 0, none⟩) 5 5) Cp.known by rw [← hw1]; exact strs_new w)
  have HB1 := Lib.hid (show Below w.heap.size w w1 by rw [← hw1]; exact below_new _ _)
  clear hw1
  go_loopw [6, 7] (fun v i wr => ∃ (k : Nat), k ≤ 5 ∧ i = .int .i64 k ∧ Hid (Os w1 wr v (chK A B k))) (fun _ i _ => 5 - (intOf i).toNat)
  case atStart => exact ⟨0, by omega, rfl, os_nil _ _ (Below.refl _ _)⟩
  case round =>
    obtain ⟨k, hk, rfl, HO⟩ := hrel
    have HBW := Lib.hid (below_step HB1.out HO.out.bel)
    by_cases hlt : k < 5
    · have hlt' : (k : Int) < 5 := by omega
      have hk0 : (0 : Int) ≤ (k : Int) := by omega
      obtain ⟨e, he⟩ : ∃ e, Cp.known[k]? = some e := ⟨Cp.known[k]'(by show k < 5; omega), List.getElem?_eq_getElem _⟩
      obtain ⟨a, ea, c0⟩ := (HK1.out.below HO.out.bel).elem k e he
      cases ea
      have c0' : wr.cell? ⟨w.heap.size, k, none⟩ = some (.string e) := by rw [Addr.add_mid, Nat.zero_add] at c0; exact c0
      have HH1 := Lib.hid (refhas_any va A e wr (HA.out.below HBW.out) hla)
      have HH2 := Lib.hid (refhas_any vb B e wr (HB.out.below HBW.out) hlb)
      have HST := Lib.hid (chK_step (A := A) (B := B) he)
      have hcl := chK_len A B k
      clear he c0
      generalize Cp.hasW A e = ha at HH1 HST
      generalize Cp.hasW B e = hb at HH2 HST
      cases ha with
      | false =>
        have HST2 := Lib.hid (show chK A B (k + 1) = chK A B k by rw [HST.out]; rfl)
        go_wp2_with fail
        refine HH1.out.mono ?_
        rintro r wx ⟨rfl, rfl⟩
        go_wp2_with fail
        refine HH2.out.mono ?_
        rintro r wx ⟨rfl, rfl⟩
        go_wp2_with fail
        go_roundw
        case rel => exact ⟨k + 1, by omega, by go_num, by show Os _ _ _ _; rw [HST2.out]; exact HO.out⟩
        case measure => simp [intOf]; omega
      | true =>
        cases hb with
        | false =>
          have HST2 := Lib.hid (show chK A B (k + 1) = chK A B k by rw [HST.out]; rfl)
          go_wp2_with fail
          refine HH1.out.mono ?_
          rintro r wx ⟨rfl, rfl⟩
          go_wp2_with fail
          refine HH2.out.mono ?_
          rintro r wx ⟨rfl, rfl⟩
          go_wp2_with fail
          go_roundw
          case rel => exact ⟨k + 1, by omega, by go_num, by show Os _ _ _ _; rw [HST2.out]; exact HO.out⟩
          case measure => simp [intOf]; omega
        | true =>
          have HST2 := Lib.hid (show chK A B (k + 1) = chK A B k ++ [e] by rw [HST.out]; rfl)
          go_wp2_with fail
          refine HH1.out.mono ?_
          rintro r wx ⟨rfl, rfl⟩
          go_wp2_with fail
          refine HH2.out.mono ?_
          rintro r wx ⟨rfl, rfl⟩
          go_wp2_with (at_builtin; refine ap_os (r := e) (.tmp 33) (.tmp 38) rfl rfl rfl rfl HO.out (by omega) ?_; intro v2 w2 HO2)
          go_roundw
          case rel => exact ⟨k + 1, by omega, by go_num, by show Os _ _ _ _; rw [HST2.out]; exact HO2.out⟩
          case measure => simp [intOf]; omega
    · have hlt' : ¬ (k : Int) < 5 := by omega
      obtain rfl : k = 5 := by omega
      have HQ := Lib.hid (HP.out _ wr HO.out.own.rows HBW.out)
      go_wp2_with fail
      go_ret
      exact HQ.out

end Go.Proofs.YtkdljagcdaphdabDoor
