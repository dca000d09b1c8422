/-
  WALKS OF LAYER 4: the document's guess (knapsackref04.guess): no text; a blob; no kind.
-/
import Derived.Test.YtcicfjfbnbkkcaaDoorGuBox
namespace Go.Proofs.YtcicfjfbnbkkcaaDoor
open Go.RowKit
set_option linter.unusedVariables false
set_option linter.unusedSimpArgs false

set_option maxHeartbeats 2000000 in
set_option maxRecDepth 100000 in
theorem guess_none (s : ByteArray) (w : World) (h0 : 0 < s.size) (hs : s.size ≤ 5000) (hm2 : (Rm.takeG (s.data.toList.drop 1)).2 = 0) :
    Calls Tryd.prog 17 #[.string s] w (Gsd s.data.toList w) := by
  have hz28 := (zero_of_info zero28).1
  have HS0 := Lib.hid noF.size
  have HO0 := Lib.hid noF.one
  have HBN := Lib.hid built_none
  have HNF := Lib.hid noF
  generalize (obC noOb nilV nilV).toArray = z at hz28 HS0 HO0 HBN HNF
  have h0' : (0 : Int) < (s.size : Int) := by omega
  have h1' : (1 : Int) ≤ (s.size : Int) := by omega
  have HX1 := Lib.hid (show s.extract 1 s.size = ⟨(s.data.toList.drop 1).toArray⟩ from bytes_ext (by rw [extract_r]))
  have hl1 : (s.data.toList.drop 1).length ≤ 5000 := by rw [List.length_drop, size_list]; omega
  have hkv := kindV_at s h0
  have hb0 := s[0].toNat_lt
  have hwk : wrap64 (s[0].toNat : Int) = (s[0].toNat : Int) := by unfold wrap64; omega
  have hgf : Rm.guessF s.data.toList = (if (Rm.takeG (s.data.toList.drop 1)).2 = 0 then noOb else Rm.bodyG (Rm.kindV s.data.toList) (Rm.takeG (s.data.toList.drop 1)).1) := rfl
  have htl := Rm.takeG_len (s.data.toList.drop 1)
  have htk := fun W => retake_l (s.data.toList.drop 1) W (by omega)
  have ht5 : (Rm.takeG (s.data.toList.drop 1)).1.length ≤ 5000 := by omega
  generalize (⟨(s.data.toList.drop 1).toArray⟩ : ByteArray) = d1 at HX1 htk
  generalize Rm.takeG (s.data.toList.drop 1) = tm at *
  obtain ⟨t, m⟩ := tm
  have hm3 : m = 0 := hm2
  have ht6 : t.length ≤ 5000 := ht5
  obtain ⟨tb, rfl⟩ : ∃ tb : ByteArray, t = tb.data.toList := ⟨ByteArray.mk t.toArray, by simp⟩
  rw [size_list] at ht6
  have htk : ∀ W, Calls Tryd.prog 35 #[.string d1] W fun r w' => r = .returned (.tuple #[.string tb, .int .i64 m]) ∧ W = w' := htk
  have HTK := Lib.hid htk
  have HGF := Lib.hid hgf
  clear htk htl hl1 hgf hm2 ht5
  have HKF := Lib.hid (obC_F { noOb with kind := (s[0].toNat : Int) } nilV nilV rfl rfl rfl rfl)
  have HKB := Lib.hid (built_kd (s[0].toNat : Int))
  have HKS := Lib.hid HKF.out.size
  have HKO := Lib.hid HKF.out.one
  have B0 : Bx ((w.alloc (.cells z 29)).alloc (.cells (obC { noOb with kind := (s[0].toNat : Int) } nilV nilV).toArray 29)) (w.heap.size + 1) { noOb with kind := (s[0].toNat : Int) } nilV nilV := heap_alloc2_new _ _ _
  have E0 := Lib.hid (heap_alloc2_old w (.cells z 29) (.cells (obC { noOb with kind := (s[0].toNat : Int) } nilV nilV).toArray 29))
  have hB0 := ((Below.refl w.heap.size w).alloc (Nat.le_refl _) (.cells z 29)).alloc (by simp) (.cells (obC { noOb with kind := (s[0].toNat : Int) } nilV nilV).toArray 29)
  have c0 := B0.cell 0 _ HKF.out.c0
  have HGF2 := Lib.hid (show Rm.guessF s.data.toList = noOb by rw [HGF.out, if_pos (show ((tb.data.toList, m) : List UInt8 × Nat).2 = 0 from hm3)])
  have hmz : ((m : Int) == 0) = true := by rw [beq_iff_eq]; omega
  clear hm3
  go_enter Tryd.func17, Tryd.ntmps17
  go_wp2_with (first
    | (go_at_call 35; fail)
    | ((with_reducible refine bd_kd (x := .tmp 17) ?_ ?_ ?_ HKB.out ?_); rfl; rfl; rfl)
    | ((with_reducible refine st_ob2 (x := .tmp 3) (y := .tmp 18) (g := w.heap.size + 1) ?_ ?_ ?_ ?_ ?_ ?_ HKS.out HKO.out ?_); rfl; rfl; rfl; rfl; exact HS0.out; simp))
  rw [HX1.out]
  refine (HTK.out _).mono ?_
  rintro r w1 ⟨rfl, rfl⟩
  generalize ((w.alloc (.cells z 29)).alloc (.cells (obC { noOb with kind := (s[0].toNat : Int) } nilV nilV).toArray 29)) = W1 at B0 E0 hB0 c0 ⊢
  go_wp2_with (first
    | ((with_reducible refine bd_obz ?_ ?_ HBN.out ?_); rfl; rfl)
    | ((with_reducible refine st_obr (x := .tmp 2) (y := .tmp 27) ?_ ?_ ?_ ?_ E0.out HS0.out HS0.out HO0.out ?_); rfl; rfl; rfl; rfl))
  refine bodyPost_ret (results_cell_row (fn := Tryd.f17) (p := 2) (by rfl) _ _ w.heap.size _ _ _ _ (by rfl) (setRow_heap _ _ _ _ _ _ E0.out) Tryd.underlying29 rfl (obsize HS0.out)) rfl ⟨_, none, none, 0, 0, rfl, ?_, below_setRow hB0 (Nat.le_refl _) _, fun a ha => by rcases ha with ha | ha <;> cases ha⟩
  rw [HGF2.out]
  exact ⟨HNF.out, RowsAt.nil _ _, RowsAt.nil _ _, (fun e he => by cases he), (fun e he => by cases he), (fun e he => by cases he), Nat.zero_le _, Nat.zero_le _, (show (0 : Nat) ≤ maxLen from Nat.zero_le _), (show (0 : Nat) < 4294967296 by decide)⟩

set_option maxHeartbeats 2000000 in
set_option maxRecDepth 100000 in
theorem guess_blob (s : ByteArray) (w : World) (h0 : 0 < s.size) (hs : s.size ≤ 5000) (hm2 : (Rm.takeG (s.data.toList.drop 1)).2 ≠ 0) (hk : (s[0].toNat : Int) = 1) :
    Calls Tryd.prog 17 #[.string s] w (Gsd s.data.toList w) := by
  have hz28 := (zero_of_info zero28).1
  have HS0 := Lib.hid noF.size
  have HO0 := Lib.hid noF.one
  have HBN := Lib.hid built_none
  have HNF := Lib.hid noF
  generalize (obC noOb nilV nilV).toArray = z at hz28 HS0 HO0 HBN HNF
  have h0' : (0 : Int) < (s.size : Int) := by omega
  have h1' : (1 : Int) ≤ (s.size : Int) := by omega
  have HX1 := Lib.hid (show s.extract 1 s.size = ⟨(s.data.toList.drop 1).toArray⟩ from bytes_ext (by rw [extract_r]))
  have hl1 : (s.data.toList.drop 1).length ≤ 5000 := by rw [List.length_drop, size_list]; omega
  have hkv := kindV_at s h0
  have hb0 := s[0].toNat_lt
  have hwk : wrap64 (s[0].toNat : Int) = (s[0].toNat : Int) := by unfold wrap64; omega
  have hgf : Rm.guessF s.data.toList = (if (Rm.takeG (s.data.toList.drop 1)).2 = 0 then noOb else Rm.bodyG (Rm.kindV s.data.toList) (Rm.takeG (s.data.toList.drop 1)).1) := rfl
  have htl := Rm.takeG_len (s.data.toList.drop 1)
  have htk := fun W => retake_l (s.data.toList.drop 1) W (by omega)
  have ht5 : (Rm.takeG (s.data.toList.drop 1)).1.length ≤ 5000 := by omega
  generalize (⟨(s.data.toList.drop 1).toArray⟩ : ByteArray) = d1 at HX1 htk
  generalize Rm.takeG (s.data.toList.drop 1) = tm at *
  obtain ⟨t, m⟩ := tm
  have hm3 : ¬ m = 0 := hm2
  have ht6 : t.length ≤ 5000 := ht5
  obtain ⟨tb, rfl⟩ : ∃ tb : ByteArray, t = tb.data.toList := ⟨ByteArray.mk t.toArray, by simp⟩
  rw [size_list] at ht6
  have htk : ∀ W, Calls Tryd.prog 35 #[.string d1] W fun r w' => r = .returned (.tuple #[.string tb, .int .i64 m]) ∧ W = w' := htk
  have HTK := Lib.hid htk
  have HGF := Lib.hid hgf
  clear htk htl hl1 hgf hm2 ht5
  have HKF := Lib.hid (obC_F { noOb with kind := (s[0].toNat : Int) } nilV nilV rfl rfl rfl rfl)
  have HKB := Lib.hid (built_kd (s[0].toNat : Int))
  have HKS := Lib.hid HKF.out.size
  have HKO := Lib.hid HKF.out.one
  have B0 : Bx ((w.alloc (.cells z 29)).alloc (.cells (obC { noOb with kind := (s[0].toNat : Int) } nilV nilV).toArray 29)) (w.heap.size + 1) { noOb with kind := (s[0].toNat : Int) } nilV nilV := heap_alloc2_new _ _ _
  have E0 := Lib.hid (heap_alloc2_old w (.cells z 29) (.cells (obC { noOb with kind := (s[0].toNat : Int) } nilV nilV).toArray 29))
  have hB0 := ((Below.refl w.heap.size w).alloc (Nat.le_refl _) (.cells z 29)).alloc (by simp) (.cells (obC { noOb with kind := (s[0].toNat : Int) } nilV nilV).toArray 29)
  have c0 := B0.cell 0 _ HKF.out.c0
  have hmz : ((m : Int) == 0) = false := by rw [beq_eq_false_iff_ne]; omega
  have HGF2 := Lib.hid (show Rm.guessF s.data.toList = { noOb with kind := (s[0].toNat : Int), data := tb } by rw [HGF.out, if_neg (show ¬ ((tb.data.toList, m) : List UInt8 × Nat).2 = 0 from hm3), hkv, hk]; rfl)
  have hk1 : ((s[0].toNat : Int) == 1) = true := by rw [beq_iff_eq]; exact hk
  clear hm3 hk hkv
  go_enter Tryd.func17, Tryd.ntmps17
  go_wp2_with (first
    | (go_at_call 35; fail)
    | ((with_reducible refine bd_kd (x := .tmp 17) ?_ ?_ ?_ HKB.out ?_); rfl; rfl; rfl)
    | ((with_reducible refine st_ob2 (x := .tmp 3) (y := .tmp 18) (g := w.heap.size + 1) ?_ ?_ ?_ ?_ ?_ ?_ HKS.out HKO.out ?_); rfl; rfl; rfl; rfl; exact HS0.out; simp))
  rw [HX1.out]
  refine (HTK.out _).mono ?_
  rintro r w1 ⟨rfl, rfl⟩
  generalize ((w.alloc (.cells z 29)).alloc (.cells (obC { noOb with kind := (s[0].toNat : Int) } nilV nilV).toArray 29)) = W1 at B0 E0 hB0 c0 ⊢
  have c1 := B0.cell 1 _ HKF.out.c1
  have f1 := B0.fr 1
  have B1 := Lib.hid (B0.data tb)
  have E1 := Lib.hid ((heap_setCell_other _ ⟨w.heap.size + 1, 1, none⟩ w.heap.size (.string tb) (by simp)).trans E0.out)
  have hB1 := hB0.setCell (p := ⟨w.heap.size + 1, 1, none⟩) (by simp) (.string tb)
  have HF1 := Lib.hid (obC_F { noOb with kind := (s[0].toNat : Int), data := tb } nilV nilV rfl rfl rfl rfl)
  go_wp2_with (first
    | ((with_reducible refine ld_obr (x := .tmp 3) ?_ ?_ ?_ B1.out.held HF1.out.size ?_); rfl; rfl; rfl)
    | ((with_reducible refine st_obr (x := .tmp 2) (y := .tmp 138) ?_ ?_ ?_ ?_ E1.out HS0.out HF1.out.size HF1.out.one ?_); rfl; rfl; rfl; rfl))
  refine bodyPost_ret (results_cell_row (fn := Tryd.f17) (p := 2) (by rfl) _ _ w.heap.size _ _ _ _ (by rfl) (setRow_heap _ _ _ _ _ _ E1.out) Tryd.underlying29 rfl (obsize (Lib.hid HF1.out.size).out)) rfl ⟨_, none, none, 0, 0, rfl, ?_, below_setRow hB1 (Nat.le_refl _) _, fun a ha => by rcases ha with ha | ha <;> cases ha⟩
  rw [HGF2.out]
  exact ⟨HF1.out, RowsAt.nil _ _, RowsAt.nil _ _, (fun e he => by cases he), (fun e he => by cases he), (fun e he => by cases he), Nat.zero_le _, Nat.zero_le _, (show (0 : Nat) ≤ maxLen from Nat.zero_le _), (show (0 : Nat) < 4294967296 by decide)⟩

set_option maxHeartbeats 2000000 in
set_option maxRecDepth 100000 in
theorem guess_other (s : ByteArray) (w : World) (h0 : 0 < s.size) (hs : s.size ≤ 5000) (hm2 : (Rm.takeG (s.data.toList.drop 1)).2 ≠ 0) (hk : ¬ (1 ≤ (s[0].toNat : Int) ∧ (s[0].toNat : Int) ≤ 4)) :
    Calls Tryd.prog 17 #[.string s] w (Gsd s.data.toList w) := by
  have hz28 := (zero_of_info zero28).1
  have HS0 := Lib.hid noF.size
  have HO0 := Lib.hid noF.one
  have HBN := Lib.hid built_none
  have HNF := Lib.hid noF
  generalize (obC noOb nilV nilV).toArray = z at hz28 HS0 HO0 HBN HNF
  have h0' : (0 : Int) < (s.size : Int) := by omega
  have h1' : (1 : Int) ≤ (s.size : Int) := by omega
  have HX1 := Lib.hid (show s.extract 1 s.size = ⟨(s.data.toList.drop 1).toArray⟩ from bytes_ext (by rw [extract_r]))
  have hl1 : (s.data.toList.drop 1).length ≤ 5000 := by rw [List.length_drop, size_list]; omega
  have hkv := kindV_at s h0
  have hb0 := s[0].toNat_lt
  have hwk : wrap64 (s[0].toNat : Int) = (s[0].toNat : Int) := by unfold wrap64; omega
  have hgf : Rm.guessF s.data.toList = (if (Rm.takeG (s.data.toList.drop 1)).2 = 0 then noOb else Rm.bodyG (Rm.kindV s.data.toList) (Rm.takeG (s.data.toList.drop 1)).1) := rfl
  have htl := Rm.takeG_len (s.data.toList.drop 1)
  have htk := fun W => retake_l (s.data.toList.drop 1) W (by omega)
  have ht5 : (Rm.takeG (s.data.toList.drop 1)).1.length ≤ 5000 := by omega
  generalize (⟨(s.data.toList.drop 1).toArray⟩ : ByteArray) = d1 at HX1 htk
  generalize Rm.takeG (s.data.toList.drop 1) = tm at *
  obtain ⟨t, m⟩ := tm
  have hm3 : ¬ m = 0 := hm2
  have ht6 : t.length ≤ 5000 := ht5
  obtain ⟨tb, rfl⟩ : ∃ tb : ByteArray, t = tb.data.toList := ⟨ByteArray.mk t.toArray, by simp⟩
  rw [size_list] at ht6
  have htk : ∀ W, Calls Tryd.prog 35 #[.string d1] W fun r w' => r = .returned (.tuple #[.string tb, .int .i64 m]) ∧ W = w' := htk
  have HTK := Lib.hid htk
  have HGF := Lib.hid hgf
  clear htk htl hl1 hgf hm2 ht5
  have HKF := Lib.hid (obC_F { noOb with kind := (s[0].toNat : Int) } nilV nilV rfl rfl rfl rfl)
  have HKB := Lib.hid (built_kd (s[0].toNat : Int))
  have HKS := Lib.hid HKF.out.size
  have HKO := Lib.hid HKF.out.one
  have B0 : Bx ((w.alloc (.cells z 29)).alloc (.cells (obC { noOb with kind := (s[0].toNat : Int) } nilV nilV).toArray 29)) (w.heap.size + 1) { noOb with kind := (s[0].toNat : Int) } nilV nilV := heap_alloc2_new _ _ _
  have E0 := Lib.hid (heap_alloc2_old w (.cells z 29) (.cells (obC { noOb with kind := (s[0].toNat : Int) } nilV nilV).toArray 29))
  have hB0 := ((Below.refl w.heap.size w).alloc (Nat.le_refl _) (.cells z 29)).alloc (by simp) (.cells (obC { noOb with kind := (s[0].toNat : Int) } nilV nilV).toArray 29)
  have c0 := B0.cell 0 _ HKF.out.c0
  have hmz : ((m : Int) == 0) = false := by rw [beq_eq_false_iff_ne]; omega
  have HGF2 := Lib.hid (show Rm.guessF s.data.toList = { noOb with kind := (s[0].toNat : Int) } by rw [HGF.out, if_neg (show ¬ ((tb.data.toList, m) : List UInt8 × Nat).2 = 0 from hm3), hkv]; unfold Rm.bodyG; rw [if_neg (by omega), if_neg (by omega), if_neg (by omega), if_neg (by omega)])
  have hk1 : ((s[0].toNat : Int) == 1) = false := by rw [beq_eq_false_iff_ne]; omega
  have hk2 : ((s[0].toNat : Int) == 2) = false := by rw [beq_eq_false_iff_ne]; omega
  have hk3 : ((s[0].toNat : Int) == 3) = false := by rw [beq_eq_false_iff_ne]; omega
  have hk4 : ((s[0].toNat : Int) == 4) = false := by rw [beq_eq_false_iff_ne]; omega
  clear hm3 hk hkv
  go_enter Tryd.func17, Tryd.ntmps17
  go_wp2_with (first
    | (go_at_call 35; fail)
    | ((with_reducible refine bd_kd (x := .tmp 17) ?_ ?_ ?_ HKB.out ?_); rfl; rfl; rfl)
    | ((with_reducible refine st_ob2 (x := .tmp 3) (y := .tmp 18) (g := w.heap.size + 1) ?_ ?_ ?_ ?_ ?_ ?_ HKS.out HKO.out ?_); rfl; rfl; rfl; rfl; exact HS0.out; simp))
  rw [HX1.out]
  refine (HTK.out _).mono ?_
  rintro r w1 ⟨rfl, rfl⟩
  generalize ((w.alloc (.cells z 29)).alloc (.cells (obC { noOb with kind := (s[0].toNat : Int) } nilV nilV).toArray 29)) = W1 at B0 E0 hB0 c0 ⊢
  have B1 := Lib.hid B0
  go_wp2_with (first
    | ((with_reducible refine ld_obr (x := .tmp 3) ?_ ?_ ?_ B1.out.held HKF.out.size ?_); rfl; rfl; rfl)
    | ((with_reducible refine st_obr (x := .tmp 2) (y := .tmp 138) ?_ ?_ ?_ ?_ E0.out HS0.out HKF.out.size HKF.out.one ?_); rfl; rfl; rfl; rfl))
  refine bodyPost_ret (results_cell_row (fn := Tryd.f17) (p := 2) (by rfl) _ _ w.heap.size _ _ _ _ (by rfl) (setRow_heap _ _ _ _ _ _ E0.out) Tryd.underlying29 rfl (obsize HKS.out)) rfl ⟨_, none, none, 0, 0, rfl, ?_, below_setRow hB0 (Nat.le_refl _) _, fun a ha => by rcases ha with ha | ha <;> cases ha⟩
  rw [HGF2.out]
  exact ⟨HKF.out, RowsAt.nil _ _, RowsAt.nil _ _, (fun e he => by cases he), (fun e he => by cases he), (fun e he => by cases he), Nat.zero_le _, Nat.zero_le _, (show (0 : Nat) ≤ maxLen from Nat.zero_le _), (show (0 : Nat) < 4294967296 by decide)⟩

end Go.Proofs.YtcicfjfbnbkkcaaDoor
