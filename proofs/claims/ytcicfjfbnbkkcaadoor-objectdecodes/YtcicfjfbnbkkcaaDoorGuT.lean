/-
  WALKS OF LAYER 4: the document's guess (knapsackref04.guess): a tag.
-/
import Derived.Test.YtcicfjfbnbkkcaaDoorGuA
namespace Go.Proofs.YtcicfjfbnbkkcaaDoor
open Go.RowKit
set_option linter.unusedVariables false
set_option linter.unusedSimpArgs false

theorem behind_1 (t : ByteArray) (w : World) (hl : t.size ≤ 1000000) :
    Calls Tryd.prog 36 #[.string t, .int .i64 1] w fun r w' => r = .returned (.string ⟨(t.data.toList.drop 1).toArray⟩) ∧ w = w' := by
  have := behind_l t.data.toList 1 w (by rw [size_list]; exact hl) (by decide)
  rw [Rm.mk_list] at this
  exact this
theorem behind_32 (l : List UInt8) (w : World) (hl : l.length ≤ 1000000) :
    Calls Tryd.prog 36 #[.string ⟨l.toArray⟩, .int .i64 32] w fun r w' => r = .returned (.string ⟨(l.drop 32).toArray⟩) ∧ w = w' := behind_l l 32 w hl (by decide)

set_option maxHeartbeats 2000000 in
set_option maxRecDepth 100000 in
theorem guess_tag1 (s : ByteArray) (w : World) (h0 : 0 < s.size) (hs : s.size ≤ 5000) (hm2 : (Rm.takeG (s.data.toList.drop 1)).2 ≠ 0) (hk : (s[0].toNat : Int) = 4) (hte : (Rm.takeG (s.data.toList.drop 1)).1 = []) :
    Calls Tryd.prog 17 #[.string s] w (Gsd s.data.toList w) := by
  have hz28 := (zero_of_info zero28).1
  have HS0 := Lib.hid noF.size
  have HO0 := Lib.hid noF.one
  have HBN := Lib.hid built_none
  have HNF := Lib.hid noF
  generalize (obC noOb nilV nilV).toArray = z at hz28 HS0 HO0 HBN HNF
  have h0' : (0 : Int) < (s.size : Int) := by omega
  have h1' : (1 : Int) ≤ (s.size : Int) := by omega
  have HX1 := Lib.hid (show s.extract 1 s.size = ⟨(s.data.toList.drop 1).toArray⟩ from bytes_ext (by rw [extract_r]))
  have hl1 : (s.data.toList.drop 1).length ≤ 5000 := by rw [List.length_drop, size_list]; omega
  have hkv := kindV_at s h0
  have hb0 := s[0].toNat_lt
  have hwk : wrap64 (s[0].toNat : Int) = (s[0].toNat : Int) := by unfold wrap64; omega
  have hgf : Rm.guessF s.data.toList = (if (Rm.takeG (s.data.toList.drop 1)).2 = 0 then noOb else Rm.bodyG (Rm.kindV s.data.toList) (Rm.takeG (s.data.toList.drop 1)).1) := rfl
  have htl := Rm.takeG_len (s.data.toList.drop 1)
  have htk := fun W => retake_l (s.data.toList.drop 1) W (by omega)
  have ht5 : (Rm.takeG (s.data.toList.drop 1)).1.length ≤ 5000 := by omega
  generalize (⟨(s.data.toList.drop 1).toArray⟩ : ByteArray) = d1 at HX1 htk
  generalize Rm.takeG (s.data.toList.drop 1) = tm at *
  obtain ⟨t, m⟩ := tm
  have hm3 : ¬ m = 0 := hm2
  have ht6 : t.length ≤ 5000 := ht5
  obtain ⟨tb, rfl⟩ : ∃ tb : ByteArray, t = tb.data.toList := ⟨ByteArray.mk t.toArray, by simp⟩
  rw [size_list] at ht6
  have htk : ∀ W, Calls Tryd.prog 35 #[.string d1] W fun r w' => r = .returned (.tuple #[.string tb, .int .i64 m]) ∧ W = w' := htk
  have HTK := Lib.hid htk
  have HGF := Lib.hid hgf
  clear htk htl hl1 hgf hm2 ht5
  have HKF := Lib.hid (obC_F { noOb with kind := (s[0].toNat : Int) } nilV nilV rfl rfl rfl rfl)
  have HKB := Lib.hid (built_kd (s[0].toNat : Int))
  have HKS := Lib.hid HKF.out.size
  have HKO := Lib.hid HKF.out.one
  have B0 : Bx ((w.alloc (.cells z 29)).alloc (.cells (obC { noOb with kind := (s[0].toNat : Int) } nilV nilV).toArray 29)) (w.heap.size + 1) { noOb with kind := (s[0].toNat : Int) } nilV nilV := heap_alloc2_new _ _ _
  have E0 := Lib.hid (heap_alloc2_old w (.cells z 29) (.cells (obC { noOb with kind := (s[0].toNat : Int) } nilV nilV).toArray 29))
  have hB0 := ((Below.refl w.heap.size w).alloc (Nat.le_refl _) (.cells z 29)).alloc (by simp) (.cells (obC { noOb with kind := (s[0].toNat : Int) } nilV nilV).toArray 29)
  have c0 := B0.cell 0 _ HKF.out.c0
  have hmz : ((m : Int) == 0) = false := by rw [beq_eq_false_iff_ne]; omega
  have htx : tb = ByteArray.empty := bytes_ext (by rw [show tb.data.toList = [] from hte]; rfl)
  have hgf2 : Rm.guessF s.data.toList = { noOb with kind := (s[0].toNat : Int), target := Rm.idG (tb.data.toList.drop 1), of := Rm.kindV tb.data.toList, name := ⟨(Rm.takeG ((tb.data.toList.drop 1).drop 32)).1.toArray⟩ } := by rw [HGF.out, if_neg (show ¬ ((tb.data.toList, m) : List UInt8 × Nat).2 = 0 from hm3), hkv, hk]; rfl
  have hk1 : ((s[0].toNat : Int) == 1) = false := by rw [beq_eq_false_iff_ne]; omega
  have hk2 : ((s[0].toNat : Int) == 2) = false := by rw [beq_eq_false_iff_ne]; omega
  have hk3 : ((s[0].toNat : Int) == 3) = false := by rw [beq_eq_false_iff_ne]; omega
  have hk4 : ((s[0].toNat : Int) == 4) = true := by rw [beq_iff_eq]; exact hk
  have hl0 : tb.data.toList.length ≤ 5000 := by rw [size_list]; exact ht6
  have hl1 : (tb.data.toList.drop 1).length ≤ 5000 := by rw [List.length_drop]; omega
  have hl2 : ((tb.data.toList.drop 1).drop 32).length ≤ 5000 := by rw [List.length_drop]; omega
  have HB1 := Lib.hid (fun W => behind_1 tb W (by omega))
  have hid := fun W => refid_l (tb.data.toList.drop 1) W (by omega)
  have hb2 := fun W => behind_32 (tb.data.toList.drop 1) W (by omega)
  have ht2 := fun W => retake_l ((tb.data.toList.drop 1).drop 32) W (by omega)
  have hil := Rm.idG_len (tb.data.toList.drop 1)
  have htl2 := (Rm.takeG_len ((tb.data.toList.drop 1).drop 32)).1
  have hnl : (Rm.takeG ((tb.data.toList.drop 1).drop 32)).1.length ≤ 5000 := by omega
  have hkz : Rm.kindV tb.data.toList = 0 := by rw [htx]; rfl
  rw [hkz] at hgf2
  clear hkz
  clear htl2 hl0 hl1 hl2
  generalize (⟨(tb.data.toList.drop 1).toArray⟩ : ByteArray) = t1 at HB1 hid hb2
  generalize (⟨((tb.data.toList.drop 1).drop 32).toArray⟩ : ByteArray) = t2 at hb2 ht2
  generalize Rm.idG (tb.data.toList.drop 1) = idl at hgf2 hid hil
  generalize Rm.takeG ((tb.data.toList.drop 1).drop 32) = tm2 at hgf2 ht2 hnl
  obtain ⟨nm, m2⟩ := tm2
  obtain ⟨nb, rfl⟩ : ∃ nb : ByteArray, nm = nb.data.toList := ⟨⟨nm.toArray⟩, by simp⟩
  have hnl2 : nb.size ≤ maxLen := by rw [← size_list]; unfold maxLen; have : nb.data.toList.length ≤ 5000 := hnl; omega
  have HGF3 := Lib.hid (show Rm.guessF s.data.toList = { noOb with kind := (s[0].toNat : Int), target := idl, of := 0, name := nb } from hgf2)
  have HT3 := Lib.hid (fun W => show Calls Tryd.prog 35 #[.string t2] W fun r w' => r = .returned (.tuple #[.string nb, .int .i64 m2]) ∧ W = w' from ht2 W)
  have HID := Lib.hid hid
  have HB2 := Lib.hid hb2
  have HIL := Lib.hid hil
  subst htx
  clear hm3 hk hkv hte ht2 hgf2 hnl HGF hid hb2 hil
  go_enter Tryd.func17, Tryd.ntmps17
  go_wp2_with (first
    | (go_at_call 35; fail)
    | ((with_reducible refine bd_kd (x := .tmp 17) ?_ ?_ ?_ HKB.out ?_); rfl; rfl; rfl)
    | ((with_reducible refine st_ob2 (x := .tmp 3) (y := .tmp 18) (g := w.heap.size + 1) ?_ ?_ ?_ ?_ ?_ ?_ HKS.out HKO.out ?_); rfl; rfl; rfl; rfl; exact HS0.out; simp))
  rw [HX1.out]
  refine (HTK.out _).mono ?_
  rintro r w1 ⟨rfl, rfl⟩
  generalize ((w.alloc (.cells z 29)).alloc (.cells (obC { noOb with kind := (s[0].toNat : Int) } nilV nilV).toArray 29)) = W1 at B0 E0 hB0 c0 ⊢
  have BB := Lib.hid B0
  have EE := E0
  have hBB := hB0
  have hZZ : w.heap.size + 2 ≤ W1.heap.size := by
    have := (Array.getElem?_eq_some_iff.1 BB.out).1; omega
  go_wp2_with (first
    | (go_at_call 36; fail))
  refine (HB1.out _).mono ?_
  rintro r w2 ⟨rfl, rfl⟩
  go_wp2_with (first
    | (go_at_call 37; fail))
  refine (HID.out _).mono ?_
  rintro r w3 ⟨rfl, hx3⟩
  have B3 := BB.out.below hx3
  have E3 := Lib.hid ((hx3.block w.heap.size (by omega)).trans EE.out)
  have hB3 := hBB.trans (hx3.mono hBB.size)
  have hZ3 := Nat.le_trans hZZ hx3.size
  clear BB EE hBB hZZ hx3
  have HF3 := Lib.hid (obC_F { noOb with kind := (s[0].toNat : Int), of := noOb.of } nilV nilV rfl rfl rfl rfl)
  have HTH := Lib.hid (B3.there HF3.out.size 38 32 (by decide))
  have B4 := B3.target idl HIL.out rfl rfl
  have E4 := Lib.hid (held_setCells (g := w.heap.size + 1) (o := 38) (vs := idC idl) E3.out (by omega))
  have hB4 := below_setCells (g := w.heap.size + 1) (by omega) (idC idl) 38 _ hB3
  go_wp2_with (first
    | (go_at_call 36; fail)
    | ((with_reducible refine st_idmid (x := .tmp 130) (y := .tmp 129) ?_ ?_ ?_ ?_ HIL.out HTH.out ?_); rfl; rfl; rfl; rfl))
  refine (HB2.out _).mono ?_
  rintro r w5 ⟨rfl, rfl⟩
  generalize w3.setCells (w.heap.size + 1) 38 (idC idl) = w4 at B4 E4 hB4 ⊢
  clear B3 E3 hB3 hZ3 HTH
  go_wp2_with fail
  refine (HT3.out _).mono ?_
  rintro r w5 ⟨rfl, rfl⟩
  have HF4 := Lib.hid (obC_F { noOb with kind := (s[0].toNat : Int), of := noOb.of, target := idl } nilV nilV rfl HIL.out rfl rfl)
  have c71 := B4.cell 71 _ HF4.out.c71
  have f71 := B4.fr 71
  have B5 := Lib.hid (B4.name nb rfl HIL.out)
  have E5 := Lib.hid ((heap_setCell_other w4 ⟨w.heap.size + 1, 71, none⟩ w.heap.size (.string nb) (by simp)).trans E4.out)
  have hB5 := hB4.setCell (p := ⟨w.heap.size + 1, 71, none⟩) (by simp) (.string nb)
  have HF5 := Lib.hid (obC_F { noOb with kind := (s[0].toNat : Int), of := noOb.of, target := idl, name := nb } nilV nilV rfl HIL.out rfl rfl)
  go_wp2_with (first
    | ((with_reducible refine ld_obr (x := .tmp 3) ?_ ?_ ?_ B5.out.held HF5.out.size ?_); rfl; rfl; rfl)
    | ((with_reducible refine st_obr (x := .tmp 2) (y := .tmp 138) ?_ ?_ ?_ ?_ E5.out HS0.out HF5.out.size HF5.out.one ?_); rfl; rfl; rfl; rfl))
  refine bodyPost_ret (results_cell_row (fn := Tryd.f17) (p := 2) (by rfl) _ _ w.heap.size _ _ _ _ (by rfl) (setRow_heap _ _ _ _ _ _ E5.out) Tryd.underlying29 rfl (obsize (Lib.hid HF5.out.size).out)) rfl ⟨_, none, none, 0, 0, rfl, ?_, below_setRow hB5 (Nat.le_refl _) _, fun a ha => by rcases ha with ha | ha <;> cases ha⟩
  rw [HGF3.out]
  exact ⟨HF5.out, RowsAt.nil _ _, RowsAt.nil _ _, (fun e he => by cases he), (fun e he => by cases he), (fun e he => by cases he), Nat.zero_le _, Nat.zero_le _,  hnl2, (show (0 : Nat) < 4294967296 by decide)⟩

set_option maxHeartbeats 2000000 in
set_option maxRecDepth 100000 in
theorem guess_tag2 (s : ByteArray) (w : World) (h0 : 0 < s.size) (hs : s.size ≤ 5000) (hm2 : (Rm.takeG (s.data.toList.drop 1)).2 ≠ 0) (hk : (s[0].toNat : Int) = 4) (hte : (Rm.takeG (s.data.toList.drop 1)).1 ≠ []) :
    Calls Tryd.prog 17 #[.string s] w (Gsd s.data.toList w) := by
  have hz28 := (zero_of_info zero28).1
  have HS0 := Lib.hid noF.size
  have HO0 := Lib.hid noF.one
  have HBN := Lib.hid built_none
  have HNF := Lib.hid noF
  generalize (obC noOb nilV nilV).toArray = z at hz28 HS0 HO0 HBN HNF
  have h0' : (0 : Int) < (s.size : Int) := by omega
  have h1' : (1 : Int) ≤ (s.size : Int) := by omega
  have HX1 := Lib.hid (show s.extract 1 s.size = ⟨(s.data.toList.drop 1).toArray⟩ from bytes_ext (by rw [extract_r]))
  have hl1 : (s.data.toList.drop 1).length ≤ 5000 := by rw [List.length_drop, size_list]; omega
  have hkv := kindV_at s h0
  have hb0 := s[0].toNat_lt
  have hwk : wrap64 (s[0].toNat : Int) = (s[0].toNat : Int) := by unfold wrap64; omega
  have hgf : Rm.guessF s.data.toList = (if (Rm.takeG (s.data.toList.drop 1)).2 = 0 then noOb else Rm.bodyG (Rm.kindV s.data.toList) (Rm.takeG (s.data.toList.drop 1)).1) := rfl
  have htl := Rm.takeG_len (s.data.toList.drop 1)
  have htk := fun W => retake_l (s.data.toList.drop 1) W (by omega)
  have ht5 : (Rm.takeG (s.data.toList.drop 1)).1.length ≤ 5000 := by omega
  generalize (⟨(s.data.toList.drop 1).toArray⟩ : ByteArray) = d1 at HX1 htk
  generalize Rm.takeG (s.data.toList.drop 1) = tm at *
  obtain ⟨t, m⟩ := tm
  have hm3 : ¬ m = 0 := hm2
  have ht6 : t.length ≤ 5000 := ht5
  obtain ⟨tb, rfl⟩ : ∃ tb : ByteArray, t = tb.data.toList := ⟨ByteArray.mk t.toArray, by simp⟩
  rw [size_list] at ht6
  have htk : ∀ W, Calls Tryd.prog 35 #[.string d1] W fun r w' => r = .returned (.tuple #[.string tb, .int .i64 m]) ∧ W = w' := htk
  have HTK := Lib.hid htk
  have HGF := Lib.hid hgf
  clear htk htl hl1 hgf hm2 ht5
  have HKF := Lib.hid (obC_F { noOb with kind := (s[0].toNat : Int) } nilV nilV rfl rfl rfl rfl)
  have HKB := Lib.hid (built_kd (s[0].toNat : Int))
  have HKS := Lib.hid HKF.out.size
  have HKO := Lib.hid HKF.out.one
  have B0 : Bx ((w.alloc (.cells z 29)).alloc (.cells (obC { noOb with kind := (s[0].toNat : Int) } nilV nilV).toArray 29)) (w.heap.size + 1) { noOb with kind := (s[0].toNat : Int) } nilV nilV := heap_alloc2_new _ _ _
  have E0 := Lib.hid (heap_alloc2_old w (.cells z 29) (.cells (obC { noOb with kind := (s[0].toNat : Int) } nilV nilV).toArray 29))
  have hB0 := ((Below.refl w.heap.size w).alloc (Nat.le_refl _) (.cells z 29)).alloc (by simp) (.cells (obC { noOb with kind := (s[0].toNat : Int) } nilV nilV).toArray 29)
  have c0 := B0.cell 0 _ HKF.out.c0
  have hmz : ((m : Int) == 0) = false := by rw [beq_eq_false_iff_ne]; omega
  have htx : ¬ tb = ByteArray.empty := fun e => hte (by rw [e]; rfl)
  have hgf2 : Rm.guessF s.data.toList = { noOb with kind := (s[0].toNat : Int), target := Rm.idG (tb.data.toList.drop 1), of := Rm.kindV tb.data.toList, name := ⟨(Rm.takeG ((tb.data.toList.drop 1).drop 32)).1.toArray⟩ } := by rw [HGF.out, if_neg (show ¬ ((tb.data.toList, m) : List UInt8 × Nat).2 = 0 from hm3), hkv, hk]; rfl
  have hk1 : ((s[0].toNat : Int) == 1) = false := by rw [beq_eq_false_iff_ne]; omega
  have hk2 : ((s[0].toNat : Int) == 2) = false := by rw [beq_eq_false_iff_ne]; omega
  have hk3 : ((s[0].toNat : Int) == 3) = false := by rw [beq_eq_false_iff_ne]; omega
  have hk4 : ((s[0].toNat : Int) == 4) = true := by rw [beq_iff_eq]; exact hk
  have hl0 : tb.data.toList.length ≤ 5000 := by rw [size_list]; exact ht6
  have hl1 : (tb.data.toList.drop 1).length ≤ 5000 := by rw [List.length_drop]; omega
  have hl2 : ((tb.data.toList.drop 1).drop 32).length ≤ 5000 := by rw [List.length_drop]; omega
  have HB1 := Lib.hid (fun W => behind_1 tb W (by omega))
  have hid := fun W => refid_l (tb.data.toList.drop 1) W (by omega)
  have hb2 := fun W => behind_32 (tb.data.toList.drop 1) W (by omega)
  have ht2 := fun W => retake_l ((tb.data.toList.drop 1).drop 32) W (by omega)
  have hil := Rm.idG_len (tb.data.toList.drop 1)
  have htl2 := (Rm.takeG_len ((tb.data.toList.drop 1).drop 32)).1
  have hnl : (Rm.takeG ((tb.data.toList.drop 1).drop 32)).1.length ≤ 5000 := by omega
  have htz : 0 < tb.size := by
    have := size_list tb
    have h3 : tb.data.toList ≠ [] := fun e => htx (bytes_ext (by rw [e]; rfl))
    have := List.length_pos_iff.2 h3
    omega
  have hkt := kindV_at tb htz
  have hbt := tb[0].toNat_lt
  have htz' : (0 : Int) < (tb.size : Int) := by omega
  have hne1 : (!tb.toList.isEmpty) = true := by
    rw [ByteArray.toList_eq]
    have h3 : tb.data.toList ≠ [] := fun e => htx (bytes_ext (by rw [e]; rfl))
    simpa using h3
  have hne2 : ¬ tb = ByteArray.empty := htx
  have hwt : wrap64 (tb[0].toNat : Int) = (tb[0].toNat : Int) := by unfold wrap64; omega
  rw [hkt] at hgf2
  clear hkt
  clear htl2 hl0 hl1 hl2
  generalize (⟨(tb.data.toList.drop 1).toArray⟩ : ByteArray) = t1 at HB1 hid hb2
  generalize (⟨((tb.data.toList.drop 1).drop 32).toArray⟩ : ByteArray) = t2 at hb2 ht2
  generalize Rm.idG (tb.data.toList.drop 1) = idl at hgf2 hid hil
  generalize Rm.takeG ((tb.data.toList.drop 1).drop 32) = tm2 at hgf2 ht2 hnl
  obtain ⟨nm, m2⟩ := tm2
  obtain ⟨nb, rfl⟩ : ∃ nb : ByteArray, nm = nb.data.toList := ⟨⟨nm.toArray⟩, by simp⟩
  have hnl2 : nb.size ≤ maxLen := by rw [← size_list]; unfold maxLen; have : nb.data.toList.length ≤ 5000 := hnl; omega
  have HGF3 := Lib.hid (show Rm.guessF s.data.toList = { noOb with kind := (s[0].toNat : Int), target := idl, of := (tb[0].toNat : Int), name := nb } from hgf2)
  have HT3 := Lib.hid (fun W => show Calls Tryd.prog 35 #[.string t2] W fun r w' => r = .returned (.tuple #[.string nb, .int .i64 m2]) ∧ W = w' from ht2 W)
  have HID := Lib.hid hid
  have HB2 := Lib.hid hb2
  have HIL := Lib.hid hil
  clear hm3 hk hkv hte ht2 hgf2 hnl HGF hid hb2 hil
  go_enter Tryd.func17, Tryd.ntmps17
  go_wp2_with (first
    | (go_at_call 35; fail)
    | ((with_reducible refine bd_kd (x := .tmp 17) ?_ ?_ ?_ HKB.out ?_); rfl; rfl; rfl)
    | ((with_reducible refine st_ob2 (x := .tmp 3) (y := .tmp 18) (g := w.heap.size + 1) ?_ ?_ ?_ ?_ ?_ ?_ HKS.out HKO.out ?_); rfl; rfl; rfl; rfl; exact HS0.out; simp))
  rw [HX1.out]
  refine (HTK.out _).mono ?_
  rintro r w1 ⟨rfl, rfl⟩
  generalize ((w.alloc (.cells z 29)).alloc (.cells (obC { noOb with kind := (s[0].toNat : Int) } nilV nilV).toArray 29)) = W1 at B0 E0 hB0 c0 ⊢
  have c70 := B0.cell 70 _ HKF.out.c70
  have f70 := B0.fr 70
  have B2 := Lib.hid (B0.of (tb[0].toNat : Int) rfl rfl)
  have E2 := Lib.hid ((heap_setCell_other W1 ⟨w.heap.size + 1, 70, none⟩ w.heap.size (.int .i64 (tb[0].toNat : Int)) (by simp)).trans E0.out)
  have hB2 := hB0.setCell (p := ⟨w.heap.size + 1, 70, none⟩) (by simp) (.int .i64 (tb[0].toNat : Int))
  have hZ2 : w.heap.size + 2 ≤ (W1.setCell ⟨w.heap.size + 1, 70, none⟩ (.int .i64 (tb[0].toNat : Int))).heap.size := by
    have := (Array.getElem?_eq_some_iff.1 B2.out).1; omega
  have BB := B2
  have EE := E2
  have hBB := hB2
  have hZZ : w.heap.size + 2 ≤ (W1.setCell ⟨w.heap.size + 1, 70, none⟩ (.int .i64 (tb[0].toNat : Int))).heap.size := by
    have := (Array.getElem?_eq_some_iff.1 BB.out).1; omega
  clear hZ2 B2 E2 hB2
  go_wp2_with (first
    | (go_at_call 36; fail))
  refine (HB1.out _).mono ?_
  rintro r w2 ⟨rfl, rfl⟩
  go_wp2_with (first
    | (go_at_call 37; fail))
  refine (HID.out _).mono ?_
  rintro r w3 ⟨rfl, hx3⟩
  have B3 := BB.out.below hx3
  have E3 := Lib.hid ((hx3.block w.heap.size (by omega)).trans EE.out)
  have hB3 := hBB.trans (hx3.mono hBB.size)
  have hZ3 := Nat.le_trans hZZ hx3.size
  clear BB EE hBB hZZ hx3
  have HF3 := Lib.hid (obC_F { noOb with kind := (s[0].toNat : Int), of := (tb[0].toNat : Int) } nilV nilV rfl rfl rfl rfl)
  have HTH := Lib.hid (B3.there HF3.out.size 38 32 (by decide))
  have B4 := B3.target idl HIL.out rfl rfl
  have E4 := Lib.hid (held_setCells (g := w.heap.size + 1) (o := 38) (vs := idC idl) E3.out (by omega))
  have hB4 := below_setCells (g := w.heap.size + 1) (by omega) (idC idl) 38 _ hB3
  go_wp2_with (first
    | (go_at_call 36; fail)
    | ((with_reducible refine st_idmid (x := .tmp 130) (y := .tmp 129) ?_ ?_ ?_ ?_ HIL.out HTH.out ?_); rfl; rfl; rfl; rfl))
  refine (HB2.out _).mono ?_
  rintro r w5 ⟨rfl, rfl⟩
  generalize w3.setCells (w.heap.size + 1) 38 (idC idl) = w4 at B4 E4 hB4 ⊢
  clear B3 E3 hB3 hZ3 HTH
  go_wp2_with fail
  refine (HT3.out _).mono ?_
  rintro r w5 ⟨rfl, rfl⟩
  have HF4 := Lib.hid (obC_F { noOb with kind := (s[0].toNat : Int), of := (tb[0].toNat : Int), target := idl } nilV nilV rfl HIL.out rfl rfl)
  have c71 := B4.cell 71 _ HF4.out.c71
  have f71 := B4.fr 71
  have B5 := Lib.hid (B4.name nb rfl HIL.out)
  have E5 := Lib.hid ((heap_setCell_other w4 ⟨w.heap.size + 1, 71, none⟩ w.heap.size (.string nb) (by simp)).trans E4.out)
  have hB5 := hB4.setCell (p := ⟨w.heap.size + 1, 71, none⟩) (by simp) (.string nb)
  have HF5 := Lib.hid (obC_F { noOb with kind := (s[0].toNat : Int), of := (tb[0].toNat : Int), target := idl, name := nb } nilV nilV rfl HIL.out rfl rfl)
  go_wp2_with (first
    | ((with_reducible refine ld_obr (x := .tmp 3) ?_ ?_ ?_ B5.out.held HF5.out.size ?_); rfl; rfl; rfl)
    | ((with_reducible refine st_obr (x := .tmp 2) (y := .tmp 138) ?_ ?_ ?_ ?_ E5.out HS0.out HF5.out.size HF5.out.one ?_); rfl; rfl; rfl; rfl))
  refine bodyPost_ret (results_cell_row (fn := Tryd.f17) (p := 2) (by rfl) _ _ w.heap.size _ _ _ _ (by rfl) (setRow_heap _ _ _ _ _ _ E5.out) Tryd.underlying29 rfl (obsize (Lib.hid HF5.out.size).out)) rfl ⟨_, none, none, 0, 0, rfl, ?_, below_setRow hB5 (Nat.le_refl _) _, fun a ha => by rcases ha with ha | ha <;> cases ha⟩
  rw [HGF3.out]
  exact ⟨HF5.out, RowsAt.nil _ _, RowsAt.nil _ _, (fun e he => by cases he), (fun e he => by cases he), (fun e he => by cases he), Nat.zero_le _, Nat.zero_le _,  hnl2, (show (0 : Nat) < 4294967296 by decide)⟩

end Go.Proofs.YtcicfjfbnbkkcaaDoor
