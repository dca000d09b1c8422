/-
  WALKS OF LAYER 12: container/heap's down, Push and Pop over the walker's candidates.
-/
import Derived.Test.YtfckfjndnhjpoaaGreatDoorRd
import Derived.Test.YtfckfjndnhjpoaaGreatDoorQa
set_option linter.unusedVariables false
set_option linter.unusedSimpArgs false
set_option maxHeartbeats 8000000
set_option maxRecDepth 100000
section
namespace Go.Proofs.YtfckfjndnhjpoaaGreatDoor
open Go.RowKit Go.Sort
theorem Hp.irr {α : Type} {lt : α → α → Bool} (h : Hp.Ord lt) (a : α) : lt a a = false := by
 cases hb : lt a a with
 | false => rfl
 | true => have := h.asy _ _ hb; rw [hb] at this; cases this
theorem Hp.swl_far {α : Type} {L : List α} {i j k : Nat} (x y : α) (hi : k ≠ i) (hj : k ≠ j) : (Hp.swl L i j x y)[k]? = L[k]? := by
 unfold Hp.swl
 rw [List.getElem?_set_ne (fun e => hj e.symm), List.getElem?_set_ne (fun e => hi e.symm)]
theorem down_cd (w : World) (base b n : Nat) (sp mp v : Value) (C : List Cd) (h : WB w base b sp mp v C) (hbs : base ≤ w.heap.size) (hC : n < C.length) (hu : Hp.Dn Cd.lt (cdF C) n 0) (hn : C.length ≤ 2000) :
  Calls Tryz.prog 119 #[.iface 157 (.pointer (some ⟨b, 1, none⟩)), .int .i64 0, .int .i64 n] w fun r w' => ∃ bo C', r = .returned (.bool bo) ∧ WB w' base b sp mp v C' ∧ C'.Perm C ∧ C'.length = C.length ∧ (∀ k, n ≤ k → C'[k]? = C[k]?) ∧ Hp.Is Cd.lt (cdF C') n ∧ Ch w w' b v := by
 obtain ⟨g, cap, rfl, hgb, hgl⟩ := h.own.own.form (by omega)
 have H0 := Lib.hid h
 have HU0 := Lib.hid hu
 clear h hu
 go_enter Tryz.func119, Tryz.ntmps119
 go_wp2_with fail
 go_loopw [7] (fun iv wr => ∃ (i : Nat) (D : List Cd), iv = .int .i64 i ∧ i ≤ n ∧ D.length = C.length ∧ Hid (WB wr base b sp mp (.slice (some ⟨g, 0, none⟩) C.length cap) D) ∧ Hid (D.Perm C) ∧ Hid (∀ k, n ≤ k → D[k]? = C[k]?) ∧ Hid (Hp.Dn Cd.lt (cdF D) n i) ∧ Hid (Ch w wr b (.slice (some ⟨g, 0, none⟩) C.length cap))) (fun iv _ => n - (intOf iv).toNat)
 case atStart => exact ⟨0, C, rfl, Nat.zero_le _, rfl, H0, .refl _, fun _ _ => rfl, HU0, Ch.of_below (Below.refl _ _) _ _⟩
 case round =>
  clear H0 HU0
  obtain ⟨i, D, rfl, hin, hDl, HW, HP, HK, HD, HC⟩ := hrel
  obtain ⟨j1, hj1⟩ : ∃ j1, j1 = 2 * i + 1 := ⟨_, rfl⟩
  obtain ⟨j2, hj2⟩ : ∃ j2, j2 = 2 * i + 2 := ⟨_, rfl⟩
  have e1 : (2 : Int) * (i : Int) + 1 = (j1 : Int) := by omega
  have e2 : (j1 : Int) + 1 = (j2 : Int) := by omega
  have HJ1 := Lib.hid hj1
  have HJ2 := Lib.hid hj2
  have p0 : (0 : Int) ≤ (j1 : Int) := by omega
  have hij : i < j1 ∧ i < j2 ∧ j2 = j1 + 1 := by omega
  have hcell := HW.out.cell
  by_cases h1 : n ≤ j1
  ·
   have h1' : (n : Int) ≤ (j1 : Int) := by omega
   have hend := HD.out.end0 (by omega)
   have HEND := Lib.hid hend
   clear hj1 hj2 hend
   obtain ⟨_, _, hjj⟩ := hij
   clear hjj
   go_wp2_with fail
   go_ret
   exact ⟨_, D, rfl, HW.out, HP.out, hDl, HK.out, HEND.out, HC.out⟩
  ·
   have h1' : ¬ (n : Int) ≤ (j1 : Int) := by omega
   have h1n : (j1 : Int) < (n : Int) := by omega
   have hd3 : (j1 = 2 * i + 1 ∨ j1 = 2 * i + 2) ∧ (j2 = 2 * i + 1 ∨ j2 = 2 * i + 2) := by omega
   have HD3 := Lib.hid hd3
   have hix := cdF_get (show i < D.length by omega)
   obtain ⟨hi1, hi2, hjj⟩ := hij
   by_cases h2 : j2 < n
   ·
    have h2' : (j2 : Int) < (n : Int) := by omega
    clear hj1 hj2 hjj hd3
    have hm2 : (method 367 157 (.pointer (some ⟨b, 1, none⟩)) "Less").run Tryz.prog wr = .ok (206, .slice (some ⟨g, 0, none⟩) C.length cap) wr := meth_v mLess ⟨b, 1, none⟩ _ wr hcell _ (by decide)
    have h2x := cdF_get (show j2 < D.length by omega)
    have h1x := cdF_get (show j1 < D.length by omega)
    have HL2 := Lib.hid (less_cd wr base _ D j2 j1 _ _ HW.out.own h2x h1x (by omega))
    clear h2x h1x
    cases hl2 : Cd.lt (cdF D j2) (cdF D j1) with
    | true =>
      rw [hl2] at HL2
      have HCH := Lib.hid (show ∀ k, k < n → k = 2 * i + 1 ∨ k = 2 * i + 2 → Cd.lt (cdF D k) (cdF D j2) = false from fun k hk hq => by
       rcases hq with e | e
       · rw [e, ← HJ1.out]; exact Cd.ord.asy _ _ hl2
       · rw [e, ← HJ2.out]; exact Hp.irr Cd.ord _)
      clear hl2
      go_wp2_with fail
      with_reducible refine HL2.out.mono ?_
      rintro r w2 ⟨rfl, hb2⟩
      have HW2 := Lib.hid (HW.out.below hb2)
      have HC2 := Lib.hid (HC.out.trans (Ch.of_below hb2 b (.slice (some ⟨g, 0, none⟩) C.length cap)) (Nx.refl _ _))
      clear hb2 hm2 hcell HL2 HW HC
      have hjx := cdF_get (show j2 < D.length by omega)
      have hc3 := HW2.out.cell
      have hm3 : (method 367 157 (.pointer (some ⟨b, 1, none⟩)) "Less").run Tryz.prog w2 = .ok (206, .slice (some ⟨g, 0, none⟩) C.length cap) w2 := meth_v mLess ⟨b, 1, none⟩ _ w2 hc3 _ (by decide)
      have HL3 := Lib.hid (less_cd w2 base _ D j2 i _ _ HW2.out.own hjx hix (by omega))
      cases hl3 : Cd.lt (cdF D j2) (cdF D i) with
      | false =>
        rw [hl3] at HL3
        have hend := HD.out.end_ Cd.ord (j := j2) HD3.out.2 HCH.out hl3
        have HEND := Lib.hid hend
        clear hend hl3
        go_wp2_with fail
        with_reducible refine HL3.out.mono ?_
        rintro r w3 ⟨rfl, hb3⟩
        have HW3 := Lib.hid (HW2.out.below hb3)
        have HC3 := Lib.hid (HC2.out.trans (Ch.of_below hb3 b (.slice (some ⟨g, 0, none⟩) C.length cap)) (Nx.refl _ _))
        clear hb3 hm3 hc3 HL3
        go_wp2_with fail
        go_ret
        exact ⟨_, D, rfl, HW3.out, HP.out, hDl, HK.out, HEND.out, HC3.out⟩
      | true =>
        rw [hl3] at HL3
        have HST := Lib.hid (HD.out.step Cd.ord (j := j2) HD3.out.2 (by omega) HCH.out hl3)
        clear hl3
        go_wp2_with fail
        with_reducible refine HL3.out.mono ?_
        rintro r w3 ⟨rfl, hb3⟩
        have hW3 := HW2.out.below hb3
        have hc4 := hW3.cell
        have hm4 : (method 367 157 (.pointer (some ⟨b, 1, none⟩)) "Swap").run Tryz.prog w3 = .ok (207, .slice (some ⟨g, 0, none⟩) C.length cap) w3 := meth_v mSwap ⟨b, 1, none⟩ _ w3 hc4 _ (by decide)
        have HSW := Lib.hid (swap_cn w3 base g cap C.length D i j2 _ _ hDl hW3.own hix hjx (by omega))
        have HSD := Lib.hid (hW3.swappedn hDl hix hjx)
        have HC3 := Lib.hid (HC2.out.trans (Ch.of_below hb3 b (.slice (some ⟨g, 0, none⟩) C.length cap)) (Nx.refl _ _))
        clear hm3 hc3 hW3 hb3 hc4 HL3
        go_wp2_with fail
        with_reducible refine HSW.out.mono ?_
        rintro r w4 ⟨rfl, hw4⟩
        rw [← hw4] at HSD
        clear hw4 hm4 HSW
        go_wp2_with fail
        go_roundw
        case rel => exact ⟨j2, Hp.swl D i j2 (cdF D i) (cdF D j2), rfl, by omega, by rw [Hp.swl_len]; exact hDl, HSD.out.1, (Hp.swl_perm hix hjx).trans HP.out, (fun k hk => by rw [Hp.swl_far _ _ (by omega) (by omega)]; exact HK.out k hk), HST.out.congr (fun k _ => (Hp.swl_get hix hjx k).symm), HC3.out.trans HSD.out.2 (Nx.refl _ _)⟩
        case measure => simp [intOf]; omega
    | false =>
      rw [hl2] at HL2
      have HCH := Lib.hid (show ∀ k, k < n → k = 2 * i + 1 ∨ k = 2 * i + 2 → Cd.lt (cdF D k) (cdF D j1) = false from fun k hk hq => by
       rcases hq with e | e
       · rw [e, ← HJ1.out]; exact Hp.irr Cd.ord _
       · rw [e, ← HJ2.out]; exact hl2)
      clear hl2
      go_wp2_with fail
      with_reducible refine HL2.out.mono ?_
      rintro r w2 ⟨rfl, hb2⟩
      have HW2 := Lib.hid (HW.out.below hb2)
      have HC2 := Lib.hid (HC.out.trans (Ch.of_below hb2 b (.slice (some ⟨g, 0, none⟩) C.length cap)) (Nx.refl _ _))
      clear hb2 hm2 hcell HL2 HW HC
      have hjx := cdF_get (show j1 < D.length by omega)
      have hc3 := HW2.out.cell
      have hm3 : (method 367 157 (.pointer (some ⟨b, 1, none⟩)) "Less").run Tryz.prog w2 = .ok (206, .slice (some ⟨g, 0, none⟩) C.length cap) w2 := meth_v mLess ⟨b, 1, none⟩ _ w2 hc3 _ (by decide)
      have HL3 := Lib.hid (less_cd w2 base _ D j1 i _ _ HW2.out.own hjx hix (by omega))
      cases hl3 : Cd.lt (cdF D j1) (cdF D i) with
      | false =>
        rw [hl3] at HL3
        have hend := HD.out.end_ Cd.ord (j := j1) HD3.out.1 HCH.out hl3
        have HEND := Lib.hid hend
        clear hend hl3
        go_wp2_with fail
        with_reducible refine HL3.out.mono ?_
        rintro r w3 ⟨rfl, hb3⟩
        have HW3 := Lib.hid (HW2.out.below hb3)
        have HC3 := Lib.hid (HC2.out.trans (Ch.of_below hb3 b (.slice (some ⟨g, 0, none⟩) C.length cap)) (Nx.refl _ _))
        clear hb3 hm3 hc3 HL3
        go_wp2_with fail
        go_ret
        exact ⟨_, D, rfl, HW3.out, HP.out, hDl, HK.out, HEND.out, HC3.out⟩
      | true =>
        rw [hl3] at HL3
        have HST := Lib.hid (HD.out.step Cd.ord (j := j1) HD3.out.1 (by omega) HCH.out hl3)
        clear hl3
        go_wp2_with fail
        with_reducible refine HL3.out.mono ?_
        rintro r w3 ⟨rfl, hb3⟩
        have hW3 := HW2.out.below hb3
        have hc4 := hW3.cell
        have hm4 : (method 367 157 (.pointer (some ⟨b, 1, none⟩)) "Swap").run Tryz.prog w3 = .ok (207, .slice (some ⟨g, 0, none⟩) C.length cap) w3 := meth_v mSwap ⟨b, 1, none⟩ _ w3 hc4 _ (by decide)
        have HSW := Lib.hid (swap_cn w3 base g cap C.length D i j1 _ _ hDl hW3.own hix hjx (by omega))
        have HSD := Lib.hid (hW3.swappedn hDl hix hjx)
        have HC3 := Lib.hid (HC2.out.trans (Ch.of_below hb3 b (.slice (some ⟨g, 0, none⟩) C.length cap)) (Nx.refl _ _))
        clear hm3 hc3 hW3 hb3 hc4 HL3
        go_wp2_with fail
        with_reducible refine HSW.out.mono ?_
        rintro r w4 ⟨rfl, hw4⟩
        rw [← hw4] at HSD
        clear hw4 hm4 HSW
        go_wp2_with fail
        go_roundw
        case rel => exact ⟨j1, Hp.swl D i j1 (cdF D i) (cdF D j1), rfl, by omega, by rw [Hp.swl_len]; exact hDl, HSD.out.1, (Hp.swl_perm hix hjx).trans HP.out, (fun k hk => by rw [Hp.swl_far _ _ (by omega) (by omega)]; exact HK.out k hk), HST.out.congr (fun k _ => (Hp.swl_get hix hjx k).symm), HC3.out.trans HSD.out.2 (Nx.refl _ _)⟩
        case measure => simp [intOf]; omega
   ·
    have h2' : ¬ (j2 : Int) < (n : Int) := by omega
    clear hj1 hj2 hjj hd3
    have HCH := Lib.hid (show ∀ k, k < n → k = 2 * i + 1 ∨ k = 2 * i + 2 → Cd.lt (cdF D k) (cdF D j1) = false from fun k hk hq => by
     have h1 := HJ1.out
     have h2 := HJ2.out
     have e : k = j1 := by omega
     rw [e]; exact Hp.irr Cd.ord _)
    have hjx := cdF_get (show j1 < D.length by omega)
    have hc3 := HW.out.cell
    have hm3 : (method 367 157 (.pointer (some ⟨b, 1, none⟩)) "Less").run Tryz.prog wr = .ok (206, .slice (some ⟨g, 0, none⟩) C.length cap) wr := meth_v mLess ⟨b, 1, none⟩ _ wr hc3 _ (by decide)
    have HL3 := Lib.hid (less_cd wr base _ D j1 i _ _ HW.out.own hjx hix (by omega))
    cases hl3 : Cd.lt (cdF D j1) (cdF D i) with
    | false =>
      rw [hl3] at HL3
      have hend := HD.out.end_ Cd.ord (j := j1) HD3.out.1 HCH.out hl3
      have HEND := Lib.hid hend
      clear hend hl3
      go_wp2_with fail
      with_reducible refine HL3.out.mono ?_
      rintro r w3 ⟨rfl, hb3⟩
      have HW3 := Lib.hid (HW.out.below hb3)
      have HC3 := Lib.hid (HC.out.trans (Ch.of_below hb3 b (.slice (some ⟨g, 0, none⟩) C.length cap)) (Nx.refl _ _))
      clear hb3 hm3 hc3 HL3
      go_wp2_with fail
      go_ret
      exact ⟨_, D, rfl, HW3.out, HP.out, hDl, HK.out, HEND.out, HC3.out⟩
    | true =>
      rw [hl3] at HL3
      have HST := Lib.hid (HD.out.step Cd.ord (j := j1) HD3.out.1 (by omega) HCH.out hl3)
      clear hl3
      go_wp2_with fail
      with_reducible refine HL3.out.mono ?_
      rintro r w3 ⟨rfl, hb3⟩
      have hW3 := HW.out.below hb3
      have hc4 := hW3.cell
      have hm4 : (method 367 157 (.pointer (some ⟨b, 1, none⟩)) "Swap").run Tryz.prog w3 = .ok (207, .slice (some ⟨g, 0, none⟩) C.length cap) w3 := meth_v mSwap ⟨b, 1, none⟩ _ w3 hc4 _ (by decide)
      have HSW := Lib.hid (swap_cn w3 base g cap C.length D i j1 _ _ hDl hW3.own hix hjx (by omega))
      have HSD := Lib.hid (hW3.swappedn hDl hix hjx)
      have HC3 := Lib.hid (HC.out.trans (Ch.of_below hb3 b (.slice (some ⟨g, 0, none⟩) C.length cap)) (Nx.refl _ _))
      clear hm3 hc3 hW3 hb3 hc4 HL3
      go_wp2_with fail
      with_reducible refine HSW.out.mono ?_
      rintro r w4 ⟨rfl, hw4⟩
      rw [← hw4] at HSD
      clear hw4 hm4 HSW
      go_wp2_with fail
      go_roundw
      case rel => exact ⟨j1, Hp.swl D i j1 (cdF D i) (cdF D j1), rfl, by omega, by rw [Hp.swl_len]; exact hDl, HSD.out.1, (Hp.swl_perm hix hjx).trans HP.out, (fun k hk => by rw [Hp.swl_far _ _ (by omega) (by omega)]; exact HK.out k hk), HST.out.congr (fun k _ => (Hp.swl_get hix hjx k).symm), HC3.out.trans HSD.out.2 (Nx.refl _ _)⟩
      case measure => simp [intOf]; omega
end Go.Proofs.YtfckfjndnhjpoaaGreatDoor
end
section
namespace Go.Proofs.YtfckfjndnhjpoaaGreatDoor
open Go.RowKit Go.Sort
theorem hpush_cd (w : World) (base b : Nat) (sp mp v : Value) (C : List Cd) (c : Cd) (h : WB w base b sp mp v C) (hbs : base ≤ w.heap.size) (hH : Hp.Is Cd.lt (cdF C) C.length) (hn : C.length ≤ 1000) :
  Calls Tryz.prog 85 #[.iface 157 (.pointer (some ⟨b, 1, none⟩)), .iface 109 (.agg (cdC c).toArray)] w fun r w' => r = .returned (.tuple #[]) ∧ ∃ v' C', WB w' base b sp mp v' C' ∧ C'.Perm (C ++ [c]) ∧ Hp.Is Cd.lt (cdF C') C'.length ∧ Ch w w' b v ∧ Nx w v v' := by
 have hm1 : (method 367 157 (.pointer (some ⟨b, 1, none⟩)) "Push").run Tryz.prog w = .ok (209, .pointer (some ⟨b, 1, none⟩)) w := meth_p mPush ⟨b, 1, none⟩ w _ (by decide)
 have HP := Lib.hid (push_cd w base b sp mp v C c h hbs (by omega))
 have HUP := Lib.hid (show Hp.Up Cd.lt (cdF (C ++ [c])) (C ++ [c]).length C.length from by
  rw [show (C ++ [c]).length = C.length + 1 by simp]
  refine Hp.Up.start (hH.congr fun k hk => ?_)
  unfold cdF
  rw [List.getD_eq_getElem?_getD, List.getD_eq_getElem?_getD, List.getElem?_append_left hk])
 clear h hH
 go_enter Tryz.func85, Tryz.ntmps85
 go_wp2_with fail
 with_reducible refine HP.out.mono ?_
 rintro r w1 ⟨rfl, v1, hW1, hC1, hN1⟩
 obtain ⟨ao, cap, rfl⟩ := hW1.own.form
 rw [show (C ++ [c]).length = C.length + 1 by simp] at hW1 hN1
 have hc1 := hW1.cell
 have hm2 : (method 367 157 (.pointer (some ⟨b, 1, none⟩)) "Len").run Tryz.prog w1 = .ok (205, .slice ao (C.length + 1) cap) w1 := meth_v mLen ⟨b, 1, none⟩ _ w1 hc1 _ (by decide)
 have HLN := Lib.hid (len_cd ao (C.length + 1) cap w1)
 have HUC := Lib.hid (up_cd w1 base b sp mp _ (C ++ [c]) C.length hW1 (Nat.le_trans hbs hC1.size) HUP.out (by simp; omega))
 have HC1 := Lib.hid hC1
 have HN1 := Lib.hid hN1
 clear hW1 hC1 hN1 hm1 HP HUP hc1
 go_wp2_with fail
 with_reducible refine HLN.out.mono ?_
 rintro r w2 ⟨rfl, rfl⟩
 clear hm2
 go_wp2_with fail
 with_reducible refine HUC.out.mono ?_
 rintro r w3 ⟨rfl, C', hW3, hP3, hI3, hC3⟩
 have HE := Lib.hid (show ∃ v' C', WB w3 base b sp mp v' C' ∧ C'.Perm (C ++ [c]) ∧ Hp.Is Cd.lt (cdF C') C'.length ∧ Ch w w3 b v ∧ Nx w v v' from ⟨_, C', hW3, hP3, hI3, HC1.out.trans hC3 HN1.out, HN1.out⟩)
 clear hW3 hP3 hI3 hC3 HC1 HN1
 go_wp2_with fail
 refine bodyPost_end (results_none rfl _ _ _) rfl ?_
 exact ⟨rfl, HE.out⟩
theorem hpop_cd (w : World) (base b : Nat) (sp mp v : Value) (C : List Cd) (n : Nat) (h : WB w base b sp mp v C) (hbs : base ≤ w.heap.size) (hH : Hp.Is Cd.lt (cdF C) C.length) (hl : C.length = n + 1) (hn : n ≤ 1000) :
  Calls Tryz.prog 84 #[.iface 157 (.pointer (some ⟨b, 1, none⟩))] w fun r w' => ∃ v' C' c, r = .returned (.iface 109 (.agg (cdC c).toArray)) ∧ WB w' base b sp mp v' C' ∧ C.Perm (c :: C') ∧ (∀ x ∈ C, Cd.lt x c = false) ∧ Hp.Is Cd.lt (cdF C') C'.length ∧ Ch w w' b v ∧ Nx w v v' := by
 obtain ⟨g, cap, rfl, hgb, hgl⟩ := h.own.own.form (by omega)
 have h0x := cdF_get (show 0 < C.length by omega)
 have hnx := cdF_get (show n < C.length by omega)
 have HMIN := Lib.hid (show ∀ x ∈ C, Cd.lt x (cdF C 0) = false from fun x hx => by
  obtain ⟨k, hk⟩ := List.getElem?_of_mem hx
  have := hH.root Cd.ord k (List.getElem?_eq_some_iff.1 hk).1
  rwa [cdF_at hk] at this)
 have hdn := Hp.Dn.start (lt := Cd.lt) (f := cdF C) (n := n) (by rw [← hl]; exact hH)
 have HDN := Lib.hid (show Hp.Dn Cd.lt (cdF (Hp.swl C 0 n (cdF C 0) (cdF C n))) n 0 from hdn.congr fun k _ => (Hp.swl_get h0x hnx k).symm)
 have HPM := Lib.hid (Hp.swl_perm h0x hnx)
 have HAT := Lib.hid (show (Hp.swl C 0 n (cdF C 0) (cdF C n))[n]? = some (cdF C 0) from by
  unfold Hp.swl
  rw [List.getElem?_set_self (by rw [List.length_set]; omega)])
 have HSL := Lib.hid (show (Hp.swl C 0 n (cdF C 0) (cdF C n)).length = n + 1 by rw [Hp.swl_len, hl])
 have hc0 := h.cell
 rw [hl] at hc0 h ⊢
 have hm1 : (method 367 157 (.pointer (some ⟨b, 1, none⟩)) "Len").run Tryz.prog w = .ok (205, .slice (some ⟨g, 0, none⟩) (n + 1) cap) w := meth_v mLen ⟨b, 1, none⟩ _ w hc0 _ (by decide)
 have hm2 : (method 367 157 (.pointer (some ⟨b, 1, none⟩)) "Swap").run Tryz.prog w = .ok (207, .slice (some ⟨g, 0, none⟩) (n + 1) cap) w := meth_v mSwap ⟨b, 1, none⟩ _ w hc0 _ (by decide)
 have HLN := Lib.hid (len_cd (some ⟨g, 0, none⟩) (n + 1) cap w)
 have HSW := Lib.hid (show Calls Tryz.prog 207 #[.slice (some ⟨g, 0, none⟩) (n + 1) cap, .int .i64 0, .int .i64 n] w _ from swap_cn w base g cap (n + 1) C 0 n _ _ hl h.own h0x hnx (by omega))
 have HSD := Lib.hid (h.swappedn hl h0x hnx)
 clear h hc0 h0x hnx hdn hH
 go_enter Tryz.func84, Tryz.ntmps84
 go_wp2_with fail
 with_reducible refine HLN.out.mono ?_
 rintro r w1 ⟨rfl, rfl⟩
 go_wp2_with fail
 with_reducible refine HSW.out.mono ?_
 rintro r w2 ⟨rfl, hw2⟩
 rw [← hw2] at HSD
 clear hw2 hm1 hm2 HSW HLN
 generalize Hp.swl C 0 n (cdF C 0) (cdF C n) = D at *
 generalize cdF C 0 = c at *
 have HDC := Lib.hid (down_cd w2 base b n sp mp _ D HSD.out.1 (Nat.le_trans hbs HSD.out.2.size) (by have := HSL.out; omega) HDN.out (by have := HSL.out; omega))
 go_wp2_with fail
 with_reducible refine HDC.out.mono ?_
 rintro r w3 ⟨bo, E, rfl, hW3, hP3, hl3, hk3, hI3, hC3⟩
 have hEl : E.length = n + 1 := by rw [hl3, HSL.out]
 have hEn : E[n]? = some c := (hk3 n (Nat.le_refl _)).trans HAT.out
 have hE : E = E.take n ++ [c] := by
  have h1 := List.take_append_drop n E
  have h2 : E.drop n = [c] := by
   rw [List.drop_eq_getElem_cons (by omega), List.drop_of_length_le (by omega)]
   rw [List.getElem?_eq_getElem (by omega)] at hEn
   injection hEn with e
   rw [e]
  rw [h2] at h1; exact h1.symm
 obtain ⟨F, hF⟩ : ∃ F, F = E.take n := ⟨_, rfl⟩
 have hFl : F.length = n := by rw [hF, List.length_take]; omega
 rw [← hF] at hE
 have HIF := Lib.hid (show Hp.Is Cd.lt (cdF F) F.length from by
  rw [hFl]
  refine hI3.congr fun k hk => ?_
  unfold cdF
  rw [hE, List.getD_eq_getElem?_getD, List.getD_eq_getElem?_getD, List.getElem?_append_left (by omega)])
 have HPF := Lib.hid (show C.Perm (c :: F) from by
  have h1 := hP3.trans HPM.out
  rw [hE] at h1
  exact h1.symm.trans (List.perm_append_comm (l₁ := F) (l₂ := [c])))
 subst hE
 have HPO := Lib.hid (pop_cd w3 base b sp mp _ F c hW3 (Nat.le_trans hbs (Nat.le_trans HSD.out.2.size hC3.size)) (by omega))
 have HC3 := Lib.hid (HSD.out.2.trans hC3 (Nx.refl _ _))
 have hm3 : (method 367 157 (.pointer (some ⟨b, 1, none⟩)) "Pop").run Tryz.prog w3 = .ok (208, .pointer (some ⟨b, 1, none⟩)) w3 := meth_p mPop ⟨b, 1, none⟩ w3 _ (by decide)
 clear hW3 hP3 hl3 hk3 hI3 hC3 hEl hEn hF HDC HSD
 go_wp2_with fail
 with_reducible refine HPO.out.mono ?_
 rintro r w4 ⟨rfl, v4, hW4, hC4, hN4⟩
 have HE := Lib.hid (show WB w4 base b sp mp v4 F ∧ Ch w w4 b (.slice (some ⟨g, 0, none⟩) (n + 1) cap) ∧ Nx w (.slice (some ⟨g, 0, none⟩) (n + 1) cap) v4 from ⟨hW4, HC3.out.trans hC4 (Nx.refl _ _), (Nx.refl w (.slice (some ⟨g, 0, none⟩) (n + 1) cap)).trans hN4 HC3.out.size⟩)
 clear hW4 hC4 hN4 hm3
 go_wp2_with fail
 go_ret
 exact ⟨v4, F, c, rfl, HE.out.1, HPF.out, HMIN.out, HIF.out, HE.out.2.1, HE.out.2.2⟩
end Go.Proofs.YtfckfjndnhjpoaaGreatDoor
end
