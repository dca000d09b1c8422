/-
  LAYER 12: the law GraphWalks of whatever history.
-/
import Derived.Test.YtfckfjndnhjpoaaGreatDoorRk
import Derived.Test.YtfckfjndnhjpoaaGreatDoorRn
import Derived.Test.YtfckfjndnhjpoaaGreatDoorQa
set_option linter.unusedVariables false
set_option linter.unusedSimpArgs false
set_option maxHeartbeats 8000000
set_option maxRecDepth 100000
namespace Go.Proofs.YtfckfjndnhjpoaaGreatDoor
open Go.RowKit
theorem walks_no (hKN : KnT) (w : World) (sv lo lf lc : Value) (S : List Sd) (O F C : List UInt8) (h : SdsAt w sv S) (hl : S.length ≤ maxLen) (hO : ByAt w lo O) (hF : ByAt w lf F) (hC : ByAt w lc C) (hk : S2.KIn w) (hn : ¬ (goodG S ∧ O.length ≤ 10 ∧ F.length ≤ 10 ∧ C.length ≤ 10)) :
  Calls Tryz.prog 4 #[.agg #[sv, lo, lf, lc]] w fun r w' => r = .returned (.bool true) ∧ Below w.heap.size w w' := by
 have HFE := Lib.hid (fun W (hb : Below w.heap.size w W) => lawfew_no W sv lo lf lc S O F C (h.below hb) hl (hO.below hb) (hF.below hb) (hC.below hb) hn)
 unfold FewN at HFE
 have HK := Lib.hid hk
 have HKN := Lib.hid hKN
 obtain ⟨ao, cap, rfl⟩ := h.form
 obtain ⟨oo, oc, rfl⟩ := hO.form
 obtain ⟨fo, fc, rfl⟩ := hF.form
 obtain ⟨co, cc, rfl⟩ := hC.form
 have HB1 := Lib.hid (below_new w (.cells #[.slice ao S.length cap, .slice oo O.length oc, .slice fo F.length fc, .slice co C.length cc] 25))
 have HR1 := Lib.hid (row_news (heap_alloc_new w (.cells #[.slice ao S.length cap, .slice oo O.length oc, .slice fo F.length fc, .slice co C.length cc] 25)))
 clear h hO hF hC hn hk hKN
 go_enter Tryz.func4, Tryz.ntmps4
 go_wp2_with ((with_reducible refine ld_hi (c := [.slice ao S.length cap, .slice oo O.length oc, .slice fo F.length fc, .slice co C.length cc]) (x := .tmp 1) (p := ⟨w.heap.size, 0, none⟩) ?_ ?_ ?_ HR1.out ?_ ?_); rfl; rfl; rfl; rfl)
 refine (HFE.out _ HB1.out).mono ?_
 rintro r w3 ⟨rfl, hb3⟩
 have hb4 := hb3.alloc hb3.size (.cells #[.slice none 0 0] 28)
 have HB4 := Lib.hid (HB1.out.trans (hb4.mono HB1.out.size))
 have HKN4 := Lib.hid (HKN.out _ (HK.out.step HB4.out))
 clear hb3 hb4 HFE HKN
 go_wp2_with fail
 refine HKN4.out.mono ?_
 rintro r w5 ⟨rfl, hb5⟩
 have HB5 := Lib.hid (HB4.out.trans (hb5.mono HB4.out.size))
 clear hb5 HKN4
 go_wp2_with fail
 go_ret
 exact ⟨rfl, HB5.out⟩
theorem walks_yes (hKN : KnT) (w : World) (sv lo lf lc : Value) (S : List Sd) (O F C : List UInt8) (h : SdsAt w sv S) (hl : S.length ≤ maxLen) (hO : ByAt w lo O) (hF : ByAt w lf F) (hC : ByAt w lc C) (hk : S2.KIn w) (hg : goodG S) (hOn : O.length ≤ 10) (hFn : F.length ≤ 10) (hCn : C.length ≤ 10) :
  Calls Tryz.prog 4 #[.agg #[sv, lo, lf, lc]] w fun r w' => r = .returned (.bool true) ∧ Below w.heap.size w w' := by
 have HFE := Lib.hid (fun W (hb : Below w.heap.size w W) => lawfew_yes W sv lo lf lc S O F C (h.below hb) hl hg (hO.below hb) (hF.below hb) (hC.below hb) hOn hFn hCn)
 have HNM := Lib.hid (fun W (hb : Below w.heap.size w W) => named_any W sv lo lf lc S (h.below hb) hg)
 have HIF := Lib.hid (fun W (hb : Below w.heap.size w W) (iv : Value) (I : List (List UInt8)) (hI : IdsAt W iv I) (hIl : ∀ i ∈ I, i.length = 32) (hIn : I.length ≤ 24) => lawIds_any W iv lf I F hI hIl (by omega) (hF.below hb) hFn)
 have HIC := Lib.hid (fun W (hb : Below w.heap.size w W) (iv : Value) (I : List (List UInt8)) (hI : IdsAt W iv I) (hIl : ∀ i ∈ I, i.length = 32) (hIn : I.length ≤ 24) => lawIds_any W iv lc I C hI hIl (by omega) (hC.below hb) hCn)
 unfold FewY at HFE
 have HK := Lib.hid hk
 have HKN := Lib.hid hKN
 have hz24 := (zero_of_info zero24).1
 obtain ⟨ao, cap, rfl⟩ := h.form
 obtain ⟨oo, oc, rfl⟩ := hO.form
 obtain ⟨fo, fc, rfl⟩ := hF.form
 obtain ⟨co, cc, rfl⟩ := hC.form
 have HB1 := Lib.hid (below_new w (.cells #[.slice ao S.length cap, .slice oo O.length oc, .slice fo F.length fc, .slice co C.length cc] 25))
 have HH1 := Lib.hid (heap_alloc_new w (.cells #[.slice ao S.length cap, .slice oo O.length oc, .slice fo F.length fc, .slice co C.length cc] 25))
 have HR1 := Lib.hid (row_news HH1.out)
 have hz1 : (w.alloc (.cells #[.slice ao S.length cap, .slice oo O.length oc, .slice fo F.length fc, .slice co C.length cc] 25)).heap.size = w.heap.size + 1 := by simp
 clear h hO hF hC hk hKN hg
 go_enter Tryz.func4, Tryz.ntmps4
 go_wp2_with ((with_reducible refine ld_hi (c := [.slice ao S.length cap, .slice oo O.length oc, .slice fo F.length fc, .slice co C.length cc]) (x := .tmp 1) (p := ⟨w.heap.size, 0, none⟩) ?_ ?_ ?_ HR1.out ?_ ?_); rfl; rfl; rfl; rfl)
 refine (HFE.out _ HB1.out).mono ?_
 rintro r w3 ⟨mv, L, B, kk, rfl, hD, hL, hb3⟩
 obtain ⟨mo, mc, rfl⟩ := hD.form
 have hb4 := hb3.alloc hb3.size (.cells #[.slice mo L.length mc] 28)
 have HB4 := Lib.hid (HB1.out.trans (hb4.mono HB1.out.size))
 have HH4 := Lib.hid ((hb4.block w.heap.size (by omega)).trans HH1.out)
 have HM4 := Lib.hid (heap_alloc_new w3 (.cells #[.slice mo L.length mc] 28))
 have HD4 := Lib.hid (hD.below (below_new w3 (.cells #[.slice mo L.length mc] 28)))
 have HK4 := Lib.hid (HK.out.step HB4.out)
 have HOF := Lib.hid (of_any _ _ L HD4.out.old HK4.out)
 clear hb3 hb4 HFE HB1 HH1 HR1 hD HK
 go_wp2_with fail
 refine HOF.out.mono ?_
 rintro r w5 ⟨b, v', rfl, hbge, hP, hb5⟩
 have HW5 := Lib.hid (show Lw w w5 [.slice ao S.length cap, .slice oo O.length oc, .slice fo F.length fc, .slice co C.length cc] w3.heap.size b (.slice mo L.length mc) v' L B kk from
  ⟨HB4.out.trans (hb5.mono HB4.out.size), HK4.out.step hb5, (hb5.block _ (Array.getElem?_eq_some_iff.1 HH4.out).1).trans HH4.out, (hb5.block _ (Array.getElem?_eq_some_iff.1 HM4.out).1).trans HM4.out, HD4.out.below hb5, hP⟩)
 have HR5 := Lib.hid (row_news HW5.out.hist)
 clear hb5 HOF HB4 HH4 HM4 HD4 HK4 hP hbge hz1
 go_wp2_with ((with_reducible refine ld_hi (c := [.slice ao S.length cap, .slice oo O.length oc, .slice fo F.length fc, .slice co C.length cc]) (x := .tmp 1) (p := ⟨w.heap.size, 0, none⟩) ?_ ?_ ?_ HR5.out ?_ ?_); rfl; rfl; rfl; rfl)
 refine (HNM.out _ HW5.out.bel).mono ?_
 rintro r w6 ⟨iv, I, rfl, hI, hIl, hIn, hb6⟩
 have HW6 := Lib.hid (HW5.out.below hb6)
 have HI := Lib.hid hI
 have HIL := Lib.hid hIl
 have e2 : w6.cell? ⟨w.heap.size, 2, none⟩ = some (.slice fo F.length fc) := by rw [cell_of_row _ _ 2 _ _ _ HW6.out.hist]; rfl
 clear hb6 HNM HW5 HR5 hI hIl
 go_wp2_with fail
 refine (HIF.out _ HW6.out.bel iv I HI.out HIL.out hIn).mono ?_
 rintro r w7 ⟨fv, J, rfl, hJ, hJn, hb7⟩
 have HW7 := Lib.hid (HW6.out.below hb7)
 have HI7 := Lib.hid (RowsAt.below HI.out hb7)
 obtain ⟨jo, jc, rfl⟩ := hJ.form
 have HJ7 := Lib.hid hJ.rows
 have HJL := Lib.hid hJ.len
 have e3 : w7.cell? ⟨w.heap.size, 3, none⟩ = some (.slice co C.length cc) := by rw [cell_of_row _ _ 3 _ _ _ HW7.out.hist]; rfl
 clear hb7 HIF HW6 HI hJ e2
 go_wp2_with fail
 refine (HIC.out _ HW7.out.bel iv I HI7.out HIL.out hIn).mono ?_
 rintro r w8 ⟨cv, G, rfl, hG, hGn, hb8⟩
 have HW8 := Lib.hid (HW7.out.below hb8)
 have HJ8 := Lib.hid (RowsAt.below HJ7.out hb8)
 have HG8 := Lib.hid hG.rows
 have HGL := Lib.hid hG.len
 obtain ⟨go_, gc, rfl⟩ := hG.form
 have HWA := Lib.hid (fun W (hb : Below w8.heap.size w8 W) => walk_any W b b v' (.slice jo J.length jc) (.slice go_ G.length gc) L J G (HW8.out.below hb).pst (dst_dec HW8.out.dst) (RowsAt.below HJ8.out hb) HJL.out (by omega) (RowsAt.below HG8.out hb) HGL.out (by omega))
 have HWB := Lib.hid (fun W (hb : Below w8.heap.size w8 W) => R.refwalk_any B kk W (.slice mo L.length mc) (.slice jo J.length jc) (.slice go_ G.length gc) L J G (HW8.out.below hb).dst (RowsAt.below HJ8.out hb) HJL.out (by omega) (RowsAt.below HG8.out hb) HGL.out (by omega))
 have HMW := Lib.hid (show ∀ W', Below w8.heap.size w8 W' → W'.cell? ⟨w3.heap.size, 0, none⟩ = some (.slice mo L.length mc) from fun W' hb => (HW8.out.below hb).m0)
 have HAS := Lib.hid (Gr.ah_asy L)
 clear hb8 HIC HW7 HI7 HJ7 hG HIL e3
 go_wp2_with fail
 refine wp_region_noPanic ?_
 refine wp_region_held_drew (S := (fun w' => Below w8.heap.size w8 w')) (by kernel_rfl) (below_drewed _) (fun hH => ?_)
 refine tk (i := 0) (v := ?_) ?_ ?_
 rotate_left
 · intro w' hSw; go_simp; try rfl
 try simp only [q0]
 refine tk (i := 1) (v := ?_) ?_ ?_
 rotate_left
 · intro w' hSw; go_simp; try rfl
 try simp only [q0]
 refine tk (i := 2) (v := ?_) ?_ ?_
 rotate_left
 · intro w' hSw; go_simp; try rfl
 try simp only [q0]
 refine tk (i := 4) (v := ?_) ?_ ?_
 rotate_left
 · intro w' hSw; have q0 := HMW.out _ hSw; go_simp; try rfl
 try simp only [q0]
 refine tk (i := 5) (v := ?_) ?_ ?_
 rotate_left
 · intro w' hSw; go_simp; try rfl
 try simp only [q0]
 refine tk (i := 6) (v := ?_) ?_ ?_
 rotate_left
 · intro w' hSw; go_simp; try rfl
 try simp only [q0]
 refine wpAnyH_ready (rs := [3]) (by kernel_rfl) (by simp) ?_
 refine AllReadyH.cons rfl (fun K hK => ?_) AllReadyH.nil
 go_simp
 with_reducible refine (HWA.out _ (below_drewed _)).mono ?_
 rintro r w9 ⟨rv, R, rfl, hR, hRl, hRn, hWk, hb9⟩
 have hS3 := (below_drewed w8).trans hb9
 have HR9 := Lib.hid hR
 have HRL := Lib.hid hRl
 have HWK := Lib.hid hWk
 clear hR hRl hWk hb9
 go_wp2_with fail
 refine hK.out _ _ hS3 (fun _ => ?_)
 clear hK K
 try simp only [q0]
 refine wpAnyH_ready (rs := [7]) (by kernel_rfl) (by simp) ?_
 refine AllReadyH.cons rfl (fun K hK => ?_) AllReadyH.nil
 go_simp
 with_reducible refine (HWB.out _ hS3).mono ?_
 rintro r wa ⟨ov, hex⟩
 obtain ⟨R2, rfl, hO2, hWk2, hba⟩ := hex
 have eR : R2 = R := hWk2.same HAS.out HWK.out
 subst eR
 have hS7 := hS3.trans (hba.mono hS3.size)
 have HRa := Lib.hid (show IdsAt wa rv R2 from RowsAt.below HR9.out hba)
 have HO2 := Lib.hid (show IdsAt wa ov R2 from hO2.rows)
 clear hO2 hWk2 hba HR9 HWK
 go_wp2_with fail
 refine hK.out _ _ hS7 (fun _ => ?_)
 clear hK K
 try simp only [q0]
 refine wpAnyH_ready (rs := [8]) (by kernel_rfl) (by simp) ?_
 refine AllReadyH.cons rfl (fun K hK => ?_) AllReadyH.nil
 go_simp
 with_reducible refine (sameids2_any wa rv ov R2 HRa.out HO2.out HRL.out (by omega)).mono ?_
 rintro r wb ⟨rfl, hbb⟩
 have hS8 := hS7.trans (hbb.mono hS7.size)
 clear hbb HRa HO2
 go_wp2_with fail
 refine hK.out _ _ hS8 (fun _ => ?_)
 clear hK K
 try simp only [q0]
 refine tk (i := 9) (v := ?_) ?_ ?_
 rotate_left
 · intro w' hSw; go_simp; try rfl
 try simp only [q0]
 refine wpAnyH_done (by kernel_rfl) ?_ _
 refine NoPanic.normal ?_
 have HWL := Lib.hid (HW8.out.below hS8)
 have HKW := Lib.hid (HKN.out wb HWL.out.kin)
 clear hS8 hS7 hS3 HW8 HWA HWB HMW HJ8 HG8
 go_wp2_with fail
 refine HKW.out.mono ?_
 rintro r w14 ⟨rfl, hb14⟩
 have HW14 := Lib.hid (HWL.out.below hb14)
 clear hb14 HKW
 go_wp2_with fail
 go_ret
 exact ⟨rfl, HW14.out.bel⟩
theorem walks_law (w : World) (sv lo lf lc : Value) (S : List Sd) (O F C : List UInt8) (h : SdsAt w sv S) (hl : S.length ≤ maxLen) (hO : ByAt w lo O) (hF : ByAt w lf F) (hC : ByAt w lc C) (hk : S2.KIn w) :
  Calls Tryz.prog 4 #[.agg #[sv, lo, lf, lc]] w fun r w' => r = .returned (.bool true) ∧ Below w.heap.size w w' := by
 by_cases hg : goodG S ∧ O.length ≤ 10 ∧ F.length ≤ 10 ∧ C.length ≤ 10
 · exact walks_yes knows_kn w sv lo lf lc S O F C h hl hO hF hC hk hg.1 hg.2.1 hg.2.2.1 hg.2.2.2
 · exact walks_no knows_kn w sv lo lf lc S O F C h hl hO hF hC hk hg
end Go.Proofs.YtfckfjndnhjpoaaGreatDoor
