/-
  WALKS OF LAYER 11: StoreApart, the long arm.
-/
import Derived.Test.YtipigedopmgemaaDoorStLaw
namespace Go.Proofs.YtipigedopmgemaaDoor
open Go.RowKit
set_option linter.unusedVariables false
set_option linter.unusedSimpArgs false

set_option maxHeartbeats 4000000 in
set_option maxRecDepth 100000 in
theorem apart_main (w : World) (v : Value) (S : List Sd) (more : ByteArray) (h : SdsAt w v S) (hl : S.length ≤ maxLen) (hk : S2.KIn w) (hg : goodS S) (hm : more.size ≤ 500) :
    Calls Tryd.prog 3 #[v, .string more] w fun r w' => r = .returned (.bool true) ∧ Below w.heap.size w w' := by
  have HF := Lib.hid (few_sds w v S h hl)
  rw [show decide (goodS S) = true from decide_eq_true hg] at HF
  have HK := Lib.hid hk
  have HH := Lib.hid h
  have HG := Lib.hid hg
  have hm' : ¬ (500 : Int) < (more.size : Int) := by omega
  clear h hg hk
  go_enter Tryd.func3, Tryd.ntmps3
  go_wp2_with fail
  refine HF.out.mono ?_
  rintro r w1 ⟨rfl, hb1⟩
  have HB1 := Lib.hid hb1
  have HGR := Lib.hid (grow_any w1 v S (HH.out.below hb1) HG.out)
  clear hb1 HF
  go_wp2_with fail
  refine HGR.out.mono ?_
  rintro r w2 ⟨sv, iv, L, rfl, hd2, hl20, hb2⟩
  obtain ⟨so, sc, rfl⟩ := hd2.form
  obtain ⟨pid, L', e, ok, hpl, hl21, heo, hpt, hwt⟩ := more_any L more hm hl20
  have HPT := Lib.hid hpt
  have HWT := Lib.hid hwt
  have HPL := Lib.hid hpl
  have HEO := Lib.hid heo
  have HX3 := Lib.hid (heap_alloc_new w2 (.cells #[.slice so L.length sc] 27))
  have HB2 := Lib.hid (HB1.out.trans (hb2.mono HB1.out.size))
  have HB3 := Lib.hid (HB2.out.trans ((below_new w2 (.cells #[.slice so L.length sc] 27)).mono HB2.out.size))
  have HD3 := Lib.hid (hd2.below (below_new w2 (.cells #[.slice so L.length sc] 27)))
  have hz3 : (w2.alloc (.cells #[.slice so L.length sc] 27)).heap.size = w2.heap.size + 1 := by simp
  have HOF := Lib.hid (of_any _ _ L HD3.out (HK.out.step HB3.out))
  clear hb2 hd2 hpt hwt hpl heo HGR HB1 HB2
  go_wp2_with fail
  change Calls _ _ _ (w2.alloc (.cells #[.slice so L.length sc] 27)) _
  generalize w2.alloc (.cells #[.slice so L.length sc] 27) = W3 at *
  refine HOF.out.mono ?_
  rintro r w4 ⟨b8, v8, rfl, hb8, hp4, hb4⟩
  have HB4 := Lib.hid (HB3.out.trans (hb4.mono HB3.out.size))
  have HX4 := Lib.hid ((hb4.block w2.heap.size (by omega)).trans HX3.out)
  have HD4 := Lib.hid (HD3.out.below hb4)
  have HK4 := Lib.hid (HK.out.step HB4.out)
  have HP4 := Lib.hid hp4
  have hn3 := HB3.out.size
  have hlt4 : w2.heap.size < w4.heap.size := (Array.getElem?_eq_some_iff.1 HX4.out).1
  have HNEW := Lib.hid (new_any w4)
  have HP9 := Lib.hid (new_st w4)
  have HB5 := Lib.hid (below_new w4 (.cells #[.slice none 0 0] 65))
  clear HOF hp4 hb4 HX3 HD3 HB3
  go_wp2_with fail
  refine HNEW.out.mono ?_
  rintro r w5 ⟨rfl, rfl⟩
  have HX5 := Lib.hid ((HB5.out.block w2.heap.size hlt4).trans HX4.out)
  generalize w4.alloc (.cells #[.slice none 0 0] 65) = W5 at *
  have c5 : W5.cell? ⟨w2.heap.size, 0, none⟩ = some (.slice so L.length sc) := by rw [cell_of_row _ _ 0 _ _ _ HX5.out]; rfl
  clear HNEW
  go_wp2_with fail
  go_loopw [10] (fun i wr => ∃ (k : Nat) (v9 : Value) (z : Int), k ≤ L.length ∧ i = .int .i64 z ∧ z + 1 = (k : Int) ∧ Hid (PSt wr w4.heap.size w4.heap.size v9 (L.drop k)) ∧ Hid (Below w4.heap.size w4 wr)) (fun i _ => (intOf i + 1).toNat)
  case atStart => exact ⟨L.length, _, (L.length : Int) - 1, by omega, by go_num, by omega, by rw [List.drop_length]; exact HP9.out, HB5.out⟩
  case round =>
    obtain ⟨k, v9, z, hkL, rfl, hz, HP9, HBQ⟩ := hrel
    have HXA := Lib.hid ((HBQ.out.block w2.heap.size hlt4).trans HX4.out)
    have cA : wr.cell? ⟨w2.heap.size, 0, none⟩ = some (.slice so L.length sc) := by rw [cell_of_row _ _ 0 _ _ _ HXA.out]; rfl
    clear c5
    by_cases hk1 : 1 ≤ k
    · obtain ⟨j, rfl⟩ : ∃ j, k = j + 1 := ⟨k - 1, by omega⟩
      obtain rfl : z = (j : Int) := by omega
      have hj0 : (0 : Int) ≤ (j : Int) := by omega
      have hjl : (j : Int) < (L.length : Int) := by omega
      obtain ⟨x, hx⟩ : ∃ x, L[j]? = some x := ⟨L[j]'(by omega), List.getElem?_eq_getElem (by omega)⟩
      have HPUT := Lib.hid (put_prev HD4.out hx HP9.out (HK4.out.step HBQ.out))
      obtain ⟨a, rfl, _, ct⟩ := (HD4.out.below HBQ.out).out j x hx
      have hA1 := add_block a (j * 105)
      have hA2 : (a.add (j * 105)).off = a.off + j * 105 := by unfold Addr.add; split <;> simp_all
      clear hx
      go_wp2_with fail
      refine HPUT.out.mono ?_
      rintro r w6 ⟨rfl, v6, hp6, hb6⟩
      have HP6 := Lib.hid hp6
      have HB6 := Lib.hid (HBQ.out.trans hb6)
      clear hp6 hb6 HPUT
      go_wp2_with fail
      go_roundw
      case rel => exact ⟨j, _, (j : Int) - 1, by omega, by go_num, by omega, HP6.out, HB6.out⟩
      case measure => simp [intOf]
    · obtain rfl : k = 0 := by omega
      have hge : ¬ (0 : Int) ≤ z := by omega
      have HPB := Lib.hid (show PSt wr w4.heap.size w4.heap.size v9 L from by simpa using HP9.out)
      have HP8 := Lib.hid (HP4.out.below HBQ.out)
      have HDA := Lib.hid (HD4.out.below HBQ.out)
      have HAS1 := Lib.hid (as_any wr b8 b8 v8 _ L HP8.out HDA.out)
      clear hz HP9
      go_wp2_with fail
      refine HAS1.out.mono ?_
      rintro r w7 ⟨rfl, hb7⟩
      have HX7 := Lib.hid ((hb7.block w2.heap.size (Array.getElem?_eq_some_iff.1 HXA.out).1).trans HXA.out)
      have c7 : w7.cell? ⟨w2.heap.size, 0, none⟩ = some (.slice so L.length sc) := by rw [cell_of_row _ _ 0 _ _ _ HX7.out]; rfl
      have HP87 := Lib.hid (HP8.out.below hb7)
      have HD7 := Lib.hid (HDA.out.below hb7)
      have HBQ7 := Lib.hid (HBQ.out.trans (hb7.mono HBQ.out.size))
      have HAS2 := Lib.hid (as_any w7 w4.heap.size w4.heap.size v9 _ L (HPB.out.below hb7) HD7.out)
      clear hb7 HAS1 cA HXA HPB HP8 HDA HBQ
      go_wp2_with fail
      refine HAS2.out.mono ?_
      rintro r w8 ⟨rfl, hb8'⟩
      have HX8 := Lib.hid ((hb8'.block w2.heap.size (Array.getElem?_eq_some_iff.1 HX7.out).1).trans HX7.out)
      have HP88 := Lib.hid (HP87.out.below hb8')
      have HD8 := Lib.hid (HD7.out.below hb8')
      have HBQ8 := Lib.hid (HBQ7.out.trans (hb8'.mono HBQ7.out.size))
      have HCP := Lib.hid (copy_any w8 b8 b8 v8 L HP88.out)
      clear hb8' HAS2 c7 HX7 HP87 HD7 HBQ7
      go_wp2_with fail
      refine HCP.out.mono ?_
      rintro r w9 ⟨bc, vc, rfl, hpc, hb9⟩
      have HX9 := Lib.hid ((hb9.block w2.heap.size (Array.getElem?_eq_some_iff.1 HX8.out).1).trans HX8.out)
      have HP89 := Lib.hid (HP88.out.below hb9)
      have HD9 := Lib.hid (HD8.out.below hb9)
      have HBQ9 := Lib.hid (HBQ8.out.trans (hb9.mono HBQ8.out.size))
      have HPC := Lib.hid hpc
      have HPM := Lib.hid (HPT.out w9 b8 b8 v8 HP89.out (HK4.out.step HBQ9.out) (Nat.le_of_lt HP89.out.lt))
      have hown : ∀ g, v8.ownBlock = some g → g < w8.heap.size := fun g e => (HP88.out.own.lt g e).2
      have hb8lt : b8 < w8.heap.size := HP88.out.lt
      clear hb9 HCP hpc HX8 HD8 HBQ8
      go_wp2_with fail
      refine HPM.out.mono ?_
      rintro r w10 ⟨rfl, v10, hp10, hk10⟩
      have HB9 := Lib.hid (HB4.out.trans (HBQ9.out.mono HB4.out.size))
      have HB10 := Lib.hid (HB9.out.trans ((hk10.below HP89.out).mono (by omega)))
      have HB11 := Lib.hid (HB10.out.trans ((below_new w10 (.cells (idC pid).toArray 35)).mono HB10.out.size))
      have HK11 := Lib.hid (HK.out.step HB11.out)
      have hx10 := box_afterKept HX9.out HP89.out hk10
      have HX11 := Lib.hid (((below_new w10 (.cells (idC pid).toArray 35)).block w2.heap.size (Array.getElem?_eq_some_iff.1 hx10).1).trans hx10)
      have HD11 := Lib.hid ((HD9.out.afterKept HP89.out hk10).below (below_new w10 (.cells (idC pid).toArray 35)))
      have HC11 := Lib.hid ((HPC.out.afterKept HP89.out hk10 hb8lt hown).below (below_new w10 (.cells (idC pid).toArray 35)))
      have HP11 := Lib.hid (hp10.below (below_new w10 (.cells (idC pid).toArray 35)))
      have HW := Lib.hid (HWT.out _ _ HD11.out)
      have c11 : (w10.alloc (.cells (idC pid).toArray 35)).cell? ⟨w2.heap.size, 0, none⟩ = some (.slice so L.length sc) := by rw [cell_of_row _ _ 0 _ _ _ HX11.out]; rfl
      clear hp10 hk10 hx10 HPC HP89 HD9 HX9 HBQ9 HB10 HB9 HPM HPT HWT hown HB4 HX4 HD4 HK4 HP4
      go_wp2_with ((with_reducible refine st_id2 (l := pid) (x := .tmp 14) (y := .tmp 82) (g := w10.heap.size) ?_ ?_ ?_ ?_ ?_ ?_ HPL.out ?_); rfl; rfl; rfl; rfl; rfl; rfl)
      change Calls _ _ _ (w10.alloc (.cells (idC pid).toArray 35)) _
      generalize w10.alloc (.cells (idC pid).toArray 35) = W11 at *
      refine HW.out.mono ?_
      rintro r w12 ⟨v16, rfl, hd12, hb12⟩
      obtain ⟨vo, vd, rfl⟩ := hd12.form
      have hz12 : (w12.alloc (.cells #[.slice vo L'.length vd] 27)).heap.size = w12.heap.size + 1 := by simp
      have HZ12 := Lib.hid hz12.symm
      have hb13 := below2 w12 (.cells #[.slice vo L'.length vd] 27) (.cells (idC pid).toArray 35)
      have hx16 : ((w12.alloc (.cells #[.slice vo L'.length vd] 27)).alloc (.cells (idC pid).toArray 35)).heap[w12.heap.size]? = some (.cells #[.slice vo L'.length vd] 27) := ((below_new (w12.alloc (.cells #[.slice vo L'.length vd] 27)) (.cells (idC pid).toArray 35)).block w12.heap.size (by simp)).trans (heap_alloc_new w12 _)
      have c16 : ((w12.alloc (.cells #[.slice vo L'.length vd] 27)).alloc (.cells (idC pid).toArray 35)).cell? ⟨w12.heap.size, 0, none⟩ = some (.slice vo L'.length vd) := by rw [cell_of_row _ _ 0 _ _ _ hx16]; rfl
      have hb1113 : Below W11.heap.size W11 ((w12.alloc (.cells #[.slice vo L'.length vd] 27)).alloc (.cells (idC pid).toArray 35)) := hb12.trans (hb13.mono hb12.size)
      have HX13 := Lib.hid ((hb1113.block w2.heap.size (Array.getElem?_eq_some_iff.1 HX11.out).1).trans HX11.out)
      have HD13 := Lib.hid (HD11.out.below hb1113)
      have HC13 := Lib.hid (HC11.out.below hb1113)
      have HB13 := Lib.hid (HB11.out.trans (hb1113.mono HB11.out.size))
      have HAS3 := Lib.hid (as_any _ b8 b8 v10 _ L' (HP11.out.below hb1113) (hd12.below hb13))
      clear hz12 hb13 hx16 hb1113 hd12 hb12 HW c11 HD11 HC11 HX11 HB11 HP11
      go_wp2_with ((with_reducible refine st_id2 (l := pid) (x := .tmp 17) (y := .tmp 89) (g := w12.heap.size + 1) ?_ ?_ ?_ ?_ ?_ HZ12.out HPL.out ?_); rfl; rfl; rfl; rfl; rfl)
      change Calls _ _ _ ((w12.alloc (.cells #[.slice vo L'.length vd] 27)).alloc (.cells (idC pid).toArray 35)) _
      generalize (w12.alloc (.cells #[.slice vo L'.length vd] 27)).alloc (.cells (idC pid).toArray 35) = W13 at *
      refine HAS3.out.mono ?_
      rintro r w14 ⟨rfl, hb14⟩
      have HX14 := Lib.hid ((hb14.block w2.heap.size (Array.getElem?_eq_some_iff.1 HX13.out).1).trans HX13.out)
      have c14 : w14.cell? ⟨w2.heap.size, 0, none⟩ = some (.slice so L.length sc) := by rw [cell_of_row _ _ 0 _ _ _ HX14.out]; rfl
      have HAS4 := Lib.hid (as_any w14 _ bc vc _ L (HC13.out.below hb14) (HD13.out.below hb14))
      have HB14 := Lib.hid (HB13.out.trans (hb14.mono HB13.out.size))
      clear hb14 HAS3 c16 HZ12 HX13 HD13 HC13 HB13
      go_wp2_with fail
      refine HAS4.out.mono ?_
      rintro r w15 ⟨rfl, hb15⟩
      have HB15 := Lib.hid (HB14.out.trans (hb15.mono HB14.out.size))
      have HPN := Lib.hid (put_nil more w15)
      clear hb15 HAS4 c14 HX14 HB14
      go_wp2_with fail
      refine HPN.out.mono ?_
      rintro r w16 ⟨rfl, hb16⟩
      have HB16 := Lib.hid (HB15.out.trans (hb16.mono HB15.out.size))
      have HB17 := Lib.hid (HB16.out.trans ((below_new w16 (.cells (idC zId).toArray 35)).mono HB16.out.size))
      have HGN := Lib.hid (fun W => get_nil zId W rfl)
      have HON := Lib.hid (fun W => object_nil zId W rfl)
      have hz28 := (zero_of_info zero28).1
      have HS0 := Lib.hid noF.size
      have HN0 := Lib.hid noF.one
      generalize (obC noOb nilV nilV).toArray = z0 at hz28 HS0 HN0 HON
      clear hb16 HB15 HPN HB16
      go_wp2_with (first
        | ((with_reducible refine bd_zid ?_ ?_ ?_); rfl; rfl)
        | ((with_reducible refine st_id2 (l := zId) (x := .tmp 22) (y := .tmp 103) (g := w16.heap.size) ?_ ?_ ?_ ?_ ?_ ?_ ?_ ?_); rfl; rfl; rfl; rfl; rfl; rfl; rfl))
      change Calls _ _ _ (w16.alloc (.cells (idC zId).toArray 35)) _
      generalize w16.alloc (.cells (idC zId).toArray 35) = W17 at *
      refine (HGN.out W17).mono ?_
      rintro r w18 ⟨rfl, hb18⟩
      have HB18 := Lib.hid (HB17.out.trans (hb18.mono HB17.out.size))
      clear hb18 HB17
      go_wp2_with ((with_reducible refine bd_zid ?_ ?_ ?_); rfl; rfl)
      refine (HON.out w18).mono ?_
      rintro r w19 ⟨rfl, hb19⟩
      have HB19 := Lib.hid (HB18.out.trans (hb19.mono HB18.out.size))
      have HB20 := Lib.hid (HB19.out.trans ((below_new w19 (.cells z0 42)).mono HB19.out.size))
      have HKN := Lib.hid (kn_true _ (HK.out.step HB20.out))
      have HKI := Lib.hid (fun W => kind_nil zId W rfl)
      have HLE := Lib.hid (fun W => len_nil W)
      have HID := Lib.hid (fun W => ids_nil W)
      have HCO := Lib.hid (fun W => copy_nil W)
      clear hb19 HB18 HGN HON
      go_wp2_with ((with_reducible apply st_ob (hs := HS0.out) (h1 := HN0.out)); rfl; rfl; rfl; rfl; exact HS0.out)
      refine HKN.out.mono ?_
      rintro r w21 ⟨rfl, hb21⟩
      have HB21 := Lib.hid (HB20.out.trans (hb21.mono HB20.out.size))
      clear hb21 HB20 HKN
      have heo := HEO.out
      clear HEO
      rcases heo with ⟨rfl, rfl⟩ | ⟨rfl, rfl⟩
      · go_wp2_with ((with_reducible refine bd_zid ?_ ?_ ?_); rfl; rfl)
        refine (HKI.out w21).mono ?_
        rintro r w22 ⟨rfl, hb22⟩
        have HB22 := Lib.hid (HB21.out.trans (hb22.mono HB21.out.size))
        clear hb22
        go_wp2_with fail
        refine (HLE.out _).mono ?_
        rintro r w23 ⟨rfl, rfl⟩
        go_wp2_with fail
        refine (HID.out _).mono ?_
        rintro r w24 ⟨rfl, rfl⟩
        go_wp2_with fail
        refine (HCO.out _).mono ?_
        rintro r w25 ⟨rfl, rfl⟩
        go_wp2_with fail
        go_ret
        exact ⟨rfl, HB22.out⟩
      · go_wp2_with ((with_reducible refine bd_zid ?_ ?_ ?_); rfl; rfl)
        refine (HKI.out w21).mono ?_
        rintro r w22 ⟨rfl, hb22⟩
        have HB22 := Lib.hid (HB21.out.trans (hb22.mono HB21.out.size))
        clear hb22
        go_wp2_with fail
        refine (HLE.out _).mono ?_
        rintro r w23 ⟨rfl, rfl⟩
        go_wp2_with fail
        refine (HID.out _).mono ?_
        rintro r w24 ⟨rfl, rfl⟩
        go_wp2_with fail
        refine (HCO.out _).mono ?_
        rintro r w25 ⟨rfl, rfl⟩
        go_wp2_with fail
        go_ret
        exact ⟨rfl, HB22.out⟩

theorem apart_any (w : World) (v : Value) (S : List Sd) (more : ByteArray) (h : SdsAt w v S) (hl : S.length ≤ maxLen) (hk : S2.KIn w) :
    Calls Tryd.prog 3 #[v, .string more] w fun r w' => r = .returned (.bool true) ∧ Below w.heap.size w w' := by
  by_cases hg : goodS S
  · by_cases hm : more.size ≤ 500
    · exact apart_main w v S more h hl hk hg hm
    · exact apart_long w v S more h hl hk hg (by omega)
  · exact apart_many w v S more h hl hk hg

end Go.Proofs.YtipigedopmgemaaDoor
