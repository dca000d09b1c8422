/-
  LAYER 13: the law DepthTells, walked.
-/
import Derived.Test.YtkcjhkfelaplkaaGreatDoorSi
import Derived.Test.YtkcjhkfelaplkaaGreatDoorSj
import Derived.Test.YtkcjhkfelaplkaaGreatDoorRa
import Derived.Test.YtkcjhkfelaplkaaGreatDoorQz
import Derived.Test.YtkcjhkfelaplkaaGreatDoorSf
import Derived.Test.YtkcjhkfelaplkaaGreatDoorQa
set_option linter.unusedVariables false
set_option linter.unusedSimpArgs false
set_option maxHeartbeats 8000000
set_option maxRecDepth 100000
section
namespace Go.Proofs.YtkcjhkfelaplkaaGreatDoor
open Go.RowKit
theorem Dp.up {O R : List (List UInt8 × Nat)} (hs : Dp.Sorted O) (hp : O.Perm R) (hn : (R.map Prod.fst).Nodup) (hl : ∀ d ∈ O, d.1.length = 32) : Gr.Up (O.map Prod.fst) := by
 refine Gr.up_of ((hp.map Prod.fst).nodup_iff.2 hn) (fun x hx => by obtain ⟨d, hd, rfl⟩ := List.mem_map.1 hx; exact hl d hd) ?_
 intro i j x y hij hx hy
 rw [List.getElem?_map] at hx hy
 cases hqx : O[i]? with
 | none => rw [hqx] at hx; cases hx
 | some a =>
   cases hqy : O[j]? with
   | none => rw [hqy] at hy; cases hy
   | some b =>
     rw [hqx] at hx; rw [hqy] at hy
     simp only [Option.map_some, Option.some.injEq] at hx hy
     rw [← hx, ← hy]
     exact hs i j a b hij hqx hqy
theorem Dp.up_filter {O : List (List UInt8 × Nat)} (h : Gr.Up (O.map Prod.fst)) (p : List UInt8 × Nat → Bool) : Gr.Up ((O.filter p).map Prod.fst) :=
 List.Pairwise.sublist ((List.filter_sublist).map Prod.fst) h
theorem Dp.deep_mem {most : Nat} {O R : List (List UInt8 × Nat)} (hp : O.Perm R) (x : List UInt8) : x ∈ Dp.deep most O ↔ x ∈ Dp.deep most R := ((hp.filter _).map Prod.fst).mem_iff
theorem Dp.shal_mem {pr : List UInt8 → List (List UInt8)} {most : Nat} {O R : List (List UInt8 × Nat)} (hp : O.Perm R) (x : List UInt8) : x ∈ Dp.shal pr most O ↔ x ∈ Dp.shal pr most R := ((hp.filter _).map Prod.fst).mem_iff
theorem Dp.at_perm {O R : List (List UInt8 × Nat)} (hn : (R.map Prod.fst).Nodup) (hp : O.Perm R) {d : List UInt8 × Nat} (hd : d ∈ O) : Dp.at R d.1 = d.2 := Dp.at_mem hn (hp.mem_iff.1 hd)
theorem dptells_no (w : World) (sv lo lf lc : Value) (nz : Int) (S : List Sd) (O F C : List UInt8) (h : SdsAt w sv S) (hl : S.length ≤ maxLen) (hO : ByAt w lo O) (hF : ByAt w lf F) (hC : ByAt w lc C) (hn : ¬ (goodG S ∧ O.length ≤ 10 ∧ F.length ≤ 10 ∧ C.length ≤ 10)) :
  Calls Tryz.prog 3 #[.agg #[sv, lo, lf, lc], .int .i64 nz] w fun r w' => r = .returned (.bool true) ∧ Below w.heap.size w w' := by
 have HFE := Lib.hid (fun W (hb : Below w.heap.size w W) => lawfew_no W sv lo lf lc S O F C (h.below hb) hl (hO.below hb) (hF.below hb) (hC.below hb) hn)
 unfold FewN at HFE
 obtain ⟨ao, cap, rfl⟩ := h.form
 obtain ⟨oo, oc, rfl⟩ := hO.form
 obtain ⟨fo, fc, rfl⟩ := hF.form
 obtain ⟨co, cc, rfl⟩ := hC.form
 have HB1 := Lib.hid (below_new w (.cells #[.slice ao S.length cap, .slice oo O.length oc, .slice fo F.length fc, .slice co C.length cc] 25))
 have HR1 := Lib.hid (row_news (heap_alloc_new w (.cells #[.slice ao S.length cap, .slice oo O.length oc, .slice fo F.length fc, .slice co C.length cc] 25)))
 clear h hO hF hC hn
 go_enter Tryz.func3, Tryz.ntmps3
 go_wp2_with ((with_reducible refine ld_hi (c := [.slice ao S.length cap, .slice oo O.length oc, .slice fo F.length fc, .slice co C.length cc]) (x := .tmp 2) (p := ⟨w.heap.size, 0, none⟩) ?_ ?_ ?_ HR1.out ?_ ?_); rfl; rfl; rfl; rfl)
 refine (HFE.out _ HB1.out).mono ?_
 rintro r w3 ⟨rfl, hb3⟩
 have hb4 := hb3.alloc hb3.size (.cells #[.slice none 0 0] 28)
 have HB4 := Lib.hid (HB1.out.trans (hb4.mono HB1.out.size))
 have HKN4 := Lib.hid (dpknows_any (w3.alloc (.cells #[.slice none 0 0] 28)))
 clear hb3 hb4 HFE
 go_wp2_with fail
 refine HKN4.out.mono ?_
 rintro r w5 ⟨rfl, hb5⟩
 have HB5 := Lib.hid (HB4.out.trans (hb5.mono HB4.out.size))
 clear hb5 HKN4
 go_wp2_with fail
 go_ret
 exact ⟨rfl, HB5.out⟩
theorem dptells_yes (w : World) (sv lo lf lc : Value) (nz : Int) (S : List Sd) (O F C : List UInt8) (h : SdsAt w sv S) (hl : S.length ≤ maxLen) (hO : ByAt w lo O) (hF : ByAt w lf F) (hC : ByAt w lc C) (hk : S2.KIn w) (hg : goodG S) (hOn : O.length ≤ 10) (hFn : F.length ≤ 10) (hCn : C.length ≤ 10) (hnz : 1 ≤ nz ∧ nz ≤ 1048576) :
  Calls Tryz.prog 3 #[.agg #[sv, lo, lf, lc], .int .i64 nz] w fun r w' => r = .returned (.bool true) ∧ Below w.heap.size w w' := by
 obtain ⟨most, rfl⟩ : ∃ most : Nat, nz = (most : Int) := ⟨nz.toNat, by omega⟩
 have hm1 : 1 ≤ most := by omega
 have hm2 : most ≤ 1048576 := by omega
 have hmA : ¬ (most : Int) < 1 := by omega
 have hmB : ¬ (1048576 : Int) < (most : Int) := by omega
 clear hnz
 have HFE := Lib.hid (fun W (hb : Below w.heap.size w W) => lawfew_yes W sv lo lf lc S O F C (h.below hb) hl hg (hO.below hb) (hF.below hb) (hC.below hb) hOn hFn hCn)
 have HNM := Lib.hid (fun W (hb : Below w.heap.size w W) => named_any W sv lo lf lc S (h.below hb) hg)
 have HIF := Lib.hid (fun W (hb : Below w.heap.size w W) (iv : Value) (I : List (List UInt8)) (hI : IdsAt W iv I) (hIl : ∀ i ∈ I, i.length = 32) (hIn : I.length ≤ 24) => lawIds_any W iv lf I F hI hIl (by omega) (hF.below hb) hFn)
 unfold FewY at HFE
 have HK := Lib.hid hk
 obtain ⟨ao, cap, rfl⟩ := h.form
 obtain ⟨oo, oc, rfl⟩ := hO.form
 obtain ⟨fo, fc, rfl⟩ := hF.form
 obtain ⟨co, cc, rfl⟩ := hC.form
 have HB1 := Lib.hid (below_new w (.cells #[.slice ao S.length cap, .slice oo O.length oc, .slice fo F.length fc, .slice co C.length cc] 25))
 have HH1 := Lib.hid (heap_alloc_new w (.cells #[.slice ao S.length cap, .slice oo O.length oc, .slice fo F.length fc, .slice co C.length cc] 25))
 have HR1 := Lib.hid (row_news HH1.out)
 have hz1 : (w.alloc (.cells #[.slice ao S.length cap, .slice oo O.length oc, .slice fo F.length fc, .slice co C.length cc] 25)).heap.size = w.heap.size + 1 := by simp
 clear h hO hF hC hk hg
 go_enter Tryz.func3, Tryz.ntmps3
 go_wp2_with ((with_reducible refine ld_hi (c := [.slice ao S.length cap, .slice oo O.length oc, .slice fo F.length fc, .slice co C.length cc]) (x := .tmp 2) (p := ⟨w.heap.size, 0, none⟩) ?_ ?_ ?_ HR1.out ?_ ?_); rfl; rfl; rfl; rfl)
 refine (HFE.out _ HB1.out).mono ?_
 rintro r w3 ⟨mv, L, B, kk, rfl, hD, hL, hb3⟩
 obtain ⟨mo, mc, rfl⟩ := hD.form
 have hb4 := hb3.alloc hb3.size (.cells #[.slice mo L.length mc] 28)
 have HB4 := Lib.hid (HB1.out.trans (hb4.mono HB1.out.size))
 have HH4 := Lib.hid ((hb4.block w.heap.size (by omega)).trans HH1.out)
 have HM4 := Lib.hid (heap_alloc_new w3 (.cells #[.slice mo L.length mc] 28))
 have HD4 := Lib.hid (hD.below (below_new w3 (.cells #[.slice mo L.length mc] 28)))
 have HK4 := Lib.hid (HK.out.step HB4.out)
 have HOF := Lib.hid (of_any _ _ L HD4.out.old HK4.out)
 clear hb3 hb4 HFE HB1 HH1 HR1 hD HK
 go_wp2_with fail
 refine HOF.out.mono ?_
 rintro r w5 ⟨b, v', rfl, hbge, hP, hb5⟩
 have HW5 := Lib.hid (show Lw w w5 [.slice ao S.length cap, .slice oo O.length oc, .slice fo F.length fc, .slice co C.length cc] w3.heap.size b (.slice mo L.length mc) v' L B kk from
  ⟨HB4.out.trans (hb5.mono HB4.out.size), HK4.out.step hb5, (hb5.block _ (Array.getElem?_eq_some_iff.1 HH4.out).1).trans HH4.out, (hb5.block _ (Array.getElem?_eq_some_iff.1 HM4.out).1).trans HM4.out, HD4.out.below hb5, hP⟩)
 have HHL := Lib.hid (show w.heap.size < w5.heap.size from (Array.getElem?_eq_some_iff.1 HW5.out.hist).1)
 have HRH := Lib.hid (show ∀ W' : World, (∀ q, q < w5.heap.size → W'.heap[q]? = w5.heap[q]?) → ∀ j u, ([.slice ao S.length cap, .slice oo O.length oc, .slice fo F.length fc, .slice co C.length cc] : List Value)[j]? = some u → W'.cell? ((⟨w.heap.size, 0, none⟩ : Addr).add j) = some u from fun W' hw => row_news ((hw _ HHL.out).trans HW5.out.hist))
 have HRF := Lib.hid (show ∀ W' : World, (∀ q, q < w5.heap.size → W'.heap[q]? = w5.heap[q]?) → W'.cell? ⟨w.heap.size, 2, none⟩ = some (.slice fo F.length fc) from fun W' hw => by
  rw [World.cell?_of_block (w := w5) (hw w.heap.size HHL.out), cell_of_row _ _ 2 _ _ _ HW5.out.hist]; rfl)
 clear hb5 HOF HB4 HH4 HM4 HD4 HK4 hP hbge hz1
 go_wp2_with fail
 refine wp_region_noPanic ?_
 refine wp_region_held_drew (S := (fun w' => ∀ q, q < w5.heap.size → w'.heap[q]? = w5.heap[q]?)) (by kernel_rfl) (fun q _ => rfl) (fun hH => ?_)
 refine wpAnyH_take (i := 0) rfl (by kernel_rfl) (by kernel_rfl) (by kernel_rfl) (fun _ _ _ h => h) (yields_at (p := ⟨w.heap.size, 0, none⟩) (cs := [.slice ao S.length cap, .slice oo O.length oc, .slice fo F.length fc, .slice co C.length cc]) (by rfl) rfl rfl (fun w' hw' => HRH.out w' hw') hi_under rfl hi_size) (by assumption) ?_
 try simp only [q0]
 refine tk (i := 2) (v := ?_) ?_ ?_
 rotate_left
 · intro w' hSw; go_simp; try rfl
 try simp only [q0]
 refine tk (i := 3) (v := ?_) ?_ ?_
 rotate_left
 · intro w' hSw; have q0 := HRF.out _ hSw; go_simp; try rfl
 try simp only [q0]
 refine wpAnyH_ready (rs := [1]) (by kernel_rfl) (by simp) ?_
 refine AllReadyH.cons rfl (fun K hK => ?_) AllReadyH.nil
 go_simp
 with_reducible refine (HNM.out _ HW5.out.bel.drew).mono ?_
 rintro r w6 ⟨iv, I, rfl, hI, hIl, hIn, hb6⟩
 have HB6 := Lib.hid (show Below w5.heap.size w5 w6 from (Below.refl _ w5).drew.trans hb6)
 have HI := Lib.hid hI
 have HIL := Lib.hid hIl
 clear hb6 HNM hI hIl
 go_wp2_with fail
 refine hK.out _ _ (fun g hg => HB6.out.block g hg) (fun _ => ?_)
 clear hK K
 try simp only [q0]
 refine wpAnyH_ready (rs := [4]) (by kernel_rfl) (by simp) ?_
 refine AllReadyH.cons rfl (fun K hK => ?_) AllReadyH.nil
 go_simp
 with_reducible refine (HIF.out w6 (HW5.out.below HB6.out).bel iv I HI.out HIL.out hIn).mono ?_
 rintro r w7 ⟨fv, J, rfl, hJ, hJn, hb7⟩
 have HB7 := Lib.hid (HB6.out.trans (hb7.mono HB6.out.size))
 have HW7 := Lib.hid ((HW5.out.below HB6.out).below hb7)
 obtain ⟨jo, jc, rfl⟩ := hJ.form
 have HJ7 := Lib.hid hJ.rows
 have HJL := Lib.hid hJ.len
 clear hb7 HIF hJ
 go_wp2_with fail
 refine hK.out _ _ (fun g hg => HB7.out.block g hg) (fun _ => ?_)
 clear hK K
 try simp only [q0]
 refine tk (i := 5) (v := ?_) ?_ ?_
 rotate_left
 · intro w' hSw; go_simp; try rfl
 try simp only [q0]
 refine wpAnyH_done (by kernel_rfl) ?_ _
 refine NoPanic.normal ?_
 have HDE := Lib.hid (dst_dec HW7.out.dst)
 have hL100 : L.length ≤ 100 := by omega
 have hJ100 : J.length ≤ 100 := by omega
 have HOF := Lib.hid (dpof_any w7 b b most v' (.slice jo J.length jc) L J HW7.out.pst HDE.out HJ7.out HJL.out hJ100 hL100 hm1 hm2)
 have HBO := Lib.hid (fun (W : World) (hb : Below w7.heap.size w7 W) => dpbound_any W b b most v' (.slice jo J.length jc) L J (HW7.out.below hb).pst HDE.out (RowsAt.below HJ7.out hb) HJL.out hJ100 hL100 hm1 hm2)
 have HRO := Lib.hid (fun (W : World) (hb : Below w7.heap.size w7 W) => refof_any B kk W (.slice mo L.length mc) (.slice jo J.length jc) L J most (HW7.out.below hb).dst (RowsAt.below HJ7.out hb) HJL.out hJ100 hL100 hm2)
 have HRB := Lib.hid (fun (W : World) (hb : Below w7.heap.size w7 W) => refbound_any B kk W (.slice mo L.length mc) (.slice jo J.length jc) L J most (HW7.out.below hb).dst (RowsAt.below HJ7.out hb) HJL.out hJ100 hL100 hm2)
 have HMB := Lib.hid (fun (W : World) (hb : Below w7.heap.size w7 W) => (HW7.out.below hb).m0)
 unfold OfP at HOF
 unfold BoundP at HBO
 unfold RefOfP at HRO
 unfold RefBoundP at HRB
 clear HB6 HB7 HI HIL hIn HRH HRF HHL HW5 HJ7 HJL
 go_wp2_with fail
 with_reducible refine HOF.out.mono ?_
 rintro r w8 ⟨lv, O8, R8, rfl, o1, o2, o3, o4, o5, hb8⟩
 obtain ⟨kq, hkq, hinv⟩ := o4.inv (Dp.inv_ends (Gr.cm L) (Gr.prs L) most (Gr.eds L J))
 obtain ⟨lo8, lc8, rfl⟩ := o1.form
 have HO8 := Lib.hid o1
 have HP8 := Lib.hid o2
 have HS8 := Lib.hid o3
 have HI8 := Lib.hid o4
 have HN8 := Lib.hid hinv.nd
 have hO8 : O8.length ≤ 100 := by omega
 have HB8 := Lib.hid hb8
 have HBO8 := Lib.hid (HBO.out w8 hb8)
 clear o1 o2 o3 o4 o5 hb8 hinv hkq HOF HBO
 go_wp2_with fail
 with_reducible refine HBO8.out.mono ?_
 rintro r w9 ⟨sv9, dv9, O9, R9, rfl, o1, o2, o3, o4, o5, o6, hb9⟩
 obtain rfl : R9 = R8 := o5.same HI8.out
 obtain ⟨so9, sc9, rfl⟩ := o1.form
 obtain ⟨do9, dc9, rfl⟩ := o2.form
 have HSH := Lib.hid o1.rows
 have HSL := Lib.hid o1.len
 have HDV := Lib.hid o2.rows
 have HDL := Lib.hid o2.len
 have HP9 := Lib.hid o3
 have HS9 := Lib.hid o4
 have hO9 : O9.length ≤ 100 := by omega
 have HO9 := Lib.hid (HO8.out.below hb9)
 have HB9 := Lib.hid (HB8.out.trans (hb9.mono HB8.out.size))
 have HRO9 := Lib.hid (HRO.out w9 HB9.out)
 have c9 := HMB.out w9 HB9.out
 clear o1 o2 o3 o4 o5 o6 hb9 HBO8 HO8 HB8 HRO
 go_wp2_with fail
 with_reducible refine HRO9.out.mono ?_
 rintro r w10 ⟨wv, Q, rfl, o1, o2, o3, hb10⟩
 obtain rfl : Q = R9 := o2.same HI8.out
 obtain ⟨wo, wc, rfl⟩ := o1.form
 have HQ := Lib.hid o1.at
 have HLEN := Lib.hid HP8.out.length_eq
 have HO10 := Lib.hid (HO9.out.below hb10)
 have HB10 := Lib.hid (HB9.out.trans (hb10.mono HB9.out.size))
 have HSH10 := Lib.hid (show IdsAt w10 _ _ from RowsAt.below HSH.out hb10)
 have HDV10 := Lib.hid (show IdsAt w10 _ _ from RowsAt.below HDV.out hb10)
 have hlq : O8.length = Q.length := HLEN.out
 clear o1 o2 o3 hb10 HRO9 c9 HO9 HB9 HSH HDV HLEN
 go_wp2_with fail
 go_loopw [15, 16] (fun iv i wr => ∃ (k : Nat), k ≤ Q.length ∧ i = .int .i64 k ∧ Hid (OwnI wr w10.heap.size iv ((O8.take k).map Prod.fst)) ∧ Hid (Below w10.heap.size w10 wr)) (fun _ i _ => Q.length - (intOf i).toNat)
 case atStart => exact ⟨0, by omega, rfl, Lib.hid (OwnI.nil _ _), Lib.hid (Below.refl _ _)⟩
 case round =>
  obtain ⟨wrx, hwrx⟩ : ∃ X, X = wr := ⟨_, rfl⟩
  subst hwrx
  obtain ⟨k, hk, rfl, HW, HB⟩ := hrel
  have hws := HB.out.size
  by_cases hlt : k < Q.length
  ·
   have hlt' : (k : Int) < (Q.length : Int) := by omega
   have hk0 : (0 : Int) ≤ (k : Int) := by omega
   obtain ⟨⟨id, dd⟩, hx⟩ : ∃ d, O8[k]? = some d := ⟨O8[k]'(by omega), List.getElem?_eq_getElem (by omega)⟩
   have HIL := Lib.hid (show id.length = 32 from HO10.out.len (id, dd) (List.mem_of_getElem? hx))
   have HIZ := Lib.hid (show (Tryz.prog.info? 46).map (·.size) = some (idC id).length from idsize HIL.out)
   have HDD := Lib.hid (show Dp.at Q id = dd from Dp.at_perm HN8.out HP8.out (List.mem_of_getElem? hx))
   obtain ⟨a, ha, hc⟩ := HO10.out.elem k (id, dd) hx
   obtain rfl : lo8 = some a := ha
   have HC0 := Lib.hid (dp_id (d := (id, dd)) hc)
   have HNC0 := Lib.hid (show w10.cell? ⟨(a.add (k * 33)).block, (a.add (k * 33)).off + 32, none⟩ = some (.int .i64 (dd : Int)) from dp_nn (d := (id, dd)) HIL.out hc)
   have HC := Lib.hid (show ∀ j u, (idC id)[j]? = some u → wrx.cell? ((a.add (k * 33)).add j) = some u from fun j u hu => by
    have h1 := HC0.out j u hu
    rw [HB.out.cell (World.block_lt_of_cell? _ _ h1)]; exact h1)
   have HTK := Lib.hid (show (O8.take (k + 1)).map Prod.fst = (O8.take k).map Prod.fst ++ [id] from by rw [dptake hx, List.map_append]; rfl)
   have hsl : ((O8.take k).map Prod.fst).length ≤ 100000 := by rw [List.length_map, List.length_take]; omega
   clear hx hc
   go_wp2_with (first
    | ((with_reducible refine ld_id (l := id) (x := .tmp 106) ?_ ?_ ?_ HC.out HIL.out ?_); rfl; rfl; rfl)
    | ((with_reducible refine bs_id2 (l := id) (x := .tmp 107) ?_ ?_ ?_ HIL.out ?_); rfl; rfl; rfl)
    | ((with_reducible refine ap_id_at (id := id) (.tmp 102) (.tmp 108) ?_ ?_ ?_ ?_ HW.out hws HIL.out hsl (fun v7 wr2 HO7 HG7 HN7 => ?_)); rfl; rfl; rfl; rfl))
   have HI7 := Lib.hid (show OwnI wr2 w10.heap.size v7 ((O8.take (k + 1)).map Prod.fst) from by rw [HTK.out]; exact HO7.out)
   have HB7 := Lib.hid ((HB.out.alloc hws _).grown HG7.out (by simp; omega) (fun q hq => (HW.out.own.lt q hq).1))
   have HRW := Lib.hid (show ∀ W' : World, (∀ q, q < wr2.heap.size → W'.heap[q]? = wr2.heap[q]?) → ∀ j u, (idC id)[j]? = some u → W'.cell? ((a.add (k * 33)).add j) = some u from fun W' hw j u hu => by
    have h1 := HC0.out j u hu
    have h2 := HB7.out.cell (World.block_lt_of_cell? _ _ h1)
    rw [← h2] at h1
    rw [World.cell?_of_block (w := wr2) (hw _ (World.block_lt_of_cell? _ _ h1))]; exact h1)
   have HNC := Lib.hid (show ∀ W' : World, (∀ q, q < wr2.heap.size → W'.heap[q]? = wr2.heap[q]?) → W'.cell? ⟨(a.add (k * 33)).block, (a.add (k * 33)).off + 32, none⟩ = some (.int .i64 (dd : Int)) from fun W' hw => by
    have h1 := HNC0.out
    have h2 := HB7.out.cell (World.block_lt_of_cell? _ _ h1)
    rw [← h2] at h1
    rw [World.cell?_of_block (w := wr2) (hw _ (World.block_lt_of_cell? _ _ h1))]; exact h1)
   have HAT := Lib.hid (show Calls Tryz.prog 15 #[.slice wo Q.length wc, .agg (idC id).toArray] wr2.drew (fun r w' => r = .returned (.int .i64 (dd : Int)) ∧ Below wr2.drew.heap.size wr2.drew w') from by
    have h := refat_any wr2.drew (.slice wo Q.length wc) Q id (HQ.out.below HB7.out.drew) HIL.out (by omega)
    rw [HDD.out] at h; exact h)
   clear HO7 HG7 HN7 hsl HC HC0 HNC0 HTK HDD
   refine wp_region_noPanic ?_
   refine wp_region_held_drew (S := (fun w' => ∀ q, q < wr2.heap.size → w'.heap[q]? = wr2.heap[q]?)) (by kernel_rfl) (fun q _ => rfl) (fun hH => ?_)
   refine tk (i := 0) (v := ?_) ?_ ?_
   rotate_left
   · intro w' hSw; go_simp; try rfl
   try simp only [q0]
   refine tk (i := 1) (v := ?_) ?_ ?_
   rotate_left
   · intro w' hSw; go_simp; try rfl
   try simp only [q0]
   refine tk (i := 2) (v := ?_) ?_ ?_
   rotate_left
   · intro w' hSw; go_simp; try rfl
   try simp only [q0]
   refine tk (i := 3) (v := ?_) ?_ ?_
   rotate_left
   · intro w' hSw; go_simp; try rfl
   try simp only [q0]
   refine tk (i := 4) (v := ?_) ?_ ?_
   rotate_left
   · intro w' hSw; go_simp; try rfl
   try simp only [q0]
   refine wpAnyH_take (i := 5) rfl (by kernel_rfl) (by kernel_rfl) (by kernel_rfl) (fun _ _ _ h => h) (yields_at (p := a.add (k * 33)) (cs := idC id) (by rfl) rfl rfl (fun w' hw' => HRW.out w' hw') Tryz.underlying46 rfl HIZ.out) (by assumption) ?_
   try simp only [q0]
   refine tk (i := 7) (v := ?_) ?_ ?_
   rotate_left
   · intro w' hSw; go_simp; try rfl
   try simp only [q0]
   refine tk (i := 8) (v := ?_) ?_ ?_
   rotate_left
   · intro w' hSw; go_simp; try rfl
   try simp only [q0]
   refine tk (i := 9) (v := ?_) ?_ ?_
   rotate_left
   · intro w' hSw; go_simp; try rfl
   try simp only [q0]
   refine tk (i := 10) (v := ?_) ?_ ?_
   rotate_left
   · intro w' hSw; go_simp; try rfl
   try simp only [q0]
   refine tk (i := 11) (v := ?_) ?_ ?_
   rotate_left
   · intro w' hSw; have q0 := HNC.out _ hSw; go_simp; try rfl
   try simp only [q0]
   refine wpAnyH_ready (rs := [6]) (by kernel_rfl) (by simp) ?_
   refine AllReadyH.cons rfl (fun K hK => ?_) AllReadyH.nil
   go_simp
   with_reducible refine HAT.out.mono ?_
   rintro r wb ⟨rfl, hbb⟩
   have HBB := Lib.hid (show Below wr2.heap.size wr2 wb from (Below.refl _ wr2).drew.trans hbb)
   clear hbb HAT
   go_wp2_with fail
   refine hK.out _ _ (fun g hg => HBB.out.block g hg) (fun _ => ?_)
   clear hK K
   try simp only [q0]
   refine tk (i := 12) (v := ?_) ?_ ?_
   rotate_left
   · intro w' hSw; go_simp; try rfl
   try simp only [q0]
   refine wpAnyH_done (by kernel_rfl) ?_ _
   refine NoPanic.normal ?_
   have HI8x := Lib.hid (HI7.out.below HBB.out)
   have HB8x := Lib.hid (HB7.out.trans (HBB.out.mono HB7.out.size))
   clear HBB HI7
   go_wp2_with fail
   go_roundw
   case rel => exact ⟨k + 1, by omega, by go_num, HI8x, HB8x⟩
   case measure => simp [intOf]; omega
  ·
   have hlt' : ¬ (k : Int) < (Q.length : Int) := by omega
   have hke : k = Q.length := by omega
   subst hke
   rw [show O8.take Q.length = O8 from by rw [← hlq, List.take_length]] at HW
   have HB11 := Lib.hid (show Below w7.heap.size w7 wrx from HB10.out.trans (HB.out.mono HB10.out.size))
   have HRB11 := Lib.hid (HRB.out wrx HB11.out)
   have c11 := HMB.out wrx HB11.out
   go_wp2_with fail
   with_reducible refine HRB11.out.mono ?_
   rintro r w12 ⟨sv, dv, Sh, De, Q3, rfl, s1, s2, s3, s4, s5, s6, s7, _, hb12⟩
   obtain rfl : Q3 = Q := s7.same HI8.out
   have hU9 := Dp.up HS9.out HP9.out HN8.out (fun d hd => HO10.out.len d ((HP8.out.mem_iff).2 ((HP9.out.mem_iff).1 hd)))
   obtain rfl : Sh = Dp.shal (Gr.prs L) most O9 := Gr.up_eq s3 (Dp.up_filter hU9 _) (fun x => (s5 x).trans (Dp.shal_mem HP9.out x).symm)
   obtain rfl : De = Dp.deep most O9 := Gr.up_eq s4 (Dp.up_filter hU9 _) (fun x => (s6 x).trans (Dp.deep_mem HP9.out x).symm)
   have hb10 : Below w10.heap.size w10 w12 := HB.out.trans (hb12.mono HB.out.size)
   have HB12 := Lib.hid (show Below w7.heap.size w7 w12 from HB11.out.trans (hb12.mono HB11.out.size))
   have hshn := Dp.shal_len (Gr.prs L) most O9
   have hden := Dp.deep_len most O9
   have HSA := Lib.hid (sameids2_any w12 _ _ _ (RowsAt.below HSH10.out hb10 : IdsAt w12 _ _) s1 HSL.out (by omega))
   have HSB := Lib.hid (fun (W : World) (hb : Below w12.heap.size w12 W) => sameids2_any W _ _ _ (RowsAt.below (RowsAt.below HDV10.out hb10) hb : IdsAt W _ _) (RowsAt.below s2 hb : IdsAt W _ _) HDL.out (by omega))
   have HRI := Lib.hid (fun (W : World) (hb : Below w12.heap.size w12 W) => rise_any W u15 (O8.map Prod.fst) (RowsAt.below (HW.out.below hb12).rows hb : IdsAt W _ _) HW.out.len (by rw [List.length_map]; omega) (Dp.up HS8.out HP8.out HN8.out HO10.out.len))
   clear s1 s2 s3 s4 s5 s6 s7 hb12 hb10 hU9 hshn hden HRB11 c11 HW HB HB11 HRB HMB HSH10 HDV10
   go_wp2_with fail
   with_reducible refine HSA.out.mono ?_
   rintro r w13 ⟨rfl, hb13⟩
   have HB13 := Lib.hid hb13
   have HSB13 := Lib.hid (HSB.out w13 hb13)
   clear hb13 HSA HSB
   go_wp2_with fail
   with_reducible refine HSB13.out.mono ?_
   rintro r w14 ⟨rfl, hb14⟩
   have HB14 := Lib.hid (HB13.out.trans (hb14.mono HB13.out.size))
   have HKN := Lib.hid (dpknows_any w14)
   clear hb14 HSB13 HB13
   go_wp2_with fail
   with_reducible refine HKN.out.mono ?_
   rintro r w15 ⟨rfl, hb15⟩
   have HB15 := Lib.hid (HB14.out.trans (hb15.mono HB14.out.size))
   have HRI15 := Lib.hid (HRI.out w15 HB15.out)
   clear hb15 HKN HB14 HRI
   go_wp2_with fail
   with_reducible refine HRI15.out.mono ?_
   rintro r w16 ⟨rfl, hb16⟩
   have HB16 := Lib.hid (HB12.out.trans ((HB15.out.trans (hb16.mono HB15.out.size)).mono HB12.out.size))
   clear hb16 HRI15 HB15
   go_wp2_with fail
   go_ret
   exact ⟨rfl, HW7.out.bel.trans (HB16.out.mono HW7.out.bel.size)⟩
end Go.Proofs.YtkcjhkfelaplkaaGreatDoor
end
section
namespace Go.Proofs.YtkcjhkfelaplkaaGreatDoor
open Go.RowKit
theorem dptells_bad (w : World) (sv lo lf lc : Value) (nz : Int) (S : List Sd) (O F C : List UInt8) (h : SdsAt w sv S) (hl : S.length ≤ maxLen) (hO : ByAt w lo O) (hF : ByAt w lf F) (hC : ByAt w lc C) (hk : S2.KIn w) (hg : goodG S) (hOn : O.length ≤ 10) (hFn : F.length ≤ 10) (hCn : C.length ≤ 10) (hnz : nz < 1 ∨ 1048576 < nz) :
  Calls Tryz.prog 3 #[.agg #[sv, lo, lf, lc], .int .i64 nz] w fun r w' => r = .returned (.bool true) ∧ Below w.heap.size w w' := by
 have HFE := Lib.hid (fun W (hb : Below w.heap.size w W) => lawfew_yes W sv lo lf lc S O F C (h.below hb) hl hg (hO.below hb) (hF.below hb) (hC.below hb) hOn hFn hCn)
 have HNM := Lib.hid (fun W (hb : Below w.heap.size w W) => named_any W sv lo lf lc S (h.below hb) hg)
 have HIF := Lib.hid (fun W (hb : Below w.heap.size w W) (iv : Value) (I : List (List UInt8)) (hI : IdsAt W iv I) (hIl : ∀ i ∈ I, i.length = 32) (hIn : I.length ≤ 24) => lawIds_any W iv lf I F hI hIl (by omega) (hF.below hb) hFn)
 unfold FewY at HFE
 have HK := Lib.hid hk
 obtain ⟨ao, cap, rfl⟩ := h.form
 obtain ⟨oo, oc, rfl⟩ := hO.form
 obtain ⟨fo, fc, rfl⟩ := hF.form
 obtain ⟨co, cc, rfl⟩ := hC.form
 have HB1 := Lib.hid (below_new w (.cells #[.slice ao S.length cap, .slice oo O.length oc, .slice fo F.length fc, .slice co C.length cc] 25))
 have HH1 := Lib.hid (heap_alloc_new w (.cells #[.slice ao S.length cap, .slice oo O.length oc, .slice fo F.length fc, .slice co C.length cc] 25))
 have HR1 := Lib.hid (row_news HH1.out)
 have hz1 : (w.alloc (.cells #[.slice ao S.length cap, .slice oo O.length oc, .slice fo F.length fc, .slice co C.length cc] 25)).heap.size = w.heap.size + 1 := by simp
 clear h hO hF hC hk hg
 go_enter Tryz.func3, Tryz.ntmps3
 go_wp2_with ((with_reducible refine ld_hi (c := [.slice ao S.length cap, .slice oo O.length oc, .slice fo F.length fc, .slice co C.length cc]) (x := .tmp 2) (p := ⟨w.heap.size, 0, none⟩) ?_ ?_ ?_ HR1.out ?_ ?_); rfl; rfl; rfl; rfl)
 refine (HFE.out _ HB1.out).mono ?_
 rintro r w3 ⟨mv, L, B, kk, rfl, hD, hL, hb3⟩
 obtain ⟨mo, mc, rfl⟩ := hD.form
 have hb4 := hb3.alloc hb3.size (.cells #[.slice mo L.length mc] 28)
 have HB4 := Lib.hid (HB1.out.trans (hb4.mono HB1.out.size))
 have HH4 := Lib.hid ((hb4.block w.heap.size (by omega)).trans HH1.out)
 have HM4 := Lib.hid (heap_alloc_new w3 (.cells #[.slice mo L.length mc] 28))
 have HD4 := Lib.hid (hD.below (below_new w3 (.cells #[.slice mo L.length mc] 28)))
 have HK4 := Lib.hid (HK.out.step HB4.out)
 have HOF := Lib.hid (of_any _ _ L HD4.out.old HK4.out)
 clear hb3 hb4 HFE HB1 HH1 HR1 hD HK
 go_wp2_with fail
 refine HOF.out.mono ?_
 rintro r w5 ⟨b, v', rfl, hbge, hP, hb5⟩
 have HW5 := Lib.hid (show Lw w w5 [.slice ao S.length cap, .slice oo O.length oc, .slice fo F.length fc, .slice co C.length cc] w3.heap.size b (.slice mo L.length mc) v' L B kk from
  ⟨HB4.out.trans (hb5.mono HB4.out.size), HK4.out.step hb5, (hb5.block _ (Array.getElem?_eq_some_iff.1 HH4.out).1).trans HH4.out, (hb5.block _ (Array.getElem?_eq_some_iff.1 HM4.out).1).trans HM4.out, HD4.out.below hb5, hP⟩)
 have HHL := Lib.hid (show w.heap.size < w5.heap.size from (Array.getElem?_eq_some_iff.1 HW5.out.hist).1)
 have HRH := Lib.hid (show ∀ W' : World, (∀ q, q < w5.heap.size → W'.heap[q]? = w5.heap[q]?) → ∀ j u, ([.slice ao S.length cap, .slice oo O.length oc, .slice fo F.length fc, .slice co C.length cc] : List Value)[j]? = some u → W'.cell? ((⟨w.heap.size, 0, none⟩ : Addr).add j) = some u from fun W' hw => row_news ((hw _ HHL.out).trans HW5.out.hist))
 have HRF := Lib.hid (show ∀ W' : World, (∀ q, q < w5.heap.size → W'.heap[q]? = w5.heap[q]?) → W'.cell? ⟨w.heap.size, 2, none⟩ = some (.slice fo F.length fc) from fun W' hw => by
  rw [World.cell?_of_block (w := w5) (hw w.heap.size HHL.out), cell_of_row _ _ 2 _ _ _ HW5.out.hist]; rfl)
 clear hb5 HOF HB4 HH4 HM4 HD4 HK4 hP hbge hz1
 go_wp2_with fail
 refine wp_region_noPanic ?_
 refine wp_region_held_drew (S := (fun w' => ∀ q, q < w5.heap.size → w'.heap[q]? = w5.heap[q]?)) (by kernel_rfl) (fun q _ => rfl) (fun hH => ?_)
 refine wpAnyH_take (i := 0) rfl (by kernel_rfl) (by kernel_rfl) (by kernel_rfl) (fun _ _ _ h => h) (yields_at (p := ⟨w.heap.size, 0, none⟩) (cs := [.slice ao S.length cap, .slice oo O.length oc, .slice fo F.length fc, .slice co C.length cc]) (by rfl) rfl rfl (fun w' hw' => HRH.out w' hw') hi_under rfl hi_size) (by assumption) ?_
 try simp only [q0]
 refine tk (i := 2) (v := ?_) ?_ ?_
 rotate_left
 · intro w' hSw; go_simp; try rfl
 try simp only [q0]
 refine tk (i := 3) (v := ?_) ?_ ?_
 rotate_left
 · intro w' hSw; have q0 := HRF.out _ hSw; go_simp; try rfl
 try simp only [q0]
 refine wpAnyH_ready (rs := [1]) (by kernel_rfl) (by simp) ?_
 refine AllReadyH.cons rfl (fun K hK => ?_) AllReadyH.nil
 go_simp
 with_reducible refine (HNM.out _ HW5.out.bel.drew).mono ?_
 rintro r w6 ⟨iv, I, rfl, hI, hIl, hIn, hb6⟩
 have HB6 := Lib.hid (show Below w5.heap.size w5 w6 from (Below.refl _ w5).drew.trans hb6)
 have HI := Lib.hid hI
 have HIL := Lib.hid hIl
 clear hb6 HNM hI hIl
 go_wp2_with fail
 refine hK.out _ _ (fun g hg => HB6.out.block g hg) (fun _ => ?_)
 clear hK K
 try simp only [q0]
 refine wpAnyH_ready (rs := [4]) (by kernel_rfl) (by simp) ?_
 refine AllReadyH.cons rfl (fun K hK => ?_) AllReadyH.nil
 go_simp
 with_reducible refine (HIF.out w6 (HW5.out.below HB6.out).bel iv I HI.out HIL.out hIn).mono ?_
 rintro r w7 ⟨fv, J, rfl, hJ, hJn, hb7⟩
 have HB7 := Lib.hid (HB6.out.trans (hb7.mono HB6.out.size))
 have HW7 := Lib.hid ((HW5.out.below HB6.out).below hb7)
 obtain ⟨jo, jc, rfl⟩ := hJ.form
 have HJ7 := Lib.hid hJ.rows
 have HJL := Lib.hid hJ.len
 clear hb7 HIF hJ
 go_wp2_with fail
 refine hK.out _ _ (fun g hg => HB7.out.block g hg) (fun _ => ?_)
 clear hK K
 try simp only [q0]
 refine tk (i := 5) (v := ?_) ?_ ?_
 rotate_left
 · intro w' hSw; go_simp; try rfl
 try simp only [q0]
 refine wpAnyH_done (by kernel_rfl) ?_ _
 refine NoPanic.normal ?_
 have HKN := Lib.hid (dpknows_any w7)
 have HOB := Lib.hid (fun (sp v : Value) => of_bad w7 sp v nz hnz)
 have HBB := Lib.hid (fun (sp v : Value) => bound_bad w7 sp v nz hnz)
 clear HB6 HB7 HI HIL hIn HRH HRF HHL HW5 HJ7 HJL
 go_wp2_with fail
 with_reducible refine (HOB.out _ _).mono ?_
 rintro r w8 ⟨rfl, rfl⟩
 go_wp2_with fail
 with_reducible refine (HBB.out _ _).mono ?_
 rintro r w9 ⟨rfl, rfl⟩
 rcases hnz with hA | hA
 ·
  go_wp2_with fail
  with_reducible refine HKN.out.mono ?_
  rintro r w10 ⟨rfl, hb10⟩
  have HB10 := Lib.hid hb10
  clear hb10
  go_wp2_with fail
  go_ret
  exact ⟨rfl, HW7.out.bel.trans (HB10.out.mono HW7.out.bel.size)⟩
 ·
  have hB : ¬ nz < 1 := by omega
  go_wp2_with fail
  with_reducible refine HKN.out.mono ?_
  rintro r w10 ⟨rfl, hb10⟩
  have HB10 := Lib.hid hb10
  clear hb10
  go_wp2_with fail
  go_ret
  exact ⟨rfl, HW7.out.bel.trans (HB10.out.mono HW7.out.bel.size)⟩
end Go.Proofs.YtkcjhkfelaplkaaGreatDoor
end
