/-
  WALKS OF LAYER 13: the document's Of.
-/
import Derived.Test.YtkcjhkfelaplkaaGreatDoorSg
import Derived.Test.YtkcjhkfelaplkaaGreatDoorQa
set_option linter.unusedVariables false
set_option linter.unusedSimpArgs false
set_option maxHeartbeats 8000000
set_option maxRecDepth 100000
namespace Go.Proofs.YtkcjhkfelaplkaaGreatDoor
open Go.RowKit
def RefOfP (w : World) (L : List St.It) (J : List (List UInt8)) (most : Nat) (r : Ending) (w' : World) : Prop :=
 ∃ ov Q, r = .returned ov ∧ OwnD 55 w' w.heap.size ov Q ∧ Dp.Is (Gr.cm L) (Gr.prs L) most (Dp.ends L J) Q ∧ Q.length ≤ L.length ∧ Below w.heap.size w w'
theorem refof_any (B kk : Nat) (w : World) (mv fv : Value) (L : List St.It) (J : List (List UInt8)) (most : Nat) (h : R.DSt B kk w mv L) (hJ : IdsAt w fv J) (hJl : ∀ i ∈ J, i.length = 32) (hJn : J.length ≤ 100) (hL : L.length ≤ 100) (hm : most ≤ 1048576) :
  Calls Tryz.prog 14 #[.agg #[mv], fv, .int .i64 (most : Int)] w (RefOfP w L J most) := by
 have HEN := Lib.hid (fun W (hb : Below w.heap.size w W) => R.refends_any B kk W mv fv L J (h.below hb) (RowsAt.below hJ hb) hJl (by omega))
 have HKA := Lib.hid (fun W (hb : Below w.heap.size w W) (id : List UInt8) (hid : id.length = 32) => refkindX_any W mv L id (h.old.below hb) hid)
 have HOB := Lib.hid (fun W (hb : Below w.heap.size w W) (id : List UInt8) (hid : id.length = 32) => R.refobject_old B kk w W mv L id h hb hid)
 have HIV0 := Lib.hid (Dp.inv_ends (Gr.cm L) (Gr.prs L) most (Gr.eds L J))
 obtain ⟨so, sc, rfl⟩ := h.form
 clear h hJ hJl
 have HB1 := Lib.hid (below_new w (.cells #[.slice so L.length sc] 28))
 have HX1 := Lib.hid (heap_alloc_last w (.cells #[.slice so L.length sc] 28))
 go_enter Tryz.func14, Tryz.ntmps14
 go_upto_region 1 with (fail)
 change Code.wp _ _ _ _ (w.alloc (.cells #[.slice so L.length sc] 28))
 have HZ1 := Lib.hid (show (w.alloc (.cells #[.slice so L.length sc] 28)).heap.size = w.heap.size + 1 by simp)
 generalize w.alloc (.cells #[.slice so L.length sc] 28) = w1 at *
 have c1 : w1.cell? ⟨w.heap.size, 0, none⟩ = some (.slice so L.length sc) := by rw [cell_of_row _ _ 0 _ _ _ HX1.out]; rfl
 have HE1 := Lib.hid (HEN.out w1 HB1.out)
 clear HEN
 go_wp2_with fail
 with_reducible refine HE1.out.mono ?_
 rintro r w2 ⟨ev, rfl, hE, hb2⟩
 have hEE : Dp.ends L J = (Wk.nw (Gr.cm L) [] (Gr.eds L J)).map fun x => (x, 1) := rfl
 have hE100 : (Wk.nw (Gr.cm L) [] (Gr.eds L J)).length ≤ 100 := by have := Dp.ends_few L J; rw [hEE, List.length_map] at this; omega
 have HEE := Lib.hid hEE
 clear hEE
 generalize Wk.nw (Gr.cm L) [] (Gr.eds L J) = E at *
 obtain ⟨eo, ec, rfl⟩ := hE.form
 have HE := Lib.hid hE.rows
 have HEL := Lib.hid hE.len
 have HB2 := Lib.hid (show Below w.heap.size w w2 from HB1.out.trans (hb2.mono HB1.out.size))
 have HX2 := Lib.hid (show w2.heap[w.heap.size]? = some (.cells #[.slice so L.length sc] 28 (0, 0)) from (hb2.block _ (by have := HZ1.out; omega)).trans HX1.out)
 have HW2 := Lib.hid (show w.heap.size + 1 ≤ w2.heap.size from by have := hb2.size; have := HZ1.out; omega)
 clear hE hb2 HE1 c1 HX1 HB1 HZ1
 go_wp2_with fail
 go_loopw [7, 9] (fun ov i wr => ∃ (k : Nat), k ≤ E.length ∧ i = .int .i64 k ∧ Hid (OwnD 55 wr w2.heap.size ov ((E.take k).map fun x => (x, 1))) ∧ Hid (Below w2.heap.size w2 wr)) (fun _ i _ => E.length - (intOf i).toNat)
 case atStart => exact ⟨0, by omega, rfl, Lib.hid (OwnD.nil _ _ _), Lib.hid (Below.refl _ _)⟩
 case round =>
  obtain ⟨wr1, hwr1⟩ : ∃ X, X = wr := ⟨_, rfl⟩
  subst hwr1
  obtain ⟨k, hk, rfl, HO, HB⟩ := hrel
  have hbs := HB.out.size
  by_cases hlt : k < E.length
  ·
   have hlt' : (k : Int) < (E.length : Int) := by omega
   have hk0 : (0 : Int) ≤ (k : Int) := by omega
   obtain ⟨id, hi⟩ : ∃ id, E[k]? = some id := ⟨E[k], List.getElem?_eq_getElem hlt⟩
   have HID := Lib.hid (HEL.out id (List.mem_of_getElem? hi))
   obtain ⟨a, rfl, _, hc⟩ := RowsAt.elem (RowsAt.below HE.out HB.out) k (idC id) (by rw [List.getElem?_map, hi]; rfl)
   have HC := Lib.hid hc
   have HTK := Lib.hid (show (E.take (k + 1)).map (fun x => ((x, 1) : List UInt8 × Nat)) = (E.take k).map (fun x => (x, 1)) ++ [(id, 1)] from by rw [take_id hi, List.map_append]; rfl)
   have hol : ((E.take k).map fun x => ((x, 1) : List UInt8 × Nat)).length ≤ 2000 := by simp; omega
   clear hc hi
   go_wp2_with (first
    | ((with_reducible refine ld_id (l := id) (x := .tmp 25) ?_ ?_ ?_ HC.out HID.out ?_); rfl; rfl; rfl)
    | ((with_reducible refine bd_dp Dp.tyR (d := (id, 1)) (x := .tmp 26) (y := .const (.int .i64 1)) ?_ ?_ ?_ ?_ HID.out ?_); rfl; rfl; rfl; rfl)
    | ((with_reducible refine bs_dp Dp.tyR (d := (id, 1)) (x := .tmp 27) ?_ ?_ ?_ HID.out ?_); rfl; rfl; rfl)
    | ((with_reducible refine ap_dp Dp.tyR (d := (id, 1)) (.tmp 22) (.tmp 28) ?_ ?_ ?_ ?_ HO.out hbs hol HID.out (fun v5 w5 HO5 HG5 HN5 => ?_)); rfl; rfl; rfl; rfl))
   have HB5 := Lib.hid ((HB.out.alloc hbs _).grown HG5.out (by simp; omega) (fun q hq => (HO.out.own.lt q hq).1))
   clear HG5 HN5 hol
   go_roundw
   case rel => exact ⟨k + 1, by omega, by go_num, Lib.hid (by rw [HTK.out]; exact HO5.out), HB5⟩
   case measure => simp [intOf]; omega
  ·
   have hlt' : ¬ (k : Int) < (E.length : Int) := by omega
   have hke : k = E.length := by omega
   subst hke
   rw [List.take_length, ← HEE.out] at HO
   clear hlt
   go_wp2_with fail
   go_loopw [7, 10] (fun ov i wr => ∃ (k : Nat) (O : List (List UInt8 × Nat)), k ≤ O.length ∧ i = .int .i64 k ∧ Hid (O = Dp.st (Gr.cm L) (Gr.prs L) most (Dp.ends L J) k) ∧ Hid (OwnD 55 wr w2.heap.size ov O) ∧ Hid (Below w2.heap.size w2 wr)) (fun _ i _ => 101 - (intOf i).toNat)
   case atStart => exact ⟨0, Dp.ends L J, Nat.zero_le _, rfl, Lib.hid rfl, HO, HB⟩
   case round =>
    obtain ⟨wr2, hwr2⟩ : ∃ X, X = wr := ⟨_, rfl⟩
    subst hwr2
    clear HO HB hbs
    obtain ⟨k, O, hk, rfl, HO, HD, HB⟩ := hrel
    have hinv := Dp.inv_st (k := k) (by have := HIV0.out; rwa [← HEE.out] at this)
    rw [← HO.out] at hinv
    have HIV := Lib.hid hinv
    have hO100 : O.length ≤ 100 := Nat.le_trans (Dp.few0 hinv.nd hinv.com) hL
    obtain ⟨oo, oc, rfl⟩ := HD.out.form
    have hw2s := HW2.out
    have hws := HB.out.size
    have HBW := Lib.hid (HB2.out.trans (HB.out.mono HB2.out.size))
    clear hinv
    by_cases hlt : k < O.length
    ·
     have hlt' : (k : Int) < (O.length : Int) := by omega
     have hk0 : (0 : Int) ≤ (k : Int) := by omega
     obtain ⟨⟨id, dd⟩, hx⟩ : ∃ d, O[k]? = some d := ⟨O[k], List.getElem?_eq_getElem hlt⟩
     have hxl : id.length = 32 := HD.out.len (id, dd) (List.mem_of_getElem? hx)
     obtain ⟨a, rfl, hc⟩ := HD.out.elem k (id, dd) hx
     have HXB := Lib.hid (show wr2.heap[w.heap.size]? = some (.cells #[.slice so L.length sc] 28 (0, 0)) from (HB.out.block _ (by omega)).trans HX2.out)
     have HSP := Lib.hid (show ∀ W' : World, (∀ q, q < wr2.heap.size → W'.heap[q]? = wr2.heap[q]?) → W'.cell? ⟨w.heap.size, 0, none⟩ = some (.slice so L.length sc) from fun W' hw => by
      rw [World.cell?_of_block (w := wr2) (hw w.heap.size (by omega)), cell_of_row _ _ 0 _ _ _ HXB.out]; rfl)
     have HRW := Lib.hid (show ∀ W' : World, (∀ q, q < wr2.heap.size → W'.heap[q]? = wr2.heap[q]?) → ∀ j u, (idC id)[j]? = some u → W'.cell? ((a.add (k * 33)).add j) = some u from fun W' hw j u hu => by
      have h1 := dp_id (d := (id, dd)) hc j u hu
      rw [World.cell?_of_block (w := wr2) (hw _ (World.block_lt_of_cell? _ _ h1))]; exact h1)
     have HX := Lib.hid hx
     have HIL := Lib.hid hxl
     have HIZ := Lib.hid (show (Tryz.prog.info? 46).map (·.size) = some (idC id).length from idsize hxl)
     have HOB2 := Lib.hid (HOB.out wr2.drew HBW.out.drew id hxl)
     have HPR := Lib.hid (Gr.prs_obz L id)
     have hfew : (Gr.obz L id).pars.length ≤ 8 := by rw [HPR.out]; exact Gr.prs_few L id
     have hdd : dd ≤ 101 := by have := HIV.out.idx k (id, dd) hx; simp at this; omega
     clear hc hx hxl
     go_wp2_with fail
     refine wp_region_noPanic ?_
     refine wp_region_held_drew (S := (fun w' => ∀ q, q < wr2.heap.size → w'.heap[q]? = wr2.heap[q]?)) (by kernel_rfl) (fun q _ => rfl) (fun hH => ?_)
     refine tk (i := 0) (v := ?_) ?_ ?_
     rotate_left
     · intro w' hSw; have q0 := HSP.out _ hSw; go_simp; try rfl
     try simp only [q0]
     refine tk (i := 1) (v := ?_) ?_ ?_
     rotate_left
     · intro w' hSw; go_simp; try rfl
     try simp only [q0]
     refine tk (i := 2) (v := ?_) ?_ ?_
     rotate_left
     · intro w' hSw; go_simp; try rfl
     try simp only [q0]
     refine tk (i := 3) (v := ?_) ?_ ?_
     rotate_left
     · intro w' hSw; go_simp; try rfl
     try simp only [q0]
     refine tk (i := 4) (v := ?_) ?_ ?_
     rotate_left
     · intro w' hSw; go_simp; try rfl
     try simp only [q0]
     refine wpAnyH_take (i := 5) rfl (by kernel_rfl) (by kernel_rfl) (by kernel_rfl) (fun _ _ _ h => h) (yields_at (p := a.add (k * 33)) (cs := idC id) (by rfl) rfl rfl (fun w' hw' => HRW.out w' hw') Tryz.underlying46 rfl HIZ.out) (by assumption) ?_
     try simp only [q0]
     refine wpAnyH_ready (rs := [6]) (by kernel_rfl) (by simp) ?_
     refine AllReadyH.cons rfl (fun K hK => ?_) AllReadyH.nil
     go_simp
     with_reducible refine HOB2.out.mono ?_
     rintro r w5 ⟨cs, po_, bo, ca, cb, rfl, hO5, hb5⟩
     have f35 := fun w => fld_pars w cs _ hO5.F.c35
     have HB5 := Lib.hid (show Below wr2.heap.size wr2 w5 from (Below.refl _ wr2).drew.trans hb5)
     have HPA := Lib.hid (show IdsAt w (.slice bo (Gr.obz L id).pars.length cb) (Gr.obz L id).pars from hO5.P)
     have HPL := Lib.hid hO5.pid
     clear hb5 hO5 HOB2
     go_wp2_with fail
     refine hK.out _ _ (fun g hg => HB5.out.block g hg) (fun _ => ?_)
     clear hK K
     try simp only [q0]
     refine tk (i := 7) (v := ?_) ?_ ?_
     rotate_left
     · intro w' hSw; have q0 := f35 w'; go_simp; try rfl
     try simp only [q0]
     refine tk (i := 8) (v := ?_) ?_ ?_
     rotate_left
     · intro w' hSw; go_simp; try rfl
     try simp only [q0]
     refine wpAnyH_done (by kernel_rfl) ?_ _
     refine NoPanic.normal ?_
     generalize (Gr.obz L id).pars = P at *
     have hw5s := HB5.out.size
     have HD5 := Lib.hid (HD.out.below HB5.out)
     have HB25 := Lib.hid (HB.out.trans (HB5.out.mono hws))
     have HST := Lib.hid (show Dp.st (Gr.cm L) (Gr.prs L) most (Dp.ends L J) (k + 1) = if dd < most then O ++ Dp.news (Gr.cm L) O (dd + 1) P else O from by
      rw [Dp.st, ← HO.out]
      unfold Dp.stp
      rw [HX.out]
      show (if dd < most then _ else _) = _
      rw [HPR.out])
     clear HSP HRW f35 HB5
     by_cases hdm : dd < most
     ·
      have hdm' : (dd : Int) < (most : Int) := by omega
      have HST2 := Lib.hid (show O ++ Dp.news (Gr.cm L) O (dd + 1) P = Dp.st (Gr.cm L) (Gr.prs L) most (Dp.ends L J) (k + 1) from by rw [HST.out, if_pos hdm])
      clear HST
      go_wp2_with fail
      go_loopw [7, 12] (fun ov i wr => ∃ (j : Nat), j ≤ P.length ∧ i = .int .i64 j ∧ Hid (OwnD 55 wr w2.heap.size ov (O ++ Dp.news (Gr.cm L) O (dd + 1) (P.take j))) ∧ Hid (Below w2.heap.size w2 wr)) (fun _ i _ => P.length - (intOf i).toNat)
      case atStart =>
       have e0 : O ++ Dp.news (Gr.cm L) O (dd + 1) (P.take 0) = O := by simp [Dp.news, Wk.nw]
       exact ⟨0, by omega, rfl, Lib.hid (by rw [e0]; exact HD5.out), HB25⟩
      case round =>
       obtain ⟨wr3, hwr3⟩ : ∃ X, X = wr := ⟨_, rfl⟩
       subst hwr3
       obtain ⟨j, hj, rfl, HDY, HBY⟩ := hrel
       have HYL := Lib.hid (Dp.few (L := L) (dd + 1) (P.take j) HIV.out.nd HIV.out.com)
       have HYN := Lib.hid (show ((O ++ Dp.news (Gr.cm L) O (dd + 1) (P.take j)).map Prod.fst).Nodup from by rw [Dp.news_map]; exact Wk.nw_nodup _ _ _ HIV.out.nd)
       have HYP := Lib.hid (show ∀ d ∈ O ++ Dp.news (Gr.cm L) O (dd + 1) (P.take j), 1 ≤ d.2 from fun d hd => by
        rcases List.mem_append.1 hd with e | e
        · exact HIV.out.pos d e
        · rw [(Dp.news_mem e).1]; omega)
       have HYK := Lib.hid (show (O ++ Dp.news (Gr.cm L) O (dd + 1) (P.take j))[k]? = some (id, dd) from by rw [List.getElem?_append_left (List.getElem?_eq_some_iff.1 HX.out).1]; exact HX.out)
       have HYS := Lib.hid (fun (p : List UInt8) (hp : P[j]? = some p) => show O ++ Dp.news (Gr.cm L) O (dd + 1) (P.take (j + 1)) = (O ++ Dp.news (Gr.cm L) O (dd + 1) (P.take j)) ++ Dp.news (Gr.cm L) (O ++ Dp.news (Gr.cm L) O (dd + 1) (P.take j)) (dd + 1) [p] from by rw [take_id hp]; exact Dp.news_snoc _ _ _ _ _)
       have HYE := Lib.hid (show j = P.length → O ++ Dp.news (Gr.cm L) O (dd + 1) (P.take j) = Dp.st (Gr.cm L) (Gr.prs L) most (Dp.ends L J) (k + 1) from fun e => by rw [e, List.take_length]; exact HST2.out)
       generalize O ++ Dp.news (Gr.cm L) O (dd + 1) (P.take j) = Y at *
       obtain ⟨yo, yc, rfl⟩ := HDY.out.form
       have hYk := (List.getElem?_eq_some_iff.1 HYK.out).1
       have hYk' : (k : Int) < (Y.length : Int) := by omega
       have hY100 : Y.length ≤ 100 := Nat.le_trans HYL.out hL
       obtain ⟨ya, rfl, hyc⟩ := HDY.out.elem k (id, dd) HYK.out
       have cN3 : wr3.cell? ⟨(ya.add (k * 33)).block, (ya.add (k * 33)).off + 32, none⟩ = some (.int .i64 (dd : Int)) := dp_nn (d := (id, dd)) HIL.out hyc
       have hw3s := HBY.out.size
       have HBW3 := Lib.hid (HB2.out.trans (HBY.out.mono HB2.out.size))
       clear hyc
       by_cases hjl : j < P.length
       ·
        have hjl' : (j : Int) < (P.length : Int) := by omega
        have hj0 : (0 : Int) ≤ (j : Int) := by omega
        obtain ⟨p, hp⟩ : ∃ p, P[j]? = some p := ⟨P[j], List.getElem?_eq_getElem hjl⟩
        have HPP := Lib.hid (HPL.out p (List.mem_of_getElem? hp))
        have HPZ := Lib.hid (show (Tryz.prog.info? 46).map (·.size) = some (idC p).length from idsize HPP.out)
        obtain ⟨pa, rfl, _, hpc⟩ := RowsAt.elem HPA.out j (idC p) (by rw [List.getElem?_map, hp]; rfl)
        have HCW := Lib.hid (show ∀ W' : World, Below w.heap.size w W' → ∀ q u, (idC p)[q]? = some u → W'.cell? ((pa.add (j * 32)).add q) = some u from fun W' hb q u hu => by
         have h1 := hpc q u hu
         rw [hb.cell (World.block_lt_of_cell? _ _ h1)]; exact h1)
        have HRP := Lib.hid (show ∀ W' : World, (∀ q, q < wr3.heap.size → W'.heap[q]? = wr3.heap[q]?) → ∀ q u, (idC p)[q]? = some u → W'.cell? ((pa.add (j * 32)).add q) = some u from fun W' hw q u hu => by
         have h1 := HCW.out wr3 HBW3.out q u hu
         rw [World.cell?_of_block (w := wr3) (hw _ (World.block_lt_of_cell? _ _ h1))]; exact h1)
        have HXB3 := Lib.hid (show wr3.heap[w.heap.size]? = some (.cells #[.slice so L.length sc] 28 (0, 0)) from (HBY.out.block _ (by omega)).trans HX2.out)
        have HSP3 := Lib.hid (show ∀ W' : World, (∀ q, q < wr3.heap.size → W'.heap[q]? = wr3.heap[q]?) → W'.cell? ⟨w.heap.size, 0, none⟩ = some (.slice so L.length sc) from fun W' hw => by
         rw [World.cell?_of_block (w := wr3) (hw w.heap.size (by omega)), cell_of_row _ _ 0 _ _ _ HXB3.out]; rfl)
        have hat := refat_any wr3.drew (.slice (some ya) Y.length yc) Y p (HDY.out.below (Below.refl _ _).drew).at HPP.out (by omega)
        have HKI := Lib.hid (fun (W' : World) (hb : Below wr3.heap.size wr3 W') => HKA.out W' (HBW3.out.trans (hb.mono HBW3.out.size)) p HPP.out)
        have HYS2 := Lib.hid (HYS.out p hp)
        clear hpc hp
        by_cases hpin : p ∈ Y.map Prod.fst
        ·
         have hq0 : ((Dp.at Y p : Int) == 0) = false := by
          obtain ⟨d, hd, rfl⟩ := List.mem_map.1 hpin
          have h1 := Dp.at_mem HYN.out hd
          have h2 := HYP.out d hd
          rw [h1]; simp; omega
         have HNE := Lib.hid (show Y ++ Dp.news (Gr.cm L) Y (dd + 1) [p] = Y from by rw [Dp.news_one, if_neg (fun h => h.2 hpin), List.append_nil])
         generalize Dp.at Y p = q at *
         have HAT := Lib.hid hat
         clear hpin hat HKI HSP3 HXB3
         go_wp2_with fail
         refine wp_region_noPanic ?_
         refine wp_region_held_drew (S := (fun w' => ∀ q, q < wr3.heap.size → w'.heap[q]? = wr3.heap[q]?)) (by kernel_rfl) (fun q _ => rfl) (fun hH => ?_)
         refine tk (i := 0) (v := ?_) ?_ ?_
         rotate_left
         · intro w' hSw; go_simp; try rfl
         try simp only [q0]
         refine tk (i := 1) (v := ?_) ?_ ?_
         rotate_left
         · intro w' hSw; go_simp; try rfl
         try simp only [q0]
         refine tk (i := 2) (v := ?_) ?_ ?_
         rotate_left
         · intro w' hSw; go_simp; try rfl
         try simp only [q0]
         refine tk (i := 3) (v := ?_) ?_ ?_
         rotate_left
         · intro w' hSw; go_simp; try rfl
         try simp only [q0]
         refine wpAnyH_take (i := 4) rfl (by kernel_rfl) (by kernel_rfl) (by kernel_rfl) (fun _ _ _ h => h) (yields_at (p := pa.add (j * 32)) (cs := idC p) (by rfl) rfl rfl (fun w' hw' => HRP.out w' hw') Tryz.underlying46 rfl HPZ.out) (by assumption) ?_
         try simp only [q0]
         refine wpAnyH_ready (rs := [5]) (by kernel_rfl) (by simp) ?_
         refine AllReadyH.cons rfl (fun K hK => ?_) AllReadyH.nil
         go_simp
         with_reducible refine HAT.out.mono ?_
         rintro r w8 ⟨rfl, hb8⟩
         have HB8 := Lib.hid (show Below wr3.heap.size wr3 w8 from (Below.refl _ wr3).drew.trans hb8)
         clear hb8 HAT
         go_wp2_with fail
         refine hK.out _ _ (fun g hg => HB8.out.block g hg) (fun _ => ?_)
         clear hK K
         try simp only [q0]
         refine tk (i := 6) (v := ?_) ?_ ?_
         rotate_left
         · intro w' hSw; go_simp; try rfl
         try simp only [q0]
         refine tk (i := 7) (v := ?_) ?_ ?_
         rotate_left
         · intro w' hSw; go_simp; try rfl
         try simp only [q0]
         refine wpAnyH_take (i := 8) (v := undef) rfl (by kernel_rfl) (by kernel_rfl) (by kernel_rfl) (fun _ _ _ h => h) (Or.inr ⟨by rfl, rfl⟩) (by assumption) ?_
         try simp only [q0]
         refine wpAnyH_take (i := 9) (v := undef) rfl (by kernel_rfl) (by kernel_rfl) (by kernel_rfl) (fun _ _ _ h => h) (Or.inr ⟨by rfl, rfl⟩) (by assumption) ?_
         try simp only [q0]
         refine wpAnyH_take (i := 10) (v := undef) rfl (by kernel_rfl) (by kernel_rfl) (by kernel_rfl) (fun _ _ _ h => h) (Or.inr ⟨by rfl, rfl⟩) (by assumption) ?_
         try simp only [q0]
         refine wpAnyH_take (i := 11) (v := undef) rfl (by kernel_rfl) (by kernel_rfl) (by kernel_rfl) (fun _ _ _ h => h) (Or.inr ⟨by rfl, rfl⟩) (by assumption) ?_
         try simp only [q0]
         refine wpAnyH_take (i := 12) (v := undef) rfl (by kernel_rfl) (by kernel_rfl) (by kernel_rfl) (fun _ _ _ h => h) (Or.inr ⟨by rfl, rfl⟩) (by assumption) ?_
         try simp only [q0]
         refine wpAnyH_take (i := 13) (v := undef) rfl (by kernel_rfl) (by kernel_rfl) (by kernel_rfl) (fun _ _ _ h => h) (Or.inr ⟨by rfl, rfl⟩) (by assumption) ?_
         try simp only [q0]
         refine wpAnyH_take (i := 14) (v := undef) rfl (by kernel_rfl) (by kernel_rfl) (by kernel_rfl) (fun _ _ _ h => h) (Or.inr ⟨by rfl, rfl⟩) (by assumption) ?_
         try simp only [q0]
         refine tk (i := 15) (v := ?_) ?_ ?_
         rotate_left
         · intro w' hSw; go_simp; try rfl
         try simp only [q0]
         refine wpAnyH_done (by kernel_rfl) ?_ _
         refine NoPanic.normal ?_
         have HDY8 := Lib.hid (HDY.out.below HB8.out)
         have HBY8 := Lib.hid (HBY.out.trans (HB8.out.mono hw3s))
         clear HB8 cN3 hq0
         go_wp2_with fail
         go_roundw
         case rel => exact ⟨j + 1, by omega, by go_num, Lib.hid (by rw [HYS2.out, HNE.out]; exact HDY8.out), HBY8⟩
         case measure => simp [intOf]; omega
        ·
         have hq1 : Dp.at Y p = 0 := Dp.at_none fun d hd e => hpin (List.mem_map.2 ⟨d, hd, e⟩)
         rw [hq1] at hat
         have HAT := Lib.hid hat
         clear hat hq1
         by_cases hk3 : Gr.kd L p = 3
         ·
          have hkb : (Gr.kd L p == 3) = true := by simpa using hk3
          have HNE := Lib.hid (show Y ++ Dp.news (Gr.cm L) Y (dd + 1) [p] = Y ++ [(p, dd + 1)] from by rw [Dp.news_one, if_pos ⟨by rw [Gr.cm_kd]; exact decide_eq_true hk3, hpin⟩])
          clear hk3 hpin
          go_wp2_with fail
          refine wp_region_noPanic ?_
          refine wp_region_held_drew (S := (fun w' => ∀ q, q < wr3.heap.size → w'.heap[q]? = wr3.heap[q]?)) (by kernel_rfl) (fun q _ => rfl) (fun hH => ?_)
          refine tk (i := 0) (v := ?_) ?_ ?_
          rotate_left
          · intro w' hSw; go_simp; try rfl
          try simp only [q0]
          refine tk (i := 1) (v := ?_) ?_ ?_
          rotate_left
          · intro w' hSw; go_simp; try rfl
          try simp only [q0]
          refine tk (i := 2) (v := ?_) ?_ ?_
          rotate_left
          · intro w' hSw; go_simp; try rfl
          try simp only [q0]
          refine tk (i := 3) (v := ?_) ?_ ?_
          rotate_left
          · intro w' hSw; go_simp; try rfl
          try simp only [q0]
          refine wpAnyH_take (i := 4) rfl (by kernel_rfl) (by kernel_rfl) (by kernel_rfl) (fun _ _ _ h => h) (yields_at (p := pa.add (j * 32)) (cs := idC p) (by rfl) rfl rfl (fun w' hw' => HRP.out w' hw') Tryz.underlying46 rfl HPZ.out) (by assumption) ?_
          try simp only [q0]
          refine wpAnyH_ready (rs := [5]) (by kernel_rfl) (by simp) ?_
          refine AllReadyH.cons rfl (fun K hK => ?_) AllReadyH.nil
          go_simp
          with_reducible refine HAT.out.mono ?_
          rintro r w8 ⟨rfl, hb8⟩
          have HB8 := Lib.hid (show Below wr3.heap.size wr3 w8 from (Below.refl _ wr3).drew.trans hb8)
          clear hb8 HAT
          go_wp2_with fail
          refine hK.out _ _ (fun g hg => HB8.out.block g hg) (fun _ => ?_)
          clear hK K
          try simp only [q0]
          refine tk (i := 6) (v := ?_) ?_ ?_
          rotate_left
          · intro w' hSw; go_simp; try rfl
          try simp only [q0]
          refine tk (i := 7) (v := ?_) ?_ ?_
          rotate_left
          · intro w' hSw; go_simp; try rfl
          try simp only [q0]
          refine tk (i := 8) (v := ?_) ?_ ?_
          rotate_left
          · intro w' hSw; have q0 := HSP3.out _ hSw; go_simp; try rfl
          try simp only [q0]
          refine tk (i := 9) (v := ?_) ?_ ?_
          rotate_left
          · intro w' hSw; go_simp; try rfl
          try simp only [q0]
          refine tk (i := 10) (v := ?_) ?_ ?_
          rotate_left
          · intro w' hSw; go_simp; try rfl
          try simp only [q0]
          refine tk (i := 11) (v := ?_) ?_ ?_
          rotate_left
          · intro w' hSw; go_simp; try rfl
          try simp only [q0]
          refine wpAnyH_take (i := 12) rfl (by kernel_rfl) (by kernel_rfl) (by kernel_rfl) (fun _ _ _ h => h) (yields_at (p := pa.add (j * 32)) (cs := idC p) (by rfl) rfl rfl (fun w' hw' => HRP.out w' hw') Tryz.underlying46 rfl HPZ.out) (by assumption) ?_
          try simp only [q0]
          refine wpAnyH_ready (rs := [13]) (by kernel_rfl) (by simp) ?_
          refine AllReadyH.cons rfl (fun K hK => ?_) AllReadyH.nil
          go_simp
          have HKD := Lib.hid (HKI.out w8 HB8.out)
          with_reducible refine HKD.out.mono ?_
          rintro r w6 ⟨rfl, hb6⟩
          have HB6 := Lib.hid (show Below wr3.heap.size wr3 w6 from HB8.out.trans (hb6.mono HB8.out.size))
          clear hb6 HKD
          go_wp2_with fail
          refine hK.out _ _ (fun g hg => HB6.out.block g hg) (fun _ => ?_)
          clear hK K
          try simp only [q0]
          refine tk (i := 14) (v := ?_) ?_ ?_
          rotate_left
          · intro w' hSw; go_simp; try rfl
          try simp only [q0]
          refine tk (i := 15) (v := ?_) ?_ ?_
          rotate_left
          · intro w' hSw; go_simp; try rfl
          try simp only [q0]
          refine wpAnyH_done (by kernel_rfl) ?_ _
          refine NoPanic.normal ?_
          have hw6s := HB6.out.size
          have HDY6 := Lib.hid (HDY.out.below HB6.out)
          have HBY6 := Lib.hid (HBY.out.trans (HB6.out.mono hw3s))
          have HBW6 := Lib.hid (HBW3.out.trans (HB6.out.mono HBW3.out.size))
          have cN6 : w6.drew.cell? ⟨(ya.add (k * 33)).block, (ya.add (k * 33)).off + 32, none⟩ = some (.int .i64 (dd : Int)) := by
           obtain ⟨ya', e, hyc⟩ := HDY6.out.elem k (id, dd) HYK.out
           injection e with e; subst e
           exact dp_nn (d := (id, dd)) HIL.out hyc
          have HRP6 := Lib.hid (show ∀ W' : World, (∀ q, q < w.heap.size → W'.heap[q]? = w6.heap[q]?) → ∀ q u, (idC p)[q]? = some u → W'.cell? ((pa.add (j * 32)).add q) = some u from fun W' hw q u hu => by
           have h0 := HCW.out w (Below.refl _ _) q u hu
           have h1 := HCW.out w6 HBW6.out q u hu
           rw [World.cell?_of_block (w := w6) (hw _ (World.block_lt_of_cell? _ _ h0))]; exact h1)
          have HOY := Lib.hid (show OwnD 55 w6.drew w2.heap.size (.slice (some ya) Y.length yc) Y from HDY6.out.below (Below.refl _ _).drew)
          have hbs6 : w2.heap.size ≤ w6.drew.heap.size := by show w2.heap.size ≤ w6.heap.size; omega
          have hY2 : Y.length ≤ 2000 := by omega
          have hwd : IntKind.i64.wrap ((dd : Int) + 1) = (dd : Int) + 1 := IntWalk.i64_in _ (by omega)
          have HS7 := Lib.hid (show ∀ W' : World, (w6.drew.alloc (.cells (Dp.C (p, dd + 1)).toArray 55)).grownBy W' (Value.slice (some ya) Y.length yc).ownBlock → ∀ q, q < w.heap.size → W'.heap[q]? = w6.heap[q]? from fun W' hg q hq => (hg.block q (by simp; have : w6.drew.heap.size = w6.heap.size := rfl; omega) (fun e => by have := (HDY6.out.own.lt q e.symm).1; omega)).trans ((heap_alloc_old w6.drew _ (show q < w6.heap.size by omega)).trans rfl))
          clear HB6 HB8 cN3 HRP HSP3 HXB3 HKI HDY hkb
          go_wp2_with fail
          refine wp_region_noPanic ?_
          refine wp_region_held_drew (S := (fun w' => ∀ q, q < w.heap.size → w'.heap[q]? = w6.heap[q]?)) (by kernel_rfl) (fun q _ => rfl) (fun hH => ?_)
          refine tk (i := 0) (v := ?_) ?_ ?_
          rotate_left
          · intro w' hSw; go_simp; try rfl
          try simp only [q0]
          refine tk (i := 1) (v := ?_) ?_ ?_
          rotate_left
          · intro w' hSw; go_simp; try rfl
          try simp only [q0]
          refine tk (i := 2) (v := ?_) ?_ ?_
          rotate_left
          · intro w' hSw; go_simp; try rfl
          try simp only [q0]
          refine tk (i := 3) (v := ?_) ?_ ?_
          rotate_left
          · intro w' hSw; go_simp; try rfl
          try simp only [q0]
          refine wpAnyH_take (i := 4) rfl (by kernel_rfl) (by kernel_rfl) (by kernel_rfl) (fun _ _ _ h => h) (yields_at (p := pa.add (j * 32)) (cs := idC p) (by rfl) rfl rfl (fun w' hw' => HRP6.out w' hw') Tryz.underlying46 rfl HPZ.out) (by assumption) ?_
          try simp only [q0]
          refine tk (i := 5) (v := ?_) ?_ ?_
          rotate_left
          · intro w' hSw; go_simp; try rfl
          try simp only [q0]
          refine tk (i := 6) (v := ?_) ?_ ?_
          rotate_left
          · intro w' hSw; go_simp; try rfl
          try simp only [q0]
          refine tk (i := 7) (v := ?_) ?_ ?_
          rotate_left
          · intro w' hSw; go_simp; try rfl
          try simp only [q0]
          refine tk (i := 8) (v := ?_) ?_ ?_
          rotate_left
          · intro w' hSw; go_simp; try rfl
          try simp only [q0]
          refine wpAnyH_ready (rs := [9]) (by kernel_rfl) (by simp) ?_
          refine AllReadyH.cons rfl (fun K hK => ?_) AllReadyH.nil
          have q0 := cN6
          go_simp
          refine hK.out _ _ (fun q _ => rfl) (fun _ => ?_)
          clear hK K
          try simp only [q0]
          refine tk (i := 10) (v := ?_) ?_ ?_
          rotate_left
          · intro w' hSw; go_simp; try rfl
          try simp only [q0]
          refine wpAnyH_take (i := 11) rfl (by kernel_rfl) (by kernel_rfl) (by kernel_rfl) (fun _ _ _ h => h) (yields_bd_dp (d := (p, dd + 1)) Dp.tyR (by rfl) rfl rfl (by first | rfl | exact HDN.out) HPP.out) (by assumption) ?_
          try simp only [q0]
          refine wpAnyH_ready (rs := [12]) (by kernel_rfl) (by simp) ?_
          refine AllReadyH.cons rfl (fun K hK => ?_) AllReadyH.nil
          rw [if_pos (by rfl)]
          refine wp_bsDp Dp.tyR (d := (p, dd + 1)) (x := .tmp 86) rfl rfl HPP.out ?_
          refine hK.out _ _ (fun q hq => (heap_alloc_old w6.drew _ (show q < w6.heap.size by omega)).trans rfl) (fun _ => ?_)
          clear hK K
          try simp only [q0]
          refine wpAnyH_ready (rs := [13]) (by kernel_rfl) (by simp) ?_
          refine AllReadyH.cons rfl (fun K hK => ?_) AllReadyH.nil
          rw [if_pos (by rfl)]
          refine wp_ap_dp Dp.tyR (v := .slice (some ya) Y.length yc) (d := (p, dd + 1)) (base := w2.heap.size) (.tmp 75) (.tmp 87) rfl rfl rfl HOY.out hbs6 hY2 HPP.out (fun v' w7 HO2 HG4 HN4 => ?_)
          refine hK.out _ _ (fun q hq => HS7.out w7 HG4.out q hq) (fun _ => ?_)
          clear hK K
          try simp only [q0]
          refine tk (i := 14) (v := ?_) ?_ ?_
          rotate_left
          · intro w' hSw; go_simp; try rfl
          try simp only [q0]
          refine wpAnyH_done (by kernel_rfl) ?_ _
          refine NoPanic.normal ?_
          have HBY7 := Lib.hid (((HBY6.out.drew).alloc (show w2.heap.size ≤ w6.heap.size by omega) (.cells (Dp.C (p, dd + 1)).toArray 55)).grown HG4.out (by simp; have : w6.drew.heap.size = w6.heap.size := rfl; omega) (fun q hq => (HDY6.out.own.lt q hq).1))
          clear HG4 HN4 cN6 hwd hbs6
          go_wp2_with fail
          go_roundw
          case rel => exact ⟨j + 1, by omega, by go_num, Lib.hid (by rw [HYS2.out, HNE.out]; exact HO2.out), HBY7⟩
          case measure => simp [intOf]; omega
         ·
          have hkb : (Gr.kd L p == 3) = false := by simpa using hk3
          have HNE := Lib.hid (show Y ++ Dp.news (Gr.cm L) Y (dd + 1) [p] = Y from by rw [Dp.news_one, if_neg (fun h => hk3 (by have h1 := h.1; rw [Gr.cm_kd] at h1; exact of_decide_eq_true h1)), List.append_nil])
          clear hk3 hpin
          go_wp2_with fail
          refine wp_region_noPanic ?_
          refine wp_region_held_drew (S := (fun w' => ∀ q, q < wr3.heap.size → w'.heap[q]? = wr3.heap[q]?)) (by kernel_rfl) (fun q _ => rfl) (fun hH => ?_)
          refine tk (i := 0) (v := ?_) ?_ ?_
          rotate_left
          · intro w' hSw; go_simp; try rfl
          try simp only [q0]
          refine tk (i := 1) (v := ?_) ?_ ?_
          rotate_left
          · intro w' hSw; go_simp; try rfl
          try simp only [q0]
          refine tk (i := 2) (v := ?_) ?_ ?_
          rotate_left
          · intro w' hSw; go_simp; try rfl
          try simp only [q0]
          refine tk (i := 3) (v := ?_) ?_ ?_
          rotate_left
          · intro w' hSw; go_simp; try rfl
          try simp only [q0]
          refine wpAnyH_take (i := 4) rfl (by kernel_rfl) (by kernel_rfl) (by kernel_rfl) (fun _ _ _ h => h) (yields_at (p := pa.add (j * 32)) (cs := idC p) (by rfl) rfl rfl (fun w' hw' => HRP.out w' hw') Tryz.underlying46 rfl HPZ.out) (by assumption) ?_
          try simp only [q0]
          refine wpAnyH_ready (rs := [5]) (by kernel_rfl) (by simp) ?_
          refine AllReadyH.cons rfl (fun K hK => ?_) AllReadyH.nil
          go_simp
          with_reducible refine HAT.out.mono ?_
          rintro r w8 ⟨rfl, hb8⟩
          have HB8 := Lib.hid (show Below wr3.heap.size wr3 w8 from (Below.refl _ wr3).drew.trans hb8)
          clear hb8 HAT
          go_wp2_with fail
          refine hK.out _ _ (fun g hg => HB8.out.block g hg) (fun _ => ?_)
          clear hK K
          try simp only [q0]
          refine tk (i := 6) (v := ?_) ?_ ?_
          rotate_left
          · intro w' hSw; go_simp; try rfl
          try simp only [q0]
          refine tk (i := 7) (v := ?_) ?_ ?_
          rotate_left
          · intro w' hSw; go_simp; try rfl
          try simp only [q0]
          refine tk (i := 8) (v := ?_) ?_ ?_
          rotate_left
          · intro w' hSw; have q0 := HSP3.out _ hSw; go_simp; try rfl
          try simp only [q0]
          refine tk (i := 9) (v := ?_) ?_ ?_
          rotate_left
          · intro w' hSw; go_simp; try rfl
          try simp only [q0]
          refine tk (i := 10) (v := ?_) ?_ ?_
          rotate_left
          · intro w' hSw; go_simp; try rfl
          try simp only [q0]
          refine tk (i := 11) (v := ?_) ?_ ?_
          rotate_left
          · intro w' hSw; go_simp; try rfl
          try simp only [q0]
          refine wpAnyH_take (i := 12) rfl (by kernel_rfl) (by kernel_rfl) (by kernel_rfl) (fun _ _ _ h => h) (yields_at (p := pa.add (j * 32)) (cs := idC p) (by rfl) rfl rfl (fun w' hw' => HRP.out w' hw') Tryz.underlying46 rfl HPZ.out) (by assumption) ?_
          try simp only [q0]
          refine wpAnyH_ready (rs := [13]) (by kernel_rfl) (by simp) ?_
          refine AllReadyH.cons rfl (fun K hK => ?_) AllReadyH.nil
          go_simp
          have HKD := Lib.hid (HKI.out w8 HB8.out)
          with_reducible refine HKD.out.mono ?_
          rintro r w6 ⟨rfl, hb6⟩
          have HB6 := Lib.hid (show Below wr3.heap.size wr3 w6 from HB8.out.trans (hb6.mono HB8.out.size))
          clear hb6 HKD
          go_wp2_with fail
          refine hK.out _ _ (fun g hg => HB6.out.block g hg) (fun _ => ?_)
          clear hK K
          try simp only [q0]
          refine tk (i := 14) (v := ?_) ?_ ?_
          rotate_left
          · intro w' hSw; go_simp; try rfl
          try simp only [q0]
          refine tk (i := 15) (v := ?_) ?_ ?_
          rotate_left
          · intro w' hSw; go_simp; try rfl
          try simp only [q0]
          refine wpAnyH_done (by kernel_rfl) ?_ _
          refine NoPanic.normal ?_
          have HDY6 := Lib.hid (HDY.out.below HB6.out)
          have HBY6 := Lib.hid (HBY.out.trans (HB6.out.mono hw3s))
          clear HB6 HB8 cN3 HRP HSP3 HXB3 HKI HDY hkb
          go_wp2_with fail
          go_roundw
          case rel => exact ⟨j + 1, by omega, by go_num, Lib.hid (by rw [HYS2.out, HNE.out]; exact HDY6.out), HBY6⟩
          case measure => simp [intOf]; omega
       ·
        have hjl' : ¬ (j : Int) < (P.length : Int) := by omega
        have HOE := Lib.hid (HYE.out (by omega))
        clear cN3
        go_wp2_with fail
        go_roundw
        case rel => exact ⟨k + 1, Y, by have := HYK.out; have := (List.getElem?_eq_some_iff.1 this).1; omega, by go_num, HOE, HDY, HBY⟩
        case measure => simp [intOf]; omega
     ·
      have hdm' : ¬ (dd : Int) < (most : Int) := by omega
      have HST2 := Lib.hid (show O = Dp.st (Gr.cm L) (Gr.prs L) most (Dp.ends L J) (k + 1) from by rw [HST.out, if_neg hdm])
      have hyc : ∀ j x, (Dp.C (id, dd))[j]? = some x → w5.cell? ((a.add (k * 33)).add j) = some x := by
       obtain ⟨ya', e, hyc⟩ := HD5.out.elem k (id, dd) HX.out
       injection e with e; subst e; exact hyc
      have cN5 : w5.cell? ⟨(a.add (k * 33)).block, (a.add (k * 33)).off + 32, none⟩ = some (.int .i64 (dd : Int)) := dp_nn (d := (id, dd)) HIL.out hyc
      clear HST hyc
      go_wp2_with fail
      go_loopw [7, 12] (fun ov i wr => ov = .slice (some a) O.length oc ∧ i = .int .i64 0 ∧ wr = w5) (fun _ i _ => 0)
      case atStart => exact ⟨rfl, rfl, rfl⟩
      case round =>
       obtain ⟨rfl, rfl, rfl⟩ := hrel
       rcases Nat.eq_zero_or_pos P.length with hP0 | hP0
       ·
        have hP1 : ¬ (0 : Int) < (P.length : Int) := by omega
        go_wp2_with fail
        go_roundw
        case rel => exact ⟨k + 1, O, by omega, by go_num, HST2, HD5, HB25⟩
        case measure => simp [intOf]; omega
       ·
        have hP1 : (0 : Int) < (P.length : Int) := by omega
        go_wp2_with fail
        go_roundw
        case rel => exact ⟨k + 1, O, by omega, by go_num, HST2, HD5, HB25⟩
        case measure => simp [intOf]; omega
    ·
     have hlt' : ¬ (k : Int) < (O.length : Int) := by omega
     have HEND := Lib.hid (show Dp.Is (Gr.cm L) (Gr.prs L) most (Dp.ends L J) O from by
      have := Dp.still_end (cm := Gr.cm L) (pr := Gr.prs L) (most := most) (F := Dp.ends L J) (k := k) (by rw [← HO.out]; omega)
      rwa [← HO.out] at this)
     have HD9 := Lib.hid (show OwnD 55 wr2 w.heap.size (.slice oo O.length oc) O from ⟨⟨HD.out.own.1, by
      rcases HD.out.own.2 with h0 | ⟨g, c, cur, e1, e2, e3⟩
      · exact .inl h0
      · exact .inr ⟨g, c, cur, e1, by omega, e3⟩⟩, HD.out.len⟩)
     have HL9 := Lib.hid (Dp.few0 HIV.out.nd HIV.out.com)
     go_wp2_with fail
     go_ret
     exact ⟨_, O, rfl, HD9.out, HEND.out, HL9.out, HBW.out⟩
end Go.Proofs.YtkcjhkfelaplkaaGreatDoor
