/-
  WALKS OF LAYER 12: the document's Ends.
-/
import Derived.Test.YtfckfjndnhjpoaaGreatDoorRh
import Derived.Test.YtfckfjndnhjpoaaGreatDoorQy
import Derived.Test.YtfckfjndnhjpoaaGreatDoorQv
import Derived.Test.YtfckfjndnhjpoaaGreatDoorQa
set_option linter.unusedVariables false
set_option linter.unusedSimpArgs false
set_option maxHeartbeats 8000000
set_option maxRecDepth 100000
section
namespace Go.Proofs.YtfckfjndnhjpoaaGreatDoor
open Go.RowKit
theorem ld_idg {ops : Array Oper} {rest : List Oper} {op : Oper} {a : Act} {w : World} {Q : Exit → Act → World → Prop} {x : Operand} {p : Addr} {l : List UInt8} (hw : Region.wanted op (yielded ops a.tmps) = true) (ho : op.op = .load 42 x) (hx : a.eval x = .pointer (some p)) (hc : ∀ j v, (idC l)[j]? = some v → w.cell? (p.add j) = some v) (hl : l.length = 32)
  (h : wpList Tryz.prog ops Q rest (a.put op.dst (.agg (idC l).toArray)) w) : wpList Tryz.prog ops Q (op :: rest) a w :=
 wpList_step fun K hK => by rw [if_pos hw]; exact wp_load_at 42 x ho p hx _ _ hc Tryz.underlying42 rfl (idsize hl) (hK _ _ h)
theorem Gr.cm_kd (L : List St.It) (x : List UInt8) : Gr.cm L x = decide (Gr.kd L x = 3) := by
 unfold Gr.cm Gr.kd
 cases Gr.ob L x <;> simp
theorem Gr.eds_snoc {L : List St.It} {F : List (List UInt8)} {k : Nat} {id : List UInt8} (h : F[k]? = some id) : Gr.eds L (F.take (k + 1)) = Gr.eds L (F.take k) ++ Gr.eds L [id] := by
 rw [take_id h, Gr.eds_app]
namespace R
theorem refends_any (B kk : Nat) (w : World) (v fv : Value) (L : List St.It) (F : List (List UInt8)) (h : DSt B kk w v L) (hF : IdsAt w fv F) (hFl : ∀ i ∈ F, i.length = 32) (hFn : F.length ≤ 1000) :
  Calls Tryz.prog 24 #[.agg #[v], fv] w fun r w' => ∃ ov, r = .returned ov ∧ OwnI w' w.heap.size ov (Wk.nw (Gr.cm L) [] (Gr.eds L F)) ∧ Below w.heap.size w w' := by
 have hz24 := (zero_of_info zero24).1
 have HS0 := Lib.hid (show (idC zId).toArray.size = 32 by decide)
 generalize (idC zId).toArray = z at hz24 HS0
 have HEA := Lib.hid (fun W' (hb : Below w.heap.size w W') (id : List UInt8) (hid : id.length = 32) => (refend_any B kk W' v L id (h.below hb) hid).mono fun r w' hh => aend_any hh)
 have HKA := Lib.hid (fun W' (hb : Below w.heap.size w W') (id : List UInt8) (hid : id.length = 32) => refkindX_any W' v L id (h.old.below hb) hid)
 have HFF := Lib.hid hF
 have HFL := Lib.hid hFl
 obtain ⟨fo, fc, rfl⟩ : ∃ ao cap, fv = .slice ao F.length cap := by simpa using RowsAt.form hF
 obtain ⟨so, sc, rfl⟩ := h.form
 clear h hF hFl
 have HB1 := Lib.hid (below_new w (.cells #[.slice so L.length sc] 28))
 have HX1 := Lib.hid (heap_alloc_last w (.cells #[.slice so L.length sc] 28))
 go_enter Tryz.func24, Tryz.ntmps24
 go_wp2_with fail
 change Code.wp _ _ _ _ (w.alloc (.cells #[.slice so L.length sc] 28))
 have HZ1 := Lib.hid (show (w.alloc (.cells #[.slice so L.length sc] 28)).heap.size = w.heap.size + 1 by simp)
 generalize w.alloc (.cells #[.slice so L.length sc] 28) = w1 at *
 go_loopw [5, 6] (fun ov i wr => ∃ (k : Nat) (O : List (List UInt8)), k ≤ F.length ∧ i = .int .i64 k ∧ O.length ≤ k ∧ Hid (O = Wk.nw (Gr.cm L) [] (Gr.eds L (F.take k))) ∧ Hid (OwnI wr w1.heap.size ov O) ∧ Hid (Below w1.heap.size w1 wr)) (fun _ i _ => F.length - (intOf i).toNat)
 case atStart => exact ⟨0, [], by omega, rfl, by simp, (show ([] : List (List UInt8)) = _ from by simp [Gr.eds, Wk.nw]), OwnI.nil _ _, Below.refl _ _⟩
 case round =>
  obtain ⟨k, O, hk, rfl, hOk, HE, HO, HB⟩ := hrel
  obtain ⟨oo, oc, rfl⟩ := HO.out.form
  have hbs := HB.out.size
  have hz1 := HZ1.out
  have HBW := Lib.hid (HB1.out.trans (HB.out.mono HB1.out.size))
  have HXR := Lib.hid ((HB.out.block w.heap.size (by omega)).trans HX1.out)
  by_cases hlt : k < F.length
  ·
   have hlt' : (k : Int) < (F.length : Int) := by omega
   have hk0 : (0 : Int) ≤ (k : Int) := by omega
   obtain ⟨id, hid⟩ : ∃ id, F[k]? = some id := ⟨F[k], List.getElem?_eq_getElem hlt⟩
   have HIL := Lib.hid (HFL.out id (List.mem_of_getElem? hid))
   have HIZ := Lib.hid (idsize HIL.out)
   obtain ⟨a, rfl, _, hc⟩ := (RowsAt.below HFF.out HBW.out).elem k (idC id) (by simp [hid])
   have HSP := Lib.hid (show ∀ W' : World, (∀ g, g < wr.heap.size → W'.heap[g]? = wr.heap[g]?) → W'.cell? ⟨w.heap.size, 0, none⟩ = some (.slice so L.length sc) from fun W' hw => by
    rw [World.cell?_of_block (w := wr) (hw w.heap.size (by omega)), cell_of_row _ _ 0 _ _ _ HXR.out]; rfl)
   have HRW := Lib.hid (show ∀ W' : World, (∀ g, g < wr.heap.size → W'.heap[g]? = wr.heap[g]?) → ∀ j u, (idC id)[j]? = some u → W'.cell? ((a.add (k * 32)).add j) = some u from fun W' hw j u hu => by
    have h1 := hc j u hu
    rw [World.cell?_of_block (w := wr) (hw _ (World.block_lt_of_cell? _ _ h1))]; exact h1)
   have HBD := Lib.hid HBW.out.drew
   have HEN := Lib.hid (fun W' hb => HEA.out W' hb id HIL.out)
   have HES := Lib.hid (Gr.eds_snoc (L := L) hid)
   clear hc hid
   go_upto_region 5 with (fail)
   go_cut [7, 8] from 16 to 24 (fun iv isv wx => ∃ g x is, iv = .pointer (some ⟨g, 0, none⟩) ∧ isv = .bool is ∧ wr.heap.size ≤ g ∧ Hid (x.length = 32) ∧ Hid (wx.heap[g]? = some (.cells (idC x).toArray 42)) ∧ Hid (if is = true then Gr.endF L (L.length + 1) id = some x else Gr.endF L (L.length + 1) id = none) ∧ Hid (Below wr.heap.size wr wx))
   case first =>
    refine wp_region_noPanic ?_
    refine wp_region_held_drew (S := (fun w' => ∀ g, g < wr.heap.size → w'.heap[g]? = wr.heap[g]?)) (by kernel_rfl) (fun g _ => rfl) (fun hH => ?_)
    refine tk (i := 0) (v := ?_) ?_ ?_
    rotate_left
    · intro w' hSw; have q0 := HSP.out _ hSw; go_simp; try rfl
    try simp only [q0]
    refine tk (i := 1) (v := ?_) ?_ ?_
    rotate_left
    · intro w' hSw; go_simp; try rfl
    try simp only [q0]
    refine tk (i := 2) (v := ?_) ?_ ?_
    rotate_left
    · intro w' hSw; go_simp; try rfl
    try simp only [q0]
    refine tk (i := 3) (v := ?_) ?_ ?_
    rotate_left
    · intro w' hSw; go_simp; try rfl
    try simp only [q0]
    refine wpAnyH_take (i := 4) rfl (by kernel_rfl) (by kernel_rfl) (by kernel_rfl) (fun _ _ _ h => h) (yields_at (p := a.add (k * 32)) (cs := idC id) (by rfl) rfl rfl (fun w' hw' => HRW.out w' hw') Tryz.underlying42 rfl HIZ.out) (by assumption) ?_
    try simp only [q0]
    refine wpAnyH_ready (rs := [5, 9]) (by kernel_rfl) (by simp) ?_
    refine AllReadyH.cons rfl (fun K hK => ?_) (AllReadyH.cons rfl (fun K hK => ?_) AllReadyH.nil)
    ·
     go_simp
     with_reducible refine (HEN.out _ HBD.out).mono ?_
     rintro r w5 ⟨x, is, rfl, hxl, hb5, hq⟩
     have HXL := Lib.hid hxl
     have HB5 := Lib.hid (show Below wr.heap.size wr w5 from (Below.refl wr.heap.size wr).drew.trans hb5)
     have hz5 : wr.heap.size ≤ w5.heap.size := HB5.out.size
     have HQ := Lib.hid hq
     have HXI := Lib.hid (show (idC x).toArray.size = 32 by simpa [idC_length] using hxl)
     clear hxl hb5 hq
     go_wp2_with fail
     refine hK.out _ _ (fun g hg => HB5.out.block g hg) (fun _ => ?_)
     clear hK K
     try simp only [q0]
     refine tk (i := 6) (v := ?_) ?_ ?_
     rotate_left
     · intro w' hSw; go_simp; try rfl
     try simp only [q0]
     refine tk (i := 7) (v := ?_) ?_ ?_
     rotate_left
     · intro w' hSw; go_simp; try rfl
     try simp only [q0]
     refine tk (i := 8) (v := ?_) ?_ ?_
     rotate_left
     · intro w' hSw; go_simp; try rfl
     try simp only [q0]
     refine wpAnyH_ready (rs := [9]) (by kernel_rfl) (by simp) ?_
     refine AllReadyH.cons rfl (fun K hK => ?_) AllReadyH.nil
     go_simp
     refine hK.out _ _ (fun g hg => (heap_alloc_old _ _ (by omega)).trans (HB5.out.block g hg)) (fun _ => ?_)
     clear hK K
     try simp only [q0]
     have HN6 := Lib.hid (heap_alloc_last w5 (.cells z 42))
     refine wpAnyH_ready (rs := [10]) (by kernel_rfl) (by simp) ?_
     refine AllReadyH.cons rfl (fun K hK => ?_) AllReadyH.nil
     rw [if_pos (by rfl)]
     refine wp_store_row 42 (.tmp 7) (.tmp 23) rfl w5.heap.size (idC x).toArray rfl rfl 42 _ HN6.out (idsize2 HXL.out) (by rw [HS0.out, HXI.out]) (all_oneCell_toArray (idC_one x)) ?_
     refine hK.out _ _ (fun g hg => (setRow_other _ _ _ _ (by omega)).trans ((heap_alloc_old _ _ (by omega)).trans (HB5.out.block g hg))) (fun _ => ?_)
     clear hK K
     try simp only [q0]
     refine tk (i := 11) (v := ?_) ?_ ?_
     rotate_left
     · intro w' hSw; go_simp; try rfl
     try simp only [q0]
     refine wpAnyH_done (by kernel_rfl) ?_ _
     refine NoPanic.normal ?_
     go_wp2_with fail
     go_meet
     case rel => exact ⟨w5.heap.size, x, is, rfl, rfl, hz5, HXL.out, setRow_heap _ _ _ _ _ _ HN6.out, HQ.out, below_setRow (HB5.out.alloc hz5 _) hz5 _⟩
    ·
     go_simp
     refine hK.out _ _ (fun g hg => heap_alloc_old _ _ hg) (fun _ => ?_)
     clear hK K
     try simp only [q0]
     have HB4 := Lib.hid (show Below wr.heap.size wr (wr.alloc (.cells z 42)).drew from ((Below.refl _ _).alloc (Nat.le_refl _) _).drew)
     have HB4W := Lib.hid (HBW.out.trans (HB4.out.mono HBW.out.size))
     refine wpAnyH_ready (rs := [5]) (by kernel_rfl) (by simp) ?_
     refine AllReadyH.cons rfl (fun K hK => ?_) AllReadyH.nil
     go_simp
     with_reducible refine (HEN.out _ HB4W.out).mono ?_
     rintro r w5 ⟨x, is, rfl, hxl, hb5, hq⟩
     have HXL := Lib.hid hxl
     have HB5 := Lib.hid (show Below wr.heap.size wr w5 from HB4.out.trans (hb5.mono (by simp)))
     have hz5 : wr.heap.size + 1 ≤ w5.heap.size := by have := hb5.size; simpa using this
     have HN6 := Lib.hid (show w5.heap[wr.heap.size]? = some (.cells z 42) from (hb5.block wr.heap.size (by simp)).trans (heap_alloc_last wr (.cells z 42)))
     have HQ := Lib.hid hq
     have HXI := Lib.hid (show (idC x).toArray.size = 32 by simpa [idC_length] using hxl)
     clear hxl hb5 hq
     go_wp2_with fail
     refine hK.out _ _ (fun g hg => HB5.out.block g hg) (fun _ => ?_)
     clear hK K
     try simp only [q0]
     refine tk (i := 6) (v := ?_) ?_ ?_
     rotate_left
     · intro w' hSw; go_simp; try rfl
     try simp only [q0]
     refine tk (i := 7) (v := ?_) ?_ ?_
     rotate_left
     · intro w' hSw; go_simp; try rfl
     try simp only [q0]
     refine tk (i := 8) (v := ?_) ?_ ?_
     rotate_left
     · intro w' hSw; go_simp; try rfl
     try simp only [q0]
     refine wpAnyH_ready (rs := [10]) (by kernel_rfl) (by simp) ?_
     refine AllReadyH.cons rfl (fun K hK => ?_) AllReadyH.nil
     rw [if_pos (by rfl)]
     refine wp_store_row 42 (.tmp 7) (.tmp 23) rfl wr.heap.size (idC x).toArray rfl rfl 42 _ HN6.out (idsize2 HXL.out) (by rw [HS0.out, HXI.out]) (all_oneCell_toArray (idC_one x)) ?_
     refine hK.out _ _ (fun g hg => (setRow_other _ _ _ _ (by omega)).trans (HB5.out.block g hg)) (fun _ => ?_)
     clear hK K
     try simp only [q0]
     refine tk (i := 11) (v := ?_) ?_ ?_
     rotate_left
     · intro w' hSw; go_simp; try rfl
     try simp only [q0]
     refine wpAnyH_done (by kernel_rfl) ?_ _
     refine NoPanic.normal ?_
     go_wp2_with fail
     go_meet
     case rel => exact ⟨wr.heap.size, x, is, rfl, rfl, Nat.le_refl _, HXL.out, setRow_heap _ _ _ _ _ _ HN6.out, HQ.out, below_setRow HB5.out (Nat.le_refl _) _⟩
   case rest =>
    obtain ⟨g, x, is, rfl, rfl, hg, HXL, HG, HQ, HBX⟩ := hcut
    have HOC := Lib.hid (HO.out.below HBX.out)
    have HBC := Lib.hid (HB.out.trans (HBX.out.mono hbs))
    have HID := Lib.hid (row_news HG.out)
    have HIN := Lib.hid (in_any wc _ O x HOC.out.rows HO.out.len HXL.out (by omega))
    have hgl := (Array.getElem?_eq_some_iff.1 HG.out).1
    have HBWC := Lib.hid (HBW.out.trans (HBX.out.mono HBW.out.size))
    have HXC := Lib.hid ((HBX.out.block w.heap.size (by omega)).trans HXR.out)
    have HST := Lib.hid (show Wk.nw (Gr.cm L) [] (Gr.eds L (F.take (k + 1))) = O ++ Wk.nw (Gr.cm L) O (Gr.eds L [id]) from by rw [HES.out, Wk.nw_app, List.nil_append, ← HE.out])
    have HBX2 := Lib.hid (show w.heap.size < wc.heap.size by have := HBX.out.size; omega)
    clear HSP HRW HBD HEN HES HEA HO HB HBX HE HBW HXR
    have HMO := Lib.hid (Gr.endF_more L id)
    have cs0 : wc.cell? ⟨w.heap.size, 0, none⟩ = some (.slice so L.length sc) := by rw [cell_of_row _ _ 0 _ _ _ HXC.out]; rfl
    by_cases hin : x ∈ O
    ·
     have HNW := Lib.hid (show Wk.nw (Gr.cm L) [] (Gr.eds L (F.take (k + 1))) = O from by
      rw [HST.out, Gr.eds, ← HMO.out]
      have := HQ.out
      cases is with
      | false => simp at this; simp [this, Gr.eds, Wk.nw]
      | true => simp at this; simp [this, Gr.eds, Wk.nw, hin])
     rw [decide_eq_true hin] at HIN
     clear HST HMO HQ hin
     go_wp2_with ((with_reducible refine ld_id (l := x) (x := .tmp 7) (p := ⟨g, 0, none⟩) ?_ ?_ ?_ HID.out HXL.out ?_); rfl; rfl; rfl)
     with_reducible refine HIN.out.mono ?_
     rintro r w2 ⟨rfl, hb2⟩
     have HO2 := Lib.hid (HOC.out.below hb2)
     have HB2 := Lib.hid (HBC.out.trans (hb2.mono HBC.out.size))
     clear hb2 HIN HOC HBC HID cs0 HXC
     cases is with
     | false =>
       go_wp2_with fail
       go_roundw
       case rel => exact ⟨k + 1, O, by omega, by go_num, by omega, HNW.out.symm, HO2.out, HB2.out⟩
       case measure => simp [intOf]; omega
     | true =>
       go_wp2_with fail
       go_roundw
       case rel => exact ⟨k + 1, O, by omega, by go_num, by omega, HNW.out.symm, HO2.out, HB2.out⟩
       case measure => simp [intOf]; omega
    ·
     rw [decide_eq_false hin] at HIN
     have HNI := Lib.hid hin
     clear hin
     go_wp2_with ((with_reducible refine ld_id (l := x) (x := .tmp 7) (p := ⟨g, 0, none⟩) ?_ ?_ ?_ HID.out HXL.out ?_); rfl; rfl; rfl)
     with_reducible refine HIN.out.mono ?_
     rintro r w2 ⟨rfl, hb2⟩
     have HO2 := Lib.hid (HOC.out.below hb2)
     have HB2 := Lib.hid (HBC.out.trans (hb2.mono HBC.out.size))
     have HG2 := Lib.hid ((hb2.block g hgl).trans HG.out)
     have HX2 := Lib.hid ((hb2.block w.heap.size (by have := HBX2.out; omega)).trans HXC.out)
     have HBW2 := Lib.hid (HBWC.out.trans (hb2.mono HBWC.out.size))
     clear hb2 HIN HOC HBC HID cs0 HXC HG HBWC
     cases is with
     | false =>
       have HNW := Lib.hid (show Wk.nw (Gr.cm L) [] (Gr.eds L (F.take (k + 1))) = O from by
        rw [HST.out, Gr.eds, ← HMO.out]
        have := HQ.out
        simp at this; simp [this, Gr.eds, Wk.nw])
       clear HST HMO HQ
       go_wp2_with fail
       go_roundw
       case rel => exact ⟨k + 1, O, by omega, by go_num, by omega, HNW.out.symm, HO2.out, HB2.out⟩
       case measure => simp [intOf]; omega
     | true =>
       have cs2 : w2.cell? ⟨w.heap.size, 0, none⟩ = some (.slice so L.length sc) := by rw [cell_of_row _ _ 0 _ _ _ HX2.out]; rfl
       have HID2 := Lib.hid (row_news HG2.out)
       have HKI := Lib.hid (HKA.out w2 HBW2.out x HXL.out)
       by_cases hk3 : Gr.kd L x = 3
       ·
        have HNW := Lib.hid (show Wk.nw (Gr.cm L) [] (Gr.eds L (F.take (k + 1))) = O ++ [x] from by
         rw [HST.out, Gr.eds, ← HMO.out]
         have := HQ.out
         simp at this; simp [this, Gr.eds, Wk.nw, HNI.out, Gr.cm_kd, hk3])
        rw [hk3] at HKI
        clear HST HMO HQ hk3
        go_wp2_with ((with_reducible refine ld_idg (l := x) (x := .tmp 7) (p := ⟨g, 0, none⟩) ?_ ?_ ?_ HID2.out HXL.out ?_); rfl; rfl; rfl)
        with_reducible refine HKI.out.mono ?_
        rintro r w3 ⟨rfl, hb3⟩
        have HO3 := Lib.hid (HO2.out.below hb3)
        have HB3 := Lib.hid (HB2.out.trans (hb3.mono HB2.out.size))
        have HID3 := Lib.hid (row_news ((hb3.block g (Array.getElem?_eq_some_iff.1 HG2.out).1).trans HG2.out))
        have hbs3 := HB3.out.size
        have hO2000 : O.length ≤ 2000 := by omega
        clear hb3 HKI HO2 HB2 HID2 cs2 HX2 HG2
        go_wp2_with (first
         | ((with_reducible refine ld_id (l := x) (x := .tmp 7) (p := ⟨g, 0, none⟩) ?_ ?_ ?_ HID3.out HXL.out ?_); rfl; rfl; rfl)
         | ((with_reducible refine bs_id2 (l := x) (x := .tmp 40) ?_ ?_ ?_ HXL.out ?_); rfl; rfl; rfl)
         | ((with_reducible refine ap_id (.tmp 39) (.tmp 41) ?_ ?_ ?_ ?_ HO3.out hbs3 HXL.out hO2000 (fun v' w' h1 h2 => ?_)); rfl; rfl; rfl; rfl))
        go_roundw
        case rel => exact ⟨k + 1, O ++ [x], by omega, by go_num, by simp; omega, HNW.out.symm, h1.out, HO3.out.grown HB3.out hbs3 h2.out⟩
        case measure => simp [intOf]; omega
       ·
        have HNW := Lib.hid (show Wk.nw (Gr.cm L) [] (Gr.eds L (F.take (k + 1))) = O from by
         rw [HST.out, Gr.eds, ← HMO.out]
         have := HQ.out
         simp at this; simp [this, Gr.eds, Wk.nw, Gr.cm_kd, hk3])
        have hkb : (Gr.kd L x == 3) = false := by simpa using hk3
        clear HST HMO HQ hk3
        go_wp2_with ((with_reducible refine ld_idg (l := x) (x := .tmp 7) (p := ⟨g, 0, none⟩) ?_ ?_ ?_ HID2.out HXL.out ?_); rfl; rfl; rfl)
        with_reducible refine HKI.out.mono ?_
        rintro r w3 ⟨rfl, hb3⟩
        have HO3 := Lib.hid (HO2.out.below hb3)
        have HB3 := Lib.hid (HB2.out.trans (hb3.mono HB2.out.size))
        clear hb3 HKI HO2 HB2 HID2 cs2 HX2 HG2
        go_wp2_with fail
        go_roundw
        case rel => exact ⟨k + 1, O, by omega, by go_num, by omega, HNW.out.symm, HO3.out, HB3.out⟩
        case measure => simp [intOf]; omega
  ·
   have hlt' : ¬ (k : Int) < (F.length : Int) := by omega
   have HE2 := Lib.hid (show O = Wk.nw (Gr.cm L) [] (Gr.eds L F) from by have := HE.out; rwa [List.take_of_length_le (by omega)] at this)
   have HOO := Lib.hid (show OwnI wr w.heap.size (.slice oo O.length oc) O from ⟨own_le0 HO.out.own (by omega), HO.out.len⟩)
   clear HE HO HXR
   go_wp2_with fail
   go_ret
   exact ⟨_, rfl, by rw [← HE2.out]; exact HOO.out, HBW.out⟩
end R
end Go.Proofs.YtfckfjndnhjpoaaGreatDoor
end
section
namespace Go.Proofs.YtfckfjndnhjpoaaGreatDoor
open Go.RowKit
theorem Gr.prs_obz (L : List St.It) (id : List UInt8) : (Gr.obz L id).pars = Gr.prs L id := by
 unfold Gr.obz Gr.prs
 cases Gr.ob L id <;> rfl
namespace R
end R
end Go.Proofs.YtfckfjndnhjpoaaGreatDoor
end
section
namespace Go.Proofs.YtfckfjndnhjpoaaGreatDoor
open Go.RowKit
namespace R
theorem refobject_old (B kk : Nat) (w0 w : World) (v : Value) (L : List St.It) (id : List UInt8) (h : DSt B kk w0 v L) (hb0 : Below w0.heap.size w0 w) (hil : id.length = 32) :
  Calls Tryz.prog 23 #[.agg #[v], .agg (idC id).toArray] w fun r w' => ∃ cs ao bo ca cb, r = .returned (.agg cs) ∧ ObAt w0 cs (Gr.obz L id) ao bo ca cb ∧ Below w.heap.size w w' := by
 have hfew := h.few
 have HA := Lib.hid (fun W (hb : Below w.heap.size w W) => at_any W v L id (h.old.below (hb0.trans (hb.mono hb0.size))) hil)
 obtain ⟨bo', cap, rfl⟩ := h.form
 have hz28 := (zero_of_info zero28).1
 have HS0 := Lib.hid noF.size
 have HN0 := Lib.hid noF.one
 have HBN := Lib.hid built_none
 have HZA := Lib.hid zero_at
 have HH := Lib.hid h
 have HBZ := Lib.hid hb0
 have HIL := Lib.hid hil
 have hpl := St.pos_le L id
 have HV : Hid (St.has L id = false → atV L id = -1 ∧ Gr.obz L id = noOb) := Lib.hid (fun h => ⟨by unfold atV; rw [h]; rfl, by unfold Gr.obz; rw [Gr.ob_none h]; rfl⟩)
 have HW : Hid (St.has L id = true → atV L id = (St.pos L id : Int) ∧ ∃ x, L[St.pos L id]? = some x ∧ ∀ o, Rm.dec x.text.data.toList = some o → Gr.obz L id = o) := Lib.hid (fun h' => by
  obtain ⟨x, hx, he⟩ := St.has_at h.srt h'
  refine ⟨by unfold atV; rw [h']; rfl, x, hx, fun o ho => ?_⟩
  unfold Gr.obz
  rw [show Gr.ob L id = some o by rw [← he, Gr.ob_at h.srt hx, ho]]; rfl)
 generalize atV L id = Z at *
 generalize St.pos L id = pos at *
 generalize Gr.obz L id = OZ at *
 generalize (obC noOb nilV nilV).toArray = z at *
 clear h hil hb0
 have HB2 := Lib.hid (below2 w (.cells #[.slice bo' L.length cap] 28) (.cells (idC id).toArray 42))
 have HB3 := Lib.hid (HB2.out.alloc HB2.out.size (.cells z 54))
 have c2 := (box2_cell w (.slice bo' L.length cap) 28 (.cells (idC id).toArray 42))
 have HN2 := Lib.hid (row_news (new2 w (.cells #[.slice bo' L.length cap] 28) (.cells (idC id).toArray 42)))
 have HX3 := Lib.hid (heap_alloc_new ((w.alloc (.cells #[.slice bo' L.length cap] 28)).alloc (.cells (idC id).toArray 42)) (.cells z 54))
 have HBN3 := Lib.hid (below_new ((w.alloc (.cells #[.slice bo' L.length cap] 28)).alloc (.cells (idC id).toArray 42)) (.cells z 54))
 have hsz2 : ((w.alloc (.cells #[.slice bo' L.length cap] 28)).alloc (.cells (idC id).toArray 42)).heap.size = w.heap.size + 2 := by simp
 rw [hsz2] at HX3 HBN3
 have HN3 := Lib.hid (show ∀ j u, (idC id)[j]? = some u → _ from fun j u hu => (HBN3.out.cell (by have := World.block_lt_of_cell? _ _ (HN2.out j u hu); omega)).trans (HN2.out j u hu))
 have c3 := (HBN3.out.cell (p := ⟨w.heap.size, 0, none⟩) (show w.heap.size < w.heap.size + 2 by omega)).trans c2
 clear c2 HN2 HBN3 hsz2
 go_enter Tryz.func23, Tryz.ntmps23
 go_wp2_with ((with_reducible refine ld_id (x := .tmp 3) (p := ⟨w.heap.size + 1, 0, none⟩) ?_ ?_ ?_ HN3.out HIL.out ?_); rfl; rfl; rfl)
 refine (HA.out _ HB3.out).mono ?_
 rintro r w3 ⟨rfl, hb3⟩
 have hB := HB3.out.trans (hb3.mono HB3.out.size)
 have hB0 := HBZ.out.trans (hB.mono HBZ.out.size)
 have c4 := (hb3.cell (p := ⟨w.heap.size, 0, none⟩) (by simp; omega)).trans c3
 have E3 := Lib.hid ((hb3.block (w.heap.size + 2) (by simp)).trans HX3.out)
 have hlt3 := (Array.getElem?_eq_some_iff.1 E3.out).1
 clear hb3 c3 HA HN3 HB3 HX3 HB2
 cases hq : St.has L id with
 | false =>
   obtain ⟨rfl, rfl⟩ := (HV.out hq)
   clear HV HW hq
   go_wp2_with (first
    | ((with_reducible refine bd_obz ?_ ?_ HBN.out ?_); rfl; rfl)
    | ((with_reducible refine st_obr (x := .tmp 4) (y := .tmp 11) ?_ ?_ ?_ ?_ E3.out HS0.out HS0.out HN0.out ?_); rfl; rfl; rfl; rfl))
   refine bodyPost_ret (results_cell_row (fn := Tryz.f23) (p := 4) (by rfl) _ _ (w.heap.size + 2) _ _ _ _ (by rfl) (setRow_heap _ _ _ _ _ _ E3.out) Tryz.underlying54 rfl (obsize HS0.out)) rfl ⟨_, none, none, 0, 0, rfl, HZA.out _, below_setRow hB (by omega) _⟩
 | true =>
   obtain ⟨rfl, x, hx, hkd⟩ := HW.out hq
   clear HV HW hq
   have hlt : pos < L.length := (List.getElem?_eq_some_iff.1 hx).1
   obtain ⟨a, c, rfl, hd, hc0⟩ := HH.out.elem pos x hx
   have hc : ∀ (j : Nat) (u : Value), c[j]? = some u → w3.cell? ((a.add (pos * 105)).add j) = some u := fun j u hu => by
    have h1 := hc0 j u hu
    rw [hB0.cell (World.block_lt_of_cell? _ _ h1)]; exact h1
   have hxl := hd.idl
   obtain ⟨o, cs, ao, bo, ca, cb, rfl, hO, hF, hdec, _⟩ := hd
   have HCS := Lib.hid hO.F.size
   have HCO := Lib.hid hO.F.one
   have HO := Lib.hid hO
   have HOC := Lib.hid (show ∀ (j : Nat) (u : Value), cs[j]? = some u → w3.cell? ((⟨a.block, a.off + pos * 105 + 33, none⟩ : Addr).add j) = some u from fun j u hu => by
    have h1 := ri_ob hc hxl j u hu
    rw [← add_two a (pos * 105) 33 (by decide), add_add]
    exact h1)
   have hA1 := add_block a (pos * 105)
   have hA2 : (a.add (pos * 105)).off = a.off + pos * 105 := by unfold Addr.add; split <;> simp_all
   have hlt' : (pos : Int) < (L.length : Int) := by omega
   have hk0 : (0 : Int) ≤ (pos : Int) := by omega
   obtain rfl := hkd o hdec
   clear hx hc hc0 hdec hxl hkd hO hF
   go_wp2_with (first
    | ((with_reducible refine ld_obat (x := .tmp 16) (p := ⟨a.block, a.off + pos * 105 + 33, none⟩) (cs := cs) ?_ ?_ ?_ HOC.out HCS.out ?_); rfl; rfl; rfl)
    | ((with_reducible refine st_obr (x := .tmp 4) (y := .tmp 17) ?_ ?_ ?_ ?_ E3.out HS0.out HCS.out HCO.out ?_); rfl; rfl; rfl; rfl))
   refine bodyPost_ret (results_cell_row (fn := Tryz.f23) (p := 4) (by rfl) _ _ (w.heap.size + 2) _ _ _ _ (by rfl) (setRow_heap _ _ _ _ _ _ E3.out) Tryz.underlying54 rfl (obsize HCS.out)) rfl ⟨_, ao, bo, ca, cb, rfl, HO.out, below_setRow hB (by omega) _⟩
end R
end Go.Proofs.YtfckfjndnhjpoaaGreatDoor
end
