/-
  WALKS OF LAYER 13: the document's Bound.
-/
import Derived.Test.YtkcjhkfelaplkaaGreatDoorSh
import Derived.Test.YtkcjhkfelaplkaaGreatDoorQx
import Derived.Test.YtkcjhkfelaplkaaGreatDoorQa
set_option linter.unusedVariables false
set_option linter.unusedSimpArgs false
set_option maxHeartbeats 8000000
set_option maxRecDepth 100000
namespace Go.Proofs.YtkcjhkfelaplkaaGreatDoor
open Go.RowKit
def RefBoundP (w : World) (L : List St.It) (J : List (List UInt8)) (most : Nat) (r : Ending) (w' : World) : Prop :=
 ∃ sv dv Sh De Q, r = .returned (.tuple #[sv, dv]) ∧ IdsAt w' sv Sh ∧ IdsAt w' dv De ∧ Gr.Up Sh ∧ Gr.Up De ∧ (∀ x, x ∈ Sh ↔ x ∈ Dp.shal (Gr.prs L) most Q) ∧ (∀ x, x ∈ De ↔ x ∈ Dp.deep most Q) ∧ Dp.Is (Gr.cm L) (Gr.prs L) most (Dp.ends L J) Q ∧ Q.length ≤ L.length ∧ Below w.heap.size w w'
theorem refbound_any (B kk : Nat) (w : World) (mv fv : Value) (L : List St.It) (J : List (List UInt8)) (most : Nat) (h : R.DSt B kk w mv L) (hJ : IdsAt w fv J) (hJl : ∀ i ∈ J, i.length = 32) (hJn : J.length ≤ 100) (hL : L.length ≤ 100) (hm : most ≤ 1048576) :
  Calls Tryz.prog 16 #[.agg #[mv], fv, .int .i64 (most : Int)] w (RefBoundP w L J most) := by
 have HOF := Lib.hid (fun W (hb : Below w.heap.size w W) => refof_any B kk W mv fv L J most (h.below hb) (RowsAt.below hJ hb) hJl hJn hL hm)
 have HOB := Lib.hid (fun W (hb : Below w.heap.size w W) (id : List UInt8) (hid : id.length = 32) => R.refobject_old B kk w W mv L id h hb hid)
 unfold RefOfP at HOF
 obtain ⟨so, sc, rfl⟩ := h.form
 clear h hJ hJl
 have HB1 := Lib.hid (below_new w (.cells #[.slice so L.length sc] 28))
 have HX1 := Lib.hid (heap_alloc_last w (.cells #[.slice so L.length sc] 28))
 go_enter Tryz.func16, Tryz.ntmps16
 go_upto_region 1 with (fail)
 change Code.wp _ _ _ _ (w.alloc (.cells #[.slice so L.length sc] 28))
 have HZ1 := Lib.hid (show (w.alloc (.cells #[.slice so L.length sc] 28)).heap.size = w.heap.size + 1 by simp)
 generalize w.alloc (.cells #[.slice so L.length sc] 28) = w1 at *
 have c1 : w1.cell? ⟨w.heap.size, 0, none⟩ = some (.slice so L.length sc) := by rw [cell_of_row _ _ 0 _ _ _ HX1.out]; rfl
 have HO1 := Lib.hid (HOF.out w1 HB1.out)
 clear HOF
 go_wp2_with fail
 with_reducible refine HO1.out.mono ?_
 rintro r w2 ⟨ov, Q, rfl, hO, hi, hl, hb2⟩
 obtain ⟨oo, oc, rfl⟩ := hO.form
 obtain ⟨kk, hkk, hinv⟩ := hi.inv (Dp.inv_ends (Gr.cm L) (Gr.prs L) most (Gr.eds L J))
 have HO := Lib.hid hO
 have HIS := Lib.hid hi
 have HLL := Lib.hid hl
 have hQ100 : Q.length ≤ 100 := Nat.le_trans hl hL
 have HB2 := Lib.hid (show Below w.heap.size w w2 from HB1.out.trans (hb2.mono HB1.out.size))
 have HX2 := Lib.hid (show w2.heap[w.heap.size]? = some (.cells #[.slice so L.length sc] 28 (0, 0)) from (hb2.block _ (by have := HZ1.out; omega)).trans HX1.out)
 have HW2 := Lib.hid (show w.heap.size + 1 ≤ w2.heap.size from by have := hb2.size; have := HZ1.out; omega)
 clear hO hi hl hb2 hinv hkk HO1 c1 HX1 HB1 HZ1
 go_wp2_with fail
 go_loopw [9, 10, 11] (fun sv dv i wr => ∃ (k : Nat), k ≤ Q.length ∧ i = .int .i64 k ∧ Hid (Own2 wr w2.heap.size sv dv (Dp.shal (Gr.prs L) most (Q.take k)) (Dp.deep most (Q.take k))) ∧ Hid (Below w2.heap.size w2 wr)) (fun _ _ i _ => Q.length - (intOf i).toNat)
 case atStart => exact ⟨0, by omega, rfl, Lib.hid ⟨OwnI.nil _ _, OwnI.nil _ _, fun g hg => by cases hg⟩, Lib.hid (Below.refl _ _)⟩
 case round =>
  obtain ⟨wr2, hwr2⟩ : ∃ X, X = wr := ⟨_, rfl⟩
  subst hwr2
  obtain ⟨k, hk, rfl, HW, HB⟩ := hrel
  have hws := HB.out.size
  have hw2s := HW2.out
  have HBW := Lib.hid (HB2.out.trans (HB.out.mono HB2.out.size))
  by_cases hlt : k < Q.length
  ·
   have hlt' : (k : Int) < (Q.length : Int) := by omega
   have hk0 : (0 : Int) ≤ (k : Int) := by omega
   obtain ⟨⟨id, dd⟩, hx⟩ : ∃ d, Q[k]? = some d := ⟨Q[k], List.getElem?_eq_getElem hlt⟩
   have HIL := Lib.hid (show id.length = 32 from HO.out.len (id, dd) (List.mem_of_getElem? hx))
   have HIZ := Lib.hid (show (Tryz.prog.info? 46).map (·.size) = some (idC id).length from idsize HIL.out)
   obtain ⟨a, rfl, hc⟩ := (HO.out.below HB.out).elem k (id, dd) hx
   have HC := Lib.hid (dp_id (d := (id, dd)) hc)
   have cN : wr2.cell? ⟨(a.add (k * 33)).block, (a.add (k * 33)).off + 32, none⟩ = some (.int .i64 (dd : Int)) := dp_nn (d := (id, dd)) HIL.out hc
   have HTK := Lib.hid (show Q.take (k + 1) = Q.take k ++ [(id, dd)] from dptake hx)
   have hsl : (Dp.shal (Gr.prs L) most (Q.take k)).length ≤ 100000 := by have := Dp.shal_len (Gr.prs L) most (Q.take k); rw [List.length_take] at this; omega
   have hdl : (Dp.deep most (Q.take k)).length ≤ 100000 := by have := Dp.deep_len most (Q.take k); rw [List.length_take] at this; omega
   clear hx
   by_cases hdm : dd < most
   ·
    have hdm' : (dd : Int) < (most : Int) := by omega
    have HE1 := Lib.hid (show Dp.deep most (Q.take (k + 1)) = Dp.deep most (Q.take k) ++ [id] from by rw [HTK.out, Dp.deep_snoc]; exact if_pos hdm)
    have HE2 := Lib.hid (show Dp.shal (Gr.prs L) most (Q.take (k + 1)) = Dp.shal (Gr.prs L) most (Q.take k) from by rw [HTK.out, Dp.shal_snoc]; exact if_neg (fun h => h.1 hdm))
    clear hc
    go_wp2_with (first
     | ((with_reducible refine ld_id (l := id) (x := .tmp 33) ?_ ?_ ?_ HC.out HIL.out ?_); rfl; rfl; rfl)
     | ((with_reducible refine bs_id2 (l := id) (x := .tmp 34) ?_ ?_ ?_ HIL.out ?_); rfl; rfl; rfl)
     | ((with_reducible refine ap_id_at (id := id) (.tmp 29) (.tmp 35) ?_ ?_ ?_ ?_ HW.out.d hws HIL.out hdl (fun v5 w5 HO5 HG5 HN5 => ?_)); rfl; rfl; rfl; rfl))
    have HW5 := Lib.hid (HW.out.pushD HO5.out HG5.out HN5.out)
    have HB5 := Lib.hid ((HB.out.alloc hws _).grown HG5.out (by simp; omega) (fun q hq => (HW.out.d.own.lt q hq).1))
    clear HO5 HG5 HN5 hsl hdl cN
    go_roundw
    case rel => exact ⟨k + 1, by omega, by go_num, Lib.hid (by rw [HE1.out, HE2.out]; exact HW5.out), HB5⟩
    case measure => simp [intOf]; omega
   ·
    have hdm' : ¬ (dd : Int) < (most : Int) := by omega
    have HE1 := Lib.hid (show Dp.deep most (Q.take (k + 1)) = Dp.deep most (Q.take k) from by rw [HTK.out, Dp.deep_snoc]; exact if_neg hdm)
    have HXB := Lib.hid (show wr2.heap[w.heap.size]? = some (.cells #[.slice so L.length sc] 28 (0, 0)) from (HB.out.block _ (by omega)).trans HX2.out)
    have HSP := Lib.hid (show ∀ W' : World, (∀ q, q < wr2.heap.size → W'.heap[q]? = wr2.heap[q]?) → W'.cell? ⟨w.heap.size, 0, none⟩ = some (.slice so L.length sc) from fun W' hw => by
     rw [World.cell?_of_block (w := wr2) (hw w.heap.size (by omega)), cell_of_row _ _ 0 _ _ _ HXB.out]; rfl)
    have HRW := Lib.hid (show ∀ W' : World, (∀ q, q < wr2.heap.size → W'.heap[q]? = wr2.heap[q]?) → ∀ j u, (idC id)[j]? = some u → W'.cell? ((a.add (k * 33)).add j) = some u from fun W' hw j u hu => by
     have h1 := HC.out j u hu
     rw [World.cell?_of_block (w := wr2) (hw _ (World.block_lt_of_cell? _ _ h1))]; exact h1)
    have HOB2 := Lib.hid (HOB.out wr2.drew HBW.out.drew id HIL.out)
    have HPR := Lib.hid (Gr.prs_obz L id)
    have hfew : (Gr.obz L id).pars.length ≤ 8 := by rw [HPR.out]; exact Gr.prs_few L id
    clear hc
    by_cases hpr : (Gr.obz L id).pars = []
    ·
     have HE2 := Lib.hid (show Dp.shal (Gr.prs L) most (Q.take (k + 1)) = Dp.shal (Gr.prs L) most (Q.take k) from by rw [HTK.out, Dp.shal_snoc]; exact if_neg (fun h => h.2 (by rw [← HPR.out]; exact hpr)))
     have hp1 : (Gr.obz L id).pars.length = 0 := by rw [hpr]; rfl
     clear hpr
     go_wp2_with fail
     refine wp_region_noPanic ?_
     refine wp_region_held_drew (S := (fun w' => ∀ q, q < wr2.heap.size → w'.heap[q]? = wr2.heap[q]?)) (by kernel_rfl) (fun q _ => rfl) (fun hH => ?_)
     refine tk (i := 0) (v := ?_) ?_ ?_
     rotate_left
     · intro w' hSw; have q0 := HSP.out _ hSw; go_simp; try rfl
     try simp only [q0]
     refine tk (i := 1) (v := ?_) ?_ ?_
     rotate_left
     · intro w' hSw; go_simp; try rfl
     try simp only [q0]
     refine tk (i := 2) (v := ?_) ?_ ?_
     rotate_left
     · intro w' hSw; go_simp; try rfl
     try simp only [q0]
     refine tk (i := 3) (v := ?_) ?_ ?_
     rotate_left
     · intro w' hSw; go_simp; try rfl
     try simp only [q0]
     refine tk (i := 4) (v := ?_) ?_ ?_
     rotate_left
     · intro w' hSw; go_simp; try rfl
     try simp only [q0]
     refine wpAnyH_take (i := 5) rfl (by kernel_rfl) (by kernel_rfl) (by kernel_rfl) (fun _ _ _ h => h) (yields_at (p := a.add (k * 33)) (cs := idC id) (by rfl) rfl rfl (fun w' hw' => HRW.out w' hw') Tryz.underlying46 rfl HIZ.out) (by assumption) ?_
     try simp only [q0]
     refine wpAnyH_ready (rs := [6]) (by kernel_rfl) (by simp) ?_
     refine AllReadyH.cons rfl (fun K hK => ?_) AllReadyH.nil
     go_simp
     with_reducible refine HOB2.out.mono ?_
     rintro r w5 ⟨cs, po_, bo, ca, cb, rfl, hO5, hb5⟩
     have f35 := fun w => fld_pars w cs _ hO5.F.c35
     have HB5 := Lib.hid (show Below wr2.heap.size wr2 w5 from (Below.refl _ wr2).drew.trans hb5)
     clear hb5 hO5 HOB2
     go_wp2_with fail
     refine hK.out _ _ (fun g hg => HB5.out.block g hg) (fun _ => ?_)
     clear hK K
     try simp only [q0]
     refine tk (i := 7) (v := ?_) ?_ ?_
     rotate_left
     · intro w' hSw; have q0 := f35 w'; go_simp; try rfl
     try simp only [q0]
     refine tk (i := 8) (v := ?_) ?_ ?_
     rotate_left
     · intro w' hSw; go_simp; try rfl
     try simp only [q0]
     refine tk (i := 9) (v := ?_) ?_ ?_
     rotate_left
     · intro w' hSw; go_simp; try rfl
     try simp only [q0]
     refine wpAnyH_done (by kernel_rfl) ?_ _
     refine NoPanic.normal ?_
     have HW5 := Lib.hid (HW.out.below HB5.out)
     have HB6 := Lib.hid (HB.out.trans (HB5.out.mono hws))
     clear HB5 hsl hdl cN f35
     go_wp2_with fail
     go_roundw
     case rel => exact ⟨k + 1, by omega, by go_num, Lib.hid (by rw [HE1.out, HE2.out]; exact HW5.out), HB6⟩
     case measure => simp [intOf]; omega
    ·
     have HE2 := Lib.hid (show Dp.shal (Gr.prs L) most (Q.take (k + 1)) = Dp.shal (Gr.prs L) most (Q.take k) ++ [id] from by rw [HTK.out, Dp.shal_snoc]; exact if_pos ⟨hdm, fun e => hpr (by rw [HPR.out]; exact e)⟩)
     have hp0 : (0 : Int) < ((Gr.obz L id).pars.length : Int) := by have := List.length_pos_iff.2 hpr; omega
     clear hpr
     go_wp2_with fail
     refine wp_region_noPanic ?_
     refine wp_region_held_drew (S := (fun w' => ∀ q, q < wr2.heap.size → w'.heap[q]? = wr2.heap[q]?)) (by kernel_rfl) (fun q _ => rfl) (fun hH => ?_)
     refine tk (i := 0) (v := ?_) ?_ ?_
     rotate_left
     · intro w' hSw; have q0 := HSP.out _ hSw; go_simp; try rfl
     try simp only [q0]
     refine tk (i := 1) (v := ?_) ?_ ?_
     rotate_left
     · intro w' hSw; go_simp; try rfl
     try simp only [q0]
     refine tk (i := 2) (v := ?_) ?_ ?_
     rotate_left
     · intro w' hSw; go_simp; try rfl
     try simp only [q0]
     refine tk (i := 3) (v := ?_) ?_ ?_
     rotate_left
     · intro w' hSw; go_simp; try rfl
     try simp only [q0]
     refine tk (i := 4) (v := ?_) ?_ ?_
     rotate_left
     · intro w' hSw; go_simp; try rfl
     try simp only [q0]
     refine wpAnyH_take (i := 5) rfl (by kernel_rfl) (by kernel_rfl) (by kernel_rfl) (fun _ _ _ h => h) (yields_at (p := a.add (k * 33)) (cs := idC id) (by rfl) rfl rfl (fun w' hw' => HRW.out w' hw') Tryz.underlying46 rfl HIZ.out) (by assumption) ?_
     try simp only [q0]
     refine wpAnyH_ready (rs := [6]) (by kernel_rfl) (by simp) ?_
     refine AllReadyH.cons rfl (fun K hK => ?_) AllReadyH.nil
     go_simp
     with_reducible refine HOB2.out.mono ?_
     rintro r w5 ⟨cs, po_, bo, ca, cb, rfl, hO5, hb5⟩
     have f35 := fun w => fld_pars w cs _ hO5.F.c35
     have HB5 := Lib.hid (show Below wr2.heap.size wr2 w5 from (Below.refl _ wr2).drew.trans hb5)
     clear hb5 hO5 HOB2
     go_wp2_with fail
     refine hK.out _ _ (fun g hg => HB5.out.block g hg) (fun _ => ?_)
     clear hK K
     try simp only [q0]
     refine tk (i := 7) (v := ?_) ?_ ?_
     rotate_left
     · intro w' hSw; have q0 := f35 w'; go_simp; try rfl
     try simp only [q0]
     refine tk (i := 8) (v := ?_) ?_ ?_
     rotate_left
     · intro w' hSw; go_simp; try rfl
     try simp only [q0]
     refine tk (i := 9) (v := ?_) ?_ ?_
     rotate_left
     · intro w' hSw; go_simp; try rfl
     try simp only [q0]
     refine wpAnyH_done (by kernel_rfl) ?_ _
     refine NoPanic.normal ?_
     have HW5 := Lib.hid (HW.out.below HB5.out)
     have HB6 := Lib.hid (HB.out.trans (HB5.out.mono hws))
     have hws5 : w2.heap.size ≤ w5.heap.size := HB6.out.size
     have HC5 := Lib.hid (show ∀ j u, (idC id)[j]? = some u → w5.cell? ((a.add (k * 33)).add j) = some u from fun j u hu => by
      have h1 := HC.out j u hu
      rw [HB5.out.cell (World.block_lt_of_cell? _ _ h1)]; exact h1)
     clear HB5 hdl cN f35
     go_wp2_with (first
      | ((with_reducible refine ld_id (l := id) (x := .tmp 51) ?_ ?_ ?_ HC5.out HIL.out ?_); rfl; rfl; rfl)
      | ((with_reducible refine bs_id2 (l := id) (x := .tmp 52) ?_ ?_ ?_ HIL.out ?_); rfl; rfl; rfl)
      | ((with_reducible refine ap_id_at (id := id) (.tmp 47) (.tmp 53) ?_ ?_ ?_ ?_ HW5.out.s hws5 HIL.out hsl (fun v7 w7 HO7 HG7 HN7 => ?_)); rfl; rfl; rfl; rfl))
     have HW7 := Lib.hid (HW5.out.pushS HO7.out HG7.out HN7.out)
     have HB7 := Lib.hid ((HB6.out.alloc hws5 _).grown HG7.out (by simp; omega) (fun q hq => (HW5.out.s.own.lt q hq).1))
     clear HO7 HG7 HN7 hsl hws5
     go_roundw
     case rel => exact ⟨k + 1, by omega, by go_num, Lib.hid (by rw [HE1.out, HE2.out]; exact HW7.out), HB7⟩
     case measure => simp [intOf]; omega
  ·
   have hlt' : ¬ (k : Int) < (Q.length : Int) := by omega
   have hke : k = Q.length := by omega
   subst hke
   rw [List.take_length] at HW
   have HS1 := Lib.hid (sorted_any wr2 _ _ HW.out.s.rows HW.out.s.len (by have := Dp.shal_len (Gr.prs L) most Q; omega))
   have HS2 := Lib.hid (fun (W : World) (hb : Below wr2.heap.size wr2 W) => sorted_any W _ _ (RowsAt.below HW.out.d.rows hb : IdsAt W _ _) HW.out.d.len (by have := Dp.deep_len most Q; omega))
   unfold SortedP at HS1 HS2
   go_wp2_with fail
   with_reducible refine HS1.out.mono ?_
   rintro r w5 ⟨sv, Sh, rfl, s1, s2, s3, s4⟩
   have HS5 := Lib.hid (HS2.out w5 s4)
   have S1 := Lib.hid s1
   have S2' := Lib.hid s2
   have S3 := Lib.hid s3
   have S4 := Lib.hid (HBW.out.trans (s4.mono HBW.out.size))
   clear s1 s2 s3 s4 HS1 HS2
   go_wp2_with fail
   with_reducible refine HS5.out.mono ?_
   rintro r w6 ⟨dv, De, rfl, s1, s2, s3, s4⟩
   have S5 := Lib.hid s1
   have S6 := Lib.hid s2
   have S7 := Lib.hid s3
   have S8 := Lib.hid (S4.out.trans (s4.mono S4.out.size))
   have S9 := Lib.hid (RowsAt.below S1.out s4)
   clear s1 s2 s3 s4 HS5
   go_wp2_with fail
   go_ret2
   exact ⟨_, _, Sh, De, Q, rfl, S9.out, S5.out, S2'.out, S6.out, S3.out, S7.out, HIS.out, HLL.out, S8.out⟩
end Go.Proofs.YtkcjhkfelaplkaaGreatDoor
