/-
  WALKS OF LAYER 11: what Grow takes its parts from: pick, name.
-/
import Derived.Test.YtkcjhkfelaplkaaGreatDoorQk
import Derived.Test.YtkcjhkfelaplkaaGreatDoorQa
set_option linter.unusedVariables false
set_option linter.unusedSimpArgs false
set_option maxHeartbeats 8000000
set_option maxRecDepth 100000
namespace Go.Proofs.YtkcjhkfelaplkaaGreatDoor
open Go.RowKit
def PickP (w : World) (r : Ending) (w' : World) : Prop := ∃ (id : List UInt8) (b : Bool), r = .returned (.tuple #[.agg (idC id).toArray, .bool b]) ∧ id.length = 32 ∧ Below w.heap.size w w'
theorem pick_0 (w : World) (v iv : Value) (L : List St.It) (I : List (List UInt8)) (n : Nat) (h : DSt w v L) (hI : IdsAt w iv I) (hil : ∀ i ∈ I, i.length = 32) (hIl : I.length ≤ 1000) (hn : n ≤ 100000) :
  Calls Tryz.prog 103 #[.agg #[v], iv, .int .i64 (n : Int), .int .i64 0] w (PickP w) := by
 obtain ⟨vo, vc, rfl⟩ := h.form
 obtain ⟨io, ic, rfl⟩ : ∃ ao cap, iv = .slice ao I.length cap := by simpa using RowsAt.form hI
 have HK := Lib.hid (fun W (hb : Below w.heap.size w W) (id : List UInt8) (hl : id.length = 32) => refkind_any W _ L id (h.below hb) hl)
 have HH := Lib.hid h
 have HII := Lib.hid hI
 have HIL := Lib.hid hil
 have HB2 := Lib.hid (below2 w (.cells #[.slice vo L.length vc] 28) (.cells (idC zId).toArray 46))
 have HX2 := Lib.hid (box2_cell w (.slice vo L.length vc) 28 (.cells (idC zId).toArray 46))
 have HN2 := Lib.hid (new2 w (.cells #[.slice vo L.length vc] 28) (.cells (idC zId).toArray 46))
 have HZ2 := Lib.hid (show ((w.alloc (.cells #[.slice vo L.length vc] 28)).alloc (.cells (idC zId).toArray 46)).heap.size = w.heap.size + 2 by simp)
 unfold PickP
 clear h hI hil
 go_enter Tryz.func103, Tryz.ntmps103
 go_wp2_with fail
 change Code.wp _ _ _ _ ((w.alloc (.cells #[.slice vo L.length vc] 28)).alloc (.cells (idC zId).toArray 46))
 generalize (w.alloc (.cells #[.slice vo L.length vc] 28)).alloc (.cells (idC zId).toArray 46) = W1 at *
 go_loopw [10, 11] (fun l i wr => ∃ (k : Nat) (J : List (List UInt8)), k ≤ I.length ∧ i = .int .i64 k ∧ J.length ≤ k ∧ Hid (OwnI wr (w.heap.size + 2) l J) ∧ Hid (Below (w.heap.size + 2) W1 wr)) (fun _ i _ => I.length - (intOf i).toNat)
 case atStart => exact ⟨0, [], by omega, rfl, by simp, OwnI.nil _ _, Below.refl _ _⟩
 case round =>
  obtain ⟨k, J, hk, rfl, hJk, HO, HB⟩ := hrel
  have hbs : w.heap.size + 2 ≤ wr.heap.size := by have := HB.out.size; have := HZ2.out; omega
  have HBW := Lib.hid (HB2.out.trans (HB.out.mono (show w.heap.size ≤ w.heap.size + 2 by omega)))
  have c0 : wr.cell? ⟨w.heap.size, 0, none⟩ = some (.slice vo L.length vc) := (HB.out.cell (p := ⟨w.heap.size, 0, none⟩) (by show w.heap.size < _; omega)).trans HX2.out
  have c0' : wr.drew.cell? ⟨w.heap.size, 0, none⟩ = some (.slice vo L.length vc) := c0
  by_cases hlt : k < I.length
  ·
   have hlt' : (k : Int) < (I.length : Int) := by omega
   have hk0 : (0 : Int) ≤ (k : Int) := by omega
   obtain ⟨id, hx⟩ : ∃ x, I[k]? = some x := ⟨I[k], List.getElem?_eq_getElem hlt⟩
   have hxl := HIL.out id (List.mem_of_getElem? hx)
   obtain ⟨a, rfl, _, hc⟩ := (RowsAt.below HII.out HBW.out).elem k (idC id) (by simp [hx])
   have HC1 := Lib.hid (show ∀ j u, (idC id)[j]? = some u → wr.drew.cell? ((a.add (k * 32)).add j) = some u from hc)
   have HXL := Lib.hid hxl
   have HKK := Lib.hid (HK.out wr.drew HBW.out.drew id hxl)
   have hJ2 : J.length ≤ 2000 := by omega
   have HCW := Lib.hid (show ∀ W, Below wr.heap.size wr W → ∀ j u, (idC id)[j]? = some u → W.cell? ((a.add (k * 32)).add j) = some u from fun W hb j u hu => by
    rw [hb.cell (World.block_lt_of_cell? _ _ (hc j u hu))]; exact hc j u hu)
   clear hx hxl hc
   go_wp2_with fail
   refine rgn_tail 5 (by kernel_rfl) (by kernel_rfl) ?_
   simp only [List.take_succ_cons, List.take_zero, List.drop_succ_cons, List.drop_zero]
   repeat still_step
   (with_reducible apply still_id (hc := HC1.out) (hl := HXL.out))
   rfl
   rfl
   rfl
   refine wpStill_nil ?_
   go_wp2_with fail
   refine HKK.out.mono ?_
   rintro e w6 ⟨K, rfl, hK0, hK4, hb6⟩
   have HB6 := Lib.hid (HB.out.drew.trans (hb6.mono (show w.heap.size + 2 ≤ wr.drew.heap.size from hbs)))
   have hbs6 : w.heap.size + 2 ≤ w6.heap.size := by have := HB6.out.size; have := HZ2.out; omega
   have HO6 := Lib.hid ((HO.out.below (Below.refl _ _).drew).below hb6)
   have HC6 := Lib.hid (HCW.out w6 ((Below.refl wr.heap.size wr).drew.trans hb6))
   clear hb6 HB c0 c0' HKK
   go_wp2_with (first
    | ((with_reducible refine ld_id (x := .tmp 43) (p := a.add (k * 32)) ?_ ?_ ?_ HC6.out HXL.out ?_); rfl; rfl; rfl)
    | ((with_reducible refine bs_id2 (l := id) (x := .tmp 44) ?_ ?_ ?_ HXL.out ?_); rfl; rfl; rfl)
    | ((with_reducible refine ap_id (id := id) (.tmp 40) (.tmp 45) ?_ ?_ ?_ ?_ HO6.out hbs6 HXL.out hJ2 ?_); rfl; rfl; rfl; rfl; intro v7 w7 HO7 HG7))
   all_goals
    go_roundw
    case rel => first
     | exact ⟨k + 1, J ++ [id], by omega, by go_num, by simp; omega, HO7.out, HO6.out.grown HB6.out hbs6 HG7.out⟩
     | exact ⟨k + 1, J, by omega, by go_num, by omega, HO6.out, HB6.out⟩
     | ((repeat apply Exists.intro); exact ⟨⟨k + 1, J ++ [id], by omega, by go_num, by simp; omega, HO7.out, HO6.out.grown HB6.out hbs6 HG7.out⟩, rfl⟩)
     | ((repeat apply Exists.intro); exact ⟨⟨k + 1, J, by omega, by go_num, by omega, HO6.out, HB6.out⟩, rfl⟩)
    case measure => simp [intOf]; omega
  ·
   have HE := Lib.hid ((HB.out.block (w.heap.size + 1) (by omega)).trans HN2.out)
   obtain ⟨lo, lc, hform⟩ := own_shape HO.out.own
   subst hform
   by_cases hJ0 : J.length = 0
   ·
    have HJ0 := Lib.hid hJ0
    have hJi : ((J.length : Int) == 0) = true := by rw [hJ0]; rfl
    clear hJ0
    go_wp2_with (first
     | ((with_reducible refine bd_zid ?_ ?_ ?_); rfl; rfl)
     | ((with_reducible refine st_idg (l := zId) (x := .tmp 8) (y := .tmp 50) (g := w.heap.size + 1) ?_ ?_ ?_ ?_ HE.out ?_ ?_ ?_); rfl; rfl; rfl; rfl; rfl; rfl))
    refine bodyPost_ret (results_cell_tmp (fn := Tryz.f103) (p := 8) (q := 9) (by rfl) _ _ (w.heap.size + 1) _ _ _ _ (by rfl) (setRow_heap _ _ _ _ _ _ HE.out) Tryz.underlying46 rfl (by rw [List.size_toArray]; exact idsize rfl)) rfl ⟨zId, false, rfl, rfl, below_setRow HBW.out (by omega) _⟩
   ·
    have hJi : ((J.length : Int) == 0) = false := by simpa using hJ0
    obtain ⟨m, hm⟩ : ∃ m, m = J.length - 1 - n % J.length := ⟨_, rfl⟩
    have hmod : n % J.length < J.length := Nat.mod_lt _ (by omega)
    have hml : m < J.length := by omega
    have hmi : (J.length : Int) - 1 - (n : Int) % (J.length : Int) = (m : Int) := by
     rw [hm, ← Int.natCast_emod]; omega
    have hml' : (m : Int) < (J.length : Int) := by omega
    have hm0 : (0 : Int) ≤ (m : Int) := by omega
    have hn0 : (0 : Int) ≤ (n : Int) := by omega
    have hJp : (0 : Int) < (J.length : Int) := by omega
    obtain ⟨id, hx⟩ : ∃ x, J[m]? = some x := ⟨J[m], List.getElem?_eq_getElem hml⟩
    have hxl := HO.out.len id (List.mem_of_getElem? hx)
    obtain ⟨a, rfl, _, hc⟩ := HO.out.rows.elem m (idC id) (by simp [hx])
    have HC1 := Lib.hid hc
    have HXL := Lib.hid hxl
    clear hx hxl hc hm hmod
    go_wp2_with (first
     | ((with_reducible refine ld_id (x := .tmp 60) (p := a.add (m * 32)) ?_ ?_ ?_ HC1.out HXL.out ?_); rfl; rfl; rfl)
     | ((with_reducible refine st_idg (l := id) (x := .tmp 8) (y := .tmp 61) (g := w.heap.size + 1) ?_ ?_ ?_ ?_ HE.out ?_ HXL.out ?_); rfl; rfl; rfl; rfl; rfl))
    refine bodyPost_ret (results_cell_tmp (fn := Tryz.f103) (p := 8) (q := 9) (by rfl) _ _ (w.heap.size + 1) _ _ _ _ (by rfl) (setRow_heap _ _ _ _ _ _ HE.out) Tryz.underlying46 rfl (by rw [List.size_toArray]; exact idsize HXL.out)) rfl ⟨id, true, rfl, HXL.out, below_setRow HBW.out (by omega) _⟩
theorem pick_2 (w : World) (v iv : Value) (L : List St.It) (I : List (List UInt8)) (n : Nat) (h : DSt w v L) (hI : IdsAt w iv I) (hil : ∀ i ∈ I, i.length = 32) (hIl : I.length ≤ 1000) (hn : n ≤ 100000) :
  Calls Tryz.prog 103 #[.agg #[v], iv, .int .i64 (n : Int), .int .i64 2] w (PickP w) := by
 obtain ⟨vo, vc, rfl⟩ := h.form
 obtain ⟨io, ic, rfl⟩ : ∃ ao cap, iv = .slice ao I.length cap := by simpa using RowsAt.form hI
 have HK := Lib.hid (fun W (hb : Below w.heap.size w W) (id : List UInt8) (hl : id.length = 32) => refkind_any W _ L id (h.below hb) hl)
 have HH := Lib.hid h
 have HII := Lib.hid hI
 have HIL := Lib.hid hil
 have HB2 := Lib.hid (below2 w (.cells #[.slice vo L.length vc] 28) (.cells (idC zId).toArray 46))
 have HX2 := Lib.hid (box2_cell w (.slice vo L.length vc) 28 (.cells (idC zId).toArray 46))
 have HN2 := Lib.hid (new2 w (.cells #[.slice vo L.length vc] 28) (.cells (idC zId).toArray 46))
 have HZ2 := Lib.hid (show ((w.alloc (.cells #[.slice vo L.length vc] 28)).alloc (.cells (idC zId).toArray 46)).heap.size = w.heap.size + 2 by simp)
 unfold PickP
 clear h hI hil
 go_enter Tryz.func103, Tryz.ntmps103
 go_wp2_with fail
 change Code.wp _ _ _ _ ((w.alloc (.cells #[.slice vo L.length vc] 28)).alloc (.cells (idC zId).toArray 46))
 generalize (w.alloc (.cells #[.slice vo L.length vc] 28)).alloc (.cells (idC zId).toArray 46) = W1 at *
 go_loopw [10, 11] (fun l i wr => ∃ (k : Nat) (J : List (List UInt8)), k ≤ I.length ∧ i = .int .i64 k ∧ J.length ≤ k ∧ Hid (OwnI wr (w.heap.size + 2) l J) ∧ Hid (Below (w.heap.size + 2) W1 wr)) (fun _ i _ => I.length - (intOf i).toNat)
 case atStart => exact ⟨0, [], by omega, rfl, by simp, OwnI.nil _ _, Below.refl _ _⟩
 case round =>
  obtain ⟨k, J, hk, rfl, hJk, HO, HB⟩ := hrel
  have hbs : w.heap.size + 2 ≤ wr.heap.size := by have := HB.out.size; have := HZ2.out; omega
  have HBW := Lib.hid (HB2.out.trans (HB.out.mono (show w.heap.size ≤ w.heap.size + 2 by omega)))
  have c0 : wr.cell? ⟨w.heap.size, 0, none⟩ = some (.slice vo L.length vc) := (HB.out.cell (p := ⟨w.heap.size, 0, none⟩) (by show w.heap.size < _; omega)).trans HX2.out
  have c0' : wr.drew.cell? ⟨w.heap.size, 0, none⟩ = some (.slice vo L.length vc) := c0
  by_cases hlt : k < I.length
  ·
   have hlt' : (k : Int) < (I.length : Int) := by omega
   have hk0 : (0 : Int) ≤ (k : Int) := by omega
   obtain ⟨id, hx⟩ : ∃ x, I[k]? = some x := ⟨I[k], List.getElem?_eq_getElem hlt⟩
   have hxl := HIL.out id (List.mem_of_getElem? hx)
   obtain ⟨a, rfl, _, hc⟩ := (RowsAt.below HII.out HBW.out).elem k (idC id) (by simp [hx])
   have HC1 := Lib.hid (show ∀ j u, (idC id)[j]? = some u → wr.drew.cell? ((a.add (k * 32)).add j) = some u from hc)
   have HXL := Lib.hid hxl
   have HKK := Lib.hid (HK.out wr.drew HBW.out.drew id hxl)
   have hJ2 : J.length ≤ 2000 := by omega
   have HCW := Lib.hid (show ∀ W, Below wr.heap.size wr W → ∀ j u, (idC id)[j]? = some u → W.cell? ((a.add (k * 32)).add j) = some u from fun W hb j u hu => by
    rw [hb.cell (World.block_lt_of_cell? _ _ (hc j u hu))]; exact hc j u hu)
   clear hx hxl hc
   go_wp2_with fail
   refine rgn_tail 5 (by kernel_rfl) (by kernel_rfl) ?_
   simp only [List.take_succ_cons, List.take_zero, List.drop_succ_cons, List.drop_zero]
   repeat still_step
   (with_reducible apply still_id (hc := HC1.out) (hl := HXL.out))
   rfl
   rfl
   rfl
   refine wpStill_nil ?_
   go_wp2_with fail
   refine HKK.out.mono ?_
   rintro e w6 ⟨K, rfl, hK0, hK4, hb6⟩
   have HB6 := Lib.hid (HB.out.drew.trans (hb6.mono (show w.heap.size + 2 ≤ wr.drew.heap.size from hbs)))
   have hbs6 : w.heap.size + 2 ≤ w6.heap.size := by have := HB6.out.size; have := HZ2.out; omega
   have HO6 := Lib.hid ((HO.out.below (Below.refl _ _).drew).below hb6)
   have HC6 := Lib.hid (HCW.out w6 ((Below.refl wr.heap.size wr).drew.trans hb6))
   clear hb6 HB c0 c0' HKK
   go_wp2_with (first
    | ((with_reducible refine ld_id (x := .tmp 43) (p := a.add (k * 32)) ?_ ?_ ?_ HC6.out HXL.out ?_); rfl; rfl; rfl)
    | ((with_reducible refine bs_id2 (l := id) (x := .tmp 44) ?_ ?_ ?_ HXL.out ?_); rfl; rfl; rfl)
    | ((with_reducible refine ap_id (id := id) (.tmp 40) (.tmp 45) ?_ ?_ ?_ ?_ HO6.out hbs6 HXL.out hJ2 ?_); rfl; rfl; rfl; rfl; intro v7 w7 HO7 HG7))
   all_goals
    go_roundw
    case rel => first
     | exact ⟨k + 1, J ++ [id], by omega, by go_num, by simp; omega, HO7.out, HO6.out.grown HB6.out hbs6 HG7.out⟩
     | exact ⟨k + 1, J, by omega, by go_num, by omega, HO6.out, HB6.out⟩
     | ((repeat apply Exists.intro); exact ⟨⟨k + 1, J ++ [id], by omega, by go_num, by simp; omega, HO7.out, HO6.out.grown HB6.out hbs6 HG7.out⟩, rfl⟩)
     | ((repeat apply Exists.intro); exact ⟨⟨k + 1, J, by omega, by go_num, by omega, HO6.out, HB6.out⟩, rfl⟩)
    case measure => simp [intOf]; omega
  ·
   have HE := Lib.hid ((HB.out.block (w.heap.size + 1) (by omega)).trans HN2.out)
   obtain ⟨lo, lc, hform⟩ := own_shape HO.out.own
   subst hform
   by_cases hJ0 : J.length = 0
   ·
    have HJ0 := Lib.hid hJ0
    have hJi : ((J.length : Int) == 0) = true := by rw [hJ0]; rfl
    clear hJ0
    go_wp2_with (first
     | ((with_reducible refine bd_zid ?_ ?_ ?_); rfl; rfl)
     | ((with_reducible refine st_idg (l := zId) (x := .tmp 8) (y := .tmp 50) (g := w.heap.size + 1) ?_ ?_ ?_ ?_ HE.out ?_ ?_ ?_); rfl; rfl; rfl; rfl; rfl; rfl))
    refine bodyPost_ret (results_cell_tmp (fn := Tryz.f103) (p := 8) (q := 9) (by rfl) _ _ (w.heap.size + 1) _ _ _ _ (by rfl) (setRow_heap _ _ _ _ _ _ HE.out) Tryz.underlying46 rfl (by rw [List.size_toArray]; exact idsize rfl)) rfl ⟨zId, false, rfl, rfl, below_setRow HBW.out (by omega) _⟩
   ·
    have hJi : ((J.length : Int) == 0) = false := by simpa using hJ0
    obtain ⟨m, hm⟩ : ∃ m, m = J.length - 1 - n % J.length := ⟨_, rfl⟩
    have hmod : n % J.length < J.length := Nat.mod_lt _ (by omega)
    have hml : m < J.length := by omega
    have hmi : (J.length : Int) - 1 - (n : Int) % (J.length : Int) = (m : Int) := by
     rw [hm, ← Int.natCast_emod]; omega
    have hml' : (m : Int) < (J.length : Int) := by omega
    have hm0 : (0 : Int) ≤ (m : Int) := by omega
    have hn0 : (0 : Int) ≤ (n : Int) := by omega
    have hJp : (0 : Int) < (J.length : Int) := by omega
    obtain ⟨id, hx⟩ : ∃ x, J[m]? = some x := ⟨J[m], List.getElem?_eq_getElem hml⟩
    have hxl := HO.out.len id (List.mem_of_getElem? hx)
    obtain ⟨a, rfl, _, hc⟩ := HO.out.rows.elem m (idC id) (by simp [hx])
    have HC1 := Lib.hid hc
    have HXL := Lib.hid hxl
    clear hx hxl hc hm hmod
    go_wp2_with (first
     | ((with_reducible refine ld_id (x := .tmp 60) (p := a.add (m * 32)) ?_ ?_ ?_ HC1.out HXL.out ?_); rfl; rfl; rfl)
     | ((with_reducible refine st_idg (l := id) (x := .tmp 8) (y := .tmp 61) (g := w.heap.size + 1) ?_ ?_ ?_ ?_ HE.out ?_ HXL.out ?_); rfl; rfl; rfl; rfl; rfl))
    refine bodyPost_ret (results_cell_tmp (fn := Tryz.f103) (p := 8) (q := 9) (by rfl) _ _ (w.heap.size + 1) _ _ _ _ (by rfl) (setRow_heap _ _ _ _ _ _ HE.out) Tryz.underlying46 rfl (by rw [List.size_toArray]; exact idsize HXL.out)) rfl ⟨id, true, rfl, HXL.out, below_setRow HBW.out (by omega) _⟩
theorem pick_3 (w : World) (v iv : Value) (L : List St.It) (I : List (List UInt8)) (n : Nat) (h : DSt w v L) (hI : IdsAt w iv I) (hil : ∀ i ∈ I, i.length = 32) (hIl : I.length ≤ 1000) (hn : n ≤ 100000) :
  Calls Tryz.prog 103 #[.agg #[v], iv, .int .i64 (n : Int), .int .i64 3] w (PickP w) := by
 obtain ⟨vo, vc, rfl⟩ := h.form
 obtain ⟨io, ic, rfl⟩ : ∃ ao cap, iv = .slice ao I.length cap := by simpa using RowsAt.form hI
 have HK := Lib.hid (fun W (hb : Below w.heap.size w W) (id : List UInt8) (hl : id.length = 32) => refkind_any W _ L id (h.below hb) hl)
 have HH := Lib.hid h
 have HII := Lib.hid hI
 have HIL := Lib.hid hil
 have HB2 := Lib.hid (below2 w (.cells #[.slice vo L.length vc] 28) (.cells (idC zId).toArray 46))
 have HX2 := Lib.hid (box2_cell w (.slice vo L.length vc) 28 (.cells (idC zId).toArray 46))
 have HN2 := Lib.hid (new2 w (.cells #[.slice vo L.length vc] 28) (.cells (idC zId).toArray 46))
 have HZ2 := Lib.hid (show ((w.alloc (.cells #[.slice vo L.length vc] 28)).alloc (.cells (idC zId).toArray 46)).heap.size = w.heap.size + 2 by simp)
 unfold PickP
 clear h hI hil
 go_enter Tryz.func103, Tryz.ntmps103
 go_wp2_with fail
 change Code.wp _ _ _ _ ((w.alloc (.cells #[.slice vo L.length vc] 28)).alloc (.cells (idC zId).toArray 46))
 generalize (w.alloc (.cells #[.slice vo L.length vc] 28)).alloc (.cells (idC zId).toArray 46) = W1 at *
 go_loopw [10, 11] (fun l i wr => ∃ (k : Nat) (J : List (List UInt8)), k ≤ I.length ∧ i = .int .i64 k ∧ J.length ≤ k ∧ Hid (OwnI wr (w.heap.size + 2) l J) ∧ Hid (Below (w.heap.size + 2) W1 wr)) (fun _ i _ => I.length - (intOf i).toNat)
 case atStart => exact ⟨0, [], by omega, rfl, by simp, OwnI.nil _ _, Below.refl _ _⟩
 case round =>
  obtain ⟨k, J, hk, rfl, hJk, HO, HB⟩ := hrel
  have hbs : w.heap.size + 2 ≤ wr.heap.size := by have := HB.out.size; have := HZ2.out; omega
  have HBW := Lib.hid (HB2.out.trans (HB.out.mono (show w.heap.size ≤ w.heap.size + 2 by omega)))
  have c0 : wr.cell? ⟨w.heap.size, 0, none⟩ = some (.slice vo L.length vc) := (HB.out.cell (p := ⟨w.heap.size, 0, none⟩) (by show w.heap.size < _; omega)).trans HX2.out
  have c0' : wr.drew.cell? ⟨w.heap.size, 0, none⟩ = some (.slice vo L.length vc) := c0
  by_cases hlt : k < I.length
  ·
   have hlt' : (k : Int) < (I.length : Int) := by omega
   have hk0 : (0 : Int) ≤ (k : Int) := by omega
   obtain ⟨id, hx⟩ : ∃ x, I[k]? = some x := ⟨I[k], List.getElem?_eq_getElem hlt⟩
   have hxl := HIL.out id (List.mem_of_getElem? hx)
   obtain ⟨a, rfl, _, hc⟩ := (RowsAt.below HII.out HBW.out).elem k (idC id) (by simp [hx])
   have HC1 := Lib.hid (show ∀ j u, (idC id)[j]? = some u → wr.drew.cell? ((a.add (k * 32)).add j) = some u from hc)
   have HXL := Lib.hid hxl
   have HKK := Lib.hid (HK.out wr.drew HBW.out.drew id hxl)
   have hJ2 : J.length ≤ 2000 := by omega
   have HCW := Lib.hid (show ∀ W, Below wr.heap.size wr W → ∀ j u, (idC id)[j]? = some u → W.cell? ((a.add (k * 32)).add j) = some u from fun W hb j u hu => by
    rw [hb.cell (World.block_lt_of_cell? _ _ (hc j u hu))]; exact hc j u hu)
   clear hx hxl hc
   go_wp2_with fail
   refine rgn_tail 5 (by kernel_rfl) (by kernel_rfl) ?_
   simp only [List.take_succ_cons, List.take_zero, List.drop_succ_cons, List.drop_zero]
   repeat still_step
   (with_reducible apply still_id (hc := HC1.out) (hl := HXL.out))
   rfl
   rfl
   rfl
   refine wpStill_nil ?_
   go_wp2_with fail
   refine HKK.out.mono ?_
   rintro e w6 ⟨K, rfl, hK0, hK4, hb6⟩
   have HB6 := Lib.hid (HB.out.drew.trans (hb6.mono (show w.heap.size + 2 ≤ wr.drew.heap.size from hbs)))
   have hbs6 : w.heap.size + 2 ≤ w6.heap.size := by have := HB6.out.size; have := HZ2.out; omega
   have HO6 := Lib.hid ((HO.out.below (Below.refl _ _).drew).below hb6)
   have HC6 := Lib.hid (HCW.out w6 ((Below.refl wr.heap.size wr).drew.trans hb6))
   clear hb6 HB c0 c0' HKK
   go_wp2_with (first
    | ((with_reducible refine ld_id (x := .tmp 43) (p := a.add (k * 32)) ?_ ?_ ?_ HC6.out HXL.out ?_); rfl; rfl; rfl)
    | ((with_reducible refine bs_id2 (l := id) (x := .tmp 44) ?_ ?_ ?_ HXL.out ?_); rfl; rfl; rfl)
    | ((with_reducible refine ap_id (id := id) (.tmp 40) (.tmp 45) ?_ ?_ ?_ ?_ HO6.out hbs6 HXL.out hJ2 ?_); rfl; rfl; rfl; rfl; intro v7 w7 HO7 HG7))
   all_goals
    go_roundw
    case rel => first
     | exact ⟨k + 1, J ++ [id], by omega, by go_num, by simp; omega, HO7.out, HO6.out.grown HB6.out hbs6 HG7.out⟩
     | exact ⟨k + 1, J, by omega, by go_num, by omega, HO6.out, HB6.out⟩
     | ((repeat apply Exists.intro); exact ⟨⟨k + 1, J ++ [id], by omega, by go_num, by simp; omega, HO7.out, HO6.out.grown HB6.out hbs6 HG7.out⟩, rfl⟩)
     | ((repeat apply Exists.intro); exact ⟨⟨k + 1, J, by omega, by go_num, by omega, HO6.out, HB6.out⟩, rfl⟩)
    case measure => simp [intOf]; omega
  ·
   have HE := Lib.hid ((HB.out.block (w.heap.size + 1) (by omega)).trans HN2.out)
   obtain ⟨lo, lc, hform⟩ := own_shape HO.out.own
   subst hform
   by_cases hJ0 : J.length = 0
   ·
    have HJ0 := Lib.hid hJ0
    have hJi : ((J.length : Int) == 0) = true := by rw [hJ0]; rfl
    clear hJ0
    go_wp2_with (first
     | ((with_reducible refine bd_zid ?_ ?_ ?_); rfl; rfl)
     | ((with_reducible refine st_idg (l := zId) (x := .tmp 8) (y := .tmp 50) (g := w.heap.size + 1) ?_ ?_ ?_ ?_ HE.out ?_ ?_ ?_); rfl; rfl; rfl; rfl; rfl; rfl))
    refine bodyPost_ret (results_cell_tmp (fn := Tryz.f103) (p := 8) (q := 9) (by rfl) _ _ (w.heap.size + 1) _ _ _ _ (by rfl) (setRow_heap _ _ _ _ _ _ HE.out) Tryz.underlying46 rfl (by rw [List.size_toArray]; exact idsize rfl)) rfl ⟨zId, false, rfl, rfl, below_setRow HBW.out (by omega) _⟩
   ·
    have hJi : ((J.length : Int) == 0) = false := by simpa using hJ0
    obtain ⟨m, hm⟩ : ∃ m, m = J.length - 1 - n % J.length := ⟨_, rfl⟩
    have hmod : n % J.length < J.length := Nat.mod_lt _ (by omega)
    have hml : m < J.length := by omega
    have hmi : (J.length : Int) - 1 - (n : Int) % (J.length : Int) = (m : Int) := by
     rw [hm, ← Int.natCast_emod]; omega
    have hml' : (m : Int) < (J.length : Int) := by omega
    have hm0 : (0 : Int) ≤ (m : Int) := by omega
    have hn0 : (0 : Int) ≤ (n : Int) := by omega
    have hJp : (0 : Int) < (J.length : Int) := by omega
    obtain ⟨id, hx⟩ : ∃ x, J[m]? = some x := ⟨J[m], List.getElem?_eq_getElem hml⟩
    have hxl := HO.out.len id (List.mem_of_getElem? hx)
    obtain ⟨a, rfl, _, hc⟩ := HO.out.rows.elem m (idC id) (by simp [hx])
    have HC1 := Lib.hid hc
    have HXL := Lib.hid hxl
    clear hx hxl hc hm hmod
    go_wp2_with (first
     | ((with_reducible refine ld_id (x := .tmp 60) (p := a.add (m * 32)) ?_ ?_ ?_ HC1.out HXL.out ?_); rfl; rfl; rfl)
     | ((with_reducible refine st_idg (l := id) (x := .tmp 8) (y := .tmp 61) (g := w.heap.size + 1) ?_ ?_ ?_ ?_ HE.out ?_ HXL.out ?_); rfl; rfl; rfl; rfl; rfl))
    refine bodyPost_ret (results_cell_tmp (fn := Tryz.f103) (p := 8) (q := 9) (by rfl) _ _ (w.heap.size + 1) _ _ _ _ (by rfl) (setRow_heap _ _ _ _ _ _ HE.out) Tryz.underlying46 rfl (by rw [List.size_toArray]; exact idsize HXL.out)) rfl ⟨id, true, rfl, HXL.out, below_setRow HBW.out (by omega) _⟩
theorem pick_9 (w : World) (v iv : Value) (L : List St.It) (I : List (List UInt8)) (n : Nat) (h : DSt w v L) (hI : IdsAt w iv I) (hil : ∀ i ∈ I, i.length = 32) (hIl : I.length ≤ 1000) (hn : n ≤ 100000) :
  Calls Tryz.prog 103 #[.agg #[v], iv, .int .i64 (n : Int), .int .i64 9] w (PickP w) := by
 obtain ⟨vo, vc, rfl⟩ := h.form
 obtain ⟨io, ic, rfl⟩ : ∃ ao cap, iv = .slice ao I.length cap := by simpa using RowsAt.form hI
 have HK := Lib.hid (fun W (hb : Below w.heap.size w W) (id : List UInt8) (hl : id.length = 32) => refkind_any W _ L id (h.below hb) hl)
 have HH := Lib.hid h
 have HII := Lib.hid hI
 have HIL := Lib.hid hil
 have HB2 := Lib.hid (below2 w (.cells #[.slice vo L.length vc] 28) (.cells (idC zId).toArray 46))
 have HX2 := Lib.hid (box2_cell w (.slice vo L.length vc) 28 (.cells (idC zId).toArray 46))
 have HN2 := Lib.hid (new2 w (.cells #[.slice vo L.length vc] 28) (.cells (idC zId).toArray 46))
 have HZ2 := Lib.hid (show ((w.alloc (.cells #[.slice vo L.length vc] 28)).alloc (.cells (idC zId).toArray 46)).heap.size = w.heap.size + 2 by simp)
 unfold PickP
 clear h hI hil
 go_enter Tryz.func103, Tryz.ntmps103
 go_wp2_with fail
 change Code.wp _ _ _ _ ((w.alloc (.cells #[.slice vo L.length vc] 28)).alloc (.cells (idC zId).toArray 46))
 generalize (w.alloc (.cells #[.slice vo L.length vc] 28)).alloc (.cells (idC zId).toArray 46) = W1 at *
 go_loopw [10, 11] (fun l i wr => ∃ (k : Nat) (J : List (List UInt8)), k ≤ I.length ∧ i = .int .i64 k ∧ J.length ≤ k ∧ Hid (OwnI wr (w.heap.size + 2) l J) ∧ Hid (Below (w.heap.size + 2) W1 wr)) (fun _ i _ => I.length - (intOf i).toNat)
 case atStart => exact ⟨0, [], by omega, rfl, by simp, OwnI.nil _ _, Below.refl _ _⟩
 case round =>
  obtain ⟨k, J, hk, rfl, hJk, HO, HB⟩ := hrel
  have hbs : w.heap.size + 2 ≤ wr.heap.size := by have := HB.out.size; have := HZ2.out; omega
  have HBW := Lib.hid (HB2.out.trans (HB.out.mono (show w.heap.size ≤ w.heap.size + 2 by omega)))
  have c0 : wr.cell? ⟨w.heap.size, 0, none⟩ = some (.slice vo L.length vc) := (HB.out.cell (p := ⟨w.heap.size, 0, none⟩) (by show w.heap.size < _; omega)).trans HX2.out
  have c0' : wr.drew.cell? ⟨w.heap.size, 0, none⟩ = some (.slice vo L.length vc) := c0
  by_cases hlt : k < I.length
  ·
   have hlt' : (k : Int) < (I.length : Int) := by omega
   have hk0 : (0 : Int) ≤ (k : Int) := by omega
   obtain ⟨id, hx⟩ : ∃ x, I[k]? = some x := ⟨I[k], List.getElem?_eq_getElem hlt⟩
   have hxl := HIL.out id (List.mem_of_getElem? hx)
   obtain ⟨a, rfl, _, hc⟩ := (RowsAt.below HII.out HBW.out).elem k (idC id) (by simp [hx])
   have HC1 := Lib.hid (show ∀ j u, (idC id)[j]? = some u → wr.drew.cell? ((a.add (k * 32)).add j) = some u from hc)
   have HXL := Lib.hid hxl
   have HKK := Lib.hid (HK.out wr.drew HBW.out.drew id hxl)
   have hJ2 : J.length ≤ 2000 := by omega
   have HCW := Lib.hid (show ∀ W, Below wr.heap.size wr W → ∀ j u, (idC id)[j]? = some u → W.cell? ((a.add (k * 32)).add j) = some u from fun W hb j u hu => by
    rw [hb.cell (World.block_lt_of_cell? _ _ (hc j u hu))]; exact hc j u hu)
   clear hx hxl hc
   go_wp2_with fail
   refine rgn_tail 5 (by kernel_rfl) (by kernel_rfl) ?_
   simp only [List.take_succ_cons, List.take_zero, List.drop_succ_cons, List.drop_zero]
   repeat still_step
   (with_reducible apply still_id (hc := HC1.out) (hl := HXL.out))
   rfl
   rfl
   rfl
   refine wpStill_nil ?_
   go_wp2_with fail
   refine HKK.out.mono ?_
   rintro e w6 ⟨K, rfl, hK0, hK4, hb6⟩
   have HB6 := Lib.hid (HB.out.drew.trans (hb6.mono (show w.heap.size + 2 ≤ wr.drew.heap.size from hbs)))
   have hbs6 : w.heap.size + 2 ≤ w6.heap.size := by have := HB6.out.size; have := HZ2.out; omega
   have HO6 := Lib.hid ((HO.out.below (Below.refl _ _).drew).below hb6)
   have HC6 := Lib.hid (HCW.out w6 ((Below.refl wr.heap.size wr).drew.trans hb6))
   clear hb6 HB c0 c0' HKK
   go_wp2_with (first
    | ((with_reducible refine ld_id (x := .tmp 43) (p := a.add (k * 32)) ?_ ?_ ?_ HC6.out HXL.out ?_); rfl; rfl; rfl)
    | ((with_reducible refine bs_id2 (l := id) (x := .tmp 44) ?_ ?_ ?_ HXL.out ?_); rfl; rfl; rfl)
    | ((with_reducible refine ap_id (id := id) (.tmp 40) (.tmp 45) ?_ ?_ ?_ ?_ HO6.out hbs6 HXL.out hJ2 ?_); rfl; rfl; rfl; rfl; intro v7 w7 HO7 HG7))
   all_goals
    go_roundw
    case rel => first
     | exact ⟨k + 1, J ++ [id], by omega, by go_num, by simp; omega, HO7.out, HO6.out.grown HB6.out hbs6 HG7.out⟩
     | exact ⟨k + 1, J, by omega, by go_num, by omega, HO6.out, HB6.out⟩
     | ((repeat apply Exists.intro); exact ⟨⟨k + 1, J ++ [id], by omega, by go_num, by simp; omega, HO7.out, HO6.out.grown HB6.out hbs6 HG7.out⟩, rfl⟩)
     | ((repeat apply Exists.intro); exact ⟨⟨k + 1, J, by omega, by go_num, by omega, HO6.out, HB6.out⟩, rfl⟩)
    case measure => simp [intOf]; omega
  ·
   have HE := Lib.hid ((HB.out.block (w.heap.size + 1) (by omega)).trans HN2.out)
   obtain ⟨lo, lc, hform⟩ := own_shape HO.out.own
   subst hform
   by_cases hJ0 : J.length = 0
   ·
    have HJ0 := Lib.hid hJ0
    have hJi : ((J.length : Int) == 0) = true := by rw [hJ0]; rfl
    clear hJ0
    go_wp2_with (first
     | ((with_reducible refine bd_zid ?_ ?_ ?_); rfl; rfl)
     | ((with_reducible refine st_idg (l := zId) (x := .tmp 8) (y := .tmp 50) (g := w.heap.size + 1) ?_ ?_ ?_ ?_ HE.out ?_ ?_ ?_); rfl; rfl; rfl; rfl; rfl; rfl))
    refine bodyPost_ret (results_cell_tmp (fn := Tryz.f103) (p := 8) (q := 9) (by rfl) _ _ (w.heap.size + 1) _ _ _ _ (by rfl) (setRow_heap _ _ _ _ _ _ HE.out) Tryz.underlying46 rfl (by rw [List.size_toArray]; exact idsize rfl)) rfl ⟨zId, false, rfl, rfl, below_setRow HBW.out (by omega) _⟩
   ·
    have hJi : ((J.length : Int) == 0) = false := by simpa using hJ0
    obtain ⟨m, hm⟩ : ∃ m, m = J.length - 1 - n % J.length := ⟨_, rfl⟩
    have hmod : n % J.length < J.length := Nat.mod_lt _ (by omega)
    have hml : m < J.length := by omega
    have hmi : (J.length : Int) - 1 - (n : Int) % (J.length : Int) = (m : Int) := by
     rw [hm, ← Int.natCast_emod]; omega
    have hml' : (m : Int) < (J.length : Int) := by omega
    have hm0 : (0 : Int) ≤ (m : Int) := by omega
    have hn0 : (0 : Int) ≤ (n : Int) := by omega
    have hJp : (0 : Int) < (J.length : Int) := by omega
    obtain ⟨id, hx⟩ : ∃ x, J[m]? = some x := ⟨J[m], List.getElem?_eq_getElem hml⟩
    have hxl := HO.out.len id (List.mem_of_getElem? hx)
    obtain ⟨a, rfl, _, hc⟩ := HO.out.rows.elem m (idC id) (by simp [hx])
    have HC1 := Lib.hid hc
    have HXL := Lib.hid hxl
    clear hx hxl hc hm hmod
    go_wp2_with (first
     | ((with_reducible refine ld_id (x := .tmp 60) (p := a.add (m * 32)) ?_ ?_ ?_ HC1.out HXL.out ?_); rfl; rfl; rfl)
     | ((with_reducible refine st_idg (l := id) (x := .tmp 8) (y := .tmp 61) (g := w.heap.size + 1) ?_ ?_ ?_ ?_ HE.out ?_ HXL.out ?_); rfl; rfl; rfl; rfl; rfl))
    refine bodyPost_ret (results_cell_tmp (fn := Tryz.f103) (p := 8) (q := 9) (by rfl) _ _ (w.heap.size + 1) _ _ _ _ (by rfl) (setRow_heap _ _ _ _ _ _ HE.out) Tryz.underlying46 rfl (by rw [List.size_toArray]; exact idsize HXL.out)) rfl ⟨id, true, rfl, HXL.out, below_setRow HBW.out (by omega) _⟩
end Go.Proofs.YtkcjhkfelaplkaaGreatDoor
