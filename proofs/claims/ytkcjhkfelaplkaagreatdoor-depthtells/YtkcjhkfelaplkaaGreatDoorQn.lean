/-
  WALKS OF LAYER 11: the object that a seed makes, where it is a tag.
-/
import Derived.Test.YtkcjhkfelaplkaaGreatDoorQm
import Derived.Test.YtkcjhkfelaplkaaGreatDoorQa
set_option linter.unusedVariables false
set_option linter.unusedSimpArgs false
set_option maxHeartbeats 8000000
set_option maxRecDepth 100000
namespace Go.Proofs.YtkcjhkfelaplkaaGreatDoor
open Go.RowKit
theorem built_tag2 (l : List UInt8) (h : l.length = 32) (f : Int) (nm : ByteArray) : Tryz.prog.built 59 [(0, .int .i64 4), (7, .agg (idC l).toArray), (8, .int .i64 f), (9, .string nm)] = some (obC { noOb with kind := 4, target := l, of := f, name := nm } nilV nilV).toArray := by
 obtain ⟨x0, x1, x2, x3, x4, x5, x6, x7, x8, x9, x10, x11, x12, x13, x14, x15, x16, x17, x18, x19, x20, x21, x22, x23, x24, x25, x26, x27, x28, x29, x30, x31, rfl⟩ := len32 h
 kernel_rfl
theorem bd_tag2 {ops : Array Oper} {rest : List Oper} {op : Oper} {a : Act} {w : World} {Q : Exit → Act → World → Prop} {k x y z : Operand} {l : List UInt8} {f : Int} {nm : ByteArray} {c : Array Value} (ho : op.op = .build 59 #[(0, k), (7, x), (8, y), (9, z)]) (hk : a.eval k = .int .i64 4) (hx : a.eval x = .agg (idC l).toArray) (hy : a.eval y = .int .i64 f) (hz : a.eval z = .string nm) (hg : op.guard = none)
  (hb : Tryz.prog.built 59 [(0, .int .i64 4), (7, .agg (idC l).toArray), (8, .int .i64 f), (9, .string nm)] = some c)
  (h : wpList Tryz.prog ops Q rest (a.put op.dst (.agg c)) w) : wpList Tryz.prog ops Q (op :: rest) a w :=
 wpList_build_as hg _ _ ho _ (by simp only [List.map_toArray, List.map_cons, List.map_nil, hk, hx, hy, hz]; exact hb) h
theorem make_tag (w : World) (v iv rv : Value) (L : List St.It) (I : List (List UInt8)) (K T : Nat) (X : ByteArray) (R : List UInt8) (h : DSt w v L) (hI : IdsAt w iv I) (hil : ∀ i ∈ I, i.length = 32) (hIl : I.length ≤ 1000) (hR : ByAt w rv R) (hRl : R.length ≤ 10) (hK : K % 4 = 3) (hKl : K < 256) :
  Calls Tryz.prog 69 #[.agg #[v], iv, .agg (sdC K rv T X)] w (MkP w) := by
 have hk1 : ((K : Int) % 4 == 1) = false := by simp; omega
 have hk2 : ((K : Int) % 4 == 2) = false := by simp; omega
 have hk3 : ((K : Int) % 4 == 3) = true := by simp; omega
 have hz28 := (zero_of_info zero28).1
 have HS0 := Lib.hid noF.size
 have HO0 := Lib.hid noF.one
 have HBN := Lib.hid built_none
 have HPK := Lib.hid (fun W (hb : Below w.heap.size w W) (n : Nat) (hn : n ≤ 100000) => pick_0 W v iv L I n (h.below hb) (RowsAt.below hI hb) hil hIl hn)
 have HKD := Lib.hid (fun W (hb : Below w.heap.size w W) (id : List UInt8) (hl : id.length = 32) => refkind_any W v L id (h.below hb) hl)
 obtain ⟨vo, vc, rfl⟩ := h.form
 obtain ⟨ro, rc, rfl⟩ := hR.form
 have HR := Lib.hid hR
 have hk0 : (0 : Int) ≤ (K : Int) := by omega
 have HNO := Lib.hid (show ∀ w', ObAt w' (obC noOb nilV nilV).toArray noOb none none 0 0 from no_at)
 generalize hz : (obC noOb nilV nilV).toArray = z at *
 clear hz h hI
 go_enter Tryz.func69, Tryz.ntmps69
 go_upto_region 1 with (fail)
 change Code.wp _ _ _ _ (((w.alloc (.cells #[.slice vo L.length vc] 28)).alloc (.cells (sdC K (.slice ro R.length rc) T X) 134)).alloc (.cells z 59))
 have HS := Lib.hid (S3.made w (.slice vo L.length vc) (sdC K (.slice ro R.length rc) T X) z)
 generalize ((w.alloc (.cells #[.slice vo L.length vc] 28)).alloc (.cells (sdC K (.slice ro R.length rc) T X) 134)).alloc (.cells z 59) = wr at *
 obtain ⟨c10, c11, c12, c13⟩ := HS.out.c1
 have hlen := HS.out.sz
 have HBW := Lib.hid HS.out.bel
 have HE0 := Lib.hid HS.out.b2
 by_cases hR0 : R.length = 0
 ·
  have hr0 : ((R.length : Int) == 0) = true := by rw [hR0]; rfl
  clear hR0
  go_wp2_with (first
   | ((with_reducible refine bd_obz ?_ ?_ HBN.out ?_); rfl; rfl)
   | ((with_reducible refine st_obr (x := .tmp 6) (y := .tmp 128) (g := w.heap.size + 1 + 1) ?_ ?_ ?_ ?_ HE0.out HS0.out HS0.out HO0.out ?_); rfl; rfl; rfl; rfl))
  exact bodyPost_ret (v := .agg z) (results_cell_row (by rfl) _ _ (w.heap.size + 1 + 1) _ _ _ _ (by rfl) (setRow_heap _ _ _ _ _ _ HE0.out) Tryz.underlying59 rfl (obsize HS0.out)) rfl ⟨z, noOb, none, none, 0, 0, rfl, HNO.out _, Nat.zero_le _, Nat.zero_le _, below_setRow HS.out.bel (by omega) _⟩
 ·
  have hr0 : ((R.length : Int) == 0) = false := by simpa using hR0
  have h1' : (0 : Int) < (R.length : Int) := by omega
  have hrl : 0 < R.length := by omega
  obtain ⟨r, hr⟩ : ∃ r, R[0]? = some r := ⟨R[0], List.getElem?_eq_getElem (by omega)⟩
  obtain ⟨ra, rfl, hcr⟩ := (HR.out.below HBW.out).elem 0 r hr
  rw [show ra.add 0 = ra from by simp [Addr.add]] at hcr
  have hrb : (r.toNat : Int) ≤ 255 := by have := r.toNat_lt; omega
  have hrb0 : (0 : Int) ≤ (r.toNat : Int) := by omega
  have hwr : IntKind.i64.wrap (r.toNat : Int) = (r.toNat : Int) := IntWalk.i64_in _ (by omega)
  have hra := World.block_lt_of_cell? _ _ ((HR.out.elem 0 r hr).elim fun a ha => by have := ha.1; cases this; exact ha.2)
  rw [show ra.add 0 = ra from by simp [Addr.add]] at hra
  have HSF := Lib.hid (show ∀ W', Below (w.heap.size + 1 + 1 + 1) wr.drew W' → W'.cell? ⟨w.heap.size, 0, none⟩ = some (.slice vo L.length vc) ∧ W'.cell? ⟨w.heap.size + 1, 1, none⟩ = some (.slice (some ra) R.length rc) ∧ W'.cell? ra = some (.int .u8 (r.toNat : Int)) from fun W' hb =>
   ⟨(hb.cell (p := ⟨w.heap.size, 0, none⟩) (by show w.heap.size < _; omega)).trans HS.out.c0, (hb.cell (p := ⟨w.heap.size + 1, 1, none⟩) (by show w.heap.size + 1 < _; omega)).trans c11, (hb.cell (p := ra) (by omega)).trans hcr⟩)
  have HPKK := Lib.hid (fun W (hb : Below w.heap.size w W) => HPK.out W hb r.toNat (by have := r.toNat_lt; omega))
  have HR2 := Lib.hid (show 1 < R.length → ∃ r2 : UInt8, ∀ W', Below w.heap.size w W' → W'.cell? (ra.add 1) = some (.int .u8 (r2.toNat : Int)) from fun h2 => ⟨R[1], fun W' hb => by
   obtain ⟨a2, e2, hc2⟩ := (HR.out.below hb).elem 1 R[1] (List.getElem?_eq_getElem h2)
   cases e2; exact hc2⟩)
  clear hr hcr hra hR0
  go_upto_region 26 with (fail)
  go_cut [17, 18] from 129 to 139 (fun p b wc => ∃ (g : Nat) (id : List UInt8) (t : Bool), p = .pointer (some ⟨g, 0, none⟩) ∧ b = .bool t ∧ Hid (Below wr.heap.size wr wc) ∧ Hid (wc.heap[g]? = some (.cells (idC id).toArray 46 (0, 0))) ∧ wr.heap.size ≤ g ∧ Hid (id.length = 32))
  case first =>
   have HPK := HPKK
   clear HPKK c10 c11 c12 c13 HR2
   refine wp_region_noPanic ?_
   refine wp_region_held_drew (S := (fun w' => Below (w.heap.size + 1 + 1 + 1) wr.drew w')) (by kernel_rfl) (Below.refl _ _) (fun hH => ?_)
   refine tk (i := 0) (v := ?_) ?_ ?_
   rotate_left
   · intro w' hSw; obtain ⟨q0, q1, q2⟩ := HSF.out _ hSw; go_simp; try rfl
   try simp only [q0]
   refine tk (i := 1) (v := ?_) ?_ ?_
   rotate_left
   · intro w' hSw; obtain ⟨q0, q1, q2⟩ := HSF.out _ hSw; go_simp; try rfl
   try simp only [q0]
   refine tk (i := 2) (v := ?_) ?_ ?_
   rotate_left
   · intro w' hSw; obtain ⟨q0, q1, q2⟩ := HSF.out _ hSw; go_simp; try rfl
   try simp only [q0]
   refine tk (i := 3) (v := ?_) ?_ ?_
   rotate_left
   · intro w' hSw; obtain ⟨q0, q1, q2⟩ := HSF.out _ hSw; go_simp; try rfl
   try simp only [q0]
   refine tk (i := 4) (v := ?_) ?_ ?_
   rotate_left
   · intro w' hSw; obtain ⟨q0, q1, q2⟩ := HSF.out _ hSw; go_simp; try rfl
   try simp only [q0]
   refine tk (i := 5) (v := ?_) ?_ ?_
   rotate_left
   · intro w' hSw; obtain ⟨q0, q1, q2⟩ := HSF.out _ hSw; go_simp; try rfl
   try simp only [q0]
   refine tk (i := 6) (v := ?_) ?_ ?_
   rotate_left
   · intro w' hSw; obtain ⟨q0, q1, q2⟩ := HSF.out _ hSw; go_simp; try rfl
   try simp only [q0]
   refine wpAnyH_ready (rs := [7, 11]) (by kernel_rfl) (by simp) ?_
   refine AllReadyH.cons rfl (fun K hK => ?_) (AllReadyH.cons rfl (fun K hK => ?_) AllReadyH.nil)
   ·
    go_simp
    with_reducible refine (HPK.out _ HBW.out.drew).mono ?_
    rintro r w6 ⟨id, b, rfl, hidl, hb6⟩
    have hs6 : w.heap.size + 1 + 1 + 1 ≤ w6.heap.size := by have := hb6.size; simp only [World.size_drew] at this; omega
    have hd6 : Below (w.heap.size + 1 + 1 + 1) wr.drew w6 := hb6.mono (show _ ≤ wr.heap.size by omega)
    go_wp2_with fail
    refine hK.out _ _ hd6 (fun hH2 => ?_)
    clear hK K
    try simp only [q0]
    refine tk (i := 8) (v := ?_) ?_ ?_
    rotate_left
    · intro w' hSw; go_simp; try rfl
    try simp only [q0]
    refine tk (i := 9) (v := ?_) ?_ ?_
    rotate_left
    · intro w' hSw; go_simp; try rfl
    try simp only [q0]
    refine tk (i := 10) (v := ?_) ?_ ?_
    rotate_left
    · intro w' hSw; go_simp; try rfl
    try simp only [q0]
    refine wpAnyH_ready (rs := [11]) (by kernel_rfl) (by simp) ?_
    refine AllReadyH.cons rfl (fun K hK => ?_) AllReadyH.nil
    go_simp
    refine hK.out _ _ (hd6.alloc hs6 _) (fun hH3 => ?_)
    clear hK K
    try simp only [q0]
    refine wpAnyH_ready (rs := [12]) (by kernel_rfl) (by simp) ?_
    refine AllReadyH.cons rfl (fun K hK => ?_) AllReadyH.nil
    rw [if_pos (by rfl)]
    refine wp_store_row 46 (.tmp 17) (.tmp 138) rfl w6.heap.size (idC id).toArray rfl rfl 46 _ (heap_alloc_new _ _) (by rw [List.size_toArray]; exact idsize hidl) (by simp [idC_length, hidl]) (all_oneCell_toArray (idC_one id)) ?_
    refine hK.out _ _ (below_setRow (hd6.alloc hs6 _) (by omega) _) (fun hH4 => ?_)
    clear hK K
    try simp only [q0]
    refine tk (i := 13) (v := ?_) ?_ ?_
    rotate_left
    · intro w' hSw; go_simp; try rfl
    try simp only [q0]
    refine wpAnyH_done (by kernel_rfl) ?_ _
    refine NoPanic.normal ?_
    have hfin := Lib.hid (fun (o : Obj) => below_setRow ((((Below.refl wr.heap.size wr).drew.trans hb6).alloc (by have := hb6.size; simp only [World.size_drew] at this; exact this) o)) (show wr.heap.size ≤ w6.heap.size by have := hb6.size; simpa using this) (idC id).toArray)
    have hrow := Lib.hid (fun (c : Array Value) => setRow_heap _ _ c (idC id).toArray 46 (0, 0) (heap_alloc_new w6 (.cells c 46)))
    have hge : wr.heap.size ≤ w6.heap.size := by have := hb6.size; simpa using this
    have hidl2 := Lib.hid hidl
    clear hb6 hd6 hs6 hH2 hH3 hH4 hidl
    go_wp2_with fail
    go_meet
    exact ⟨_, id, b, rfl, rfl, hfin.out _, hrow.out _, hge, hidl2.out⟩
   ·
    go_simp
    refine hK.out _ _ ((Below.refl _ _).alloc (by simp only [World.size_drew]; omega) _) (fun hH2 => ?_)
    clear hK K
    try simp only [q0]
    refine wpAnyH_ready (rs := [7]) (by kernel_rfl) (by simp) ?_
    refine AllReadyH.cons rfl (fun K hK => ?_) AllReadyH.nil
    go_simp
    with_reducible refine (HPK.out _ ((HBW.out.trans ((below_new wr _).mono HBW.out.size)).drew)).mono ?_
    rintro r w6 ⟨id, b, rfl, hidl, hb6⟩
    have hb7 : Below wr.heap.size wr w6 := (below_new wr _).drew.trans (hb6.mono (below_new wr _).size)
    have hd6 : Below (w.heap.size + 1 + 1 + 1) wr.drew w6 := by
     have hx := hb7.mono (show w.heap.size + 1 + 1 + 1 ≤ wr.heap.size by omega)
     exact ⟨hx.os, hx.tape, hx.output, hx.size, hx.block⟩
    go_wp2_with fail
    refine hK.out _ _ hd6 (fun hH3 => ?_)
    clear hK K
    try simp only [q0]
    refine tk (i := 8) (v := ?_) ?_ ?_
    rotate_left
    · intro w' hSw; go_simp; try rfl
    try simp only [q0]
    refine tk (i := 9) (v := ?_) ?_ ?_
    rotate_left
    · intro w' hSw; go_simp; try rfl
    try simp only [q0]
    refine tk (i := 10) (v := ?_) ?_ ?_
    rotate_left
    · intro w' hSw; go_simp; try rfl
    try simp only [q0]
    refine wpAnyH_ready (rs := [12]) (by kernel_rfl) (by simp) ?_
    refine AllReadyH.cons rfl (fun K hK => ?_) AllReadyH.nil
    rw [if_pos (by rfl)]
    refine wp_store_row 46 (.tmp 17) (.tmp 138) rfl wr.heap.size (idC id).toArray rfl rfl 46 _ ((hb6.block wr.heap.size (by simp)).trans (heap_alloc_new wr _)) (by rw [List.size_toArray]; exact idsize hidl) (by simp [idC_length, hidl]) (all_oneCell_toArray (idC_one id)) ?_
    refine hK.out _ _ (below_setRow hd6 (show _ ≤ wr.heap.size by omega) _) (fun hH4 => ?_)
    clear hK K
    try simp only [q0]
    refine tk (i := 13) (v := ?_) ?_ ?_
    rotate_left
    · intro w' hSw; go_simp; try rfl
    try simp only [q0]
    refine wpAnyH_done (by kernel_rfl) ?_ _
    refine NoPanic.normal ?_
    have hfin := Lib.hid (below_setRow hb7 (Nat.le_refl _) (idC id).toArray)
    have hrow := Lib.hid (setRow_heap _ _ _ (idC id).toArray _ _ ((hb6.block wr.heap.size (by simp)).trans (heap_alloc_new wr _)))
    have hge : wr.heap.size ≤ wr.heap.size := Nat.le_refl _
    have hidl2 := Lib.hid hidl
    clear hb6 hb7 hd6 hH2 hH3 hH4 hidl
    go_wp2_with fail
    go_meet
    exact ⟨_, id, b, rfl, rfl, hfin.out, hrow.out, hge, hidl2.out⟩
  case rest =>
   obtain ⟨g, id, t, rfl, rfl, HBC, HG, hge, HIDL⟩ := hcut
   have HSC := Lib.hid (HS.out.below (HBC.out.mono (show w.heap.size + 1 + 1 + 1 ≤ wr.heap.size by omega)))
   have HE1 := Lib.hid HSC.out.b2
   have HGR := Lib.hid (row_news HG.out)
   have hcc0 := HSC.out.c0
   clear c10 c11 c12 c13 HPKK HSF hwr
   cases t with
   | false =>
     go_wp2_with (first
      | ((with_reducible refine bd_obz ?_ ?_ HBN.out ?_); rfl; rfl)
      | ((with_reducible refine st_obr (x := .tmp 6) (y := .tmp 142) (g := w.heap.size + 1 + 1) ?_ ?_ ?_ ?_ HE1.out HS0.out HS0.out HO0.out ?_); rfl; rfl; rfl; rfl))
     exact bodyPost_ret (v := .agg z) (results_cell_row (by rfl) _ _ (w.heap.size + 1 + 1) _ _ _ _ (by rfl) (setRow_heap _ _ _ _ _ _ HE1.out) Tryz.underlying59 rfl (obsize HS0.out)) rfl ⟨z, noOb, none, none, 0, 0, rfl, HNO.out _, Nat.zero_le _, Nat.zero_le _, below_setRow HSC.out.bel (by omega) _⟩
   | true =>
     have HKW := Lib.hid (HKD.out wc HSC.out.bel id HIDL.out)
     go_wp2_with ((with_reducible refine ld_id (x := .tmp 17) (p := ⟨g, 0, none⟩) ?_ ?_ ?_ HGR.out HIDL.out ?_); rfl; rfl; rfl)
     refine HKW.out.mono ?_
     rintro rr wd ⟨Kd, rfl, hKd0, hKd4, hxd⟩
     have HSD := Lib.hid (HSC.out.below (hxd.mono (by have := HSC.out.sz; omega)))
     have HE2 := Lib.hid HSD.out.b2
     have HGD := Lib.hid (row_news ((hxd.block g (Array.getElem?_eq_some_iff.1 HG.out).1).trans HG.out))
     obtain ⟨d10, d11, d12, d13⟩ := HSD.out.c1
     have hdm : (0 : Int) ≤ Kd % 4 := by omega
     have hdm2 : Kd % 4 ≤ 3 := by omega
     have TAGF : ∀ f : Int, ∃ cs : Array Value, Tryz.prog.built 59 [(0, .int .i64 4), (7, .agg (idC id).toArray), (8, .int .i64 f), (9, .string ⟨#[116]⟩)] = some cs ∧ ObF cs { noOb with kind := 4, target := id, of := f, name := ⟨#[116]⟩ } nilV nilV := fun f => ⟨_, built_tag2 id HIDL.out f ⟨#[116]⟩, obC_F _ _ _ rfl HIDL.out rfl rfl⟩
     clear hxd HKW hcc0
     by_cases h2 : 1 < R.length
     ·
      obtain ⟨r2, hr2⟩ := HR2.out h2
      have h2' : (1 : Int) < (R.length : Int) := by omega
      have hc2 : wd.cell? ⟨ra.block, ra.off + 1, none⟩ = some (.int .u8 (r2.toNat : Int)) := by have := hr2 wd HSD.out.bel; simpa [Addr.add] using this
      have hr2b : (0 : Int) ≤ (r2.toNat : Int) := by omega
      clear hr2
      by_cases h250 : (r2.toNat : Int) = 250
      ·
       have h250b : ((r2.toNat : Int) == 250) = true := by simpa using h250
       clear h250
       obtain ⟨cs, hbt, hF⟩ := TAGF (1 + Kd % 4)
       have HBT := Lib.hid hbt
       have HCS := Lib.hid hF.size
       have HCO := Lib.hid hF.one
       have HFN := Lib.hid (show ∀ w', Below w.heap.size w w' → MkP w (.returned (.agg cs)) w' from fun w' hb => ⟨cs, _, none, none, 0, 0, rfl, none_at _ hF rfl rfl (by show (1 : Nat) ≤ maxLen; unfold maxLen; omega) (show (0 : Nat) < 4294967296 by decide), Nat.zero_le _, Nat.zero_le _, hb⟩)
       clear hbt hF TAGF
       go_wp2_with (first
        | ((with_reducible refine ld_id (x := .tmp 17) (p := ⟨g, 0, none⟩) ?_ ?_ ?_ HGD.out HIDL.out ?_); rfl; rfl; rfl)
        | ((with_reducible refine bd_tag2 (c := cs) (k := .const (.int .i64 4)) (x := .tmp 160) (y := .tmp 161) (z := .const (.string ⟨#[116]⟩)) ?_ ?_ ?_ ?_ ?_ ?_ HBT.out ?_); rfl; rfl; rfl; rfl; rfl; rfl)
        | ((with_reducible refine st_obr (x := .tmp 6) (y := .tmp 162) (g := w.heap.size + 1 + 1) ?_ ?_ ?_ ?_ HE2.out HS0.out HCS.out HCO.out ?_); rfl; rfl; rfl; rfl))
       exact bodyPost_ret (v := .agg cs) (results_cell_row (by rfl) _ _ (w.heap.size + 1 + 1) _ _ _ _ (by rfl) (setRow_heap _ _ _ _ _ _ HE2.out) Tryz.underlying59 rfl (obsize HCS.out)) rfl (HFN.out _ (below_setRow HSD.out.bel (by omega) _))
      ·
       have h250b : ((r2.toNat : Int) == 250) = false := by simpa using h250
       clear h250
       obtain ⟨cs, hbt, hF⟩ := TAGF Kd
       have HBT := Lib.hid hbt
       have HCS := Lib.hid hF.size
       have HCO := Lib.hid hF.one
       have HFN := Lib.hid (show ∀ w', Below w.heap.size w w' → MkP w (.returned (.agg cs)) w' from fun w' hb => ⟨cs, _, none, none, 0, 0, rfl, none_at _ hF rfl rfl (by show (1 : Nat) ≤ maxLen; unfold maxLen; omega) (show (0 : Nat) < 4294967296 by decide), Nat.zero_le _, Nat.zero_le _, hb⟩)
       clear hbt hF TAGF
       go_wp2_with (first
        | ((with_reducible refine ld_id (x := .tmp 17) (p := ⟨g, 0, none⟩) ?_ ?_ ?_ HGD.out HIDL.out ?_); rfl; rfl; rfl)
        | ((with_reducible refine bd_tag2 (c := cs) (k := .const (.int .i64 4)) (x := .tmp 160) (y := .tmp 161) (z := .const (.string ⟨#[116]⟩)) ?_ ?_ ?_ ?_ ?_ ?_ HBT.out ?_); rfl; rfl; rfl; rfl; rfl; rfl)
        | ((with_reducible refine st_obr (x := .tmp 6) (y := .tmp 162) (g := w.heap.size + 1 + 1) ?_ ?_ ?_ ?_ HE2.out HS0.out HCS.out HCO.out ?_); rfl; rfl; rfl; rfl))
       exact bodyPost_ret (v := .agg cs) (results_cell_row (by rfl) _ _ (w.heap.size + 1 + 1) _ _ _ _ (by rfl) (setRow_heap _ _ _ _ _ _ HE2.out) Tryz.underlying59 rfl (obsize HCS.out)) rfl (HFN.out _ (below_setRow HSD.out.bel (by omega) _))
     ·
      have h2' : ¬ (1 : Int) < (R.length : Int) := by omega
      obtain ⟨cs, hbt, hF⟩ := TAGF Kd
      have HBT := Lib.hid hbt
      have HCS := Lib.hid hF.size
      have HCO := Lib.hid hF.one
      have HFN := Lib.hid (show ∀ w', Below w.heap.size w w' → MkP w (.returned (.agg cs)) w' from fun w' hb => ⟨cs, _, none, none, 0, 0, rfl, none_at _ hF rfl rfl (by show (1 : Nat) ≤ maxLen; unfold maxLen; omega) (show (0 : Nat) < 4294967296 by decide), Nat.zero_le _, Nat.zero_le _, hb⟩)
      clear hbt hF TAGF
      go_wp2_with (first
       | ((with_reducible refine ld_id (x := .tmp 17) (p := ⟨g, 0, none⟩) ?_ ?_ ?_ HGD.out HIDL.out ?_); rfl; rfl; rfl)
       | ((with_reducible refine bd_tag2 (c := cs) (k := .const (.int .i64 4)) (x := .tmp 160) (y := .tmp 161) (z := .const (.string ⟨#[116]⟩)) ?_ ?_ ?_ ?_ ?_ ?_ HBT.out ?_); rfl; rfl; rfl; rfl; rfl; rfl)
       | ((with_reducible refine st_obr (x := .tmp 6) (y := .tmp 162) (g := w.heap.size + 1 + 1) ?_ ?_ ?_ ?_ HE2.out HS0.out HCS.out HCO.out ?_); rfl; rfl; rfl; rfl))
      exact bodyPost_ret (v := .agg cs) (results_cell_row (by rfl) _ _ (w.heap.size + 1 + 1) _ _ _ _ (by rfl) (setRow_heap _ _ _ _ _ _ HE2.out) Tryz.underlying59 rfl (obsize HCS.out)) rfl (HFN.out _ (below_setRow HSD.out.bel (by omega) _))
end Go.Proofs.YtkcjhkfelaplkaaGreatDoor
