/-
  WALKS OF LAYER 11: the object that a seed makes, where it is a commit; any seed.
-/
import Derived.Test.YtkcjhkfelaplkaaGreatDoorQm
import Derived.Test.YtkcjhkfelaplkaaGreatDoorQn
import Derived.Test.YtkcjhkfelaplkaaGreatDoorQa
set_option linter.unusedVariables false
set_option linter.unusedSimpArgs false
set_option maxHeartbeats 8000000
set_option maxRecDepth 100000
namespace Go.Proofs.YtkcjhkfelaplkaaGreatDoor
open Go.RowKit
theorem built_commit2 (l : List UInt8) (h : l.length = 32) (ti : Nat) (te : ByteArray) : Tryz.prog.built 59 [(0, .int .i64 3), (3, .agg (idC l).toArray), (5, .int .u32 (ti : Int)), (6, .string te)] = some (obC { noOb with kind := 3, tree := l, time := ti, text := te } nilV nilV).toArray := by
 obtain ⟨x0, x1, x2, x3, x4, x5, x6, x7, x8, x9, x10, x11, x12, x13, x14, x15, x16, x17, x18, x19, x20, x21, x22, x23, x24, x25, x26, x27, x28, x29, x30, x31, rfl⟩ := len32 h
 kernel_rfl
theorem bd_commit2 {ops : Array Oper} {rest : List Oper} {op : Oper} {a : Act} {w : World} {Q : Exit → Act → World → Prop} {k x y z : Operand} {l : List UInt8} {ti : Nat} {te : ByteArray} {c : Array Value} (ho : op.op = .build 59 #[(0, k), (3, x), (5, y), (6, z)]) (hk : a.eval k = .int .i64 3) (hx : a.eval x = .agg (idC l).toArray) (hy : a.eval y = .int .u32 (ti : Int)) (hz : a.eval z = .string te) (hg : op.guard = none)
  (hb : Tryz.prog.built 59 [(0, .int .i64 3), (3, .agg (idC l).toArray), (5, .int .u32 (ti : Int)), (6, .string te)] = some c)
  (h : wpList Tryz.prog ops Q rest (a.put op.dst (.agg c)) w) : wpList Tryz.prog ops Q (op :: rest) a w :=
 wpList_build_as hg _ _ ho _ (by simp only [List.map_toArray, List.map_cons, List.map_nil, hk, hx, hy, hz]; exact hb) h
structure CoS (w W : World) (v : Value) (sc z : Array Value) (g : Nat) (o0 : Ob) (ps : List (List UInt8)) (pv : Value) : Prop where
 s3 : S3 w W v sc z
 gl : w.heap.size + 1 + 1 < g
 bx : Bx W g { o0 with pars := ps } nilV pv
 own : OwnI W (g + 1) pv ps
theorem CoS.lt {w W : World} {v : Value} {sc z : Array Value} {g : Nat} {o0 : Ob} {ps : List (List UInt8)} {pv : Value} (h : CoS w W v sc z g o0 ps pv) : g < W.heap.size := (Array.getElem?_eq_some_iff.1 h.bx.held).1
theorem CoS.below {w W W' : World} {v : Value} {sc z : Array Value} {g : Nat} {o0 : Ob} {ps : List (List UInt8)} {pv : Value} (h : CoS w W v sc z g o0 ps pv) (hb : Below W.heap.size W W') : CoS w W' v sc z g o0 ps pv :=
 ⟨h.s3.below (hb.mono (by have := h.lt; have := h.gl; omega)), h.gl, h.bx.below hb, h.own.below hb⟩
theorem CoS.next {w W W5 : World} {v : Value} {sc z : Array Value} {g : Nat} {o0 : Ob} {ps : List (List UInt8)} {pv v' : Value} {id : List UInt8} {o : Obj} (h : CoS w W v sc z g o0 ps pv) (ho : OwnI W5 (g + 1) v' (ps ++ [id])) (hg : (W.alloc o).grownBy W5 pv.ownBlock) (ht : o0.tree.length = 32) :
  CoS w (W5.setCell ⟨g, 35, none⟩ v') v sc z g o0 (ps ++ [id]) v' := by
 have hlt := h.lt
 have hgl := h.gl
 have hbase : ∀ k, pv.ownBlock = some k → g + 1 ≤ k := fun k hk => (h.own.own.lt k hk).1
 have hB : Below (g + 1) W W5 := ((Below.refl _ _).alloc (by omega) o).grown hg (by simp; omega) hbase
 have B5 : Bx W5 g { o0 with pars := ps } nilV pv := (hB.block _ (by omega)).trans h.bx.held
 refine ⟨h.s3.below ((hB.mono (by omega)).setCell (p := ⟨g, 35, none⟩) (by show w.heap.size + 1 + 1 + 1 ≤ g; omega) v'), h.gl, B5.pars v' (ps ++ [id]) ht, ⟨own_kept ho.own (fun j hj => Below.heap_setCell _ _ _ _ (fun e => ?_)), ho.len⟩⟩
 have := (ho.own.lt j hj).1
 have e' : j = g := e
 omega
theorem CoS.cell5 {w W W5 : World} {v : Value} {sc z : Array Value} {g : Nat} {o0 : Ob} {ps : List (List UInt8)} {pv : Value} {o : Obj} (h : CoS w W v sc z g o0 ps pv) (hg : (W.alloc o).grownBy W5 pv.ownBlock) (ht : o0.tree.length = 32) (hta : o0.target.length = 32) (hp : pv.oneCell' = true) : W5.cell? ⟨g, 35, none⟩ = some pv ∧ W5.frozen? ⟨g, 35, none⟩ = false := by
 have hlt := h.lt
 have hbase : ∀ k, pv.ownBlock = some k → g + 1 ≤ k := fun k hk => (h.own.own.lt k hk).1
 have hB : Below (g + 1) W W5 := ((Below.refl _ _).alloc (by omega) o).grown hg (by simp; omega) hbase
 have B5 : Bx W5 g { o0 with pars := ps } nilV pv := (hB.block _ (by omega)).trans h.bx.held
 exact ⟨B5.cell 35 _ (obC_F { o0 with pars := ps } nilV pv ht hta rfl hp).c35, B5.fr 35⟩
theorem CoS.c35 {w W : World} {v : Value} {sc z : Array Value} {g : Nat} {o0 : Ob} {ps : List (List UInt8)} {pv : Value} (h : CoS w W v sc z g o0 ps pv) (ht : o0.tree.length = 32) (hta : o0.target.length = 32) (hp : pv.oneCell' = true) : W.cell? ⟨g, 35, none⟩ = some pv := h.bx.cell 35 _ (obC_F { o0 with pars := ps } nilV pv ht hta rfl hp).c35
theorem CoS.obat {w W : World} {v : Value} {sc z : Array Value} {g : Nat} {o0 : Ob} {ps : List (List UInt8)} {bo : Option Addr} {cap : Nat} (h : CoS w W v sc z g o0 ps (.slice bo ps.length cap)) (he : o0.ents = []) (ht : o0.tree.length = 32) (hta : o0.target.length = 32) (hti : o0.time < 4294967296) (hn : o0.name.size ≤ maxLen) (hl : ps.length ≤ maxLen) (cs : Array Value) :
  ObAt (W.setRow (w.heap.size + 1 + 1) cs) (obC { o0 with pars := ps } nilV (.slice bo ps.length cap)).toArray { o0 with pars := ps } none bo 0 cap := by
 have hgl := h.gl
 have ho : OwnI (W.setRow (w.heap.size + 1 + 1) cs) (g + 1) (.slice bo ps.length cap) ps := ⟨own_kept h.own.own (fun j hj => setRow_other _ _ _ _ (by have := (h.own.own.lt j hj).1; omega)), h.own.len⟩
 clear h
 obtain ⟨k0, d0, e0, tr0, p0, t0, x0, ta0, of0, n0⟩ := o0
 obtain rfl : e0 = [] := he
 exact ⟨obC_F _ nilV (.slice bo ps.length cap) ht hta rfl rfl, RowsAt.nil _ _, ho.rows, (fun e h' => by cases h'), (fun e h' => by cases h'), ho.len, Nat.zero_le _, hl, hn, hti⟩
theorem make_commit (w : World) (v iv rv : Value) (L : List St.It) (I : List (List UInt8)) (K T : Nat) (X : ByteArray) (R : List UInt8) (h : DSt w v L) (hI : IdsAt w iv I) (hil : ∀ i ∈ I, i.length = 32) (hIl : I.length ≤ 1000) (hR : ByAt w rv R) (hRl : R.length ≤ 10) (hK : K % 4 = 2) (hKl : K < 256) (hTl : T < 65536) (hX : X.size ≤ 300) :
  Calls Tryz.prog 69 #[.agg #[v], iv, .agg (sdC K rv T X)] w (MkP w) := by
 have hk1 : ((K : Int) % 4 == 1) = false := by simp; omega
 have hk2 : ((K : Int) % 4 == 2) = true := by simp; omega
 have HPT := Lib.hid (fun W (hb : Below w.heap.size w W) => pick_2 W v iv L I T (h.below hb) (RowsAt.below hI hb) hil hIl (by omega))
 have hz28 := (zero_of_info zero28).1
 have HS0 := Lib.hid noF.size
 have HO0 := Lib.hid noF.one
 have HBN := Lib.hid built_none
 have HPK := Lib.hid (fun W (hb : Below w.heap.size w W) (n : Nat) (hn : n ≤ 100000) => pick_3 W v iv L I n (h.below hb) (RowsAt.below hI hb) hil hIl hn)
 obtain ⟨vo, vc, rfl⟩ := h.form
 obtain ⟨ro, rc, rfl⟩ := hR.form
 have HR := Lib.hid hR
 have hk0 : (0 : Int) ≤ (K : Int) := by omega
 have HNO := Lib.hid (show ∀ w', ObAt w' (obC noOb nilV nilV).toArray noOb none none 0 0 from no_at)
 generalize hz : (obC noOb nilV nilV).toArray = z at *
 clear hz h hI
 go_enter Tryz.func69, Tryz.ntmps69
 go_upto_region 1 with (fail)
 change Code.wp _ _ _ _ (((w.alloc (.cells #[.slice vo L.length vc] 28)).alloc (.cells (sdC K (.slice ro R.length rc) T X) 134)).alloc (.cells z 59))
 have HS := Lib.hid (S3.made w (.slice vo L.length vc) (sdC K (.slice ro R.length rc) T X) z)
 generalize ((w.alloc (.cells #[.slice vo L.length vc] 28)).alloc (.cells (sdC K (.slice ro R.length rc) T X) 134)).alloc (.cells z 59) = wq at *
 obtain ⟨c10, c11, c12, c13⟩ := HS.out.c1
 have hlen := HS.out.sz
 have HBW := Lib.hid HS.out.bel
 have HE0 := Lib.hid HS.out.b2
 have hT0 : (0 : Int) ≤ (T : Int) := by omega
 have hT1 : (T : Int) ≤ 65535 := by omega
 have hc00 := HS.out.c0
 go_wp2_with fail
 refine (HPT.out _ HBW.out).mono ?_
 rintro rr w2 ⟨id, t, rfl, hidl, hb2⟩
 have HIDL := Lib.hid hidl
 have HS2 := Lib.hid (HS.out.below ((hb2.mono (show w.heap.size + 1 + 1 + 1 ≤ wq.heap.size by omega)).alloc (by have := hb2.size; omega) (.cells (idC id).toArray 46)))
 have HR2 := Lib.hid (row_news (heap_alloc_new w2 (.cells (idC id).toArray 46)))
 have HE2 := Lib.hid HS2.out.b2
 obtain ⟨d10, d11, d12, d13⟩ := HS2.out.c1
 have hs2 := HS2.out.sz
 have hs22 : w.heap.size + 1 + 1 < w2.heap.size := by have := hb2.size; omega
 clear c10 c11 c12 c13 hc00 hidl hb2 HPT
 cases t with
 | false =>
   go_wp2_with (first
    | ((with_reducible refine st_id2 (l := id) (x := .tmp 11) (y := .tmp 72) (g := w2.heap.size) ?_ ?_ ?_ ?_ ?_ ?_ HIDL.out ?_); rfl; rfl; rfl; rfl; rfl; rfl)
    | ((with_reducible refine bd_obz ?_ ?_ HBN.out ?_); rfl; rfl)
    | ((with_reducible refine st_obr (x := .tmp 6) (y := .tmp 76) (g := w.heap.size + 1 + 1) ?_ ?_ ?_ ?_ HE2.out HS0.out HS0.out HO0.out ?_); rfl; rfl; rfl; rfl))
   exact bodyPost_ret (v := .agg z) (results_cell_row (by rfl) _ _ (w.heap.size + 1 + 1) _ _ _ _ (by rfl) (setRow_heap _ _ _ _ _ _ HE2.out) Tryz.underlying59 rfl (obsize HS0.out)) rfl ⟨z, noOb, none, none, 0, 0, rfl, HNO.out _, Nat.zero_le _, Nat.zero_le _, below_setRow HS2.out.bel (by omega) _⟩
 | true =>
   have HBC := Lib.hid (built_commit2 id HIDL.out T X)
   have HF := Lib.hid (obC_F { noOb with kind := 3, tree := id, time := T, text := X } nilV nilV HIDL.out rfl rfl rfl)
   have HCS := Lib.hid HF.out.size
   have HCO := Lib.hid HF.out.one
   have hw2s : (w2.alloc (.cells (idC id).toArray 46)).heap.size = w2.heap.size + 1 := by simp
   have HW2S := Lib.hid hw2s.symm
   have HC0 := Lib.hid (show CoS w ((w2.alloc (.cells (idC id).toArray 46)).alloc (.cells (obC { noOb with kind := 3, tree := id, time := T, text := X } nilV nilV).toArray 59)) (.slice vo L.length vc) (sdC K (.slice ro R.length rc) T X) z (w2.heap.size + 1) { noOb with kind := 3, tree := id, time := T, text := X } [] nilV from
    ⟨HS2.out.below ((below_new _ _).mono (by omega)), by omega, by unfold Bx; rw [← hw2s]; exact heap_alloc_new _ _, OwnI.nil _ _⟩)
   generalize hcs : (obC { noOb with kind := 3, tree := id, time := T, text := X } nilV nilV).toArray = cs0 at *
   clear hw2s hcs
   go_wp2_with (first
    | ((with_reducible refine st_id2 (l := id) (x := .tmp 11) (y := .tmp 72) (g := w2.heap.size) ?_ ?_ ?_ ?_ ?_ ?_ HIDL.out ?_); rfl; rfl; rfl; rfl; rfl; rfl)
    | ((with_reducible refine ld_id (x := .tmp 11) (p := ⟨w2.heap.size, 0, none⟩) ?_ ?_ ?_ HR2.out HIDL.out ?_); rfl; rfl; rfl)
    | ((with_reducible refine bd_commit2 (c := cs0) (k := .const (.int .i64 3)) (x := .tmp 77) (y := .tmp 80) (z := .tmp 82) (ti := T) (te := X) ?_ ?_ ?_ ?_ ?_ ?_ HBC.out ?_); rfl; rfl; rfl; rfl; rfl; rfl)
    | ((with_reducible refine st_ob2 (x := .tmp 13) (y := .tmp 83) (g := w2.heap.size + 1) ?_ ?_ ?_ ?_ ?_ HW2S.out HCS.out HCO.out ?_); rfl; rfl; rfl; rfl; exact HS0.out))
   have HTI := Lib.hid (show T < 4294967296 by omega)
   have HXS := Lib.hid hX
   generalize hg1 : w2.heap.size + 1 = g at *
   generalize ho0 : ({ noOb with kind := 3, tree := id, time := T, text := X } : Ob) = o0 at *
   have HOP := Lib.hid (show o0.tree.length = 32 ∧ o0.target.length = 32 ∧ o0.time < 4294967296 ∧ o0.name.size ≤ maxLen ∧ o0.ents = [] ∧ o0.data.size ≤ 5000 ∧ o0.text.size ≤ 5000 from by
    subst ho0
    exact ⟨HIDL.out, rfl, HTI.out, (show (0 : Nat) ≤ maxLen from Nat.zero_le _), rfl, Nat.zero_le _, (show X.size ≤ 5000 by have := HXS.out; omega)⟩)
   generalize (w2.alloc (.cells (idC id).toArray 46)).alloc (.cells cs0 59) = W1 at *
   clear hg1 ho0 d10 d11 d12 d13 HE2 HR2 HS2 HBC HF HCS HCO hs2 hs22 HW2S
   go_loopw [14] (fun i wr => ∃ (k : Nat) (ps : List (List UInt8)) (pv : Value), k ≤ R.length ∧ k ≤ 4 ∧ i = .int .i64 k ∧ ps.length ≤ k ∧ Hid (CoS w wr (.slice vo L.length vc) (sdC K (.slice ro R.length rc) T X) z g o0 ps pv)) (fun i _ => 4 - (intOf i).toNat)
   case atStart => exact ⟨0, [], nilV, by omega, by omega, rfl, by simp, HC0.out⟩
   case round =>
    obtain ⟨k, ps, pv, hkR, hk4, rfl, hek, HT⟩ := hrel
    obtain ⟨c10, c11, c12, c13⟩ := HT.out.s3.c1
    have hlen := HT.out.s3.sz
    have hgl := HT.out.gl
    have hgw := HT.out.lt
    have HBW := Lib.hid HT.out.s3.bel
    obtain ⟨po, pc, hpform⟩ := own_shape HT.out.own.own
    subst hpform
    by_cases hlt : k < R.length ∧ k < 4
    ·
     obtain ⟨h1, h2⟩ := hlt
     have h1' : (k : Int) < (R.length : Int) := by omega
     have h2' : (k : Int) < 4 := by omega
     have h2b : decide ((k : Int) < 4) = true := by simpa using h2'
     have hk0' : (0 : Int) ≤ (k : Int) := by omega
     obtain ⟨r, hr⟩ : ∃ r, R[k]? = some r := ⟨R[k], List.getElem?_eq_getElem h1⟩
     obtain ⟨ra, rfl, hcr⟩ := (HR.out.below HBW.out).elem k r hr
     have hrb : (r.toNat : Int) ≤ 255 := by have := r.toNat_lt; omega
     have hrb0 : (0 : Int) ≤ (r.toNat : Int) := by omega
     have hwr : IntKind.i64.wrap (r.toNat : Int) = (r.toNat : Int) := IntWalk.i64_in _ (by omega)
     have hra := World.block_lt_of_cell? _ _ ((HR.out.elem k r hr).elim fun a ha => by have := ha.1; cases this; exact ha.2)
     have HSF := Lib.hid (show ∀ W', Below (w.heap.size + 1 + 1 + 1) wr.drew W' → W'.cell? ⟨w.heap.size, 0, none⟩ = some (.slice vo L.length vc) ∧ W'.cell? ⟨w.heap.size + 1, 1, none⟩ = some (.slice (some ra) R.length rc) ∧ W'.cell? (ra.add k) = some (.int .u8 (r.toNat : Int)) from fun W' hb =>
      ⟨(hb.cell (p := ⟨w.heap.size, 0, none⟩) (by show w.heap.size < _; omega)).trans HT.out.s3.c0, (hb.cell (p := ⟨w.heap.size + 1, 1, none⟩) (by show w.heap.size + 1 < _; omega)).trans c11, (hb.cell (p := ra.add k) (by have := hra; omega)).trans hcr⟩)
     have HPKK := Lib.hid (fun W (hb : Below w.heap.size w W) => HPK.out W hb r.toNat (by have := r.toNat_lt; omega))
     clear hr hcr hra
     go_upto_region 19 with (fail)
     go_cut [15, 16] from 95 to 106 (fun p b wc => ∃ (h : Nat) (jd : List UInt8) (t : Bool), p = .pointer (some ⟨h, 0, none⟩) ∧ b = .bool t ∧ Hid (Below wr.heap.size wr wc) ∧ Hid (wc.heap[h]? = some (.cells (idC jd).toArray 46 (0, 0))) ∧ wr.heap.size ≤ h ∧ Hid (jd.length = 32))
     case first =>
      have HPK := HPKK
      clear HPKK c10 c11 c12 c13
      refine wp_region_noPanic ?_
      refine wp_region_held_drew (S := (fun w' => Below (w.heap.size + 1 + 1 + 1) wr.drew w')) (by kernel_rfl) (Below.refl _ _) (fun hH => ?_)
      refine tk (i := 0) (v := ?_) ?_ ?_
      rotate_left
      · intro w' hSw; obtain ⟨q0, q1, q2⟩ := HSF.out _ hSw; go_simp; try rfl
      try simp only [q0]
      refine tk (i := 1) (v := ?_) ?_ ?_
      rotate_left
      · intro w' hSw; obtain ⟨q0, q1, q2⟩ := HSF.out _ hSw; go_simp; try rfl
      try simp only [q0]
      refine tk (i := 2) (v := ?_) ?_ ?_
      rotate_left
      · intro w' hSw; obtain ⟨q0, q1, q2⟩ := HSF.out _ hSw; go_simp; try rfl
      try simp only [q0]
      refine tk (i := 3) (v := ?_) ?_ ?_
      rotate_left
      · intro w' hSw; obtain ⟨q0, q1, q2⟩ := HSF.out _ hSw; go_simp; try rfl
      try simp only [q0]
      refine tk (i := 4) (v := ?_) ?_ ?_
      rotate_left
      · intro w' hSw; obtain ⟨q0, q1, q2⟩ := HSF.out _ hSw; go_simp; try rfl
      try simp only [q0]
      refine tk (i := 5) (v := ?_) ?_ ?_
      rotate_left
      · intro w' hSw; obtain ⟨q0, q1, q2⟩ := HSF.out _ hSw; go_simp; try rfl
      try simp only [q0]
      refine tk (i := 6) (v := ?_) ?_ ?_
      rotate_left
      · intro w' hSw; obtain ⟨q0, q1, q2⟩ := HSF.out _ hSw; go_simp; try rfl
      try simp only [q0]
      refine tk (i := 7) (v := ?_) ?_ ?_
      rotate_left
      · intro w' hSw; obtain ⟨q0, q1, q2⟩ := HSF.out _ hSw; go_simp; try rfl
      try simp only [q0]
      refine wpAnyH_ready (rs := [8, 12]) (by kernel_rfl) (by simp) ?_
      refine AllReadyH.cons rfl (fun K hK => ?_) (AllReadyH.cons rfl (fun K hK => ?_) AllReadyH.nil)
      ·
       go_simp
       with_reducible refine (HPK.out _ HBW.out.drew).mono ?_
       rintro r w6 ⟨id, b, rfl, hidl, hb6⟩
       have hs6 : w.heap.size + 1 + 1 + 1 ≤ w6.heap.size := by have := hb6.size; simp only [World.size_drew] at this; omega
       have hd6 : Below (w.heap.size + 1 + 1 + 1) wr.drew w6 := hb6.mono (show _ ≤ wr.heap.size by omega)
       go_wp2_with fail
       refine hK.out _ _ hd6 (fun hH2 => ?_)
       clear hK K
       try simp only [q0]
       refine tk (i := 9) (v := ?_) ?_ ?_
       rotate_left
       · intro w' hSw; go_simp; try rfl
       try simp only [q0]
       refine tk (i := 10) (v := ?_) ?_ ?_
       rotate_left
       · intro w' hSw; go_simp; try rfl
       try simp only [q0]
       refine tk (i := 11) (v := ?_) ?_ ?_
       rotate_left
       · intro w' hSw; go_simp; try rfl
       try simp only [q0]
       refine wpAnyH_ready (rs := [12]) (by kernel_rfl) (by simp) ?_
       refine AllReadyH.cons rfl (fun K hK => ?_) AllReadyH.nil
       go_simp
       refine hK.out _ _ (hd6.alloc hs6 _) (fun hH3 => ?_)
       clear hK K
       try simp only [q0]
       refine wpAnyH_ready (rs := [13]) (by kernel_rfl) (by simp) ?_
       refine AllReadyH.cons rfl (fun K hK => ?_) AllReadyH.nil
       rw [if_pos (by rfl)]
       refine wp_store_row 46 (.tmp 15) (.tmp 105) rfl w6.heap.size (idC id).toArray rfl rfl 46 _ (heap_alloc_new _ _) (by rw [List.size_toArray]; exact idsize hidl) (by simp [idC_length, hidl]) (all_oneCell_toArray (idC_one id)) ?_
       refine hK.out _ _ (below_setRow (hd6.alloc hs6 _) (by omega) _) (fun hH4 => ?_)
       clear hK K
       try simp only [q0]
       refine tk (i := 14) (v := ?_) ?_ ?_
       rotate_left
       · intro w' hSw; go_simp; try rfl
       try simp only [q0]
       refine wpAnyH_done (by kernel_rfl) ?_ _
       refine NoPanic.normal ?_
       have hfin := Lib.hid (fun (o : Obj) => below_setRow ((((Below.refl wr.heap.size wr).drew.trans hb6).alloc (by have := hb6.size; simp only [World.size_drew] at this; exact this) o)) (show wr.heap.size ≤ w6.heap.size by have := hb6.size; simpa using this) (idC id).toArray)
       have hrow := Lib.hid (fun (c : Array Value) => setRow_heap _ _ c (idC id).toArray 46 (0, 0) (heap_alloc_new w6 (.cells c 46)))
       have hge : wr.heap.size ≤ w6.heap.size := by have := hb6.size; simpa using this
       have hidl2 := Lib.hid hidl
       clear hb6 hd6 hs6 hH2 hH3 hH4 hidl
       go_wp2_with fail
       go_meet
       exact ⟨_, id, b, rfl, rfl, hfin.out _, hrow.out _, hge, hidl2.out⟩
      ·
       go_simp
       refine hK.out _ _ ((Below.refl _ _).alloc (by simp only [World.size_drew]; omega) _) (fun hH2 => ?_)
       clear hK K
       try simp only [q0]
       refine wpAnyH_ready (rs := [8]) (by kernel_rfl) (by simp) ?_
       refine AllReadyH.cons rfl (fun K hK => ?_) AllReadyH.nil
       go_simp
       with_reducible refine (HPK.out _ ((HBW.out.trans ((below_new wr _).mono HBW.out.size)).drew)).mono ?_
       rintro r w6 ⟨id, b, rfl, hidl, hb6⟩
       have hb7 : Below wr.heap.size wr w6 := (below_new wr _).drew.trans (hb6.mono (below_new wr _).size)
       have hd6 : Below (w.heap.size + 1 + 1 + 1) wr.drew w6 := by
        have hx := hb7.mono (show w.heap.size + 1 + 1 + 1 ≤ wr.heap.size by omega)
        exact ⟨hx.os, hx.tape, hx.output, hx.size, hx.block⟩
       go_wp2_with fail
       refine hK.out _ _ hd6 (fun hH3 => ?_)
       clear hK K
       try simp only [q0]
       refine tk (i := 9) (v := ?_) ?_ ?_
       rotate_left
       · intro w' hSw; go_simp; try rfl
       try simp only [q0]
       refine tk (i := 10) (v := ?_) ?_ ?_
       rotate_left
       · intro w' hSw; go_simp; try rfl
       try simp only [q0]
       refine tk (i := 11) (v := ?_) ?_ ?_
       rotate_left
       · intro w' hSw; go_simp; try rfl
       try simp only [q0]
       refine wpAnyH_ready (rs := [13]) (by kernel_rfl) (by simp) ?_
       refine AllReadyH.cons rfl (fun K hK => ?_) AllReadyH.nil
       rw [if_pos (by rfl)]
       refine wp_store_row 46 (.tmp 15) (.tmp 105) rfl wr.heap.size (idC id).toArray rfl rfl 46 _ ((hb6.block wr.heap.size (by simp)).trans (heap_alloc_new wr _)) (by rw [List.size_toArray]; exact idsize hidl) (by simp [idC_length, hidl]) (all_oneCell_toArray (idC_one id)) ?_
       refine hK.out _ _ (below_setRow hd6 (show _ ≤ wr.heap.size by omega) _) (fun hH4 => ?_)
       clear hK K
       try simp only [q0]
       refine tk (i := 14) (v := ?_) ?_ ?_
       rotate_left
       · intro w' hSw; go_simp; try rfl
       try simp only [q0]
       refine wpAnyH_done (by kernel_rfl) ?_ _
       refine NoPanic.normal ?_
       have hfin := Lib.hid (below_setRow hb7 (Nat.le_refl _) (idC id).toArray)
       have hrow := Lib.hid (setRow_heap _ _ _ (idC id).toArray _ _ ((hb6.block wr.heap.size (by simp)).trans (heap_alloc_new wr _)))
       have hge : wr.heap.size ≤ wr.heap.size := Nat.le_refl _
       have hidl2 := Lib.hid hidl
       clear hb6 hb7 hd6 hH2 hH3 hH4 hidl
       go_wp2_with fail
       go_meet
       exact ⟨_, id, b, rfl, rfl, hfin.out, hrow.out, hge, hidl2.out⟩
     case rest =>
      obtain ⟨h, jd, t, rfl, rfl, HBC, HG, hge, HJDL⟩ := hcut
      have HTC := Lib.hid (HT.out.below HBC.out)
      have cW := HTC.out.c35 HOP.out.1 HOP.out.2.1 rfl
      have HGR := Lib.hid (row_news HG.out)
      have hTl := HTC.out.lt
      clear c10 c11 c12 c13 HPKK HSF HT hwr
      cases t with
      | false =>
        go_wp2_with fail
        go_roundw
        case rel => exact ⟨k + 1, ps, _, by omega, by omega, by go_num, by omega, HTC⟩
        case measure => simp [intOf]; omega
      | true =>
        by_cases hpk : ps.length = k
        ·
         have hpkb : ((ps.length : Int) == (k : Int)) = true := by
          rw [beq_iff_eq]; omega
         have hps2 : ps.length ≤ 2000 := by omega
         clear hpk
         go_wp2_with (first
          | ((with_reducible refine ld_id (x := .tmp 15) (p := ⟨h, 0, none⟩) ?_ ?_ ?_ HGR.out HJDL.out ?_); rfl; rfl; rfl)
          | ((with_reducible refine bs_id2 (l := jd) (x := .tmp 117) ?_ ?_ ?_ HJDL.out ?_); rfl; rfl; rfl)
          | ((with_reducible refine ap_id (id := jd) (.tmp 116) (.tmp 118) ?_ ?_ ?_ ?_ HTC.out.own (by omega) HJDL.out hps2 ?_); rfl; rfl; rfl; rfl; intro v7 w7 HO7 HG7; obtain ⟨q1, q2⟩ := HTC.out.cell5 HG7.out HOP.out.1 HOP.out.2.1 rfl; have HNX := Lib.hid (HTC.out.next HO7.out HG7.out HOP.out.1); obtain ⟨lo, lc, hform⟩ := own_shape HO7.out.own; subst hform; rw [show (ps ++ [jd]).length = ps.length + 1 by simp] at HNX))
         go_roundw
         case rel => exact ⟨k + 1, ps ++ [jd], _, by omega, by omega, by go_num, by simp; omega, HNX⟩
         case measure => simp [intOf]; omega
        ·
         have hpkb : ((ps.length : Int) == (k : Int)) = false := by
          rw [beq_eq_false_iff_ne]; omega
         clear hpk
         go_wp2_with fail
         go_roundw
         case rel => exact ⟨k + 1, ps, _, by omega, by omega, by go_num, by omega, HTC⟩
         case measure => simp [intOf]; omega
    ·
     have HE2 := Lib.hid HT.out.s3.b2
     obtain ⟨o1, o2, o3, o4, o5, o6, o7⟩ := HOP.out
     have HOB := Lib.hid (HT.out.obat o5 o1 o2 o3 o4 (by unfold maxLen; omega) (obC { o0 with pars := ps } nilV (.slice po ps.length pc)).toArray)
     have HBX := Lib.hid HT.out.bx.held
     have HCS := Lib.hid HOB.out.F.size
     have HCO := Lib.hid HOB.out.F.one
     have hfin : ∀ w', Below w.heap.size w w' → ObAt w' (obC { o0 with pars := ps } nilV (.slice po ps.length pc)).toArray { o0 with pars := ps } none po 0 pc → MkP w (.returned (.agg (obC { o0 with pars := ps } nilV (.slice po ps.length pc)).toArray)) w' := fun w' hb ho => ⟨_, _, _, _, _, _, rfl, ho, o6, o7, hb⟩
     have HFIN := Lib.hid (hfin _ (below_setRow HBW.out (by omega) _) HOB.out)
     clear hfin HT o1 o2 o3 o4 o5 o6 o7
     by_cases h1 : k < R.length
     ·
      have h1' : (k : Int) < (R.length : Int) := by omega
      have h2' : ¬ (k : Int) < 4 := by omega
      have h2b : decide ((k : Int) < 4) = false := by simpa using h2'
      clear hlt
      generalize hcs : (obC { o0 with pars := ps } nilV (.slice po ps.length pc)).toArray = cs at *
      go_wp2_with (first
       | ((with_reducible refine ld_obr (x := .tmp 13) (g := g) ?_ ?_ ?_ HBX.out HCS.out ?_); rfl; rfl; rfl)
       | ((with_reducible refine st_obr (x := .tmp 6) (y := .tmp 121) (g := w.heap.size + 1 + 1) ?_ ?_ ?_ ?_ HE2.out HS0.out HCS.out HCO.out ?_); rfl; rfl; rfl; rfl))
      exact bodyPost_ret (v := .agg cs) (results_cell_row (by rfl) _ _ (w.heap.size + 1 + 1) _ _ _ _ (by rfl) (setRow_heap _ _ _ _ _ _ HE2.out) Tryz.underlying59 rfl (obsize HCS.out)) rfl HFIN.out
     ·
      have h1' : ¬ (k : Int) < (R.length : Int) := by omega
      clear hlt
      generalize hcs : (obC { o0 with pars := ps } nilV (.slice po ps.length pc)).toArray = cs at *
      go_wp2_with (first
       | ((with_reducible refine ld_obr (x := .tmp 13) (g := g) ?_ ?_ ?_ HBX.out HCS.out ?_); rfl; rfl; rfl)
       | ((with_reducible refine st_obr (x := .tmp 6) (y := .tmp 121) (g := w.heap.size + 1 + 1) ?_ ?_ ?_ ?_ HE2.out HS0.out HCS.out HCO.out ?_); rfl; rfl; rfl; rfl))
      exact bodyPost_ret (v := .agg cs) (results_cell_row (by rfl) _ _ (w.heap.size + 1 + 1) _ _ _ _ (by rfl) (setRow_heap _ _ _ _ _ _ HE2.out) Tryz.underlying59 rfl (obsize HCS.out)) rfl HFIN.out
theorem make_any (w : World) (v iv rv : Value) (L : List St.It) (I : List (List UInt8)) (K T : Nat) (X : ByteArray) (R : List UInt8) (h : DSt w v L) (hI : IdsAt w iv I) (hil : ∀ i ∈ I, i.length = 32) (hIl : I.length ≤ 1000) (hR : ByAt w rv R) (hRl : R.length ≤ 10) (hKl : K < 256) (hTl : T < 65536) (hX : X.size ≤ 300) :
  Calls Tryz.prog 69 #[.agg #[v], iv, .agg (sdC K rv T X)] w (MkP w) := by
 have h4 : K % 4 < 4 := Nat.mod_lt _ (by decide)
 by_cases h0 : K % 4 = 0
 ·
  obtain ⟨vo, vc, rfl⟩ := h.form
  obtain ⟨ro, rc, e⟩ := hR.form
  exact make_blob w vo L.length vc iv rv K T X h0 hKl hX ro R.length rc e
 by_cases h1 : K % 4 = 1
 · exact make_tree w v iv rv L I K T X R h hI hil hIl hR hRl h1 hKl
 by_cases h2 : K % 4 = 2
 · exact make_commit w v iv rv L I K T X R h hI hil hIl hR hRl h2 hKl hTl hX
 · exact make_tag w v iv rv L I K T X R h hI hil hIl hR hRl (by omega) hKl
end Go.Proofs.YtkcjhkfelaplkaaGreatDoor
