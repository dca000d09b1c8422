/-
  WALKS OF LAYER 13: the finder's addParents.
-/
import Derived.Test.YtkcjhkfelaplkaaGreatDoorSd
import Derived.Test.YtkcjhkfelaplkaaGreatDoorRd
import Derived.Test.YtkcjhkfelaplkaaGreatDoorQa
set_option linter.unusedVariables false
set_option linter.unusedSimpArgs false
set_option maxHeartbeats 8000000
set_option maxRecDepth 100000
namespace Go.Proofs.YtkcjhkfelaplkaaGreatDoor
open Go.RowKit
theorem OwnD.at_ {T : TypeId} {w : World} {base g n cap : Nat} {O : List (List UInt8 × Nat)} (h : OwnD T w base (.slice (some ⟨g, 0, none⟩) n cap) O) (k : Nat) (d : List UInt8 × Nat) (hk : O[k]? = some d) : ∀ j u, (Dp.C d)[j]? = some u → w.cell? ((⟨g, k * 33, none⟩ : Addr).add j) = some u := by
 obtain ⟨a, e, hc⟩ := h.elem k d hk
 injection e with e
 subst e
 intro j u hu
 have := hc j u hu
 rwa [Addr.add_mid, Nat.zero_add] at this
theorem OwnD.nat {T : TypeId} {w : World} {base g n cap : Nat} {O : List (List UInt8 × Nat)} (h : OwnD T w base (.slice (some ⟨g, 0, none⟩) n cap) O) (k : Nat) (d : List UInt8 × Nat) (hk : O[k]? = some d) : w.cell? ⟨g, k * 33 + 32, none⟩ = some (.int .i64 (d.2 : Int)) := by
 have h1 := dp_n (h.len d (List.mem_of_getElem? hk)) (h.at_ k d hk)
 rwa [Addr.add_mid] at h1
theorem dpsize {d : List UInt8 × Nat} (hd : d.1.length = 32) : (Tryz.prog.info? 48).map (·.size) = some (Dp.C d).length := by rw [Dp.C_length hd]; exact Dp.tyP.size
theorem ld_dp {ops : Array Oper} {rest : List Oper} {op : Oper} {a : Act} {w : World} {Q : Exit → Act → World → Prop} {x : Operand} {p : Addr} {d : List UInt8 × Nat} (ho : op.op = .load 48 x) (hx : a.eval x = .pointer (some p)) (hg : op.guard = none) (hc : ∀ j v, (Dp.C d)[j]? = some v → w.cell? (p.add j) = some v) (hd : d.1.length = 32)
  (h : wpList Tryz.prog ops Q rest (a.put op.dst (.agg (Dp.C d).toArray)) w) : wpList Tryz.prog ops Q (op :: rest) a w :=
 wpList_load_at hg 48 x ho p hx _ _ hc Tryz.underlying48 rfl (dpsize hd) h
theorem st_dp {ops : Array Oper} {rest : List Oper} {op : Oper} {a : Act} {w : World} {Q : Exit → Act → World → Prop} {x y : Operand} {d : List UInt8 × Nat} {c : Array Value} (ho : op.op = .store 48 x y) (hx : a.eval x = .pointer (some ⟨w.heap.size, 0, none⟩)) (hy : a.eval y = .agg (Dp.C d).toArray) (hg : op.guard = none) (hc : c.size = 33) (hd : d.1.length = 32)
  (h : wpList Tryz.prog ops Q rest (a.put op.dst undef) (w.alloc (.cells (Dp.C d).toArray 48))) : wpList Tryz.prog ops Q (op :: rest) a (w.alloc (.cells c 48)) :=
 st_new 33 ho hx hy hg hc Dp.tyP.size (by rw [List.size_toArray, Dp.C_length hd]) (all_oneCell_toArray (Dp.C_one d)) h
theorem Dp.news_map (cm : List UInt8 → Bool) (O : List (List UInt8 × Nat)) (n : Nat) (P : List (List UInt8)) : (O ++ Dp.news cm O n P).map Prod.fst = O.map Prod.fst ++ Wk.nw cm (O.map Prod.fst) P := by
 unfold Dp.news
 rw [List.map_append, List.map_map]
 congr 1
 exact List.map_id _
theorem Dp.news_snoc (cm : List UInt8 → Bool) (O : List (List UInt8 × Nat)) (n : Nat) (P : List (List UInt8)) (x : List UInt8) : O ++ Dp.news cm O n (P ++ [x]) = (O ++ Dp.news cm O n P) ++ Dp.news cm (O ++ Dp.news cm O n P) n [x] := by
 have h1 := Dp.news_map cm O n P
 conv => rhs; rw [show Dp.news cm (O ++ Dp.news cm O n P) n [x] = (Wk.nw cm ((O ++ Dp.news cm O n P).map Prod.fst) [x]).map (fun y => (y, n)) from rfl, h1]
 unfold Dp.news
 rw [Wk.nw_snoc, List.map_append, List.append_assoc]
theorem Dp.few {L : List St.It} {O : List (List UInt8 × Nat)} (n : Nat) (P : List (List UInt8)) (hn : (O.map Prod.fst).Nodup) (hc : ∀ d ∈ O, Gr.cm L d.1 = true) : (O ++ Dp.news (Gr.cm L) O n P).length ≤ L.length := by
 have h1 := Dp.news_map (Gr.cm L) O n P
 have h2 := Wk.nw_nodup (Gr.cm L) P (O.map Prod.fst) hn
 rw [← h1] at h2
 have := Gr.cm_few (L := L) h2 (fun x hx => by
  rw [h1] at hx
  rcases List.mem_append.1 hx with e | e
  · obtain ⟨d, hd, rfl⟩ := List.mem_map.1 e; exact hc d hd
  · exact Wk.nw_cm _ _ _ x e)
 simpa using this
theorem Dp.few0 {L : List St.It} {O : List (List UInt8 × Nat)} (hn : (O.map Prod.fst).Nodup) (hc : ∀ d ∈ O, Gr.cm L d.1 = true) : O.length ≤ L.length := by
 have := Gr.cm_few (L := L) hn (fun x hx => by obtain ⟨d, hd, rfl⟩ := List.mem_map.1 hx; exact hc d hd)
 simpa using this
def FPar (w : World) (base b mb : Nat) (sp : Value) (L : List St.It) (most : Nat) (F : List (List UInt8 × Nat)) (W' : World) : Prop :=
 ∃ v' O' n' S', FB W' base b mb n' sp v' O' S' ∧ Dp.Is (Gr.cm L) (Gr.prs L) most F O' ∧ Below w.heap.size w W'
theorem fpars_any (w W : World) (base b mb n0 sbase sb most : Nat) (sv v0 : Value) (L : List St.It) (F : List (List UInt8 × Nat)) (S0 : List (List UInt8)) (h : FB W base b mb n0 (.pointer (some ⟨sb, 0, none⟩)) v0 F S0) (hbel : Below w.heap.size w W) (hP : PSt w sbase sb sv L) (hd : Gr.Dec L) (hL : L.length ≤ 100) (hn0 : n0 ≤ 2000)
  (hS : Dp.Seen (Gr.cm L) F S0) (hI : Dp.Inv (Gr.cm L) (Gr.prs L) most F F 0) (b0 : w.heap.size ≤ b) (m0 : w.heap.size ≤ mb) (hbs : base ≤ W.heap.size) (hm : most ≤ 1048576) :
  Calls Tryz.prog 43 #[.pointer (some ⟨b, 0, none⟩), .int .i64 (most : Int)] W fun r W' => r = .returned (.tuple #[]) ∧ FPar w base b mb (.pointer (some ⟨sb, 0, none⟩)) L most F W' := by
 have hz28 := (zero_of_info zero28).1
 have HS0 := Lib.hid noF.size
 generalize (obC noOb nilV nilV).toArray = z at hz28 HS0
 have HIN := Lib.hid (fun k => Dp.inv_st hI k)
 have HIN0 := Lib.hid hI
 have HOB0 := Lib.hid (fun W' (hb : Below w.heap.size w W') (id : List UInt8) (hid : id.length = 32) => object_any W' sbase sb sv L id (hP.below hb) hd hid)
 have HPP0 := Lib.hid hP
 have HDD := Lib.hid hd
 have HF0 := Lib.hid h
 have HS1 := Lib.hid hS
 have HBL := Lib.hid hbel
 clear hI hP hd h hS hbel
 go_enter Tryz.func43, Tryz.ntmps43
 go_wp2_with fail
 go_loopw [4] (fun i wr => ∃ (k n : Nat) (O : List (List UInt8 × Nat)) (v : Value) (S : List (List UInt8)), i = .int .i64 k ∧ k ≤ O.length ∧ n ≤ n0 + 8 * k ∧ Hid (O = Dp.st (Gr.cm L) (Gr.prs L) most F k) ∧ Hid (FB wr base b mb n (.pointer (some ⟨sb, 0, none⟩)) v O S) ∧ Hid (Dp.Seen (Gr.cm L) O S) ∧ Hid (Below w.heap.size w wr) ∧ Hid (base ≤ wr.heap.size)) (fun i _ => 101 - (intOf i).toNat)
 case atStart => exact ⟨0, n0, F, v0, S0, rfl, Nat.zero_le _, by omega, Lib.hid rfl, HF0, HS1, HBL, Lib.hid hbs⟩
 case round =>
  obtain ⟨wr2, hwr2⟩ : ∃ X, X = wr := ⟨_, rfl⟩
  subst hwr2
  obtain ⟨k, n, O, v, S, rfl, hk, hn, HO, HF, HSE, HB, HBA⟩ := hrel
  have hinv := HIN.out k
  rw [← HO.out] at hinv
  have HIV := Lib.hid hinv
  have hO100 : O.length ≤ 100 := Nat.le_trans (Dp.few0 hinv.nd hinv.com) hL
  obtain ⟨ao, cap, rfl⟩ := HF.out.own.form
  have c2 : wr2.cell? ⟨b, 2, none⟩ = some (.slice ao O.length cap) := by rw [cell_of_row _ _ 2 _ _ _ HF.out.box]; rfl
  clear hinv HF0 HS1 HBL
  by_cases hlt : k < O.length
  ·
   have hlt' : (k : Int) < (O.length : Int) := by omega
   have hk0 : (0 : Int) ≤ (k : Int) := by omega
   obtain ⟨⟨id, dd⟩, hx⟩ : ∃ d, O[k]? = some d := ⟨O[k], List.getElem?_eq_getElem hlt⟩
   have hxl : id.length = 32 := HF.out.own.len (id, dd) (List.mem_of_getElem? hx)
   obtain ⟨g, cap', e, hgb, hgl⟩ := HF.out.own.own.form (by omega)
   simp only [Value.slice.injEq] at e
   obtain ⟨rfl, _, rfl⟩ := e
   have cN : wr2.cell? ⟨g, k * 33 + 32, none⟩ = some (.int .i64 (dd : Int)) := HF.out.own.nat k (id, dd) hx
   have hdd : dd ≤ 101 := by have := HIV.out.idx k (id, dd) hx; simp at this; omega
   by_cases hdm : dd < most
   ·
    have hdm' : (dd : Int) < (most : Int) := by omega
    have HX := Lib.hid hx
    have HIL := Lib.hid hxl
    have HIZ := Lib.hid (show (Tryz.prog.info? 46).map (·.size) = some (idC id).length from idsize hxl)
    have HDC := Lib.hid (HF.out.own.at_ k (id, dd) hx)
    have HCM := Lib.hid (show Gr.cm L id = true from HIV.out.com (id, dd) (List.mem_of_getElem? hx))
    have HDM := Lib.hid hdm
    have HGL := Lib.hid (show g < wr2.heap.size from hgl)
    clear hx hxl
    go_upto_region 4 with (first
     | ((with_reducible refine ld_dp (d := (id, dd)) (x := .tmp 36) ?_ ?_ ?_ HDC.out HIL.out ?_); rfl; rfl; rfl)
     | ((with_reducible refine st_dp (d := (id, dd)) (x := .tmp 5) (y := .tmp 37) ?_ ?_ ?_ ?_ ?_ HIL.out ?_); rfl; rfl; rfl; rfl; rfl))
    have HBN := Lib.hid (below_new wr2 (.cells (Dp.C (id, dd)).toArray 48))
    have HX5 := Lib.hid (heap_alloc_new wr2 (.cells (Dp.C (id, dd)).toArray 48))
    have HW1 := Lib.hid (show (wr2.alloc (.cells (Dp.C (id, dd)).toArray 48)).heap.size = wr2.heap.size + 1 by simp)
    generalize wr2.alloc (.cells (Dp.C (id, dd)).toArray 48) = w1 at *
    have HF1 := Lib.hid (HF.out.below HBN.out)
    have hws : w.heap.size ≤ wr2.heap.size := HB.out.size
    have HBW := Lib.hid (HB.out.trans (HBN.out.mono hws))
    have HBD := Lib.hid (show Below w.heap.size w w1.drew from HBW.out.drew)
    obtain ⟨B5, hB5⟩ : ∃ q, q = wr2.heap.size := ⟨_, rfl⟩
    have hgB : g < B5 := by rw [hB5]; exact HGL.out
    have HWS1 := Lib.hid (show w1.heap.size = B5 + 1 by rw [HW1.out, hB5])
    rw [← hB5] at HX5
    have HOB := Lib.hid (fun W' (hb : Below w.heap.size w W') => HOB0.out W' hb id HIL.out)
    have HSP := Lib.hid (show ∀ W' : World, (∀ q, q < w1.heap.size → W'.heap[q]? = w1.heap[q]?) → W'.cell? ⟨b, 0, none⟩ = some (.pointer (some ⟨sb, 0, none⟩)) from fun W' hw => by
     rw [World.cell?_of_block (w := w1) (hw b HF1.out.bl), cell_of_row _ _ 0 _ _ _ HF1.out.box]; rfl)
    have HRW := Lib.hid (show ∀ W' : World, (∀ q, q < w1.heap.size → W'.heap[q]? = w1.heap[q]?) → ∀ j u, (idC id)[j]? = some u → W'.cell? ((⟨B5, 0, none⟩ : Addr).add j) = some u from fun W' hw => dp_id (d := (id, dd)) (row_news ((hw _ (by have := HWS1.out; omega)).trans HX5.out)))
    rw [← hB5]
    clear c2 cN HF hB5 HDC
    try simp only [q0]
    go_cut [6, 7] from 38 to 47 (fun ov isv wx => ∃ g6 cs is, ov = .pointer (some ⟨g6, 0, none⟩) ∧ isv = .bool is ∧ w1.heap.size ≤ g6 ∧ cs.size = 72 ∧ Hid (wx.heap[g6]? = some (.cells cs 59 (0, 0))) ∧ Hid (ObQ L id w1.heap.size wx cs is) ∧ Hid (Below w1.heap.size w1 wx))
    case first =>
     refine wp_region_noPanic ?_
     refine wp_region_held_drew (S := (fun w' => ∀ q, q < w1.heap.size → w'.heap[q]? = w1.heap[q]?)) (by kernel_rfl) (fun q _ => rfl) (fun hH => ?_)
     refine tk (i := 0) (v := ?_) ?_ ?_
     rotate_left
     · intro w' hSw; go_simp; try rfl
     try simp only [q0]
     refine tk (i := 1) (v := ?_) ?_ ?_
     rotate_left
     · intro w' hSw; go_simp; try rfl
     try simp only [q0]
     refine tk (i := 2) (v := ?_) ?_ ?_
     rotate_left
     · intro w' hSw; go_simp; try rfl
     try simp only [q0]
     refine tk (i := 3) (v := ?_) ?_ ?_
     rotate_left
     · intro w' hSw; have q0 := HSP.out _ hSw; go_simp; try rfl
     try simp only [q0]
     refine tk (i := 4) (v := ?_) ?_ ?_
     rotate_left
     · intro w' hSw; go_simp; try rfl
     try simp only [q0]
     refine wpAnyH_take (i := 5) rfl (by kernel_rfl) (by kernel_rfl) (by kernel_rfl) (fun _ _ _ h => h) (yields_at (p := ⟨B5, 0, none⟩) (cs := idC id) (by rfl) rfl rfl (fun w' hw' => HRW.out w' hw') Tryz.underlying46 rfl HIZ.out) (by assumption) ?_
     try simp only [q0]
     refine wpAnyH_ready (rs := [6, 10]) (by kernel_rfl) (by simp) ?_
     refine AllReadyH.cons rfl (fun K hK => ?_) (AllReadyH.cons rfl (fun K hK => ?_) AllReadyH.nil)
     ·
      go_simp
      with_reducible refine (HOB.out w1.drew HBD.out).mono ?_
      rintro r w5 ⟨cs, is, rfl, hcs, hco, hb5, hq⟩
      have HCS := Lib.hid hcs
      have HCO := Lib.hid hco
      have HB5 := Lib.hid (show Below w1.heap.size w1 w5 from (Below.refl _ w1).drew.trans hb5)
      have hz5 : w1.heap.size ≤ w5.heap.size := HB5.out.size
      have HQ := Lib.hid hq
      clear hcs hco hb5 hq
      go_wp2_with fail
      refine hK.out _ _ (fun g hg => HB5.out.block g hg) (fun _ => ?_)
      clear hK K
      try simp only [q0]
      refine tk (i := 7) (v := ?_) ?_ ?_
      rotate_left
      · intro w' hSw; go_simp; try rfl
      try simp only [q0]
      refine tk (i := 8) (v := ?_) ?_ ?_
      rotate_left
      · intro w' hSw; go_simp; try rfl
      try simp only [q0]
      refine tk (i := 9) (v := ?_) ?_ ?_
      rotate_left
      · intro w' hSw; go_simp; try rfl
      try simp only [q0]
      refine wpAnyH_ready (rs := [10]) (by kernel_rfl) (by simp) ?_
      refine AllReadyH.cons rfl (fun K hK => ?_) AllReadyH.nil
      go_simp
      refine hK.out _ _ (fun g hg => (heap_alloc_old _ _ (by omega)).trans (HB5.out.block g hg)) (fun _ => ?_)
      clear hK K
      try simp only [q0]
      have HN6 := Lib.hid (heap_alloc_last w5 (.cells z 59))
      refine wpAnyH_ready (rs := [11]) (by kernel_rfl) (by simp) ?_
      refine AllReadyH.cons rfl (fun K hK => ?_) AllReadyH.nil
      rw [if_pos (by rfl)]
      refine wp_store_row 59 (.tmp 6) (.tmp 46) rfl w5.heap.size cs rfl rfl 59 _ HN6.out (obsize HCS.out) (by rw [HS0.out, HCS.out]) HCO.out ?_
      refine hK.out _ _ (fun g hg => (setRow_other _ _ _ _ (by omega)).trans ((heap_alloc_old _ _ (by omega)).trans (HB5.out.block g hg))) (fun _ => ?_)
      clear hK K
      try simp only [q0]
      refine tk (i := 12) (v := ?_) ?_ ?_
      rotate_left
      · intro w' hSw; go_simp; try rfl
      try simp only [q0]
      refine wpAnyH_done (by kernel_rfl) ?_ _
      refine NoPanic.normal ?_
      go_wp2_with fail
      go_meet
      case rel => exact ⟨w5.heap.size, cs, is, rfl, rfl, hz5, HCS.out, setRow_heap _ _ _ _ _ _ HN6.out, HQ.out.moved (fun g _ hg => (setRow_other _ _ _ _ (by omega)).trans (heap_alloc_old _ _ hg)), below_setRow (HB5.out.alloc hz5 _) hz5 _⟩
     ·
      go_simp
      refine hK.out _ _ (fun g hg => heap_alloc_old _ _ hg) (fun _ => ?_)
      clear hK K
      try simp only [q0]
      have HB4 := Lib.hid (show Below w1.heap.size w1 (w1.alloc (.cells z 59)).drew from ((Below.refl _ _).alloc (Nat.le_refl _) _).drew)
      have HB4W := Lib.hid (show Below w.heap.size w (w1.alloc (.cells z 59)).drew from (HBW.out.alloc HBW.out.size _).drew)
      refine wpAnyH_ready (rs := [6]) (by kernel_rfl) (by simp) ?_
      refine AllReadyH.cons rfl (fun K hK => ?_) AllReadyH.nil
      go_simp
      with_reducible refine (HOB.out _ HB4W.out).mono ?_
      rintro r w5 ⟨cs, is, rfl, hcs, hco, hb5, hq⟩
      have HCS := Lib.hid hcs
      have HCO := Lib.hid hco
      have HB5 := Lib.hid (show Below w1.heap.size w1 w5 from HB4.out.trans (hb5.mono (by simp)))
      have hz5 : w1.heap.size + 1 ≤ w5.heap.size := by have := hb5.size; simpa using this
      have HN6 := Lib.hid (show w5.heap[w1.heap.size]? = some (.cells z 59) from (hb5.block w1.heap.size (by simp)).trans (heap_alloc_last w1 (.cells z 59)))
      have HQ := Lib.hid (hq.le (show w1.heap.size + 1 ≤ _ by simp))
      clear hcs hco hb5 hq
      go_wp2_with fail
      refine hK.out _ _ (fun g hg => HB5.out.block g hg) (fun _ => ?_)
      clear hK K
      try simp only [q0]
      refine tk (i := 7) (v := ?_) ?_ ?_
      rotate_left
      · intro w' hSw; go_simp; try rfl
      try simp only [q0]
      refine tk (i := 8) (v := ?_) ?_ ?_
      rotate_left
      · intro w' hSw; go_simp; try rfl
      try simp only [q0]
      refine tk (i := 9) (v := ?_) ?_ ?_
      rotate_left
      · intro w' hSw; go_simp; try rfl
      try simp only [q0]
      refine wpAnyH_ready (rs := [11]) (by kernel_rfl) (by simp) ?_
      refine AllReadyH.cons rfl (fun K hK => ?_) AllReadyH.nil
      rw [if_pos (by rfl)]
      refine wp_store_row 59 (.tmp 6) (.tmp 46) rfl w1.heap.size cs rfl rfl 59 _ HN6.out (obsize HCS.out) (by rw [HS0.out, HCS.out]) HCO.out ?_
      refine hK.out _ _ (fun g hg => (setRow_other _ _ _ _ (by omega)).trans (HB5.out.block g hg)) (fun _ => ?_)
      clear hK K
      try simp only [q0]
      refine tk (i := 12) (v := ?_) ?_ ?_
      rotate_left
      · intro w' hSw; go_simp; try rfl
      try simp only [q0]
      refine wpAnyH_done (by kernel_rfl) ?_ _
      refine NoPanic.normal ?_
      go_wp2_with fail
      go_meet
      case rel => exact ⟨w1.heap.size, cs, is, rfl, rfl, Nat.le_refl _, HCS.out, setRow_heap _ _ _ _ _ _ HN6.out, (HQ.out.moved (fun g hg1 hg => setRow_other _ _ _ _ (by omega))).le (by omega), below_setRow HB5.out (Nat.le_refl _) _⟩
    case rest =>
     obtain ⟨g6, cs, is, rfl, rfl, hg6, hcs, HG6, HQ, HBX⟩ := hcut
     rcases HQ.out with ⟨_, hno⟩ | ⟨rfl, o, ev, pv, ho, hF, hPP, hPl, _, hfar⟩
     ·
      exfalso
      have := HCM.out
      unfold Gr.cm at this
      rw [hno] at this; cases this
     have HPR := Lib.hid (Gr.prs_ob ho)
     have hfew : o.pars.length ≤ 8 := by rw [← HPR.out]; exact Gr.prs_few L id
     obtain ⟨po, pc, rfl⟩ : ∃ ao cap, pv = .slice ao o.pars.length cap := by simpa using RowsAt.form hPP
     have c35 : wc.cell? ⟨g6, 35, none⟩ = some (.slice po o.pars.length pc) := by rw [cell_of_row _ _ 35 _ _ _ HG6.out]; exact hF.c35
     generalize o.pars = P at *
     have HPA := Lib.hid (show IdsAt wc (.slice po P.length pc) P from hPP)
     have HPL := Lib.hid hPl
     have HFAR := Lib.hid (show ∀ a : Addr, po = some a → w1.heap.size ≤ a.block from fun a ha => hfar a _ _ (by rw [ha]))
     have HFC := Lib.hid (HF1.out.below HBX.out)
     have HBC := Lib.hid (show Below w.heap.size w wc from HBW.out.trans (HBX.out.mono HBW.out.size))
     have HX6 := Lib.hid (show wc.heap[B5]? = some (.cells (Dp.C (id, dd)).toArray 48 (0, 0)) from (HBX.out.block _ (by have := HWS1.out; omega)).trans HX5.out)
     have HZ := Lib.hid (show w.heap.size ≤ wc.heap.size ∧ w1.heap.size ≤ wc.heap.size ∧ b < B5 ∧ mb < B5 ∧ base ≤ wc.heap.size from ⟨HBC.out.size, HBX.out.size, by have := HF1.out.lt; have := HBA.out; have := HW1.out; have := HWS1.out; omega, by have := HF1.out.mlt; have := HBA.out; have := HW1.out; have := HWS1.out; omega, by have := HBX.out.size; have := HBA.out; have := HW1.out; omega⟩)
     clear hPP hPl hfar hF ho HQ HG6 HBX HRW HSP HOB HBD HF1 HX5 HBN HW1 hcs hg6
     go_wp2_with fail
     go_loopw [51] (fun jv wr => ∃ (j n' : Nat) (v' : Value) (S' : List (List UInt8)), jv = .int .i64 j ∧ j ≤ P.length ∧ n' ≤ n + j ∧ Hid (FB wr base b mb n' (.pointer (some ⟨sb, 0, none⟩)) v' (O ++ Dp.news (Gr.cm L) O (dd + 1) (P.take j)) S') ∧ Hid (Dp.Seen (Gr.cm L) (O ++ Dp.news (Gr.cm L) O (dd + 1) (P.take j)) S') ∧ Hid (Fr wc wr b mb (.slice (some ⟨g, 0, none⟩) O.length cap)) ∧ Hid (Nx wc (.slice (some ⟨g, 0, none⟩) O.length cap) v')) (fun jv _ => P.length - (intOf jv).toNat)
     case atStart =>
      have e0 : O ++ Dp.news (Gr.cm L) O (dd + 1) (P.take 0) = O := by simp [Dp.news, Wk.nw]
      exact ⟨0, n, _, S, rfl, Nat.zero_le _, by omega, Lib.hid (by rw [e0]; exact HFC.out), Lib.hid (by rw [e0]; exact HSE.out), Lib.hid (Fr.of_below (Below.refl _ _) b mb _), Lib.hid (Nx.refl _ _)⟩
     case round =>
      obtain ⟨wr3, hwr3⟩ : ∃ X, X = wr := ⟨_, rfl⟩
      subst hwr3
      obtain ⟨j, n', v', S', rfl, hj, hn', HFY, HSY, HFR, HNX⟩ := hrel
      have hown : ∀ q, (Value.slice (some ⟨g, 0, none⟩) O.length cap).ownBlock = some q → w.heap.size ≤ q ∧ q < B5 := fun q hq => by
       injection hq with hq
       have := HZ.out
       have e1 := HFC.out.lt
       have e2 : g = q := hq
       omega
      have HBY := Lib.hid (show Below w.heap.size w wr3 from HBC.out.trans (HFR.out.below HZ.out.1 b0 m0 (fun q hq => (hown q hq).1)))
      have HX7 := Lib.hid (show wr3.heap[B5]? = some (.cells (Dp.C (id, dd)).toArray 48 (0, 0)) from (HFR.out.block B5 (by have := HZ.out; have := HWS1.out; omega) (by have := HZ.out; omega) (by have := HZ.out; omega) (fun e => by have := (hown B5 e).2; omega)).trans HX6.out)
      have HYL := Lib.hid (Dp.few (L := L) (dd + 1) (P.take j) HIV.out.nd HIV.out.com)
      by_cases hjl : j < P.length
      ·
       have hjl' : (j : Int) < (P.length : Int) := by omega
       have hj0 : (0 : Int) ≤ (j : Int) := by omega
       obtain ⟨p, hp⟩ : ∃ p, P[j]? = some p := ⟨P[j], List.getElem?_eq_getElem hjl⟩
       have HPP := Lib.hid (HPL.out p (List.mem_of_getElem? hp))
       have hat : IdsAt wr3 (.slice po P.length pc) P := RowsAt.moved HPA.out (by decide) (fun _ a ha hlt => HFR.out.block _ hlt (by have := HFAR.out a ha; have := HZ.out; have := HWS1.out; omega) (by have := HFAR.out a ha; have := HZ.out; have := HWS1.out; omega) (fun e => by have := (hown _ e).2; have := HFAR.out a ha; have := HWS1.out; omega))
       obtain ⟨pa, rfl, _, hc⟩ := RowsAt.elem hat j (idC p) (by rw [List.getElem?_map, hp]; rfl)
       have HC := Lib.hid hc
       have HTK := Lib.hid (show P.take (j + 1) = P.take j ++ [p] from take_id hp)
       have HBN := Lib.hid (below_new wr3 (.cells (idC p).toArray 46))
       have HR := Lib.hid (row_news (heap_alloc_new wr3 (.cells (idC p).toArray 46)))
       have cD : (wr3.alloc (.cells (idC p).toArray 46)).cell? ⟨B5, 32, none⟩ = some (.int .i64 (dd : Int)) := by
        have h1 := dp_n (d := (id, dd)) (p := ⟨B5, 0, none⟩) HIL.out (row_news ((HBN.out.block _ (Array.getElem?_eq_some_iff.1 HX7.out).1).trans HX7.out))
        rwa [Addr.add_mid, Nat.zero_add] at h1
       have hFP := (HFY.out.below HBN.out)
       have hAD := fadd_any w (wr3.alloc (.cells (idC p).toArray 46)) base b mb n' sbase sb sv v' L _ S' p (dd + 1) hFP (HBY.out.trans (HBN.out.mono HBY.out.size)) HPP0.out HDD.out HPP.out (by omega) (by have := HYL.out; omega) HSY.out b0 m0 (by have := HBN.out.size; have := HFR.out.size; have := HZ.out; omega)
       rw [show ((dd + 1 : Nat) : Int) = (dd : Int) + 1 from by omega] at hAD
       have HAD := Lib.hid hAD
       have hwd : IntKind.i64.wrap ((dd : Int) + 1) = (dd : Int) + 1 := IntWalk.i64_in _ (by omega)
       clear hc hp hat hFP hAD hown
       go_wp2_with (first
        | ((with_reducible refine ld_id (l := p) (x := .tmp 53) ?_ ?_ ?_ HC.out HPP.out ?_); rfl; rfl; rfl)
        | ((with_reducible apply st_id (hl := HPP.out)); rfl; rfl; rfl; rfl; rfl)
        | ((with_reducible refine ld_id (l := p) (x := .tmp 9) (p := ⟨wr3.heap.size, 0, none⟩) ?_ ?_ ?_ HR.out HPP.out ?_); rfl; rfl; rfl))
       with_reducible refine HAD.out.mono ?_
       rintro r w5 ⟨rfl, v2, n2, S2, k1, k2, k3, k4, k5⟩
       rw [← Dp.news_snoc, ← HTK.out] at k1 k2
       have K1 := Lib.hid k1
       have K2 := Lib.hid k2
       have hf3 : Fr wr3 w5 b mb v' := (Fr.of_below HBN.out b mb v').trans k3 (Nx.refl _ _)
       have K3 := Lib.hid (HFR.out.trans hf3 HNX.out)
       have hx3 : Nx wr3 v' v2 := by
        rcases k4 with e | e
        · exact .inl e
        · exact .inr fun q hq => by have := e q hq; have := HBN.out.size; omega
       have K4 := Lib.hid (HNX.out.trans hx3 HFR.out.size)
       have k5' : n2 ≤ n + (j + 1) := by simp at k5; omega
       clear k1 k2 k3 k4 k5 hf3 hx3 HAD hwd cD
       go_wp2_with fail
       go_roundw
       case rel => exact ⟨j + 1, n2, v2, S2, by go_num, by omega, by omega, K1, K2, K3, K4⟩
       case measure => simp [intOf]; omega
      ·
       have hjl' : ¬ (j : Int) < (P.length : Int) := by omega
       have hje : j = P.length := by omega
       have hOE : O ++ Dp.news (Gr.cm L) O (dd + 1) P = Dp.st (Gr.cm L) (Gr.prs L) most F (k + 1) := by
        rw [Dp.st, ← HO.out]
        unfold Dp.stp
        rw [HX.out]
        show _ = if dd < most then _ else _
        rw [if_pos HDM.out, HPR.out]
       have HOE := Lib.hid hOE
       have HFE := Lib.hid (show FB wr3 base b mb n' (.pointer (some ⟨sb, 0, none⟩)) v' (O ++ Dp.news (Gr.cm L) O (dd + 1) P) S' from by have := HFY.out; rwa [hje, List.take_length] at this)
       have HSF := Lib.hid (show Dp.Seen (Gr.cm L) (O ++ Dp.news (Gr.cm L) O (dd + 1) P) S' from by have := HSY.out; rwa [hje, List.take_length] at this)
       have HBZ := Lib.hid (show base ≤ wr3.heap.size from Nat.le_trans HZ.out.2.2.2.2 HFR.out.size)
       clear hOE hown HFY HSY HFR HNX HX7 HYL
       go_wp2_with fail
       go_roundw
       case rel => exact ⟨k + 1, n', _, v', S', by go_num, by simp; omega, by omega, HOE, HFE, HSF, HBY, HBZ⟩
       case measure => simp [intOf]; omega
   ·
    have hdm' : ¬ (dd : Int) < (most : Int) := by omega
    have HEND := Lib.hid (show Dp.Is (Gr.cm L) (Gr.prs L) most F O from by
     have := Dp.still_deep (k := k) (x := (id, dd)) HIN0.out (by rw [← HO.out]; exact hx) (by show most ≤ dd; omega)
     rwa [← HO.out] at this)
    go_wp2_with fail
    refine bodyPost_end (results_none rfl _ _ _) rfl ?_
    exact ⟨rfl, _, _, _, _, HF.out, HEND.out, HB.out⟩
  ·
   have hlt' : ¬ (k : Int) < (O.length : Int) := by omega
   have HEND := Lib.hid (show Dp.Is (Gr.cm L) (Gr.prs L) most F O from by
    have := Dp.still_end (cm := Gr.cm L) (pr := Gr.prs L) (most := most) (F := F) (k := k) (by rw [← HO.out]; omega)
    rwa [← HO.out] at this)
   go_wp2_with fail
   refine bodyPost_end (results_none rfl _ _ _) rfl ?_
   exact ⟨rfl, _, _, _, _, HF.out, HEND.out, HB.out⟩
end Go.Proofs.YtkcjhkfelaplkaaGreatDoor
