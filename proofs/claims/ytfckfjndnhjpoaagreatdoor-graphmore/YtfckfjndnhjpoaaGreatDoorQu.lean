/-
  WALKS OF LAYER 12: the program's Reach.
-/
import Derived.Test.YtfckfjndnhjpoaaGreatDoorQt
import Derived.Test.YtfckfjndnhjpoaaGreatDoorQa
set_option linter.unusedVariables false
set_option linter.unusedSimpArgs false
set_option maxHeartbeats 8000000
set_option maxRecDepth 100000
namespace Go.Proofs.YtfckfjndnhjpoaaGreatDoor
open Go.RowKit
theorem Gr.dec_few {l : List UInt8} {o : Ob} (h : Rm.dec l = some o) : o.ents.length ≤ 64 ∧ o.pars.length ≤ 8 := by
 obtain ⟨hv, _⟩ := Rm.dec_inv h
 unfold validB at hv
 rw [Bool.and_eq_true] at hv
 obtain ⟨hf, hk⟩ := hv
 unfold foreignZ at hf
 simp only [Bool.and_eq_true, Bool.or_eq_true, beq_iff_eq] at hf
 obtain ⟨⟨⟨h1, h2⟩, h3⟩, h4⟩ := hf
 constructor
 ·
  rcases h2 with h2 | h2
  ·
   rw [h2, if_neg (by decide), if_pos rfl, Bool.and_eq_true, decide_eq_true_eq] at hk
   exact hk.1
  ·
   unfold treeZ at h2
   have : o.ents.length = 0 := by simpa using h2
   omega
 ·
  rcases h3 with h3 | h3
  ·
   rw [h3, if_neg (by decide), if_neg (by decide), if_pos rfl, decide_eq_true_eq] at hk
   exact hk
  ·
   unfold commitZ at h3
   simp only [Bool.and_eq_true, beq_iff_eq, decide_eq_true_eq] at h3
   have : o.pars.length = 0 := by simp_all
   omega
theorem take_id {F : List (List UInt8)} {k : Nat} {x : List UInt8} (h : F[k]? = some x) : F.take (k + 1) = F.take k ++ [x] := by
 obtain ⟨hk, rfl⟩ := List.getElem?_eq_some_iff.1 h
 exact List.take_succ_eq_append_getElem hk
structure Wt (w wr : World) (B sb sn cb cn : Nat) (tv mv wv : Value) (T M W S SC : List (List UInt8)) (lb : Nat) (lv : Value) (ls : List (List UInt8 × Int)) : Prop where
 r : Rs w wr B sb sn cb cn tv mv wv T M W S SC
 l : OwnL wr lb lv ls
 far : ∀ g, wv.ownBlock = some g → lv.ownBlock ≠ some g
theorem OwnL.kept {w w' : World} {base : Nat} {v : Value} {ls : List (List UInt8 × Int)} (h : OwnL w base v ls) (hk : ∀ g, v.ownBlock = some g → w'.heap[g]? = w.heap[g]?) : OwnL w' base v ls := by
 unfold OwnL at *
 exact own_kept h hk
theorem Wt.push {w wr w' : World} {B sb sn cb cn : Nat} {tv mv wv wv' : Value} {o : Obj} {T M W W' S SC : List (List UInt8)} {lb : Nat} {lv : Value} {ls : List (List UInt8 × Int)} (h : Wt w wr B sb sn cb cn tv mv wv T M W S SC lb lv ls) (h1 : OwnI w' B wv' W') (hg : (wr.alloc o).grownBy w' wv.ownBlock) (hv : wv'.ownBlock = wv.ownBlock ∨ wv'.ownBlock = some (wr.heap.size + 1)) : Wt w w' B sb sn cb cn tv mv wv' T M W' S SC lb lv ls := by
 refine ⟨h.r.pushQ h1 hg hv, h.l.kept (fun g hl => ?_), fun g hw hl => ?_⟩
 ·
  have hlt := (World.ownsRow.lt h.l g hl).2
  rw [hg.block g (by simp; omega) (fun e => h.far g e.symm hl), heap_alloc_old _ _ hlt]
 ·
  rcases hv with e | e
  · exact h.far g (by rw [← e]; exact hw) hl
  ·
   rw [e] at hw
   injection hw with e2
   have := (World.ownsRow.lt h.l g hl).2
   omega
theorem Wt.below {w wr w' : World} {B sb sn cb cn : Nat} {tv mv wv : Value} {T M W S SC : List (List UInt8)} {lb : Nat} {lv : Value} {ls : List (List UInt8 × Int)} (h : Wt w wr B sb sn cb cn tv mv wv T M W S SC lb lv ls) (hb : Below wr.heap.size wr w') : Wt w w' B sb sn cb cn tv mv wv T M W S SC lb lv ls :=
 ⟨h.r.below hb, h.l.kept (fun g hl => hb.block g (World.ownsRow.lt h.l g hl).2), h.far⟩
theorem lk_id {w : World} {p : Addr} {l : List UInt8 × Int} (h : ∀ j x, (lkC l)[j]? = some x → w.cell? (p.add j) = some x) : ∀ j x, (idC l.1)[j]? = some x → w.cell? (p.add j) = some x := fun j x hx => h j x (by
 simp only [lkC]
 rw [List.getElem?_append_left (List.getElem?_eq_some_iff.1 hx).1]; exact hx)
theorem reach_any (w : World) (base b : Nat) (v fv cv : Value) (L : List St.It) (F C : List (List UInt8)) (hP : PSt w base b v L) (hd : Gr.Dec L) (hF : IdsAt w fv F) (hFl : ∀ i ∈ F, i.length = 32) (hFn : F.length ≤ 2000) (hC : IdsAt w cv C) (hCl : ∀ i ∈ C, i.length = 32) (hCn : C.length ≤ 2000) :
  Calls Tryz.prog 13 #[.pointer (some ⟨b, 0, none⟩), fv, cv] w fun r w' => ∃ tv mv T M, r = .returned (.tuple #[tv, mv]) ∧ IdsAt w' tv T ∧ IdsAt w' mv M ∧ Gr.Up T ∧ Gr.Up M ∧ (∀ x, (x ∈ T ↔ Gr.Rch (Gr.nx L C) F x ∧ St.has L x = true) ∧ (x ∈ M ↔ Gr.Rch (Gr.nx L C) F x ∧ St.has L x = false)) ∧ (∀ x ∈ T, x.length = 32) ∧ (∀ x ∈ M, x.length = 32) ∧ T.length ≤ 63 ∧ M.length ≤ 6500 ∧ Below w.heap.size w w' := by
 have hL63 := hP.few
 have HSO := Lib.hid (setOf_any w cv C hC hCl (by omega))
 have HCN := Lib.hid (fun W (hb : Below w.heap.size w W) => cloneI_any fv F W (RowsAt.below hF hb) hFl (by omega))
 have HNO := Lib.hid (fun W (hb : Below w.heap.size w W) (id : List UInt8) (hil : id.length = 32) (hh : St.has L id = false) => object_none W base b v L id (hP.below hb) hil hh)
 have HAT := Lib.hid (fun W (hb : Below w.heap.size w W) (k : Nat) (r : St.It) (o : Ob) (hr : L[k]? = some r) (ho : Rm.dec r.text.data.toList = some o) => object_at W base b v L k r o (hP.below hb) hr ho)
 have HHO := Lib.hid (fun (id : List UInt8) (h : St.has L id = true) => Gr.has_ob hd hP.srt h)
 have HNX0 := Lib.hid (fun (id : List UInt8) (h : St.has L id = false) => show Gr.nx L C id = [] by unfold Gr.nx; rw [Gr.ob_none h])
 have HNX1 := Lib.hid (fun (id : List UInt8) (o : Ob) (h : Gr.ob L id = some o) => show Gr.nx L C id = Gr.lk (if id ∈ C then Gr.cutO o else o) by unfold Gr.nx; rw [h])
 have HFL := Lib.hid hFl
 have HDS := Lib.hid (Gr.Dfs.start (Gr.nx L C) (St.has L) F)
 have HTL := Lib.hid (fun (W S T M : List Gr.Id) (h : Gr.Dfs (Gr.nx L C) (St.has L) F W S T M) => Gr.tlen h)
 have hz28 := (zero_of_info zero28).1
 have HS0 := Lib.hid noF.size
 generalize (obC noOb nilV nilV).toArray = z at hz28 HS0
 generalize hN : Gr.nx L C = N at *
 clear hP hd hF hC hCl hFl hN
 have hmm := @run_makeMap Tryz.prog
 go_enter Tryz.func13, Tryz.ntmps13
 go_wp2_with fail
 refine HSO.out.mono ?_
 rintro r w1 ⟨cb, cn, SC, rfl, hM1, hSC, hcb, hcn, hb1⟩
 have HSC := Lib.hid hSC
 have HM1 := Lib.hid (hM1.alloc (.map #[] 0))
 have HS1 := Lib.hid (Ids.made w1)
 have HB1 := Lib.hid (hb1.alloc hb1.size (.map #[] 0))
 have hcb1 : cb < w1.heap.size := hM1.lt
 clear HSO hM1 hSC hb1
 go_wp2_with fail
 refine (HCN.out _ HB1.out).mono ?_
 rintro r w3 ⟨wv, rfl, hO, hb3⟩
 have HR0 := Lib.hid (show Rs w w3 (w1.heap.size + 1) w1.heap.size 0 cb cn (.slice none 0 0) (.slice none 0 0) wv [] [] F [] SC from by
  rw [show (w1.alloc (.map #[] 0)).heap.size = w1.heap.size + 1 by simp] at hO
  exact ⟨OwnI.nil _ _, OwnI.nil _ _, hO, HS1.out.below hb3, HM1.out.below hb3, Ap.nil _, Ap.nil _, Ap.nil _, by omega, hcb1, HB1.out.trans (hb3.mono HB1.out.size), hcb, by have := hb3.size; simpa using this⟩)
 clear hO hb3 HS1 HM1 HB1 hmm HCN
 go_wp2_with fail
 go_loopw [6, 7, 10] (fun tv mv wv wr => ∃ (T M W S : List (List UInt8)) (sn : Nat), Hid (Rs w wr (w1.heap.size + 1) w1.heap.size sn cb cn tv mv wv T M W S SC) ∧ Hid (Gr.Dfs N (St.has L) F W S T M) ∧ sn + W.length ≤ F.length + 64 * T.length ∧ M.length ≤ sn) (fun tv mv wv _ => lenV wv + 65 * (100 - lenV tv))
 case atStart => exact ⟨[], [], F, [], 0, HR0.out, HDS.out, by simp, by simp⟩
 case round =>
  clear HR0 HDS
  obtain ⟨T, M, W, S, sn, HR, HD, hsn, hml⟩ := hrel
  have hT63 : T.length ≤ 63 := Nat.le_trans (HTL.out _ _ _ _ HD.out) hL63
  obtain ⟨uo, uc, rfl⟩ := HR.out.t.form
  obtain ⟨mo, mc, rfl⟩ := HR.out.m.form
  obtain ⟨wo, wc, rfl⟩ := HR.out.q.form
  rcases List.eq_nil_or_concat W with rfl | ⟨W', x, hWx⟩
  ·
   have hE := HD.out.end_
   have hdT := HD.out.tn
   have hdM := HD.out.mn
   have h6 : M.length ≤ 6500 := by omega
   have HSM1 := Lib.hid (sort_any wr _ _ T HR.out.t (by omega))
   clear HNO HAT HHO HNX0 HNX1 HTL HD
   go_wp2_with fail
   refine HSM1.out.mono ?_
   rintro r w5 ⟨rfl, T', hpT, hsT, hIT, hgT⟩
   have hM5 : OwnI w5 (w1.heap.size + 1) (.slice mo M.length mc) M := ⟨own_kept HR.out.m.own (fun g hm => hgT.block g (HR.out.m.own.lt g hm).2 (fun e => HR.out.tm g e.symm hm)), HR.out.m.len⟩
   have HSM2 := Lib.hid (sort_any w5 _ _ M hM5 (by omega))
   have HB5 := Lib.hid (HR.out.bel.grown hgT HR.out.bel.size (fun g hg => by have := (HR.out.t.own.lt g hg).1; have := HR.out.wB; omega))
   have HTT := Lib.hid (show T'.length = T.length ∧ Gr.Up T' ∧ (∀ x, x ∈ T' ↔ x ∈ T) ∧ ∀ x ∈ T', x.length = 32 from by
    have hm : ∀ x, x ∈ T' ↔ x ∈ T := fun x => hpT.mem_iff
    have hl : ∀ x ∈ T', x.length = 32 := fun x hx => HR.out.t.len x ((hm x).1 hx)
    exact ⟨hpT.length_eq, Gr.up_of (hpT.nodup_iff.2 hdT) hl hsT, hm, hl⟩)
   have HIT := Lib.hid hIT
   have HTM := Lib.hid HR.out.tm
   have HML := Lib.hid HR.out.m.len
   have hmB : ∀ g, (Value.slice mo M.length mc).ownBlock = some g → w.heap.size ≤ g := fun g hg => by have := (HR.out.m.own.lt g hg).1; have := HR.out.wB; omega
   have HMB := Lib.hid hmB
   have HE := Lib.hid hE
   have HDM := Lib.hid hdM
   clear hIT hgT hpT hsT hM5 HSM1 HR hmB hE hdT hdM
   go_wp2_with fail
   refine HSM2.out.mono ?_
   rintro r w6 ⟨rfl, M', hpM, hsM, hIM, hgM⟩
   have hB6 := HB5.out.grown hgM HB5.out.size HMB.out
   have hm : ∀ x, x ∈ M' ↔ x ∈ M := fun x => hpM.mem_iff
   have hl : ∀ x ∈ M', x.length = 32 := fun x hx => HML.out x ((hm x).1 hx)
   have hUM := Gr.up_of (hpM.nodup_iff.2 HDM.out) hl hsM
   have hIT6 : IdsAt w6 (.slice uo T.length uc) T' := RowsAt.moved HIT.out (by decide) (fun _ a ha hlt => hgM.block _ hlt (fun e => HTM.out a.block (by rw [ha]; rfl) e.symm))
   have hlM := hpM.length_eq
   obtain ⟨hlT, hUT, hmT, hl32⟩ := HTT.out
   have hE2 := HE.out
   clear HE HTT HDM HML HTM HIT HSM2 HMB HB5
   go_wp2_with fail
   go_ret2
   exact ⟨_, _, T', M', rfl, hIT6, hIM, hUT, hUM, (fun x => by rw [hmT x, hm x]; exact hE2 x), hl32, hl, by omega, by omega, hB6⟩
  ·
   -- BODY
   rw [List.concat_eq_append] at hWx
   subst hWx
   have hwl : (W' ++ [x]).length = W'.length + 1 := by simp
   rw [hwl] at HR hsn ⊢
   have hx32 := HR.out.q.len x (by simp)
   obtain ⟨a, e, _, hc⟩ := HR.out.q.rows.elem W'.length (idC x) (by simp)
   subst e
   have g0 : (0 : Int) ≤ (W'.length : Int) := by omega
   have g3 : (W'.length : Int) ≤ (wc : Int) := by have := HR.out.q.cut.2; omega
   have HX := Lib.hid hx32
   have HC := Lib.hid hc
   have HID1 := Lib.hid (row_news (heap_alloc_new wr (.cells (idC x).toArray 42)))
   have HR1 := Lib.hid (HR.out.cut.below (below_new wr (.cells (idC x).toArray 42)))
   have HAD := Lib.hid (add_any _ _ sn S x HR1.out.s (by omega) hx32)
   have hsb : w1.heap.size < wr.heap.size := by have := HR.out.BB; omega
   have HTO := Lib.hid (fun (g : Nat) (hg : (Value.slice uo T.length uc).ownBlock = some g) => (HR.out.t.own.lt g hg).2)
   clear hc hx32 HR
   by_cases hin : x ∈ S
   ·
    rw [decide_eq_true hin, if_pos hin] at HAD
    go_wp2_with (first
     | ((with_reducible refine ld_id (l := x) (x := .tmp 30) ?_ ?_ ?_ HC.out HX.out ?_); rfl; rfl; rfl)
     | ((with_reducible apply st_id (hl := HX.out)); rfl; rfl; rfl; rfl; rfl)
     | ((with_reducible refine ld_id (l := x) (x := .tmp 12) (p := ⟨wr.heap.size, 0, none⟩) ?_ ?_ ?_ HID1.out HX.out ?_); rfl; rfl; rfl))
    refine HAD.out.mono ?_
    rintro r w4 ⟨rfl, h4, hg4⟩
    have HR4 := Lib.hid (HR1.out.added h4 hg4)
    clear h4 hg4 HR1 HAD HC HID1
    go_wp2_with fail
    go_roundw
    case rel => exact ⟨T, M, W', S, sn + 1, HR4.out, HD.out.skip hin, by omega, by omega⟩
    case measure => simp [lenV, intOf]
   ·
    rw [decide_eq_false hin, if_neg hin] at HAD
    go_wp2_with (first
     | ((with_reducible refine ld_id (l := x) (x := .tmp 30) ?_ ?_ ?_ HC.out HX.out ?_); rfl; rfl; rfl)
     | ((with_reducible apply st_id (hl := HX.out)); rfl; rfl; rfl; rfl; rfl)
     | ((with_reducible refine ld_id (l := x) (x := .tmp 12) (p := ⟨wr.heap.size, 0, none⟩) ?_ ?_ ?_ HID1.out HX.out ?_); rfl; rfl; rfl))
    refine HAD.out.mono ?_
    rintro r w4 ⟨rfl, h4, hg4⟩
    have HR4 := Lib.hid (HR1.out.added h4 hg4)
    have HBX4 := Lib.hid ((hg4.block wr.heap.size (by simp) (by simp; omega)).trans (heap_alloc_new wr (.cells (idC x).toArray 42)))
    have HID4 := Lib.hid (row_news HBX4.out)
    have hlt4 := (Array.getElem?_eq_some_iff.1 HBX4.out).1
    clear h4 hg4 HR1 HAD HC HID1
    cases hh : St.has L x with
    | false =>
      have HOB := Lib.hid (HNO.out w4 HR4.out.bel x HX.out hh)
      have HNL := Lib.hid (HNX0.out x hh)
      go_wp2_with ((with_reducible refine ld_id (l := x) (x := .tmp 12) (p := ⟨wr.heap.size, 0, none⟩) ?_ ?_ ?_ HID4.out HX.out ?_); rfl; rfl; rfl)
      refine HOB.out.mono ?_
      rintro r w5 ⟨cs, rfl, hcs, hco, hb5⟩
      have HCS := Lib.hid hcs
      have HCO := Lib.hid hco
      have hb6 := hb5.alloc hb5.size (.cells cs 54)
      have HR6 := Lib.hid (HR4.out.below hb6)
      have HID6 := Lib.hid (row_news ((hb6.block wr.heap.size hlt4).trans HBX4.out))
      have hw6 := HR6.out.BB
      clear hcs hco hb5 hb6 HOB HR4 HID4 HBX4
      go_wp2_with (first
       | ((with_reducible apply st_ob (hs := HCS.out) (h1 := HCO.out)); rfl; rfl; rfl; rfl; exact HS0.out)
       | ((with_reducible refine ld_id (l := x) (x := .tmp 12) (p := ⟨wr.heap.size, 0, none⟩) ?_ ?_ ?_ HID6.out HX.out ?_); rfl; rfl; rfl)
       | ((with_reducible refine bs_id2 (l := x) (x := .tmp 48) ?_ ?_ ?_ HX.out ?_); rfl; rfl; rfl)
       | ((with_reducible refine ap_id_at (.tmp 47) (.tmp 49) ?_ ?_ ?_ ?_ HR6.out.m hw6 HX.out (by omega) (fun v' w' h1 h2 h3 => ?_)); rfl; rfl; rfl; rfl))
      go_roundw
      case rel => exact ⟨T, M ++ [x], W', S ++ [x], sn + 1, HR6.out.pushM h1.out h2.out h3.out, HD.out.miss hin hh HNL.out, by omega, by simp; omega⟩
      case measure => simp [lenV, intOf]
    | true =>
      obtain ⟨j, rr, o, hj, hid, hdec, hob⟩ := HHO.out x hh
      have HOB := Lib.hid (HAT.out w4 HR4.out.bel j rr o hj hdec)
      rw [hid] at HOB
      have HNL0 := Lib.hid (HNX1.out x o hob)
      have hfew := Gr.dec_few hdec
      have hids := Rm.dec_ids hdec
      have HIDS := Lib.hid hids
      clear hj hdec hob hids
      go_wp2_with ((with_reducible refine ld_id (l := x) (x := .tmp 12) (p := ⟨wr.heap.size, 0, none⟩) ?_ ?_ ?_ HID4.out HX.out ?_); rfl; rfl; rfl)
      refine HOB.out.mono ?_
      rintro r w5 ⟨cs, ao, bo, ca, cbb, rfl, hO, hnew, hb5⟩
      have HCS := Lib.hid hO.F.size
      have HCO := Lib.hid hO.F.one
      have hb6 := hb5.alloc hb5.size (.cells cs 54)
      have HR6 := Lib.hid (HR4.out.below hb6)
      have HB46 := Lib.hid hb6
      have HOX6 := Lib.hid (hO.below (below_new w5 (.cells cs 54)))
      have HNW := Lib.hid hnew
      have HBB6 := Lib.hid (heap_alloc_new w5 (.cells cs 54))
      have HBI6 := Lib.hid ((hb6.block wr.heap.size hlt4).trans HBX4.out)
      have HID6 := Lib.hid (row_news HBI6.out)
      have hw6 := HR6.out.BB
      have h45 := hb5.size
      have HFR := Lib.hid (Far.fresh (k := 0) hO ⟨fun _ a ha => ⟨hnew a (.inl ha), by have := hnew a (.inl ha); omega⟩, fun _ a ha => ⟨hnew a (.inr ha), by have := hnew a (.inr ha); omega⟩⟩ (Nat.le_refl _))
      clear hb5 hb6 HOB HR4 HID4 HBX4 hO hnew
      go_upto_region 12 with (first
       | ((with_reducible apply st_ob (hs := HCS.out) (h1 := HCO.out)); rfl; rfl; rfl; rfl; exact HS0.out)
       | ((with_reducible refine ld_id (l := x) (x := .tmp 12) (p := ⟨wr.heap.size, 0, none⟩) ?_ ?_ ?_ HID6.out HX.out ?_); rfl; rfl; rfl)
       | ((with_reducible refine bs_id2 (l := x) (x := .tmp 52) ?_ ?_ ?_ HX.out ?_); rfl; rfl; rfl)
       | ((with_reducible refine ap_id_at (.tmp 51) (.tmp 53) ?_ ?_ ?_ ?_ HR6.out.t hw6 HX.out (by omega) (fun v7 w7 h1 h2 h3 => ?_)); rfl; rfl; rfl; rfl))
      have h1o := h1.out
      obtain ⟨uo2, uc2, hform⟩ := OwnI.form h1o
      rw [show (T ++ [x]).length = T.length + 1 by simp] at hform
      subst hform
      have hne7 : ∀ g, wr.heap.size ≤ g → some g ≠ (Value.slice uo T.length uc).ownBlock := fun g hg e => by have := HTO.out g e.symm; omega
      have hk7 : ∀ g, wr.heap.size ≤ g → g < (w5.alloc (.cells cs 54)).heap.size → w7.heap[g]? = (w5.alloc (.cells cs 54)).heap[g]? := fun g hg hlt => by
       rw [h2.out.block g (by simp at hlt ⊢; omega) (hne7 g hg), heap_alloc_old _ _ hlt]
      have HR7 := Lib.hid (HR6.out.pushT h1o h2.out h3.out)
      have HO7 := Lib.hid (HOX6.out.moved HFR.out (fun g hB _ hlt => hk7 g (by omega) hlt))
      have HBB7 := Lib.hid ((hk7 w5.heap.size (by omega) (by simp)).trans HBB6.out)
      have HID7 := Lib.hid (row_news ((hk7 wr.heap.size (Nat.le_refl _) (by simp; omega)).trans HBI6.out))
      have HHA := Lib.hid (has_any w7 cb cn SC x HR7.out.c HX.out)
      have hlt7 := (Array.getElem?_eq_some_iff.1 HBB7.out).1
      have hge : w1.heap.size + 1 ≤ w5.heap.size := by omega
      clear h1 h1o h2 h3 hne7 hk7 HR6 HOX6 HBB6 HBI6 HID6 HB46 HTO HNO HAT HHO HNX0 HNX1
      by_cases hC : x ∈ C
      ·
       rw [decide_eq_true ((HSC.out x).2 hC)] at HHA
       have HNL := Lib.hid (show N x = (linksL (Gr.cutO o)).map (·.1) by have := HNL0.out; rw [if_pos hC] at this; exact this)
       go_wp2_with ((with_reducible refine ld_id (l := x) (x := .tmp 12) (p := ⟨wr.heap.size, 0, none⟩) ?_ ?_ ?_ HID7.out HX.out ?_); rfl; rfl; rfl)
       refine HHA.out.mono ?_
       rintro r w8 ⟨rfl, hb8⟩
       have HR8 := Lib.hid (HR7.out.below hb8)
       have HO8 := Lib.hid (HO7.out.below hb8)
       have HBB8 := Lib.hid ((hb8.block _ hlt7).trans HBB7.out)
       have c35 : w8.cell? ⟨w5.heap.size, 35, none⟩ = some (.slice bo o.pars.length cbb) := (cell_of_row _ _ 35 _ _ _ HBB8.out).trans HO8.out.F.c35
       have f35 : w8.frozen? ⟨w5.heap.size, 35, none⟩ = false := frozen_of_row _ _ 35 _ _ HBB8.out
       have HBB9 := Lib.hid (show (w8.setCell ⟨w5.heap.size, 35, none⟩ (.slice none 0 0)).heap[w5.heap.size]? = some (.cells (cs.setIfInBounds 35 (.slice none 0 0)) 54) from heap_setCell_same _ _ _ _ _ _ HBB8.out)
       have HR9 := Lib.hid (HR8.out.boxed (i := 35) (u := .slice none 0 0) HBB8.out hge)
       have HO9 := Lib.hid ((HO8.out.moved HFR.out (fun g _ hne _ => (grown_setCell w8 ⟨w5.heap.size, 35, none⟩ (.slice none 0 0)).block g ‹_› (by simp; omega))).struck)
       have HLK := Lib.hid (links_any _ (Gr.cutO o) ao none ca 0 _ HO9.out (by show o.ents.length ≤ 100; omega) (by show 0 ≤ 100; omega))
       have hls := Gr.links_ids (Gr.ids_cut HIDS.out)
       have hlsn := Gr.few (o := Gr.cutO o) hfew.1 (Nat.zero_le _)
       have HC9 := Lib.hid HO9.out.F.size
       clear hb8 HHA HR7 HO7 HBB7 HID7 HR8 HO8 HNL0 HFR HNW
       go_upto_region 14 with fail
       generalize w8.setCell ⟨w5.heap.size, 35, none⟩ (.slice none 0 0) = w9 at *
       generalize linksL (Gr.cutO o) = ls at *
       clear HO9 HBB8 c35 f35
       go_wp2_with ((with_reducible refine ld_obr (x := .tmp 13) ?_ ?_ ?_ HBB9.out HC9.out ?_); rfl; rfl; rfl)
       refine (HLK.out).mono ?_
       rintro r w10 ⟨lv, rfl, hLv, hb10⟩
       have HLS := Lib.hid hls
       have HLN := Lib.hid hlsn
       obtain ⟨lo, lc, hlform⟩ := own_shape hLv
       subst hlform
       have HW0 := Lib.hid (show Wt w w10 (w1.heap.size + 1) w1.heap.size (sn + 1) cb cn _ _ _ (T ++ [x]) M W' (S ++ [x]) SC _ _ ls from ⟨HR9.out.below hb10, hLv, fun g hg hl => by have h1 := (World.ownsRow.lt hLv g hl).1; have h2 := (HR9.out.q.own.lt g hg).2; omega⟩)
       clear hLv hb10 HLK HR9
       go_wp2_with fail
       go_loopw [10, 62] (fun wv i wr => ∃ (k : Nat) (Wk : List (List UInt8)), k ≤ ls.length ∧ i = .int .i64 k ∧ Hid (Wk.length = W'.length + k) ∧ Hid (Wk = W' ++ (ls.take k).map (·.1)) ∧ Hid (Wt w wr (w1.heap.size + 1) w1.heap.size (sn + 1) cb cn (.slice uo2 (T.length + 1) uc2) (.slice mo M.length mc) wv (T ++ [x]) M Wk (S ++ [x]) SC w9.heap.size (.slice lo ls.length lc) ls)) (fun _ i _ => ls.length - (intOf i).toNat)
       case atStart => exact ⟨0, W', by omega, rfl, by show _ = _; omega, by show W' = _; simp, HW0.out⟩
       case round =>
        clear HW0
        obtain ⟨k, Wk, hk, rfl, HWN, HWK, HW⟩ := hrel
        obtain ⟨qo, qc, rfl⟩ := HW.out.r.q.form
        by_cases hlt : k < ls.length
        ·
         have hlt' : (k : Int) < (ls.length : Int) := by omega
         have hk0 : (0 : Int) ≤ (k : Int) := by omega
         obtain ⟨l, hl⟩ : ∃ l, ls[k]? = some l := ⟨ls[k], List.getElem?_eq_getElem hlt⟩
         have HLL := Lib.hid (HLS.out l (List.mem_of_getElem? hl))
         obtain ⟨la, rfl, hlc⟩ := lk_cells (HW.out.l.rows HLS.out) k l hl
         have HLC := Lib.hid hlc
         have HLR := Lib.hid (lk_id (row_news (heap_alloc_new wr (.cells (lkC l).toArray 97))))
         have HW1 := Lib.hid (HW.out.below (below_new wr (.cells (lkC l).toArray 97)))
         have HTK := Lib.hid (show W' ++ (ls.take (k + 1)).map (·.1) = Wk ++ [l.1] by rw [HWK.out, take_map_succ _ _ _ _ hl, List.append_assoc])
         have hw1 := HW1.out.r.BB
         have hln1 := HLN.out
         clear hlc hl HW
         go_wp2_with (first
          | ((with_reducible refine ld_lk (l := l) (x := .tmp 64) ?_ ?_ ?_ HLC.out HLL.out ?_); rfl; rfl; rfl)
          | ((with_reducible refine st_lk (l := l) (x := .tmp 16) (y := .tmp 65) ?_ ?_ ?_ ?_ ?_ HLL.out ?_); rfl; rfl; rfl; rfl; rfl)
          | ((with_reducible refine ld_id (l := l.1) (x := .tmp 67) (p := ⟨wr.heap.size, 0, none⟩) ?_ ?_ ?_ HLR.out HLL.out ?_); rfl; rfl; rfl)
          | ((with_reducible refine bs_id2 (l := l.1) (x := .tmp 68) ?_ ?_ ?_ HLL.out ?_); rfl; rfl; rfl)
          | ((with_reducible refine ap_id_at (.tmp 66) (.tmp 69) ?_ ?_ ?_ ?_ HW1.out.r.q hw1 HLL.out (by have := HWN.out; omega) (fun v' w' h1 h2 h3 => ?_)); rfl; rfl; rfl; rfl))
         go_roundw
         case rel => exact ⟨k + 1, Wk ++ [l.1], by omega, by go_num, by show _ = _; have := HWN.out; simp; omega, HTK.out.symm, HW1.out.push h1.out h2.out h3.out⟩
         case measure => simp [intOf]; omega
        ·
         have hlt' : ¬ (k : Int) < (ls.length : Int) := by omega
         have hkl : k = ls.length := by omega
         have HWL := Lib.hid (show Wk = W' ++ ls.map (·.1) by rw [HWK.out, List.take_of_length_le (by omega)])
         have hln := HLN.out
         go_wp2_with fail
         go_roundw
         case rel => exact ⟨T ++ [x], M, Wk, S ++ [x], sn + 1, HW.out.r, by show Gr.Dfs _ _ _ _ _ _ _; rw [HWL.out, ← HNL.out]; exact HD.out.more hin hh, by have := HWN.out; simp; omega, by omega⟩
         case measure => have := HWN.out; simp [lenV, intOf]; omega
      ·
       rw [decide_eq_false (fun h => hC ((HSC.out x).1 h))] at HHA
       have HNL := Lib.hid (show N x = (linksL o).map (·.1) by have := HNL0.out; rw [if_neg hC] at this; exact this)
       go_wp2_with ((with_reducible refine ld_id (l := x) (x := .tmp 12) (p := ⟨wr.heap.size, 0, none⟩) ?_ ?_ ?_ HID7.out HX.out ?_); rfl; rfl; rfl)
       refine HHA.out.mono ?_
       rintro r w9 ⟨rfl, hb8⟩
       have HR9 := Lib.hid (HR7.out.below hb8)
       have HO9 := Lib.hid (HO7.out.below hb8)
       have HBB9 := Lib.hid ((hb8.block _ hlt7).trans HBB7.out)
       have HLK := Lib.hid (links_any _ o ao bo ca cbb _ HO9.out (by omega) (by omega))
       have hls := Gr.links_ids HIDS.out
       have hlsn := Gr.few hfew.1 hfew.2
       have HC9 := Lib.hid HO9.out.F.size
       clear hb8 HHA HR7 HO7 HBB7 HID7 HNL0 HFR HNW HO9
       generalize linksL o = ls at *
       go_wp2_with ((with_reducible refine ld_obr (x := .tmp 13) ?_ ?_ ?_ HBB9.out HC9.out ?_); rfl; rfl; rfl)
       refine (HLK.out).mono ?_
       rintro r w10 ⟨lv, rfl, hLv, hb10⟩
       have HLS := Lib.hid hls
       have HLN := Lib.hid hlsn
       obtain ⟨lo, lc, hlform⟩ := own_shape hLv
       subst hlform
       have HW0 := Lib.hid (show Wt w w10 (w1.heap.size + 1) w1.heap.size (sn + 1) cb cn _ _ _ (T ++ [x]) M W' (S ++ [x]) SC _ _ ls from ⟨HR9.out.below hb10, hLv, fun g hg hl => by have h1 := (World.ownsRow.lt hLv g hl).1; have h2 := (HR9.out.q.own.lt g hg).2; omega⟩)
       clear hLv hb10 HLK HR9
       go_wp2_with fail
       go_loopw [10, 62] (fun wv i wr => ∃ (k : Nat) (Wk : List (List UInt8)), k ≤ ls.length ∧ i = .int .i64 k ∧ Hid (Wk.length = W'.length + k) ∧ Hid (Wk = W' ++ (ls.take k).map (·.1)) ∧ Hid (Wt w wr (w1.heap.size + 1) w1.heap.size (sn + 1) cb cn (.slice uo2 (T.length + 1) uc2) (.slice mo M.length mc) wv (T ++ [x]) M Wk (S ++ [x]) SC w9.heap.size (.slice lo ls.length lc) ls)) (fun _ i _ => ls.length - (intOf i).toNat)
       case atStart => exact ⟨0, W', by omega, rfl, by show _ = _; omega, by show W' = _; simp, HW0.out⟩
       case round =>
        clear HW0
        obtain ⟨k, Wk, hk, rfl, HWN, HWK, HW⟩ := hrel
        obtain ⟨qo, qc, rfl⟩ := HW.out.r.q.form
        by_cases hlt : k < ls.length
        ·
         have hlt' : (k : Int) < (ls.length : Int) := by omega
         have hk0 : (0 : Int) ≤ (k : Int) := by omega
         obtain ⟨l, hl⟩ : ∃ l, ls[k]? = some l := ⟨ls[k], List.getElem?_eq_getElem hlt⟩
         have HLL := Lib.hid (HLS.out l (List.mem_of_getElem? hl))
         obtain ⟨la, rfl, hlc⟩ := lk_cells (HW.out.l.rows HLS.out) k l hl
         have HLC := Lib.hid hlc
         have HLR := Lib.hid (lk_id (row_news (heap_alloc_new wr (.cells (lkC l).toArray 97))))
         have HW1 := Lib.hid (HW.out.below (below_new wr (.cells (lkC l).toArray 97)))
         have HTK := Lib.hid (show W' ++ (ls.take (k + 1)).map (·.1) = Wk ++ [l.1] by rw [HWK.out, take_map_succ _ _ _ _ hl, List.append_assoc])
         have hw1 := HW1.out.r.BB
         have hln1 := HLN.out
         clear hlc hl HW
         go_wp2_with (first
          | ((with_reducible refine ld_lk (l := l) (x := .tmp 64) ?_ ?_ ?_ HLC.out HLL.out ?_); rfl; rfl; rfl)
          | ((with_reducible refine st_lk (l := l) (x := .tmp 16) (y := .tmp 65) ?_ ?_ ?_ ?_ ?_ HLL.out ?_); rfl; rfl; rfl; rfl; rfl)
          | ((with_reducible refine ld_id (l := l.1) (x := .tmp 67) (p := ⟨wr.heap.size, 0, none⟩) ?_ ?_ ?_ HLR.out HLL.out ?_); rfl; rfl; rfl)
          | ((with_reducible refine bs_id2 (l := l.1) (x := .tmp 68) ?_ ?_ ?_ HLL.out ?_); rfl; rfl; rfl)
          | ((with_reducible refine ap_id_at (.tmp 66) (.tmp 69) ?_ ?_ ?_ ?_ HW1.out.r.q hw1 HLL.out (by have := HWN.out; omega) (fun v' w' h1 h2 h3 => ?_)); rfl; rfl; rfl; rfl))
         go_roundw
         case rel => exact ⟨k + 1, Wk ++ [l.1], by omega, by go_num, by show _ = _; have := HWN.out; simp; omega, HTK.out.symm, HW1.out.push h1.out h2.out h3.out⟩
         case measure => simp [intOf]; omega
        ·
         have hlt' : ¬ (k : Int) < (ls.length : Int) := by omega
         have hkl : k = ls.length := by omega
         have HWL := Lib.hid (show Wk = W' ++ ls.map (·.1) by rw [HWK.out, List.take_of_length_le (by omega)])
         have hln := HLN.out
         go_wp2_with fail
         go_roundw
         case rel => exact ⟨T ++ [x], M, Wk, S ++ [x], sn + 1, HW.out.r, by show Gr.Dfs _ _ _ _ _ _ _; rw [HWL.out, ← HNL.out]; exact HD.out.more hin hh, by have := HWN.out; simp; omega, by omega⟩
         case measure => have := HWN.out; simp [lenV, intOf]; omega
end Go.Proofs.YtfckfjndnhjpoaaGreatDoor
