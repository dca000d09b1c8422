/-
  WALKS OF LAYER 12: the law GraphReaches, with what its examples answer handed in.
-/
import Derived.Test.YtfckfjndnhjpoaaGreatDoorQz
import Derived.Test.YtfckfjndnhjpoaaGreatDoorQy
import Derived.Test.YtfckfjndnhjpoaaGreatDoorQp
import Derived.Test.YtfckfjndnhjpoaaGreatDoorQa
set_option linter.unusedVariables false
set_option linter.unusedSimpArgs false
set_option maxHeartbeats 8000000
set_option maxRecDepth 100000
section
namespace Go.Proofs.YtfckfjndnhjpoaaGreatDoor
open Go.RowKit
theorem sameids2_any (w : World) (v1 v2 : Value) (I : List (List UInt8)) (h1 : IdsAt w v1 I) (h2 : IdsAt w v2 I) (hl : ∀ i ∈ I, i.length = 32) (hn : I.length ≤ 100000) :
  Calls Tryz.prog 15 #[v1, v2] w fun r w' => r = .returned (.bool true) ∧ Below w.heap.size w w' := by
 obtain ⟨ao, c1, rfl⟩ : ∃ ao cap, v1 = .slice ao I.length cap := by simpa using RowsAt.form h1
 obtain ⟨bo, c2, rfl⟩ : ∃ ao cap, v2 = .slice ao I.length cap := by simpa using RowsAt.form h2
 have H1 := Lib.hid h1
 have H2 := Lib.hid h2
 have HL := Lib.hid hl
 clear h1 h2 hl
 go_enter Tryz.func15, Tryz.ntmps15
 go_wp2_with fail
 go_loopw [5] (fun i wr => ∃ (k : Nat), k ≤ I.length ∧ i = .int .i64 k ∧ Hid (Below w.heap.size w wr)) (fun i _ => I.length - (intOf i).toNat)
 case atStart => exact ⟨0, by omega, rfl, Below.refl _ _⟩
 case round =>
  obtain ⟨k, hk, rfl, HB⟩ := hrel
  by_cases hlt : k < I.length
  ·
   have hlt' : (k : Int) < (I.length : Int) := by omega
   have hk0 : (0 : Int) ≤ (k : Int) := by omega
   obtain ⟨id, hx⟩ : ∃ x, I[k]? = some x := ⟨I[k], List.getElem?_eq_getElem hlt⟩
   have hxl := HL.out id (List.mem_of_getElem? hx)
   obtain ⟨a, rfl, _, hc⟩ := (RowsAt.below H1.out HB.out).elem k (idC id) (by simp [hx])
   obtain ⟨b, rfl, _, hd⟩ := (RowsAt.below H2.out HB.out).elem k (idC id) (by simp [hx])
   have HC1 := Lib.hid (show ∀ j u, (idC id)[j]? = some u → wr.drew.cell? ((a.add (k * 32)).add j) = some u from hc)
   have HC2 := Lib.hid (show ∀ j u, (idC id)[j]? = some u → wr.drew.cell? ((b.add (k * 32)).add j) = some u from hd)
   have HXL := Lib.hid hxl
   have hq : ∀ W, (Op.equalIn 10000 42 (.agg (idC id).toArray) (.agg (idC id).toArray)).run Tryz.prog W = .ok true W := fun W => by
    have := eq_id id id hxl hxl W; simpa using this
   clear hx hxl hc hd
   go_wp2_with fail
   refine rgn_still (by kernel_rfl) (by kernel_rfl) ?_
   repeat still_step
   (with_reducible apply still_id (hc := HC1.out) (hl := HXL.out))
   rfl
   rfl
   rfl
   repeat still_step
   (with_reducible apply still_id (hc := HC2.out) (hl := HXL.out))
   rfl
   rfl
   rfl
   repeat still_step
   refine wpStill_nil ?_
   go_wp2_with fail
   go_roundw
   case rel => exact ⟨k + 1, by omega, by go_num, HB.out.drew⟩
   case measure => simp [intOf]; omega
  ·
   go_wp2_with fail
   go_ret
   exact ⟨rfl, HB.out⟩
def KnT : Prop := ∀ W, S2.KIn W → Calls Tryz.prog 9 #[] W fun r w' => r = .returned (.bool true) ∧ Below W.heap.size W w'
theorem hi_size : (Tryz.prog.info? 25).map (·.size) = some 4 := by kernel_rfl
theorem hi_under : Tryz.prog.underlying 25 = some (.struct (Tryz.prog.fieldsOf 25)) := by kernel_rfl
theorem ld_hi {ops : Array Oper} {rest : List Oper} {op : Oper} {a : Act} {w : World} {Q : Exit → Act → World → Prop} {x : Operand} {p : Addr} {c : List Value} (ho : op.op = .load 25 x) (hx : a.eval x = .pointer (some p)) (hg : op.guard = none) (hc : ∀ j v, c[j]? = some v → w.cell? (p.add j) = some v) (hl : c.length = 4)
  (h : wpList Tryz.prog ops Q rest (a.put op.dst (.agg c.toArray)) w) : wpList Tryz.prog ops Q (op :: rest) a w :=
 wpList_load_at hg 25 x ho p hx _ _ hc hi_under rfl (by rw [hl]; exact hi_size) h
theorem reaches_no (hKN : KnT) (w : World) (sv lo lf lc : Value) (S : List Sd) (O F C : List UInt8) (h : SdsAt w sv S) (hl : S.length ≤ maxLen) (hO : ByAt w lo O) (hF : ByAt w lf F) (hC : ByAt w lc C) (hk : S2.KIn w) (hn : ¬ (goodG S ∧ O.length ≤ 10 ∧ F.length ≤ 10 ∧ C.length ≤ 10)) :
  Calls Tryz.prog 3 #[.agg #[sv, lo, lf, lc]] w fun r w' => r = .returned (.bool true) ∧ Below w.heap.size w w' := by
 have HFE := Lib.hid (fun W (hb : Below w.heap.size w W) => lawfew_no W sv lo lf lc S O F C (h.below hb) hl (hO.below hb) (hF.below hb) (hC.below hb) hn)
 unfold FewN at HFE
 have HK := Lib.hid hk
 have HKN := Lib.hid hKN
 obtain ⟨ao, cap, rfl⟩ := h.form
 obtain ⟨oo, oc, rfl⟩ := hO.form
 obtain ⟨fo, fc, rfl⟩ := hF.form
 obtain ⟨co, cc, rfl⟩ := hC.form
 have HB1 := Lib.hid (below_new w (.cells #[.slice ao S.length cap, .slice oo O.length oc, .slice fo F.length fc, .slice co C.length cc] 25))
 have HR1 := Lib.hid (row_news (heap_alloc_new w (.cells #[.slice ao S.length cap, .slice oo O.length oc, .slice fo F.length fc, .slice co C.length cc] 25)))
 clear h hO hF hC hn hk hKN
 go_enter Tryz.func3, Tryz.ntmps3
 go_wp2_with ((with_reducible refine ld_hi (c := [.slice ao S.length cap, .slice oo O.length oc, .slice fo F.length fc, .slice co C.length cc]) (x := .tmp 1) (p := ⟨w.heap.size, 0, none⟩) ?_ ?_ ?_ HR1.out ?_ ?_); rfl; rfl; rfl; rfl)
 refine (HFE.out _ HB1.out).mono ?_
 rintro r w3 ⟨rfl, hb3⟩
 have hb4 := hb3.alloc hb3.size (.cells #[.slice none 0 0] 28)
 have HB4 := Lib.hid (HB1.out.trans (hb4.mono HB1.out.size))
 have HKN4 := Lib.hid (HKN.out _ (HK.out.step HB4.out))
 clear hb3 hb4 HFE HKN
 go_wp2_with fail
 refine HKN4.out.mono ?_
 rintro r w5 ⟨rfl, hb5⟩
 have HB5 := Lib.hid (HB4.out.trans (hb5.mono HB4.out.size))
 clear hb5 HKN4
 go_wp2_with fail
 go_ret
 exact ⟨rfl, HB5.out⟩
end Go.Proofs.YtfckfjndnhjpoaaGreatDoor
end
section
namespace Go.Proofs.YtfckfjndnhjpoaaGreatDoor
open Go.RowKit
theorem below_drewed (w : World) : Below w.heap.size w w.drew := (Below.refl _ _).drew
structure Lw (w W : World) (hv : List Value) (mb b : Nat) (mv v' : Value) (L : List St.It) (B kk : Nat) : Prop where
 bel : Below w.heap.size w W
 kin : S2.KIn W
 hist : W.heap[w.heap.size]? = some (.cells hv.toArray 25)
 mbox : W.heap[mb]? = some (.cells #[mv] 28)
 dst : R.DSt B kk W mv L
 pst : PSt W b b v' L
theorem Lw.below {w W W' : World} {hv : List Value} {mb b : Nat} {mv v' : Value} {L : List St.It} {B kk : Nat} (h : Lw w W hv mb b mv v' L B kk) (hb : Below W.heap.size W W') : Lw w W' hv mb b mv v' L B kk :=
 ⟨h.bel.trans (hb.mono h.bel.size), h.kin.step hb, (hb.block _ (Array.getElem?_eq_some_iff.1 h.hist).1).trans h.hist, (hb.block _ (Array.getElem?_eq_some_iff.1 h.mbox).1).trans h.mbox, h.dst.below hb, h.pst.below hb⟩
theorem Lw.m0 {w W : World} {hv : List Value} {mb b : Nat} {mv v' : Value} {L : List St.It} {B kk : Nat} (h : Lw w W hv mb b mv v' L B kk) : W.cell? ⟨mb, 0, none⟩ = some mv := by rw [cell_of_row _ _ 0 _ _ _ h.mbox]; rfl
theorem dst_dec {B kk : Nat} {W : World} {mv : Value} {L : List St.It} (h : R.DSt B kk W mv L) : Gr.Dec L := fun r hr => by
 obtain ⟨i, hi⟩ := List.getElem?_of_mem hr
 obtain ⟨C, _, hI⟩ := h.rows
 have hl : i < C.length := by rw [hI.len]; exact (List.getElem?_eq_some_iff.1 hi).1
 obtain ⟨o, _, _, _, _, _, _, _, _, hd, _⟩ := hI.at_ i _ r (List.getElem?_eq_getElem hl) hi
 exact ⟨o, hd⟩
theorem reaches_yes (hKN : KnT) (w : World) (sv lo lf lc : Value) (S : List Sd) (O F C : List UInt8) (h : SdsAt w sv S) (hl : S.length ≤ maxLen) (hO : ByAt w lo O) (hF : ByAt w lf F) (hC : ByAt w lc C) (hk : S2.KIn w) (hg : goodG S) (hOn : O.length ≤ 10) (hFn : F.length ≤ 10) (hCn : C.length ≤ 10) :
  Calls Tryz.prog 3 #[.agg #[sv, lo, lf, lc]] w fun r w' => r = .returned (.bool true) ∧ Below w.heap.size w w' := by
 have HFE := Lib.hid (fun W (hb : Below w.heap.size w W) => lawfew_yes W sv lo lf lc S O F C (h.below hb) hl hg (hO.below hb) (hF.below hb) (hC.below hb) hOn hFn hCn)
 have HNM := Lib.hid (fun W (hb : Below w.heap.size w W) => named_any W sv lo lf lc S (h.below hb) hg)
 have HIF := Lib.hid (fun W (hb : Below w.heap.size w W) (iv : Value) (I : List (List UInt8)) (hI : IdsAt W iv I) (hIl : ∀ i ∈ I, i.length = 32) (hIn : I.length ≤ 24) => lawIds_any W iv lf I F hI hIl (by omega) (hF.below hb) hFn)
 have HIC := Lib.hid (fun W (hb : Below w.heap.size w W) (iv : Value) (I : List (List UInt8)) (hI : IdsAt W iv I) (hIl : ∀ i ∈ I, i.length = 32) (hIn : I.length ≤ 24) => lawIds_any W iv lc I C hI hIl (by omega) (hC.below hb) hCn)
 unfold FewY at HFE
 have HK := Lib.hid hk
 have HKN := Lib.hid hKN
 have hz24 := (zero_of_info zero24).1
 obtain ⟨ao, cap, rfl⟩ := h.form
 obtain ⟨oo, oc, rfl⟩ := hO.form
 obtain ⟨fo, fc, rfl⟩ := hF.form
 obtain ⟨co, cc, rfl⟩ := hC.form
 have HB1 := Lib.hid (below_new w (.cells #[.slice ao S.length cap, .slice oo O.length oc, .slice fo F.length fc, .slice co C.length cc] 25))
 have HH1 := Lib.hid (heap_alloc_new w (.cells #[.slice ao S.length cap, .slice oo O.length oc, .slice fo F.length fc, .slice co C.length cc] 25))
 have HR1 := Lib.hid (row_news HH1.out)
 have hz1 : (w.alloc (.cells #[.slice ao S.length cap, .slice oo O.length oc, .slice fo F.length fc, .slice co C.length cc] 25)).heap.size = w.heap.size + 1 := by simp
 clear h hO hF hC hk hKN hg
 go_enter Tryz.func3, Tryz.ntmps3
 go_wp2_with ((with_reducible refine ld_hi (c := [.slice ao S.length cap, .slice oo O.length oc, .slice fo F.length fc, .slice co C.length cc]) (x := .tmp 1) (p := ⟨w.heap.size, 0, none⟩) ?_ ?_ ?_ HR1.out ?_ ?_); rfl; rfl; rfl; rfl)
 refine (HFE.out _ HB1.out).mono ?_
 rintro r w3 ⟨mv, L, B, kk, rfl, hD, hL, hb3⟩
 obtain ⟨mo, mc, rfl⟩ := hD.form
 have hb4 := hb3.alloc hb3.size (.cells #[.slice mo L.length mc] 28)
 have HB4 := Lib.hid (HB1.out.trans (hb4.mono HB1.out.size))
 have HH4 := Lib.hid ((hb4.block w.heap.size (by omega)).trans HH1.out)
 have HM4 := Lib.hid (heap_alloc_new w3 (.cells #[.slice mo L.length mc] 28))
 have HD4 := Lib.hid (hD.below (below_new w3 (.cells #[.slice mo L.length mc] 28)))
 have HK4 := Lib.hid (HK.out.step HB4.out)
 have HOF := Lib.hid (of_any _ _ L HD4.out.old HK4.out)
 clear hb3 hb4 HFE HB1 HH1 HR1 hD HK
 go_wp2_with fail
 refine HOF.out.mono ?_
 rintro r w5 ⟨b, v', rfl, hbge, hP, hb5⟩
 have HW5 := Lib.hid (show Lw w w5 [.slice ao S.length cap, .slice oo O.length oc, .slice fo F.length fc, .slice co C.length cc] w3.heap.size b (.slice mo L.length mc) v' L B kk from
  ⟨HB4.out.trans (hb5.mono HB4.out.size), HK4.out.step hb5, (hb5.block _ (Array.getElem?_eq_some_iff.1 HH4.out).1).trans HH4.out, (hb5.block _ (Array.getElem?_eq_some_iff.1 HM4.out).1).trans HM4.out, HD4.out.below hb5, hP⟩)
 have HR5 := Lib.hid (row_news HW5.out.hist)
 clear hb5 HOF HB4 HH4 HM4 HD4 HK4 hP hbge hz1
 go_wp2_with ((with_reducible refine ld_hi (c := [.slice ao S.length cap, .slice oo O.length oc, .slice fo F.length fc, .slice co C.length cc]) (x := .tmp 1) (p := ⟨w.heap.size, 0, none⟩) ?_ ?_ ?_ HR5.out ?_ ?_); rfl; rfl; rfl; rfl)
 refine (HNM.out _ HW5.out.bel).mono ?_
 rintro r w6 ⟨iv, I, rfl, hI, hIl, hIn, hb6⟩
 have HW6 := Lib.hid (HW5.out.below hb6)
 have HI := Lib.hid hI
 have HIL := Lib.hid hIl
 have e2 : w6.cell? ⟨w.heap.size, 2, none⟩ = some (.slice fo F.length fc) := by rw [cell_of_row _ _ 2 _ _ _ HW6.out.hist]; rfl
 clear hb6 HNM HW5 HR5 hI hIl
 go_wp2_with fail
 refine (HIF.out _ HW6.out.bel iv I HI.out HIL.out hIn).mono ?_
 rintro r w7 ⟨fv, J, rfl, hJ, hJn, hb7⟩
 have HW7 := Lib.hid (HW6.out.below hb7)
 have HI7 := Lib.hid (RowsAt.below HI.out hb7)
 obtain ⟨jo, jc, rfl⟩ := hJ.form
 have HJ7 := Lib.hid hJ.rows
 have HJL := Lib.hid hJ.len
 have e3 : w7.cell? ⟨w.heap.size, 3, none⟩ = some (.slice co C.length cc) := by rw [cell_of_row _ _ 3 _ _ _ HW7.out.hist]; rfl
 clear hb7 HIF HW6 HI hJ e2
 go_wp2_with fail
 refine (HIC.out _ HW7.out.bel iv I HI7.out HIL.out hIn).mono ?_
 rintro r w8 ⟨cv, G, rfl, hG, hGn, hb8⟩
 have HW8 := Lib.hid (HW7.out.below hb8)
 have HJ8 := Lib.hid (RowsAt.below HJ7.out hb8)
 have HG8 := Lib.hid hG.rows
 have HGL := Lib.hid hG.len
 have HRE := Lib.hid (reach_any w8 b b v' (.slice jo J.length jc) cv L J G HW8.out.pst (dst_dec HW8.out.dst) HJ8.out HJL.out (by omega) HG8.out HGL.out (by omega))
 clear hb8 HIC HW7 HI7 HJ7 hG HIL e3
 go_wp2_with fail
 refine HRE.out.mono ?_
 rintro r w9 ⟨tv, mv, T, M, rfl, hT, hM, uT, uM, hx, lT, lM, nT, nM, hb9⟩
 have HW9 := Lib.hid (HW8.out.below hb9)
 have HJ9 := Lib.hid (RowsAt.below HJ8.out hb9)
 have HT9 := Lib.hid hT
 have HM9 := Lib.hid hM
 have HLT := Lib.hid lT
 have HLM := Lib.hid lM
 have HUU := Lib.hid (show Gr.Up T ∧ Gr.Up M ∧ ∀ x, (x ∈ T ↔ Gr.Rch (Gr.nx L G) J x ∧ St.has L x = true) ∧ (x ∈ M ↔ Gr.Rch (Gr.nx L G) J x ∧ St.has L x = false) from ⟨uT, uM, hx⟩)
 have HRF := Lib.hid (R.refreach_any sorted_any B kk w9 (.slice mo L.length mc) (.slice jo J.length jc) cv L J G HW9.out.dst HJ9.out HJL.out (by omega) (RowsAt.below HG8.out hb9) HGL.out (by omega))
 have m9 := HW9.out.m0
 clear hb9 HRE HW8 HJ8 hT hM uT uM hx lT lM HG8 HGL
 go_wp2_with fail
 refine HRF.out.mono ?_
 rintro r w10 ⟨tv2, mv2, T2, M2, rfl, hT2, hM2, uT2, uM2, hx2, hb10⟩
 have eT : T2 = T := Gr.up_eq uT2 HUU.out.1 (fun x => (hx2 x).1.trans (HUU.out.2.2 x).1.symm)
 have eM : M2 = M := Gr.up_eq uM2 HUU.out.2.1 (fun x => (hx2 x).2.trans (HUU.out.2.2 x).2.symm)
 subst eT eM
 have HW10 := Lib.hid (HW9.out.below hb10)
 have HJ10 := Lib.hid (RowsAt.below HJ9.out hb10)
 have HSA := Lib.hid (sameids2_any w10 tv tv2 _ (RowsAt.below HT9.out hb10) hT2 HLT.out (by omega))
 have HM10 := Lib.hid (RowsAt.below HM9.out hb10)
 have HN10 := Lib.hid hM2
 clear hb10 HRF HW9 HJ9 hT2 hM2 uT2 uM2 hx2 HUU HT9 HM9 m9 HLT
 go_wp2_with fail
 refine HSA.out.mono ?_
 rintro r w11 ⟨rfl, hb11⟩
 have HW11 := Lib.hid (HW10.out.below hb11)
 have HJ11 := Lib.hid (RowsAt.below HJ10.out hb11)
 have HSB := Lib.hid (sameids2_any w11 mv mv2 _ (RowsAt.below HM10.out hb11) (RowsAt.below HN10.out hb11) HLM.out (by omega))
 clear hb11 HSA HW10 HJ10 HM10 HN10 HLM
 go_wp2_with fail
 refine HSB.out.mono ?_
 rintro r w12 ⟨rfl, hb12⟩
 have HW12 := Lib.hid (HW11.out.below hb12)
 have HJ12 := Lib.hid (RowsAt.below HJ11.out hb12)
 have HEN1 := Lib.hid (fun (W : World) (hW : Lw w W [.slice ao S.length cap, .slice oo O.length oc, .slice fo F.length fc, .slice co C.length cc] w3.heap.size b (.slice mo L.length mc) v' L B kk) (id : List UInt8) (hil : id.length = 32) => end_any W b b v' L id hW.pst (dst_dec hW.dst) hil)
 have HEN2 := Lib.hid (fun (W : World) (hW : Lw w W [.slice ao S.length cap, .slice oo O.length oc, .slice fo F.length fc, .slice co C.length cc] w3.heap.size b (.slice mo L.length mc) v' L B kk) (id : List UInt8) (hil : id.length = 32) => show Calls Tryz.prog 17 #[.agg #[.slice mo L.length mc], .agg (idC id).toArray] W (Gr.AEnd (Gr.endF L L.length id) W) from by
  have := R.refend_any B kk W _ L id hW.dst hil
  rw [Gr.endF_more] at this; exact this)
 clear hb12 HSB HW11 HJ11
 go_wp2_with fail
 go_loopw [15] (fun i wr => ∃ (k : Nat), k ≤ J.length ∧ i = .int .i64 k ∧ Hid (Lw w wr [.slice ao S.length cap, .slice oo O.length oc, .slice fo F.length fc, .slice co C.length cc] w3.heap.size b (.slice mo L.length mc) v' L B kk) ∧ Hid (IdsAt wr (.slice jo J.length jc) J)) (fun i _ => J.length - (intOf i).toNat)
 case atStart => exact ⟨0, by omega, rfl, HW12.out, HJ12.out⟩
 case round =>
  clear HW12 HJ12
  obtain ⟨k, hkJ, rfl, HW, HJ⟩ := hrel
  by_cases hlt : k < J.length
  ·
   have hlt' : (k : Int) < (J.length : Int) := by omega
   have hk0 : (0 : Int) ≤ (k : Int) := by omega
   obtain ⟨id, hid⟩ : ∃ x, J[k]? = some x := ⟨J[k], List.getElem?_eq_getElem hlt⟩
   have HXL := Lib.hid (HJL.out id (List.mem_of_getElem? hid))
   obtain ⟨a, rfl, _, hc⟩ := RowsAt.elem HJ.out k (idC id) (by simp [hid])
   have HC := Lib.hid hc
   have HE1 := Lib.hid (HEN1.out wr HW.out id HXL.out)
   have HEF := Lib.hid (fun W hW => HEN2.out W hW id HXL.out)
   unfold Gr.AEnd at HE1 HEF
   generalize Gr.endF L L.length id = E at *
   clear hid hc HEN1 HEN2
   go_wp2_with ((with_reducible refine ld_id (l := id) (x := .tmp 72) (p := a.add (k * 32)) ?_ ?_ ?_ HC.out HXL.out ?_); rfl; rfl; rfl)
   refine HE1.out.mono ?_
   rintro r w2 ⟨rfl, hyl, hb2⟩
   have HYL := Lib.hid hyl
   generalize hy : E.getD zId = y at *
   generalize hf : E.isSome = f at *
   have hb3 := hb2.alloc hb2.size (.cells (idC y).toArray 42)
   have HW3 := Lib.hid (HW.out.below hb3)
   have HJ3 := Lib.hid (RowsAt.below HJ.out hb3)
   have HX3 := Lib.hid (heap_alloc_new w2 (.cells (idC y).toArray 42))
   have HCW := Lib.hid (show ∀ W', Below (w2.alloc (.cells (idC y).toArray 42)).heap.size (w2.alloc (.cells (idC y).toArray 42)).drew W' → ∀ j u, (idC id)[j]? = some u → W'.cell? ((a.add (k * 32)).add j) = some u from fun W' hb j u hu => by
    have h1 := HC.out j u hu
    have h2 := World.block_lt_of_cell? _ _ h1
    have h3 := hb3.size
    rw [hb.cell (by omega)]
    show (w2.alloc (.cells (idC y).toArray 42)).cell? _ = _
    rw [hb3.cell h2]; exact h1)
   have HMW := Lib.hid (show ∀ W', Below (w2.alloc (.cells (idC y).toArray 42)).heap.size (w2.alloc (.cells (idC y).toArray 42)).drew W' → W'.cell? ⟨w3.heap.size, 0, none⟩ = some (.slice mo L.length mc) from fun W' hb => ((HW3.out.below (below_drewed _)).below hb).m0)
   clear hb2 hb3 HE1 hyl HW HJ HC hy
   go_wp2_with ((with_reducible apply st_id (hl := HYL.out)); rfl; rfl; rfl; rfl; rfl)
   refine wp_region_noPanic ?_
   refine wp_region_held_drew (S := (fun w' => Below (w2.alloc (.cells (idC y).toArray 42)).heap.size (w2.alloc (.cells (idC y).toArray 42)).drew w')) (by kernel_rfl) (Below.refl _ _) (fun hH => ?_)
   refine tk (i := 0) (v := ?_) ?_ ?_
   rotate_left
   · intro w' hSw; have q0 := HMW.out _ hSw; go_simp; try rfl
   try simp only [q0]
   refine tk (i := 1) (v := ?_) ?_ ?_
   rotate_left
   · intro w' hSw; go_simp; try rfl
   try simp only [q0]
   refine tk (i := 2) (v := ?_) ?_ ?_
   rotate_left
   · intro w' hSw; go_simp; try rfl
   try simp only [q0]
   refine tk (i := 3) (v := ?_) ?_ ?_
   rotate_left
   · intro w' hSw; go_simp; try rfl
   try simp only [q0]
   refine wpAnyH_take (i := 4) rfl (by kernel_rfl) (by kernel_rfl) (by kernel_rfl) (fun _ _ _ h => h) (yields_at (p := a.add (k * 32)) (cs := idC id) (by rfl) rfl rfl HCW.out Tryz.underlying42 rfl (idsize HXL.out)) (by assumption) ?_
   try simp only [q0]
   refine wpAnyH_ready (rs := [5, 9]) (by kernel_rfl) (by simp) ?_
   refine AllReadyH.cons rfl (fun K hK => ?_) (AllReadyH.cons rfl (fun K hK => ?_) AllReadyH.nil)
   ·
    go_simp
    with_reducible refine (HEF.out _ (HW3.out.below (below_drewed _))).mono ?_
    rintro r w13 ⟨rfl, _, hb13⟩
    have hS : Below (w2.alloc (.cells (idC y).toArray 42)).heap.size (w2.alloc (.cells (idC y).toArray 42)).drew w13 := hb13
    go_wp2_with fail
    refine hK.out _ _ hS (fun hH5 => ?_)
    clear hK K
    try simp only [q0]
    refine tk (i := 6) (v := ?_) ?_ ?_
    rotate_left
    · intro w' hSw; go_simp; try rfl
    try simp only [q0]
    refine tk (i := 7) (v := ?_) ?_ ?_
    rotate_left
    · intro w' hSw; go_simp; try rfl
    try simp only [q0]
    refine tk (i := 8) (v := ?_) ?_ ?_
    rotate_left
    · intro w' hSw; go_simp; try rfl
    try simp only [q0]
    refine wpAnyH_ready (rs := [9]) (by kernel_rfl) (by simp) ?_
    refine AllReadyH.cons rfl (fun K hK => ?_) AllReadyH.nil
    go_simp
    have hS11 := hS.alloc hS.size (.cells (idC zId).toArray 42)
    have HGZ := Lib.hid (heap_alloc_new w13 (.cells (idC zId).toArray 42))
    have hgz := hS.size
    refine hK.out _ _ hS11 (fun hH9 => ?_)
    clear hK K
    try simp only [q0]
    refine wpAnyH_ready (rs := [10]) (by kernel_rfl) (by simp) ?_
    refine AllReadyH.cons rfl (fun K hK => ?_) AllReadyH.nil
    rw [if_pos (by rfl)]
    refine wp_store_row 42 (.tmp 18) (.tmp 84) rfl w13.heap.size (idC y).toArray rfl rfl 42 _ HGZ.out (by rw [List.size_toArray]; exact idsize HYL.out) (by simp [idC_length, HYL.out]; rfl) (all_oneCell_toArray (idC_one _)) ?_
    have hS12 := below_setRow hS11 hgz (idC y).toArray
    refine hK.out _ _ hS12 (fun hH12 => ?_)
    clear hK K
    try simp only [q0]
    refine tk (i := 11) (v := ?_) ?_ ?_
    rotate_left
    · intro w' hSw; go_simp; try rfl
    try simp only [q0]
    refine wpAnyH_done (by kernel_rfl) ?_ _
    refine NoPanic.normal ?_
    have HLW := Lib.hid ((HW3.out.below (below_drewed _)).below hS12)
    have HJ4 := Lib.hid (RowsAt.below (RowsAt.below HJ3.out (below_drewed _)) hS12)
    have HG4 := Lib.hid (row_news (setRow_heap _ _ _ (idC y).toArray _ _ HGZ.out))
    have HX4 := Lib.hid (row_news ((hS12.block w2.heap.size (by simp)).trans HX3.out))
    have hq : ∀ W, (Op.equalIn 10000 42 (.agg (idC y).toArray) (.agg (idC y).toArray)).run Tryz.prog W = .ok true W := fun W => by
     have := eq_id y y HYL.out HYL.out W; simpa using this
    cases f
    all_goals
     go_wp2_with (first
      | ((with_reducible refine ld_id (l := y) (x := .tmp 16) (p := ⟨w2.heap.size, 0, none⟩) ?_ ?_ ?_ HX4.out HYL.out ?_); rfl; rfl; rfl)
      | ((with_reducible refine ld_id (l := y) (x := .tmp 18) (p := ⟨w13.heap.size, 0, none⟩) ?_ ?_ ?_ HG4.out HYL.out ?_); rfl; rfl; rfl))
     go_roundw
     case rel => exact ⟨k + 1, by omega, by go_num, HLW.out, HJ4.out⟩
     case measure => simp [intOf]; omega
   ·
    go_simp
    have hS1 : Below (w2.alloc (.cells (idC y).toArray 42)).heap.size (w2.alloc (.cells (idC y).toArray 42)).drew ((w2.alloc (.cells (idC y).toArray 42)).alloc (.cells (idC zId).toArray 42)).drew := below_new (w2.alloc (.cells (idC y).toArray 42)).drew (.cells (idC zId).toArray 42)
    refine hK.out _ _ hS1 (fun hH9 => ?_)
    clear hK K
    try simp only [q0]
    refine wpAnyH_ready (rs := [5]) (by kernel_rfl) (by simp) ?_
    refine AllReadyH.cons rfl (fun K hK => ?_) AllReadyH.nil
    go_simp
    with_reducible refine (HEF.out _ ((HW3.out.below (below_new _ (.cells (idC zId).toArray 42))).below (below_drewed _))).mono ?_
    rintro r w13 ⟨rfl, _, hb13⟩
    have hS11 := hS1.trans (hb13.mono (show (w2.alloc (.cells (idC y).toArray 42)).heap.size ≤ _ by simp))
    have HGZ := Lib.hid (show w13.heap[w2.heap.size + 1]? = some (.cells (idC zId).toArray 42) from by
     have h0 := (hb13.block (w2.alloc (.cells (idC y).toArray 42)).heap.size (by simp)).trans (heap_alloc_new (w2.alloc (.cells (idC y).toArray 42)) (.cells (idC zId).toArray 42))
     rw [show (w2.alloc (.cells (idC y).toArray 42)).heap.size = w2.heap.size + 1 by simp] at h0; exact h0)
    have hgz : (w2.alloc (.cells (idC y).toArray 42)).heap.size ≤ w2.heap.size + 1 := by simp
    go_wp2_with fail
    refine hK.out _ _ hS11 (fun hH5 => ?_)
    clear hK K
    try simp only [q0]
    refine tk (i := 6) (v := ?_) ?_ ?_
    rotate_left
    · intro w' hSw; go_simp; try rfl
    try simp only [q0]
    refine tk (i := 7) (v := ?_) ?_ ?_
    rotate_left
    · intro w' hSw; go_simp; try rfl
    try simp only [q0]
    refine tk (i := 8) (v := ?_) ?_ ?_
    rotate_left
    · intro w' hSw; go_simp; try rfl
    try simp only [q0]
    refine wpAnyH_ready (rs := [10]) (by kernel_rfl) (by simp) ?_
    refine AllReadyH.cons rfl (fun K hK => ?_) AllReadyH.nil
    rw [if_pos (by rfl)]
    refine wp_store_row 42 (.tmp 18) (.tmp 84) rfl (w2.heap.size + 1) (idC y).toArray rfl rfl 42 _ HGZ.out (by rw [List.size_toArray]; exact idsize HYL.out) (by simp [idC_length, HYL.out]; rfl) (all_oneCell_toArray (idC_one _)) ?_
    have hS12 := below_setRow hS11 hgz (idC y).toArray
    refine hK.out _ _ hS12 (fun hH12 => ?_)
    clear hK K
    try simp only [q0]
    refine tk (i := 11) (v := ?_) ?_ ?_
    rotate_left
    · intro w' hSw; go_simp; try rfl
    try simp only [q0]
    refine wpAnyH_done (by kernel_rfl) ?_ _
    refine NoPanic.normal ?_
    have HLW := Lib.hid ((HW3.out.below (below_drewed _)).below hS12)
    have HJ4 := Lib.hid (RowsAt.below (RowsAt.below HJ3.out (below_drewed _)) hS12)
    have HG4 := Lib.hid (row_news (setRow_heap _ _ _ (idC y).toArray _ _ HGZ.out))
    have HX4 := Lib.hid (row_news ((hS12.block w2.heap.size (by simp)).trans HX3.out))
    have hq : ∀ W, (Op.equalIn 10000 42 (.agg (idC y).toArray) (.agg (idC y).toArray)).run Tryz.prog W = .ok true W := fun W => by
     have := eq_id y y HYL.out HYL.out W; simpa using this
    cases f
    all_goals
     go_wp2_with (first
      | ((with_reducible refine ld_id (l := y) (x := .tmp 16) (p := ⟨w2.heap.size, 0, none⟩) ?_ ?_ ?_ HX4.out HYL.out ?_); rfl; rfl; rfl)
      | ((with_reducible refine ld_id (l := y) (x := .tmp 18) (p := ⟨w2.heap.size + 1, 0, none⟩) ?_ ?_ ?_ HG4.out HYL.out ?_); rfl; rfl; rfl))
     go_roundw
     case rel => exact ⟨k + 1, by omega, by go_num, HLW.out, HJ4.out⟩
     case measure => simp [intOf]; omega
  ·
   have hlt' : ¬ (k : Int) < (J.length : Int) := by omega
   have HKW := Lib.hid (HKN.out wr HW.out.kin)
   go_wp2_with fail
   refine HKW.out.mono ?_
   rintro r w14 ⟨rfl, hb14⟩
   have HW14 := Lib.hid (HW.out.below hb14)
   clear hb14 HKW
   go_wp2_with fail
   go_ret
   exact ⟨rfl, HW14.out.bel⟩
end Go.Proofs.YtfckfjndnhjpoaaGreatDoor
end
section
namespace Go.Proofs.YtfckfjndnhjpoaaGreatDoor
open Go.RowKit
theorem reaches_any (hKN : KnT) (w : World) (sv lo lf lc : Value) (S : List Sd) (O F C : List UInt8) (h : SdsAt w sv S) (hl : S.length ≤ maxLen) (hO : ByAt w lo O) (hF : ByAt w lf F) (hC : ByAt w lc C) (hk : S2.KIn w) :
  Calls Tryz.prog 3 #[.agg #[sv, lo, lf, lc]] w fun r w' => r = .returned (.bool true) ∧ Below w.heap.size w w' := by
 by_cases hg : goodG S ∧ O.length ≤ 10 ∧ F.length ≤ 10 ∧ C.length ≤ 10
 · exact reaches_yes hKN w sv lo lf lc S O F C h hl hO hF hC hk hg.1 hg.2.1 hg.2.2.1 hg.2.2.2
 · exact reaches_no hKN w sv lo lf lc S O F C h hl hO hF hC hk hg
end Go.Proofs.YtfckfjndnhjpoaaGreatDoor
end
