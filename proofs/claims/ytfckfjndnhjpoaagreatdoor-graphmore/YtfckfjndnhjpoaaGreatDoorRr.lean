/-
  LAYER 12: the law GraphMore of a history that is gone through.
-/
import Derived.Test.YtfckfjndnhjpoaaGreatDoorRq
import Derived.Test.YtfckfjndnhjpoaaGreatDoorRk
import Derived.Test.YtfckfjndnhjpoaaGreatDoorRn
import Derived.Test.YtfckfjndnhjpoaaGreatDoorRt
import Derived.Test.YtfckfjndnhjpoaaGreatDoorQa
set_option linter.unusedVariables false
set_option linter.unusedSimpArgs false
set_option maxHeartbeats 8000000
set_option maxRecDepth 100000
section
namespace Go.Proofs.YtfckfjndnhjpoaaGreatDoor
open Go.RowKit
theorem wp_apI2 {op : Oper} {a : Act} {w : World} {K : Act → World → Prop} {Q : Exit → Act → World → Prop} {v jv : Value} {I J : List (List UInt8)} {base : Nat} (s x : Operand)
  (ho : op.op = .call { callee := .builtin .append, args := #[s, x], argTypes := #[34, 34] }) (hs : a.eval s = v) (hx : a.eval x = jv)
  (h : OwnI w base v I) (hJ : IdsAt w jv J) (hJl : ∀ i ∈ J, i.length = 32) (hb : base ≤ w.heap.size) (hl : I.length + J.length ≤ 100000)
  (hK : ∀ v' w', OwnI w' base v' (I ++ J) → w.grownBy w' v.ownBlock → K (a.put op.dst v') w') : op.wp Tryz.prog a w K Q := by
 obtain ⟨i0, hi, hz0, hz1, hz2⟩ := info_parts infoIdz
 obtain ⟨ao, cap, rfl⟩ : ∃ ao cap, jv = .slice ao J.length cap := by simpa using RowsAt.form hJ
 have hfl : ((J.map idC).flatten).length = J.length * 32 := by rw [flatK_len _ (ids_len hJl)]; simp
 cases ao with
 | none =>
   have hn : J = [] ∧ cap = 0 := by
    rcases hJ.out with ⟨h1, h0⟩ | ⟨a', c, h0, _⟩
    ·
     have : J = [] := by simpa using h0
     subst this
     simp at h1
     exact ⟨rfl, h1⟩
    · simp at h0
   obtain ⟨rfl, rfl⟩ := hn
   have hrun := run_append_owned_none (P := Tryz.prog) (w := w) base 34 op.type 42 i0 32 Tryz.underlying34 hi v I.length _ h.own
   unfold Oper.wp
   simp [execOp, ho, resolve, invoke, builtin, hs, hx, hrun, Result.andThen]
   exact hK v w (by simpa using h) (World.grownBy.refl _ _)
 | some ad =>
   refine wp_append_own _ s x 34 ho base 42 i0 _ 32 32 Tryz.underlying34 hi hz0 hz1 hz2 (by decide) (by decide) v I.length (I.map idC).flatten hs h.own ad J.length cap ((J.map idC).flatten) hx hfl (ids_flat_at hJ hJl) (ids_flat_one J) (by unfold maxLen; omega) (by omega) hb ?_
   intro v' w' h1 h2 _
   refine hK v' w' ⟨?_, ?_⟩ h2
   · simpa using h1
   ·
    intro i hi
    rcases List.mem_append.1 hi with h' | h'
    · exact h.len i h'
    · exact hJl i h'
theorem take_at2 {w : World} {a : Addr} {n m cap cap' : Nat} {I : List (List UInt8)} (h : IdsAt w (.slice (some a) n cap) I) (hm : m ≤ I.length) : IdsAt w (.slice (some a) m cap') (I.take m) := by
 refine ⟨.inr ⟨a, cap', by simp [Nat.min_eq_left hm], fun i cs hi => ?_⟩⟩
 rw [List.map_take, List.getElem?_take] at hi
 split at hi
 ·
  obtain ⟨a', e, h1, h2⟩ := h.elem i cs hi
  injection e with e
  subst e
  exact ⟨h1, h2⟩
 · cases hi
theorem run_bs0 (w : World) : (Instr.buildSlice 34 0 #[]).run Tryz.prog w = .ok (.slice (some ⟨w.heap.size, 0, none⟩) 0 0) (w.alloc (.cells #[] 42)) := by
 obtain ⟨ie, hie, hz, h1, _⟩ := info_parts infoIdz
 have hu := fun w => run_underlying (P := Tryz.prog) Tryz.underlying34 w
 simp [Instr.buildSlice, hu, sizeOf, typeInfo, hie, newRow, Instr.fill]
 rw [show Array.range 0 = #[] from Array.eq_empty_of_size_eq_zero (by simp)]
 simp
theorem own_bs0 (w : World) (b : Nat) (hb : b ≤ w.heap.size) : OwnI (w.alloc (.cells #[] 42)) b (.slice (some ⟨w.heap.size, 0, none⟩) 0 0) [] :=
 ⟨⟨by simp, .inr ⟨w.heap.size, 0, #[], rfl, hb, heap_alloc_new _ _, by simp, by unfold maxLen; omega, by simp, by simp⟩⟩, fun i hi => by cases hi⟩
theorem apI_at {ops : Array Oper} {rest : List Oper} {op : Oper} {a : Act} {w : World} {Q : Exit → Act → World → Prop} {v jv : Value} {I J : List (List UInt8)} {base : Nat} (s x : Operand)
  (ho : op.op = .call { callee := .builtin .append, args := #[s, x], argTypes := #[34, 34] }) (hg : op.guard = none) (hs : a.eval s = v) (hx : a.eval x = jv)
  (h : OwnI w base v I) (hJ : IdsAt w jv J) (hJl : ∀ i ∈ J, i.length = 32) (hb : base ≤ w.heap.size) (hl : I.length + J.length ≤ 100000)
  (hK : ∀ v' w', Hid (OwnI w' base v' (I ++ J)) → Hid (Below base w w') → wpList Tryz.prog ops Q rest (a.put op.dst v') w') : wpList Tryz.prog ops Q (op :: rest) a w :=
 wpList_step fun K hKK => by
  rw [if_pos (by simp [Region.wanted, hg])]
  exact wp_apI2 s x ho hs hx h hJ hJl hb hl (fun v' w' h1 h2 => hKK _ _ (hK v' w' h1 ((Below.refl base w).grown h2 hb (fun k hk => (h.own.lt k hk).1))))
theorem par_step {L : List St.It} {R : List (List UInt8)} {x y : List UInt8} {j : Nat} {c d : Bool} (h : c = true ↔ ∃ m y, m < j ∧ R[m]? = some y ∧ x ∈ Gr.prs L y) (hy : R[j]? = some y) (hd : d = true ↔ (c = true ∨ x ∈ Gr.prs L y)) : d = true ↔ ∃ m y, m < j + 1 ∧ R[m]? = some y ∧ x ∈ Gr.prs L y := by
 rw [hd, h]
 constructor
 ·
  rintro (⟨m, z, h1, h2, h3⟩ | h3)
  · exact ⟨m, z, by omega, h2, h3⟩
  · exact ⟨j, y, by omega, hy, h3⟩
 ·
  rintro ⟨m, z, h1, h2, h3⟩
  by_cases e : m = j
  ·
   subst e
   rw [hy] at h2
   injection h2 with h2
   subst h2
   exact .inr h3
  · exact .inl ⟨m, z, by omega, h2, h3⟩
theorem more_yes (hKN : KnT) (w : World) (sv lo lf lc lm : Value) (S : List Sd) (O F C Mo : List UInt8) (h : SdsAt w sv S) (hl : S.length ≤ maxLen) (hO : ByAt w lo O) (hF : ByAt w lf F) (hC : ByAt w lc C) (hM : ByAt w lm Mo) (hk : S2.KIn w) (hg : goodG S) (hOn : O.length ≤ 10) (hFn : F.length ≤ 10) (hCn : C.length ≤ 10) (hMn : Mo.length ≤ 10) :
  Calls Tryz.prog 5 #[.agg #[sv, lo, lf, lc], lm] w fun r w' => r = .returned (.bool true) ∧ Below w.heap.size w w' := by
 have HFE := Lib.hid (fun W (hb : Below w.heap.size w W) => lawfew_yes W sv lo lf lc S O F C (h.below hb) hl hg (hO.below hb) (hF.below hb) (hC.below hb) hOn hFn hCn)
 have HNM := Lib.hid (fun W (hb : Below w.heap.size w W) => named_any W sv lo lf lc S (h.below hb) hg)
 have HIF := Lib.hid (fun W (hb : Below w.heap.size w W) (iv : Value) (I : List (List UInt8)) (hI : IdsAt W iv I) (hIl : ∀ i ∈ I, i.length = 32) (hIn : I.length ≤ 24) => lawIds_any W iv lf I F hI hIl (by omega) (hF.below hb) hFn)
 have HIC := Lib.hid (fun W (hb : Below w.heap.size w W) (iv : Value) (I : List (List UInt8)) (hI : IdsAt W iv I) (hIl : ∀ i ∈ I, i.length = 32) (hIn : I.length ≤ 24) => lawIds_any W iv lc I C hI hIl (by omega) (hC.below hb) hCn)
 have HIM := Lib.hid (fun W (hb : Below w.heap.size w W) (iv : Value) (I : List (List UInt8)) (hI : IdsAt W iv I) (hIl : ∀ i ∈ I, i.length = 32) (hIn : I.length ≤ 24) => lawIds_any W iv lm I Mo hI hIl (by omega) (hM.below hb) hMn)
 unfold FewY at HFE
 have HK := Lib.hid hk
 have HKN := Lib.hid hKN
 have hz24 := (zero_of_info zero24).1
 obtain ⟨ao, cap, rfl⟩ := h.form
 obtain ⟨oo, oc, rfl⟩ := hO.form
 obtain ⟨fo, fc, rfl⟩ := hF.form
 obtain ⟨co, cc, rfl⟩ := hC.form
 obtain ⟨qo, qc, rfl⟩ := hM.form
 have hmo : ¬ (10 : Int) < (Mo.length : Int) := by omega
 have HB1 := Lib.hid (below_new w (.cells #[.slice ao S.length cap, .slice oo O.length oc, .slice fo F.length fc, .slice co C.length cc] 25))
 have HH1 := Lib.hid (heap_alloc_new w (.cells #[.slice ao S.length cap, .slice oo O.length oc, .slice fo F.length fc, .slice co C.length cc] 25))
 have HR1 := Lib.hid (row_news HH1.out)
 have hz1 : (w.alloc (.cells #[.slice ao S.length cap, .slice oo O.length oc, .slice fo F.length fc, .slice co C.length cc] 25)).heap.size = w.heap.size + 1 := by simp
 clear h hO hF hC hM hk hKN hg
 go_enter Tryz.func5, Tryz.ntmps5
 go_wp2_with ((with_reducible refine ld_hi (c := [.slice ao S.length cap, .slice oo O.length oc, .slice fo F.length fc, .slice co C.length cc]) (x := .tmp 2) (p := ⟨w.heap.size, 0, none⟩) ?_ ?_ ?_ HR1.out ?_ ?_); rfl; rfl; rfl; rfl)
 refine (HFE.out _ HB1.out).mono ?_
 rintro r w3 ⟨mv, L, B, kk, rfl, hD, hL, hb3⟩
 obtain ⟨mo, mc, rfl⟩ := hD.form
 have hb4 := hb3.alloc hb3.size (.cells #[.slice mo L.length mc] 28)
 have HB4 := Lib.hid (HB1.out.trans (hb4.mono HB1.out.size))
 have HH4 := Lib.hid ((hb4.block w.heap.size (by omega)).trans HH1.out)
 have HM4 := Lib.hid (heap_alloc_new w3 (.cells #[.slice mo L.length mc] 28))
 have HD4 := Lib.hid (hD.below (below_new w3 (.cells #[.slice mo L.length mc] 28)))
 have HK4 := Lib.hid (HK.out.step HB4.out)
 have HOF := Lib.hid (of_any _ _ L HD4.out.old HK4.out)
 clear hb3 hb4 HFE HB1 HH1 HR1 hD HK
 go_wp2_with fail
 refine HOF.out.mono ?_
 rintro r w5 ⟨b, v', rfl, hbge, hP, hb5⟩
 have HW5 := Lib.hid (show Lw w w5 [.slice ao S.length cap, .slice oo O.length oc, .slice fo F.length fc, .slice co C.length cc] w3.heap.size b (.slice mo L.length mc) v' L B kk from
  ⟨HB4.out.trans (hb5.mono HB4.out.size), HK4.out.step hb5, (hb5.block _ (Array.getElem?_eq_some_iff.1 HH4.out).1).trans HH4.out, (hb5.block _ (Array.getElem?_eq_some_iff.1 HM4.out).1).trans HM4.out, HD4.out.below hb5, hP⟩)
 have HR5 := Lib.hid (row_news HW5.out.hist)
 clear hb5 HOF HB4 HH4 HM4 HD4 HK4 hP hbge hz1
 go_wp2_with ((with_reducible refine ld_hi (c := [.slice ao S.length cap, .slice oo O.length oc, .slice fo F.length fc, .slice co C.length cc]) (x := .tmp 2) (p := ⟨w.heap.size, 0, none⟩) ?_ ?_ ?_ HR5.out ?_ ?_); rfl; rfl; rfl; rfl)
 refine (HNM.out _ HW5.out.bel).mono ?_
 rintro r w6 ⟨iv, I, rfl, hI, hIl, hIn, hb6⟩
 have HW6 := Lib.hid (HW5.out.below hb6)
 have HI := Lib.hid hI
 have HIL := Lib.hid hIl
 have e2 : w6.cell? ⟨w.heap.size, 2, none⟩ = some (.slice fo F.length fc) := by rw [cell_of_row _ _ 2 _ _ _ HW6.out.hist]; rfl
 clear hb6 HNM HW5 HR5 hI hIl
 go_wp2_with fail
 refine (HIF.out _ HW6.out.bel iv I HI.out HIL.out hIn).mono ?_
 rintro r w7 ⟨fv, J, rfl, hJ, hJn, hb7⟩
 have HW7 := Lib.hid (HW6.out.below hb7)
 have HI7 := Lib.hid (RowsAt.below HI.out hb7)
 obtain ⟨jo, jc, rfl⟩ := hJ.form
 have HJ7 := Lib.hid hJ.rows
 have HJL := Lib.hid hJ.len
 have e3 : w7.cell? ⟨w.heap.size, 3, none⟩ = some (.slice co C.length cc) := by rw [cell_of_row _ _ 3 _ _ _ HW7.out.hist]; rfl
 clear hb7 HIF HW6 HI hJ e2
 go_wp2_with fail
 refine (HIC.out _ HW7.out.bel iv I HI7.out HIL.out hIn).mono ?_
 rintro r w8 ⟨cv, G, rfl, hG, hGn, hb8⟩
 have HW8 := Lib.hid (HW7.out.below hb8)
 have HJ8 := Lib.hid (RowsAt.below HJ7.out hb8)
 have HG8 := Lib.hid hG.rows
 have HGL := Lib.hid hG.len
 obtain ⟨go_, gc, rfl⟩ := hG.form
 have hL24 := hL
 have HRE := Lib.hid (fun W (hb : Below w8.heap.size w8 W) (fv cv : Value) (A K : List (List UInt8)) (hA : IdsAt W fv A) (hAl : ∀ i ∈ A, i.length = 32) (hAn : A.length ≤ 2000) (hK : IdsAt W cv K) (hKl : ∀ i ∈ K, i.length = 32) (hKn : K.length ≤ 2000) => reach_any W b b v' fv cv L A K (HW8.out.below hb).pst (dst_dec HW8.out.dst) hA hAl hAn hK hKl hKn)
 have HB8 := Lib.hid (Below.refl w8.heap.size w8)
 have HI8 := Lib.hid (RowsAt.below HI7.out hb8)
 have hbs0 := run_bs0
 have HO0 := Lib.hid (own_bs0 w8 w8.heap.size (Nat.le_refl _))
 have HN0 := Lib.hid (below_new w8 (.cells #[] 42))
 have HJ0 := Lib.hid (show IdsAt (w8.alloc (.cells #[] 42)) (.slice jo J.length jc) J from RowsAt.below HJ8.out HN0.out)
 have hz0 : w8.heap.size ≤ (w8.alloc (.cells #[] 42)).heap.size := by simp
 clear hb8 HIC HW7 HI7 HJ7 hG e3
 go_wp2_with ((with_reducible refine apI_at (.tmp 56) (.tmp 57) ?_ ?_ ?_ ?_ HO0.out HJ0.out HJL.out hz0 (by simp; omega) (fun v9 w9 HO9 HB9 => ?_)); rfl; rfl; rfl; rfl)
 have HBa := Lib.hid (HN0.out.trans (HB9.out.mono (Nat.le_refl _)))
 have HIMa := Lib.hid (HIM.out w9 (HW8.out.bel.trans (HBa.out.mono HW8.out.bel.size)) iv I (RowsAt.below HI8.out HBa.out) HIL.out hIn)
 have hz9 := HBa.out.size
 clear HO0 HN0 HJ0 hz0 HB9 HIM
 with_reducible refine HIMa.out.mono ?_
 rintro r wa ⟨kv, K, rfl, hKo, hKn, hba⟩
 have HKL := Lib.hid hKo.len
 have HOa := Lib.hid (HO9.out.below hba)
 have HKa := Lib.hid (show IdsAt wa kv K from hKo.rows)
 have HBb := Lib.hid (HBa.out.trans (hba.mono hz9))
 have hzb := HBb.out.size
 have hJ1 : ([] ++ J : List (List UInt8)).length + K.length ≤ 100000 := by simp; omega
 clear hKo hba HO9 HBa HIMa hz9
 go_wp2_with ((with_reducible refine apI_at (.tmp 58) (.tmp 61) ?_ ?_ ?_ ?_ HOa.out HKa.out HKL.out hzb hJ1 (fun vb wb HOb HBc => ?_)); rfl; rfl; rfl; rfl)
 have HB9 := Lib.hid (HBb.out.trans HBc.out)
 have HAL := Lib.hid (show IdsAt wb vb (J ++ K) from by have := HOb.out.rows; simpa using this)
 have HALl := Lib.hid (show ∀ i ∈ J ++ K, i.length = 32 from fun i hi => by
  rcases List.mem_append.1 hi with e | e
  · exact HJL.out i e
  · exact HKL.out i e)
 have hALn : (J ++ K).length ≤ 20 := by simp; omega
 clear HOb HBc HOa HKa HBb hzb hJ1 HI8
 have HJ9 := Lib.hid (show IdsAt wb (.slice jo J.length jc) J from RowsAt.below HJ8.out HB9.out)
 have HG9 := Lib.hid (show IdsAt wb (.slice go_ G.length gc) G from RowsAt.below HG8.out HB9.out)
 have HE1 := Lib.hid (HRE.out wb HB9.out _ _ J G HJ9.out HJL.out (by omega) HG9.out HGL.out (by omega))
 go_wp2_with fail
 with_reducible refine HE1.out.mono ?_
 rintro r wc ⟨tv1, mv1, T1, M1, rfl, hT1, hM1, uT1, uM1, hx1, lT1, lM1, nT1, nM1, hbc⟩
 have HBC := Lib.hid (HB9.out.trans (hbc.mono HB9.out.size))
 have HT1 := Lib.hid hT1
 have HM1 := Lib.hid hM1
 have F1 := Lib.hid (show (Gr.Up T1 ∧ Gr.Up M1) ∧ (∀ x, (x ∈ T1 ↔ Gr.Rch (Gr.nx L G) J x ∧ St.has L x = true) ∧ (x ∈ M1 ↔ Gr.Rch (Gr.nx L G) J x ∧ St.has L x = false)) ∧ (∀ x ∈ T1, x.length = 32) ∧ (∀ x ∈ M1, x.length = 32) from ⟨⟨uT1, uM1⟩, hx1, lT1, lM1⟩)
 have hT1n : T1.length ≤ 24 := Nat.le_trans (Gr.told_few (fun x hx => ((hx1 x).1.1 hx).2) HW8.out.dst.srt (Gr.upnd uT1)) hL24
 have hM1n : M1.length ≤ 1546 := by
  have := Gr.missing_few (fun x => (hx1 x).1) (fun x hx => (hx1 x).2.1 hx) (Gr.upnd uM1)
  omega
 have HALc := Lib.hid (show IdsAt wc vb (J ++ K) from RowsAt.below HAL.out hbc)
 have HGc := Lib.hid (show IdsAt wc (.slice go_ G.length gc) G from RowsAt.below HG9.out hbc)
 clear hT1 hM1 uT1 uM1 hx1 lT1 lM1 nT1 nM1 hbc HE1 HAL HG9 HJ9 HB9
 have HE2 := Lib.hid (HRE.out wc HBC.out _ _ (J ++ K) G HALc.out HALl.out (by omega) HGc.out HGL.out (by omega))
 go_wp2_with fail
 with_reducible refine HE2.out.mono ?_
 rintro r wd ⟨tv2, mv2, T2, M2, rfl, hT2, hM2, uT2, uM2, hx2, lT2, lM2, nT2, nM2, hbd⟩
 have HBD := Lib.hid (HBC.out.trans (hbd.mono HBC.out.size))
 have HT2 := Lib.hid hT2
 have HM2 := Lib.hid hM2
 have F2 := Lib.hid (show ((∀ x ∈ T1, x ∈ T2) ∧ (∀ x ∈ M1, x ∈ M2)) ∧ (∀ x ∈ T2, x.length = 32) ∧ (∀ x ∈ M2, x.length = 32) from
  ⟨⟨fun x hx => (hx2 x).1.2 ⟨Gr.rch_more (fun y hy => List.mem_append.2 (.inl hy)) (fun _ _ h => h) ((F1.out.2.1 x).1.1 hx).1, ((F1.out.2.1 x).1.1 hx).2⟩,
   fun x hx => (hx2 x).2.2 ⟨Gr.rch_more (fun y hy => List.mem_append.2 (.inl hy)) (fun _ _ h => h) ((F1.out.2.1 x).2.1 hx).1, ((F1.out.2.1 x).2.1 hx).2⟩⟩, lT2, lM2⟩)
 have hT2n : T2.length ≤ 63 := nT2
 have hM2n : M2.length ≤ 6500 := nM2
 have HT1d := Lib.hid (show IdsAt wd tv1 T1 from RowsAt.below HT1.out hbd)
 have HM1d := Lib.hid (show IdsAt wd mv1 M1 from RowsAt.below HM1.out hbd)
 have HJd := Lib.hid (show IdsAt wd (.slice jo J.length jc) J from RowsAt.below HJ8.out HBD.out)
 clear hT2 hM2 uT2 uM2 hx2 lT2 lM2 nT2 nM2 hbd HE2 HALc HALl hALn HGc HBC HT1 HM1
 have HE3 := Lib.hid (HRE.out wd HBD.out _ (.slice none 0 0) J [] HJd.out HJL.out (by omega) (RowsAt.nil _ _) (fun x hx => by cases hx) (by simp))
 go_wp2_with fail
 with_reducible refine HE3.out.mono ?_
 rintro r we ⟨tv3, mv3, T3, M3, rfl, hT3, hM3, uT3, uM3, hx3, lT3, lM3, nT3, nM3, hbe⟩
 have HBE := Lib.hid (HBD.out.trans (hbe.mono HBD.out.size))
 have HT3 := Lib.hid hT3
 have HM3 := Lib.hid hM3
 have F3 := Lib.hid (show ((∀ x ∈ T1, x ∈ T3) ∧ (∀ x ∈ M1, x ∈ M3)) ∧ (∀ x ∈ T3, x.length = 32) ∧ (∀ x ∈ M3, x.length = 32) from
  ⟨⟨fun x hx => (hx3 x).1.2 ⟨Gr.rch_more (fun y hy => hy) (fun _ _ h => Gr.nx_nil h) ((F1.out.2.1 x).1.1 hx).1, ((F1.out.2.1 x).1.1 hx).2⟩,
   fun x hx => (hx3 x).2.2 ⟨Gr.rch_more (fun y hy => hy) (fun _ _ h => Gr.nx_nil h) ((F1.out.2.1 x).2.1 hx).1, ((F1.out.2.1 x).2.1 hx).2⟩⟩, lT3, lM3⟩)
 have hT3n : T3.length ≤ 63 := nT3
 have hM3n : M3.length ≤ 6500 := nM3
 have HT1e := Lib.hid (show IdsAt we tv1 T1 from RowsAt.below HT1d.out hbe)
 have HM1e := Lib.hid (show IdsAt we mv1 M1 from RowsAt.below HM1d.out hbe)
 have HT2e := Lib.hid (show IdsAt we tv2 T2 from RowsAt.below HT2.out hbe)
 have HM2e := Lib.hid (show IdsAt we mv2 M2 from RowsAt.below HM2.out hbe)
 have HO0 := Lib.hid (own_bs0 we we.heap.size (Nat.le_refl _))
 have HN0 := Lib.hid (below_new we (.cells #[] 42))
 have HTn := Lib.hid (show IdsAt (we.alloc (.cells #[] 42)) tv1 T1 from RowsAt.below HT1e.out HN0.out)
 have hze : we.heap.size ≤ (we.alloc (.cells #[] 42)).heap.size := by simp
 have hF1T : ∀ i ∈ T1, i.length = 32 := F1.out.2.2.1
 have hF1M : ∀ i ∈ M1, i.length = 32 := F1.out.2.2.2
 have HF1T := Lib.hid hF1T
 have HF1M := Lib.hid hF1M
 clear hT3 hM3 uT3 uM3 hx3 lT3 lM3 nT3 nM3 hbe HE3 HJd HBD HT1d HM1d HT2 HM2 hF1T hF1M
 have HM0 := Lib.hid (show IdsAt (we.alloc (.cells #[] 42)) mv1 M1 from RowsAt.below HM1e.out HN0.out)
 have HGe := Lib.hid (show IdsAt (we.alloc (.cells #[] 42)) (.slice go_ G.length gc) G from RowsAt.below (RowsAt.below HG8.out HBE.out) HN0.out)
 have h1 : ([] : List (List UInt8)).length + T1.length ≤ 100000 := by simp; omega
 have h2 : ([] ++ T1 : List (List UInt8)).length + M1.length ≤ 100000 := by simp; omega
 go_wp2_with (first
  | ((with_reducible refine apI_at (.tmp 85) (.tmp 86) ?_ ?_ ?_ ?_ HO0.out HTn.out HF1T.out hze h1 (fun vf wf HOf HBf => ?_)); rfl; rfl; rfl; rfl; have HMf := Lib.hid (show IdsAt wf mv1 M1 from RowsAt.below HM1e.out (HN0.out.trans HBf.out)); have hzf : we.heap.size ≤ wf.heap.size := (HN0.out.trans HBf.out).size; clear HTn HM0)
  | ((with_reducible refine apI_at (.tmp 87) (.tmp 88) ?_ ?_ ?_ ?_ HOf.out HMf.out HF1M.out hzf h2 (fun vg wg HOg HBg => ?_)); rfl; rfl; rfl; rfl))
 have HBG := Lib.hid (HBE.out.trans (((HN0.out.trans HBf.out).trans HBg.out).mono HBE.out.size))
 have HBG2 := Lib.hid ((HN0.out.trans HBf.out).trans HBg.out)
 have HSG := Lib.hid (show IdsAt wg vg (T1 ++ M1) from by have := HOg.out.rows; simpa using this)
 have HSGl := Lib.hid (show ∀ i ∈ T1 ++ M1, i.length = 32 from fun i hi => by
  rcases List.mem_append.1 hi with e | e
  · exact HF1T.out i e
  · exact HF1M.out i e)
 have hSGn : (T1 ++ M1).length ≤ 2000 := by simp; omega
 have HGg := Lib.hid (show IdsAt wg (.slice go_ G.length gc) G from RowsAt.below HG8.out HBG.out)
 clear HOf HOg HBf HBg HMf HO0 HN0 hze hzf HGe h1 h2
 have HE4 := Lib.hid (HRE.out wg HBG.out _ _ (T1 ++ M1) G HSG.out HSGl.out hSGn HGg.out HGL.out (by omega))
 go_wp2_with fail
 with_reducible refine HE4.out.mono ?_
 rintro r wh ⟨tv4, mv4, T4, M4, rfl, hT4, hM4, uT4, uM4, hx4, lT4, lM4, nT4, nM4, hbh⟩
 have HBH := Lib.hid (HBG.out.trans (hbh.mono HBG.out.size))
 have HGH := Lib.hid (show Below we.heap.size we wh from HBG2.out.trans (hbh.mono HBG2.out.size))
 have e4 : T4 = T1 := Gr.up_eq uT4 F1.out.1.1 (fun x => by
  rw [(hx4 x).1, (F1.out.2.1 x).1]
  refine ⟨fun k => ⟨Gr.rch_cl (fun y hy => ?_) k.1, k.2⟩, fun k => ⟨Gr.rch_more (fun y hy => ?_) (fun _ _ h => h) k.1, k.2⟩⟩
  ·
   rcases List.mem_append.1 hy with e | e
   · exact ((F1.out.2.1 y).1.1 e).1
   · exact ((F1.out.2.1 y).2.1 e).1
  ·
   refine List.mem_append.2 ?_
   cases hh : St.has L y with
   | true => exact .inl ((F1.out.2.1 y).1.2 ⟨.base hy, hh⟩)
   | false => exact .inr ((F1.out.2.1 y).2.2 ⟨.base hy, hh⟩))
 subst e4
 have HT4 := Lib.hid hT4
 clear hT4 hM4 uT4 uM4 hx4 lT4 lM4 nT4 nM4 hbh HE4 HSG HSGl HGg HRE HBG HBG2
 have hzh := HBH.out.size
 have QT1 := Lib.hid (show IdsAt wh tv1 T4 from RowsAt.below HT1e.out HGH.out)
 have QM1 := Lib.hid (show IdsAt wh mv1 M1 from RowsAt.below HM1e.out HGH.out)
 have QT2 := Lib.hid (show IdsAt wh tv2 T2 from RowsAt.below HT2e.out HGH.out)
 have QM2 := Lib.hid (show IdsAt wh mv2 M2 from RowsAt.below HM2e.out HGH.out)
 have QT3 := Lib.hid (show IdsAt wh tv3 T3 from RowsAt.below HT3.out HGH.out)
 have QM3 := Lib.hid (show IdsAt wh mv3 M3 from RowsAt.below HM3.out HGH.out)
 have QQ1 := Lib.hid (within_any wh tv1 tv2 T4 T2 QT1.out HF1T.out QT2.out F2.out.2.1 (by omega) (by omega) F2.out.1.1)
 have QQ2 := Lib.hid (fun W (hb : Below wh.heap.size wh W) => within_any W mv1 mv2 M1 M2 (RowsAt.below QM1.out hb) HF1M.out (RowsAt.below QM2.out hb) F2.out.2.2 (by omega) (by omega) F2.out.1.2)
 have QQ3 := Lib.hid (fun W (hb : Below wh.heap.size wh W) => within_any W tv1 tv3 T4 T3 (RowsAt.below QT1.out hb) HF1T.out (RowsAt.below QT3.out hb) F3.out.2.1 (by omega) (by omega) F3.out.1.1)
 have QQ4 := Lib.hid (fun W (hb : Below wh.heap.size wh W) => within_any W mv1 mv3 M1 M3 (RowsAt.below QM1.out hb) HF1M.out (RowsAt.below QM3.out hb) F3.out.2.2 (by omega) (by omega) F3.out.1.2)
 have QQ5 := Lib.hid (fun W (hb : Below wh.heap.size wh W) => sameids2_any W tv4 tv1 T4 (RowsAt.below HT4.out hb) (RowsAt.below QT1.out hb) HF1T.out (by omega))
 have QQ6 := Lib.hid (fun W (hb : Below wh.heap.size wh W) => walk_own W b b v' (.slice jo J.length jc) (.slice go_ G.length gc) L J G (HW8.out.below (HBH.out.trans (hb.mono hzh))).pst (dst_dec HW8.out.dst) (RowsAt.below HJ8.out (HBH.out.trans (hb.mono hzh))) HJL.out (by omega) (RowsAt.below HG8.out (HBH.out.trans (hb.mono hzh))) HGL.out (by omega))
 have QQ7 := Lib.hid (fun W (hb : Below wh.heap.size wh W) => rise_any W tv1 T4 (RowsAt.below QT1.out hb) HF1T.out (by omega) F1.out.1.1)
 have QQ8 := Lib.hid (fun W (hb : Below wh.heap.size wh W) => rise_any W mv1 M1 (RowsAt.below QM1.out hb) HF1M.out (by omega) F1.out.1.2)
 have QQ9 := Lib.hid (fun W (hb : Below wh.heap.size wh W) (rv : Value) (A : List (List UInt8)) (hA : IdsAt W rv A) (hAl : ∀ i ∈ A, i.length = 32) (hAn : A.length ≤ 63) (hs : ∀ x ∈ A, x ∈ T4) => within_any W rv tv1 A T4 hA hAl (RowsAt.below QT1.out hb) HF1T.out (by omega) (by omega) hs)
 clear QT1 QM1 QT2 QM2 QT3 QM3 HT1e HM1e HT2e HM2e HT3 HM3 HT4 HBE HGH
 go_wp2_with fail
 with_reducible refine QQ1.out.mono ?_
 rintro r wi ⟨rfl, hbi⟩
 have HBi := Lib.hid hbi
 clear hbi QQ1
 go_wp2_with fail
 with_reducible refine (QQ2.out _ HBi.out).mono ?_
 rintro r wj ⟨rfl, hbj⟩
 have HBj := Lib.hid (HBi.out.trans (hbj.mono HBi.out.size))
 clear hbj QQ2 HBi
 go_wp2_with fail
 with_reducible refine (QQ3.out _ HBj.out).mono ?_
 rintro r wk ⟨rfl, hbk⟩
 have HBk := Lib.hid (HBj.out.trans (hbk.mono HBj.out.size))
 clear hbk QQ3 HBj
 go_wp2_with fail
 with_reducible refine (QQ4.out _ HBk.out).mono ?_
 rintro r wl ⟨rfl, hbl⟩
 have HBl := Lib.hid (HBk.out.trans (hbl.mono HBk.out.size))
 clear hbl QQ4 HBk
 go_wp2_with fail
 with_reducible refine (QQ5.out _ HBl.out).mono ?_
 rintro r wm ⟨rfl, hbm⟩
 have HBm := Lib.hid (HBl.out.trans (hbm.mono HBl.out.size))
 clear hbm QQ5 HBl
 go_wp2_with fail
 with_reducible refine (QQ6.out _ HBm.out).mono ?_
 rintro r wn ⟨rv, R, rfl, hRo, hRn, hWk, hbn⟩
 have hR : IdsAt wn rv R := hRo.rows
 have hRl := hRo.len
 obtain ⟨ro, rc, rfl⟩ : ∃ ao cap, rv = .slice ao R.length cap := by simpa using RowsAt.form hR
 have hcap : R.length ≤ rc := by
  rcases hRo.own.2 with ⟨e, h0⟩ | ⟨g, c, cur, hv, _, _, h1, _⟩
  · omega
  ·
   simp only [Value.slice.injEq] at hv
   obtain ⟨_, _, rfl⟩ := hv
   exact h1
 have HBn := Lib.hid (HBm.out.trans (hbn.mono HBm.out.size))
 have HWM := Lib.hid (Gr.walk_more hWk)
 have HR := Lib.hid hR
 have HRL := Lib.hid hRl
 have QQ10 := Lib.hid (fun W (hb : Below wn.heap.size wn W) => QQ9.out W (HBn.out.trans (hb.mono HBn.out.size)) (.slice ro R.length rc) R (RowsAt.below HR.out hb) HRL.out hRn (fun x hx => (F1.out.2.1 x).1.2 (HWM.out.2.1 x hx)))
 clear hbn QQ6 HBm hR hRl hRo hWk QQ9
 go_wp2_with fail
 with_reducible refine (QQ7.out _ HBn.out).mono ?_
 rintro r wo ⟨rfl, hbo⟩
 have HBo := Lib.hid (HBn.out.trans (hbo.mono HBn.out.size))
 have HCo := Lib.hid hbo
 clear hbo QQ7
 go_wp2_with fail
 with_reducible refine (QQ8.out _ HBo.out).mono ?_
 rintro r wp ⟨rfl, hbp⟩
 have HCp := Lib.hid (HCo.out.trans (hbp.mono HCo.out.size))
 clear hbp QQ8 HCo HBo
 go_wp2_with fail
 with_reducible refine (QQ10.out _ HCp.out).mono ?_
 rintro r wq ⟨rfl, hbq⟩
 have HCq := Lib.hid (HCp.out.trans (hbq.mono HCp.out.size))
 have HBq := Lib.hid (show Below w8.heap.size w8 wq from HBH.out.trans ((HBn.out.trans (HCq.out.mono HBn.out.size)).mono hzh))
 have HRq := Lib.hid (show IdsAt wq (.slice ro R.length rc) R from RowsAt.below HR.out HCq.out)
 have HWq := Lib.hid (HW8.out.below HBq.out)
 have HJq := Lib.hid (show IdsAt wq (.slice jo J.length jc) J from RowsAt.below HJ8.out HBq.out)
 clear hbq QQ10 HCp HCq HBn HR HBq HW8 HJ8 HBH hzh
 have QOB := Lib.hid (fun W (hb : Below wq.heap.size wq W) (id : List UInt8) (hid : id.length = 32) => Go.Proofs.YtfckfjndnhjpoaaGreatDoor.R.refobject_old B kk wq W (.slice mo L.length mc) L id HWq.out.dst hb hid)
 have QEN := Lib.hid (fun W (hb : Below wq.heap.size wq W) => Go.Proofs.YtfckfjndnhjpoaaGreatDoor.R.refends_any B kk W (.slice mo L.length mc) (.slice jo J.length jc) L J (HWq.out.below hb).dst (RowsAt.below HJq.out hb) HJL.out (by omega))
 have QPF := Lib.hid (Go.Proofs.YtfckfjndnhjpoaaGreatDoor.R.obz_few HWq.out.dst)
 have QMW := Lib.hid (show ∀ W', Below wq.heap.size wq W' → W'.cell? ⟨w3.heap.size, 0, none⟩ = some (.slice mo L.length mc) from fun W' hb => (HWq.out.below hb).m0)
 have QS0 := Lib.hid (show ∀ x ∈ Wk.nw (Gr.cm L) [] (Gr.eds L J), x.length = 32 from fun x hx => by
  obtain ⟨r, hr, he⟩ := St.has_at HWq.out.dst.srt (Gr.cm_has (Wk.nw_cm _ _ _ x hx))
  rw [← he]; exact HWq.out.dst.len _ (List.mem_of_getElem? hr))
 go_wp2_with fail
 go_loopw [23] (fun i wr => ∃ (k : Nat), k ≤ R.length ∧ i = .int .i64 k ∧ Hid (Below wq.heap.size wq wr)) (fun i _ => R.length - (intOf i).toNat)
 case atStart => exact ⟨0, by omega, rfl, Below.refl _ _⟩
 case round =>
  obtain ⟨wr2, hwr2⟩ : ∃ W, W = wr := ⟨_, rfl⟩
  subst hwr2
  obtain ⟨k, hk, rfl, HB⟩ := hrel
  by_cases hlt : k < R.length
  ·
   have hlt' : (k : Int) < (R.length : Int) := by omega
   have hk0 : (0 : Int) ≤ (k : Int) := by omega
   have hkc : (k : Int) ≤ (rc : Int) := by omega
   obtain ⟨x, hx⟩ : ∃ x, R[k]? = some x := ⟨R[k], List.getElem?_eq_getElem hlt⟩
   have HXL := Lib.hid (HRL.out x (List.mem_of_getElem? hx))
   have HRr := Lib.hid (show IdsAt wr2 (.slice ro R.length rc) R from RowsAt.below HRq.out HB.out)
   obtain ⟨ra, hra, _, hc⟩ := HRr.out.elem k (idC x) (by simp [hx])
   subst hra
   have HC := Lib.hid (show ∀ j u, (idC x)[j]? = some u → wr2.drew.cell? ((ra.add (k * 32)).add j) = some u from hc)
   have HTK := Lib.hid (show IdsAt wr2.drew (.slice (some ra) k rc) (R.take k) from by
    have h0 : IdsAt wr2.drew (.slice (some ra) R.length rc) R := RowsAt.below HRr.out (below_drewed _)
    exact take_at2 h0 (by omega))
   have HIN := Lib.hid (in_any wr2.drew _ (R.take k) x HTK.out (fun i hi => HRL.out i (List.mem_of_mem_take hi)) HXL.out (by simp; omega))
   have hnot : x ∉ R.take k := fun hm => by
    obtain ⟨m, hm2⟩ := List.getElem?_of_mem hm
    rw [List.getElem?_take] at hm2
    split at hm2
    ·
     obtain ⟨l1, e1⟩ := List.getElem?_eq_some_iff.1 hm2
     obtain ⟨l2, e2⟩ := List.getElem?_eq_some_iff.1 hx
     exact List.pairwise_iff_getElem.1 HWM.out.1 m k l1 l2 (by omega) (by rw [e1, e2])
    · cases hm2
   rw [decide_eq_false hnot] at HIN
   have HOR := Lib.hid (HWM.out.2.2 k x hx)
   have HX := Lib.hid hx
   clear hc hnot hx
   go_wp2_with fail
   refine rgn_tail 7 (by kernel_rfl) (by kernel_rfl) ?_
   simp only [List.take_succ_cons, List.take_zero, List.drop_succ_cons, List.drop_zero]
   repeat still_step
   (with_reducible apply still_id (p := ra.add (k * 32)) (hc := HC.out) (hl := HXL.out))
   rfl
   rfl
   rfl
   refine wpStill_nil ?_
   go_wp2_with fail
   with_reducible refine HIN.out.mono ?_
   rintro r ws ⟨rfl, hbs⟩
   have HBs := Lib.hid (HB.out.trans (((below_drewed wr2).trans hbs).mono HB.out.size))
   clear hbs HIN HTK HC
   go_wp2_with fail
   have HBS := Lib.hid (QOB.out)
   go_loopw [25, 26] (fun cv jv wr => ∃ (j : Nat) (c : Bool), j ≤ k ∧ jv = .int .i64 j ∧ cv = .bool c ∧ Hid (c = true ↔ ∃ m y, m < j ∧ R[m]? = some y ∧ x ∈ Gr.prs L y) ∧ Hid (Below wq.heap.size wq wr)) (fun _ jv _ => k - (intOf jv).toNat)
   case atStart => exact ⟨0, false, by omega, rfl, rfl, (show false = true ↔ _ from ⟨fun h => (by cases h), fun ⟨m, _, hm, _⟩ => absurd hm (by omega)⟩), HBs.out⟩
   case round =>
    clear HBs HBS
    obtain ⟨wr3, hwr3⟩ : ∃ W, W = wr := ⟨_, rfl⟩
    subst hwr3
    obtain ⟨j, c, hj, rfl, rfl, HCC, HB3⟩ := hrel
    by_cases hjl : j < k
    ·
     have hjl' : (j : Int) < (k : Int) := by omega
     have hj0 : (0 : Int) ≤ (j : Int) := by omega
     have hjR : (j : Int) < (R.length : Int) := by omega
     obtain ⟨y, hy⟩ : ∃ y, R[j]? = some y := ⟨R[j], List.getElem?_eq_getElem (by omega)⟩
     have HYL := Lib.hid (HRL.out y (List.mem_of_getElem? hy))
     have HIZ := Lib.hid (idsize HYL.out)
     have HR3 := Lib.hid (show IdsAt wr3 (.slice (some ra) R.length rc) R from RowsAt.below HRq.out HB3.out)
     obtain ⟨ra', hra', _, hcy⟩ := HR3.out.elem j (idC y) (by simp [hy])
     obtain rfl : ra = ra' := Option.some.inj hra'
     have HRW := Lib.hid (show ∀ W' : World, (∀ g, g < wr3.heap.size → W'.heap[g]? = wr3.heap[g]?) → ∀ q u, (idC y)[q]? = some u → W'.cell? ((ra.add (j * 32)).add q) = some u from fun W' hw q u hu => by
      have h1 := hcy q u hu
      rw [World.cell?_of_block (w := wr3) (hw _ (World.block_lt_of_cell? _ _ h1))]; exact h1)
     have HMB := Lib.hid (show ∀ W' : World, (∀ g, g < wr3.heap.size → W'.heap[g]? = wr3.heap[g]?) → W'.cell? ⟨w3.heap.size, 0, none⟩ = some (.slice mo L.length mc) from fun W' hw => by
      have h1 := QMW.out wr3 HB3.out
      rw [World.cell?_of_block (w := wr3) (hw _ (World.block_lt_of_cell? _ _ h1))]; exact h1)
     have HYR := Lib.hid hy
     have HBD := Lib.hid HB3.out.drew
     have hz28 := (zero_of_info zero28).1
     have HS0 := Lib.hid noF.size
     generalize (obC noOb nilV nilV).toArray = z at hz28 HS0
     clear hcy hra' hy HR3
     go_upto_region 28 with (fail)
     go_cut [27] from 160 to 165 (fun ov wx => ∃ g cs ao bo ca cb, ov = .pointer (some ⟨g, 0, none⟩) ∧ Hid (wx.heap[g]? = some (.cells cs 54)) ∧ Hid (ObAt wq cs (Gr.obz L y) ao bo ca cb) ∧ Hid (Below wr3.heap.size wr3 wx))
     case first =>
      refine wp_region_noPanic ?_
      refine wp_region_held_drew (S := (fun w' => ∀ g, g < wr3.heap.size → w'.heap[g]? = wr3.heap[g]?)) (by kernel_rfl) (fun g _ => rfl) (fun hH => ?_)
      refine tk (i := 0) (v := ?_) ?_ ?_
      rotate_left
      · intro w' hSw; have q0 := HMB.out _ hSw; go_simp; try rfl
      try simp only [q0]
      refine tk (i := 1) (v := ?_) ?_ ?_
      rotate_left
      · intro w' hSw; go_simp; try rfl
      try simp only [q0]
      refine tk (i := 2) (v := ?_) ?_ ?_
      rotate_left
      · intro w' hSw; go_simp; try rfl
      try simp only [q0]
      refine tk (i := 3) (v := ?_) ?_ ?_
      rotate_left
      · intro w' hSw; go_simp; try rfl
      try simp only [q0]
      refine wpAnyH_take (i := 4) rfl (by kernel_rfl) (by kernel_rfl) (by kernel_rfl) (fun _ _ _ h => h) (yields_at (p := ra.add (j * 32)) (cs := idC y) (by rfl) rfl rfl (fun w' hw' => HRW.out w' hw') Tryz.underlying42 rfl HIZ.out) (by assumption) ?_
      try simp only [q0]
      refine wpAnyH_ready (rs := [5, 6]) (by kernel_rfl) (by simp) ?_
      refine AllReadyH.cons rfl (fun K hK => ?_) (AllReadyH.cons rfl (fun K hK => ?_) AllReadyH.nil)
      ·
       go_simp
       with_reducible refine (QOB.out _ HBD.out y HYL.out).mono ?_
       rintro r w5 ⟨cs, ao, bo, ca, cb, rfl, hO, hb5⟩
       have HB5 := Lib.hid (show Below wr3.heap.size wr3 w5 from (Below.refl wr3.heap.size wr3).drew.trans hb5)
       have hz5 : wr3.heap.size ≤ w5.heap.size := HB5.out.size
       have HO := Lib.hid hO
       clear hb5 hO
       go_wp2_with fail
       refine hK.out _ _ (fun g hg => HB5.out.block g hg) (fun _ => ?_)
       clear hK K
       try simp only [q0]
       refine wpAnyH_ready (rs := [6]) (by kernel_rfl) (by simp) ?_
       refine AllReadyH.cons rfl (fun K hK => ?_) AllReadyH.nil
       go_simp
       refine hK.out _ _ (fun g hg => (heap_alloc_old _ _ (by omega)).trans (HB5.out.block g hg)) (fun _ => ?_)
       clear hK K
       try simp only [q0]
       have HN6 := Lib.hid (heap_alloc_last w5 (.cells z 54))
       refine wpAnyH_ready (rs := [7]) (by kernel_rfl) (by simp) ?_
       refine AllReadyH.cons rfl (fun K hK => ?_) AllReadyH.nil
       rw [if_pos (by rfl)]
       refine wp_store_row 54 (.tmp 27) (.tmp 165) rfl w5.heap.size cs rfl rfl 54 _ HN6.out (obsize HO.out.F.size) (by rw [HS0.out, HO.out.F.size]) HO.out.F.one ?_
       refine hK.out _ _ (fun g hg => (setRow_other _ _ _ _ (by omega)).trans ((heap_alloc_old _ _ (by omega)).trans (HB5.out.block g hg))) (fun _ => ?_)
       clear hK K
       try simp only [q0]
       refine wpAnyH_done (by kernel_rfl) ?_ _
       refine NoPanic.normal ?_
       go_wp2_with fail
       go_meet
       case rel => exact ⟨w5.heap.size, cs, ao, bo, ca, cb, rfl, setRow_heap _ _ _ _ _ _ HN6.out, HO.out, below_setRow (HB5.out.alloc hz5 _) hz5 _⟩
      ·
       go_simp
       refine hK.out _ _ (fun g hg => heap_alloc_old _ _ hg) (fun _ => ?_)
       clear hK K
       try simp only [q0]
       have HB4 := Lib.hid (show Below wr3.heap.size wr3 (wr3.alloc (.cells z 54)).drew from ((Below.refl _ _).alloc (Nat.le_refl _) _).drew)
       have HB4W := Lib.hid (HB3.out.trans (HB4.out.mono HB3.out.size))
       refine wpAnyH_ready (rs := [5]) (by kernel_rfl) (by simp) ?_
       refine AllReadyH.cons rfl (fun K hK => ?_) AllReadyH.nil
       go_simp
       with_reducible refine (QOB.out _ HB4W.out y HYL.out).mono ?_
       rintro r w5 ⟨cs, ao, bo, ca, cb, rfl, hO, hb5⟩
       have HB5 := Lib.hid (show Below wr3.heap.size wr3 w5 from HB4.out.trans (hb5.mono (by simp)))
       have HN6 := Lib.hid (show w5.heap[wr3.heap.size]? = some (.cells z 54) from (hb5.block wr3.heap.size (by simp)).trans (heap_alloc_last wr3 (.cells z 54)))
       have HO := Lib.hid hO
       clear hb5 hO
       go_wp2_with fail
       refine hK.out _ _ (fun g hg => HB5.out.block g hg) (fun _ => ?_)
       clear hK K
       try simp only [q0]
       refine wpAnyH_ready (rs := [7]) (by kernel_rfl) (by simp) ?_
       refine AllReadyH.cons rfl (fun K hK => ?_) AllReadyH.nil
       rw [if_pos (by rfl)]
       refine wp_store_row 54 (.tmp 27) (.tmp 165) rfl wr3.heap.size cs rfl rfl 54 _ HN6.out (obsize HO.out.F.size) (by rw [HS0.out, HO.out.F.size]) HO.out.F.one ?_
       refine hK.out _ _ (fun g hg => (setRow_other _ _ _ _ (by omega)).trans (HB5.out.block g hg)) (fun _ => ?_)
       clear hK K
       try simp only [q0]
       refine wpAnyH_done (by kernel_rfl) ?_ _
       refine NoPanic.normal ?_
       go_wp2_with fail
       go_meet
       case rel => exact ⟨wr3.heap.size, cs, ao, bo, ca, cb, rfl, setRow_heap _ _ _ _ _ _ HN6.out, HO.out, below_setRow HB5.out (Nat.le_refl _) _⟩
     case rest =>
      obtain ⟨g, cs, ao, bo, ca, cb, rfl, HG, HO, HBX⟩ := hcut
      have HBC := Lib.hid (HB3.out.trans (HBX.out.mono HB3.out.size))
      have hw35 : wc.drew.cell? ⟨g, 35, none⟩ = some (.slice bo (Gr.obz L y).pars.length cb) := by
       show wc.cell? ⟨g, 35, none⟩ = _
       rw [cell_of_row _ _ 35 _ _ _ HG.out]; exact HO.out.F.c35
      have hpn := (QPF.out y).2.1
      have HPP := Lib.hid (show IdsAt wc.drew (.slice bo (Gr.obz L y).pars.length cb) (Gr.obz L y).pars from RowsAt.below HO.out.P HBC.out.drew)
      have HIN := Lib.hid (in_any wc.drew _ (Gr.obz L y).pars x HPP.out HO.out.pid HXL.out (by omega))
      have HCX := Lib.hid (show ∀ q u, (idC x)[q]? = some u → wc.drew.cell? ((ra.add (k * 32)).add q) = some u from by
       have h0 : IdsAt wc.drew (.slice (some ra) R.length rc) R := RowsAt.below HRq.out HBC.out.drew
       obtain ⟨ra', hra', _, hcx⟩ := h0.elem k (idC x) (by simp [HX.out])
       rw [Option.some.inj hra']; exact hcx)
      rw [Gr.prs_obz] at hw35 HIN
      clear HRW HMB HBD HO HG HPP hz28 HS0
      cases c with
      | true =>
        have HC2 := Lib.hid (par_step (d := true) HCC.out HYR.out (by simp))
        clear HCC HYR hw35 HIN HCX
        go_wp2_with fail
        refine rgn_tail 8 (by kernel_rfl) (by kernel_rfl) ?_
        simp only [List.take_succ_cons, List.take_zero, List.drop_succ_cons, List.drop_zero]
        still_step
        still_step
        (with_reducible refine stillg_skip ?_ ?_; kernel_rfl; try simp only [q0])
        (with_reducible refine stillg_skip ?_ ?_; kernel_rfl; try simp only [q0])
        (with_reducible refine stillg_skip ?_ ?_; kernel_rfl; try simp only [q0])
        (with_reducible refine stillg_skip ?_ ?_; kernel_rfl; try simp only [q0])
        (with_reducible refine stillg_skip ?_ ?_; kernel_rfl; try simp only [q0])
        (with_reducible refine stillg_skip ?_ ?_; kernel_rfl; try simp only [q0])
        refine wpStill_nil ?_
        go_wp2_with fail
        go_roundw
        case rel => exact ⟨j + 1, true, by omega, by go_num, rfl, (show true = true ↔ _ by have := HC2.out; simpa using this), HBC.out.drew⟩
        case measure => simp [intOf]; omega
      | false =>
        have HC2 := Lib.hid (par_step (d := decide (x ∈ Gr.prs L y)) HCC.out HYR.out (by simp))
        generalize decide (x ∈ Gr.prs L y) = d at *
        clear HCC HYR
        go_wp2_with fail
        refine rgn_tail 8 (by kernel_rfl) (by kernel_rfl) ?_
        simp only [List.take_succ_cons, List.take_zero, List.drop_succ_cons, List.drop_zero]
        still_step
        still_step
        (with_reducible refine stillg_take ?_ (fun K hK => ?_); kernel_rfl; go_simp; refine hK _ ?_; clear hK K)
        (with_reducible refine stillg_take ?_ (fun K hK => ?_); kernel_rfl; go_simp; refine hK _ ?_; clear hK K)
        (with_reducible refine stillg_take ?_ (fun K hK => ?_); kernel_rfl; go_simp; refine hK _ ?_; clear hK K)
        (with_reducible refine stillg_take ?_ (fun K hK => ?_); kernel_rfl; go_simp; refine hK _ ?_; clear hK K)
        (with_reducible refine stillg_take ?_ (fun K hK => ?_); kernel_rfl; go_simp; refine hK _ ?_; clear hK K)
        (with_reducible apply stillg_id (p := ra.add (k * 32)) (hc := HCX.out) (hl := HXL.out))
        kernel_rfl
        rfl
        rfl
        refine wpStill_nil ?_
        clear hw35
        go_wp2_with fail
        with_reducible refine HIN.out.mono ?_
        rintro r w6 ⟨rfl, hb6⟩
        have HB6 := Lib.hid (HBC.out.trans (((Below.refl wc.heap.size wc).drew.trans hb6).mono HBC.out.size))
        clear hb6 HIN HBC HCX
        go_wp2_with fail
        go_roundw
        case rel => exact ⟨j + 1, d, by omega, by go_num, rfl, HC2.out, HB6.out⟩
        case measure => simp [intOf]; omega
    ·
     have hjl' : ¬ (j : Int) < (k : Int) := by omega
     have hjk : j = k := by omega
     subst hjk
     have hor : c = true ∨ x ∈ Wk.nw (Gr.cm L) [] (Gr.eds L J) := by
      rcases HOR.out with e | ⟨m, y, h1, h2, h3⟩
      · exact .inr e
      · exact .inl (HCC.out.2 ⟨m, y, h1, h2, h3⟩)
     have HBD := Lib.hid HB3.out.drew
     have HMB := Lib.hid (show ∀ W' : World, Below wq.heap.size wq W' → W'.cell? ⟨w3.heap.size, 0, none⟩ = some (.slice mo L.length mc) from QMW.out)
     have HRW := Lib.hid (show ∀ W' : World, Below wq.heap.size wq W' → ∀ q u, (idC x)[q]? = some u → W'.cell? ((ra.add (j * 32)).add q) = some u from fun W' hb => by
      have h0 : IdsAt W' (.slice (some ra) R.length rc) R := RowsAt.below HRq.out hb
      obtain ⟨ra', hra', _, hcx⟩ := h0.elem j (idC x) (by simp [HX.out])
      rw [Option.some.inj hra']; exact hcx)
     have HIZ := Lib.hid (idsize HXL.out)
     have hen := Gr.nodup_len (Wk.nw_nodup (Gr.cm L) (Gr.eds L J) [] List.nodup_nil) (fun y hy => hy)
     have hSn : (Wk.nw (Gr.cm L) [] (Gr.eds L J)).length ≤ L.length := Gr.cm_few (by have := Wk.nw_nodup (Gr.cm L) (Gr.eds L J) [] List.nodup_nil; simpa using this) (Wk.nw_cm _ _ _)
     clear HCC HOR hen
     go_wp2_with fail
     refine wp_region_noPanic ?_
     refine wp_region_held_drew (S := (fun w' => Below wq.heap.size wq w')) (by kernel_rfl) (HB3.out.drew) (fun hH => ?_)
     refine tk (i := 0) (v := ?_) ?_ ?_
     rotate_left
     · intro w' hSw; have q0 := HMB.out _ hSw; go_simp; try rfl
     try simp only [q0]
     refine tk (i := 1) (v := ?_) ?_ ?_
     rotate_left
     · intro w' hSw; go_simp; try rfl
     try simp only [q0]
     refine tk (i := 3) (v := ?_) ?_ ?_
     rotate_left
     · intro w' hSw; go_simp; try rfl
     try simp only [q0]
     refine tk (i := 4) (v := ?_) ?_ ?_
     rotate_left
     · intro w' hSw; go_simp; try rfl
     try simp only [q0]
     refine tk (i := 5) (v := ?_) ?_ ?_
     rotate_left
     · intro w' hSw; go_simp; try rfl
     try simp only [q0]
     refine wpAnyH_take (i := 6) rfl (by kernel_rfl) (by kernel_rfl) (by kernel_rfl) (fun _ _ _ h => h) (yields_at (p := ra.add (j * 32)) (cs := idC x) (by rfl) rfl rfl (fun w' hw' => HRW.out w' hw') Tryz.underlying42 rfl HIZ.out) (by assumption) ?_
     try simp only [q0]
     refine wpAnyH_ready (rs := [2]) (by kernel_rfl) (by simp) ?_
     refine AllReadyH.cons rfl (fun K hK => ?_) AllReadyH.nil
     go_simp
     with_reducible refine (QEN.out _ HBD.out).mono ?_
     rintro r w5 ⟨ev, rfl, hE, hb5⟩
     have HB5 := Lib.hid (HBD.out.trans (hb5.mono HBD.out.size))
     have HIN := Lib.hid (in_any w5 ev _ x hE.rows hE.len HXL.out (by omega))
     clear hb5 hE
     go_wp2_with fail
     refine hK.out _ _ HB5.out (fun _ => ?_)
     clear hK K
     try simp only [q0]
     refine wpAnyH_ready (rs := [7]) (by kernel_rfl) (by simp) ?_
     refine AllReadyH.cons rfl (fun K hK => ?_) AllReadyH.nil
     go_simp
     with_reducible refine HIN.out.mono ?_
     rintro r w6 ⟨rfl, hb6⟩
     have HB6 := Lib.hid (HB5.out.trans (hb6.mono HB5.out.size))
     clear hb6 HIN
     go_wp2_with fail
     refine hK.out _ _ HB6.out (fun _ => ?_)
     clear hK K
     try simp only [q0]
     refine tk (i := 8) (v := ?_) ?_ ?_
     rotate_left
     · intro w' hSw; go_simp; try rfl
     try simp only [q0]
     refine wpAnyH_done (by kernel_rfl) ?_ _
     refine NoPanic.normal ?_
     have hor2 : c = true ∨ decide (x ∈ Wk.nw (Gr.cm L) [] (Gr.eds L J)) = true := hor.imp id (fun e => decide_eq_true e)
     generalize decide (x ∈ Wk.nw (Gr.cm L) [] (Gr.eds L J)) = d at *
     clear hor HRW HMB HBD HB5 hSn
     cases c with
     | true =>
       clear hor2
       go_wp2_with fail
       go_roundw
       case rel => exact ⟨j + 1, by omega, by go_num, HB6.out⟩
       case measure => simp [intOf]; omega
     | false =>
       have hd : d = true := by simpa using hor2
       subst hd
       clear hor2
       go_wp2_with fail
       go_roundw
       case rel => exact ⟨j + 1, by omega, by go_num, HB6.out⟩
       case measure => simp [intOf]; omega
  ·
   have hlt' : ¬ (k : Int) < (R.length : Int) := by omega
   have HLW := Lib.hid (HWq.out.below HB.out)
   have HKW := Lib.hid (HKN.out wr2 HLW.out.kin)
   clear QOB QEN QPF QMW QS0 HRq HWq HJq
   go_wp2_with fail
   with_reducible refine HKW.out.mono ?_
   rintro r w14 ⟨rfl, hb14⟩
   have HW14 := Lib.hid (HLW.out.below hb14)
   clear hb14 HKW
   go_wp2_with fail
   go_ret
   exact ⟨rfl, HW14.out.bel⟩
end Go.Proofs.YtfckfjndnhjpoaaGreatDoor
end
section
namespace Go.Proofs.YtfckfjndnhjpoaaGreatDoor
open Go.RowKit
theorem more_no (hKN : KnT) (w : World) (sv lo lf lc lm : Value) (S : List Sd) (O F C Mo : List UInt8) (h : SdsAt w sv S) (hl : S.length ≤ maxLen) (hO : ByAt w lo O) (hF : ByAt w lf F) (hC : ByAt w lc C) (hM : ByAt w lm Mo) (hk : S2.KIn w) (hn : ¬ (goodG S ∧ O.length ≤ 10 ∧ F.length ≤ 10 ∧ C.length ≤ 10)) :
  Calls Tryz.prog 5 #[.agg #[sv, lo, lf, lc], lm] w fun r w' => r = .returned (.bool true) ∧ Below w.heap.size w w' := by
 have HFE := Lib.hid (fun W (hb : Below w.heap.size w W) => lawfew_no W sv lo lf lc S O F C (h.below hb) hl (hO.below hb) (hF.below hb) (hC.below hb) hn)
 unfold FewN at HFE
 have HK := Lib.hid hk
 have HKN := Lib.hid hKN
 obtain ⟨ao, cap, rfl⟩ := h.form
 obtain ⟨oo, oc, rfl⟩ := hO.form
 obtain ⟨fo, fc, rfl⟩ := hF.form
 obtain ⟨co, cc, rfl⟩ := hC.form
 obtain ⟨qo, qc, rfl⟩ := hM.form
 have HB1 := Lib.hid (below_new w (.cells #[.slice ao S.length cap, .slice oo O.length oc, .slice fo F.length fc, .slice co C.length cc] 25))
 have HR1 := Lib.hid (row_news (heap_alloc_new w (.cells #[.slice ao S.length cap, .slice oo O.length oc, .slice fo F.length fc, .slice co C.length cc] 25)))
 clear h hO hF hC hM hn hk hKN
 go_enter Tryz.func5, Tryz.ntmps5
 go_wp2_with ((with_reducible refine ld_hi (c := [.slice ao S.length cap, .slice oo O.length oc, .slice fo F.length fc, .slice co C.length cc]) (x := .tmp 2) (p := ⟨w.heap.size, 0, none⟩) ?_ ?_ ?_ HR1.out ?_ ?_); rfl; rfl; rfl; rfl)
 refine (HFE.out _ HB1.out).mono ?_
 rintro r w3 ⟨rfl, hb3⟩
 have hb4 := hb3.alloc hb3.size (.cells #[.slice none 0 0] 28)
 have HB4 := Lib.hid (HB1.out.trans (hb4.mono HB1.out.size))
 have HKN4 := Lib.hid (HKN.out _ (HK.out.step HB4.out))
 clear hb3 hb4 HFE HKN
 go_wp2_with fail
 refine HKN4.out.mono ?_
 rintro r w5 ⟨rfl, hb5⟩
 have HB5 := Lib.hid (HB4.out.trans (hb5.mono HB4.out.size))
 clear hb5 HKN4
 go_wp2_with fail
 go_ret
 exact ⟨rfl, HB5.out⟩
theorem more_long (hKN : KnT) (w : World) (sv lo lf lc lm : Value) (S : List Sd) (O F C Mo : List UInt8) (h : SdsAt w sv S) (hl : S.length ≤ maxLen) (hO : ByAt w lo O) (hF : ByAt w lf F) (hC : ByAt w lc C) (hM : ByAt w lm Mo) (hk : S2.KIn w) (hg : goodG S) (hOn : O.length ≤ 10) (hFn : F.length ≤ 10) (hCn : C.length ≤ 10) (hMn : 10 < Mo.length) :
  Calls Tryz.prog 5 #[.agg #[sv, lo, lf, lc], lm] w fun r w' => r = .returned (.bool true) ∧ Below w.heap.size w w' := by
 have HFE := Lib.hid (fun W (hb : Below w.heap.size w W) => lawfew_yes W sv lo lf lc S O F C (h.below hb) hl hg (hO.below hb) (hF.below hb) (hC.below hb) hOn hFn hCn)
 unfold FewY at HFE
 have HK := Lib.hid hk
 have HKN := Lib.hid hKN
 have hz24 := (zero_of_info zero24).1
 obtain ⟨ao, cap, rfl⟩ := h.form
 obtain ⟨oo, oc, rfl⟩ := hO.form
 obtain ⟨fo, fc, rfl⟩ := hF.form
 obtain ⟨co, cc, rfl⟩ := hC.form
 obtain ⟨qo, qc, rfl⟩ := hM.form
 have hmo : (10 : Int) < (Mo.length : Int) := by omega
 have HB1 := Lib.hid (below_new w (.cells #[.slice ao S.length cap, .slice oo O.length oc, .slice fo F.length fc, .slice co C.length cc] 25))
 have HH1 := Lib.hid (heap_alloc_new w (.cells #[.slice ao S.length cap, .slice oo O.length oc, .slice fo F.length fc, .slice co C.length cc] 25))
 have HR1 := Lib.hid (row_news HH1.out)
 have hz1 : (w.alloc (.cells #[.slice ao S.length cap, .slice oo O.length oc, .slice fo F.length fc, .slice co C.length cc] 25)).heap.size = w.heap.size + 1 := by simp
 clear h hO hF hC hM hk hKN hg
 go_enter Tryz.func5, Tryz.ntmps5
 go_wp2_with ((with_reducible refine ld_hi (c := [.slice ao S.length cap, .slice oo O.length oc, .slice fo F.length fc, .slice co C.length cc]) (x := .tmp 2) (p := ⟨w.heap.size, 0, none⟩) ?_ ?_ ?_ HR1.out ?_ ?_); rfl; rfl; rfl; rfl)
 refine (HFE.out _ HB1.out).mono ?_
 rintro r w3 ⟨mv, L, B, kk, rfl, hD, hL, hb3⟩
 obtain ⟨mo, mc, rfl⟩ := hD.form
 have hb4 := hb3.alloc hb3.size (.cells #[.slice mo L.length mc] 28)
 have HB4 := Lib.hid (HB1.out.trans (hb4.mono HB1.out.size))
 have HH4 := Lib.hid ((hb4.block w.heap.size (by omega)).trans HH1.out)
 have HM4 := Lib.hid (heap_alloc_new w3 (.cells #[.slice mo L.length mc] 28))
 have HD4 := Lib.hid (hD.below (below_new w3 (.cells #[.slice mo L.length mc] 28)))
 have HK4 := Lib.hid (HK.out.step HB4.out)
 have HKN4 := Lib.hid (HKN.out _ HK4.out)
 clear hb3 hb4 HFE HKN hD HB1 HH1 HR1 HK HH4 HM4 HD4
 go_wp2_with fail
 refine HKN4.out.mono ?_
 rintro r w5 ⟨rfl, hb5⟩
 have HB5 := Lib.hid (HB4.out.trans (hb5.mono HB4.out.size))
 clear hb5 HKN4
 go_wp2_with fail
 go_ret
 exact ⟨rfl, HB5.out⟩
theorem more_law (w : World) (sv lo lf lc lm : Value) (S : List Sd) (O F C Mo : List UInt8) (h : SdsAt w sv S) (hl : S.length ≤ maxLen) (hO : ByAt w lo O) (hF : ByAt w lf F) (hC : ByAt w lc C) (hM : ByAt w lm Mo) (hk : S2.KIn w) :
  Calls Tryz.prog 5 #[.agg #[sv, lo, lf, lc], lm] w fun r w' => r = .returned (.bool true) ∧ Below w.heap.size w w' := by
 by_cases hg : goodG S ∧ O.length ≤ 10 ∧ F.length ≤ 10 ∧ C.length ≤ 10
 ·
  by_cases hm : Mo.length ≤ 10
  · exact more_yes knows_kn w sv lo lf lc lm S O F C Mo h hl hO hF hC hM hk hg.1 hg.2.1 hg.2.2.1 hg.2.2.2 hm
  · exact more_long knows_kn w sv lo lf lc lm S O F C Mo h hl hO hF hC hM hk hg.1 hg.2.1 hg.2.2.1 hg.2.2.2 (by omega)
 · exact more_no knows_kn w sv lo lf lc lm S O F C Mo h hl hO hF hC hM hk hg
end Go.Proofs.YtfckfjndnhjpoaaGreatDoor
end
