/-
  WALKS OF LAYER 4: the document's own Links (knapsackref04.Links). WALKS OF LAYER 4: the document's own Links (knapsackre
-/
import Derived.Test.YtfckfjndnhjpoaaGreatDoorQd
import Derived.Test.YtfckfjndnhjpoaaGreatDoorQa
set_option linter.unusedVariables false
set_option linter.unusedSimpArgs false
set_option maxHeartbeats 8000000
set_option maxRecDepth 100000
section
namespace Go.Proofs.YtfckfjndnhjpoaaGreatDoor
open Go.RowKit
theorem yieldsIf_lk {ops : Array Oper} {S : World → Prop} {op : Oper} {a : Act} {x y : Operand} {l : List UInt8} {k : Int} (hw : Region.wanted op (yielded ops a.tmps) = true) (ho : op.op = .build 97 #[(0, x), (1, y)])
  (hx : a.eval x = .agg (idC l).toArray) (hy : a.eval y = .int .i64 k) (hl : l.length = 32) : YieldsIf Tryz.prog ops S op (.agg (lkC (l, k)).toArray) a :=
 .inl ⟨hw, fun W _ => by
  unfold execOp
  simp only [ho, List.map_toArray, List.map_cons, List.map_nil, hx, hy, Sem.run_bind, run_build W _ _ _ (built_lk l k hl), Result.andThen_ok, Sem.run_pure]⟩
theorem wp_bs_lk {op : Oper} {a : Act} {w : World} {K : Act → World → Prop} {Q : Exit → Act → World → Prop} {x : Operand} {l : List UInt8} {k : Int} (ho : op.op = .buildSlice 94 1 #[(0, x)]) (hx : a.eval x = .agg (lkC (l, k)).toArray) (hl : l.length = 32)
  (h : K (a.put op.dst (.slice (some ⟨w.heap.size, 0, none⟩) 1 1)) (w.alloc (.cells (lkC (l, k)).toArray 97))) : op.wp Tryz.prog a w K Q := by
 obtain ⟨ie, hie, hz, h1, _⟩ := info_parts infoLk
 have hf := builtS_lk l k hl
 unfold Program.builtSlice at hf
 simp only [hie, hz] at hf
 rw [if_neg (by rw [h1]; decide)] at hf
 exact wp_buildSlice 94 97 1 _ ho _ ie _ Tryz.underlying94 hie hz (by rw [h1]; decide) (by rw [h1]; decide) (by simp only [List.map_toArray, List.map_cons, List.map_nil, hx]; exact hf) h
theorem own_ne {W : World} {base b : Nat} {v : Value} {ls : List (List UInt8 × Int)} (h : OwnL W base v ls) (hb : b < base) : some b ≠ v.ownBlock := fun hc => by have := (World.ownsRow.lt h b hc.symm).1; omega
theorem reflinks_tree (cs : Array Value) (o : Ob) (ao bo : Option Addr) (ca cb : Nat) (w : World) (h : ObAt w cs o ao bo ca cb) (he : o.ents.length ≤ 100) (hk : o.kind = 2) :
  Calls Tryz.prog 118 #[.agg cs] w fun r w' => ∃ v, r = .returned v ∧ OwnL w' w.heap.size v (linksL o) ∧ Below w.heap.size w w' := by
 have HM := Lib.hid (show linksL o = o.ents.map (fun e => (e.id, e.kind)) by simp [linksL, hk])
 generalize linksL o = M at HM
 have C0 := Lib.hid (show cs[0]? = some (.int .i64 2) by rw [h.F.c0, hk])
 have c0 := C0.out
 have C2 := Lib.hid h.F.c2
 have HE := Lib.hid h.E
 have HD := Lib.hid h.eid
 have K0 := Kp.box w cs 54
 obtain ⟨i0, hi, hz0, hz1, hz2⟩ := info_parts infoLk
 clear h hk
 go_enter Tryz.func118, Tryz.ntmps118
 go_wp2
 go_loopw [3, 4] (fun v i wr => ∃ (k : Nat) (acc : List (List UInt8 × Int)), k ≤ o.ents.length ∧ i = .int .i64 k ∧ Hid (acc = (o.ents.take k).map fun e => (e.id, e.kind)) ∧ OwnL wr (w.heap.size + 1) v acc ∧ Kp w cs 54 wr) (fun _ i _ => o.ents.length - (intOf i).toNat)
 case atStart => exact ⟨0, [], by omega, rfl, rfl, World.ownsRow_nil _ _ _ _, K0⟩
 case round =>
  clear K0
  obtain ⟨k, acc, hk, rfl, HA, hown, K1⟩ := hrel
  have hal : acc.length ≤ 101 := by rw [HA.out, List.length_map, List.length_take]; omega
  have c2 := K1.cell C2.out
  by_cases hlt : k < o.ents.length
  ·
   have hlt' : (k : Int) < (o.ents.length : Int) := by omega
   have hk0 : (0 : Int) ≤ (k : Int) := by omega
   obtain ⟨e, he2⟩ : ∃ e, o.ents[k]? = some e := ⟨o.ents[k], List.getElem?_eq_getElem hlt⟩
   have HK := Lib.hid he2
   obtain ⟨a, rfl, hc⟩ := ent_cells (HE.out.below K1.below) k e he2
   have HL := Lib.hid (HD.out e (List.mem_of_getElem? he2))
   have hA1 := add_add_mid a (k * 34) 1 (by decide)
   have hA2 := add_add_mid a (k * 34) 2 (by decide)
   have e1 : wr.cell? ⟨a.block, a.off + k * 34 + 1, none⟩ = some (.int .i64 e.kind) := by rw [← hA1]; exact hc 1 _ rfl
   have e2 := en_range hc
   have l1 := World.block_lt_of_cell? wr _ e1
   clear he2 hc
   have lA : a.block < w.heap.size := by
    obtain ⟨a', e', h'⟩ := ent_cells HE.out k e HK.out
    cases e'
    have := World.block_lt_of_cell? w _ (h' 1 _ rfl)
    rwa [hA1] at this
   have S0 : wr.drew.cell? ⟨w.heap.size, 2, none⟩ = some (.slice (some a) o.ents.length ca) ∧ wr.drew.cell? ⟨a.block, a.off + k * 34 + 1, none⟩ = some (.int .i64 e.kind) ∧ wr.drew.rangeAt a.block (a.off + k * 34 + 2) (idC e.id) := ⟨c2, e1, e2⟩
   have u24 := Tryz.underlying42
   have i24 := idsize HL.out
   have hK1 := (Array.getElem?_eq_some_iff.1 K1.held).1
   go_wp2_with fail
   refine wp_region_noPanic ?_
   refine wp_region_held_drew (S := (fun W => W.cell? ⟨w.heap.size, 2, none⟩ = some (.slice (some a) o.ents.length ca) ∧ W.cell? ⟨a.block, a.off + k * 34 + 1, none⟩ = some (.int .i64 e.kind) ∧ W.rangeAt a.block (a.off + k * 34 + 2) (idC e.id))) (by kernel_rfl) S0 (fun hHeld0 => ?_)
   refine tk (i := 0) (v := ?_) ?_ ?_
   rotate_left
   · intro W hS; go_simp; try rfl
   try simp only [q0]
   refine tk (i := 1) (v := ?_) ?_ ?_
   rotate_left
   · intro W hS; go_simp; try rfl
   try simp only [q0]
   refine tk (i := 2) (v := ?_) ?_ ?_
   rotate_left
   · intro W hS; go_simp; try rfl
   try simp only [q0]
   refine tk (i := 3) (v := ?_) ?_ ?_
   rotate_left
   · intro W hS; go_simp; try rfl
   try simp only [q0]
   refine tk (i := 4) (v := ?_) ?_ ?_
   rotate_left
   · intro W hS; go_simp; try rfl
   try simp only [q0]
   refine tk (i := 5) (v := ?_) ?_ ?_
   rotate_left
   · intro W hS; go_simp; try rfl
   try simp only [q0]
   refine wpAnyH_take (i := 6) rfl (by kernel_rfl) (by kernel_rfl) (by kernel_rfl) (fun _ _ _ h => h) (yieldsIf_load_mid (by rfl) _ _ rfl _ _ rfl _ _ (fun W h => h.2.2) u24 rfl i24) (by assumption) ?_
   try simp only [q0]
   refine tk (i := 7) (v := ?_) ?_ ?_
   rotate_left
   · intro W hS; go_simp; try rfl
   try simp only [q0]
   refine tk (i := 8) (v := ?_) ?_ ?_
   rotate_left
   · intro W hS; go_simp; try rfl
   try simp only [q0]
   refine tk (i := 9) (v := ?_) ?_ ?_
   rotate_left
   · intro W hS; go_simp; try rfl
   try simp only [q0]
   refine tk (i := 10) (v := ?_) ?_ ?_
   rotate_left
   · intro W hS; go_simp; try rfl
   try simp only [q0]
   refine tk (i := 11) (v := ?_) ?_ ?_
   rotate_left
   · intro W hS; go_simp; try rfl
   try simp only [q0]
   refine tk (i := 12) (v := ?_) ?_ ?_
   rotate_left
   · intro W hS; go_simp; try rfl
   try simp only [q0]
   refine wpAnyH_take (i := 13) rfl (by kernel_rfl) (by kernel_rfl) (by kernel_rfl) (fun _ _ _ h => h) (yieldsIf_lk (by rfl) rfl rfl rfl HL.out) (by assumption) ?_
   try simp only [q0]
   refine wpAnyH_ready (rs := [14]) (by kernel_rfl) (by simp) ?_
   refine AllReadyH.cons rfl (fun K hK => ?_) AllReadyH.nil
   rw [if_pos (by rfl)]
   refine wp_bs_lk rfl rfl HL.out ?_
   refine hK.out _ _ ⟨(World.cell?_alloc_lt wr.drew _ ⟨w.heap.size, 2, none⟩ hK1).trans hHeld0.1, (World.cell?_alloc_lt wr.drew _ ⟨a.block, a.off + k * 34 + 1, none⟩ l1).trans hHeld0.2.1, fun j v hv => (World.cell?_alloc_lt wr.drew _ ⟨a.block, a.off + k * 34 + 2 + j, none⟩ l1).trans (hHeld0.2.2 j v hv)⟩ (fun hHeld1 => ?_)
   clear hK K
   try simp only [q0]
   refine wpAnyH_ready (rs := [15]) (by kernel_rfl) (by simp) ?_
   refine AllReadyH.cons rfl (fun K hK => ?_) AllReadyH.nil
   rw [if_pos (by rfl)]
   refine wp_append_own _ _ _ 94 rfl (w.heap.size + 1) 97 i0 (.agg (lkC (zId, 0)).toArray) 33 40 Tryz.underlying94 hi hz0 hz1 hz2 (by decide) (by decide) _ _ _ rfl (World.ownsRow.alloc (w := wr.drew) hown _) ⟨_, 0, none⟩ 1 1 (lkC (e.id, e.kind)) rfl (by rw [lkC_length]; exact congrArg (· + 1) HL.out) (news_row (heap_alloc_last _ _)) (lkC_one _) (by unfold maxLen; omega) (by omega) (by have := K1.below.size; simp; omega) ?_
   intro v' w1 hown' hgrow _
   have hne := fun (b : Nat) (hb' : b ≤ w.heap.size) => own_ne hown (Nat.lt_succ_of_le hb')
   refine hK.out _ _ ⟨hgrow.cell hHeld1.1 (hne _ (Nat.le_refl _)), hgrow.cell hHeld1.2.1 (hne _ (Nat.le_of_lt lA)), fun j v hv => hgrow.cell (hHeld1.2.2 j v hv) (hne _ (Nat.le_of_lt lA))⟩ (fun hHeld2 => ?_)
   clear hK K
   try simp only [q0]
   refine tk (i := 16) (v := ?_) ?_ ?_
   rotate_left
   · intro W hS; go_simp; try rfl
   try simp only [q0]
   refine wpAnyH_done (by kernel_rfl) ?_ _
   refine NoPanic.normal ?_
   have K2 : Kp w cs 54 w1 := ⟨((K1.below.drew.alloc K1.below.size _).grown hgrow (by have := K1.below.size; simp; omega) (fun q hq => Nat.le_of_succ_le ((World.ownsRow.lt hown q hq).1))), by rw [hgrow.block w.heap.size (by simp; omega) (hne _ (Nat.le_refl _))]; exact (Lib.alloc_old _ _ _ hK1).trans K1.held⟩
   have HO2 := Lib.hid (own_pushLk hown')
   have HA2 := Lib.hid (show acc ++ [(e.id, e.kind)] = (o.ents.take (k + 1)).map fun e => (e.id, e.kind) by rw [take_map_succ _ _ _ _ HK.out, HA.out])
   clear hown hgrow hown' hHeld0 hHeld1 hHeld2 S0 u24 i24
   go_wp2
   go_roundw
   case rel => exact ⟨k + 1, _, by omega, by go_num, HA2, HO2.out, K2⟩
   case measure => simp [intOf]; omega
  ·
   have HT := Lib.hid (show acc = M by rw [HA.out, HM.out, List.take_of_length_le (by omega)])
   rw [HT.out] at hown
   have c0' := K1.cell C0.out
   go_wp2
   go_ret
   exact ⟨_, rfl, own_le hown (by omega), K1.below⟩
end Go.Proofs.YtfckfjndnhjpoaaGreatDoor
end
section
namespace Go.Proofs.YtfckfjndnhjpoaaGreatDoor
open Go.RowKit
theorem reflinks_none (cs : Array Value) (o : Ob) (ao bo : Option Addr) (ca cb : Nat) (w : World) (h : ObAt w cs o ao bo ca cb) (n2 : o.kind ≠ 2) (n3 : o.kind ≠ 3) (n4 : o.kind ≠ 4) :
  Calls Tryz.prog 118 #[.agg cs] w fun r w' => ∃ v, r = .returned v ∧ OwnL w' w.heap.size v (linksL o) ∧ Below w.heap.size w w' := by
 have HM := Lib.hid (show linksL o = [] by simp [linksL, n2, n3, n4])
 generalize linksL o = M at HM
 have c0 := h.F.c0
 have m2 : (o.kind == 2) = false := beq_eq_false_iff_ne.2 n2
 have m3 : (o.kind == 3) = false := beq_eq_false_iff_ne.2 n3
 have m4 : (o.kind == 4) = false := beq_eq_false_iff_ne.2 n4
 clear h n2 n3 n4
 go_enter Tryz.func118, Tryz.ntmps118
 go_wp2
 go_ret
 exact ⟨_, rfl, by rw [HM.out]; exact World.ownsRow_nil _ _ _ _, (Below.refl _ _).alloc (Nat.le_refl _) _⟩
theorem reflinks_tag (cs : Array Value) (o : Ob) (ao bo : Option Addr) (ca cb : Nat) (w : World) (h : ObAt w cs o ao bo ca cb) (hk : o.kind = 4) :
  Calls Tryz.prog 118 #[.agg cs] w fun r w' => ∃ v, r = .returned v ∧ OwnL w' w.heap.size v (linksL o) ∧ Below w.heap.size w w' := by
 have HM := Lib.hid (show linksL o = [] ++ [(o.target, o.of)] by simp [linksL, hk])
 generalize linksL o = M at HM
 have c0 : cs[0]? = some (.int .i64 4) := by rw [h.F.c0, hk]
 have c70 := h.F.c70
 have HG := Lib.hid h.F.tal
 have RG := Lib.hid (h.F.rta (heap_alloc_last w (.cells cs 54)))
 have hB0 : Below w.heap.size w (w.alloc (.cells cs 54)) := (Below.refl _ _).alloc (Nat.le_refl _) _
 have hown : OwnL (w.alloc (.cells cs 54)) w.heap.size (.slice none 0 0) [] := World.ownsRow_nil _ _ _ _
 obtain ⟨i0, hi, hz0, hz1, hz2⟩ := info_parts infoLk
 clear h hk
 go_enter Tryz.func118, Tryz.ntmps118
 go_wp2_with (first
  | ((with_reducible refine ld_idm (x := .tmp 61) ?_ ?_ ?_ RG.out HG.out ?_); rfl; rfl; rfl)
  | ((with_reducible refine bd_lk (x := .tmp 62) (y := .tmp 64) (k := o.of) ?_ ?_ ?_ ?_ HG.out ?_); rfl; rfl; rfl; rfl)
  | ((with_reducible refine bs_lk (x := .tmp 65) (k := o.of) ?_ ?_ ?_ HG.out ?_); rfl; rfl; rfl)
  | (at_builtin; refine wpList_append_own _ rfl _ _ 94 rfl w.heap.size 97 i0 (.agg (lkC (zId, 0)).toArray) 33 40 Tryz.underlying94 hi hz0 hz1 hz2 (by decide) (by decide) _ _ _ rfl (World.ownsRow.alloc hown _) ⟨_, 0, none⟩ 1 1 (lkC (o.target, o.of)) rfl ?a1 ?a2 ?a3 ?a4 ?a5 ?a6 ?_))
 case a1 => rw [lkC_length]; exact congrArg (· + 1) HG.out
 case a2 => exact news_row (heap_alloc_last _ _)
 case a3 => exact lkC_one _
 case a4 => unfold maxLen; first | omega | (simp; done) | (simp; omega)
 case a5 => first | omega | (simp; done) | (simp; omega)
 case a6 => first | omega | (simp; done) | (simp; omega)
 intro v' w1 hown' hgrow _
 have hb' : Below w.heap.size w w1 := (hB0.alloc hB0.size _).grown hgrow (by have := hB0.size; simp; omega) (fun k hk => (World.ownsRow.lt hown k hk).1)
 have HO2 := Lib.hid (own_pushLk (ls := []) (l := (o.target, o.of)) hown')
 clear hgrow hown'
 go_wp2
 go_ret
 exact ⟨_, rfl, by rw [HM.out]; exact HO2.out, hb'⟩
theorem reflinks_commit (cs : Array Value) (o : Ob) (ao bo : Option Addr) (ca cb : Nat) (w : World) (h : ObAt w cs o ao bo ca cb) (hp : o.pars.length ≤ 100) (hk : o.kind = 3) :
  Calls Tryz.prog 118 #[.agg cs] w fun r w' => ∃ v, r = .returned v ∧ OwnL w' w.heap.size v (linksL o) ∧ Below w.heap.size w w' := by
 have HM := Lib.hid (show linksL o = (o.tree, 2) :: o.pars.map (fun p => (p, 3)) by simp [linksL, hk])
 generalize linksL o = M at HM
 have C0 := Lib.hid (show cs[0]? = some (.int .i64 3) by rw [h.F.c0, hk])
 have c0 := C0.out
 have C35 := Lib.hid h.F.c35
 have HP := Lib.hid h.P
 have HD := Lib.hid h.pid
 have HT := Lib.hid h.F.trl
 have RT := Lib.hid (h.F.rtr (heap_alloc_last w (.cells cs 54)))
 have K0 := Kp.box w cs 54
 have hown : OwnL (w.alloc (.cells cs 54)) (w.heap.size + 1) (.slice none 0 0) [] := World.ownsRow_nil _ _ _ _
 obtain ⟨i0, hi, hz0, hz1, hz2⟩ := info_parts infoLk
 clear h hk
 go_enter Tryz.func118, Tryz.ntmps118
 go_wp2_with (first
  | ((with_reducible refine ld_idm (x := .tmp 36) ?_ ?_ ?_ RT.out HT.out ?_); rfl; rfl; rfl)
  | ((with_reducible refine bd_lk (x := .tmp 37) (y := .const (.int .i64 2)) (k := 2) ?_ ?_ ?_ ?_ HT.out ?_); rfl; rfl; rfl; rfl)
  | ((with_reducible refine bs_lk (x := .tmp 38) (k := 2) ?_ ?_ ?_ HT.out ?_); rfl; rfl; rfl)
  | (at_builtin; refine wpList_append_own _ rfl _ _ 94 rfl (w.heap.size + 1) 97 i0 (.agg (lkC (zId, 0)).toArray) 33 40 Tryz.underlying94 hi hz0 hz1 hz2 (by decide) (by decide) _ _ _ rfl (World.ownsRow.alloc hown _) ⟨_, 0, none⟩ 1 1 (lkC (o.tree, 2)) rfl ?a1 ?a2 ?a3 ?a4 ?a5 ?a6 ?_))
 case a1 => rw [lkC_length]; exact congrArg (· + 1) HT.out
 case a2 => exact news_row (heap_alloc_last _ _)
 case a3 => exact lkC_one _
 case a4 => unfold maxLen; first | omega | (simp; done) | (simp; omega)
 case a5 => first | omega | (simp; done) | (simp; omega)
 case a6 => first | omega | (simp; done) | (simp; omega)
 intro v' w1 hown' hgrow _
 have hK1 := (Array.getElem?_eq_some_iff.1 K0.held).1
 have K1 : Kp w cs 54 w1 := ⟨((K0.below.alloc K0.below.size _).grown hgrow (by have := K0.below.size; simp; omega) (fun q hq => Nat.le_of_succ_le ((World.ownsRow.lt hown q hq).1))), by rw [hgrow.block w.heap.size (by simp; omega) (own_ne hown (by omega))]; exact (Lib.alloc_old _ _ _ hK1).trans K0.held⟩
 have HO2 := Lib.hid (own_pushLk (ls := []) (l := (o.tree, 2)) hown')
 clear hgrow hown' hown K0 RT hK1
 go_wp2
 go_loopw [3, 5] (fun v i wr => ∃ (k : Nat) (acc : List (List UInt8 × Int)), k ≤ o.pars.length ∧ i = .int .i64 k ∧ Hid (acc = (o.tree, 2) :: (o.pars.take k).map fun p => (p, 3)) ∧ OwnL wr (w.heap.size + 1) v acc ∧ Kp w cs 54 wr) (fun _ i _ => o.pars.length - (intOf i).toNat)
 case atStart => exact ⟨0, _, by omega, rfl, rfl, HO2.out, K1⟩
 case round =>
  clear K1 HO2
  obtain ⟨k, acc, hk, rfl, HA, hown, K1⟩ := hrel
  have hal : acc.length ≤ 101 := by rw [HA.out, List.length_cons, List.length_map, List.length_take]; omega
  have c35 := K1.cell C35.out
  by_cases hlt : k < o.pars.length
  ·
   have hlt' : (k : Int) < (o.pars.length : Int) := by omega
   obtain ⟨e, he⟩ : ∃ e, o.pars[k]? = some e := ⟨o.pars[k], List.getElem?_eq_getElem hlt⟩
   obtain ⟨a, rfl, hc⟩ := par_cells (HP.out.below K1.below) k e he
   have HC := Lib.hid hc
   have HL := Lib.hid (HD.out e (List.mem_of_getElem? he))
   have HK := Lib.hid he
   clear hc he
   go_wp2_with (first
    | ((with_reducible refine ld_id (x := .tmp 52) (p := a.add (k * 32)) ?_ ?_ ?_ HC.out HL.out ?_); rfl; rfl; rfl)
    | ((with_reducible refine bd_lk (x := .tmp 53) (y := .const (.int .i64 3)) (k := 3) ?_ ?_ ?_ ?_ HL.out ?_); rfl; rfl; rfl; rfl)
    | ((with_reducible refine bs_lk (x := .tmp 54) (k := 3) ?_ ?_ ?_ HL.out ?_); rfl; rfl; rfl)
    | (at_builtin; refine wpList_append_own _ rfl _ _ 94 rfl (w.heap.size + 1) 97 i0 (.agg (lkC (zId, 0)).toArray) 33 40 Tryz.underlying94 hi hz0 hz1 hz2 (by decide) (by decide) _ _ _ rfl (World.ownsRow.alloc hown _) ⟨_, 0, none⟩ 1 1 (lkC (e, 3)) rfl ?b1 ?b2 ?b3 ?b4 ?b5 ?b6 ?_))
   case b1 => rw [lkC_length]; exact congrArg (· + 1) HL.out
   case b2 => exact news_row (heap_alloc_last _ _)
   case b3 => exact lkC_one _
   case b4 => unfold maxLen; first | omega | (simp; omega)
   case b5 => first | omega | (simp; omega)
   case b6 => have := (Array.getElem?_eq_some_iff.1 K1.held).1; simp; omega
   intro v' w2 hown' hgrow _
   have hK1 := (Array.getElem?_eq_some_iff.1 K1.held).1
   have K2 : Kp w cs 54 w2 := ⟨((K1.below.alloc K1.below.size _).grown hgrow (by have := K1.below.size; simp; omega) (fun q hq => Nat.le_of_succ_le ((World.ownsRow.lt hown q hq).1))), by rw [hgrow.block w.heap.size (by simp; omega) (own_ne hown (by omega))]; exact (Lib.alloc_old _ _ _ hK1).trans K1.held⟩
   have HO2 := Lib.hid (own_pushLk hown')
   have HA2 := Lib.hid (show acc ++ [(e, 3)] = (o.tree, 2) :: (o.pars.take (k + 1)).map fun p => (p, 3) by rw [take_map_succ _ _ _ _ HK.out, HA.out]; rfl)
   clear hown hgrow hown' hK1
   go_wp2
   go_roundw
   case rel => exact ⟨k + 1, _, by omega, by go_num, HA2, HO2.out, K2⟩
   case measure => simp [intOf]; omega
  ·
   have HT2 := Lib.hid (show acc = M by rw [HA.out, HM.out, List.take_of_length_le (by omega)])
   rw [HT2.out] at hown
   have c0' := K1.cell C0.out
   go_wp2
   go_ret
   exact ⟨_, rfl, own_le hown (by omega), K1.below⟩
theorem reflinks_any (cs : Array Value) (o : Ob) (ao bo : Option Addr) (ca cb : Nat) (w : World) (h : ObAt w cs o ao bo ca cb) (he : o.ents.length ≤ 100) (hp : o.pars.length ≤ 100) :
  Calls Tryz.prog 118 #[.agg cs] w fun r w' => ∃ v, r = .returned v ∧ OwnL w' w.heap.size v (linksL o) ∧ Below w.heap.size w w' := by
 by_cases h2 : o.kind = 2
 · exact reflinks_tree cs o ao bo ca cb w h he h2
 by_cases h3 : o.kind = 3
 · exact reflinks_commit cs o ao bo ca cb w h hp h3
 by_cases h4 : o.kind = 4
 · exact reflinks_tag cs o ao bo ca cb w h h4
 · exact reflinks_none cs o ao bo ca cb w h h2 h3 h4
end Go.Proofs.YtfckfjndnhjpoaaGreatDoor
end
