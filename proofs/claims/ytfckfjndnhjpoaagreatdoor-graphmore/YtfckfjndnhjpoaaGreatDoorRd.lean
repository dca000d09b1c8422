/-
  WALKS OF LAYER 12: a candidate pushed onto its row, and taken off it.
-/
import Derived.Test.YtfckfjndnhjpoaaGreatDoorRc
import Derived.Test.YtfckfjndnhjpoaaGreatDoorQa
set_option linter.unusedVariables false
set_option linter.unusedSimpArgs false
set_option maxHeartbeats 8000000
set_option maxRecDepth 100000
section
namespace Go.Proofs.YtfckfjndnhjpoaaGreatDoor
open Go.RowKit Go.Sort
structure WB (w : World) (base b : Nat) (sp mp v : Value) (C : List Cd) : Prop where
 box : w.heap[b]? = some (.cells #[sp, v, mp] 105)
 own : OwnC w base v C
 lt : b < base
theorem WB.cell {w : World} {base b : Nat} {sp mp v : Value} {C : List Cd} (h : WB w base b sp mp v C) : w.cell? ⟨b, 1, none⟩ = some v := by
 rw [cell_of_row _ _ 1 _ _ _ h.box]; rfl
theorem WB.bl {w : World} {base b : Nat} {sp mp v : Value} {C : List Cd} (h : WB w base b sp mp v C) : b < w.heap.size := (Array.getElem?_eq_some_iff.1 h.box).1
theorem WB.below {w w' : World} {base b : Nat} {sp mp v : Value} {C : List Cd} (h : WB w base b sp mp v C) (hb : Below w.heap.size w w') : WB w' base b sp mp v C :=
 ⟨(hb.block _ h.bl).trans h.box, h.own.below hb, h.lt⟩
structure Ch (w w' : World) (b : Nat) (v : Value) : Prop where
 os : w'.os = w.os
 tape : w'.tape = w.tape
 output : w'.output = w.output
 size : w.heap.size ≤ w'.heap.size
 block : ∀ g, g < w.heap.size → g ≠ b → v.ownBlock ≠ some g → w'.heap[g]? = w.heap[g]?
def Nx (w : World) (v v' : Value) : Prop := v'.ownBlock = v.ownBlock ∨ ∀ g, v'.ownBlock = some g → w.heap.size ≤ g
theorem Nx.refl (w : World) (v : Value) : Nx w v v := .inl rfl
theorem Nx.trans {w w1 : World} {v v1 v2 : Value} (h : Nx w v v1) (h2 : Nx w1 v1 v2) (hs : w.heap.size ≤ w1.heap.size) : Nx w v v2 := by
 rcases h2 with e | e
 ·
  rcases h with f | f
  · exact .inl (e.trans f)
  · exact .inr fun g hg => f g (by rw [← e]; exact hg)
 · exact .inr fun g hg => Nat.le_trans hs (e g hg)
theorem Ch.trans {w w1 w2 : World} {b : Nat} {v v1 : Value} (h : Ch w w1 b v) (h2 : Ch w1 w2 b v1) (hn : Nx w v v1) : Ch w w2 b v :=
 ⟨h2.os.trans h.os, h2.tape.trans h.tape, h2.output.trans h.output, Nat.le_trans h.size h2.size, fun g hg hb hv => (h2.block g (Nat.lt_of_lt_of_le hg h.size) hb (fun e => by
  rcases hn with f | f
  · exact hv (by rw [← f]; exact e)
  · have := f g e; omega)).trans (h.block g hg hb hv)⟩
theorem Ch.of_below {w w' : World} (h : Below w.heap.size w w') (b : Nat) (v : Value) : Ch w w' b v := ⟨h.os, h.tape, h.output, h.size, fun g hg _ _ => h.block g hg⟩
theorem Ch.of_grown {w w' : World} {b : Nat} {v : Value} {row : Option Nat} (h : w.grownBy w' row) (hr : row = some b ∨ row = v.ownBlock ∨ row = none) : Ch w w' b v :=
 ⟨h.os, h.tape, h.output, h.size, fun g hg hb hv => h.block g hg (fun e => by
  rcases hr with f | f | f
  · rw [f] at e; injection e with e; exact hb e
  · exact hv (by rw [← f]; exact e.symm)
  · rw [f] at e; cases e)⟩
theorem Ch.below {w w' : World} {b B : Nat} {v : Value} (h : Ch w w' b v) (hB : B ≤ w.heap.size) (hb : B ≤ b) (hv : ∀ g, v.ownBlock = some g → B ≤ g) : Below B w w' :=
 ⟨h.os, h.tape, h.output, h.size, fun g hg => h.block g (by omega) (by omega) (fun e => by have := hv g e; omega)⟩
theorem builtS_cd (c : Cd) : Tryz.prog.builtSlice 109 1 [(0, .agg (cdC c).toArray)] = some (cdC c).toArray := by
 obtain ⟨i0, hi, hz0, hz1, hz2⟩ := info_parts infoCd
 have hc := cdC_length c
 have hcn : ¬ (1 * 34 > 2 ^ 24 ∨ 1 * 34 = 0) := by decide
 have hz : (Array.map (fun (x : Nat) => (Value.agg zCd.toArray).cells[x % (Value.agg zCd.toArray).cells.size]!) (Array.range (1 * 34))).size = 34 := by simp
 unfold Program.builtSlice
 rw [hi]
 simp only [hz0, hz1]
 rw [if_neg hcn]
 generalize (Array.map (fun (x : Nat) => (Value.agg zCd.toArray).cells[x % (Value.agg zCd.toArray).cells.size]!) (Array.range (1 * 34))) = Z at hz
 rw [fill_one _ Z 0 0 34 (.agg (cdC c).toArray) _ (by simp) (by simpa [Value.cells] using hc) (by omega)]
 have e : splice Z.toList 0 (Value.agg (cdC c).toArray).cells.toList = cdC c := splice_all Z.toList (cdC c) (by simp [hz, hc])
 rw [e]
 rfl
theorem wp_bsCd {op : Oper} {a : Act} {w : World} {K : Act → World → Prop} {Q : Exit → Act → World → Prop} {x : Operand} {c : Cd} (ho : op.op = .buildSlice 103 1 #[(0, x)]) (hx : a.eval x = .agg (cdC c).toArray)
  (h : K (a.put op.dst (.slice (some ⟨w.heap.size, 0, none⟩) 1 1)) (w.alloc (.cells (cdC c).toArray 109))) : op.wp Tryz.prog a w K Q := by
 obtain ⟨ie, hie, hz, h1, _⟩ := info_parts infoCd
 have hf := builtS_cd c
 unfold Program.builtSlice at hf
 simp only [hie, hz] at hf
 rw [if_neg (by rw [h1]; decide)] at hf
 exact wp_buildSlice 103 109 1 _ ho _ ie _ Tryz.underlying103 hie hz (by rw [h1]; decide) (by rw [h1]; decide) (by simp only [List.map_toArray, List.map_cons, List.map_nil, hx]; exact hf) h
theorem push_cd (w : World) (base b : Nat) (sp mp v : Value) (C : List Cd) (c : Cd) (h : WB w base b sp mp v C) (hbs : base ≤ w.heap.size) (hn : C.length ≤ 2000) :
  Calls Tryz.prog 209 #[.pointer (some ⟨b, 1, none⟩), .iface 109 (.agg (cdC c).toArray)] w fun r w' => r = .returned (.tuple #[]) ∧ ∃ v', WB w' base b sp mp v' (C ++ [c]) ∧ Ch w w' b v ∧ Nx w v v' := by
 obtain ⟨ao, cap, rfl⟩ := h.own.form
 have c0 : w.drew.cell? ⟨b, 1, none⟩ = some (.slice ao C.length cap) := h.cell
 have hbl := h.bl
 have c1 : (w.alloc (.cells (cdC c).toArray 109)).cell? ⟨b, 1, none⟩ = some (.slice ao C.length cap) := by
  rw [World.cell?_of_block (w := w) (heap_alloc_old _ _ hbl)]; exact h.cell
 have HOD := Lib.hid (show OwnC w.drew base (.slice ao C.length cap) C from h.own.below (Below.refl _ _).drew)
 have hne : some b ≠ (Value.slice ao C.length cap).ownBlock := fun e => by have := (h.own.own.lt b e.symm).1; have := h.lt; omega
 have HBX := Lib.hid (show ∀ w' : World, (w.drew.alloc (.cells (cdC c).toArray 109)).grownBy w' (Value.slice ao C.length cap).ownBlock → w'.heap[b]? = some (.cells #[sp, .slice ao C.length cap, mp] 105) from fun w' hg => (hg.block b (by simp; omega) hne).trans ((heap_alloc_old _ _ hbl).trans h.box))
 have HEND := Lib.hid (show ∀ (v' : Value) (w' : World), OwnC w' base v' (C ++ [c]) → (w.drew.alloc (.cells (cdC c).toArray 109)).grownBy w' (Value.slice ao C.length cap).ownBlock → (v'.ownBlock = (Value.slice ao C.length cap).ownBlock ∨ v'.ownBlock = some (w.drew.heap.size + 1)) → WB (w'.setCell ⟨b, 1, none⟩ v') base b sp mp v' (C ++ [c]) ∧ Ch w (w'.setCell ⟨b, 1, none⟩ v') b (.slice ao C.length cap) ∧ Nx w (.slice ao C.length cap) v' from fun v' w' ho hg hv => by
  have hx := HBX.out w' hg
  have hsz : w.heap.size + 1 ≤ w'.heap.size := by have := hg.size; simpa using this
  refine ⟨⟨heap_setCell_same _ _ _ _ _ _ hx, ⟨own_kept ho.own (fun q hq => (grown_setCell w' ⟨b, 1, none⟩ v').block q (ho.own.lt q hq).2 (fun e => by have := (ho.own.lt q hq).1; have := h.lt; injection e with e; simp at e; omega))⟩, h.lt⟩, ⟨hg.os, hg.tape, hg.output, by simp [World.setCell]; omega, fun q hq hqb hqv => ?_⟩, ?_⟩
  · rw [(grown_setCell w' ⟨b, 1, none⟩ v').block q (by omega) (fun e => by injection e with e; simp at e; omega), hg.block q (by simp; omega) (fun e => hqv e.symm), heap_alloc_old _ _ (show q < w.drew.heap.size from hq)]; rfl
  ·
   rcases hv with e | e
   · exact .inl e
   · exact .inr fun q hq => by rw [e] at hq; injection hq with hq; have : w.drew.heap.size = w.heap.size := rfl; omega)
 clear h hne
 go_enter Tryz.func209, Tryz.ntmps209
 go_wp2_with fail
 refine wp_region_noPanic ?_
 refine wp_region_held_drew (S := (fun _ => True)) (by kernel_rfl) trivial (fun hH => ?_)
 refine tk (i := 0) (v := ?_) ?_ ?_
 rotate_left
 · intro w' hSw; go_simp; try rfl
 try simp only [q0]
 refine tk (i := 1) (v := ?_) ?_ ?_
 rotate_left
 · intro w' hSw; go_simp; try rfl
 try simp only [q0]
 refine tk (i := 2) (v := ?_) ?_ ?_
 rotate_left
 · intro w' hSw; go_simp; try rfl
 try simp only [q0]
 refine tk (i := 4) (v := ?_) ?_ ?_
 rotate_left
 · intro w' hSw; go_simp; try rfl
 try simp only [q0]
 refine tk (i := 5) (v := ?_) ?_ ?_
 rotate_left
 · intro w' hSw; go_simp; try rfl
 try simp only [q0]
 refine wpAnyH_ready (rs := [3, 6]) (by kernel_rfl) (by simp) ?_
 refine AllReadyH.cons rfl (fun K hK => ?_) (AllReadyH.cons rfl (fun K hK => ?_) AllReadyH.nil)
 ·
  have q0 := c0
  go_simp
  refine hK.out _ _ trivial (fun _ => ?_)
  clear hK K
  try simp only [q0]
  refine wpAnyH_ready (rs := [6]) (by kernel_rfl) (by simp) ?_
  refine AllReadyH.cons rfl (fun K hK => ?_) AllReadyH.nil
  rw [if_pos (by rfl)]
  refine wp_bsCd (c := c) (x := .tmp 9) rfl rfl ?_
  refine hK.out _ _ trivial (fun _ => ?_)
  clear hK K
  try simp only [q0]
  refine wpAnyH_ready (rs := [7]) (by kernel_rfl) (by simp) ?_
  refine AllReadyH.cons rfl (fun K hK => ?_) AllReadyH.nil
  rw [if_pos (by rfl)]
  refine wp_ap_cd (v := .slice ao C.length cap) (c := c) (base := base) (.tmp 7) (.tmp 10) rfl rfl rfl HOD.out hbs hn (fun v' w' HO2 HG2 HN2 => ?_)
  refine hK.out _ _ trivial (fun _ => ?_)
  clear hK K
  try simp only [q0]
  refine tk (i := 8) (v := ?_) ?_ ?_
  rotate_left
  · intro w' hSw; go_simp; try rfl
  try simp only [q0]
  have HX2 := Lib.hid (HBX.out w' HG2.out)
  have q1 : w'.cell? ⟨b, 1, none⟩ = some (.slice ao C.length cap) := by rw [cell_of_row _ _ 1 _ _ _ HX2.out]; rfl
  have q2 : w'.frozen? ⟨b, 1, none⟩ = false := frozen_of_row _ _ 1 _ _ HX2.out
  obtain ⟨uo, uc, hform⟩ := HO2.out.form
  rw [show (C ++ [c]).length = C.length + 1 by simp] at hform
  subst hform
  refine wpAnyH_ready (rs := [9]) (by kernel_rfl) (by simp) ?_
  refine AllReadyH.cons rfl (fun K hK => ?_) AllReadyH.nil
  go_simp
  have HQ := Lib.hid (HEND.out _ w' HO2.out HG2.out HN2.out)
  clear HO2 HG2 HN2
  refine hK.out _ _ trivial (fun _ => ?_)
  clear hK K
  try simp only [q0]
  refine wpAnyH_done (by kernel_rfl) ?_ _
  refine NoPanic.normal ?_
  go_wp2_with fail
  refine bodyPost_end (results_none rfl _ _ _) rfl ?_
  exact ⟨rfl, _, HQ.out⟩
 ·
  rw [if_pos (by rfl)]
  refine wp_bsCd (c := c) (x := .tmp 9) rfl rfl ?_
  refine hK.out _ _ trivial (fun _ => ?_)
  clear hK K
  try simp only [q0]
  refine wpAnyH_ready (rs := [3]) (by kernel_rfl) (by simp) ?_
  refine AllReadyH.cons rfl (fun K hK => ?_) AllReadyH.nil
  have q0 := c1
  go_simp
  change K _ (w.drew.alloc (.cells (cdC c).toArray 109))
  refine hK.out _ _ trivial (fun _ => ?_)
  clear hK K
  try simp only [q0]
  refine wpAnyH_ready (rs := [7]) (by kernel_rfl) (by simp) ?_
  refine AllReadyH.cons rfl (fun K hK => ?_) AllReadyH.nil
  rw [if_pos (by rfl)]
  refine wp_ap_cd (v := .slice ao C.length cap) (c := c) (base := base) (.tmp 7) (.tmp 10) rfl rfl rfl HOD.out hbs hn (fun v' w' HO2 HG2 HN2 => ?_)
  refine hK.out _ _ trivial (fun _ => ?_)
  clear hK K
  try simp only [q0]
  refine tk (i := 8) (v := ?_) ?_ ?_
  rotate_left
  · intro w' hSw; go_simp; try rfl
  try simp only [q0]
  have HX2 := Lib.hid (HBX.out w' HG2.out)
  have q1 : w'.cell? ⟨b, 1, none⟩ = some (.slice ao C.length cap) := by rw [cell_of_row _ _ 1 _ _ _ HX2.out]; rfl
  have q2 : w'.frozen? ⟨b, 1, none⟩ = false := frozen_of_row _ _ 1 _ _ HX2.out
  obtain ⟨uo, uc, hform⟩ := HO2.out.form
  rw [show (C ++ [c]).length = C.length + 1 by simp] at hform
  subst hform
  refine wpAnyH_ready (rs := [9]) (by kernel_rfl) (by simp) ?_
  refine AllReadyH.cons rfl (fun K hK => ?_) AllReadyH.nil
  go_simp
  have HQ := Lib.hid (HEND.out _ w' HO2.out HG2.out HN2.out)
  clear HO2 HG2 HN2
  refine hK.out _ _ trivial (fun _ => ?_)
  clear hK K
  try simp only [q0]
  refine wpAnyH_done (by kernel_rfl) ?_ _
  refine NoPanic.normal ?_
  go_wp2_with fail
  refine bodyPost_end (results_none rfl _ _ _) rfl ?_
  exact ⟨rfl, _, HQ.out⟩
theorem zeroCd : (Tryz.prog.info? 109).map (fun i => (i.zero, i.size)) = some (some (.agg zCd.toArray), 34) := by kernel_rfl
theorem pop_cd (w : World) (base b : Nat) (sp mp v : Value) (C : List Cd) (c : Cd) (h : WB w base b sp mp v (C ++ [c])) (hbs : base ≤ w.heap.size) (hn : C.length ≤ 2000) :
  Calls Tryz.prog 208 #[.pointer (some ⟨b, 1, none⟩)] w fun r w' => r = .returned (.iface 109 (.agg (cdC c).toArray)) ∧ ∃ v', WB w' base b sp mp v' C ∧ Ch w w' b v ∧ Nx w v v' := by
 obtain ⟨ao0, cap, rfl⟩ := h.own.form
 obtain ⟨g, cap', he, hgb, hglt⟩ := h.own.own.form (by simp)
 simp only [Value.slice.injEq] at he
 obtain ⟨rfl, _, rfl⟩ := he
 have hlen : (C ++ [c]).length = C.length + 1 := by simp
 rw [hlen] at h ⊢
 have hcut := h.own.cut
 have hbl := h.bl
 have hlt := h.lt
 have hzc := (zero_of_info zeroCd).1
 have hzs : zCd.toArray.size = 34 := by decide
 generalize zCd.toArray = z at hzc hzs
 have c0 : w.cell? ⟨b, 1, none⟩ = some (.slice (some ⟨g, 0, none⟩) (C.length + 1) cap) := h.cell
 have HL := Lib.hid (show w.rangeAt g (C.length * 34) (cdC c) from by
  obtain ⟨a, e, _, hc⟩ := h.own.rows.elem C.length (cdC c) (by simp)
  injection e with e
  subst e
  intro q v hv
  have := hc q v hv
  rwa [Addr.add_mid, Addr.add_mid, Nat.zero_add] at this)
 have f0 : w.frozen? ⟨b, 1, none⟩ = false := frozen_of_row _ _ 1 _ _ h.box
 have hg := grown_setCell w ⟨b, 1, none⟩ (.slice (some ⟨g, 0, none⟩) C.length cap)
 have hz1 : (w.setCell ⟨b, 1, none⟩ (.slice (some ⟨g, 0, none⟩) C.length cap)).heap.size = w.heap.size := by simp [World.setCell]
 have HW1 := Lib.hid (show WB (w.setCell ⟨b, 1, none⟩ (.slice (some ⟨g, 0, none⟩) C.length cap)) base b sp mp (.slice (some ⟨g, 0, none⟩) C.length cap) C from
  ⟨heap_setCell_same _ _ _ _ _ _ h.box, ⟨own_kept hcut.1.own (fun q hq => hg.block q (hcut.1.own.lt q hq).2 (fun e => by have := (hcut.1.own.lt q hq).1; injection e with e; simp at e; omega))⟩, hlt⟩)
 have HN := Lib.hid (show ((w.setCell ⟨b, 1, none⟩ (.slice (some ⟨g, 0, none⟩) C.length cap)).alloc (.cells (cdC c).toArray 109)).heap[w.heap.size]? = some (.cells (cdC c).toArray 109) from by
  have := heap_alloc_last (w.setCell ⟨b, 1, none⟩ (.slice (some ⟨g, 0, none⟩) C.length cap)) (.cells (cdC c).toArray 109)
  rwa [hz1] at this)
 have HEND := Lib.hid (show WB ((w.setCell ⟨b, 1, none⟩ (.slice (some ⟨g, 0, none⟩) C.length cap)).alloc (.cells (cdC c).toArray 109)) base b sp mp (.slice (some ⟨g, 0, none⟩) C.length cap) C ∧ Ch w ((w.setCell ⟨b, 1, none⟩ (.slice (some ⟨g, 0, none⟩) C.length cap)).alloc (.cells (cdC c).toArray 109)) b (.slice (some ⟨g, 0, none⟩) (C.length + 1) cap) ∧ Nx w (.slice (some ⟨g, 0, none⟩) (C.length + 1) cap) (.slice (some ⟨g, 0, none⟩) C.length cap) from
  ⟨HW1.out.below (below_new _ _), (Ch.of_grown hg (.inl rfl)).trans (Ch.of_below (below_new _ _) b (.slice (some ⟨g, 0, none⟩) (C.length + 1) cap)) (Nx.refl _ _), .inl rfl⟩)
 have g0 : (0 : Int) ≤ (C.length : Int) := by omega
 have g1 : (C.length : Int) < (C.length : Int) + 1 := by omega
 have g2 : (C.length : Int) ≤ (cap : Int) := by have := hcut.2; omega
 have g3 : (C.length : Int) + 1 - 1 = (C.length : Int) := by omega
 have HCZ := Lib.hid (show (cdC c).toArray.size = 34 by simpa using cdC_length c)
 have HC1 := Lib.hid (all_oneCell_toArray (cdC_one c))
 have HUS := Lib.hid (cdsize c)
 have HI2 := Lib.hid (show (Tryz.prog.info? 109).map (·.size) = some (cdC c).toArray.size by rw [List.size_toArray]; exact cdsize c)
 clear h hcut hg hz1 HW1
 go_enter Tryz.func208, Tryz.ntmps208
 go_wp2_with (first
  | ((with_reducible refine wpList_load_mid ?_ 109 (.tmp 14) ?_ g (C.length * 34) ?_ (cdC c) _ HL.out underCd rfl HUS.out ?_); rfl; rfl; rfl)
  | ((with_reducible refine st_new (x := .tmp 4) (y := .tmp 15) 34 ?_ ?_ ?_ ?_ hzs infoCz HCZ.out HC1.out ?_); rfl; rfl; rfl; rfl)
  | ((with_reducible refine wpList_load_row ?_ 109 (.tmp 4) ?_ w.heap.size ?_ _ (cdC c).toArray _ _ HN.out underCd rfl HI2.out ?_); rfl; rfl; rfl))
 go_ret
 exact ⟨rfl, _, HEND.out⟩
end Go.Proofs.YtfckfjndnhjpoaaGreatDoor
end
section
namespace Go.Proofs.YtfckfjndnhjpoaaGreatDoor
open Go.RowKit Go.Sort
def cdF (C : List Cd) : Nat → Cd := fun k => C.getD k default
theorem cdF_at {C : List Cd} {k : Nat} {x : Cd} (h : C[k]? = some x) : cdF C k = x := by unfold cdF; rw [List.getD_eq_getElem?_getD, h]; rfl
theorem cdF_get {C : List Cd} {k : Nat} (h : k < C.length) : C[k]? = some (cdF C k) := by unfold cdF; rw [List.getD_eq_getElem?_getD, List.getElem?_eq_getElem h]; rfl
theorem WB.swapped {w : World} {base b g cap i j : Nat} {sp mp : Value} {C : List Cd} {x y : Cd} (h : WB w base b sp mp (.slice (some ⟨g, 0, none⟩) C.length cap) C) (hi : C[i]? = some x) (hj : C[j]? = some y) :
  WB ((w.drew.setCells g (i * 34) (cdC y)).setCells g (j * 34) (cdC x)) base b sp mp (.slice (some ⟨g, 0, none⟩) (Hp.swl C i j x y).length cap) (Hp.swl C i j x y) ∧ Ch w ((w.drew.setCells g (i * 34) (cdC y)).setCells g (j * 34) (cdC x)) b (.slice (some ⟨g, 0, none⟩) C.length cap) := by
 have hil : i < C.length := (List.getElem?_eq_some_iff.1 hi).1
 have hjl : j < C.length := (List.getElem?_eq_some_iff.1 hj).1
 have hbl := h.bl
 have h0 : WB w.drew base b sp mp (.slice (some ⟨g, 0, none⟩) C.length cap) C := h.below (Below.refl _ _).drew
 have g1 := grown_setCells g (cdC y) (i * 34) w.drew
 have g2 := grown_setCells g (cdC x) (j * 34) (w.drew.setCells g (i * 34) (cdC y))
 have hgb : b ≠ g := fun e => by have := (h.own.own.lt g rfl).1; have := h.lt; omega
 have o1 := h0.own.set y hil
 have o2 := o1.set (i := j) x (by rw [List.length_set]; exact hjl)
 refine ⟨⟨?_, ?_, h.lt⟩, ?_⟩
 ·
  rw [Hp.swl_len]
  exact (g2.block b (Nat.lt_of_lt_of_le hbl g1.size) (by simp; exact hgb)).trans ((g1.block b hbl (by simp; exact hgb)).trans h.box)
 · rw [Hp.swl_len]; exact o2
 · exact ((Ch.of_below (Below.refl _ _).drew b (.slice (some ⟨g, 0, none⟩) C.length cap)).trans (Ch.of_grown g1 (.inr (.inl rfl))) (Nx.refl _ _)).trans (Ch.of_grown g2 (.inr (.inl rfl))) (Nx.refl _ _)
theorem WB.swappedn {w : World} {base b g cap i j n : Nat} {sp mp : Value} {C : List Cd} {x y : Cd} (h : WB w base b sp mp (.slice (some ⟨g, 0, none⟩) n cap) C) (hn : C.length = n) (hi : C[i]? = some x) (hj : C[j]? = some y) :
  WB ((w.drew.setCells g (i * 34) (cdC y)).setCells g (j * 34) (cdC x)) base b sp mp (.slice (some ⟨g, 0, none⟩) n cap) (Hp.swl C i j x y) ∧ Ch w ((w.drew.setCells g (i * 34) (cdC y)).setCells g (j * 34) (cdC x)) b (.slice (some ⟨g, 0, none⟩) n cap) := by
 subst hn
 have := h.swapped hi hj
 rwa [Hp.swl_len] at this
theorem swap_cn (w : World) (base g cap n : Nat) (C : List Cd) (i j : Nat) (x y : Cd) (hl : C.length = n) (h : OwnC w base (.slice (some ⟨g, 0, none⟩) n cap) C) (hi : C[i]? = some x) (hj : C[j]? = some y) (hn : n ≤ 100000) :
  Calls Tryz.prog 207 #[.slice (some ⟨g, 0, none⟩) n cap, .int .i64 i, .int .i64 j] w fun r w' => r = .returned (.tuple #[]) ∧ w' = (w.drew.setCells g (i * 34) (cdC y)).setCells g (j * 34) (cdC x) := by
 subst hl
 exact swap_cd w base g cap C i j x y h hi hj hn
theorem up_cd (w : World) (base b : Nat) (sp mp v : Value) (C : List Cd) (j : Nat) (h : WB w base b sp mp v C) (hbs : base ≤ w.heap.size) (hu : Hp.Up Cd.lt (cdF C) C.length j) (hn : C.length ≤ 2000) :
  Calls Tryz.prog 120 #[.iface 157 (.pointer (some ⟨b, 1, none⟩)), .int .i64 j] w fun r w' => r = .returned (.tuple #[]) ∧ ∃ C', WB w' base b sp mp v C' ∧ C'.Perm C ∧ Hp.Is Cd.lt (cdF C') C'.length ∧ Ch w w' b v := by
 have hCl : j < C.length := hu.1
 obtain ⟨g, cap, rfl, hgb, hgl⟩ := h.own.own.form (by omega)
 have H0 := Lib.hid h
 have HU0 := Lib.hid hu
 clear h hu
 go_enter Tryz.func120, Tryz.ntmps120
 go_wp2_with fail
 go_loopw [1] (fun jv wr => ∃ (j : Nat) (D : List Cd), jv = .int .i64 j ∧ D.length = C.length ∧ Hid (WB wr base b sp mp (.slice (some ⟨g, 0, none⟩) C.length cap) D) ∧ Hid (D.Perm C) ∧ Hid (Hp.Up Cd.lt (cdF D) D.length j) ∧ Hid (Ch w wr b (.slice (some ⟨g, 0, none⟩) C.length cap))) (fun jv _ => (intOf jv).toNat)
 case atStart => exact ⟨j, C, rfl, rfl, H0, .refl _, HU0, Ch.of_below (Below.refl _ _) _ _⟩
 case round =>
  obtain ⟨j, D, rfl, hDl, HW, HP, HU, HC⟩ := hrel
  have hjl := HU.out.1
  have hcell := HW.out.cell
  have HM := Lib.hid (fun N (hN : 0 < N) => meth_v mLess ⟨b, 1, none⟩ _ wr hcell N hN)
  have HS := Lib.hid (fun N (hN : 0 < N) => meth_v mSwap ⟨b, 1, none⟩ _ wr hcell N hN)
  rcases Nat.eq_zero_or_pos j with rfl | hj
  ·
   go_wp2_with fail
   refine bodyPost_end (results_none rfl _ _ _) rfl ?_
   refine ⟨rfl, D, ?_, HP.out, HU.out.end_ (.inl rfl), HC.out⟩
   exact HW.out
  ·
   obtain ⟨i, hi⟩ : ∃ i, i = (j - 1) / 2 := ⟨_, rfl⟩
   have hd2 : ((j : Int) - 1) / 2 = (i : Int) := by omega
   have hd : ((↑(j - 1) : Int) / 2) = (i : Int) := by omega
   have hne : ((i : Int) == (j : Int)) = false := by simp; omega
   have hij : i < j := by omega
   have hil : i < D.length := by omega
   have HI := Lib.hid hi
   clear hi
   have hx := cdF_get hjl
   have hy := cdF_get hil
   have HLS := Lib.hid (less_cd wr base _ D j i _ _ HW.out.own hx hy (by omega))
   have hm : (method 367 157 (.pointer (some ⟨b, 1, none⟩)) "Less").run Tryz.prog wr = .ok (206, .slice (some ⟨g, 0, none⟩) C.length cap) wr := HM.out _ (by decide)
   cases hlt : Cd.lt (cdF D j) (cdF D i) with
   | false =>
     rw [hlt] at HLS
     have hend := HU.out.end_ (.inr (by rw [← HI.out]; exact hlt))
     go_wp2_with fail
     with_reducible refine HLS.out.mono ?_
     rintro r w2 ⟨rfl, hb2⟩
     go_wp2_with fail
     refine bodyPost_end (results_none rfl _ _ _) rfl ?_
     refine ⟨rfl, D, ?_, HP.out, hend, HC.out.trans (Ch.of_below hb2 b (.slice (some ⟨g, 0, none⟩) C.length cap)) (Nx.refl _ _)⟩
     exact HW.out.below hb2
   | true =>
     rw [hlt] at HLS
     have hst := HU.out.step Cd.ord hj (by rw [← HI.out]; exact hlt)
     rw [← HI.out] at hst
     have HST := Lib.hid hst
     clear hm hst
     have hm : (method 367 157 (.pointer (some ⟨b, 1, none⟩)) "Less").run Tryz.prog wr = .ok (206, .slice (some ⟨g, 0, none⟩) C.length cap) wr := HM.out _ (by decide)
     go_wp2_with fail
     with_reducible refine HLS.out.mono ?_
     rintro r w2 ⟨rfl, hb2⟩
     have hW2 := HW.out.below hb2
     have hc2 := hW2.cell
     have hm2 : (method 367 157 (.pointer (some ⟨b, 1, none⟩)) "Swap").run Tryz.prog w2 = .ok (207, .slice (some ⟨g, 0, none⟩) C.length cap) w2 := meth_v mSwap ⟨b, 1, none⟩ _ w2 hc2 _ (by decide)
     have HSW := Lib.hid (swap_cn w2 base g cap C.length D i j _ _ hDl hW2.own hy hx (by omega))
     have HSD := Lib.hid (hW2.swappedn hDl hy hx)
     have HC2 := Lib.hid (HC.out.trans (Ch.of_below hb2 b (.slice (some ⟨g, 0, none⟩) C.length cap)) (Nx.refl _ _))
     clear hm hcell hc2 hW2 HW HC HLS HM HS
     go_wp2_with fail
     with_reducible refine HSW.out.mono ?_
     rintro r w3 ⟨rfl, hw3⟩
     rw [← hw3] at HSD
     clear hw3 hm2 HSW
     go_wp2_with fail
     go_roundw
     case rel => exact ⟨i, Hp.swl D i j (cdF D i) (cdF D j), rfl, by rw [Hp.swl_len]; exact hDl, HSD.out.1, (Hp.swl_perm hy hx).trans HP.out, by rw [Hp.swl_len]; exact HST.out.congr (fun k _ => (Hp.swl_get hy hx k).symm), HC2.out.trans HSD.out.2 (Nx.refl _ _)⟩
     case measure => simp [intOf]; omega
end Go.Proofs.YtfckfjndnhjpoaaGreatDoor
end
