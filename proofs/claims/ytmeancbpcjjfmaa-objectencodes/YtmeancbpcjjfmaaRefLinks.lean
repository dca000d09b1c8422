/-
  WALKS OF LAYER 4: the document's own Links (knapsackref04.Links).
-/
import Derived.Test.YtmeancbpcjjfmaaSameLinks
namespace Go.Proofs.Ytmeancbpcjjfmaa
open Go.RowKit
set_option linter.unusedVariables false
set_option linter.unusedSimpArgs false

/-- An aggregate, built in a region that draws its order. -/
theorem yieldsIf_lk {ops : Array Oper} {S : World → Prop} {op : Oper} {a : Act} {x y : Operand} {l : List UInt8} {k : Int} (hw : Region.wanted op (yielded ops a.tmps) = true) (ho : op.op = .build 52 #[(0, x), (1, y)])
    (hx : a.eval x = .agg (idC l).toArray) (hy : a.eval y = .int .i64 k) (hl : l.length = 32) : YieldsIf Try.prog ops S op (.agg (lkC (l, k)).toArray) a :=
  .inl ⟨hw, fun W _ => by
    unfold execOp
    simp only [ho, List.map_toArray, List.map_cons, List.map_nil, hx, hy, Sem.run_bind, run_build W _ _ _ (built_lk l k hl), Result.andThen_ok, Sem.run_pure]⟩

theorem wp_bs_lk {op : Oper} {a : Act} {w : World} {K : Act → World → Prop} {Q : Exit → Act → World → Prop} {x : Operand} {l : List UInt8} {k : Int} (ho : op.op = .buildSlice 36 1 #[(0, x)]) (hx : a.eval x = .agg (lkC (l, k)).toArray) (hl : l.length = 32)
    (h : K (a.put op.dst (.slice (some ⟨w.heap.size, 0, none⟩) 1 1)) (w.alloc (.cells (lkC (l, k)).toArray 52))) : op.wp Try.prog a w K Q := by
  obtain ⟨ie, hie, hz, h1, _⟩ := info_parts infoLk
  have hf := builtS_lk l k hl
  unfold Program.builtSlice at hf
  simp only [hie, hz] at hf
  rw [if_neg (by rw [h1]; decide)] at hf
  exact wp_buildSlice 36 52 1 _ ho _ ie _ Try.underlying36 hie hz (by rw [h1]; decide) (by rw [h1]; decide) (by simp only [List.map_toArray, List.map_cons, List.map_nil, hx]; exact hf) h

/-- A row of the call's own stands where a world has only grown beyond it. -/
theorem own_ne {W : World} {base b : Nat} {v : Value} {ls : List (List UInt8 × Int)} (h : OwnL W base v ls) (hb : b < base) : some b ≠ v.ownBlock := fun hc => by have := (World.ownsRow.lt h b hc.symm).1; omega
theorem own_drew {w : World} {b : Nat} {v : Value} {ls : List (List UInt8 × Int)} (h : OwnL w b v ls) : OwnL w.drew b v ls := h

set_option maxHeartbeats 2000000 in
set_option maxRecDepth 100000 in
theorem reflinks_tree (cs : Array Value) (o : Ob) (ao bo : Option Addr) (ca cb : Nat) (w : World) (h : ObAt w cs o ao bo ca cb) (he : o.ents.length ≤ 100) (hk : o.kind = 2) :
    Calls Try.prog 10 #[.agg cs] w fun r w' => ∃ v, r = .returned v ∧ OwnL w' w.heap.size v (linksL o) ∧ Below w.heap.size w w' := by
  have HM := Lib.hid (show linksL o = o.ents.map (fun e => (e.id, e.kind)) by simp [linksL, hk])
  generalize linksL o = M at HM
  have C0 := Lib.hid (show cs[0]? = some (.int .i64 2) by rw [h.F.c0, hk])
  have c0 := C0.out
  have C2 := Lib.hid h.F.c2
  have HE := Lib.hid h.E
  have HD := Lib.hid h.eid
  have K0 := Kp.box w cs 28
  obtain ⟨i0, hi, hz0, hz1, hz2⟩ := info_parts infoLk
  clear h hk
  go_enter Try.func10, Try.ntmps10
  go_wp2
  go_loopw [3, 4] (fun v i wr => ∃ (k : Nat) (acc : List (List UInt8 × Int)), k ≤ o.ents.length ∧ i = .int .i64 k ∧ Hid (acc = (o.ents.take k).map fun e => (e.id, e.kind)) ∧ OwnL wr (w.heap.size + 1) v acc ∧ Kp w cs 28 wr) (fun _ i _ => o.ents.length - (intOf i).toNat)
  case atStart => exact ⟨0, [], by omega, rfl, rfl, World.ownsRow_nil _ _ _ _, K0⟩
  case round =>
    clear K0
    obtain ⟨k, acc, hk, rfl, HA, hown, K1⟩ := hrel
    have hal : acc.length ≤ 101 := by rw [HA.out, List.length_map, List.length_take]; omega
    have c2 := K1.cell C2.out
    by_cases hlt : k < o.ents.length
    · have hlt' : (k : Int) < (o.ents.length : Int) := by omega
      have hk0 : (0 : Int) ≤ (k : Int) := by omega
      obtain ⟨e, he2⟩ : ∃ e, o.ents[k]? = some e := ⟨o.ents[k], List.getElem?_eq_getElem hlt⟩
      have HK := Lib.hid he2
      obtain ⟨a, rfl, hc⟩ := ent_cells (HE.out.below K1.below) k e he2
      have HL := Lib.hid (HD.out e (List.mem_of_getElem? he2))
      have hA1 := add_add_mid a (k * 34) 1 (by decide)
      have hA2 := add_add_mid a (k * 34) 2 (by decide)
      have e1 : wr.cell? ⟨a.block, a.off + k * 34 + 1, none⟩ = some (.int .i64 e.kind) := by rw [← hA1]; exact hc 1 _ rfl
      have e2 := en_range hc
      have l1 := World.block_lt_of_cell? wr _ e1
      clear he2 hc
      have lA : a.block < w.heap.size := by
        obtain ⟨a', e', h'⟩ := ent_cells HE.out k e HK.out
        cases e'
        have := World.block_lt_of_cell? w _ (h' 1 _ rfl)
        rwa [hA1] at this
      have S0 : wr.drew.cell? ⟨w.heap.size, 2, none⟩ = some (.slice (some a) o.ents.length ca) ∧ wr.drew.cell? ⟨a.block, a.off + k * 34 + 1, none⟩ = some (.int .i64 e.kind) ∧ wr.drew.rangeAt a.block (a.off + k * 34 + 2) (idC e.id) := ⟨c2, e1, e2⟩
      have u24 := Try.underlying24
      have i24 := idsize HL.out
      have hK1 := (Array.getElem?_eq_some_iff.1 K1.held).1
      go_wp2_with fail
      refine wp_region_noPanic ?_
      refine wp_region_held_drew (S := (fun W => W.cell? ⟨w.heap.size, 2, none⟩ = some (.slice (some a) o.ents.length ca) ∧ W.cell? ⟨a.block, a.off + k * 34 + 1, none⟩ = some (.int .i64 e.kind) ∧ W.rangeAt a.block (a.off + k * 34 + 2) (idC e.id))) (by kernel_rfl) S0 (fun hHeld0 => ?_)
      refine wpAnyH_take (i := 0) (v := ?_) rfl (by kernel_rfl) (by kernel_rfl) (by kernel_rfl) (fun _ _ _ h => h) (Or.inl ⟨by rfl, ?_⟩) (by assumption) ?_
      rotate_left
      · intro W hS; go_simp; try rfl
      try simp only [Act.put, List.getElem_toArray, List.getElem_cons_zero, List.getElem_cons_succ, List.setIfInBounds_toArray, List.set_cons_zero, List.set_cons_succ]
      refine wpAnyH_take (i := 1) (v := ?_) rfl (by kernel_rfl) (by kernel_rfl) (by kernel_rfl) (fun _ _ _ h => h) (Or.inl ⟨by rfl, ?_⟩) (by assumption) ?_
      rotate_left
      · intro W hS; go_simp; try rfl
      try simp only [Act.put, List.getElem_toArray, List.getElem_cons_zero, List.getElem_cons_succ, List.setIfInBounds_toArray, List.set_cons_zero, List.set_cons_succ]
      refine wpAnyH_take (i := 2) (v := ?_) rfl (by kernel_rfl) (by kernel_rfl) (by kernel_rfl) (fun _ _ _ h => h) (Or.inl ⟨by rfl, ?_⟩) (by assumption) ?_
      rotate_left
      · intro W hS; go_simp; try rfl
      try simp only [Act.put, List.getElem_toArray, List.getElem_cons_zero, List.getElem_cons_succ, List.setIfInBounds_toArray, List.set_cons_zero, List.set_cons_succ]
      refine wpAnyH_take (i := 3) (v := ?_) rfl (by kernel_rfl) (by kernel_rfl) (by kernel_rfl) (fun _ _ _ h => h) (Or.inl ⟨by rfl, ?_⟩) (by assumption) ?_
      rotate_left
      · intro W hS; go_simp; try rfl
      try simp only [Act.put, List.getElem_toArray, List.getElem_cons_zero, List.getElem_cons_succ, List.setIfInBounds_toArray, List.set_cons_zero, List.set_cons_succ]
      refine wpAnyH_take (i := 4) (v := ?_) rfl (by kernel_rfl) (by kernel_rfl) (by kernel_rfl) (fun _ _ _ h => h) (Or.inl ⟨by rfl, ?_⟩) (by assumption) ?_
      rotate_left
      · intro W hS; go_simp; try rfl
      try simp only [Act.put, List.getElem_toArray, List.getElem_cons_zero, List.getElem_cons_succ, List.setIfInBounds_toArray, List.set_cons_zero, List.set_cons_succ]
      refine wpAnyH_take (i := 5) (v := ?_) rfl (by kernel_rfl) (by kernel_rfl) (by kernel_rfl) (fun _ _ _ h => h) (Or.inl ⟨by rfl, ?_⟩) (by assumption) ?_
      rotate_left
      · intro W hS; go_simp; try rfl
      try simp only [Act.put, List.getElem_toArray, List.getElem_cons_zero, List.getElem_cons_succ, List.setIfInBounds_toArray, List.set_cons_zero, List.set_cons_succ]
      refine wpAnyH_take (i := 6) rfl (by kernel_rfl) (by kernel_rfl) (by kernel_rfl) (fun _ _ _ h => h) (yieldsIf_load_mid (by rfl) _ _ rfl _ _ rfl _ _ (fun W h => h.2.2) u24 rfl i24) (by assumption) ?_
      try simp only [Act.put, List.getElem_toArray, List.getElem_cons_zero, List.getElem_cons_succ, List.setIfInBounds_toArray, List.set_cons_zero, List.set_cons_succ]
      refine wpAnyH_take (i := 7) (v := ?_) rfl (by kernel_rfl) (by kernel_rfl) (by kernel_rfl) (fun _ _ _ h => h) (Or.inl ⟨by rfl, ?_⟩) (by assumption) ?_
      rotate_left
      · intro W hS; go_simp; try rfl
      try simp only [Act.put, List.getElem_toArray, List.getElem_cons_zero, List.getElem_cons_succ, List.setIfInBounds_toArray, List.set_cons_zero, List.set_cons_succ]
      refine wpAnyH_take (i := 8) (v := ?_) rfl (by kernel_rfl) (by kernel_rfl) (by kernel_rfl) (fun _ _ _ h => h) (Or.inl ⟨by rfl, ?_⟩) (by assumption) ?_
      rotate_left
      · intro W hS; go_simp; try rfl
      try simp only [Act.put, List.getElem_toArray, List.getElem_cons_zero, List.getElem_cons_succ, List.setIfInBounds_toArray, List.set_cons_zero, List.set_cons_succ]
      refine wpAnyH_take (i := 9) (v := ?_) rfl (by kernel_rfl) (by kernel_rfl) (by kernel_rfl) (fun _ _ _ h => h) (Or.inl ⟨by rfl, ?_⟩) (by assumption) ?_
      rotate_left
      · intro W hS; go_simp; try rfl
      try simp only [Act.put, List.getElem_toArray, List.getElem_cons_zero, List.getElem_cons_succ, List.setIfInBounds_toArray, List.set_cons_zero, List.set_cons_succ]
      refine wpAnyH_take (i := 10) (v := ?_) rfl (by kernel_rfl) (by kernel_rfl) (by kernel_rfl) (fun _ _ _ h => h) (Or.inl ⟨by rfl, ?_⟩) (by assumption) ?_
      rotate_left
      · intro W hS; go_simp; try rfl
      try simp only [Act.put, List.getElem_toArray, List.getElem_cons_zero, List.getElem_cons_succ, List.setIfInBounds_toArray, List.set_cons_zero, List.set_cons_succ]
      refine wpAnyH_take (i := 11) (v := ?_) rfl (by kernel_rfl) (by kernel_rfl) (by kernel_rfl) (fun _ _ _ h => h) (Or.inl ⟨by rfl, ?_⟩) (by assumption) ?_
      rotate_left
      · intro W hS; go_simp; try rfl
      try simp only [Act.put, List.getElem_toArray, List.getElem_cons_zero, List.getElem_cons_succ, List.setIfInBounds_toArray, List.set_cons_zero, List.set_cons_succ]
      refine wpAnyH_take (i := 12) (v := ?_) rfl (by kernel_rfl) (by kernel_rfl) (by kernel_rfl) (fun _ _ _ h => h) (Or.inl ⟨by rfl, ?_⟩) (by assumption) ?_
      rotate_left
      · intro W hS; go_simp; try rfl
      try simp only [Act.put, List.getElem_toArray, List.getElem_cons_zero, List.getElem_cons_succ, List.setIfInBounds_toArray, List.set_cons_zero, List.set_cons_succ]
      refine wpAnyH_take (i := 13) rfl (by kernel_rfl) (by kernel_rfl) (by kernel_rfl) (fun _ _ _ h => h) (yieldsIf_lk (by rfl) rfl rfl rfl HL.out) (by assumption) ?_
      try simp only [Act.put, List.getElem_toArray, List.getElem_cons_zero, List.getElem_cons_succ, List.setIfInBounds_toArray, List.set_cons_zero, List.set_cons_succ]
      refine wpAnyH_ready (rs := [14]) (by kernel_rfl) (by simp) ?_
      refine AllReadyH.cons rfl (fun K hK => ?_) AllReadyH.nil
      rw [if_pos (by rfl)]
      refine wp_bs_lk rfl rfl HL.out ?_
      refine hK.out _ _ ⟨(World.cell?_alloc_lt wr.drew _ ⟨w.heap.size, 2, none⟩ hK1).trans hHeld0.1, (World.cell?_alloc_lt wr.drew _ ⟨a.block, a.off + k * 34 + 1, none⟩ l1).trans hHeld0.2.1, fun j v hv => (World.cell?_alloc_lt wr.drew _ ⟨a.block, a.off + k * 34 + 2 + j, none⟩ l1).trans (hHeld0.2.2 j v hv)⟩ (fun hHeld1 => ?_)
      clear hK K
      try simp only [Act.put, List.getElem_toArray, List.getElem_cons_zero, List.getElem_cons_succ, List.setIfInBounds_toArray, List.set_cons_zero, List.set_cons_succ]
      refine wpAnyH_ready (rs := [15]) (by kernel_rfl) (by simp) ?_
      refine AllReadyH.cons rfl (fun K hK => ?_) AllReadyH.nil
      rw [if_pos (by rfl)]
      refine wp_append_own _ _ _ 36 rfl (w.heap.size + 1) 52 i0 (.agg (lkC (zId, 0)).toArray) 33 40 Try.underlying36 hi hz0 hz1 hz2 (by decide) (by decide) _ _ _ rfl (World.ownsRow.alloc (w := wr.drew) hown _) ⟨_, 0, none⟩ 1 1 (lkC (e.id, e.kind)) rfl (by rw [lkC_length]; exact congrArg (· + 1) HL.out) (news_row (heap_alloc_last _ _)) (lkC_one _) (by unfold maxLen; omega) (by omega) (by have := K1.below.size; simp; omega) ?_
      intro v' w1 hown' hgrow _
      have hne := fun (b : Nat) (hb' : b ≤ w.heap.size) => own_ne hown (Nat.lt_succ_of_le hb')
      refine hK.out _ _ ⟨hgrow.cell hHeld1.1 (hne _ (Nat.le_refl _)), hgrow.cell hHeld1.2.1 (hne _ (Nat.le_of_lt lA)), fun j v hv => hgrow.cell (hHeld1.2.2 j v hv) (hne _ (Nat.le_of_lt lA))⟩ (fun hHeld2 => ?_)
      clear hK K
      try simp only [Act.put, List.getElem_toArray, List.getElem_cons_zero, List.getElem_cons_succ, List.setIfInBounds_toArray, List.set_cons_zero, List.set_cons_succ]
      refine wpAnyH_take (i := 16) (v := ?_) rfl (by kernel_rfl) (by kernel_rfl) (by kernel_rfl) (fun _ _ _ h => h) (Or.inl ⟨by rfl, ?_⟩) (by assumption) ?_
      rotate_left
      · intro W hS; go_simp; try rfl
      try simp only [Act.put, List.getElem_toArray, List.getElem_cons_zero, List.getElem_cons_succ, List.setIfInBounds_toArray, List.set_cons_zero, List.set_cons_succ]
      refine wpAnyH_done (by kernel_rfl) ?_ _
      refine NoPanic.normal ?_
      have K2 : Kp w cs 28 w1 := ⟨((K1.below.drew.alloc K1.below.size _).grown hgrow (by have := K1.below.size; simp; omega) (fun q hq => Nat.le_of_succ_le ((World.ownsRow.lt hown q hq).1))), by rw [hgrow.block w.heap.size (by simp; omega) (hne _ (Nat.le_refl _))]; exact (Lib.alloc_old _ _ _ hK1).trans K1.held⟩
      have HO2 := Lib.hid (own_push hown')
      have HA2 := Lib.hid (show acc ++ [(e.id, e.kind)] = (o.ents.take (k + 1)).map fun e => (e.id, e.kind) by rw [take_map_succ _ _ _ _ HK.out, HA.out])
      clear hown hgrow hown' hHeld0 hHeld1 hHeld2 S0 u24 i24
      go_wp2
      go_roundw
      case rel => exact ⟨k + 1, _, by omega, by go_num, HA2, HO2.out, K2⟩
      case measure => simp [intOf]; omega
    · have HT := Lib.hid (show acc = M by rw [HA.out, HM.out, List.take_of_length_le (by omega)])
      rw [HT.out] at hown
      have c0' := K1.cell C0.out
      go_wp2
      go_ret
      exact ⟨_, rfl, own_le hown (by omega), K1.below⟩
end Go.Proofs.Ytmeancbpcjjfmaa
