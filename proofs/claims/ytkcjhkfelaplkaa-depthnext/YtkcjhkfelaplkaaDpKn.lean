/-
  LAYER 13: the document's examples.
-/
import Derived.Test.YtkcjhkfelaplkaaDpNil
import Derived.Test.YtkcjhkfelaplkaaBase2
namespace Go.Proofs.Ytkcjhkfelaplkaa
open Go.RowKit
set_option linter.unusedVariables false
set_option linter.unusedSimpArgs false

theorem dp_builtS2 : Try.prog.builtSlice 28 2 [(0, .agg (idC (oneId 1)).toArray), (1, .agg (idC (oneId 2)).toArray)] = some (idC (oneId 1) ++ idC (oneId 2)).toArray := by kernel_rfl
theorem dp_bs2 {ops : Array Oper} {rest : List Oper} {op : Oper} {a : Act} {w : World} {Q : Exit → Act → World → Prop} {x y : Operand} {l m : List UInt8} (ho : op.op = .buildSlice 22 2 #[(0, x), (1, y)]) (hx : a.eval x = .agg (idC l).toArray) (hy : a.eval y = .agg (idC m).toArray) (hg : op.guard = none)
    (hb : Try.prog.builtSlice 28 2 [(0, .agg (idC l).toArray), (1, .agg (idC m).toArray)] = some (idC l ++ idC m).toArray)
    (h : wpList Try.prog ops Q rest (a.put op.dst (.slice (some ⟨w.heap.size, 0, none⟩) 2 2)) (w.alloc (.cells (idC l ++ idC m).toArray 28))) : wpList Try.prog ops Q (op :: rest) a w :=
  Great.wpList_buildSliceTo hg _ 28 2 _ ho w.heap.size rfl op.dst rfl Try.underlying22 _ (by simp only [List.map_toArray, List.map_cons, List.map_nil, hx, hy]; exact hb) h
theorem dp_two {w : World} {g : Nat} {a b : List UInt8} (h : w.heap[g]? = some (.cells (idC a ++ idC b).toArray 28 (0, 0))) (ha : a.length = 32) (hb : b.length = 32) : IdsAt w (.slice (some ⟨g, 0, none⟩) 2 2) [a, b] := by
  have h1 : (idC a).length = 32 := by rw [idC_length, ha]
  have h2 : (idC b).length = 32 := by rw [idC_length, hb]
  refine OwnI.rows (base := 0) (I := [a, b]) ⟨⟨by simp [h1, h2], .inr ⟨g, 2, _, rfl, Nat.zero_le _, h, by simp, by unfold maxLen; omega, by simp [h1, h2], ?_⟩⟩, fun i hi => ?_⟩
  · simp [List.take_of_length_le, h1, h2]
  · simp only [List.mem_cons, List.not_mem_nil, or_false] at hi
    rcases hi with rfl | rfl
    · exact ha
    · exact hb
theorem dp_next_kn {R : List (List UInt8)} (h : Gr.Up R) (hm : ∀ x, x ∈ R ↔ x ∈ [oneId 3] ∨ (x ∈ [oneId 1, oneId 2] ∧ x ∉ [oneId 1])) : R = [oneId 2, oneId 3] := by
  refine Gr.up_eq h ?_ fun x => ?_
  · refine List.Pairwise.cons (fun y hy => ?_) (List.pairwise_singleton _ _)
    rw [List.mem_singleton.1 hy]; decide
  · have hne : oneId 2 ≠ oneId 1 := by decide
    rw [hm x]
    simp only [List.mem_cons, List.not_mem_nil, or_false]
    constructor
    · rintro (h | ⟨h | h, h2⟩)
      · exact .inr h
      · exact absurd h h2
      · exact .inl h
    · rintro (h | h)
      · exact .inr ⟨.inr h, by rw [h]; exact hne⟩
      · exact .inl h

theorem dp_built (c : UInt8) : Try.prog.built 28 [(0, .int .u8 (c.toNat : Int))] = some (idC (oneId c)).toArray := built_one c
theorem dpbd {ops : Array Oper} {rest : List Oper} {op : Oper} {a : Act} {w : World} {Q : Exit → Act → World → Prop} {l : List UInt8} (z : Int) (ho : op.op = .build 28 #[(0, .const (.int .u8 z))]) (hg : op.guard = none) (hb : Try.prog.built 28 [(0, .int .u8 z)] = some (idC l).toArray)
    (h : wpList Try.prog ops Q rest (a.put op.dst (.agg (idC l).toArray)) w) : wpList Try.prog ops Q (op :: rest) a w :=
  wpList_build_as hg _ _ ho _ (by simp only [List.map_toArray, List.map_cons, List.map_nil]; exact hb) h
set_option maxHeartbeats 8000000 in
set_option maxRecDepth 100000 in
theorem dpknows_any (w : World) : Calls Try.prog 4 #[] w fun r w' => r = .returned (.bool true) ∧ Below w.heap.size w w' := by
  obtain ⟨A, hA⟩ : ∃ A, A = oneId 1 := ⟨_, rfl⟩
  obtain ⟨B, hB⟩ : ∃ B, B = oneId 2 := ⟨_, rfl⟩
  obtain ⟨C, hC⟩ : ∃ C, C = oneId 3 := ⟨_, rfl⟩
  have AL := Lib.hid (show A.length = 32 from by rw [hA]; rfl)
  have BL := Lib.hid (show B.length = 32 from by rw [hB]; rfl)
  have CL := Lib.hid (show C.length = 32 from by rw [hC]; rfl)
  have BA := Lib.hid (show Try.prog.built 28 [(0, .int .u8 1)] = some (idC A).toArray from by rw [hA]; exact dp_built 1)
  have BB := Lib.hid (show Try.prog.built 28 [(0, .int .u8 2)] = some (idC B).toArray from by rw [hB]; exact dp_built 2)
  have BC := Lib.hid (show Try.prog.built 28 [(0, .int .u8 3)] = some (idC C).toArray from by rw [hC]; exact dp_built 3)
  have HABC := Lib.hid (And.intro hA (And.intro hB hC))
  clear hA hB hC
  go_enter Try.func4, Try.ntmps4
  go_upto_region 2 with (first
    | ((with_reducible refine dpbd 1 ?_ ?_ BA.out ?_); rfl; rfl)
    | ((with_reducible apply st_id (hl := AL.out)); rfl; rfl; rfl; rfl; rfl))
  have XA1 := Lib.hid (heap_alloc_new w (.cells (idC A).toArray 28))
  have HB1 := Lib.hid (below_new w (.cells (idC A).toArray 28))
  generalize w.alloc (.cells (idC A).toArray 28) = w1 at *
  go_upto_region 3 with (first
    | ((with_reducible refine dpbd 2 ?_ ?_ BB.out ?_); rfl; rfl)
    | ((with_reducible apply st_id (hl := BL.out)); rfl; rfl; rfl; rfl; rfl))
  have XB2 := Lib.hid (heap_alloc_new w1 (.cells (idC B).toArray 28))
  have HB12 := Lib.hid (below_new w1 (.cells (idC B).toArray 28))
  generalize w1.alloc (.cells (idC B).toArray 28) = w2 at *
  go_upto_region 4 with (first
    | ((with_reducible refine dpbd 3 ?_ ?_ BC.out ?_); rfl; rfl)
    | ((with_reducible apply st_id (hl := CL.out)); rfl; rfl; rfl; rfl; rfl))
  have XC3 := Lib.hid (heap_alloc_new w2 (.cells (idC C).toArray 28))
  have HB23 := Lib.hid (below_new w2 (.cells (idC C).toArray 28))
  generalize w2.alloc (.cells (idC C).toArray 28) = w3 at *
  have z1 : w.heap.size < w1.heap.size := (Array.getElem?_eq_some_iff.1 XA1.out).1
  have z2 : w1.heap.size < w2.heap.size := (Array.getElem?_eq_some_iff.1 XB2.out).1
  have z3 : w2.heap.size < w3.heap.size := (Array.getElem?_eq_some_iff.1 XC3.out).1
  have XA := Lib.hid (show w3.heap[w.heap.size]? = some (.cells (idC A).toArray 28 (0, 0)) from ((HB23.out.block _ (by omega)).trans (HB12.out.block _ (by omega))).trans XA1.out)
  have XB := Lib.hid (show w3.heap[w1.heap.size]? = some (.cells (idC B).toArray 28 (0, 0)) from (HB23.out.block _ (by omega)).trans XB2.out)
  have HBL3 := Lib.hid (show Below w.heap.size w w3 from (HB1.out.trans (HB12.out.mono (by omega))).trans (HB23.out.mono (by omega)))
  generalize hga : w.heap.size = ga at *
  generalize w1.heap.size = gb at *
  generalize w2.heap.size = gc at *
  clear XA1 XB2 HB1 HB12 HB23
  have HXX := Lib.hid (fun (W : World) (hb : Below w3.heap.size w3 W) => show (∀ j u, (idC A)[j]? = some u → W.cell? ((⟨ga, 0, none⟩ : Addr).add j) = some u) ∧ (∀ j u, (idC B)[j]? = some u → W.cell? ((⟨gb, 0, none⟩ : Addr).add j) = some u) ∧ (∀ j u, (idC C)[j]? = some u → W.cell? ((⟨gc, 0, none⟩ : Addr).add j) = some u) from
    ⟨row_news ((hb.block _ (by omega)).trans XA.out), row_news ((hb.block _ (by omega)).trans XB.out), row_news ((hb.block _ (by omega)).trans XC3.out)⟩)
  have HN1 := Lib.hid (below_new w3 (.cells (idC A ++ idC B).toArray 28))
  obtain ⟨w4, hw4⟩ : ∃ W, W = w3.alloc (.cells (idC A ++ idC B).toArray 28) := ⟨_, rfl⟩
  obtain ⟨w5, hw5⟩ : ∃ W, W = w4.alloc (.cells (idC C).toArray 28) := ⟨_, rfl⟩
  obtain ⟨w6, hw6⟩ : ∃ W, W = w5.alloc (.cells (idC A).toArray 28) := ⟨_, rfl⟩
  have e4 : w4.heap.size = w3.heap.size + 1 := by rw [hw4]; simp
  have e5 : w5.heap.size = w3.heap.size + 1 + 1 := by rw [hw5]; simp [e4]
  have b34 : Below w3.heap.size w3 w4 := by rw [hw4]; exact below_new _ _
  have b45 : Below w4.heap.size w4 w5 := by rw [hw5]; exact below_new _ _
  have b56 : Below w5.heap.size w5 w6 := by rw [hw6]; exact below_new _ _
  have b35 : Below w3.heap.size w3 w5 := b34.trans (b45.mono b34.size)
  have b36 : Below w3.heap.size w3 w6 := b35.trans (b56.mono b35.size)
  have I1 := Lib.hid (show IdsAt w6 (.slice (some ⟨w3.heap.size, 0, none⟩) 2 2) [A, B] from RowsAt.below (RowsAt.below (dp_two (w := w4) (by rw [hw4]; exact heap_alloc_new _ _) AL.out BL.out) b45) b56)
  have I2 := Lib.hid (show IdsAt w6 (.slice (some ⟨w3.heap.size + 1, 0, none⟩) 1 1) [C] from by rw [← e4]; exact RowsAt.below (one_at (w := w5) (by rw [hw5]; exact heap_alloc_new _ _) CL.out) b56)
  have I3 := Lib.hid (show IdsAt w6 (.slice (some ⟨w3.heap.size + 1 + 1, 0, none⟩) 1 1) [A] from by rw [← e5]; exact one_at (by rw [hw6]; exact heap_alloc_new _ _) AL.out)
  have HNX := Lib.hid (dpnext_any w6 _ _ _ [A, B] [C] [A] I1.out I2.out I3.out (fun i hi => by simp only [List.mem_cons, List.not_mem_nil, or_false] at hi; rcases hi with rfl | rfl; exact AL.out; exact BL.out) (fun i hi => by rw [List.mem_singleton.1 hi]; exact CL.out) (fun i hi => by rw [List.mem_singleton.1 hi]; exact AL.out) (by simp) (by simp) (by simp))
  have H36 := Lib.hid b36
  have L3 := Lib.hid (HXX.out w3 (Below.refl _ _))
  have L4 := Lib.hid (HXX.out w4 b34)
  have L5 := Lib.hid (HXX.out w5 b35)
  have BS2 := Lib.hid (show Try.prog.builtSlice 28 2 [(0, .agg (idC A).toArray), (1, .agg (idC B).toArray)] = some (idC A ++ idC B).toArray from by rw [HABC.out.1, HABC.out.2.1]; exact dp_builtS2)
  unfold NextP at HNX
  have HW4 := Lib.hid hw4
  have HW5 := Lib.hid hw5
  have HW6 := Lib.hid hw6
  clear b34 b45 b56 b35 b36 I1 I2 I3 HN1 e4 e5
  subst hw6
  subst hw5
  subst hw4
  go_wp2_with (first
    | ((with_reducible refine ld_id (l := A) (x := .tmp 1) (p := ⟨ga, 0, none⟩) ?_ ?_ ?_ L3.out.1 AL.out ?_); rfl; rfl; rfl)
    | ((with_reducible refine ld_id (l := B) (x := .tmp 2) (p := ⟨gb, 0, none⟩) ?_ ?_ ?_ L3.out.2.1 BL.out ?_); rfl; rfl; rfl)
    | ((with_reducible refine dp_bs2 (l := A) (m := B) (x := .tmp 13) (y := .tmp 14) ?_ ?_ ?_ ?_ BS2.out ?_); rfl; rfl; rfl; rfl)
    | ((with_reducible refine ld_id (l := C) (x := .tmp 3) (p := ⟨gc, 0, none⟩) ?_ ?_ ?_ L4.out.2.2 CL.out ?_); rfl; rfl; rfl)
    | ((with_reducible refine bs_id2 (l := C) (x := .tmp 16) ?_ ?_ ?_ CL.out ?_); rfl; rfl; rfl)
    | ((with_reducible refine ld_id (l := A) (x := .tmp 1) (p := ⟨ga, 0, none⟩) ?_ ?_ ?_ L5.out.1 AL.out ?_); rfl; rfl; rfl)
    | ((with_reducible refine bs_id2 (l := A) (x := .tmp 18) ?_ ?_ ?_ AL.out ?_); rfl; rfl; rfl))
  with_reducible refine HNX.out.mono ?_
  rintro r w7 ⟨nv, R, rfl, hR1, hR2, hR3, _, _, hb7⟩
  obtain rfl : R = [B, C] := by
    rw [HABC.out.1, HABC.out.2.1, HABC.out.2.2] at hR3
    rw [HABC.out.2.1, HABC.out.2.2]
    exact dp_next_kn hR2 hR3
  obtain ⟨ao, cp, rfl⟩ : ∃ ao cap, nv = .slice ao 2 cap := by simpa using RowsAt.form hR1
  obtain ⟨va, rfl, _, hvB⟩ := RowsAt.elem hR1 0 (idC B) rfl
  obtain ⟨va', e, _, hvC⟩ := RowsAt.elem hR1 1 (idC C) rfl
  injection e with e
  subst e
  have hz36 := H36.out.size
  have H37 := Lib.hid (H36.out.trans (hb7.mono hz36))
  have HVB := Lib.hid hvB
  have HVC := Lib.hid hvC
  have HBB := Lib.hid (bound_bad w7 (.pointer none) (.slice none 0 0) 0 (by omega))
  have L7 := Lib.hid (HXX.out w7 H37.out)
  have HN8 := Lib.hid (below_new w7 (.cells (idC A).toArray 28))
  have HOF := Lib.hid (of_nil (w7.alloc (.cells (idC A).toArray 28)) (.slice (some ⟨w7.heap.size, 0, none⟩) 1 1) [A] 1 (one_at (heap_alloc_new _ _) AL.out) (fun i hi => by rw [List.mem_singleton.1 hi]; exact AL.out) (by simp) (by omega) (by omega))
  clear hR1 hR2 hR3 hb7 hvB hvC L3 L4 L5 BS2 HNX H36 HW4 HW5 HW6 hz36
  clear XA XB XC3 BA BB BC
  go_wp2_with fail
  with_reducible refine HBB.out.mono ?_
  rintro r w7' ⟨rfl, hw7⟩
  subst hw7
  go_wp2_with (first
    | ((with_reducible refine ld_id (l := A) (x := .tmp 1) (p := ⟨ga, 0, none⟩) ?_ ?_ ?_ L7.out.1 AL.out ?_); rfl; rfl; rfl)
    | ((with_reducible refine bs_id2 (l := A) (x := .tmp 27) ?_ ?_ ?_ AL.out ?_); rfl; rfl; rfl))
  with_reducible refine HOF.out.mono ?_
  rintro r w9 ⟨rfl, hb9⟩
  have HB79 := Lib.hid (HN8.out.trans (hb9.mono HN8.out.size))
  have hz37 := H37.out.size
  have HBZ := Lib.hid (HBL3.out.trans ((H37.out.trans (HB79.out.mono hz37)).mono (by have := HBL3.out.size; omega)))
  have hcl : ∀ {p : Addr} {l : List UInt8}, (∀ j u, (idC l)[j]? = some u → w7'.cell? (p.add j) = some u) → ∀ w' : World, (∀ g, g < w9.heap.size → w'.heap[g]? = w9.heap[g]?) → ∀ j u, (idC l)[j]? = some u → w'.cell? (p.add j) = some u := fun h w' hw j u hu => by
    have h1 := h j u hu
    have h2 := World.block_lt_of_cell? _ _ h1
    rw [World.cell?_of_block (w := w7') ((hw _ (Nat.lt_of_lt_of_le h2 HB79.out.size)).trans (HB79.out.block _ h2))]; exact h1
  have HLB := Lib.hid (hcl HVB.out)
  have HLC := Lib.hid (hcl HVC.out)
  have HB2 := Lib.hid (hcl L7.out.2.1)
  have HC2 := Lib.hid (hcl L7.out.2.2)
  have HEB := Lib.hid (fun W => show (Op.equalIn 10000 28 (.agg (idC B).toArray) (.agg (idC B).toArray)).run Try.prog W = .ok true W from by have := eq_id B B BL.out BL.out W; simpa using this)
  have HEC := Lib.hid (fun W => show (Op.equalIn 10000 28 (.agg (idC C).toArray) (.agg (idC C).toArray)).run Try.prog W = .ok true W from by have := eq_id C C CL.out CL.out W; simpa using this)
  clear hcl hb9 HOF HBB L7 HXX HN8 HB79 H37 HBL3 hz37 HVB HVC
  go_wp2_with fail
  refine wp_region_noPanic ?_
  refine wp_region_held_drew (S := (fun w' => ∀ g, g < w9.heap.size → w'.heap[g]? = w9.heap[g]?)) (by kernel_rfl) (fun g _ => rfl) (fun hH => ?_)
  refine wpAnyH_take (i := 0) (v := ?_) rfl (by kernel_rfl) (by kernel_rfl) (by kernel_rfl) (fun _ _ _ h => h) (Or.inl ⟨by rfl, ?_⟩) (by assumption) ?_
  rotate_left
  · intro w' hSw; go_simp; try rfl
  try simp only [Act.put, List.getElem_toArray, List.getElem_cons_zero, List.getElem_cons_succ, List.setIfInBounds_toArray, List.set_cons_zero, List.set_cons_succ]
  refine wpAnyH_take (i := 1) (v := ?_) rfl (by kernel_rfl) (by kernel_rfl) (by kernel_rfl) (fun _ _ _ h => h) (Or.inl ⟨by rfl, ?_⟩) (by assumption) ?_
  rotate_left
  · intro w' hSw; go_simp; try rfl
  try simp only [Act.put, List.getElem_toArray, List.getElem_cons_zero, List.getElem_cons_succ, List.setIfInBounds_toArray, List.set_cons_zero, List.set_cons_succ]
  refine wpAnyH_take (i := 2) (v := ?_) rfl (by kernel_rfl) (by kernel_rfl) (by kernel_rfl) (fun _ _ _ h => h) (Or.inl ⟨by rfl, ?_⟩) (by assumption) ?_
  rotate_left
  · intro w' hSw; go_simp; try rfl
  try simp only [Act.put, List.getElem_toArray, List.getElem_cons_zero, List.getElem_cons_succ, List.setIfInBounds_toArray, List.set_cons_zero, List.set_cons_succ]
  refine wpAnyH_take (i := 3) (v := ?_) rfl (by kernel_rfl) (by kernel_rfl) (by kernel_rfl) (fun _ _ _ h => h) (Or.inl ⟨by rfl, ?_⟩) (by assumption) ?_
  rotate_left
  · intro w' hSw; go_simp; try rfl
  try simp only [Act.put, List.getElem_toArray, List.getElem_cons_zero, List.getElem_cons_succ, List.setIfInBounds_toArray, List.set_cons_zero, List.set_cons_succ]
  refine wpAnyH_take (i := 4) (v := ?_) rfl (by kernel_rfl) (by kernel_rfl) (by kernel_rfl) (fun _ _ _ h => h) (Or.inl ⟨by rfl, ?_⟩) (by assumption) ?_
  rotate_left
  · intro w' hSw; go_simp; try rfl
  try simp only [Act.put, List.getElem_toArray, List.getElem_cons_zero, List.getElem_cons_succ, List.setIfInBounds_toArray, List.set_cons_zero, List.set_cons_succ]
  refine wpAnyH_take (i := 5) (v := ?_) rfl (by kernel_rfl) (by kernel_rfl) (by kernel_rfl) (fun _ _ _ h => h) (Or.inl ⟨by rfl, ?_⟩) (by assumption) ?_
  rotate_left
  · intro w' hSw; go_simp; try rfl
  try simp only [Act.put, List.getElem_toArray, List.getElem_cons_zero, List.getElem_cons_succ, List.setIfInBounds_toArray, List.set_cons_zero, List.set_cons_succ]
  refine wpAnyH_take (i := 6) rfl (by kernel_rfl) (by kernel_rfl) (by kernel_rfl) (fun _ _ _ h => h) (yields_at (p := va.add 0) (cs := idC B) (by rfl) rfl rfl (fun w' hw' => HLB.out w' hw') Try.underlying28 rfl (idsize BL.out)) (by assumption) ?_
  try simp only [Act.put, List.getElem_toArray, List.getElem_cons_zero, List.getElem_cons_succ, List.setIfInBounds_toArray, List.set_cons_zero, List.set_cons_succ]
  refine wpAnyH_take (i := 7) rfl (by kernel_rfl) (by kernel_rfl) (by kernel_rfl) (fun _ _ _ h => h) (yields_at (p := ⟨gb, 0, none⟩) (cs := idC B) (by rfl) rfl rfl (fun w' hw' => HB2.out w' hw') Try.underlying28 rfl (idsize BL.out)) (by assumption) ?_
  try simp only [Act.put, List.getElem_toArray, List.getElem_cons_zero, List.getElem_cons_succ, List.setIfInBounds_toArray, List.set_cons_zero, List.set_cons_succ]
  refine wpAnyH_take (i := 8) (v := ?_) rfl (by kernel_rfl) (by kernel_rfl) (by kernel_rfl) (fun _ _ _ h => h) (Or.inl ⟨by rfl, ?_⟩) (by assumption) ?_
  rotate_left
  · intro w' hSw; have q0 := HEB.out w'; go_simp; try rfl
  try simp only [Act.put, List.getElem_toArray, List.getElem_cons_zero, List.getElem_cons_succ, List.setIfInBounds_toArray, List.set_cons_zero, List.set_cons_succ]
  refine wpAnyH_take (i := 9) (v := ?_) rfl (by kernel_rfl) (by kernel_rfl) (by kernel_rfl) (fun _ _ _ h => h) (Or.inl ⟨by rfl, ?_⟩) (by assumption) ?_
  rotate_left
  · intro w' hSw; go_simp; try rfl
  try simp only [Act.put, List.getElem_toArray, List.getElem_cons_zero, List.getElem_cons_succ, List.setIfInBounds_toArray, List.set_cons_zero, List.set_cons_succ]
  refine wpAnyH_take (i := 10) (v := ?_) rfl (by kernel_rfl) (by kernel_rfl) (by kernel_rfl) (fun _ _ _ h => h) (Or.inl ⟨by rfl, ?_⟩) (by assumption) ?_
  rotate_left
  · intro w' hSw; go_simp; try rfl
  try simp only [Act.put, List.getElem_toArray, List.getElem_cons_zero, List.getElem_cons_succ, List.setIfInBounds_toArray, List.set_cons_zero, List.set_cons_succ]
  refine wpAnyH_take (i := 11) (v := ?_) rfl (by kernel_rfl) (by kernel_rfl) (by kernel_rfl) (fun _ _ _ h => h) (Or.inl ⟨by rfl, ?_⟩) (by assumption) ?_
  rotate_left
  · intro w' hSw; go_simp; try rfl
  try simp only [Act.put, List.getElem_toArray, List.getElem_cons_zero, List.getElem_cons_succ, List.setIfInBounds_toArray, List.set_cons_zero, List.set_cons_succ]
  refine wpAnyH_take (i := 12) (v := ?_) rfl (by kernel_rfl) (by kernel_rfl) (by kernel_rfl) (fun _ _ _ h => h) (Or.inl ⟨by rfl, ?_⟩) (by assumption) ?_
  rotate_left
  · intro w' hSw; go_simp; try rfl
  try simp only [Act.put, List.getElem_toArray, List.getElem_cons_zero, List.getElem_cons_succ, List.setIfInBounds_toArray, List.set_cons_zero, List.set_cons_succ]
  refine wpAnyH_take (i := 13) rfl (by kernel_rfl) (by kernel_rfl) (by kernel_rfl) (fun _ _ _ h => h) (yields_at (p := va.add 32) (cs := idC C) (by rfl) rfl rfl (fun w' hw' => HLC.out w' hw') Try.underlying28 rfl (idsize CL.out)) (by assumption) ?_
  try simp only [Act.put, List.getElem_toArray, List.getElem_cons_zero, List.getElem_cons_succ, List.setIfInBounds_toArray, List.set_cons_zero, List.set_cons_succ]
  refine wpAnyH_take (i := 14) rfl (by kernel_rfl) (by kernel_rfl) (by kernel_rfl) (fun _ _ _ h => h) (yields_at (p := ⟨gc, 0, none⟩) (cs := idC C) (by rfl) rfl rfl (fun w' hw' => HC2.out w' hw') Try.underlying28 rfl (idsize CL.out)) (by assumption) ?_
  try simp only [Act.put, List.getElem_toArray, List.getElem_cons_zero, List.getElem_cons_succ, List.setIfInBounds_toArray, List.set_cons_zero, List.set_cons_succ]
  refine wpAnyH_take (i := 15) (v := ?_) rfl (by kernel_rfl) (by kernel_rfl) (by kernel_rfl) (fun _ _ _ h => h) (Or.inl ⟨by rfl, ?_⟩) (by assumption) ?_
  rotate_left
  · intro w' hSw; have q0 := HEC.out w'; go_simp; try rfl
  try simp only [Act.put, List.getElem_toArray, List.getElem_cons_zero, List.getElem_cons_succ, List.setIfInBounds_toArray, List.set_cons_zero, List.set_cons_succ]
  refine wpAnyH_take (i := 16) (v := ?_) rfl (by kernel_rfl) (by kernel_rfl) (by kernel_rfl) (fun _ _ _ h => h) (Or.inl ⟨by rfl, ?_⟩) (by assumption) ?_
  rotate_left
  · intro w' hSw; go_simp; try rfl
  try simp only [Act.put, List.getElem_toArray, List.getElem_cons_zero, List.getElem_cons_succ, List.setIfInBounds_toArray, List.set_cons_zero, List.set_cons_succ]
  refine wpAnyH_take (i := 17) (v := ?_) rfl (by kernel_rfl) (by kernel_rfl) (by kernel_rfl) (fun _ _ _ h => h) (Or.inl ⟨by rfl, ?_⟩) (by assumption) ?_
  rotate_left
  · intro w' hSw; go_simp; try rfl
  try simp only [Act.put, List.getElem_toArray, List.getElem_cons_zero, List.getElem_cons_succ, List.setIfInBounds_toArray, List.set_cons_zero, List.set_cons_succ]
  refine wpAnyH_take (i := 18) (v := ?_) rfl (by kernel_rfl) (by kernel_rfl) (by kernel_rfl) (fun _ _ _ h => h) (Or.inl ⟨by rfl, ?_⟩) (by assumption) ?_
  rotate_left
  · intro w' hSw; go_simp; try rfl
  try simp only [Act.put, List.getElem_toArray, List.getElem_cons_zero, List.getElem_cons_succ, List.setIfInBounds_toArray, List.set_cons_zero, List.set_cons_succ]
  refine wpAnyH_take (i := 19) (v := ?_) rfl (by kernel_rfl) (by kernel_rfl) (by kernel_rfl) (fun _ _ _ h => h) (Or.inl ⟨by rfl, ?_⟩) (by assumption) ?_
  rotate_left
  · intro w' hSw; go_simp; try rfl
  try simp only [Act.put, List.getElem_toArray, List.getElem_cons_zero, List.getElem_cons_succ, List.setIfInBounds_toArray, List.set_cons_zero, List.set_cons_succ]
  refine wpAnyH_take (i := 20) (v := ?_) rfl (by kernel_rfl) (by kernel_rfl) (by kernel_rfl) (fun _ _ _ h => h) (Or.inl ⟨by rfl, ?_⟩) (by assumption) ?_
  rotate_left
  · intro w' hSw; go_simp; try rfl
  try simp only [Act.put, List.getElem_toArray, List.getElem_cons_zero, List.getElem_cons_succ, List.setIfInBounds_toArray, List.set_cons_zero, List.set_cons_succ]
  refine wpAnyH_take (i := 21) (v := ?_) rfl (by kernel_rfl) (by kernel_rfl) (by kernel_rfl) (fun _ _ _ h => h) (Or.inl ⟨by rfl, ?_⟩) (by assumption) ?_
  rotate_left
  · intro w' hSw; go_simp; try rfl
  try simp only [Act.put, List.getElem_toArray, List.getElem_cons_zero, List.getElem_cons_succ, List.setIfInBounds_toArray, List.set_cons_zero, List.set_cons_succ]
  refine wpAnyH_take (i := 22) (v := ?_) rfl (by kernel_rfl) (by kernel_rfl) (by kernel_rfl) (fun _ _ _ h => h) (Or.inl ⟨by rfl, ?_⟩) (by assumption) ?_
  rotate_left
  · intro w' hSw; go_simp; try rfl
  try simp only [Act.put, List.getElem_toArray, List.getElem_cons_zero, List.getElem_cons_succ, List.setIfInBounds_toArray, List.set_cons_zero, List.set_cons_succ]
  refine wpAnyH_take (i := 23) (v := ?_) rfl (by kernel_rfl) (by kernel_rfl) (by kernel_rfl) (fun _ _ _ h => h) (Or.inl ⟨by rfl, ?_⟩) (by assumption) ?_
  rotate_left
  · intro w' hSw; go_simp; try rfl
  try simp only [Act.put, List.getElem_toArray, List.getElem_cons_zero, List.getElem_cons_succ, List.setIfInBounds_toArray, List.set_cons_zero, List.set_cons_succ]
  refine wpAnyH_take (i := 24) (v := ?_) rfl (by kernel_rfl) (by kernel_rfl) (by kernel_rfl) (fun _ _ _ h => h) (Or.inl ⟨by rfl, ?_⟩) (by assumption) ?_
  rotate_left
  · intro w' hSw; go_simp; try rfl
  try simp only [Act.put, List.getElem_toArray, List.getElem_cons_zero, List.getElem_cons_succ, List.setIfInBounds_toArray, List.set_cons_zero, List.set_cons_succ]
  refine wpAnyH_take (i := 25) (v := ?_) rfl (by kernel_rfl) (by kernel_rfl) (by kernel_rfl) (fun _ _ _ h => h) (Or.inl ⟨by rfl, ?_⟩) (by assumption) ?_
  rotate_left
  · intro w' hSw; go_simp; try rfl
  try simp only [Act.put, List.getElem_toArray, List.getElem_cons_zero, List.getElem_cons_succ, List.setIfInBounds_toArray, List.set_cons_zero, List.set_cons_succ]
  refine wpAnyH_take (i := 26) (v := ?_) rfl (by kernel_rfl) (by kernel_rfl) (by kernel_rfl) (fun _ _ _ h => h) (Or.inl ⟨by rfl, ?_⟩) (by assumption) ?_
  rotate_left
  · intro w' hSw; go_simp; try rfl
  try simp only [Act.put, List.getElem_toArray, List.getElem_cons_zero, List.getElem_cons_succ, List.setIfInBounds_toArray, List.set_cons_zero, List.set_cons_succ]
  refine wpAnyH_take (i := 27) (v := ?_) rfl (by kernel_rfl) (by kernel_rfl) (by kernel_rfl) (fun _ _ _ h => h) (Or.inl ⟨by rfl, ?_⟩) (by assumption) ?_
  rotate_left
  · intro w' hSw; go_simp; try rfl
  try simp only [Act.put, List.getElem_toArray, List.getElem_cons_zero, List.getElem_cons_succ, List.setIfInBounds_toArray, List.set_cons_zero, List.set_cons_succ]
  refine wpAnyH_take (i := 28) (v := ?_) rfl (by kernel_rfl) (by kernel_rfl) (by kernel_rfl) (fun _ _ _ h => h) (Or.inl ⟨by rfl, ?_⟩) (by assumption) ?_
  rotate_left
  · intro w' hSw; go_simp; try rfl
  try simp only [Act.put, List.getElem_toArray, List.getElem_cons_zero, List.getElem_cons_succ, List.setIfInBounds_toArray, List.set_cons_zero, List.set_cons_succ]
  refine wpAnyH_take (i := 29) (v := ?_) rfl (by kernel_rfl) (by kernel_rfl) (by kernel_rfl) (fun _ _ _ h => h) (Or.inl ⟨by rfl, ?_⟩) (by assumption) ?_
  rotate_left
  · intro w' hSw; go_simp; try rfl
  try simp only [Act.put, List.getElem_toArray, List.getElem_cons_zero, List.getElem_cons_succ, List.setIfInBounds_toArray, List.set_cons_zero, List.set_cons_succ]
  refine wpAnyH_take (i := 30) (v := ?_) rfl (by kernel_rfl) (by kernel_rfl) (by kernel_rfl) (fun _ _ _ h => h) (Or.inl ⟨by rfl, ?_⟩) (by assumption) ?_
  rotate_left
  · intro w' hSw; go_simp; try rfl
  try simp only [Act.put, List.getElem_toArray, List.getElem_cons_zero, List.getElem_cons_succ, List.setIfInBounds_toArray, List.set_cons_zero, List.set_cons_succ]
  refine wpAnyH_done (by kernel_rfl) ?_ _
  refine NoPanic.normal ?_
  go_wp2_with fail
  go_ret
  exact ⟨rfl, by rw [hga]; exact HBZ.out.drew⟩
end Go.Proofs.Ytkcjhkfelaplkaa
