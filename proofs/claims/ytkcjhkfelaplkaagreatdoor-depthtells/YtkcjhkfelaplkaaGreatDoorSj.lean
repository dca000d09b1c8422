/-
  LAYER 13: the document's examples.
-/
import Derived.Test.YtkcjhkfelaplkaaGreatDoorSf
import Derived.Test.YtkcjhkfelaplkaaGreatDoorQy
import Derived.Test.YtkcjhkfelaplkaaGreatDoorQx
import Derived.Test.YtkcjhkfelaplkaaGreatDoorQw
import Derived.Test.YtkcjhkfelaplkaaGreatDoorSg
import Derived.Test.YtkcjhkfelaplkaaGreatDoorQa
set_option linter.unusedVariables false
set_option linter.unusedSimpArgs false
set_option maxHeartbeats 8000000
set_option maxRecDepth 100000
section
namespace Go.Proofs.YtkcjhkfelaplkaaGreatDoor
open Go.RowKit
theorem dp_builtS2 : Tryz.prog.builtSlice 46 2 [(0, .agg (idC (oneId 1)).toArray), (1, .agg (idC (oneId 2)).toArray)] = some (idC (oneId 1) ++ idC (oneId 2)).toArray := by kernel_rfl
theorem dp_bs2 {ops : Array Oper} {rest : List Oper} {op : Oper} {a : Act} {w : World} {Q : Exit → Act → World → Prop} {x y : Operand} {l m : List UInt8} (ho : op.op = .buildSlice 34 2 #[(0, x), (1, y)]) (hx : a.eval x = .agg (idC l).toArray) (hy : a.eval y = .agg (idC m).toArray) (hg : op.guard = none)
  (hb : Tryz.prog.builtSlice 46 2 [(0, .agg (idC l).toArray), (1, .agg (idC m).toArray)] = some (idC l ++ idC m).toArray)
  (h : wpList Tryz.prog ops Q rest (a.put op.dst (.slice (some ⟨w.heap.size, 0, none⟩) 2 2)) (w.alloc (.cells (idC l ++ idC m).toArray 46))) : wpList Tryz.prog ops Q (op :: rest) a w :=
 Great.wpList_buildSliceTo hg _ 46 2 _ ho w.heap.size rfl op.dst rfl Tryz.underlying34 _ (by simp only [List.map_toArray, List.map_cons, List.map_nil, hx, hy]; exact hb) h
theorem dp_two {w : World} {g : Nat} {a b : List UInt8} (h : w.heap[g]? = some (.cells (idC a ++ idC b).toArray 46 (0, 0))) (ha : a.length = 32) (hb : b.length = 32) : IdsAt w (.slice (some ⟨g, 0, none⟩) 2 2) [a, b] := by
 have h1 : (idC a).length = 32 := by rw [idC_length, ha]
 have h2 : (idC b).length = 32 := by rw [idC_length, hb]
 refine OwnI.rows (base := 0) (I := [a, b]) ⟨⟨by simp [h1, h2], .inr ⟨g, 2, _, rfl, Nat.zero_le _, h, by simp, by unfold maxLen; omega, by simp [h1, h2], ?_⟩⟩, fun i hi => ?_⟩
 · simp [List.take_of_length_le, h1, h2]
 ·
  simp only [List.mem_cons, List.not_mem_nil, or_false] at hi
  rcases hi with rfl | rfl
  · exact ha
  · exact hb
theorem dp_next_kn {R : List (List UInt8)} (h : Gr.Up R) (hm : ∀ x, x ∈ R ↔ x ∈ [oneId 3] ∨ (x ∈ [oneId 1, oneId 2] ∧ x ∉ [oneId 1])) : R = [oneId 2, oneId 3] := by
 refine Gr.up_eq h ?_ fun x => ?_
 ·
  refine List.Pairwise.cons (fun y hy => ?_) (List.pairwise_singleton _ _)
  rw [List.mem_singleton.1 hy]; decide
 ·
  have hne : oneId 2 ≠ oneId 1 := by decide
  rw [hm x]
  simp only [List.mem_cons, List.not_mem_nil, or_false]
  constructor
  ·
   rintro (h | ⟨h | h, h2⟩)
   · exact .inr h
   · exact absurd h h2
   · exact .inl h
  ·
   rintro (h | h)
   · exact .inr ⟨.inr h, by rw [h]; exact hne⟩
   · exact .inl h
theorem dp_built (c : UInt8) : Tryz.prog.built 46 [(0, .int .u8 (c.toNat : Int))] = some (idC (oneId c)).toArray := built_one c
theorem dpbd {ops : Array Oper} {rest : List Oper} {op : Oper} {a : Act} {w : World} {Q : Exit → Act → World → Prop} {l : List UInt8} (z : Int) (ho : op.op = .build 46 #[(0, .const (.int .u8 z))]) (hg : op.guard = none) (hb : Tryz.prog.built 46 [(0, .int .u8 z)] = some (idC l).toArray)
  (h : wpList Tryz.prog ops Q rest (a.put op.dst (.agg (idC l).toArray)) w) : wpList Tryz.prog ops Q (op :: rest) a w :=
 wpList_build_as hg _ _ ho _ (by simp only [List.map_toArray, List.map_cons, List.map_nil]; exact hb) h
theorem dpknows_any (w : World) : Calls Tryz.prog 8 #[] w fun r w' => r = .returned (.bool true) ∧ Below w.heap.size w w' := by
 obtain ⟨A, hA⟩ : ∃ A, A = oneId 1 := ⟨_, rfl⟩
 obtain ⟨B, hB⟩ : ∃ B, B = oneId 2 := ⟨_, rfl⟩
 obtain ⟨C, hC⟩ : ∃ C, C = oneId 3 := ⟨_, rfl⟩
 have AL := Lib.hid (show A.length = 32 from by rw [hA]; rfl)
 have BL := Lib.hid (show B.length = 32 from by rw [hB]; rfl)
 have CL := Lib.hid (show C.length = 32 from by rw [hC]; rfl)
 have BA := Lib.hid (show Tryz.prog.built 46 [(0, .int .u8 1)] = some (idC A).toArray from by rw [hA]; exact dp_built 1)
 have BB := Lib.hid (show Tryz.prog.built 46 [(0, .int .u8 2)] = some (idC B).toArray from by rw [hB]; exact dp_built 2)
 have BC := Lib.hid (show Tryz.prog.built 46 [(0, .int .u8 3)] = some (idC C).toArray from by rw [hC]; exact dp_built 3)
 have HABC := Lib.hid (And.intro hA (And.intro hB hC))
 clear hA hB hC
 go_enter Tryz.func8, Tryz.ntmps8
 go_upto_region 2 with (first
  | ((with_reducible refine dpbd 1 ?_ ?_ BA.out ?_); rfl; rfl)
  | ((with_reducible apply st_id (hl := AL.out)); rfl; rfl; rfl; rfl; rfl))
 have XA1 := Lib.hid (heap_alloc_new w (.cells (idC A).toArray 46))
 have HB1 := Lib.hid (below_new w (.cells (idC A).toArray 46))
 generalize w.alloc (.cells (idC A).toArray 46) = w1 at *
 go_upto_region 3 with (first
  | ((with_reducible refine dpbd 2 ?_ ?_ BB.out ?_); rfl; rfl)
  | ((with_reducible apply st_id (hl := BL.out)); rfl; rfl; rfl; rfl; rfl))
 have XB2 := Lib.hid (heap_alloc_new w1 (.cells (idC B).toArray 46))
 have HB12 := Lib.hid (below_new w1 (.cells (idC B).toArray 46))
 generalize w1.alloc (.cells (idC B).toArray 46) = w2 at *
 go_upto_region 4 with (first
  | ((with_reducible refine dpbd 3 ?_ ?_ BC.out ?_); rfl; rfl)
  | ((with_reducible apply st_id (hl := CL.out)); rfl; rfl; rfl; rfl; rfl))
 have XC3 := Lib.hid (heap_alloc_new w2 (.cells (idC C).toArray 46))
 have HB23 := Lib.hid (below_new w2 (.cells (idC C).toArray 46))
 generalize w2.alloc (.cells (idC C).toArray 46) = w3 at *
 have z1 : w.heap.size < w1.heap.size := (Array.getElem?_eq_some_iff.1 XA1.out).1
 have z2 : w1.heap.size < w2.heap.size := (Array.getElem?_eq_some_iff.1 XB2.out).1
 have z3 : w2.heap.size < w3.heap.size := (Array.getElem?_eq_some_iff.1 XC3.out).1
 have XA := Lib.hid (show w3.heap[w.heap.size]? = some (.cells (idC A).toArray 46 (0, 0)) from ((HB23.out.block _ (by omega)).trans (HB12.out.block _ (by omega))).trans XA1.out)
 have XB := Lib.hid (show w3.heap[w1.heap.size]? = some (.cells (idC B).toArray 46 (0, 0)) from (HB23.out.block _ (by omega)).trans XB2.out)
 have HBL3 := Lib.hid (show Below w.heap.size w w3 from (HB1.out.trans (HB12.out.mono (by omega))).trans (HB23.out.mono (by omega)))
 generalize hga : w.heap.size = ga at *
 generalize w1.heap.size = gb at *
 generalize w2.heap.size = gc at *
 clear XA1 XB2 HB1 HB12 HB23
 have HXX := Lib.hid (fun (W : World) (hb : Below w3.heap.size w3 W) => show (∀ j u, (idC A)[j]? = some u → W.cell? ((⟨ga, 0, none⟩ : Addr).add j) = some u) ∧ (∀ j u, (idC B)[j]? = some u → W.cell? ((⟨gb, 0, none⟩ : Addr).add j) = some u) ∧ (∀ j u, (idC C)[j]? = some u → W.cell? ((⟨gc, 0, none⟩ : Addr).add j) = some u) from
  ⟨row_news ((hb.block _ (by omega)).trans XA.out), row_news ((hb.block _ (by omega)).trans XB.out), row_news ((hb.block _ (by omega)).trans XC3.out)⟩)
 have HN1 := Lib.hid (below_new w3 (.cells (idC A ++ idC B).toArray 46))
 obtain ⟨w4, hw4⟩ : ∃ W, W = w3.alloc (.cells (idC A ++ idC B).toArray 46) := ⟨_, rfl⟩
 obtain ⟨w5, hw5⟩ : ∃ W, W = w4.alloc (.cells (idC C).toArray 46) := ⟨_, rfl⟩
 obtain ⟨w6, hw6⟩ : ∃ W, W = w5.alloc (.cells (idC A).toArray 46) := ⟨_, rfl⟩
 have e4 : w4.heap.size = w3.heap.size + 1 := by rw [hw4]; simp
 have e5 : w5.heap.size = w3.heap.size + 1 + 1 := by rw [hw5]; simp [e4]
 have b34 : Below w3.heap.size w3 w4 := by rw [hw4]; exact below_new _ _
 have b45 : Below w4.heap.size w4 w5 := by rw [hw5]; exact below_new _ _
 have b56 : Below w5.heap.size w5 w6 := by rw [hw6]; exact below_new _ _
 have b35 : Below w3.heap.size w3 w5 := b34.trans (b45.mono b34.size)
 have b36 : Below w3.heap.size w3 w6 := b35.trans (b56.mono b35.size)
 have I1 := Lib.hid (show IdsAt w6 (.slice (some ⟨w3.heap.size, 0, none⟩) 2 2) [A, B] from RowsAt.below (RowsAt.below (dp_two (w := w4) (by rw [hw4]; exact heap_alloc_new _ _) AL.out BL.out) b45) b56)
 have I2 := Lib.hid (show IdsAt w6 (.slice (some ⟨w3.heap.size + 1, 0, none⟩) 1 1) [C] from by rw [← e4]; exact RowsAt.below (one_at (w := w5) (by rw [hw5]; exact heap_alloc_new _ _) CL.out) b56)
 have I3 := Lib.hid (show IdsAt w6 (.slice (some ⟨w3.heap.size + 1 + 1, 0, none⟩) 1 1) [A] from by rw [← e5]; exact one_at (by rw [hw6]; exact heap_alloc_new _ _) AL.out)
 have HNX := Lib.hid (dpnext_any w6 _ _ _ [A, B] [C] [A] I1.out I2.out I3.out (fun i hi => by simp only [List.mem_cons, List.not_mem_nil, or_false] at hi; rcases hi with rfl | rfl; exact AL.out; exact BL.out) (fun i hi => by rw [List.mem_singleton.1 hi]; exact CL.out) (fun i hi => by rw [List.mem_singleton.1 hi]; exact AL.out) (by simp) (by simp) (by simp))
 have H36 := Lib.hid b36
 have L3 := Lib.hid (HXX.out w3 (Below.refl _ _))
 have L4 := Lib.hid (HXX.out w4 b34)
 have L5 := Lib.hid (HXX.out w5 b35)
 have BS2 := Lib.hid (show Tryz.prog.builtSlice 46 2 [(0, .agg (idC A).toArray), (1, .agg (idC B).toArray)] = some (idC A ++ idC B).toArray from by rw [HABC.out.1, HABC.out.2.1]; exact dp_builtS2)
 unfold NextP at HNX
 have HW4 := Lib.hid hw4
 have HW5 := Lib.hid hw5
 have HW6 := Lib.hid hw6
 clear b34 b45 b56 b35 b36 I1 I2 I3 HN1 e4 e5
 subst hw6
 subst hw5
 subst hw4
 go_wp2_with (first
  | ((with_reducible refine ld_id (l := A) (x := .tmp 1) (p := ⟨ga, 0, none⟩) ?_ ?_ ?_ L3.out.1 AL.out ?_); rfl; rfl; rfl)
  | ((with_reducible refine ld_id (l := B) (x := .tmp 2) (p := ⟨gb, 0, none⟩) ?_ ?_ ?_ L3.out.2.1 BL.out ?_); rfl; rfl; rfl)
  | ((with_reducible refine dp_bs2 (l := A) (m := B) (x := .tmp 13) (y := .tmp 14) ?_ ?_ ?_ ?_ BS2.out ?_); rfl; rfl; rfl; rfl)
  | ((with_reducible refine ld_id (l := C) (x := .tmp 3) (p := ⟨gc, 0, none⟩) ?_ ?_ ?_ L4.out.2.2 CL.out ?_); rfl; rfl; rfl)
  | ((with_reducible refine bs_id2 (l := C) (x := .tmp 16) ?_ ?_ ?_ CL.out ?_); rfl; rfl; rfl)
  | ((with_reducible refine ld_id (l := A) (x := .tmp 1) (p := ⟨ga, 0, none⟩) ?_ ?_ ?_ L5.out.1 AL.out ?_); rfl; rfl; rfl)
  | ((with_reducible refine bs_id2 (l := A) (x := .tmp 18) ?_ ?_ ?_ AL.out ?_); rfl; rfl; rfl))
 with_reducible refine HNX.out.mono ?_
 rintro r w7 ⟨nv, R, rfl, hR1, hR2, hR3, _, _, hb7⟩
 obtain rfl : R = [B, C] := by
  rw [HABC.out.1, HABC.out.2.1, HABC.out.2.2] at hR3
  rw [HABC.out.2.1, HABC.out.2.2]
  exact dp_next_kn hR2 hR3
 obtain ⟨ao, cp, rfl⟩ : ∃ ao cap, nv = .slice ao 2 cap := by simpa using RowsAt.form hR1
 obtain ⟨va, rfl, _, hvB⟩ := RowsAt.elem hR1 0 (idC B) rfl
 obtain ⟨va', e, _, hvC⟩ := RowsAt.elem hR1 1 (idC C) rfl
 injection e with e
 subst e
 have hz36 := H36.out.size
 have H37 := Lib.hid (H36.out.trans (hb7.mono hz36))
 have HVB := Lib.hid hvB
 have HVC := Lib.hid hvC
 have HBB := Lib.hid (bound_bad w7 (.pointer none) (.slice none 0 0) 0 (by omega))
 have L7 := Lib.hid (HXX.out w7 H37.out)
 have HN8 := Lib.hid (below_new w7 (.cells (idC A).toArray 46))
 have HOF := Lib.hid (of_nil (w7.alloc (.cells (idC A).toArray 46)) (.slice (some ⟨w7.heap.size, 0, none⟩) 1 1) [A] 1 (one_at (heap_alloc_new _ _) AL.out) (fun i hi => by rw [List.mem_singleton.1 hi]; exact AL.out) (by simp) (by omega) (by omega))
 clear hR1 hR2 hR3 hb7 hvB hvC L3 L4 L5 BS2 HNX H36 HW4 HW5 HW6 hz36
 clear XA XB XC3 BA BB BC
 go_wp2_with fail
 with_reducible refine HBB.out.mono ?_
 rintro r w7' ⟨rfl, hw7⟩
 subst hw7
 go_wp2_with (first
  | ((with_reducible refine ld_id (l := A) (x := .tmp 1) (p := ⟨ga, 0, none⟩) ?_ ?_ ?_ L7.out.1 AL.out ?_); rfl; rfl; rfl)
  | ((with_reducible refine bs_id2 (l := A) (x := .tmp 27) ?_ ?_ ?_ AL.out ?_); rfl; rfl; rfl))
 with_reducible refine HOF.out.mono ?_
 rintro r w9 ⟨rfl, hb9⟩
 have HB79 := Lib.hid (HN8.out.trans (hb9.mono HN8.out.size))
 have hz37 := H37.out.size
 have HBZ := Lib.hid (HBL3.out.trans ((H37.out.trans (HB79.out.mono hz37)).mono (by have := HBL3.out.size; omega)))
 have hcl : ∀ {p : Addr} {l : List UInt8}, (∀ j u, (idC l)[j]? = some u → w7'.cell? (p.add j) = some u) → ∀ w' : World, (∀ g, g < w9.heap.size → w'.heap[g]? = w9.heap[g]?) → ∀ j u, (idC l)[j]? = some u → w'.cell? (p.add j) = some u := fun h w' hw j u hu => by
  have h1 := h j u hu
  have h2 := World.block_lt_of_cell? _ _ h1
  rw [World.cell?_of_block (w := w7') ((hw _ (Nat.lt_of_lt_of_le h2 HB79.out.size)).trans (HB79.out.block _ h2))]; exact h1
 have HLB := Lib.hid (hcl HVB.out)
 have HLC := Lib.hid (hcl HVC.out)
 have HB2 := Lib.hid (hcl L7.out.2.1)
 have HC2 := Lib.hid (hcl L7.out.2.2)
 have HEB := Lib.hid (fun W => show (Op.equalIn 10000 46 (.agg (idC B).toArray) (.agg (idC B).toArray)).run Tryz.prog W = .ok true W from by have := eq_id B B BL.out BL.out W; simpa using this)
 have HEC := Lib.hid (fun W => show (Op.equalIn 10000 46 (.agg (idC C).toArray) (.agg (idC C).toArray)).run Tryz.prog W = .ok true W from by have := eq_id C C CL.out CL.out W; simpa using this)
 clear hcl hb9 HOF HBB L7 HXX HN8 HB79 H37 HBL3 hz37 HVB HVC
 go_wp2_with fail
 refine wp_region_noPanic ?_
 refine wp_region_held_drew (S := (fun w' => ∀ g, g < w9.heap.size → w'.heap[g]? = w9.heap[g]?)) (by kernel_rfl) (fun g _ => rfl) (fun hH => ?_)
 refine tk (i := 0) (v := ?_) ?_ ?_
 rotate_left
 · intro w' hSw; go_simp; try rfl
 try simp only [q0]
 refine tk (i := 1) (v := ?_) ?_ ?_
 rotate_left
 · intro w' hSw; go_simp; try rfl
 try simp only [q0]
 refine tk (i := 2) (v := ?_) ?_ ?_
 rotate_left
 · intro w' hSw; go_simp; try rfl
 try simp only [q0]
 refine tk (i := 3) (v := ?_) ?_ ?_
 rotate_left
 · intro w' hSw; go_simp; try rfl
 try simp only [q0]
 refine tk (i := 4) (v := ?_) ?_ ?_
 rotate_left
 · intro w' hSw; go_simp; try rfl
 try simp only [q0]
 refine tk (i := 5) (v := ?_) ?_ ?_
 rotate_left
 · intro w' hSw; go_simp; try rfl
 try simp only [q0]
 refine wpAnyH_take (i := 6) rfl (by kernel_rfl) (by kernel_rfl) (by kernel_rfl) (fun _ _ _ h => h) (yields_at (p := va.add 0) (cs := idC B) (by rfl) rfl rfl (fun w' hw' => HLB.out w' hw') Tryz.underlying46 rfl (idsize BL.out)) (by assumption) ?_
 try simp only [q0]
 refine wpAnyH_take (i := 7) rfl (by kernel_rfl) (by kernel_rfl) (by kernel_rfl) (fun _ _ _ h => h) (yields_at (p := ⟨gb, 0, none⟩) (cs := idC B) (by rfl) rfl rfl (fun w' hw' => HB2.out w' hw') Tryz.underlying46 rfl (idsize BL.out)) (by assumption) ?_
 try simp only [q0]
 refine tk (i := 8) (v := ?_) ?_ ?_
 rotate_left
 · intro w' hSw; have q0 := HEB.out w'; go_simp; try rfl
 try simp only [q0]
 refine tk (i := 9) (v := ?_) ?_ ?_
 rotate_left
 · intro w' hSw; go_simp; try rfl
 try simp only [q0]
 refine tk (i := 10) (v := ?_) ?_ ?_
 rotate_left
 · intro w' hSw; go_simp; try rfl
 try simp only [q0]
 refine tk (i := 11) (v := ?_) ?_ ?_
 rotate_left
 · intro w' hSw; go_simp; try rfl
 try simp only [q0]
 refine tk (i := 12) (v := ?_) ?_ ?_
 rotate_left
 · intro w' hSw; go_simp; try rfl
 try simp only [q0]
 refine wpAnyH_take (i := 13) rfl (by kernel_rfl) (by kernel_rfl) (by kernel_rfl) (fun _ _ _ h => h) (yields_at (p := va.add 32) (cs := idC C) (by rfl) rfl rfl (fun w' hw' => HLC.out w' hw') Tryz.underlying46 rfl (idsize CL.out)) (by assumption) ?_
 try simp only [q0]
 refine wpAnyH_take (i := 14) rfl (by kernel_rfl) (by kernel_rfl) (by kernel_rfl) (fun _ _ _ h => h) (yields_at (p := ⟨gc, 0, none⟩) (cs := idC C) (by rfl) rfl rfl (fun w' hw' => HC2.out w' hw') Tryz.underlying46 rfl (idsize CL.out)) (by assumption) ?_
 try simp only [q0]
 refine tk (i := 15) (v := ?_) ?_ ?_
 rotate_left
 · intro w' hSw; have q0 := HEC.out w'; go_simp; try rfl
 try simp only [q0]
 refine tk (i := 16) (v := ?_) ?_ ?_
 rotate_left
 · intro w' hSw; go_simp; try rfl
 try simp only [q0]
 refine tk (i := 17) (v := ?_) ?_ ?_
 rotate_left
 · intro w' hSw; go_simp; try rfl
 try simp only [q0]
 refine tk (i := 18) (v := ?_) ?_ ?_
 rotate_left
 · intro w' hSw; go_simp; try rfl
 try simp only [q0]
 refine tk (i := 19) (v := ?_) ?_ ?_
 rotate_left
 · intro w' hSw; go_simp; try rfl
 try simp only [q0]
 refine tk (i := 20) (v := ?_) ?_ ?_
 rotate_left
 · intro w' hSw; go_simp; try rfl
 try simp only [q0]
 refine tk (i := 21) (v := ?_) ?_ ?_
 rotate_left
 · intro w' hSw; go_simp; try rfl
 try simp only [q0]
 refine tk (i := 22) (v := ?_) ?_ ?_
 rotate_left
 · intro w' hSw; go_simp; try rfl
 try simp only [q0]
 refine tk (i := 23) (v := ?_) ?_ ?_
 rotate_left
 · intro w' hSw; go_simp; try rfl
 try simp only [q0]
 refine tk (i := 24) (v := ?_) ?_ ?_
 rotate_left
 · intro w' hSw; go_simp; try rfl
 try simp only [q0]
 refine tk (i := 25) (v := ?_) ?_ ?_
 rotate_left
 · intro w' hSw; go_simp; try rfl
 try simp only [q0]
 refine tk (i := 26) (v := ?_) ?_ ?_
 rotate_left
 · intro w' hSw; go_simp; try rfl
 try simp only [q0]
 refine tk (i := 27) (v := ?_) ?_ ?_
 rotate_left
 · intro w' hSw; go_simp; try rfl
 try simp only [q0]
 refine tk (i := 28) (v := ?_) ?_ ?_
 rotate_left
 · intro w' hSw; go_simp; try rfl
 try simp only [q0]
 refine tk (i := 29) (v := ?_) ?_ ?_
 rotate_left
 · intro w' hSw; go_simp; try rfl
 try simp only [q0]
 refine tk (i := 30) (v := ?_) ?_ ?_
 rotate_left
 · intro w' hSw; go_simp; try rfl
 try simp only [q0]
 refine wpAnyH_done (by kernel_rfl) ?_ _
 refine NoPanic.normal ?_
 go_wp2_with fail
 go_ret
 exact ⟨rfl, by rw [hga]; exact HBZ.out.drew⟩
end Go.Proofs.YtkcjhkfelaplkaaGreatDoor
end
section
namespace Go.Proofs.YtkcjhkfelaplkaaGreatDoor
open Go.RowKit
theorem rise_any (w : World) (av : Value) (A : List (List UInt8)) (hA : IdsAt w av A) (hAl : ∀ i ∈ A, i.length = 32) (hAn : A.length ≤ 100000) (hu : Gr.Up A) :
  Calls Tryz.prog 18 #[av] w fun r w' => r = .returned (.bool true) ∧ Below w.heap.size w w' := by
 have HLS := Lib.hid (fun W (a b : List UInt8) (ha : a.length = 32) (hb : b.length = 32) => refless_id a b W ha hb)
 have HA := Lib.hid hA
 have HL := Lib.hid hAl
 have HU := Lib.hid hu
 obtain ⟨ao, ac, rfl⟩ : ∃ ao cap, av = .slice ao A.length cap := by simpa using RowsAt.form hA
 clear hA hAl hu
 go_enter Tryz.func18, Tryz.ntmps18
 go_wp2_with fail
 go_loopw [3] (fun i wr => ∃ (k : Nat), (k ≤ A.length ∨ k = 1) ∧ 1 ≤ k ∧ i = .int .i64 k ∧ Hid (Below w.heap.size w wr)) (fun i _ => A.length - (intOf i).toNat)
 case atStart => exact ⟨1, .inr rfl, by omega, rfl, Below.refl _ _⟩
 case round =>
  obtain ⟨k, hk, hk1, rfl, HB⟩ := hrel
  by_cases hlt : k < A.length
  ·
   have hlt' : (k : Int) < (A.length : Int) := by omega
   have hk0 : (0 : Int) ≤ (k : Int) := by omega
   obtain ⟨m, rfl⟩ : ∃ m, k = m + 1 := ⟨k - 1, by omega⟩
   obtain ⟨x, hx⟩ : ∃ x, A[m]? = some x := ⟨A[m], List.getElem?_eq_getElem (by omega)⟩
   obtain ⟨y, hy⟩ : ∃ y, A[m + 1]? = some y := ⟨A[m + 1], List.getElem?_eq_getElem hlt⟩
   have HXL := Lib.hid (HL.out x (List.mem_of_getElem? hx))
   have HYL := Lib.hid (HL.out y (List.mem_of_getElem? hy))
   obtain ⟨a, rfl, _, hc⟩ := (RowsAt.below HA.out HB.out).elem m (idC x) (by simp [hx])
   obtain ⟨a', hae, _, hc2⟩ := (RowsAt.below HA.out HB.out).elem (m + 1) (idC y) (by simp [hy])
   obtain rfl : a = a' := Option.some.inj hae
   have HC := Lib.hid (show ∀ j u, (idC x)[j]? = some u → wr.drew.cell? ((a.add (m * 32)).add j) = some u from hc)
   have HC2 := Lib.hid (show ∀ j u, (idC y)[j]? = some u → wr.drew.cell? ((a.add ((m + 1) * 32)).add j) = some u from hc2)
   have HI := Lib.hid (HLS.out wr.drew x y HXL.out HYL.out)
   have hw0 : IntKind.i64.wrap ((m : Int) + 1 - 1) = (m : Int) := by rw [show (m : Int) + 1 - 1 = m by omega]; exact IntWalk.i64_in _ (by omega)
   have hw1 : IntKind.i64.wrap (((m + 1 : Nat) : Int) - 1) = (m : Int) := by rw [show ((m + 1 : Nat) : Int) - 1 = m by omega]; exact IntWalk.i64_in _ (by omega)
   have hml : (m : Int) < (A.length : Int) := by omega
   have hm0 : (0 : Int) ≤ (m : Int) := by omega
   have h0p : (0 : Int) ≤ (m : Int) + 1 := by omega
   have hlp : (m : Int) + 1 < (A.length : Int) := by omega
   have htn : ((m : Int) + 1).toNat = m + 1 := by omega
   have hw2 : IntKind.i64.wrap (m : Int) = (m : Int) := IntWalk.i64_in _ (by omega)
   have hUp : St.lt x y = true := by
    obtain ⟨l1, e1⟩ := List.getElem?_eq_some_iff.1 hx
    obtain ⟨l2, e2⟩ := List.getElem?_eq_some_iff.1 hy
    have := List.pairwise_iff_getElem.1 HU.out m (m + 1) l1 l2 (by omega)
    rwa [e1, e2] at this
   rw [hUp] at HI
   clear hc hc2 hx hy hUp hae
   go_wp2_with fail
   refine rgn_tail 9 (by kernel_rfl) (by kernel_rfl) ?_
   simp only [List.take_succ_cons, List.take_zero, List.drop_succ_cons, List.drop_zero]
   repeat still_step
   (with_reducible apply still_id (p := a.add (m * 32)) (hc := HC.out) (hl := HXL.out))
   rfl
   rfl
   rfl
   repeat still_step
   (with_reducible apply still_id (p := a.add ((m + 1) * 32)) (hc := HC2.out) (hl := HYL.out))
   rfl
   rfl
   rfl
   refine wpStill_nil ?_
   go_wp2_with fail
   with_reducible refine HI.out.mono ?_
   rintro r w2 ⟨rfl, hb2⟩
   have HB2 := Lib.hid (HB.out.trans (((Below.refl wr.heap.size wr).drew.trans hb2).mono HB.out.size))
   clear hb2 HI HB HC HC2
   go_wp2_with fail
   go_roundw
   case rel => exact ⟨m + 2, .inl (by omega), by omega, by go_num, HB2.out⟩
   case measure => simp [intOf]; omega
  ·
   have hlt' : ¬ (k : Int) < (A.length : Int) := by omega
   go_wp2_with fail
   go_ret
   exact ⟨rfl, HB.out⟩
end Go.Proofs.YtkcjhkfelaplkaaGreatDoor
end
