/-
  WALKS OF LAYER 4: the reader: text, number, and id where there is too little; bodyMethod.
  WALKS OF LAYER 4: the reader's id, where there is too little.
  WALKS OF LAYER 4: the reader's id, where there is enough.
  THE MATHEMATICS OF LAYER 4, the way back: what the reader's steps take off the beginning of bytes, the object that bytes are decoded to, and that decoding undoes encoding.
  THE MATHEMATICS OF LAYER 4, the way back: a body read, bytes decoded; decoding and encoding undo one another.
  WALKS OF LAYER 4: the reader's steps over their mathematics.
-/
import Derived.Test.YtipigedopmgemaaDoorLc
import Derived.Lib.BufferWrite
import Derived.Test.YtipigedopmgemaaDoorLb
section
namespace Go.Proofs.YtipigedopmgemaaDoor
open Go.RowKit
set_option linter.unusedVariables false
set_option linter.unusedSimpArgs false

theorem setRow_other (w : World) (g k : Nat) (cs : Array Value) (h : k ≠ g) : (w.setRow g cs).heap[k]? = w.heap[k]? := by
  simp only [World.setRow, Array.getElem?_modify]
  rw [if_neg (fun e => h e.symm)]
theorem bd_blob {ops : Array Oper} {rest : List Oper} {op : Oper} {a : Act} {w : World} {Q : Exit → Act → World → Prop} {x y : Operand} {d : ByteArray} {c : Array Value} (ho : op.op = .build 42 #[(0, x), (1, y)]) (hx : a.eval x = .int .i64 1) (hy : a.eval y = .string d) (hg : op.guard = none) (hz : Tryd.prog.built 42 [(0, .int .i64 1), (1, .string d)] = some c)
    (h : wpList Tryd.prog ops Q rest (a.put op.dst (.agg c)) w) : wpList Tryd.prog ops Q (op :: rest) a w :=
  wpList_build_as hg _ _ ho _ (by simp only [List.map_toArray, List.map_cons, List.map_nil, hx, hy]; exact hz) h

set_option maxRecDepth 100000 in
theorem rtext_ok (g : Nat) (s t rest : ByteArray) (b : Bool) (w : World) (h : Rd w g s b) (ht : Calls Tryd.prog 56 #[.string s] w fun r w' => r = .returned (.tuple #[.string t, .string rest, .int .i64 0]) ∧ ∃ n, w' = w.drewN n) :
    Calls Tryd.prog 41 #[.pointer (some ⟨g, 0, none⟩)] w fun r w' => r = .returned (.string t) ∧ Rd w' g rest b ∧ w.grownBy w' (some g) := by
  have c0 := h.c0
  have HT := Lib.hid ht
  have f0 := h.f 0
  have H2 := Lib.hid (fun n => Rd.set0 (w := w.drewN n) h rest)
  clear h ht
  go_enter Tryd.func41, Tryd.ntmps41
  go_wp2_with fail
  refine HT.out.mono ?_
  rintro r w1 ⟨rfl, n, rfl⟩
  have c0' : (w.drewN n).cell? ⟨g, 0, none⟩ = some (.string s) := c0
  have f0' : (w.drewN n).frozen? ⟨g, 0, none⟩ = false := f0
  go_wp2
  go_ret
  exact ⟨rfl, H2.out n, ⟨rfl, rfl, rfl, (grown_set (w.drewN n) g 0 (.string rest)).size, (grown_set (w.drewN n) g 0 (.string rest)).block⟩⟩

set_option maxRecDepth 100000 in
theorem number_ok (g : Nat) (s rest : ByteArray) (k most : Nat) (b : Bool) (w : World) (h : Rd w g s b) (hk : k ≤ most) (ht : Calls Tryd.prog 76 #[.string s] w fun r w' => r = .returned (.tuple #[.int .u64 k, .string rest, .int .i64 0]) ∧ ∃ n, w' = w.drewN n) :
    Calls Tryd.prog 78 #[.pointer (some ⟨g, 0, none⟩), .int .u64 most] w fun r w' => r = .returned (.int .u64 k) ∧ Rd w' g rest b ∧ w.grownBy w' (some g) := by
  have c0 := h.c0
  have HT := Lib.hid ht
  have f0 := h.f 0
  have H2 := Lib.hid (fun n => Rd.set0 (w := w.drewN n) h rest)
  have hk' : ¬ (most : Int) < (k : Int) := by omega
  have hk2 : decide (most < k) = false := by simp; omega
  clear h ht
  go_enter Tryd.func78, Tryd.ntmps78
  go_wp2_with fail
  refine HT.out.mono ?_
  rintro r w1 ⟨rfl, n, rfl⟩
  have c0' : (w.drewN n).cell? ⟨g, 0, none⟩ = some (.string s) := c0
  have f0' : (w.drewN n).frozen? ⟨g, 0, none⟩ = false := f0
  go_wp2
  go_ret
  exact ⟨rfl, H2.out n, ⟨rfl, rfl, rfl, (grown_set (w.drewN n) g 0 (.string rest)).size, (grown_set (w.drewN n) g 0 (.string rest)).block⟩⟩

set_option maxRecDepth 100000 in
theorem number_big (g : Nat) (s rest : ByteArray) (k most : Nat) (b : Bool) (w : World) (h : Rd w g s b) (hk : most < k) (ht : Calls Tryd.prog 76 #[.string s] w fun r w' => r = .returned (.tuple #[.int .u64 k, .string rest, .int .i64 0]) ∧ ∃ n, w' = w.drewN n) :
    Calls Tryd.prog 78 #[.pointer (some ⟨g, 0, none⟩), .int .u64 most] w fun r w' => r = .returned (.int .u64 0) ∧ Rd w' g ⟨#[]⟩ true ∧ w.grownBy w' (some g) := by
  have c0 := h.c0
  have HT := Lib.hid ht
  have HF := Lib.hid (fun n => fail_any g s b (w.drewN n) h)
  have hk' : (most : Int) < (k : Int) := by omega
  have hk2 : decide (most < k) = true := by simp; omega
  clear h ht
  go_enter Tryd.func78, Tryd.ntmps78
  go_wp2_with fail
  refine HT.out.mono ?_
  rintro r w1 ⟨rfl, n, rfl⟩
  go_wp2_with fail
  refine (HF.out n).mono ?_
  rintro r w2 ⟨rfl, h1, h2⟩
  go_wp2
  go_ret
  exact ⟨rfl, h1, ⟨h2.os, h2.tape, h2.output, h2.size, h2.block⟩⟩

set_option maxRecDepth 100000 in
theorem number_none (g : Nat) (s : ByteArray) (most : Nat) (b : Bool) (w : World) (h : Rd w g s b) (ht : Calls Tryd.prog 76 #[.string s] w fun r w' => r = .returned (.tuple #[.int .u64 0, .string ⟨#[]⟩, .int .i64 2]) ∧ w = w') :
    Calls Tryd.prog 78 #[.pointer (some ⟨g, 0, none⟩), .int .u64 most] w fun r w' => r = .returned (.int .u64 0) ∧ Rd w' g ⟨#[]⟩ true ∧ w.grownBy w' (some g) := by
  have c0 := h.c0
  have HT := Lib.hid ht
  have HF := Lib.hid (fail_any g s b w h)
  clear h ht
  go_enter Tryd.func78, Tryd.ntmps78
  go_wp2_with fail
  refine HT.out.mono ?_
  rintro r w1 ⟨rfl, rfl⟩
  go_wp2_with fail
  refine HF.out.mono ?_
  rintro r w2 ⟨rfl, h1, h2⟩
  go_wp2
  go_ret
  exact ⟨rfl, h1, h2⟩

set_option maxRecDepth 100000 in
theorem method_any (k : Int) (w : World) :
    Calls Tryd.prog 42 #[.int .i64 k] w fun r w' => r = .returned (if k = 1 then .func (.func 57) #[] #[] else if k = 2 then .func (.func 58) #[] #[] else if k = 3 then .func (.func 59) #[] #[] else if k = 4 then .func (.func 60) #[] #[] else .nilFunc) ∧ w = w' := by
  rcases (by omega : k = 1 ∨ k = 2 ∨ k = 3 ∨ k = 4 ∨ (k ≠ 1 ∧ k ≠ 2 ∧ k ≠ 3 ∧ k ≠ 4)) with rfl | rfl | rfl | rfl | ⟨n1, n2, n3, n4⟩
  · go_enter Tryd.func42, Tryd.ntmps42
    go_wp2
    go_ret
    exact ⟨rfl, rfl⟩
  · go_enter Tryd.func42, Tryd.ntmps42
    go_wp2
    go_ret
    exact ⟨rfl, rfl⟩
  · go_enter Tryd.func42, Tryd.ntmps42
    go_wp2
    go_ret
    exact ⟨rfl, rfl⟩
  · go_enter Tryd.func42, Tryd.ntmps42
    go_wp2
    go_ret
    exact ⟨rfl, rfl⟩
  · rw [if_neg n1, if_neg n2, if_neg n3, if_neg n4]
    have m1 : (k == 1) = false := beq_eq_false_iff_ne.2 n1
    have m2 : (k == 2) = false := beq_eq_false_iff_ne.2 n2
    have m3 : (k == 3) = false := beq_eq_false_iff_ne.2 n3
    have m4 : (k == 4) = false := beq_eq_false_iff_ne.2 n4
    clear n1 n2 n3 n4
    go_enter Tryd.func42, Tryd.ntmps42
    go_wp2
    go_ret
    exact ⟨rfl, rfl⟩

set_option maxHeartbeats 1000000 in
set_option maxRecDepth 100000 in
theorem blob_any (g : Nat) (s : ByteArray) (b : Bool) (w : World) (h : Rd w g s b) :
    Calls Tryd.prog 57 #[.pointer (some ⟨g, 0, none⟩)] w fun r w' => r = .returned (.agg (obC { noOb with kind := 1, data := s } nilV nilV).toArray) ∧ Rd w' g ⟨#[]⟩ b ∧ w.grownBy w' (some g) := by
  have hz28 := (zero_of_info zero28).1
  have HS0 := Lib.hid noF.size
  have hF := obC_F { noOb with kind := 1, data := s } nilV nilV rfl rfl rfl rfl
  have HS := Lib.hid hF.size
  have HO := Lib.hid hF.one
  have HB := Lib.hid (built_blob s)
  generalize (obC { noOb with kind := 1, data := s } nilV nilV).toArray = c at HS HO HB ⊢
  generalize (obC noOb nilV nilV).toArray = z at hz28 HS0
  clear hF
  have hlt := (Array.getElem?_eq_some_iff.1 h).1
  have R1 : Rd (w.alloc (.cells z 42)) g s b := (Lib.alloc_old w _ g hlt).trans h
  have c0 := R1.c0
  have f0 := R1.f 0
  have hsz : (w.setCell ⟨g, 0, none⟩ (.string ⟨#[]⟩)).heap.size = w.heap.size := by simp [World.setCell]
  have H2 := Lib.hid ((Lib.alloc_old (w.setCell ⟨g, 0, none⟩ (.string ⟨#[]⟩)) (.cells z 42) g (by rw [hsz]; exact hlt)).trans (Rd.set0 h ⟨#[]⟩))
  have E1 := Lib.hid (show ((w.setCell ⟨g, 0, none⟩ (.string ⟨#[]⟩)).alloc (.cells z 42)).heap[w.heap.size]? = some (.cells z 42) by
    have := heap_alloc_last (w.setCell ⟨g, 0, none⟩ (.string ⟨#[]⟩)) (.cells z 42)
    rwa [hsz] at this)
  have hgr : w.grownBy ((w.setCell ⟨g, 0, none⟩ (.string ⟨#[]⟩)).alloc (.cells z 42)) (some g) := grown_trans (grown_set _ _ _ _) (World.grownBy_alloc _ _ _)
  clear h R1 hsz
  go_enter Tryd.func57, Tryd.ntmps57
  go_wp2_with (first
    | ((with_reducible refine bd_blob (x := .const (.int .i64 1)) (y := .tmp 11) (d := s) ?_ ?_ ?_ ?_ HB.out ?_); rfl; rfl; rfl; rfl)
    | ((with_reducible refine st_obr (x := .tmp 2) (y := .tmp 12) ?_ ?_ ?_ ?_ E1.out HS0.out HS.out HO.out ?_); rfl; rfl; rfl; rfl))
  refine bodyPost_ret (results_cell_row (fn := Tryd.f57) (p := 2) (by rfl) _ _ w.heap.size _ _ _ _ (by rfl) (setRow_heap _ _ _ _ _ _ E1.out) Tryd.underlying42 rfl (obsize HS.out)) rfl ⟨rfl, ?_, ?_⟩
  · exact (setRow_other _ _ _ _ (by omega)).trans H2.out
  · exact ⟨hgr.os, hgr.tape, hgr.output, by have := hgr.size; simp [World.setRow], fun k hk hne => (setRow_other _ _ _ _ (by omega)).trans (hgr.block k hk hne)⟩
end Go.Proofs.YtipigedopmgemaaDoor
end

section
namespace Go.Proofs.YtipigedopmgemaaDoor
open Go.RowKit
set_option linter.unusedVariables false
set_option linter.unusedSimpArgs false

/-- A whole id into a block that is known. -/
theorem st_idr {ops : Array Oper} {rest : List Oper} {op : Oper} {a : Act} {w : World} {Q : Exit → Act → World → Prop} {x y : Operand} {g : Nat} {l : List UInt8} {c : Array Value} (ho : op.op = .store 35 x y) (hx : a.eval x = .pointer (some ⟨g, 0, none⟩)) (hy : a.eval y = .agg (idC l).toArray) (hgd : op.guard = none)
    (hg : w.heap[g]? = some (.cells c 35)) (hc : c.size = 32) (hl : l.length = 32)
    (h : wpList Tryd.prog ops Q rest (a.put op.dst undef) (w.setRow g (idC l).toArray)) : wpList Tryd.prog ops Q (op :: rest) a w :=
  wpList_store_row hgd _ x y ho g _ hx hy _ c hg (by rw [List.size_toArray]; exact idsize hl) (by rw [hc, List.size_toArray, idC_length, hl]) (all_oneCell_toArray (idC_one l)) h
theorem zsize : (idC zId).toArray.size = 32 := rfl

set_option maxHeartbeats 1000000 in
set_option maxRecDepth 100000 in
theorem id_short (g : Nat) (s : ByteArray) (b : Bool) (w : World) (h : Rd w g s b) (hs : s.size < 32) :
    Calls Tryd.prog 77 #[.pointer (some ⟨g, 0, none⟩)] w fun r w' => r = .returned (.agg (idC zId).toArray) ∧ Rd w' g ⟨#[]⟩ true ∧ w.grownBy w' (some g) := by
  have hz24 := (zero_of_info zero24).1
  have hs' : (s.size : Int) < 32 := by omega
  have hlt := (Array.getElem?_eq_some_iff.1 h).1
  have HZ := Lib.hid zsize
  have HZL := Lib.hid (show zId.length = 32 from rfl)
  have R1 : Rd ((w.alloc (.cells (idC zId).toArray 35)).alloc (.cells (idC zId).toArray 35)) g s b := (Lib.alloc_old _ _ g (by simp; omega)).trans ((Lib.alloc_old w _ g hlt).trans h)
  have E0 := Lib.hid (heap_alloc2_old w (.cells (idC zId).toArray 35) (.cells (idC zId).toArray 35))
  have G0 := grown_trans (World.grownBy_alloc w (.cells (idC zId).toArray 35) (some g)) (World.grownBy_alloc (w.alloc (.cells (idC zId).toArray 35)) (.cells (idC zId).toArray 35) (some g))
  have c0 := R1.c0
  have HF := Lib.hid (fail_any g s b _ R1)
  clear h R1
  go_enter Tryd.func77, Tryd.ntmps77
  go_wp2_with fail
  refine HF.out.mono ?_
  rintro r w1 ⟨rfl, R2, g2⟩
  have E1 := Lib.hid ((g2.block w.heap.size (Array.getElem?_eq_some_iff.1 E0.out).1 (by simp; omega)).trans E0.out)
  have G1 := grown_trans G0 g2
  clear G0 g2 E0
  go_wp2_with (first
    | ((with_reducible refine bd_zid ?_ ?_ ?_); rfl; rfl)
    | ((with_reducible refine st_idr (x := .tmp 2) (y := .tmp 12) ?_ ?_ ?_ ?_ E1.out HZ.out HZL.out ?_); rfl; rfl; rfl; rfl))
  refine bodyPost_ret (results_cell_row (fn := Tryd.f77) (p := 2) (by rfl) _ _ w.heap.size _ _ _ _ (by rfl) (setRow_heap _ _ _ _ _ _ E1.out) Tryd.underlying35 rfl (by rw [List.size_toArray]; exact idsize HZL.out)) rfl ⟨rfl, ?_, ?_⟩
  · exact (setRow_other _ _ _ _ (by omega)).trans R2
  · exact ⟨G1.os, G1.tape, G1.output, by have := G1.size; simp [World.setRow]; omega, fun k hk hne => (setRow_other _ _ _ _ (by omega)).trans (G1.block k hk hne)⟩
end Go.Proofs.YtipigedopmgemaaDoor
end

section
namespace Go.Proofs.YtipigedopmgemaaDoor
open Go.RowKit
set_option linter.unusedVariables false
set_option linter.unusedSimpArgs false

theorem setRow_size (w : World) (g : Nat) (cs : Array Value) : (w.setRow g cs).heap.size = w.heap.size := by simp [World.setRow]
theorem bc_idC (l : List UInt8) : Lib.byteCells l = idC l := rfl
/-- 'copy(dst, s)', s a string at least as long as dst: dst is filled. -/
theorem run_copy_long (w : World) (g : Nat) (s : ByteArray) (cur : Array Value) (ty t : TypeId) (hg : w.heap[g]? = some (.cells cur t (0, 0))) (hle : 32 ≤ s.size) (hfit : cur.size = 32) :
    (Builtin.copy_ #[56, 9] ty #[.slice (some ⟨g, 0, none⟩) 32 32, .string s]).run Tryd.prog w = .ok (goInt 32) (w.setRow g (idC (s.data.toList.take 32)).toArray) := by
  have hl : (s.data.toList.take 32).length = 32 := by rw [List.length_take, size_list]; omega
  have hlen : (Lib.byteCells (s.data.toList.take 32)).length = 32 := by rw [Lib.byteCells_length, hl]
  have hst := run_storeCells_at Tryd.prog g 0 t (Lib.byteCells (s.data.toList.take 32)) 0 cur w hg (by rw [hlen]; omega) (Lib.byteCells_one _)
  have hmin : Nat.min s.size 32 = 32 := Nat.min_eq_right hle
  have htk : List.take 32 (List.map (fun b : UInt8 => Value.int IntKind.u8 (b.toNat : Int)) s.data.toList) = Lib.byteCells (s.data.toList.take 32) := by
    rw [← List.map_take]; rfl
  rw [hlen] at hst
  simp only [Nat.add_zero, Nat.zero_add, List.take_zero, List.nil_append] at hst
  rw [List.drop_of_length_le (by rw [Array.length_toList]; omega), List.append_nil, bc_idC] at hst
  obtain ⟨i, hq, _, hs1, _⟩ := info_byte
  simp [Builtin.copy_, run_underlying Tryd.underlying56, Builtin.lenOf, Builtin.firstCells, Go.sizeOf, typeInfo, hq, hs1, hmin]
  rw [htk, bc_idC, hst]
  simp [Result.andThen]

set_option maxHeartbeats 1000000 in
set_option maxRecDepth 100000 in
theorem id_ok (g : Nat) (s : ByteArray) (b : Bool) (w : World) (h : Rd w g s b) (hs : 32 ≤ s.size) (hm : s.size ≤ maxLen) :
    Calls Tryd.prog 77 #[.pointer (some ⟨g, 0, none⟩)] w fun r w' => r = .returned (.agg (idC (s.data.toList.take 32)).toArray) ∧ Rd w' g (s.extract 32 s.size) b ∧ w.grownBy w' (some g) := by
  unfold maxLen at hm
  have hz24 := (zero_of_info zero24).1
  have hs' : ¬ (s.size : Int) < 32 := by omega
  have hs2 : (32 : Int) ≤ (s.size : Int) := by omega
  have hlt := (Array.getElem?_eq_some_iff.1 h).1
  have HZ := Lib.hid zsize
  have hl : (s.data.toList.take 32).length = 32 := by rw [List.length_take, size_list]; omega
  have R1 : Rd ((w.alloc (.cells (idC zId).toArray 35)).alloc (.cells (idC zId).toArray 35)) g s b := (Lib.alloc_old _ _ g (by simp; omega)).trans ((Lib.alloc_old w _ g hlt).trans h)
  have E0 := Lib.hid (heap_alloc2_old w (.cells (idC zId).toArray 35) (.cells (idC zId).toArray 35))
  have I0 := Lib.hid (heap_alloc2_new w (.cells (idC zId).toArray 35) (.cells (idC zId).toArray 35))
  have G0 := Lib.hid (grown_trans (World.grownBy_alloc w (.cells (idC zId).toArray 35) (some g)) (World.grownBy_alloc (w.alloc (.cells (idC zId).toArray 35)) (.cells (idC zId).toArray 35) (some g)))
  have c0 := R1.c0
  have hcopy := fun ty => run_copy_long ((w.alloc (.cells (idC zId).toArray 35)).alloc (.cells (idC zId).toArray 35)).drew (w.heap.size + 1) s (idC zId).toArray ty 35 I0.out hs HZ.out
  generalize s.data.toList.take 32 = l at hl hcopy ⊢
  have HR3 := Lib.hid (show Rd (((w.alloc (.cells (idC zId).toArray 35)).alloc (.cells (idC zId).toArray 35)).drew.setRow (w.heap.size + 1) (idC l).toArray) g s b from (setRow_other _ _ _ _ (by omega)).trans R1)
  have HE3 := Lib.hid ((setRow_other ((w.alloc (.cells (idC zId).toArray 35)).alloc (.cells (idC zId).toArray 35)).drew (w.heap.size + 1) w.heap.size (idC l).toArray (by omega)).trans E0.out)
  have HI3 := Lib.hid (setRow_heap ((w.alloc (.cells (idC zId).toArray 35)).alloc (.cells (idC zId).toArray 35)).drew (w.heap.size + 1) _ (idC l).toArray _ _ I0.out)
  have HG3 := Lib.hid (show w.grownBy (((w.alloc (.cells (idC zId).toArray 35)).alloc (.cells (idC zId).toArray 35)).drew.setRow (w.heap.size + 1) (idC l).toArray) (some g) from
    ⟨G0.out.os, G0.out.tape, G0.out.output, by rw [setRow_size]; exact G0.out.size, fun k hk hne => (setRow_other _ _ _ _ (by omega)).trans (G0.out.block k hk hne)⟩)
  have HL := Lib.hid hl
  clear h hl R1 E0 I0 G0
  go_enter Tryd.func77, Tryd.ntmps77
  go_wp2_with fail
  refine wp_region_noPanic ?_
  refine wp_region_held_drew (S := (fun W => W.cell? ⟨g, 0, none⟩ = some (.string s))) (by kernel_rfl) c0 (fun hHeld0 => ?_)
  refine wpAnyH_take (i := 0) (v := ?_) rfl (by kernel_rfl) (by kernel_rfl) (by kernel_rfl) (fun _ _ _ h => h) (Or.inl ⟨by rfl, ?_⟩) (by assumption) ?_
  rotate_left
  · intro W hS; go_simp; try rfl
  try simp only [Act.put, List.getElem_toArray, List.getElem_cons_zero, List.getElem_cons_succ, List.setIfInBounds_toArray, List.set_cons_zero, List.set_cons_succ]
  refine wpAnyH_take (i := 1) (v := ?_) rfl (by kernel_rfl) (by kernel_rfl) (by kernel_rfl) (fun _ _ _ h => h) (Or.inl ⟨by rfl, ?_⟩) (by assumption) ?_
  rotate_left
  · intro W hS; go_simp; try rfl
  try simp only [Act.put, List.getElem_toArray, List.getElem_cons_zero, List.getElem_cons_succ, List.setIfInBounds_toArray, List.set_cons_zero, List.set_cons_succ]
  refine wpAnyH_take (i := 2) (v := ?_) rfl (by kernel_rfl) (by kernel_rfl) (by kernel_rfl) (fun _ _ _ h => h) (Or.inl ⟨by rfl, ?_⟩) (by assumption) ?_
  rotate_left
  · intro W hS; go_simp; try rfl
  try simp only [Act.put, List.getElem_toArray, List.getElem_cons_zero, List.getElem_cons_succ, List.setIfInBounds_toArray, List.set_cons_zero, List.set_cons_succ]
  refine wpAnyH_take (i := 3) (v := ?_) rfl (by kernel_rfl) (by kernel_rfl) (by kernel_rfl) (fun _ _ _ h => h) (Or.inl ⟨by rfl, ?_⟩) (by assumption) ?_
  rotate_left
  · intro W hS; go_simp; try rfl
  try simp only [Act.put, List.getElem_toArray, List.getElem_cons_zero, List.getElem_cons_succ, List.setIfInBounds_toArray, List.set_cons_zero, List.set_cons_succ]
  refine wpAnyH_take (i := 4) (v := ?_) rfl (by kernel_rfl) (by kernel_rfl) (by kernel_rfl) (fun _ _ _ h => h) (Or.inl ⟨by rfl, ?_⟩) (by assumption) ?_
  rotate_left
  · intro W hS; go_simp; try rfl
  try simp only [Act.put, List.getElem_toArray, List.getElem_cons_zero, List.getElem_cons_succ, List.setIfInBounds_toArray, List.set_cons_zero, List.set_cons_succ]
  refine wpAnyH_ready (rs := [5]) (by kernel_rfl) (by simp) ?_
  refine AllReadyH.cons rfl (fun K hK => ?_) AllReadyH.nil
  go_simp
  refine hK.out _ _ ?_ (fun hHeld1 => ?_)
  · exact HR3.out.c0
  clear hK K
  try simp only [Act.put, List.getElem_toArray, List.getElem_cons_zero, List.getElem_cons_succ, List.setIfInBounds_toArray, List.set_cons_zero, List.set_cons_succ]
  refine wpAnyH_done (by kernel_rfl) ?_ _
  refine NoPanic.normal ?_
  clear hHeld0 hHeld1 c0 hcopy
  generalize (((w.alloc (.cells (idC zId).toArray 35)).alloc (.cells (idC zId).toArray 35)).drew.setRow (w.heap.size + 1) (idC l).toArray) = w3 at HR3 HE3 HI3 HG3 ⊢
  have c3 := HR3.out.c0
  have f3 := HR3.out.f 0
  have R4 := Lib.hid (HR3.out.set0 (s.extract 32 s.size))
  have E4 := Lib.hid ((heap_setCell_other w3 ⟨g, 0, none⟩ w.heap.size (.string (s.extract 32 s.size)) (by simp; omega)).trans HE3.out)
  have I4 := Lib.hid (id_rid ((heap_setCell_other w3 ⟨g, 0, none⟩ (w.heap.size + 1) (.string (s.extract 32 s.size)) (by simp; omega)).trans HI3.out))
  have G4 := grown_trans HG3.out (grown_set w3 g 0 (.string (s.extract 32 s.size)))
  go_wp2_with (first
    | ((with_reducible refine ld_idm (x := .tmp 3) ?_ ?_ ?_ I4.out HL.out ?_); rfl; rfl; rfl)
    | ((with_reducible refine st_idr (x := .tmp 2) (y := .tmp 27) ?_ ?_ ?_ ?_ E4.out HZ.out HL.out ?_); rfl; rfl; rfl; rfl))
  refine bodyPost_ret (results_cell_row (fn := Tryd.f77) (p := 2) (by rfl) _ _ w.heap.size _ _ _ _ (by rfl) (setRow_heap _ _ _ _ _ _ E4.out) Tryd.underlying35 rfl (by rw [List.size_toArray]; exact idsize HL.out)) rfl ⟨rfl, ?_, ?_⟩
  · exact (setRow_other _ _ _ _ (by omega)).trans R4.out
  · exact ⟨G4.os, G4.tape, G4.output, by rw [setRow_size]; exact G4.size, fun k hk hne => (setRow_other _ _ _ _ (by omega)).trans (G4.block k hk hne)⟩
end Go.Proofs.YtipigedopmgemaaDoor
end

section
namespace Go.Proofs.YtipigedopmgemaaDoor
open Go.RowKit
set_option linter.unusedVariables false
set_option linter.unusedSimpArgs false
namespace Rm

def endAt : List UInt8 → Nat
  | [] => 0
  | b :: r => if 128 ≤ b.toNat then endAt r + 1 else 0
theorem endAt_eq : ∀ (l : List UInt8) (e : Nat) (h : e < l.length), (∀ (j : Nat) (h : j < l.length), j < e → 128 ≤ l[j].toNat) → l[e].toNat < 128 → endAt l = e
  | [], e, h, _, _ => absurd h (by simp)
  | b :: r, 0, _, _, hl => by
    have hl' : b.toNat < 128 := hl
    simp only [endAt]; rw [if_neg (by omega)]
  | b :: r, e + 1, h, hm, hl => by
    have h0 : 128 ≤ b.toNat := hm 0 (by simp) (by omega)
    simp only [endAt]; rw [if_pos h0, endAt_eq r e (by simpa using h) (fun j hj hje => hm (j + 1) (by simpa using hj) (by omega)) hl]
theorem endAt_more : ∀ (l : List UInt8) (j : Nat) (h : j < l.length), j < endAt l → 128 ≤ l[j].toNat
  | [], j, h, _ => absurd h (by simp)
  | b :: r, j, h, hj => by
    by_cases hb : 128 ≤ b.toNat
    · simp only [endAt, if_pos hb] at hj
      cases j with
      | zero => exact hb
      | succ j => exact endAt_more r j (by simpa using h) (by omega)
    · simp only [endAt, if_neg hb] at hj; omega
theorem endAt_last : ∀ (l : List UInt8) (h : endAt l < l.length), l[endAt l].toNat < 128
  | [], h => absurd h (by simp)
  | b :: r, h => by
    by_cases hb : 128 ≤ b.toNat
    · have he : endAt (b :: r) = endAt r + 1 := by simp only [endAt, if_pos hb]
      have hr : endAt r < r.length := by rw [he] at h; simpa using h
      have := endAt_last r hr
      have key : ∀ (k : Nat) (hk : k = endAt r + 1) (h : k < (b :: r).length), ((b :: r)[k]).toNat < 128 := by
        intro k hk h; subst hk; simpa using this
      exact key _ he _
    · have he : endAt (b :: r) = 0 := by simp only [endAt, if_neg hb]
      have key : ∀ (k : Nat) (hk : k = 0) (h : k < (b :: r).length), ((b :: r)[k]).toNat < 128 := by
        intro k hk h; subst hk; show b.toNat < 128; omega
      exact key _ he _
/-- The number that bytes begin with, and how many bytes it has. -/
def vget (l : List UInt8) : Option (Nat × Nat) :=
  if endAt l < 10 ∧ endAt l < l.length ∧ (0 < endAt l → (l.getD (endAt l) 0).toNat ≠ 0) ∧ (endAt l = 9 → (l.getD (endAt l) 0).toNat ≤ 1) then some (Vi.val (l.take (endAt l + 1)), endAt l + 1) else none
theorem getD_at (l : List UInt8) (e : Nat) (h : e < l.length) : l.getD e 0 = l[e] := by simp [h]
theorem vget_ok {l : List UInt8} {e : Nat} (h : Vi.Ok l e) : vget l = some (Vi.val (l.take (e + 1)), e + 1) := by
  have he := endAt_eq l e h.lt h.more h.last
  have hlt := h.lt
  unfold vget
  rw [he, if_pos ⟨h.lt10, h.lt, fun h0 => by rw [getD_at l e hlt]; exact h.least h0, fun h9 => by rw [getD_at l e hlt]; exact h.fits h9⟩]
theorem vget_some {l : List UInt8} {n k : Nat} (h : vget l = some (n, k)) : ∃ e, Vi.Ok l e ∧ n = Vi.val (l.take (e + 1)) ∧ k = e + 1 := by
  unfold vget at h
  split at h
  · rename_i hc
    obtain ⟨h1, h2, h3, h4⟩ := hc
    simp only [Option.some.injEq, Prod.mk.injEq] at h
    rw [getD_at l _ h2] at h3 h4
    exact ⟨endAt l, ⟨h1, h2, endAt_more l, endAt_last l h2, h3, h4⟩, h.1.symm, h.2.symm⟩
  · cases h
theorem vget_none {l : List UInt8} (h : vget l = none) : ∀ e, ¬ Vi.Ok l e := fun e he => by rw [vget_ok he] at h; cases h
theorem vget_bd {l : List UInt8} {n k : Nat} (h : vget l = some (n, k)) : 1 ≤ k ∧ k ≤ l.length ∧ k ≤ 10 ∧ n < 18446744073709551616 := by
  obtain ⟨e, he, rfl, rfl⟩ := vget_some h
  have := he.lt; have := he.lt10
  exact ⟨by omega, by omega, by omega, he.val_lt⟩
theorem vget_put (n : Nat) (hn : n < 18446744073709551616) (s : List UInt8) : vget (Go.Lib.uvarint n ++ s) = some (n, (Go.Lib.uvarint n).length) := by
  have hp := Go.Lib.uvarint_pos n
  rw [vget_ok (Vi.ok_put n hn s), Vi.val_put, show (Go.Lib.uvarint n).length - 1 + 1 = (Go.Lib.uvarint n).length by omega]
/-- What was got was put so. -/
theorem vget_back {l : List UInt8} {n k : Nat} (h : vget l = some (n, k)) : l = Go.Lib.uvarint n ++ l.drop k := by
  obtain ⟨e, he, rfl, rfl⟩ := vget_some h
  rw [he.back, List.take_append_drop]

def kindV : List UInt8 → Int
  | [] => 0
  | x :: _ => x.toNat
def kindR (b : Bool) : List UInt8 → List UInt8 × Bool
  | [] => ([], true)
  | _ :: r => (r, b)
def vtake (l : List UInt8) : Option (List UInt8 × List UInt8) :=
  match vget l with
  | none => none
  | some (n, k) => if l.length - k < n then none else some ((l.drop k).take n, l.drop (k + n))
def textV (l : List UInt8) : List UInt8 := match vtake l with
  | none => []
  | some (t, _) => t
def textR (b : Bool) (l : List UInt8) : List UInt8 × Bool := match vtake l with
  | none => ([], true)
  | some (_, r) => (r, b)
def idV (l : List UInt8) : List UInt8 := if l.length < 32 then zId else l.take 32
def idR (b : Bool) (l : List UInt8) : List UInt8 × Bool := if l.length < 32 then ([], true) else (l.drop 32, b)
def numV (m : Nat) (l : List UInt8) : Nat := match vget l with
  | none => 0
  | some (n, _) => if m < n then 0 else n
def numR (m : Nat) (b : Bool) (l : List UInt8) : List UInt8 × Bool := match vget l with
  | none => ([], true)
  | some (n, k) => if m < n then ([], true) else (l.drop k, b)

theorem idV_len (l : List UInt8) : (idV l).length = 32 := by
  unfold idV; split
  · rfl
  · rw [List.length_take]; omega

/-! ### taken off: what stood there -/
theorem kind_inv {b : Bool} {l r : List UInt8} (h : kindR b l = (r, false)) : b = false ∧ l = byteK (kindV l) :: r ∧ 0 ≤ kindV l ∧ kindV l < 256 := by
  cases l with
  | nil => simp [kindR] at h
  | cons x t =>
    simp only [kindR, Prod.mk.injEq] at h
    obtain ⟨rfl, rfl⟩ := h
    have hx := x.toNat_lt
    refine ⟨rfl, ?_, by simp only [kindV]; omega, by simp only [kindV]; omega⟩
    congr 1
    have := byteK_nat (k := kindV (x :: t)) (by simp only [kindV]; omega) (by simp only [kindV]; omega)
    simp only [kindV] at this ⊢
    exact UInt8.toNat_inj.1 (by omega)
theorem textOf_list (t : List UInt8) : (textOf ⟨t.toArray⟩).data.toList = Go.Lib.uvarint t.length ++ t := by
  unfold textOf
  rw [ByteArray.data_append, Array.toList_append]
  have : (ByteArray.mk t.toArray).size = t.length := by rw [← size_list]
  rw [this]
theorem text_inv {b : Bool} {l r : List UInt8} (h : textR b l = (r, false)) : b = false ∧ l = (textOf ⟨(textV l).toArray⟩).data.toList ++ r := by
  unfold textR at h
  split at h
  · simp at h
  · rename_i t r' hv
    simp only [Prod.mk.injEq] at h
    obtain ⟨rfl, rfl⟩ := h
    refine ⟨rfl, ?_⟩
    unfold textV
    rw [hv]
    unfold vtake at hv
    split at hv
    · cases hv
    · rename_i n k hg
      split at hv
      · cases hv
      · rename_i hle
        simp only [Option.some.injEq, Prod.mk.injEq] at hv
        obtain ⟨rfl, rfl⟩ := hv
        have hb := vget_bd hg
        show l = (textOf ⟨((l.drop k).take n).toArray⟩).data.toList ++ l.drop (k + n)
        rw [textOf_list, List.length_take, List.length_drop, Nat.min_eq_left (by omega), List.append_assoc, ← List.drop_drop, List.take_append_drop]
        exact vget_back hg
theorem id_inv {b : Bool} {l r : List UInt8} (h : idR b l = (r, false)) : b = false ∧ l = idV l ++ r := by
  unfold idR at h
  unfold idV
  split at h
  · simp at h
  · rename_i hlt
    simp only [Prod.mk.injEq] at h
    obtain ⟨rfl, rfl⟩ := h
    rw [if_neg hlt]
    exact ⟨rfl, (List.take_append_drop 32 l).symm⟩
theorem num_inv {m : Nat} {b : Bool} {l r : List UInt8} (h : numR m b l = (r, false)) : b = false ∧ l = Go.Lib.uvarint (numV m l) ++ r ∧ numV m l ≤ m := by
  unfold numR at h
  unfold numV
  split at h
  · simp at h
  · rename_i n k hg
    split at h
    · simp at h
    · rename_i hle
      simp only [Prod.mk.injEq] at h
      obtain ⟨rfl, rfl⟩ := h
      rw [if_neg hle]
      exact ⟨rfl, vget_back hg, by omega⟩

/-! ### put there: what is taken off -/
theorem text_fwd (b : Bool) (t : ByteArray) (r : List UInt8) (h : t.size < 18446744073709551616) : textR b ((textOf t).data.toList ++ r) = (r, b) ∧ textV ((textOf t).data.toList ++ r) = t.data.toList := by
  have he : (textOf t).data.toList = Go.Lib.uvarint t.size ++ t.data.toList := by
    unfold textOf
    rw [ByteArray.data_append, Array.toList_append]
  have hv := vget_put t.size h (t.data.toList ++ r)
  have ht : vtake ((textOf t).data.toList ++ r) = some (t.data.toList, r) := by
    unfold vtake
    rw [he, List.append_assoc, hv]
    simp only
    have hs := size_list t
    rw [if_neg (by rw [List.length_append, List.length_append]; omega), List.drop_left' rfl, List.take_left' hs, ← List.append_assoc, List.drop_left' (by rw [List.length_append, hs])]
  unfold textR textV
  rw [ht]
  exact ⟨rfl, rfl⟩
theorem id_fwd (b : Bool) (i r : List UInt8) (h : i.length = 32) : idR b (i ++ r) = (r, b) ∧ idV (i ++ r) = i := by
  unfold idR idV
  rw [if_neg (by rw [List.length_append]; omega), if_neg (by rw [List.length_append]; omega), List.drop_left' h, List.take_left' h]
  exact ⟨rfl, rfl⟩
theorem num_fwd (m : Nat) (b : Bool) (n : Nat) (r : List UInt8) (h : n ≤ m) (hm : m < 18446744073709551616) : numR m b (Go.Lib.uvarint n ++ r) = (r, b) ∧ numV m (Go.Lib.uvarint n ++ r) = n := by
  unfold numR numV
  rw [vget_put n (by omega) r]
  simp only
  rw [if_neg (by omega), if_neg (by omega), List.drop_left' rfl]
  exact ⟨rfl, rfl⟩
theorem kind_fwd (b : Bool) (k : Int) (r : List UInt8) (h0 : 0 ≤ k) (h1 : k < 256) : kindR b (byteK k :: r) = (r, b) ∧ kindV (byteK k :: r) = k := ⟨rfl, (byteK_nat h0 h1).symm⟩

/-! ### a tree's entries -/
def oneEn (b : Bool) (l : List UInt8) : En × (List UInt8 × Bool) :=
  (⟨⟨(textV (kindR b l).1).toArray⟩, kindV l, idV (textR (kindR b l).2 (kindR b l).1).1⟩,
   idR (textR (kindR b l).2 (kindR b l).1).2 (textR (kindR b l).2 (kindR b l).1).1)
def treeF : Nat → Bool → List UInt8 → List En → List En × Bool
  | 0, b, _, acc => (acc, b)
  | k + 1, b, l, acc => if l = [] then (acc, b) else treeF k (oneEn b l).2.2 (oneEn b l).2.1 (acc ++ [(oneEn b l).1])
theorem treeF_nil (k : Nat) (b : Bool) (acc : List En) : treeF k b [] acc = (acc, b) := by cases k <;> simp [treeF]
theorem treeF_step {k : Nat} {b : Bool} {l : List UInt8} {acc : List En} (h : l ≠ []) : treeF (k + 1) b l acc = treeF k (oneEn b l).2.2 (oneEn b l).2.1 (acc ++ [(oneEn b l).1]) := by simp [treeF, h]
theorem one_len (b : Bool) (l : List UInt8) (h : l ≠ []) : (oneEn b l).2.1.length < l.length := by
  have h1 : (kindR b l).1.length < l.length := by cases l with
    | nil => exact absurd rfl h
    | cons x r => simp [kindR]
  have h2 : ∀ b' l', (textR b' l').1.length ≤ l'.length := fun b' l' => by
    unfold textR; split
    · simp
    · rename_i t r hv
      unfold vtake at hv
      split at hv
      · cases hv
      · split at hv
        · cases hv
        · simp only [Option.some.injEq, Prod.mk.injEq] at hv
          obtain ⟨_, rfl⟩ := hv
          rw [List.length_drop]; omega
  have h3 : ∀ b' l', (idR b' l').1.length ≤ l'.length := fun b' l' => by
    unfold idR; split
    · simp
    · rw [List.length_drop]; omega
  have e2 := h2 (kindR b l).2 (kindR b l).1
  have e3 := h3 (textR (kindR b l).2 (kindR b l).1).2 (textR (kindR b l).2 (kindR b l).1).1
  show (idR _ _).1.length < l.length
  omega
theorem one_inv {b : Bool} {l r : List UInt8} (h : (oneEn b l).2 = (r, false)) : b = false ∧ l = enB (oneEn b l).1 ++ r ∧ 0 ≤ (oneEn b l).1.kind ∧ (oneEn b l).1.kind < 256 := by
  have h3 := id_inv (show idR (textR (kindR b l).2 (kindR b l).1).2 (textR (kindR b l).2 (kindR b l).1).1 = (r, false) from h)
  obtain ⟨e3, f3⟩ := h3
  obtain ⟨e2, f2⟩ := text_inv (b := (kindR b l).2) (l := (kindR b l).1) (r := (textR (kindR b l).2 (kindR b l).1).1) (by rw [← e3])
  obtain ⟨e1, f1, g1, g2⟩ := kind_inv (b := b) (l := l) (r := (kindR b l).1) (by rw [← e2])
  refine ⟨e1, ?_, g1, g2⟩
  show l = (byteK (kindV l) :: ((textOf ⟨(textV (kindR b l).1).toArray⟩).data.toList ++ idV (textR (kindR b l).2 (kindR b l).1).1)) ++ r
  rw [List.cons_append, List.append_assoc, ← f3, ← f2]
  exact f1
theorem tree_inv : ∀ (k : Nat) (b : Bool) (l : List UInt8) (acc res : List En), l.length ≤ k → treeF k b l acc = (res, false) → b = false ∧ ∃ es, res = acc ++ es ∧ l = es.flatMap enB
  | 0, b, l, acc, res, hk, h => by
    obtain rfl := List.eq_nil_of_length_eq_zero (Nat.le_zero.1 hk)
    simp only [treeF, Prod.mk.injEq] at h
    exact ⟨h.2, [], by rw [← h.1, List.append_nil], rfl⟩
  | k + 1, b, l, acc, res, hk, h => by
    by_cases hl : l = []
    · subst hl
      rw [treeF_nil, Prod.mk.injEq] at h
      exact ⟨h.2, [], by rw [← h.1, List.append_nil], rfl⟩
    · rw [treeF_step hl] at h
      have hlt := one_len b l hl
      obtain ⟨hb, es, rfl, he⟩ := tree_inv k _ _ _ _ (by omega) h
      obtain ⟨g1, g2, _⟩ := one_inv (b := b) (l := l) (r := (oneEn b l).2.1) (by rw [← hb])
      refine ⟨g1, (oneEn b l).1 :: es, by simp, ?_⟩
      rw [List.flatMap_cons, ← he]; exact g2
theorem one_fwd (b : Bool) (e : En) (r : List UInt8) (hn : e.name.size < 18446744073709551616) (h0 : 0 ≤ e.kind) (h1 : e.kind < 256) (hi : e.id.length = 32) : oneEn b (enB e ++ r) = (e, r, b) := by
  have ek := kind_fwd b e.kind ((textOf e.name).data.toList ++ (e.id ++ r)) h0 h1
  have et := text_fwd b e.name (e.id ++ r) hn
  have ei := id_fwd b e.id r hi
  have hl : enB e ++ r = byteK e.kind :: ((textOf e.name).data.toList ++ (e.id ++ r)) := by simp [enB]
  unfold oneEn
  rw [hl, ek.1, ek.2]
  simp only
  rw [et.1, et.2]
  simp only
  rw [ei.1, ei.2]
theorem enB_ne (e : En) : enB e ≠ [] := by simp [enB]
theorem tree_fwd : ∀ (es : List En) (k : Nat) (acc : List En), (∀ e ∈ es, e.name.size < 18446744073709551616 ∧ 0 ≤ e.kind ∧ e.kind < 256 ∧ e.id.length = 32) → (es.flatMap enB).length ≤ k → treeF k false (es.flatMap enB) acc = (acc ++ es, false)
  | [], k, acc, _, _ => by rw [List.flatMap_nil, treeF_nil, List.append_nil]
  | e :: r, k, acc, h, hk => by
    obtain ⟨h1, h2, h3, h4⟩ := h e (by simp)
    have hne : enB e ++ r.flatMap enB ≠ [] := fun hc => enB_ne e (List.append_eq_nil_iff.1 hc).1
    rw [List.flatMap_cons] at hk ⊢
    have hp : 0 < (enB e).length := List.length_pos_iff.2 (enB_ne e)
    rw [List.length_append] at hk
    obtain ⟨k, rfl⟩ : ∃ k', k = k' + 1 := ⟨k - 1, by omega⟩
    rw [treeF_step hne, one_fwd false e _ h1 h2 h3 h4]
    simp only
    rw [tree_fwd r k _ (fun x hx => h x (by simp [hx])) (by omega)]
    simp

/-! ### a commit's parents -/
def parsF : Nat → Bool → List UInt8 → List (List UInt8) → List (List UInt8) × (List UInt8 × Bool)
  | 0, b, l, acc => (acc, l, b)
  | k + 1, b, l, acc => parsF k (idR b l).2 (idR b l).1 (acc ++ [idV l])
theorem pars_inv : ∀ (k : Nat) (b : Bool) (l : List UInt8) (acc res : List (List UInt8)) (r : List UInt8), parsF k b l acc = (res, r, false) → b = false ∧ ∃ ps, res = acc ++ ps ∧ ps.length = k ∧ l = ps.flatten ++ r
  | 0, b, l, acc, res, r, h => by
    simp only [parsF, Prod.mk.injEq] at h
    exact ⟨h.2.2, [], by rw [← h.1, List.append_nil], rfl, by rw [← h.2.1]; rfl⟩
  | k + 1, b, l, acc, res, r, h => by
    obtain ⟨hb, ps, rfl, hl, he⟩ := pars_inv k _ _ _ _ _ h
    obtain ⟨g1, g2⟩ := id_inv (b := b) (l := l) (r := (idR b l).1) (by rw [← hb])
    refine ⟨g1, idV l :: ps, by simp, by simp [hl], ?_⟩
    rw [List.flatten_cons, List.append_assoc, ← he]; exact g2
theorem pars_fwd : ∀ (ps : List (List UInt8)) (acc : List (List UInt8)) (r : List UInt8), (∀ p ∈ ps, p.length = 32) → parsF ps.length false (ps.flatten ++ r) acc = (acc ++ ps, r, false)
  | [], acc, r, _ => by simp [parsF]
  | p :: ps, acc, r, h => by
    have ei := id_fwd false p (ps.flatten ++ r) (h p (by simp))
    rw [List.length_cons, List.flatten_cons, List.append_assoc]
    show parsF ps.length (idR false (p ++ (ps.flatten ++ r))).2 (idR false (p ++ (ps.flatten ++ r))).1 (acc ++ [idV (p ++ (ps.flatten ++ r))]) = _
    rw [ei.1, ei.2]
    simp only
    rw [pars_fwd ps _ r (fun x hx => h x (by simp [hx]))]
    simp
theorem pars_len (k : Nat) (b : Bool) (l : List UInt8) (acc : List (List UInt8)) (h : ∀ p ∈ acc, p.length = 32) : (∀ p ∈ (parsF k b l acc).1, p.length = 32) ∧ (parsF k b l acc).1.length = acc.length + k := by
  induction k generalizing b l acc with
  | zero => exact ⟨h, rfl⟩
  | succ k ih =>
    have := ih (idR b l).2 (idR b l).1 (acc ++ [idV l]) (fun p hp => by
      rcases List.mem_append.1 hp with hp | hp
      · exact h p hp
      · rw [List.mem_singleton.1 hp]; exact idV_len l)
    refine ⟨this.1, ?_⟩
    show (parsF k _ _ _).1.length = _
    rw [this.2]; simp; omega

end Rm
end Go.Proofs.YtipigedopmgemaaDoor
end

section
namespace Go.Proofs.YtipigedopmgemaaDoor
open Go.RowKit
set_option linter.unusedVariables false
set_option linter.unusedSimpArgs false
namespace Rm

def maxT : Nat := 4294967295
/-- A body read: the object, what is left, and whether there was a fault. -/
def blobF (t : List UInt8) : Ob × (List UInt8 × Bool) := ({ noOb with kind := 1, data := ⟨t.toArray⟩ }, [], false)
def treeB (t : List UInt8) : Ob × (List UInt8 × Bool) := ({ noOb with kind := 2, ents := (treeF t.length false t []).1 }, [], (treeF t.length false t []).2)
/-- A commit's count, its parents, and what is left behind them. -/
def cmN (t : List UInt8) : Nat := numV 8 (idR false t).1
def cmS (t : List UInt8) : List UInt8 × Bool := numR 8 (idR false t).2 (idR false t).1
def cmP (t : List UInt8) : List (List UInt8) × (List UInt8 × Bool) := parsF (cmN t) (cmS t).2 (cmS t).1 []
def cmT (t : List UInt8) : Nat := numV maxT (cmP t).2.1
def cmU (t : List UInt8) : List UInt8 × Bool := numR maxT (cmP t).2.2 (cmP t).2.1
def cmX (t : List UInt8) : List UInt8 := textV (cmU t).1
def commitB (t : List UInt8) : Ob × (List UInt8 × Bool) := ({ noOb with kind := 3, tree := idV t, pars := (cmP t).1, time := cmT t, text := ⟨(cmX t).toArray⟩ }, textR (cmU t).2 (cmU t).1)
def tgI (t : List UInt8) : List UInt8 × Bool := idR (kindR false t).2 (kindR false t).1
def tagB (t : List UInt8) : Ob × (List UInt8 × Bool) := ({ noOb with kind := 4, target := idV (kindR false t).1, of := kindV t, name := ⟨(textV (tgI t).1).toArray⟩ }, textR (tgI t).2 (tgI t).1)
def bodyF (k : Int) (t : List UInt8) : Ob × (List UInt8 × Bool) := if k = 1 then blobF t else if k = 2 then treeB t else if k = 3 then commitB t else tagB t

/-- The text that an encoding's body is, and what is left. -/
def bdV (l : List UInt8) : List UInt8 := textV (kindR false l).1
def bdR (l : List UInt8) : List UInt8 × Bool := textR (kindR false l).2 (kindR false l).1
/-- The first half of Decode went well. -/
def okA (l : List UInt8) : Bool := decide (bdR l = ([], false)) && decide (1 ≤ kindV l ∧ kindV l ≤ 4)
/-- The second half did. -/
def okB (l : List UInt8) : Bool := decide ((bodyF (kindV l) (bdV l)).2 = ([], false)) && validB (bodyF (kindV l) (bdV l)).1
def dec (l : List UInt8) : Option Ob := if l.length ≤ 4096 ∧ okA l = true ∧ okB l = true then some (bodyF (kindV l) (bdV l)).1 else none

theorem pr_of {α β : Type} {p : α × β} {b : β} (h : p.2 = b) : p = (p.1, b) := by rw [← h]
theorem pr_of3 {α β γ : Type} {p : α × (β × γ)} {b : γ} (h : p.2.2 = b) : p = (p.1, p.2.1, b) := by rw [← h]
theorem mk_size (t : List UInt8) : (ByteArray.mk t.toArray).size = t.length := by rw [← size_list]

theorem body_inv {k : Int} {t : List UInt8} (h0 : 1 ≤ k) (h1 : k ≤ 4) (h : (bodyF k t).2 = ([], false)) : (bodyF k t).1.kind = k ∧ bodyL (bodyF k t).1 = t := by
  unfold bodyF at *
  by_cases e1 : k = 1
  · subst e1
    rw [if_pos rfl]
    exact ⟨rfl, by simp [bodyL, blobF]⟩
  rw [if_neg e1] at h ⊢
  by_cases e2 : k = 2
  · subst e2
    rw [if_pos rfl] at h ⊢
    have hb : (treeF t.length false t []).2 = false := congrArg Prod.snd h
    obtain ⟨_, es, he, hl⟩ := tree_inv t.length false t [] (treeF t.length false t []).1 (Nat.le_refl _) (pr_of hb)
    refine ⟨rfl, ?_⟩
    show (treeF t.length false t []).1.flatMap enB = t
    rw [he, List.nil_append]
    exact hl.symm
  rw [if_neg e2] at h ⊢
  by_cases e3 : k = 3
  · subst e3
    rw [if_pos rfl] at h ⊢
    obtain ⟨g4, f4⟩ := text_inv (show textR (cmU t).2 (cmU t).1 = ([], false) from h)
    obtain ⟨g3, f3, _⟩ := num_inv (show numR maxT (cmP t).2.2 (cmP t).2.1 = ((cmU t).1, false) from pr_of g4)
    obtain ⟨g2, ps, e2', hlen, f2⟩ := pars_inv (cmN t) (cmS t).2 (cmS t).1 [] (cmP t).1 (cmP t).2.1 (pr_of3 g3)
    obtain ⟨g1, f1, _⟩ := num_inv (show numR 8 (idR false t).2 (idR false t).1 = ((cmS t).1, false) from pr_of g2)
    obtain ⟨_, f0⟩ := id_inv (show idR false t = ((idR false t).1, false) from pr_of g1)
    refine ⟨rfl, ?_⟩
    rw [List.nil_append] at e2'
    rw [List.append_nil] at f4
    show commitL (commitB t).1 = t
    unfold commitL
    show (((idV t ++ Lib.uvarint (cmP t).1.length) ++ (cmP t).1.flatten) ++ Lib.uvarint (cmT t)) ++ (textOf ⟨(cmX t).toArray⟩).data.toList = t
    have r4 : (textOf ⟨(cmX t).toArray⟩).data.toList = (cmU t).1 := f4.symm
    have r3 : Lib.uvarint (cmT t) ++ (cmU t).1 = (cmP t).2.1 := f3.symm
    have r2 : (cmP t).1.flatten ++ (cmP t).2.1 = (cmS t).1 := by rw [e2']; exact f2.symm
    have r1 : Lib.uvarint (cmP t).1.length ++ (cmS t).1 = (idR false t).1 := by rw [e2', hlen]; exact f1.symm
    rw [List.append_assoc, r4, r3, List.append_assoc, r2, List.append_assoc, r1]
    exact f0.symm
  · rw [if_neg e3] at h ⊢
    obtain ⟨g3, f3⟩ := text_inv (show textR (tgI t).2 (tgI t).1 = ([], false) from h)
    obtain ⟨g2, f2⟩ := id_inv (show idR (kindR false t).2 (kindR false t).1 = ((tgI t).1, false) from pr_of g3)
    obtain ⟨_, f1, _⟩ := kind_inv (show kindR false t = ((kindR false t).1, false) from pr_of g2)
    have hk : k = 4 := by omega
    subst hk
    refine ⟨rfl, ?_⟩
    rw [List.append_nil] at f3
    show tagL (tagB t).1 = t
    unfold tagL
    show byteK (kindV t) :: (idV (kindR false t).1 ++ (textOf ⟨(textV (tgI t).1).toArray⟩).data.toList) = t
    rw [← f3, ← f2]
    exact f1.symm

/-- What is decoded has that encoding. -/
theorem dec_inv {l : List UInt8} {o : Ob} (h : dec l = some o) : validB o = true ∧ (encS o).data.toList = l ∧ l.length ≤ 4096 ∧ okA l = true ∧ okB l = true ∧ o = (bodyF (kindV l) (bdV l)).1 := by
  unfold dec at h
  split at h
  · rename_i hc
    obtain ⟨hl, ha, hb⟩ := hc
    simp only [Option.some.injEq] at h
    subst h
    have ha' := ha
    have hb' := hb
    unfold okA at ha'
    unfold okB at hb'
    simp only [Bool.and_eq_true, decide_eq_true_eq] at ha' hb'
    obtain ⟨a1, a2, a3⟩ := ha'
    obtain ⟨b1, b2⟩ := hb'
    obtain ⟨hk, hbl⟩ := body_inv a2 a3 b1
    obtain ⟨g2, f2⟩ := text_inv (show textR (kindR false l).2 (kindR false l).1 = ([], false) from a1)
    obtain ⟨_, f1, _⟩ := kind_inv (show kindR false l = ((kindR false l).1, false) from pr_of g2)
    refine ⟨b2, ?_, hl, ha, hb, rfl⟩
    unfold encS
    rw [hbl, hk, ByteArray.data_append, Array.toList_append]
    rw [List.append_nil] at f2
    show byteK (kindV l) :: (textOf ⟨(bdV l).toArray⟩).data.toList = l
    rw [show (textOf ⟨(bdV l).toArray⟩).data.toList = (kindR false l).1 from f2.symm]
    exact f1.symm
  · cases h

theorem ob_ext {a b : Ob} (h1 : a.kind = b.kind) (h2 : a.data = b.data) (h3 : a.ents = b.ents) (h4 : a.tree = b.tree) (h5 : a.pars = b.pars) (h6 : a.time = b.time) (h7 : a.text = b.text) (h8 : a.target = b.target) (h9 : a.of = b.of) (h10 : a.name = b.name) : a = b := by
  cases a; cases b; simp_all
theorem empty_of {b : ByteArray} (h : b.toList = []) : b = ⟨#[]⟩ := by
  apply bytes_ext
  rw [ByteArray.toList_eq] at h
  rw [h]
theorem mk_list (b : ByteArray) : (⟨b.data.toList.toArray⟩ : ByteArray) = b := by simp

theorem body_fwd {o : Ob} (hv : validB o = true) (ft : Fit o) (ei : ∀ e ∈ o.ents, e.id.length = 32) (pi : ∀ p ∈ o.pars, p.length = 32) (ht : o.tree.length = 32) (hg : o.target.length = 32) (hti : o.time < 4294967296) : bodyF o.kind (bodyL o) = (o, [], false) := by
  have hv2 := hv
  unfold validB foreignZ at hv2
  simp only [Bool.and_eq_true, Bool.or_eq_true, beq_iff_eq, blobZ, treeZ, commitZ, tagZ, decide_eq_true_eq, List.isEmpty_iff] at hv2
  obtain ⟨⟨⟨⟨z1, z2⟩, z3⟩, z4⟩, _⟩ := hv2
  have hk := ft.k
  unfold bodyF
  by_cases e1 : o.kind = 1
  · rw [if_pos e1]
    have b2 := z2.resolve_left (by omega)
    obtain ⟨⟨⟨c1, c2⟩, c3⟩, c4⟩ := z3.resolve_left (by omega)
    obtain ⟨⟨d1, d2⟩, d3⟩ := z4.resolve_left (by omega)
    refine Prod.ext (ob_ext e1.symm ?_ b2.symm c1.symm c2.symm c3.symm (empty_of c4).symm d1.symm d2.symm (empty_of d3).symm) rfl
    show (⟨(bodyL o).toArray⟩ : ByteArray) = o.data
    simp [bodyL, e1]
  rw [if_neg e1]
  have b1 := empty_of (z1.resolve_left e1)
  by_cases e2 : o.kind = 2
  · rw [if_pos e2]
    obtain ⟨⟨⟨c1, c2⟩, c3⟩, c4⟩ := z3.resolve_left (by omega)
    obtain ⟨⟨d1, d2⟩, d3⟩ := z4.resolve_left (by omega)
    have hb : bodyL o = o.ents.flatMap enB := by simp [bodyL, e2]
    have hf := tree_fwd o.ents (bodyL o).length [] (fun e he => ⟨by have := ((ft.e e2).2 e he).1; omega, ((ft.e e2).2 e he).2.1, ((ft.e e2).2 e he).2.2, ei e he⟩) (by rw [hb]; exact Nat.le_refl _)
    rw [← hb, List.nil_append] at hf
    unfold treeB
    rw [hf]
    exact Prod.ext (ob_ext e2.symm b1.symm rfl c1.symm c2.symm c3.symm (empty_of c4).symm d1.symm d2.symm (empty_of d3).symm) rfl
  rw [if_neg e2]
  have b2 := z2.resolve_left e2
  by_cases e3 : o.kind = 3
  · rw [if_pos e3]
    obtain ⟨⟨d1, d2⟩, d3⟩ := z4.resolve_left (by omega)
    have hb : bodyL o = o.tree ++ (Lib.uvarint o.pars.length ++ (o.pars.flatten ++ (Lib.uvarint o.time ++ ((textOf o.text).data.toList ++ [])))) := by simp [bodyL, e3, commitL]
    have i0 := id_fwd false o.tree (Lib.uvarint o.pars.length ++ (o.pars.flatten ++ (Lib.uvarint o.time ++ ((textOf o.text).data.toList ++ [])))) ht
    have i1 := num_fwd 8 false o.pars.length (o.pars.flatten ++ (Lib.uvarint o.time ++ ((textOf o.text).data.toList ++ []))) (ft.p e3) (by omega)
    have i2 := pars_fwd o.pars [] (Lib.uvarint o.time ++ ((textOf o.text).data.toList ++ [])) pi
    have i3 := num_fwd maxT false o.time ((textOf o.text).data.toList ++ []) (by unfold maxT; omega) (by unfold maxT; omega)
    have i4 := text_fwd false o.text [] (by have := ft.t; omega)
    rw [← hb] at i0
    have hS : cmS (bodyL o) = (o.pars.flatten ++ (Lib.uvarint o.time ++ ((textOf o.text).data.toList ++ [])), false) := by unfold cmS; rw [i0.1]; exact i1.1
    have hN : cmN (bodyL o) = o.pars.length := by unfold cmN; rw [i0.1]; exact i1.2
    have hP : cmP (bodyL o) = (o.pars, Lib.uvarint o.time ++ ((textOf o.text).data.toList ++ []), false) := by unfold cmP; rw [hS, hN]; exact i2
    have hT : cmT (bodyL o) = o.time := by unfold cmT; rw [hP]; exact i3.2
    have hU : cmU (bodyL o) = ((textOf o.text).data.toList ++ [], false) := by unfold cmU; rw [hP]; exact i3.1
    have hX : cmX (bodyL o) = o.text.data.toList := by unfold cmX; rw [hU]; exact i4.2
    unfold commitB
    rw [hP, hT, hU, hX, i0.2]
    refine Prod.ext (ob_ext e3.symm b1.symm b2.symm rfl rfl rfl ?_ d1.symm d2.symm (empty_of d3).symm) i4.1
    exact mk_list o.text
  · rw [if_neg e3]
    have e4 : o.kind = 4 := by omega
    obtain ⟨⟨⟨c1, c2⟩, c3⟩, c4⟩ := z3.resolve_left e3
    have hf := ft.f e4
    have hb : bodyL o = byteK o.of :: (o.target ++ ((textOf o.name).data.toList ++ [])) := by simp [bodyL, e4, tagL]
    have i0 := kind_fwd false o.of (o.target ++ ((textOf o.name).data.toList ++ [])) hf.1 hf.2
    have i1 := id_fwd false o.target ((textOf o.name).data.toList ++ []) hg
    have i2 := text_fwd false o.name [] (by have := ft.n; omega)
    rw [← hb] at i0
    have hI : tgI (bodyL o) = ((textOf o.name).data.toList ++ [], false) := by unfold tgI; rw [i0.1]; exact i1.1
    unfold tagB
    rw [hI, i0.1, i0.2]
    refine Prod.ext (ob_ext e4.symm b1.symm b2.symm c1.symm c2.symm c3.symm (empty_of c4).symm i1.2 rfl ?_) i2.1
    show (⟨(textV ((textOf o.name).data.toList ++ [])).toArray⟩ : ByteArray) = o.name
    rw [i2.2]

/-- What was encoded is decoded as it was. -/
theorem dec_fwd {o : Ob} (hv : validB o = true) (ft : Fit o) (ei : ∀ e ∈ o.ents, e.id.length = 32) (pi : ∀ p ∈ o.pars, p.length = 32) (ht : o.tree.length = 32) (hg : o.target.length = 32) (hti : o.time < 4294967296) (hs : (encS o).size ≤ 4096) : dec (encS o).data.toList = some o := by
  have hk := ft.k
  have hbl := body_len ft ei pi ht hg hti
  have hl : (encS o).data.toList = byteK o.kind :: ((textOf ⟨(bodyL o).toArray⟩).data.toList ++ []) := by
    unfold encS
    rw [ByteArray.data_append, Array.toList_append, List.append_nil]; rfl
  have i0 := kind_fwd false o.kind ((textOf ⟨(bodyL o).toArray⟩).data.toList ++ []) (by omega) (by omega)
  have i1 := text_fwd false ⟨(bodyL o).toArray⟩ [] (by rw [mk_size]; omega)
  rw [← hl] at i0
  have hV : bdV (encS o).data.toList = bodyL o := by unfold bdV; rw [i0.1]; exact i1.2
  have hR : bdR (encS o).data.toList = ([], false) := by unfold bdR; rw [i0.1]; exact i1.1
  have hB := body_fwd hv ft ei pi ht hg hti
  unfold dec okA okB
  rw [hV, hR, i0.2, hB, size_list]
  rw [if_pos ⟨hs, by simp; omega, by simp [hv]⟩]

end Rm
end Go.Proofs.YtipigedopmgemaaDoor
end

section
namespace Go.Proofs.YtipigedopmgemaaDoor
open Go.RowKit
set_option linter.unusedVariables false
set_option linter.unusedSimpArgs false

/-- A reader in block g: what is left, as a list. -/
def Rl (w : World) (g : Nat) (s : List UInt8 × Bool) : Prop := Rd w g ⟨s.1.toArray⟩ s.2
theorem extract_l (s : ByteArray) (a b : Nat) : (s.extract a b).data.toList = (s.data.toList.drop a).take (b - a) := by
  rw [show s.extract a b = (ByteArray.mk s.data.toList.toArray).extract a b by simp, ByteArray.extract_mk]
theorem extract_r (s : ByteArray) (a : Nat) : (s.extract a s.size).data.toList = s.data.toList.drop a := by
  rw [extract_l, List.take_of_length_le]; rw [List.length_drop, size_list]; omega
theorem rd_l {w : World} {g : Nat} {s : ByteArray} {b : Bool} {p : List UInt8 × Bool} (h : Rd w g s b) (h1 : s.data.toList = p.1) (h2 : b = p.2) : Rl w g p := by
  unfold Rl
  rw [← h1, ← h2]
  exact h
/-- The end of a step of the reader. -/
def Took (g : Nat) (v : Value) (p : List UInt8 × Bool) (w : World) (r : Ending) (w' : World) : Prop := r = .returned v ∧ Rl w' g p ∧ w.grownBy w' (some g)

theorem kind_l (g : Nat) (l : List UInt8) (b : Bool) (w : World) (h : Rl w g (l, b)) (hl : l.length ≤ 1000000) :
    Calls Tryd.prog 40 #[.pointer (some ⟨g, 0, none⟩)] w (Took g (.int .i64 (Rm.kindV l)) (Rm.kindR b l) w) := by
  cases l with
  | nil => exact (kind_none g b w h).mono fun e w' ⟨h1, h2, h3⟩ => ⟨h1, rd_l h2 rfl rfl, h3⟩
  | cons x t =>
    have hs : (ByteArray.mk (x :: t).toArray).size = t.length + 1 := by rw [Rm.mk_size]; rfl
    refine (kind_some g ⟨(x :: t).toArray⟩ b w h (by rw [hs]; omega) (by rw [hs]; unfold maxLen; simp at hl; omega)).mono fun e w' ⟨h1, h2, h3⟩ => ⟨h1, rd_l h2 ?_ rfl, h3⟩
    rw [extract_r]; rfl

theorem text_l (g : Nat) (l : List UInt8) (b : Bool) (w : World) (h : Rl w g (l, b)) (hl : l.length ≤ 1000000) :
    Calls Tryd.prog 41 #[.pointer (some ⟨g, 0, none⟩)] w (Took g (.string ⟨(Rm.textV l).toArray⟩) (Rm.textR b l) w) := by
  have hs : (ByteArray.mk l.toArray).size = l.length := Rm.mk_size l
  have hm : (ByteArray.mk l.toArray).size ≤ maxLen := by rw [hs]; unfold maxLen; omega
  have hd : (ByteArray.mk l.toArray).data.toList = l := by simp
  have h' : Rd w g ⟨l.toArray⟩ b := h
  cases hv : Rm.vget l with
  | none =>
    have hn : ∀ e, ¬ Vi.Ok (ByteArray.mk l.toArray).data.toList e := by rw [hd]; exact Rm.vget_none hv
    have ht : Rm.vtake l = none := by unfold Rm.vtake; rw [hv]
    unfold Rm.textV Rm.textR
    rw [ht]
    exact (rtext_bad g _ b w h' ((take_none _ w hm hn).mono fun e w' ⟨h1, h2⟩ => ⟨h1, 0, h2.symm⟩)).mono fun e w' ⟨h1, h2, h3⟩ => ⟨h1, rd_l h2 rfl rfl, h3⟩
  | some p =>
    obtain ⟨n, k⟩ := p
    have hbd := Rm.vget_bd hv
    obtain ⟨e, he, rfl, rfl⟩ := Rm.vget_some hv
    have he' : Vi.Ok (ByteArray.mk l.toArray).data.toList e := by rw [hd]; exact he
    by_cases hlt : l.length - (e + 1) < Vi.val (l.take (e + 1))
    · have ht : Rm.vtake l = none := by unfold Rm.vtake; rw [hv]; simp only; rw [if_pos hlt]
      unfold Rm.textV Rm.textR
      rw [ht]
      exact (rtext_bad g _ b w h' (take_short _ w hm e he' (by rw [hs, hd]; exact hlt))).mono fun e w' ⟨h1, h2, h3⟩ => ⟨h1, rd_l h2 rfl rfl, h3⟩
    · have ht : Rm.vtake l = some ((l.drop (e + 1)).take (Vi.val (l.take (e + 1))), l.drop (e + 1 + Vi.val (l.take (e + 1)))) := by unfold Rm.vtake; rw [hv]; simp only; rw [if_neg hlt]
      unfold Rm.textV Rm.textR
      rw [ht]
      have htk := take_ok ⟨l.toArray⟩ w hm e he' (by rw [hs, hd]; omega)
      refine (rtext_ok g ⟨l.toArray⟩ _ _ b w h' htk).mono fun r w' ⟨h1, h2, h3⟩ => ⟨?_, rd_l h2 ?_ rfl, h3⟩
      · rw [h1]
        refine congrArg (fun x => Ending.returned (.string x)) (bytes_ext ?_)
        rw [extract_l, extract_r, hd, List.drop_zero, Nat.sub_zero]
      · rw [extract_l, extract_r, hd, List.drop_drop, List.take_of_length_le]
        rw [List.length_drop, hs]; omega

theorem id_l (g : Nat) (l : List UInt8) (b : Bool) (w : World) (h : Rl w g (l, b)) (hl : l.length ≤ 1000000) :
    Calls Tryd.prog 77 #[.pointer (some ⟨g, 0, none⟩)] w (Took g (.agg (idC (Rm.idV l)).toArray) (Rm.idR b l) w) := by
  have hs : (ByteArray.mk l.toArray).size = l.length := Rm.mk_size l
  have hd : (ByteArray.mk l.toArray).data.toList = l := by simp
  unfold Rm.idV Rm.idR
  by_cases h32 : l.length < 32
  · rw [if_pos h32, if_pos h32]
    exact (id_short g _ b w h (by rw [hs]; exact h32)).mono fun e w' ⟨h1, h2, h3⟩ => ⟨h1, rd_l h2 rfl rfl, h3⟩
  · rw [if_neg h32, if_neg h32]
    refine (id_ok g ⟨l.toArray⟩ b w h (by rw [hs]; omega) (by rw [hs]; unfold maxLen; omega)).mono fun e w' ⟨h1, h2, h3⟩ => ⟨h1, rd_l h2 ?_ rfl, h3⟩
    rw [extract_r]

theorem num_l (g : Nat) (l : List UInt8) (b : Bool) (m : Nat) (w : World) (h : Rl w g (l, b)) (hl : l.length ≤ 1000000) :
    Calls Tryd.prog 78 #[.pointer (some ⟨g, 0, none⟩), .int .u64 m] w (Took g (.int .u64 (Rm.numV m l)) (Rm.numR m b l) w) := by
  have hs : (ByteArray.mk l.toArray).size = l.length := Rm.mk_size l
  have hm : (ByteArray.mk l.toArray).size ≤ maxLen := by rw [hs]; unfold maxLen; omega
  have hd : (ByteArray.mk l.toArray).data.toList = l := by simp
  have h' : Rd w g ⟨l.toArray⟩ b := h
  unfold Rm.numV Rm.numR
  cases hv : Rm.vget l with
  | none =>
    have hn : ∀ e, ¬ Vi.Ok (ByteArray.mk l.toArray).data.toList e := by rw [hd]; exact Rm.vget_none hv
    exact (number_none g _ m b w h' (get_none _ w hm hn)).mono fun e w' ⟨h1, h2, h3⟩ => ⟨h1, rd_l h2 rfl rfl, h3⟩
  | some p =>
    obtain ⟨n, k⟩ := p
    obtain ⟨e, he, rfl, rfl⟩ := Rm.vget_some hv
    have he' : Vi.Ok (ByteArray.mk l.toArray).data.toList e := by rw [hd]; exact he
    simp only
    have hg := get_ok ⟨l.toArray⟩ w hm e he'
    rw [hd] at hg
    by_cases hlt : m < Vi.val (l.take (e + 1))
    · rw [if_pos hlt, if_pos hlt]
      exact (number_big g _ _ _ m b w h' hlt hg).mono fun e w' ⟨h1, h2, h3⟩ => ⟨h1, rd_l h2 rfl rfl, h3⟩
    · rw [if_neg hlt, if_neg hlt]
      refine (number_ok g ⟨l.toArray⟩ _ _ m b w h' (by omega) hg).mono fun e w' ⟨h1, h2, h3⟩ => ⟨h1, rd_l h2 ?_ rfl, h3⟩
      rw [extract_r]

end Go.Proofs.YtipigedopmgemaaDoor
end
