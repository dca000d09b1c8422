/-
  WALKS OF LAYER 4: the reader: text, number, and id where there is too little; bodyMethod. WALKS OF LAYER 4: the reader's
-/
import Derived.Test.YtkcjhkfelaplkaaGreatDoorQb
import Derived.Lib.BufferWrite
import Derived.StillTailTactics
import Derived.Test.YtkcjhkfelaplkaaGreatDoorQa
set_option linter.unusedVariables false
set_option linter.unusedSimpArgs false
set_option maxHeartbeats 8000000
set_option maxRecDepth 100000
section
section
namespace Go.Proofs.YtkcjhkfelaplkaaGreatDoor
open Go.RowKit
theorem setRow_other (w : World) (g k : Nat) (cs : Array Value) (h : k ≠ g) : (w.setRow g cs).heap[k]? = w.heap[k]? := by
 simp only [World.setRow, Array.getElem?_modify]
 rw [if_neg (fun e => h e.symm)]
theorem bd_blob {ops : Array Oper} {rest : List Oper} {op : Oper} {a : Act} {w : World} {Q : Exit → Act → World → Prop} {x y : Operand} {d : ByteArray} {c : Array Value} (ho : op.op = .build 59 #[(0, x), (1, y)]) (hx : a.eval x = .int .i64 1) (hy : a.eval y = .string d) (hg : op.guard = none) (hz : Tryz.prog.built 59 [(0, .int .i64 1), (1, .string d)] = some c)
  (h : wpList Tryz.prog ops Q rest (a.put op.dst (.agg c)) w) : wpList Tryz.prog ops Q (op :: rest) a w :=
 wpList_build_as hg _ _ ho _ (by simp only [List.map_toArray, List.map_cons, List.map_nil, hx, hy]; exact hz) h
theorem rtext_ok (g : Nat) (s t rest : ByteArray) (b : Bool) (w : World) (h : Rd w g s b) (ht : Calls Tryz.prog 145 #[.string s] w fun r w' => r = .returned (.tuple #[.string t, .string rest, .int .i64 0]) ∧ ∃ n, w' = w.drewN n) :
  Calls Tryz.prog 107 #[.pointer (some ⟨g, 0, none⟩)] w fun r w' => r = .returned (.string t) ∧ Rd w' g rest b ∧ w.grownBy w' (some g) := by
 have c0 := h.c0
 have HT := Lib.hid ht
 have f0 := h.f 0
 have H2 := Lib.hid (fun n => Rd.set0 (w := w.drewN n) h rest)
 clear h ht
 go_enter Tryz.func107, Tryz.ntmps107
 go_wp2_with fail
 refine HT.out.mono ?_
 rintro r w1 ⟨rfl, n, rfl⟩
 have c0' : (w.drewN n).cell? ⟨g, 0, none⟩ = some (.string s) := c0
 have f0' : (w.drewN n).frozen? ⟨g, 0, none⟩ = false := f0
 go_wp2
 go_ret
 exact ⟨rfl, H2.out n, ⟨rfl, rfl, rfl, (grown_set (w.drewN n) g 0 (.string rest)).size, (grown_set (w.drewN n) g 0 (.string rest)).block⟩⟩
theorem number_ok (g : Nat) (s rest : ByteArray) (k most : Nat) (b : Bool) (w : World) (h : Rd w g s b) (hk : k ≤ most) (ht : Calls Tryz.prog 176 #[.string s] w fun r w' => r = .returned (.tuple #[.int .u64 k, .string rest, .int .i64 0]) ∧ ∃ n, w' = w.drewN n) :
  Calls Tryz.prog 178 #[.pointer (some ⟨g, 0, none⟩), .int .u64 most] w fun r w' => r = .returned (.int .u64 k) ∧ Rd w' g rest b ∧ w.grownBy w' (some g) := by
 have c0 := h.c0
 have HT := Lib.hid ht
 have f0 := h.f 0
 have H2 := Lib.hid (fun n => Rd.set0 (w := w.drewN n) h rest)
 have hk' : ¬ (most : Int) < (k : Int) := by omega
 have hk2 : decide (most < k) = false := by simp; omega
 clear h ht
 go_enter Tryz.func178, Tryz.ntmps178
 go_wp2_with fail
 refine HT.out.mono ?_
 rintro r w1 ⟨rfl, n, rfl⟩
 have c0' : (w.drewN n).cell? ⟨g, 0, none⟩ = some (.string s) := c0
 have f0' : (w.drewN n).frozen? ⟨g, 0, none⟩ = false := f0
 go_wp2
 go_ret
 exact ⟨rfl, H2.out n, ⟨rfl, rfl, rfl, (grown_set (w.drewN n) g 0 (.string rest)).size, (grown_set (w.drewN n) g 0 (.string rest)).block⟩⟩
theorem number_big (g : Nat) (s rest : ByteArray) (k most : Nat) (b : Bool) (w : World) (h : Rd w g s b) (hk : most < k) (ht : Calls Tryz.prog 176 #[.string s] w fun r w' => r = .returned (.tuple #[.int .u64 k, .string rest, .int .i64 0]) ∧ ∃ n, w' = w.drewN n) :
  Calls Tryz.prog 178 #[.pointer (some ⟨g, 0, none⟩), .int .u64 most] w fun r w' => r = .returned (.int .u64 0) ∧ Rd w' g ⟨#[]⟩ true ∧ w.grownBy w' (some g) := by
 have c0 := h.c0
 have HT := Lib.hid ht
 have HF := Lib.hid (fun n => fail_any g s b (w.drewN n) h)
 have hk' : (most : Int) < (k : Int) := by omega
 have hk2 : decide (most < k) = true := by simp; omega
 clear h ht
 go_enter Tryz.func178, Tryz.ntmps178
 go_wp2_with fail
 refine HT.out.mono ?_
 rintro r w1 ⟨rfl, n, rfl⟩
 go_wp2_with fail
 refine (HF.out n).mono ?_
 rintro r w2 ⟨rfl, h1, h2⟩
 go_wp2
 go_ret
 exact ⟨rfl, h1, ⟨h2.os, h2.tape, h2.output, h2.size, h2.block⟩⟩
theorem number_none (g : Nat) (s : ByteArray) (most : Nat) (b : Bool) (w : World) (h : Rd w g s b) (ht : Calls Tryz.prog 176 #[.string s] w fun r w' => r = .returned (.tuple #[.int .u64 0, .string ⟨#[]⟩, .int .i64 2]) ∧ w = w') :
  Calls Tryz.prog 178 #[.pointer (some ⟨g, 0, none⟩), .int .u64 most] w fun r w' => r = .returned (.int .u64 0) ∧ Rd w' g ⟨#[]⟩ true ∧ w.grownBy w' (some g) := by
 have c0 := h.c0
 have HT := Lib.hid ht
 have HF := Lib.hid (fail_any g s b w h)
 clear h ht
 go_enter Tryz.func178, Tryz.ntmps178
 go_wp2_with fail
 refine HT.out.mono ?_
 rintro r w1 ⟨rfl, rfl⟩
 go_wp2_with fail
 refine HF.out.mono ?_
 rintro r w2 ⟨rfl, h1, h2⟩
 go_wp2
 go_ret
 exact ⟨rfl, h1, h2⟩
theorem method_any (k : Int) (w : World) :
  Calls Tryz.prog 108 #[.int .i64 k] w fun r w' => r = .returned (if k = 1 then .func (.func 146) #[] #[] else if k = 2 then .func (.func 147) #[] #[] else if k = 3 then .func (.func 148) #[] #[] else if k = 4 then .func (.func 149) #[] #[] else .nilFunc) ∧ w = w' := by
 rcases (by omega : k = 1 ∨ k = 2 ∨ k = 3 ∨ k = 4 ∨ (k ≠ 1 ∧ k ≠ 2 ∧ k ≠ 3 ∧ k ≠ 4)) with rfl | rfl | rfl | rfl | ⟨n1, n2, n3, n4⟩
 ·
  go_enter Tryz.func108, Tryz.ntmps108
  go_wp2
  go_ret
  exact ⟨rfl, rfl⟩
 ·
  go_enter Tryz.func108, Tryz.ntmps108
  go_wp2
  go_ret
  exact ⟨rfl, rfl⟩
 ·
  go_enter Tryz.func108, Tryz.ntmps108
  go_wp2
  go_ret
  exact ⟨rfl, rfl⟩
 ·
  go_enter Tryz.func108, Tryz.ntmps108
  go_wp2
  go_ret
  exact ⟨rfl, rfl⟩
 ·
  rw [if_neg n1, if_neg n2, if_neg n3, if_neg n4]
  have m1 : (k == 1) = false := beq_eq_false_iff_ne.2 n1
  have m2 : (k == 2) = false := beq_eq_false_iff_ne.2 n2
  have m3 : (k == 3) = false := beq_eq_false_iff_ne.2 n3
  have m4 : (k == 4) = false := beq_eq_false_iff_ne.2 n4
  clear n1 n2 n3 n4
  go_enter Tryz.func108, Tryz.ntmps108
  go_wp2
  go_ret
  exact ⟨rfl, rfl⟩
theorem blob_any (g : Nat) (s : ByteArray) (b : Bool) (w : World) (h : Rd w g s b) :
  Calls Tryz.prog 146 #[.pointer (some ⟨g, 0, none⟩)] w fun r w' => r = .returned (.agg (obC { noOb with kind := 1, data := s } nilV nilV).toArray) ∧ Rd w' g ⟨#[]⟩ b ∧ w.grownBy w' (some g) := by
 have hz28 := (zero_of_info zero28).1
 have HS0 := Lib.hid noF.size
 have hF := obC_F { noOb with kind := 1, data := s } nilV nilV rfl rfl rfl rfl
 have HS := Lib.hid hF.size
 have HO := Lib.hid hF.one
 have HB := Lib.hid (built_blob s)
 generalize (obC { noOb with kind := 1, data := s } nilV nilV).toArray = c at HS HO HB ⊢
 generalize (obC noOb nilV nilV).toArray = z at hz28 HS0
 clear hF
 have hlt := (Array.getElem?_eq_some_iff.1 h).1
 have R1 : Rd (w.alloc (.cells z 59)) g s b := (Lib.alloc_old w _ g hlt).trans h
 have c0 := R1.c0
 have f0 := R1.f 0
 have hsz : (w.setCell ⟨g, 0, none⟩ (.string ⟨#[]⟩)).heap.size = w.heap.size := by simp [World.setCell]
 have H2 := Lib.hid ((Lib.alloc_old (w.setCell ⟨g, 0, none⟩ (.string ⟨#[]⟩)) (.cells z 59) g (by rw [hsz]; exact hlt)).trans (Rd.set0 h ⟨#[]⟩))
 have E1 := Lib.hid (show ((w.setCell ⟨g, 0, none⟩ (.string ⟨#[]⟩)).alloc (.cells z 59)).heap[w.heap.size]? = some (.cells z 59) by
  have := heap_alloc_last (w.setCell ⟨g, 0, none⟩ (.string ⟨#[]⟩)) (.cells z 59)
  rwa [hsz] at this)
 have hgr : w.grownBy ((w.setCell ⟨g, 0, none⟩ (.string ⟨#[]⟩)).alloc (.cells z 59)) (some g) := grown_trans (grown_set _ _ _ _) (World.grownBy_alloc _ _ _)
 clear h R1 hsz
 go_enter Tryz.func146, Tryz.ntmps146
 go_wp2_with (first
  | ((with_reducible refine bd_blob (x := .const (.int .i64 1)) (y := .tmp 11) (d := s) ?_ ?_ ?_ ?_ HB.out ?_); rfl; rfl; rfl; rfl)
  | ((with_reducible refine st_obr (x := .tmp 2) (y := .tmp 12) ?_ ?_ ?_ ?_ E1.out HS0.out HS.out HO.out ?_); rfl; rfl; rfl; rfl))
 refine bodyPost_ret (results_cell_row (fn := Tryz.f146) (p := 2) (by rfl) _ _ w.heap.size _ _ _ _ (by rfl) (setRow_heap _ _ _ _ _ _ E1.out) Tryz.underlying59 rfl (obsize HS.out)) rfl ⟨rfl, ?_, ?_⟩
 · exact (setRow_other _ _ _ _ (by omega)).trans H2.out
 · exact ⟨hgr.os, hgr.tape, hgr.output, by have := hgr.size; simp [World.setRow], fun k hk hne => (setRow_other _ _ _ _ (by omega)).trans (hgr.block k hk hne)⟩
end Go.Proofs.YtkcjhkfelaplkaaGreatDoor
end
section
namespace Go.Proofs.YtkcjhkfelaplkaaGreatDoor
open Go.RowKit
theorem st_idr {ops : Array Oper} {rest : List Oper} {op : Oper} {a : Act} {w : World} {Q : Exit → Act → World → Prop} {x y : Operand} {g : Nat} {l : List UInt8} {c : Array Value} (ho : op.op = .store 46 x y) (hx : a.eval x = .pointer (some ⟨g, 0, none⟩)) (hy : a.eval y = .agg (idC l).toArray) (hgd : op.guard = none)
  (hg : w.heap[g]? = some (.cells c 46)) (hc : c.size = 32) (hl : l.length = 32)
  (h : wpList Tryz.prog ops Q rest (a.put op.dst undef) (w.setRow g (idC l).toArray)) : wpList Tryz.prog ops Q (op :: rest) a w :=
 wpList_store_row hgd _ x y ho g _ hx hy _ c hg (by rw [List.size_toArray]; exact idsize hl) (by rw [hc, List.size_toArray, idC_length, hl]) (all_oneCell_toArray (idC_one l)) h
theorem zsize : (idC zId).toArray.size = 32 := rfl
theorem id_short (g : Nat) (s : ByteArray) (b : Bool) (w : World) (h : Rd w g s b) (hs : s.size < 32) :
  Calls Tryz.prog 177 #[.pointer (some ⟨g, 0, none⟩)] w fun r w' => r = .returned (.agg (idC zId).toArray) ∧ Rd w' g ⟨#[]⟩ true ∧ w.grownBy w' (some g) := by
 have hz24 := (zero_of_info zero24).1
 have hs' : (s.size : Int) < 32 := by omega
 have hlt := (Array.getElem?_eq_some_iff.1 h).1
 have HZ := Lib.hid zsize
 have HZL := Lib.hid (show zId.length = 32 from rfl)
 have R1 : Rd ((w.alloc (.cells (idC zId).toArray 46)).alloc (.cells (idC zId).toArray 46)) g s b := (Lib.alloc_old _ _ g (by simp; omega)).trans ((Lib.alloc_old w _ g hlt).trans h)
 have E0 := Lib.hid (heap_alloc2_old w (.cells (idC zId).toArray 46) (.cells (idC zId).toArray 46))
 have G0 := grown_trans (World.grownBy_alloc w (.cells (idC zId).toArray 46) (some g)) (World.grownBy_alloc (w.alloc (.cells (idC zId).toArray 46)) (.cells (idC zId).toArray 46) (some g))
 have c0 := R1.c0
 have HF := Lib.hid (fail_any g s b _ R1)
 clear h R1
 go_enter Tryz.func177, Tryz.ntmps177
 go_wp2_with fail
 refine HF.out.mono ?_
 rintro r w1 ⟨rfl, R2, g2⟩
 have E1 := Lib.hid ((g2.block w.heap.size (Array.getElem?_eq_some_iff.1 E0.out).1 (by simp; omega)).trans E0.out)
 have G1 := grown_trans G0 g2
 clear G0 g2 E0
 go_wp2_with (first
  | ((with_reducible refine bd_zid ?_ ?_ ?_); rfl; rfl)
  | ((with_reducible refine st_idr (x := .tmp 2) (y := .tmp 12) ?_ ?_ ?_ ?_ E1.out HZ.out HZL.out ?_); rfl; rfl; rfl; rfl))
 refine bodyPost_ret (results_cell_row (fn := Tryz.f177) (p := 2) (by rfl) _ _ w.heap.size _ _ _ _ (by rfl) (setRow_heap _ _ _ _ _ _ E1.out) Tryz.underlying46 rfl (by rw [List.size_toArray]; exact idsize HZL.out)) rfl ⟨rfl, ?_, ?_⟩
 · exact (setRow_other _ _ _ _ (by omega)).trans R2
 · exact ⟨G1.os, G1.tape, G1.output, by have := G1.size; simp [World.setRow]; omega, fun k hk hne => (setRow_other _ _ _ _ (by omega)).trans (G1.block k hk hne)⟩
end Go.Proofs.YtkcjhkfelaplkaaGreatDoor
end
section
namespace Go.Proofs.YtkcjhkfelaplkaaGreatDoor
open Go.RowKit
theorem setRow_size (w : World) (g : Nat) (cs : Array Value) : (w.setRow g cs).heap.size = w.heap.size := by simp [World.setRow]
theorem bc_idC (l : List UInt8) : Lib.byteCells l = idC l := rfl
theorem run_copy_long (w : World) (g : Nat) (s : ByteArray) (cur : Array Value) (ty t : TypeId) (hg : w.heap[g]? = some (.cells cur t (0, 0))) (hle : 32 ≤ s.size) (hfit : cur.size = 32) :
  (Builtin.copy_ #[23, 9] ty #[.slice (some ⟨g, 0, none⟩) 32 32, .string s]).run Tryz.prog w = .ok (goInt 32) (w.setRow g (idC (s.data.toList.take 32)).toArray) := by
 have hl : (s.data.toList.take 32).length = 32 := by rw [List.length_take, size_list]; omega
 have hlen : (Lib.byteCells (s.data.toList.take 32)).length = 32 := by rw [Lib.byteCells_length, hl]
 have hst := run_storeCells_at Tryz.prog g 0 t (Lib.byteCells (s.data.toList.take 32)) 0 cur w hg (by rw [hlen]; omega) (Lib.byteCells_one _)
 have hmin : Nat.min s.size 32 = 32 := Nat.min_eq_right hle
 have htk : List.take 32 (List.map (fun b : UInt8 => Value.int IntKind.u8 (b.toNat : Int)) s.data.toList) = Lib.byteCells (s.data.toList.take 32) := by
  rw [← List.map_take]; rfl
 rw [hlen] at hst
 simp only [Nat.add_zero, Nat.zero_add, List.take_zero, List.nil_append] at hst
 rw [List.drop_of_length_le (by rw [Array.length_toList]; omega), List.append_nil, bc_idC] at hst
 obtain ⟨i, hq, _, hs1, _⟩ := info_byte
 simp [Builtin.copy_, run_underlying Tryz.underlying23, Builtin.lenOf, Builtin.firstCells, Go.sizeOf, typeInfo, hq, hs1, hmin]
 rw [htk, bc_idC, hst]
 simp [Result.andThen]
theorem id_ok (g : Nat) (s : ByteArray) (b : Bool) (w : World) (h : Rd w g s b) (hs : 32 ≤ s.size) (hm : s.size ≤ maxLen) :
  Calls Tryz.prog 177 #[.pointer (some ⟨g, 0, none⟩)] w fun r w' => r = .returned (.agg (idC (s.data.toList.take 32)).toArray) ∧ Rd w' g (s.extract 32 s.size) b ∧ w.grownBy w' (some g) := by
 unfold maxLen at hm
 have hz24 := (zero_of_info zero24).1
 have hs' : ¬ (s.size : Int) < 32 := by omega
 have hs2 : (32 : Int) ≤ (s.size : Int) := by omega
 have hlt := (Array.getElem?_eq_some_iff.1 h).1
 have HZ := Lib.hid zsize
 have hl : (s.data.toList.take 32).length = 32 := by rw [List.length_take, size_list]; omega
 have R1 : Rd ((w.alloc (.cells (idC zId).toArray 46)).alloc (.cells (idC zId).toArray 46)) g s b := (Lib.alloc_old _ _ g (by simp; omega)).trans ((Lib.alloc_old w _ g hlt).trans h)
 have E0 := Lib.hid (heap_alloc2_old w (.cells (idC zId).toArray 46) (.cells (idC zId).toArray 46))
 have I0 := Lib.hid (heap_alloc2_new w (.cells (idC zId).toArray 46) (.cells (idC zId).toArray 46))
 have G0 := Lib.hid (grown_trans (World.grownBy_alloc w (.cells (idC zId).toArray 46) (some g)) (World.grownBy_alloc (w.alloc (.cells (idC zId).toArray 46)) (.cells (idC zId).toArray 46) (some g)))
 have c0 := R1.c0
 have hcopy := fun ty => run_copy_long ((w.alloc (.cells (idC zId).toArray 46)).alloc (.cells (idC zId).toArray 46)).drew (w.heap.size + 1) s (idC zId).toArray ty 46 I0.out hs HZ.out
 generalize s.data.toList.take 32 = l at hl hcopy ⊢
 have HR3 := Lib.hid (show Rd (((w.alloc (.cells (idC zId).toArray 46)).alloc (.cells (idC zId).toArray 46)).drew.setRow (w.heap.size + 1) (idC l).toArray) g s b from (setRow_other _ _ _ _ (by omega)).trans R1)
 have HE3 := Lib.hid ((setRow_other ((w.alloc (.cells (idC zId).toArray 46)).alloc (.cells (idC zId).toArray 46)).drew (w.heap.size + 1) w.heap.size (idC l).toArray (by omega)).trans E0.out)
 have HI3 := Lib.hid (setRow_heap ((w.alloc (.cells (idC zId).toArray 46)).alloc (.cells (idC zId).toArray 46)).drew (w.heap.size + 1) _ (idC l).toArray _ _ I0.out)
 have HG3 := Lib.hid (show w.grownBy (((w.alloc (.cells (idC zId).toArray 46)).alloc (.cells (idC zId).toArray 46)).drew.setRow (w.heap.size + 1) (idC l).toArray) (some g) from
  ⟨G0.out.os, G0.out.tape, G0.out.output, by rw [setRow_size]; exact G0.out.size, fun k hk hne => (setRow_other _ _ _ _ (by omega)).trans (G0.out.block k hk hne)⟩)
 have HL := Lib.hid hl
 clear h hl R1 E0 I0 G0
 go_enter Tryz.func177, Tryz.ntmps177
 go_wp2_with fail
 refine wp_region_noPanic ?_
 refine wp_region_held_drew (S := (fun W => W.cell? ⟨g, 0, none⟩ = some (.string s))) (by kernel_rfl) c0 (fun hHeld0 => ?_)
 refine tk (i := 0) (v := ?_) ?_ ?_
 rotate_left
 · intro W hS; go_simp; try rfl
 try simp only [q0]
 refine tk (i := 1) (v := ?_) ?_ ?_
 rotate_left
 · intro W hS; go_simp; try rfl
 try simp only [q0]
 refine tk (i := 2) (v := ?_) ?_ ?_
 rotate_left
 · intro W hS; go_simp; try rfl
 try simp only [q0]
 refine tk (i := 3) (v := ?_) ?_ ?_
 rotate_left
 · intro W hS; go_simp; try rfl
 try simp only [q0]
 refine tk (i := 4) (v := ?_) ?_ ?_
 rotate_left
 · intro W hS; go_simp; try rfl
 try simp only [q0]
 refine wpAnyH_ready (rs := [5]) (by kernel_rfl) (by simp) ?_
 refine AllReadyH.cons rfl (fun K hK => ?_) AllReadyH.nil
 go_simp
 refine hK.out _ _ ?_ (fun hHeld1 => ?_)
 · exact HR3.out.c0
 clear hK K
 try simp only [q0]
 refine wpAnyH_done (by kernel_rfl) ?_ _
 refine NoPanic.normal ?_
 clear hHeld0 hHeld1 c0 hcopy
 generalize (((w.alloc (.cells (idC zId).toArray 46)).alloc (.cells (idC zId).toArray 46)).drew.setRow (w.heap.size + 1) (idC l).toArray) = w3 at HR3 HE3 HI3 HG3 ⊢
 have c3 := HR3.out.c0
 have f3 := HR3.out.f 0
 have R4 := Lib.hid (HR3.out.set0 (s.extract 32 s.size))
 have E4 := Lib.hid ((heap_setCell_other w3 ⟨g, 0, none⟩ w.heap.size (.string (s.extract 32 s.size)) (by simp; omega)).trans HE3.out)
 have I4 := Lib.hid (id_rid ((heap_setCell_other w3 ⟨g, 0, none⟩ (w.heap.size + 1) (.string (s.extract 32 s.size)) (by simp; omega)).trans HI3.out))
 have G4 := grown_trans HG3.out (grown_set w3 g 0 (.string (s.extract 32 s.size)))
 go_wp2_with (first
  | ((with_reducible refine ld_idm (x := .tmp 3) ?_ ?_ ?_ I4.out HL.out ?_); rfl; rfl; rfl)
  | ((with_reducible refine st_idr (x := .tmp 2) (y := .tmp 27) ?_ ?_ ?_ ?_ E4.out HZ.out HL.out ?_); rfl; rfl; rfl; rfl))
 refine bodyPost_ret (results_cell_row (fn := Tryz.f177) (p := 2) (by rfl) _ _ w.heap.size _ _ _ _ (by rfl) (setRow_heap _ _ _ _ _ _ E4.out) Tryz.underlying46 rfl (by rw [List.size_toArray]; exact idsize HL.out)) rfl ⟨rfl, ?_, ?_⟩
 · exact (setRow_other _ _ _ _ (by omega)).trans R4.out
 · exact ⟨G4.os, G4.tape, G4.output, by rw [setRow_size]; exact G4.size, fun k hk hne => (setRow_other _ _ _ _ (by omega)).trans (G4.block k hk hne)⟩
end Go.Proofs.YtkcjhkfelaplkaaGreatDoor
end
section
namespace Go.Proofs.YtkcjhkfelaplkaaGreatDoor
open Go.RowKit
namespace Rm
def endAt : List UInt8 → Nat
 | [] => 0
 | b :: r => if 128 ≤ b.toNat then endAt r + 1 else 0
theorem endAt_eq : ∀ (l : List UInt8) (e : Nat) (h : e < l.length), (∀ (j : Nat) (h : j < l.length), j < e → 128 ≤ l[j].toNat) → l[e].toNat < 128 → endAt l = e
 | [], e, h, _, _ => absurd h (by simp)
 | b :: r, 0, _, _, hl => by
   have hl' : b.toNat < 128 := hl
   simp only [endAt]; rw [if_neg (by omega)]
 | b :: r, e + 1, h, hm, hl => by
   have h0 : 128 ≤ b.toNat := hm 0 (by simp) (by omega)
   simp only [endAt]; rw [if_pos h0, endAt_eq r e (by simpa using h) (fun j hj hje => hm (j + 1) (by simpa using hj) (by omega)) hl]
theorem endAt_more : ∀ (l : List UInt8) (j : Nat) (h : j < l.length), j < endAt l → 128 ≤ l[j].toNat
 | [], j, h, _ => absurd h (by simp)
 | b :: r, j, h, hj => by
   by_cases hb : 128 ≤ b.toNat
   ·
    simp only [endAt, if_pos hb] at hj
    cases j with
    | zero => exact hb
    | succ j => exact endAt_more r j (by simpa using h) (by omega)
   · simp only [endAt, if_neg hb] at hj; omega
theorem endAt_last : ∀ (l : List UInt8) (h : endAt l < l.length), l[endAt l].toNat < 128
 | [], h => absurd h (by simp)
 | b :: r, h => by
   by_cases hb : 128 ≤ b.toNat
   ·
    have he : endAt (b :: r) = endAt r + 1 := by simp only [endAt, if_pos hb]
    have hr : endAt r < r.length := by rw [he] at h; simpa using h
    have := endAt_last r hr
    have key : ∀ (k : Nat) (hk : k = endAt r + 1) (h : k < (b :: r).length), ((b :: r)[k]).toNat < 128 := by
     intro k hk h; subst hk; simpa using this
    exact key _ he _
   ·
    have he : endAt (b :: r) = 0 := by simp only [endAt, if_neg hb]
    have key : ∀ (k : Nat) (hk : k = 0) (h : k < (b :: r).length), ((b :: r)[k]).toNat < 128 := by
     intro k hk h; subst hk; show b.toNat < 128; omega
    exact key _ he _
def vget (l : List UInt8) : Option (Nat × Nat) :=
 if endAt l < 10 ∧ endAt l < l.length ∧ (0 < endAt l → (l.getD (endAt l) 0).toNat ≠ 0) ∧ (endAt l = 9 → (l.getD (endAt l) 0).toNat ≤ 1) then some (Vi.val (l.take (endAt l + 1)), endAt l + 1) else none
theorem getD_at (l : List UInt8) (e : Nat) (h : e < l.length) : l.getD e 0 = l[e] := by simp [h]
theorem vget_ok {l : List UInt8} {e : Nat} (h : Vi.Ok l e) : vget l = some (Vi.val (l.take (e + 1)), e + 1) := by
 have he := endAt_eq l e h.lt h.more h.last
 have hlt := h.lt
 unfold vget
 rw [he, if_pos ⟨h.lt10, h.lt, fun h0 => by rw [getD_at l e hlt]; exact h.least h0, fun h9 => by rw [getD_at l e hlt]; exact h.fits h9⟩]
theorem vget_some {l : List UInt8} {n k : Nat} (h : vget l = some (n, k)) : ∃ e, Vi.Ok l e ∧ n = Vi.val (l.take (e + 1)) ∧ k = e + 1 := by
 unfold vget at h
 split at h
 ·
  rename_i hc
  obtain ⟨h1, h2, h3, h4⟩ := hc
  simp only [Option.some.injEq, Prod.mk.injEq] at h
  rw [getD_at l _ h2] at h3 h4
  exact ⟨endAt l, ⟨h1, h2, endAt_more l, endAt_last l h2, h3, h4⟩, h.1.symm, h.2.symm⟩
 · cases h
theorem vget_none {l : List UInt8} (h : vget l = none) : ∀ e, ¬ Vi.Ok l e := fun e he => by rw [vget_ok he] at h; cases h
theorem vget_bd {l : List UInt8} {n k : Nat} (h : vget l = some (n, k)) : 1 ≤ k ∧ k ≤ l.length ∧ k ≤ 10 ∧ n < 18446744073709551616 := by
 obtain ⟨e, he, rfl, rfl⟩ := vget_some h
 have := he.lt; have := he.lt10
 exact ⟨by omega, by omega, by omega, he.val_lt⟩
theorem vget_put (n : Nat) (hn : n < 18446744073709551616) (s : List UInt8) : vget (Go.Lib.uvarint n ++ s) = some (n, (Go.Lib.uvarint n).length) := by
 have hp := Go.Lib.uvarint_pos n
 rw [vget_ok (Vi.ok_put n hn s), Vi.val_put, show (Go.Lib.uvarint n).length - 1 + 1 = (Go.Lib.uvarint n).length by omega]
theorem vget_back {l : List UInt8} {n k : Nat} (h : vget l = some (n, k)) : l = Go.Lib.uvarint n ++ l.drop k := by
 obtain ⟨e, he, rfl, rfl⟩ := vget_some h
 rw [he.back, List.take_append_drop]
def kindV : List UInt8 → Int
 | [] => 0
 | x :: _ => x.toNat
def kindR (b : Bool) : List UInt8 → List UInt8 × Bool
 | [] => ([], true)
 | _ :: r => (r, b)
def vtake (l : List UInt8) : Option (List UInt8 × List UInt8) :=
 match vget l with
 | none => none
 | some (n, k) => if l.length - k < n then none else some ((l.drop k).take n, l.drop (k + n))
def textV (l : List UInt8) : List UInt8 := match vtake l with
 | none => []
 | some (t, _) => t
def textR (b : Bool) (l : List UInt8) : List UInt8 × Bool := match vtake l with
 | none => ([], true)
 | some (_, r) => (r, b)
def idV (l : List UInt8) : List UInt8 := if l.length < 32 then zId else l.take 32
def idR (b : Bool) (l : List UInt8) : List UInt8 × Bool := if l.length < 32 then ([], true) else (l.drop 32, b)
def numV (m : Nat) (l : List UInt8) : Nat := match vget l with
 | none => 0
 | some (n, _) => if m < n then 0 else n
def numR (m : Nat) (b : Bool) (l : List UInt8) : List UInt8 × Bool := match vget l with
 | none => ([], true)
 | some (n, k) => if m < n then ([], true) else (l.drop k, b)
theorem idV_len (l : List UInt8) : (idV l).length = 32 := by
 unfold idV; split
 · rfl
 · rw [List.length_take]; omega
/-! ### taken off: what stood there -/
theorem kind_inv {b : Bool} {l r : List UInt8} (h : kindR b l = (r, false)) : b = false ∧ l = byteK (kindV l) :: r ∧ 0 ≤ kindV l ∧ kindV l < 256 := by
 cases l with
 | nil => simp [kindR] at h
 | cons x t =>
   simp only [kindR, Prod.mk.injEq] at h
   obtain ⟨rfl, rfl⟩ := h
   have hx := x.toNat_lt
   refine ⟨rfl, ?_, by simp only [kindV]; omega, by simp only [kindV]; omega⟩
   congr 1
   have := byteK_nat (k := kindV (x :: t)) (by simp only [kindV]; omega) (by simp only [kindV]; omega)
   simp only [kindV] at this ⊢
   exact UInt8.toNat_inj.1 (by omega)
theorem textOf_list (t : List UInt8) : (textOf ⟨t.toArray⟩).data.toList = Go.Lib.uvarint t.length ++ t := by
 unfold textOf
 rw [ByteArray.data_append, Array.toList_append]
 have : (ByteArray.mk t.toArray).size = t.length := by rw [← size_list]
 rw [this]
theorem text_inv {b : Bool} {l r : List UInt8} (h : textR b l = (r, false)) : b = false ∧ l = (textOf ⟨(textV l).toArray⟩).data.toList ++ r := by
 unfold textR at h
 split at h
 · simp at h
 ·
  rename_i t r' hv
  simp only [Prod.mk.injEq] at h
  obtain ⟨rfl, rfl⟩ := h
  refine ⟨rfl, ?_⟩
  unfold textV
  rw [hv]
  unfold vtake at hv
  split at hv
  · cases hv
  ·
   rename_i n k hg
   split at hv
   · cases hv
   ·
    rename_i hle
    simp only [Option.some.injEq, Prod.mk.injEq] at hv
    obtain ⟨rfl, rfl⟩ := hv
    have hb := vget_bd hg
    show l = (textOf ⟨((l.drop k).take n).toArray⟩).data.toList ++ l.drop (k + n)
    rw [textOf_list, List.length_take, List.length_drop, Nat.min_eq_left (by omega), List.append_assoc, ← List.drop_drop, List.take_append_drop]
    exact vget_back hg
theorem id_inv {b : Bool} {l r : List UInt8} (h : idR b l = (r, false)) : b = false ∧ l = idV l ++ r := by
 unfold idR at h
 unfold idV
 split at h
 · simp at h
 ·
  rename_i hlt
  simp only [Prod.mk.injEq] at h
  obtain ⟨rfl, rfl⟩ := h
  rw [if_neg hlt]
  exact ⟨rfl, (List.take_append_drop 32 l).symm⟩
theorem num_inv {m : Nat} {b : Bool} {l r : List UInt8} (h : numR m b l = (r, false)) : b = false ∧ l = Go.Lib.uvarint (numV m l) ++ r ∧ numV m l ≤ m := by
 unfold numR at h
 unfold numV
 split at h
 · simp at h
 ·
  rename_i n k hg
  split at h
  · simp at h
  ·
   rename_i hle
   simp only [Prod.mk.injEq] at h
   obtain ⟨rfl, rfl⟩ := h
   rw [if_neg hle]
   exact ⟨rfl, vget_back hg, by omega⟩
/-! ### put there: what is taken off -/
theorem text_fwd (b : Bool) (t : ByteArray) (r : List UInt8) (h : t.size < 18446744073709551616) : textR b ((textOf t).data.toList ++ r) = (r, b) ∧ textV ((textOf t).data.toList ++ r) = t.data.toList := by
 have he : (textOf t).data.toList = Go.Lib.uvarint t.size ++ t.data.toList := by
  unfold textOf
  rw [ByteArray.data_append, Array.toList_append]
 have hv := vget_put t.size h (t.data.toList ++ r)
 have ht : vtake ((textOf t).data.toList ++ r) = some (t.data.toList, r) := by
  unfold vtake
  rw [he, List.append_assoc, hv]
  simp only
  have hs := size_list t
  rw [if_neg (by rw [List.length_append, List.length_append]; omega), List.drop_left' rfl, List.take_left' hs, ← List.append_assoc, List.drop_left' (by rw [List.length_append, hs])]
 unfold textR textV
 rw [ht]
 exact ⟨rfl, rfl⟩
theorem id_fwd (b : Bool) (i r : List UInt8) (h : i.length = 32) : idR b (i ++ r) = (r, b) ∧ idV (i ++ r) = i := by
 unfold idR idV
 rw [if_neg (by rw [List.length_append]; omega), if_neg (by rw [List.length_append]; omega), List.drop_left' h, List.take_left' h]
 exact ⟨rfl, rfl⟩
theorem num_fwd (m : Nat) (b : Bool) (n : Nat) (r : List UInt8) (h : n ≤ m) (hm : m < 18446744073709551616) : numR m b (Go.Lib.uvarint n ++ r) = (r, b) ∧ numV m (Go.Lib.uvarint n ++ r) = n := by
 unfold numR numV
 rw [vget_put n (by omega) r]
 simp only
 rw [if_neg (by omega), if_neg (by omega), List.drop_left' rfl]
 exact ⟨rfl, rfl⟩
theorem kind_fwd (b : Bool) (k : Int) (r : List UInt8) (h0 : 0 ≤ k) (h1 : k < 256) : kindR b (byteK k :: r) = (r, b) ∧ kindV (byteK k :: r) = k := ⟨rfl, (byteK_nat h0 h1).symm⟩
/-! ### a tree's entries -/
def oneEn (b : Bool) (l : List UInt8) : En × (List UInt8 × Bool) :=
 (⟨⟨(textV (kindR b l).1).toArray⟩, kindV l, idV (textR (kindR b l).2 (kindR b l).1).1⟩,
  idR (textR (kindR b l).2 (kindR b l).1).2 (textR (kindR b l).2 (kindR b l).1).1)
def treeF : Nat → Bool → List UInt8 → List En → List En × Bool
 | 0, b, _, acc => (acc, b)
 | k + 1, b, l, acc => if l = [] then (acc, b) else treeF k (oneEn b l).2.2 (oneEn b l).2.1 (acc ++ [(oneEn b l).1])
theorem treeF_nil (k : Nat) (b : Bool) (acc : List En) : treeF k b [] acc = (acc, b) := by cases k <;> simp [treeF]
theorem treeF_step {k : Nat} {b : Bool} {l : List UInt8} {acc : List En} (h : l ≠ []) : treeF (k + 1) b l acc = treeF k (oneEn b l).2.2 (oneEn b l).2.1 (acc ++ [(oneEn b l).1]) := by simp [treeF, h]
theorem one_len (b : Bool) (l : List UInt8) (h : l ≠ []) : (oneEn b l).2.1.length < l.length := by
 have h1 : (kindR b l).1.length < l.length := by cases l with
  | nil => exact absurd rfl h
  | cons x r => simp [kindR]
 have h2 : ∀ b' l', (textR b' l').1.length ≤ l'.length := fun b' l' => by
  unfold textR; split
  · simp
  ·
   rename_i t r hv
   unfold vtake at hv
   split at hv
   · cases hv
   ·
    split at hv
    · cases hv
    ·
     simp only [Option.some.injEq, Prod.mk.injEq] at hv
     obtain ⟨_, rfl⟩ := hv
     rw [List.length_drop]; omega
 have h3 : ∀ b' l', (idR b' l').1.length ≤ l'.length := fun b' l' => by
  unfold idR; split
  · simp
  · rw [List.length_drop]; omega
 have e2 := h2 (kindR b l).2 (kindR b l).1
 have e3 := h3 (textR (kindR b l).2 (kindR b l).1).2 (textR (kindR b l).2 (kindR b l).1).1
 show (idR _ _).1.length < l.length
 omega
theorem one_inv {b : Bool} {l r : List UInt8} (h : (oneEn b l).2 = (r, false)) : b = false ∧ l = enB (oneEn b l).1 ++ r ∧ 0 ≤ (oneEn b l).1.kind ∧ (oneEn b l).1.kind < 256 := by
 have h3 := id_inv (show idR (textR (kindR b l).2 (kindR b l).1).2 (textR (kindR b l).2 (kindR b l).1).1 = (r, false) from h)
 obtain ⟨e3, f3⟩ := h3
 obtain ⟨e2, f2⟩ := text_inv (b := (kindR b l).2) (l := (kindR b l).1) (r := (textR (kindR b l).2 (kindR b l).1).1) (by rw [← e3])
 obtain ⟨e1, f1, g1, g2⟩ := kind_inv (b := b) (l := l) (r := (kindR b l).1) (by rw [← e2])
 refine ⟨e1, ?_, g1, g2⟩
 show l = (byteK (kindV l) :: ((textOf ⟨(textV (kindR b l).1).toArray⟩).data.toList ++ idV (textR (kindR b l).2 (kindR b l).1).1)) ++ r
 rw [List.cons_append, List.append_assoc, ← f3, ← f2]
 exact f1
theorem tree_inv : ∀ (k : Nat) (b : Bool) (l : List UInt8) (acc res : List En), l.length ≤ k → treeF k b l acc = (res, false) → b = false ∧ ∃ es, res = acc ++ es ∧ l = es.flatMap enB
 | 0, b, l, acc, res, hk, h => by
   obtain rfl := List.eq_nil_of_length_eq_zero (Nat.le_zero.1 hk)
   simp only [treeF, Prod.mk.injEq] at h
   exact ⟨h.2, [], by rw [← h.1, List.append_nil], rfl⟩
 | k + 1, b, l, acc, res, hk, h => by
   by_cases hl : l = []
   ·
    subst hl
    rw [treeF_nil, Prod.mk.injEq] at h
    exact ⟨h.2, [], by rw [← h.1, List.append_nil], rfl⟩
   ·
    rw [treeF_step hl] at h
    have hlt := one_len b l hl
    obtain ⟨hb, es, rfl, he⟩ := tree_inv k _ _ _ _ (by omega) h
    obtain ⟨g1, g2, _⟩ := one_inv (b := b) (l := l) (r := (oneEn b l).2.1) (by rw [← hb])
    refine ⟨g1, (oneEn b l).1 :: es, by simp, ?_⟩
    rw [List.flatMap_cons, ← he]; exact g2
theorem one_fwd (b : Bool) (e : En) (r : List UInt8) (hn : e.name.size < 18446744073709551616) (h0 : 0 ≤ e.kind) (h1 : e.kind < 256) (hi : e.id.length = 32) : oneEn b (enB e ++ r) = (e, r, b) := by
 have ek := kind_fwd b e.kind ((textOf e.name).data.toList ++ (e.id ++ r)) h0 h1
 have et := text_fwd b e.name (e.id ++ r) hn
 have ei := id_fwd b e.id r hi
 have hl : enB e ++ r = byteK e.kind :: ((textOf e.name).data.toList ++ (e.id ++ r)) := by simp [enB]
 unfold oneEn
 rw [hl, ek.1, ek.2]
 simp only
 rw [et.1, et.2]
 simp only
 rw [ei.1, ei.2]
theorem enB_ne (e : En) : enB e ≠ [] := by simp [enB]
theorem tree_fwd : ∀ (es : List En) (k : Nat) (acc : List En), (∀ e ∈ es, e.name.size < 18446744073709551616 ∧ 0 ≤ e.kind ∧ e.kind < 256 ∧ e.id.length = 32) → (es.flatMap enB).length ≤ k → treeF k false (es.flatMap enB) acc = (acc ++ es, false)
 | [], k, acc, _, _ => by rw [List.flatMap_nil, treeF_nil, List.append_nil]
 | e :: r, k, acc, h, hk => by
   obtain ⟨h1, h2, h3, h4⟩ := h e (by simp)
   have hne : enB e ++ r.flatMap enB ≠ [] := fun hc => enB_ne e (List.append_eq_nil_iff.1 hc).1
   rw [List.flatMap_cons] at hk ⊢
   have hp : 0 < (enB e).length := List.length_pos_iff.2 (enB_ne e)
   rw [List.length_append] at hk
   obtain ⟨k, rfl⟩ : ∃ k', k = k' + 1 := ⟨k - 1, by omega⟩
   rw [treeF_step hne, one_fwd false e _ h1 h2 h3 h4]
   simp only
   rw [tree_fwd r k _ (fun x hx => h x (by simp [hx])) (by omega)]
   simp
/-! ### a commit's parents -/
def parsF : Nat → Bool → List UInt8 → List (List UInt8) → List (List UInt8) × (List UInt8 × Bool)
 | 0, b, l, acc => (acc, l, b)
 | k + 1, b, l, acc => parsF k (idR b l).2 (idR b l).1 (acc ++ [idV l])
theorem pars_inv : ∀ (k : Nat) (b : Bool) (l : List UInt8) (acc res : List (List UInt8)) (r : List UInt8), parsF k b l acc = (res, r, false) → b = false ∧ ∃ ps, res = acc ++ ps ∧ ps.length = k ∧ l = ps.flatten ++ r
 | 0, b, l, acc, res, r, h => by
   simp only [parsF, Prod.mk.injEq] at h
   exact ⟨h.2.2, [], by rw [← h.1, List.append_nil], rfl, by rw [← h.2.1]; rfl⟩
 | k + 1, b, l, acc, res, r, h => by
   obtain ⟨hb, ps, rfl, hl, he⟩ := pars_inv k _ _ _ _ _ h
   obtain ⟨g1, g2⟩ := id_inv (b := b) (l := l) (r := (idR b l).1) (by rw [← hb])
   refine ⟨g1, idV l :: ps, by simp, by simp [hl], ?_⟩
   rw [List.flatten_cons, List.append_assoc, ← he]; exact g2
theorem pars_fwd : ∀ (ps : List (List UInt8)) (acc : List (List UInt8)) (r : List UInt8), (∀ p ∈ ps, p.length = 32) → parsF ps.length false (ps.flatten ++ r) acc = (acc ++ ps, r, false)
 | [], acc, r, _ => by simp [parsF]
 | p :: ps, acc, r, h => by
   have ei := id_fwd false p (ps.flatten ++ r) (h p (by simp))
   rw [List.length_cons, List.flatten_cons, List.append_assoc]
   show parsF ps.length (idR false (p ++ (ps.flatten ++ r))).2 (idR false (p ++ (ps.flatten ++ r))).1 (acc ++ [idV (p ++ (ps.flatten ++ r))]) = _
   rw [ei.1, ei.2]
   simp only
   rw [pars_fwd ps _ r (fun x hx => h x (by simp [hx]))]
   simp
end Rm
end Go.Proofs.YtkcjhkfelaplkaaGreatDoor
end
section
namespace Go.Proofs.YtkcjhkfelaplkaaGreatDoor
open Go.RowKit
namespace Rm
def maxT : Nat := 4294967295
def blobF (t : List UInt8) : Ob × (List UInt8 × Bool) := ({ noOb with kind := 1, data := ⟨t.toArray⟩ }, [], false)
def treeB (t : List UInt8) : Ob × (List UInt8 × Bool) := ({ noOb with kind := 2, ents := (treeF t.length false t []).1 }, [], (treeF t.length false t []).2)
def cmN (t : List UInt8) : Nat := numV 8 (idR false t).1
def cmS (t : List UInt8) : List UInt8 × Bool := numR 8 (idR false t).2 (idR false t).1
def cmP (t : List UInt8) : List (List UInt8) × (List UInt8 × Bool) := parsF (cmN t) (cmS t).2 (cmS t).1 []
def cmT (t : List UInt8) : Nat := numV maxT (cmP t).2.1
def cmU (t : List UInt8) : List UInt8 × Bool := numR maxT (cmP t).2.2 (cmP t).2.1
def cmX (t : List UInt8) : List UInt8 := textV (cmU t).1
def commitB (t : List UInt8) : Ob × (List UInt8 × Bool) := ({ noOb with kind := 3, tree := idV t, pars := (cmP t).1, time := cmT t, text := ⟨(cmX t).toArray⟩ }, textR (cmU t).2 (cmU t).1)
def tgI (t : List UInt8) : List UInt8 × Bool := idR (kindR false t).2 (kindR false t).1
def tagB (t : List UInt8) : Ob × (List UInt8 × Bool) := ({ noOb with kind := 4, target := idV (kindR false t).1, of := kindV t, name := ⟨(textV (tgI t).1).toArray⟩ }, textR (tgI t).2 (tgI t).1)
def bodyF (k : Int) (t : List UInt8) : Ob × (List UInt8 × Bool) := if k = 1 then blobF t else if k = 2 then treeB t else if k = 3 then commitB t else tagB t
def bdV (l : List UInt8) : List UInt8 := textV (kindR false l).1
def bdR (l : List UInt8) : List UInt8 × Bool := textR (kindR false l).2 (kindR false l).1
def okA (l : List UInt8) : Bool := decide (bdR l = ([], false)) && decide (1 ≤ kindV l ∧ kindV l ≤ 4)
def okB (l : List UInt8) : Bool := decide ((bodyF (kindV l) (bdV l)).2 = ([], false)) && validB (bodyF (kindV l) (bdV l)).1
def dec (l : List UInt8) : Option Ob := if l.length ≤ 4096 ∧ okA l = true ∧ okB l = true then some (bodyF (kindV l) (bdV l)).1 else none
theorem pr_of {α β : Type} {p : α × β} {b : β} (h : p.2 = b) : p = (p.1, b) := by rw [← h]
theorem pr_of3 {α β γ : Type} {p : α × (β × γ)} {b : γ} (h : p.2.2 = b) : p = (p.1, p.2.1, b) := by rw [← h]
theorem mk_size (t : List UInt8) : (ByteArray.mk t.toArray).size = t.length := by rw [← size_list]
theorem body_inv {k : Int} {t : List UInt8} (h0 : 1 ≤ k) (h1 : k ≤ 4) (h : (bodyF k t).2 = ([], false)) : (bodyF k t).1.kind = k ∧ bodyL (bodyF k t).1 = t := by
 unfold bodyF at *
 by_cases e1 : k = 1
 ·
  subst e1
  rw [if_pos rfl]
  exact ⟨rfl, by simp [bodyL, blobF]⟩
 rw [if_neg e1] at h ⊢
 by_cases e2 : k = 2
 ·
  subst e2
  rw [if_pos rfl] at h ⊢
  have hb : (treeF t.length false t []).2 = false := congrArg Prod.snd h
  obtain ⟨_, es, he, hl⟩ := tree_inv t.length false t [] (treeF t.length false t []).1 (Nat.le_refl _) (pr_of hb)
  refine ⟨rfl, ?_⟩
  show (treeF t.length false t []).1.flatMap enB = t
  rw [he, List.nil_append]
  exact hl.symm
 rw [if_neg e2] at h ⊢
 by_cases e3 : k = 3
 ·
  subst e3
  rw [if_pos rfl] at h ⊢
  obtain ⟨g4, f4⟩ := text_inv (show textR (cmU t).2 (cmU t).1 = ([], false) from h)
  obtain ⟨g3, f3, _⟩ := num_inv (show numR maxT (cmP t).2.2 (cmP t).2.1 = ((cmU t).1, false) from pr_of g4)
  obtain ⟨g2, ps, e2', hlen, f2⟩ := pars_inv (cmN t) (cmS t).2 (cmS t).1 [] (cmP t).1 (cmP t).2.1 (pr_of3 g3)
  obtain ⟨g1, f1, _⟩ := num_inv (show numR 8 (idR false t).2 (idR false t).1 = ((cmS t).1, false) from pr_of g2)
  obtain ⟨_, f0⟩ := id_inv (show idR false t = ((idR false t).1, false) from pr_of g1)
  refine ⟨rfl, ?_⟩
  rw [List.nil_append] at e2'
  rw [List.append_nil] at f4
  show commitL (commitB t).1 = t
  unfold commitL
  show (((idV t ++ Lib.uvarint (cmP t).1.length) ++ (cmP t).1.flatten) ++ Lib.uvarint (cmT t)) ++ (textOf ⟨(cmX t).toArray⟩).data.toList = t
  have r4 : (textOf ⟨(cmX t).toArray⟩).data.toList = (cmU t).1 := f4.symm
  have r3 : Lib.uvarint (cmT t) ++ (cmU t).1 = (cmP t).2.1 := f3.symm
  have r2 : (cmP t).1.flatten ++ (cmP t).2.1 = (cmS t).1 := by rw [e2']; exact f2.symm
  have r1 : Lib.uvarint (cmP t).1.length ++ (cmS t).1 = (idR false t).1 := by rw [e2', hlen]; exact f1.symm
  rw [List.append_assoc, r4, r3, List.append_assoc, r2, List.append_assoc, r1]
  exact f0.symm
 ·
  rw [if_neg e3] at h ⊢
  obtain ⟨g3, f3⟩ := text_inv (show textR (tgI t).2 (tgI t).1 = ([], false) from h)
  obtain ⟨g2, f2⟩ := id_inv (show idR (kindR false t).2 (kindR false t).1 = ((tgI t).1, false) from pr_of g3)
  obtain ⟨_, f1, _⟩ := kind_inv (show kindR false t = ((kindR false t).1, false) from pr_of g2)
  have hk : k = 4 := by omega
  subst hk
  refine ⟨rfl, ?_⟩
  rw [List.append_nil] at f3
  show tagL (tagB t).1 = t
  unfold tagL
  show byteK (kindV t) :: (idV (kindR false t).1 ++ (textOf ⟨(textV (tgI t).1).toArray⟩).data.toList) = t
  rw [← f3, ← f2]
  exact f1.symm
theorem dec_inv {l : List UInt8} {o : Ob} (h : dec l = some o) : validB o = true ∧ (encS o).data.toList = l ∧ l.length ≤ 4096 ∧ okA l = true ∧ okB l = true ∧ o = (bodyF (kindV l) (bdV l)).1 := by
 unfold dec at h
 split at h
 ·
  rename_i hc
  obtain ⟨hl, ha, hb⟩ := hc
  simp only [Option.some.injEq] at h
  subst h
  have ha' := ha
  have hb' := hb
  unfold okA at ha'
  unfold okB at hb'
  simp only [Bool.and_eq_true, decide_eq_true_eq] at ha' hb'
  obtain ⟨a1, a2, a3⟩ := ha'
  obtain ⟨b1, b2⟩ := hb'
  obtain ⟨hk, hbl⟩ := body_inv a2 a3 b1
  obtain ⟨g2, f2⟩ := text_inv (show textR (kindR false l).2 (kindR false l).1 = ([], false) from a1)
  obtain ⟨_, f1, _⟩ := kind_inv (show kindR false l = ((kindR false l).1, false) from pr_of g2)
  refine ⟨b2, ?_, hl, ha, hb, rfl⟩
  unfold encS
  rw [hbl, hk, ByteArray.data_append, Array.toList_append]
  rw [List.append_nil] at f2
  show byteK (kindV l) :: (textOf ⟨(bdV l).toArray⟩).data.toList = l
  rw [show (textOf ⟨(bdV l).toArray⟩).data.toList = (kindR false l).1 from f2.symm]
  exact f1.symm
 · cases h
theorem ob_ext {a b : Ob} (h1 : a.kind = b.kind) (h2 : a.data = b.data) (h3 : a.ents = b.ents) (h4 : a.tree = b.tree) (h5 : a.pars = b.pars) (h6 : a.time = b.time) (h7 : a.text = b.text) (h8 : a.target = b.target) (h9 : a.of = b.of) (h10 : a.name = b.name) : a = b := by
 cases a; cases b; simp_all
theorem empty_of {b : ByteArray} (h : b.toList = []) : b = ⟨#[]⟩ := by
 apply bytes_ext
 rw [ByteArray.toList_eq] at h
 rw [h]
theorem mk_list (b : ByteArray) : (⟨b.data.toList.toArray⟩ : ByteArray) = b := by simp
theorem body_fwd {o : Ob} (hv : validB o = true) (ft : Fit o) (ei : ∀ e ∈ o.ents, e.id.length = 32) (pi : ∀ p ∈ o.pars, p.length = 32) (ht : o.tree.length = 32) (hg : o.target.length = 32) (hti : o.time < 4294967296) : bodyF o.kind (bodyL o) = (o, [], false) := by
 have hv2 := hv
 unfold validB foreignZ at hv2
 simp only [Bool.and_eq_true, Bool.or_eq_true, beq_iff_eq, blobZ, treeZ, commitZ, tagZ, decide_eq_true_eq, List.isEmpty_iff] at hv2
 obtain ⟨⟨⟨⟨z1, z2⟩, z3⟩, z4⟩, _⟩ := hv2
 have hk := ft.k
 unfold bodyF
 by_cases e1 : o.kind = 1
 ·
  rw [if_pos e1]
  have b2 := z2.resolve_left (by omega)
  obtain ⟨⟨⟨c1, c2⟩, c3⟩, c4⟩ := z3.resolve_left (by omega)
  obtain ⟨⟨d1, d2⟩, d3⟩ := z4.resolve_left (by omega)
  refine Prod.ext (ob_ext e1.symm ?_ b2.symm c1.symm c2.symm c3.symm (empty_of c4).symm d1.symm d2.symm (empty_of d3).symm) rfl
  show (⟨(bodyL o).toArray⟩ : ByteArray) = o.data
  simp [bodyL, e1]
 rw [if_neg e1]
 have b1 := empty_of (z1.resolve_left e1)
 by_cases e2 : o.kind = 2
 ·
  rw [if_pos e2]
  obtain ⟨⟨⟨c1, c2⟩, c3⟩, c4⟩ := z3.resolve_left (by omega)
  obtain ⟨⟨d1, d2⟩, d3⟩ := z4.resolve_left (by omega)
  have hb : bodyL o = o.ents.flatMap enB := by simp [bodyL, e2]
  have hf := tree_fwd o.ents (bodyL o).length [] (fun e he => ⟨by have := ((ft.e e2).2 e he).1; omega, ((ft.e e2).2 e he).2.1, ((ft.e e2).2 e he).2.2, ei e he⟩) (by rw [hb]; exact Nat.le_refl _)
  rw [← hb, List.nil_append] at hf
  unfold treeB
  rw [hf]
  exact Prod.ext (ob_ext e2.symm b1.symm rfl c1.symm c2.symm c3.symm (empty_of c4).symm d1.symm d2.symm (empty_of d3).symm) rfl
 rw [if_neg e2]
 have b2 := z2.resolve_left e2
 by_cases e3 : o.kind = 3
 ·
  rw [if_pos e3]
  obtain ⟨⟨d1, d2⟩, d3⟩ := z4.resolve_left (by omega)
  have hb : bodyL o = o.tree ++ (Lib.uvarint o.pars.length ++ (o.pars.flatten ++ (Lib.uvarint o.time ++ ((textOf o.text).data.toList ++ [])))) := by simp [bodyL, e3, commitL]
  have i0 := id_fwd false o.tree (Lib.uvarint o.pars.length ++ (o.pars.flatten ++ (Lib.uvarint o.time ++ ((textOf o.text).data.toList ++ [])))) ht
  have i1 := num_fwd 8 false o.pars.length (o.pars.flatten ++ (Lib.uvarint o.time ++ ((textOf o.text).data.toList ++ []))) (ft.p e3) (by omega)
  have i2 := pars_fwd o.pars [] (Lib.uvarint o.time ++ ((textOf o.text).data.toList ++ [])) pi
  have i3 := num_fwd maxT false o.time ((textOf o.text).data.toList ++ []) (by unfold maxT; omega) (by unfold maxT; omega)
  have i4 := text_fwd false o.text [] (by have := ft.t; omega)
  rw [← hb] at i0
  have hS : cmS (bodyL o) = (o.pars.flatten ++ (Lib.uvarint o.time ++ ((textOf o.text).data.toList ++ [])), false) := by unfold cmS; rw [i0.1]; exact i1.1
  have hN : cmN (bodyL o) = o.pars.length := by unfold cmN; rw [i0.1]; exact i1.2
  have hP : cmP (bodyL o) = (o.pars, Lib.uvarint o.time ++ ((textOf o.text).data.toList ++ []), false) := by unfold cmP; rw [hS, hN]; exact i2
  have hT : cmT (bodyL o) = o.time := by unfold cmT; rw [hP]; exact i3.2
  have hU : cmU (bodyL o) = ((textOf o.text).data.toList ++ [], false) := by unfold cmU; rw [hP]; exact i3.1
  have hX : cmX (bodyL o) = o.text.data.toList := by unfold cmX; rw [hU]; exact i4.2
  unfold commitB
  rw [hP, hT, hU, hX, i0.2]
  refine Prod.ext (ob_ext e3.symm b1.symm b2.symm rfl rfl rfl ?_ d1.symm d2.symm (empty_of d3).symm) i4.1
  exact mk_list o.text
 ·
  rw [if_neg e3]
  have e4 : o.kind = 4 := by omega
  obtain ⟨⟨⟨c1, c2⟩, c3⟩, c4⟩ := z3.resolve_left e3
  have hf := ft.f e4
  have hb : bodyL o = byteK o.of :: (o.target ++ ((textOf o.name).data.toList ++ [])) := by simp [bodyL, e4, tagL]
  have i0 := kind_fwd false o.of (o.target ++ ((textOf o.name).data.toList ++ [])) hf.1 hf.2
  have i1 := id_fwd false o.target ((textOf o.name).data.toList ++ []) hg
  have i2 := text_fwd false o.name [] (by have := ft.n; omega)
  rw [← hb] at i0
  have hI : tgI (bodyL o) = ((textOf o.name).data.toList ++ [], false) := by unfold tgI; rw [i0.1]; exact i1.1
  unfold tagB
  rw [hI, i0.1, i0.2]
  refine Prod.ext (ob_ext e4.symm b1.symm b2.symm c1.symm c2.symm c3.symm (empty_of c4).symm i1.2 rfl ?_) i2.1
  show (⟨(textV ((textOf o.name).data.toList ++ [])).toArray⟩ : ByteArray) = o.name
  rw [i2.2]
theorem dec_fwd {o : Ob} (hv : validB o = true) (ft : Fit o) (ei : ∀ e ∈ o.ents, e.id.length = 32) (pi : ∀ p ∈ o.pars, p.length = 32) (ht : o.tree.length = 32) (hg : o.target.length = 32) (hti : o.time < 4294967296) (hs : (encS o).size ≤ 4096) : dec (encS o).data.toList = some o := by
 have hk := ft.k
 have hbl := body_len ft ei pi ht hg hti
 have hl : (encS o).data.toList = byteK o.kind :: ((textOf ⟨(bodyL o).toArray⟩).data.toList ++ []) := by
  unfold encS
  rw [ByteArray.data_append, Array.toList_append, List.append_nil]; rfl
 have i0 := kind_fwd false o.kind ((textOf ⟨(bodyL o).toArray⟩).data.toList ++ []) (by omega) (by omega)
 have i1 := text_fwd false ⟨(bodyL o).toArray⟩ [] (by rw [mk_size]; omega)
 rw [← hl] at i0
 have hV : bdV (encS o).data.toList = bodyL o := by unfold bdV; rw [i0.1]; exact i1.2
 have hR : bdR (encS o).data.toList = ([], false) := by unfold bdR; rw [i0.1]; exact i1.1
 have hB := body_fwd hv ft ei pi ht hg hti
 unfold dec okA okB
 rw [hV, hR, i0.2, hB, size_list]
 rw [if_pos ⟨hs, by simp; omega, by simp [hv]⟩]
end Rm
end Go.Proofs.YtkcjhkfelaplkaaGreatDoor
end
section
namespace Go.Proofs.YtkcjhkfelaplkaaGreatDoor
open Go.RowKit
def Rl (w : World) (g : Nat) (s : List UInt8 × Bool) : Prop := Rd w g ⟨s.1.toArray⟩ s.2
theorem extract_l (s : ByteArray) (a b : Nat) : (s.extract a b).data.toList = (s.data.toList.drop a).take (b - a) := by
 rw [show s.extract a b = (ByteArray.mk s.data.toList.toArray).extract a b by simp, ByteArray.extract_mk]
theorem extract_r (s : ByteArray) (a : Nat) : (s.extract a s.size).data.toList = s.data.toList.drop a := by
 rw [extract_l, List.take_of_length_le]; rw [List.length_drop, size_list]; omega
theorem rd_l {w : World} {g : Nat} {s : ByteArray} {b : Bool} {p : List UInt8 × Bool} (h : Rd w g s b) (h1 : s.data.toList = p.1) (h2 : b = p.2) : Rl w g p := by
 unfold Rl
 rw [← h1, ← h2]
 exact h
def Took (g : Nat) (v : Value) (p : List UInt8 × Bool) (w : World) (r : Ending) (w' : World) : Prop := r = .returned v ∧ Rl w' g p ∧ w.grownBy w' (some g)
theorem kind_l (g : Nat) (l : List UInt8) (b : Bool) (w : World) (h : Rl w g (l, b)) (hl : l.length ≤ 1000000) :
  Calls Tryz.prog 106 #[.pointer (some ⟨g, 0, none⟩)] w (Took g (.int .i64 (Rm.kindV l)) (Rm.kindR b l) w) := by
 cases l with
 | nil => exact (kind_none g b w h).mono fun e w' ⟨h1, h2, h3⟩ => ⟨h1, rd_l h2 rfl rfl, h3⟩
 | cons x t =>
   have hs : (ByteArray.mk (x :: t).toArray).size = t.length + 1 := by rw [Rm.mk_size]; rfl
   refine (kind_some g ⟨(x :: t).toArray⟩ b w h (by rw [hs]; omega) (by rw [hs]; unfold maxLen; simp at hl; omega)).mono fun e w' ⟨h1, h2, h3⟩ => ⟨h1, rd_l h2 ?_ rfl, h3⟩
   rw [extract_r]; rfl
theorem text_l (g : Nat) (l : List UInt8) (b : Bool) (w : World) (h : Rl w g (l, b)) (hl : l.length ≤ 1000000) :
  Calls Tryz.prog 107 #[.pointer (some ⟨g, 0, none⟩)] w (Took g (.string ⟨(Rm.textV l).toArray⟩) (Rm.textR b l) w) := by
 have hs : (ByteArray.mk l.toArray).size = l.length := Rm.mk_size l
 have hm : (ByteArray.mk l.toArray).size ≤ maxLen := by rw [hs]; unfold maxLen; omega
 have hd : (ByteArray.mk l.toArray).data.toList = l := by simp
 have h' : Rd w g ⟨l.toArray⟩ b := h
 cases hv : Rm.vget l with
 | none =>
   have hn : ∀ e, ¬ Vi.Ok (ByteArray.mk l.toArray).data.toList e := by rw [hd]; exact Rm.vget_none hv
   have ht : Rm.vtake l = none := by unfold Rm.vtake; rw [hv]
   unfold Rm.textV Rm.textR
   rw [ht]
   exact (rtext_bad g _ b w h' ((take_none _ w hm hn).mono fun e w' ⟨h1, h2⟩ => ⟨h1, 0, h2.symm⟩)).mono fun e w' ⟨h1, h2, h3⟩ => ⟨h1, rd_l h2 rfl rfl, h3⟩
 | some p =>
   obtain ⟨n, k⟩ := p
   have hbd := Rm.vget_bd hv
   obtain ⟨e, he, rfl, rfl⟩ := Rm.vget_some hv
   have he' : Vi.Ok (ByteArray.mk l.toArray).data.toList e := by rw [hd]; exact he
   by_cases hlt : l.length - (e + 1) < Vi.val (l.take (e + 1))
   ·
    have ht : Rm.vtake l = none := by unfold Rm.vtake; rw [hv]; simp only; rw [if_pos hlt]
    unfold Rm.textV Rm.textR
    rw [ht]
    exact (rtext_bad g _ b w h' (take_short _ w hm e he' (by rw [hs, hd]; exact hlt))).mono fun e w' ⟨h1, h2, h3⟩ => ⟨h1, rd_l h2 rfl rfl, h3⟩
   ·
    have ht : Rm.vtake l = some ((l.drop (e + 1)).take (Vi.val (l.take (e + 1))), l.drop (e + 1 + Vi.val (l.take (e + 1)))) := by unfold Rm.vtake; rw [hv]; simp only; rw [if_neg hlt]
    unfold Rm.textV Rm.textR
    rw [ht]
    have htk := take_ok ⟨l.toArray⟩ w hm e he' (by rw [hs, hd]; omega)
    refine (rtext_ok g ⟨l.toArray⟩ _ _ b w h' htk).mono fun r w' ⟨h1, h2, h3⟩ => ⟨?_, rd_l h2 ?_ rfl, h3⟩
    ·
     rw [h1]
     refine congrArg (fun x => Ending.returned (.string x)) (bytes_ext ?_)
     rw [extract_l, extract_r, hd, List.drop_zero, Nat.sub_zero]
    ·
     rw [extract_l, extract_r, hd, List.drop_drop, List.take_of_length_le]
     rw [List.length_drop, hs]; omega
theorem id_l (g : Nat) (l : List UInt8) (b : Bool) (w : World) (h : Rl w g (l, b)) (hl : l.length ≤ 1000000) :
  Calls Tryz.prog 177 #[.pointer (some ⟨g, 0, none⟩)] w (Took g (.agg (idC (Rm.idV l)).toArray) (Rm.idR b l) w) := by
 have hs : (ByteArray.mk l.toArray).size = l.length := Rm.mk_size l
 have hd : (ByteArray.mk l.toArray).data.toList = l := by simp
 unfold Rm.idV Rm.idR
 by_cases h32 : l.length < 32
 ·
  rw [if_pos h32, if_pos h32]
  exact (id_short g _ b w h (by rw [hs]; exact h32)).mono fun e w' ⟨h1, h2, h3⟩ => ⟨h1, rd_l h2 rfl rfl, h3⟩
 ·
  rw [if_neg h32, if_neg h32]
  refine (id_ok g ⟨l.toArray⟩ b w h (by rw [hs]; omega) (by rw [hs]; unfold maxLen; omega)).mono fun e w' ⟨h1, h2, h3⟩ => ⟨h1, rd_l h2 ?_ rfl, h3⟩
  rw [extract_r]
theorem num_l (g : Nat) (l : List UInt8) (b : Bool) (m : Nat) (w : World) (h : Rl w g (l, b)) (hl : l.length ≤ 1000000) :
  Calls Tryz.prog 178 #[.pointer (some ⟨g, 0, none⟩), .int .u64 m] w (Took g (.int .u64 (Rm.numV m l)) (Rm.numR m b l) w) := by
 have hs : (ByteArray.mk l.toArray).size = l.length := Rm.mk_size l
 have hm : (ByteArray.mk l.toArray).size ≤ maxLen := by rw [hs]; unfold maxLen; omega
 have hd : (ByteArray.mk l.toArray).data.toList = l := by simp
 have h' : Rd w g ⟨l.toArray⟩ b := h
 unfold Rm.numV Rm.numR
 cases hv : Rm.vget l with
 | none =>
   have hn : ∀ e, ¬ Vi.Ok (ByteArray.mk l.toArray).data.toList e := by rw [hd]; exact Rm.vget_none hv
   exact (number_none g _ m b w h' (get_none _ w hm hn)).mono fun e w' ⟨h1, h2, h3⟩ => ⟨h1, rd_l h2 rfl rfl, h3⟩
 | some p =>
   obtain ⟨n, k⟩ := p
   obtain ⟨e, he, rfl, rfl⟩ := Rm.vget_some hv
   have he' : Vi.Ok (ByteArray.mk l.toArray).data.toList e := by rw [hd]; exact he
   simp only
   have hg := get_ok ⟨l.toArray⟩ w hm e he'
   rw [hd] at hg
   by_cases hlt : m < Vi.val (l.take (e + 1))
   ·
    rw [if_pos hlt, if_pos hlt]
    exact (number_big g _ _ _ m b w h' hlt hg).mono fun e w' ⟨h1, h2, h3⟩ => ⟨h1, rd_l h2 rfl rfl, h3⟩
   ·
    rw [if_neg hlt, if_neg hlt]
    refine (number_ok g ⟨l.toArray⟩ _ _ m b w h' (by omega) hg).mono fun e w' ⟨h1, h2, h3⟩ => ⟨h1, rd_l h2 ?_ rfl, h3⟩
    rw [extract_r]
end Go.Proofs.YtkcjhkfelaplkaaGreatDoor
end
end
section
section
namespace Go.Proofs.YtkcjhkfelaplkaaGreatDoor
open Go.RowKit
def Bdy (g : Nat) (p : Ob × (List UInt8 × Bool)) (w : World) (r : Ending) (w' : World) : Prop :=
 ∃ (cs : Array Value) (ao bo : Option Addr) (ca cb : Nat), r = .returned (.agg cs) ∧ ObAt w' cs p.1 ao bo ca cb ∧ Rl w' g p.2 ∧ w.grownBy w' (some g) ∧ ∀ a, ao = some a ∨ bo = some a → w.heap.size ≤ a.block
theorem Rl.grown {w w' : World} {g k : Nat} {p : List UInt8 × Bool} (h : Rl w g p) (hg : w.grownBy w' (some k)) (hne : g ≠ k) : Rl w' g p :=
 (hg.block g (Array.getElem?_eq_some_iff.1 h).1 (by simpa using hne)).trans h
theorem Rl.alloc {w : World} {g : Nat} {p : List UInt8 × Bool} (h : Rl w g p) (o : Obj) : Rl (w.alloc o) g p := (Lib.alloc_old w o g (Array.getElem?_eq_some_iff.1 h).1).trans h
theorem Rl.setRow {w : World} {g k : Nat} {p : List UInt8 × Bool} (h : Rl w g p) (cs : Array Value) (hne : g ≠ k) : Rl (w.setRow k cs) g p := (setRow_other _ _ _ _ hne).trans h
theorem held_grown {w w' : World} {g k : Nat} {o : Obj} (h : w.heap[g]? = some o) (hg : w.grownBy w' (some k)) (hne : g ≠ k) : w'.heap[g]? = some o :=
 (hg.block g (Array.getElem?_eq_some_iff.1 h).1 (by simpa using hne)).trans h
theorem held_alloc {w : World} {g : Nat} {o o' : Obj} (h : w.heap[g]? = some o') : (w.alloc o).heap[g]? = some o' := (Lib.alloc_old w o g (Array.getElem?_eq_some_iff.1 h).1).trans h
theorem grown_setRow {w w' : World} {g k : Nat} (h : w.grownBy w' (some g)) (cs : Array Value) (hk : w.heap.size ≤ k) : w.grownBy (w'.setRow k cs) (some g) :=
 ⟨h.os, h.tape, h.output, by rw [setRow_size]; exact h.size, fun i hi hne => (setRow_other _ _ _ _ (by omega)).trans (h.block i hi hne)⟩
theorem own_new {w : World} {base e m n c cap : Nat} {pa : Option Addr} {xs : List Value} (h : w.ownsRow base e m (.slice pa n cap) n xs) (hb : c ≤ base) : ∀ a, pa = some a → c ≤ a.block := fun a ha => by
 subst ha
 exact Nat.le_trans hb (h.lt a.block rfl).1
theorem RowsAt.setRow {w : World} {k m : Nat} {cs : Array Value} {ao : Option Addr} {n cap : Nat} {L : List (List Value)} (h : RowsAt w (.slice ao n cap) m L) (hk : ∀ a, ao = some a → a.block ≠ k) : RowsAt (w.setRow k cs) (.slice ao n cap) m L := by
 refine ⟨?_⟩
 rcases h.out with h0 | ⟨a, cap', hv, hc⟩
 · exact .inl h0
 ·
  refine .inr ⟨a, cap', hv, fun i c hi => ⟨(hc i c hi).1, fun j x hx => ?_⟩⟩
  have h1 := (hc i c hi).2 j x hx
  simp only [Value.slice.injEq] at hv
  have hne := hk a hv.1
  have hb : ((a.add (i * m)).add j).block = a.block := by rw [add_block, add_block]
  unfold World.cell? at h1 ⊢
  rw [setRow_other _ _ _ _ (by rw [hb]; exact hne)]
  exact h1
theorem ObAt.setRow {w : World} {k : Nat} {cs c : Array Value} {o : Ob} {ao bo : Option Addr} {ca cb : Nat} (h : ObAt w cs o ao bo ca cb) (hk : ∀ a, ao = some a ∨ bo = some a → a.block ≠ k) : ObAt (w.setRow k c) cs o ao bo ca cb :=
 ⟨h.F, h.E.setRow (fun a ha => hk a (.inl ha)), h.P.setRow (fun a ha => hk a (.inr ha)), h.eid, h.enm, h.pid, h.el, h.pl, h.nm, h.ti⟩
theorem bd_tag {ops : Array Oper} {rest : List Oper} {op : Oper} {a : Act} {w : World} {Q : Exit → Act → World → Prop} {k x y z : Operand} {l : List UInt8} {f : Int} {nm : ByteArray} {c : Array Value} (ho : op.op = .build 59 #[(0, k), (8, x), (7, y), (9, z)]) (hk : a.eval k = .int .i64 4) (hx : a.eval x = .int .i64 f) (hy : a.eval y = .agg (idC l).toArray) (hz : a.eval z = .string nm) (hg : op.guard = none) (hb : Tryz.prog.built 59 [(0, .int .i64 4), (8, .int .i64 f), (7, .agg (idC l).toArray), (9, .string nm)] = some c)
  (h : wpList Tryz.prog ops Q rest (a.put op.dst (.agg c)) w) : wpList Tryz.prog ops Q (op :: rest) a w :=
 wpList_build_as hg _ _ ho _ (by simp only [List.map_toArray, List.map_cons, List.map_nil, hk, hx, hy, hz]; exact hb) h
theorem kindV_bd (l : List UInt8) : 0 ≤ Rm.kindV l ∧ Rm.kindV l < 256 := by
 cases l with
 | nil => simp [Rm.kindV]
 | cons x r => have := x.toNat_lt; simp only [Rm.kindV]; omega
theorem textV_len (l : List UInt8) : (Rm.textV l).length ≤ l.length := by
 unfold Rm.textV; split
 · simp
 ·
  rename_i t r hv
  unfold Rm.vtake at hv
  split at hv
  · cases hv
  ·
   split at hv
   · cases hv
   ·
    simp only [Option.some.injEq, Prod.mk.injEq] at hv
    obtain ⟨rfl, _⟩ := hv
    rw [List.length_take, List.length_drop]; omega
theorem kindR_len (b : Bool) (l : List UInt8) : (Rm.kindR b l).1.length ≤ l.length := by cases l <;> simp [Rm.kindR]
theorem idR_len (b : Bool) (l : List UInt8) : (Rm.idR b l).1.length ≤ l.length := by
 unfold Rm.idR; split
 · simp
 · rw [List.length_drop]; omega
theorem textR_len (b : Bool) (l : List UInt8) : (Rm.textR b l).1.length ≤ l.length := by
 unfold Rm.textR; split
 · simp
 ·
  rename_i t r hv
  unfold Rm.vtake at hv
  split at hv
  · cases hv
  ·
   split at hv
   · cases hv
   ·
    simp only [Option.some.injEq, Prod.mk.injEq] at hv
    obtain ⟨_, rfl⟩ := hv
    rw [List.length_drop]; omega
theorem numR_len (m : Nat) (b : Bool) (l : List UInt8) : (Rm.numR m b l).1.length ≤ l.length := by
 unfold Rm.numR; split
 · simp
 ·
  split
  · simp
  · rw [List.length_drop]; omega
theorem tag_any (g : Nat) (t : List UInt8) (w : World) (h : Rl w g (t, false)) (hl : t.length ≤ 100000) :
  Calls Tryz.prog 149 #[.pointer (some ⟨g, 0, none⟩)] w (Bdy g (Rm.tagB t) w) := by
 have hz28 := (zero_of_info zero28).1
 have hz24 := (zero_of_info zero24).1
 have HS0 := Lib.hid noF.size
 generalize (obC noOb nilV nilV).toArray = z at hz28 HS0
 have hlt := (Array.getElem?_eq_some_iff.1 h).1
 have R1 := h.alloc (.cells z 59)
 have E1 := Lib.hid (heap_alloc_last w (.cells z 59))
 have G1 := World.grownBy_alloc w (.cells z 59) (some g)
 have HZL := Lib.hid zsize
 have hk1 := kindR_len false t
 have hk2 := idR_len (Rm.kindR false t).2 (Rm.kindR false t).1
 clear h
 go_enter Tryz.func149, Tryz.ntmps149
 go_wp2_with fail
 refine (kind_l g t false _ R1 (by omega)).mono ?_
 rintro r w2 ⟨rfl, R2, G2⟩
 have E2 := Lib.hid (held_grown E1.out G2 (by omega))
 have G12 := grown_trans G1 G2
 clear R1 E1 G1 G2
 go_wp2_with fail
 refine (id_l g (Rm.kindR false t).1 (Rm.kindR false t).2 _ R2 (by omega)).mono ?_
 rintro r w3 ⟨rfl, R3, G3⟩
 have E3 := Lib.hid (held_grown E2.out G3 (by omega))
 have G13 := grown_trans G12 G3
 have hid := Rm.idV_len (Rm.kindR false t).1
 have HID := Lib.hid hid
 clear R2 E2 G12 G3 hid
 generalize hI : Rm.idV (Rm.kindR false t).1 = idl at *
 have HI := Lib.hid hI
 clear hI
 go_wp2_with (first
  | ((with_reducible apply st_id (hl := HID.out)); rfl; rfl; rfl; rfl; rfl))
 have R4 := R3.alloc (.cells (idC idl).toArray 46)
 have E4 := Lib.hid (held_alloc (o := .cells (idC idl).toArray 46) E3.out)
 have I4 := Lib.hid (heap_alloc_last w3 (.cells (idC idl).toArray 46))
 have G14 := grown_trans G13 (World.grownBy_alloc w3 (.cells (idC idl).toArray 46) (some g))
 have hs3 := G13.size
 clear R3 E3 G13
 refine (text_l g (Rm.idR (Rm.kindR false t).2 (Rm.kindR false t).1).1 (Rm.idR (Rm.kindR false t).2 (Rm.kindR false t).1).2 _ R4 (by omega)).mono ?_
 rintro r w5 ⟨rfl, R5, G5⟩
 have E5 := Lib.hid (held_grown E4.out G5 (by omega))
 have I5 := Lib.hid (id_rid (held_grown I4.out G5 (by omega)))
 have G15 := grown_trans G14 G5
 have hnm : (Rm.textV (Rm.tgI t).1).length ≤ 100000 := by
  have := textV_len (Rm.tgI t).1
  have : (Rm.tgI t).1.length ≤ (Rm.kindR false t).1.length := hk2
  omega
 have hF := obC_F { noOb with kind := 4, target := idl, of := Rm.kindV t, name := ⟨(Rm.textV (Rm.tgI t).1).toArray⟩ } nilV nilV rfl HID.out rfl rfl
 have HS := Lib.hid hF.size
 have HO := Lib.hid hF.one
 have HFF := Lib.hid hF
 have HB := Lib.hid (built_tag idl HID.out (Rm.kindV t) ⟨(Rm.textV (Rm.tgI t).1).toArray⟩)
 clear hF R4 E4 I4 G14 G5
 generalize (obC { noOb with kind := 4, target := idl, of := Rm.kindV t, name := ⟨(Rm.textV (Rm.tgI t).1).toArray⟩ } nilV nilV).toArray = c at HS HO HB HFF
 go_wp2_with (first
  | ((with_reducible refine ld_idm (x := .tmp 4) ?_ ?_ ?_ I5.out HID.out ?_); rfl; rfl; rfl)
  | ((with_reducible refine bd_tag (k := .const (.int .i64 4)) (x := .tmp 12) (y := .tmp 13) (z := .tmp 14) ?_ ?_ ?_ ?_ ?_ ?_ HB.out ?_); rfl; rfl; rfl; rfl; rfl; rfl)
  | ((with_reducible refine st_obr (x := .tmp 2) (y := .tmp 15) ?_ ?_ ?_ ?_ E5.out HS0.out HS.out HO.out ?_); rfl; rfl; rfl; rfl))
 refine bodyPost_ret (results_cell_row (fn := Tryz.f149) (p := 2) (by rfl) _ _ w.heap.size _ _ _ _ (by rfl) (setRow_heap _ _ _ _ _ _ E5.out) Tryz.underlying59 rfl (obsize HS.out)) rfl ⟨c, none, none, 0, 0, rfl, ?_, R5.setRow _ (by omega), grown_setRow G15 _ (Nat.le_refl _), fun a ha => by rcases ha with ha | ha <;> cases ha⟩
 unfold Rm.tagB
 rw [HI.out]
 exact ⟨HFF.out, RowsAt.nil _ _, RowsAt.nil _ _, (fun e he => by cases he), (fun e he => by cases he), (fun e he => by cases he), Nat.zero_le _, Nat.zero_le _, by rw [Rm.mk_size]; unfold maxLen; omega, (show (0 : Nat) < 4294967296 by decide)⟩
end Go.Proofs.YtkcjhkfelaplkaaGreatDoor
end
section
namespace Go.Proofs.YtkcjhkfelaplkaaGreatDoor
open Go.RowKit
theorem flat_at {α : Type} (f : α → List Value) (n : Nat) (ls : List α) (h : ∀ l ∈ ls, (f l).length = n) : ∀ (i : Nat) (l : α), ls[i]? = some l → ∀ (j : Nat) (x : Value), (f l)[j]? = some x → (ls.flatMap f)[i * n + j]? = some x := by
 induction ls with
 | nil => intro i l hi; simp at hi
 | cons a r ih =>
   intro i l hi j x hx
   have ha := h a (by simp)
   rw [List.flatMap_cons]
   cases i with
   | zero =>
     simp at hi; subst hi
     have hj : j < n := by
      have := (List.getElem?_eq_some_iff.1 hx).1; omega
     rw [Nat.zero_mul, Nat.zero_add, List.getElem?_append_left (by omega)]
     exact hx
   | succ i =>
     simp at hi
     have e : (i + 1) * n + j - (f a).length = i * n + j := by rw [ha, Nat.add_mul]; omega
     rw [List.getElem?_append_right (by rw [Nat.add_mul]; omega), e]
     exact ih (fun l hl => h l (by simp [hl])) i l hi j x hx
theorem own_rows {α : Type} (f : α → List Value) (n : Nat) {w : World} {base e : Nat} {v : Value} {ls : List α} (h : w.ownsRow base e n v ls.length (ls.flatMap f)) (hl : ∀ l ∈ ls, (f l).length = n) : RowsAt w v n (ls.map f) := by
 refine ⟨?_⟩
 rcases h.2 with ⟨rfl, h0⟩ | ⟨g, cap, cur, rfl, hg, hb⟩
 · exact .inl ⟨rfl, by simpa using h0⟩
 ·
  refine .inr ⟨⟨g, 0, none⟩, cap, by simp, fun i cs hi => ?_⟩
  obtain ⟨l, hl1, rfl⟩ : ∃ l, ls[i]? = some l ∧ cs = f l := by
   rw [List.getElem?_map] at hi
   cases hq : ls[i]? with
   | none => rw [hq] at hi; simp at hi
   | some l => rw [hq] at hi; simp at hi; exact ⟨l, rfl, hi.symm⟩
  refine ⟨hl l (List.mem_of_getElem? hl1), fun j x hx => ?_⟩
  have := World.ownsRow.cells h (g := g) rfl (i * n + j) x (flat_at f n ls hl i l hl1 j x hx)
  rw [Addr.add_mid] at this
  rw [Addr.add_mid, Addr.add_mid]
  simpa [Nat.add_assoc] using this
theorem own_form {w : World} {base e m n : Nat} {v : Value} {xs : List Value} (h : w.ownsRow base e m v n xs) : ∃ p cap, v = .slice p n cap := by
 rcases h.2 with ⟨rfl, rfl⟩ | ⟨g, cap, cur, rfl, _⟩
 · exact ⟨_, _, rfl⟩
 · exact ⟨_, _, rfl⟩
theorem own_keep {w w' : World} {base e m n b : Nat} {v : Value} {xs : List Value} (h : w.ownsRow base e m v n xs) (hg : w.grownBy w' (some b)) (hb : b < base) : w'.ownsRow base e m v n xs := by
 refine h.kept hg ?_
 cases hv : v.ownBlock with
 | none => exact .inl rfl
 | some k => exact .inr (fun e => by have := (h.lt k hv).1; cases e; omega)
theorem held_own {w w' : World} {base e m n k : Nat} {v : Value} {xs : List Value} {o : Obj} (h : w.heap[k]? = some o) (ho : w.ownsRow base e m v n xs) (hg : w.grownBy w' v.ownBlock) (hb : k < base) : w'.heap[k]? = some o :=
 (hg.block k (Array.getElem?_eq_some_iff.1 h).1 (fun e => by have := (ho.lt k e.symm).1; omega)).trans h
theorem grown_own {w w1 w2 : World} {g : Nat} {row : Option Nat} (h : w.grownBy w1 (some g)) (hg : w1.grownBy w2 row) (hr : ∀ k, row = some k → w.heap.size ≤ k) : w.grownBy w2 (some g) :=
 ⟨hg.os.trans h.os, hg.tape.trans h.tape, hg.output.trans h.output, Nat.le_trans h.size hg.size, fun k hk hne => (hg.block k (Nat.lt_of_lt_of_le hk h.size) (fun e => by have := hr k e.symm; omega)).trans (h.block k hk hne)⟩
theorem infoEn : (Tryz.prog.info? 178).map (fun i => (i.zero, i.size, i.bytes)) = some (some (.agg (enC ⟨⟨#[]⟩, 0, zId⟩).toArray), 34, 56) := by kernel_rfl
section
variable {ops : Array Oper} {rest : List Oper} {op : Oper} {a : Act} {w : World} {Q : Exit → Act → World → Prop} {x y z : Operand}
theorem bd_en {n : ByteArray} {k : Int} {l : List UInt8} (ho : op.op = .build 178 #[(0, x), (1, y), (2, z)]) (hx : a.eval x = .string n) (hy : a.eval y = .int .i64 k) (hz : a.eval z = .agg (idC l).toArray) (hg : op.guard = none) (hl : l.length = 32)
  (h : wpList Tryz.prog ops Q rest (a.put op.dst (.agg (enC ⟨n, k, l⟩).toArray)) w) : wpList Tryz.prog ops Q (op :: rest) a w :=
 wpList_build_as hg _ _ ho _ (by simp only [List.map_toArray, List.map_cons, List.map_nil, hx, hy, hz]; exact built_en n k l hl) h
theorem bs_en {n : ByteArray} {k : Int} {l : List UInt8} (ho : op.op = .buildSlice 56 1 #[(0, x)]) (hx : a.eval x = .agg (enC ⟨n, k, l⟩).toArray) (hg : op.guard = none) (hl : l.length = 32)
  (h : wpList Tryz.prog ops Q rest (a.put op.dst (.slice (some ⟨w.heap.size, 0, none⟩) 1 1)) (w.alloc (.cells (enC ⟨n, k, l⟩).toArray 178))) : wpList Tryz.prog ops Q (op :: rest) a w :=
 Great.wpList_buildSliceTo hg _ 178 1 _ ho w.heap.size rfl op.dst rfl Tryz.underlying56 _ (by simp only [List.map_toArray, List.map_cons, List.map_nil, hx]; exact builtS_en n k l hl) h
theorem bd_tree {ev : Value} {c : Array Value} (ho : op.op = .build 59 #[(0, x), (2, y)]) (hx : a.eval x = .int .i64 2) (hy : a.eval y = ev) (hg : op.guard = none) (hb : Tryz.prog.built 59 [(0, .int .i64 2), (2, ev)] = some c)
  (h : wpList Tryz.prog ops Q rest (a.put op.dst (.agg c)) w) : wpList Tryz.prog ops Q (op :: rest) a w :=
 wpList_build_as hg _ _ ho _ (by simp only [List.map_toArray, List.map_cons, List.map_nil, hx, hy]; exact hb) h
end
theorem news_at {w : World} {g : Nat} {l : List Value} {t : TypeId} (h : w.heap[g]? = some (.cells l.toArray t)) : ∀ j u, l[j]? = some u → w.cell? ((⟨g, 0, none⟩ : Addr).add j) = some u := fun j u hu => by
 rw [Addr.add_mid, Nat.zero_add, cell_of_row _ _ _ _ t (0, 0) h]
 simpa using hu
def leftN (w : World) (g : Nat) : Nat := match w.cell? ⟨g, 0, none⟩ with
 | some (.string s) => s.size
 | _ => 0
theorem left_of {w : World} {g : Nat} {p : List UInt8 × Bool} (h : Rl w g p) : leftN w g = p.1.length := by
 unfold leftN
 rw [show w.cell? ⟨g, 0, none⟩ = some (.string ⟨p.1.toArray⟩) from Rd.c0 h]
 exact Rm.mk_size p.1
structure TrW (w : World) (g : Nat) (z : Array Value) (N : Nat) (R : List En × Bool) (l : List UInt8) (b : Bool) (acc : List En) (o : Value) (w1 : World) : Prop where
 rd : Rl w1 g (l, b)
 wk : ∃ k, l.length ≤ k ∧ Rm.treeF k b l acc = R
 own : w1.ownsRow (w.heap.size + 1) 178 34 o acc.length (acc.flatMap enC)
 box : w1.heap[w.heap.size]? = some (.cells z 59)
 gr : w.grownBy w1 (some g)
 big : w.heap.size + 1 ≤ w1.heap.size
 few : acc.length + l.length ≤ N
 ids : ∀ e ∈ acc, e.id.length = 32 ∧ e.name.size ≤ N
theorem TrW.next {w : World} {g : Nat} {z : Array Value} {N : Nat} {R : List En × Bool} {l : List UInt8} {b : Bool} {acc : List En} {o o' : Value} {w1 w2 : World} (T : TrW w g z N R l b acc o w1) (hl : l ≠ [])
  (rd : Rl w2 g (Rm.oneEn b l).2) (own : w2.ownsRow (w.heap.size + 1) 178 34 o' (acc.length + 1) (acc.flatMap enC ++ enC (Rm.oneEn b l).1)) (box : w2.heap[w.heap.size]? = some (.cells z 59)) (gr : w.grownBy w2 (some g)) (big : w.heap.size + 1 ≤ w2.heap.size) :
  TrW w g z N R (Rm.oneEn b l).2.1 (Rm.oneEn b l).2.2 (acc ++ [(Rm.oneEn b l).1]) o' w2 := by
 have h1 := Rm.one_len b l hl
 have h2 := T.few
 refine ⟨rd, ?_, ?_, box, gr, big, by simp; omega, fun e he => ?_⟩
 ·
  obtain ⟨k, hk, hR⟩ := T.wk
  have hp := List.length_pos_iff.2 hl
  obtain ⟨k, rfl⟩ : ∃ k', k = k' + 1 := ⟨k - 1, by omega⟩
  rw [Rm.treeF_step hl] at hR
  exact ⟨k, by omega, hR⟩
 ·
  rw [List.flatMap_append, List.length_append]
  simpa using own
 ·
  rcases List.mem_append.1 he with he | he
  · exact T.ids e he
  ·
   rw [List.mem_singleton.1 he]
   refine ⟨Rm.idV_len _, ?_⟩
   show (ByteArray.mk (Rm.textV (Rm.kindR b l).1).toArray).size ≤ N
   rw [Rm.mk_size]
   have := textV_len (Rm.kindR b l).1
   have := kindR_len b l
   omega
theorem tree_any (g : Nat) (t : List UInt8) (w : World) (h : Rl w g (t, false)) (hl : t.length ≤ 100000) :
  Calls Tryz.prog 147 #[.pointer (some ⟨g, 0, none⟩)] w (Bdy g (Rm.treeB t) w) := by
 have hz28 := (zero_of_info zero28).1
 have hz24 := (zero_of_info zero24).1
 obtain ⟨i0, hi, hz0, hz1, hz2⟩ := info_parts infoEn
 have HS0 := Lib.hid noF.size
 generalize (obC noOb nilV nilV).toArray = z at hz28 HS0
 have hlt := (Array.getElem?_eq_some_iff.1 h).1
 have T0 : TrW w g z t.length (Rm.treeF t.length false t []) t false [] (.slice none 0 0) (w.alloc (.cells z 59)) :=
  ⟨h.alloc _, ⟨t.length, Nat.le_refl _, rfl⟩, World.ownsRow_nil _ _ _ _, heap_alloc_last _ _, World.grownBy_alloc _ _ _, by simp, by simp, fun e he => by cases he⟩
 have HQ : Hid (Rm.treeB t = ({ noOb with kind := 2, ents := (Rm.treeF t.length false t []).1 }, [], (Rm.treeF t.length false t []).2)) := rfl
 generalize Rm.treeB t = Q at HQ ⊢
 generalize Rm.treeF t.length false t [] = R at T0 HQ
 generalize hN : t.length = N at *
 clear h
 go_enter Tryz.func147, Tryz.ntmps147
 go_wp2_with fail
 go_loopw [3] (fun o wr => ∃ (l : List UInt8) (b : Bool) (acc : List En), TrW w g z N R l b acc o wr) (fun _ wr => leftN wr g)
 case atStart => exact ⟨t, false, [], T0⟩
 case round =>
  obtain ⟨l, b, acc, T⟩ := hrel
  clear T0
  have c0 : wr.cell? ⟨g, 0, none⟩ = some (.string ⟨l.toArray⟩) := Rd.c0 T.rd
  have hfew := T.few
  have hbig := T.big
  by_cases hl0 : l = []
  ·
   subst hl0
   obtain ⟨k, _, hR⟩ := T.wk
   rw [Rm.treeF_nil] at hR
   subst hR
   obtain ⟨pa, cap, rfl⟩ := own_form T.own
   have hev : (Value.slice pa acc.length cap).oneCell' = true := rfl
   have hF := obC_F { noOb with kind := 2, ents := acc } (.slice pa acc.length cap) nilV rfl rfl rfl rfl
   have HS := Lib.hid hF.size
   have HO := Lib.hid hF.one
   have HFF := Lib.hid hF
   have HB := Lib.hid (built_tree (.slice pa acc.length cap) pa acc.length cap rfl acc)
   generalize (obC { noOb with kind := 2, ents := acc } (.slice pa acc.length cap) nilV).toArray = c at HS HO HB HFF
   have EB := Lib.hid T.box
   have HT := Lib.hid T
   clear T hF hev
   go_wp2_with (first
    | ((with_reducible refine bd_tree (x := .const (.int .i64 2)) (y := .tmp 25) (ev := .slice pa acc.length cap) ?_ ?_ ?_ ?_ HB.out ?_); rfl; rfl; rfl; rfl)
    | ((with_reducible refine st_obr (x := .tmp 2) (y := .tmp 26) ?_ ?_ ?_ ?_ EB.out HS0.out HS.out HO.out ?_); rfl; rfl; rfl; rfl))
   refine bodyPost_ret (results_cell_row (fn := Tryz.f147) (p := 2) (by rfl) _ _ w.heap.size _ _ _ _ (by rfl) (setRow_heap _ _ _ _ _ _ EB.out) Tryz.underlying59 rfl (obsize HS.out)) rfl ⟨c, pa, none, cap, 0, rfl, ?_, ?_, grown_setRow HT.out.gr _ (Nat.le_refl _), fun a ha => by rcases ha with ha | ha; exact own_new HT.out.own (Nat.le_succ _) a ha; cases ha⟩
   ·
    rw [HQ.out]
    have hown : (wr.setRow w.heap.size c).ownsRow (w.heap.size + 1) 178 34 (.slice pa acc.length cap) acc.length (acc.flatMap enC) :=
     own_keep HT.out.own (b := w.heap.size) ⟨rfl, rfl, rfl, by rw [setRow_size]; exact Nat.le_refl _, fun k _ hk => setRow_other _ _ _ _ (by simpa using hk)⟩ (by omega)
    exact ⟨HFF.out, own_rows enC 34 hown (fun e he => by rw [enC_length, (HT.out.ids e he).1]), RowsAt.nil _ _, fun e he => (HT.out.ids e he).1, fun e he => by have := (HT.out.ids e he).2; unfold maxLen; omega, (fun e he => by cases he), (show acc.length ≤ maxLen by unfold maxLen; omega), Nat.zero_le _, (show (0 : Nat) ≤ maxLen from Nat.zero_le _), (show (0 : Nat) < 4294967296 by decide)⟩
   ·
    rw [HQ.out]
    exact HT.out.rd.setRow _ (by omega)
  ·
   have hsz : (ByteArray.mk l.toArray).size = l.length := Rm.mk_size l
   have hsl : (ByteArray.mk l.toArray).toList = l := by rw [ByteArray.toList_eq]
   have hne : (!(ByteArray.mk l.toArray).toList.isEmpty) = true := by rw [hsl]; simpa using hl0
   have hne2 : ¬ (ByteArray.mk l.toArray) = ByteArray.empty := fun e => hl0 (by have := congrArg ByteArray.toList e; rw [hsl] at this; simpa using this)
   have hk1 := kindR_len b l
   have hk2 := textR_len (Rm.kindR b l).2 (Rm.kindR b l).1
   have R1 := T.rd
   have O1 := T.own
   have E1 := Lib.hid T.box
   have G1 := T.gr
   have HT := Lib.hid T
   clear T
   generalize ByteArray.mk l.toArray = sl at c0 hne hne2 hsz hsl
   clear hsl hsz
   go_wp2_with fail
   refine (kind_l g l b _ R1 (by omega)).mono ?_
   rintro r w2 ⟨rfl, R2, g2⟩
   have E2 := Lib.hid (held_grown E1.out g2 (by omega))
   have O2 := own_keep O1 g2 (by omega)
   have G2 := grown_trans G1 g2
   have B2 := Nat.le_trans hbig g2.size
   clear R1 E1 O1 G1 g2 c0 hbig
   go_wp2_with fail
   refine (text_l g (Rm.kindR b l).1 (Rm.kindR b l).2 _ R2 (by omega)).mono ?_
   rintro r w3 ⟨rfl, R3, g3⟩
   have E3 := Lib.hid (held_grown E2.out g3 (by omega))
   have O3 := own_keep O2 g3 (by omega)
   have G3 := grown_trans G2 g3
   have B3 := Nat.le_trans B2 g3.size
   clear R2 E2 O2 G2 g3 B2
   go_wp2_with fail
   refine (id_l g (Rm.textR (Rm.kindR b l).2 (Rm.kindR b l).1).1 (Rm.textR (Rm.kindR b l).2 (Rm.kindR b l).1).2 _ R3 (by omega)).mono ?_
   rintro r w4 ⟨rfl, R4, g4⟩
   have E4 := Lib.hid (held_grown E3.out g4 (by omega))
   have O4 := own_keep O3 g4 (by omega)
   have G4 := grown_trans G3 g4
   have B4 := Nat.le_trans B3 g4.size
   clear R3 E3 O3 G3 g4 B3
   have HEN : Hid ((Rm.oneEn b l).1 = ⟨⟨(Rm.textV (Rm.kindR b l).1).toArray⟩, Rm.kindV l, Rm.idV (Rm.textR (Rm.kindR b l).2 (Rm.kindR b l).1).1⟩) := rfl
   have HID := Lib.hid (Rm.idV_len (Rm.textR (Rm.kindR b l).2 (Rm.kindR b l).1).1)
   generalize Rm.idV (Rm.textR (Rm.kindR b l).2 (Rm.kindR b l).1).1 = idl at HEN HID ⊢
   generalize Rm.kindV l = kk at HEN ⊢
   generalize (⟨(Rm.textV (Rm.kindR b l).1).toArray⟩ : ByteArray) = nm at HEN ⊢
   have I5 := Lib.hid (id_rid (heap_alloc_last w4 (.cells (idC idl).toArray 46)))
   go_wp2_with (first
    | ((with_reducible apply st_id (hl := HID.out)); rfl; rfl; rfl; rfl; rfl)
    | ((with_reducible refine ld_idm (x := .tmp 6) ?_ ?_ ?_ I5.out HID.out ?_); rfl; rfl; rfl)
    | ((with_reducible apply bd_en (hl := HID.out)); rfl; rfl; rfl; rfl; rfl)
    | ((with_reducible apply bs_en (hl := HID.out)); rfl; rfl; rfl)
    | (at_builtin; refine wpList_append_own _ rfl _ _ 56 rfl (w.heap.size + 1) 178 i0 (.agg (enC ⟨⟨#[]⟩, 0, zId⟩).toArray) 34 56 Tryz.underlying56 hi hz0 hz1 hz2 (by decide) (by decide) _ _ _ rfl ((World.ownsRow.alloc O4 _).alloc _) ⟨_, 0, none⟩ 1 1 (enC ⟨nm, kk, idl⟩) rfl ?a1 ?a2 ?a3 ?a4 ?a5 ?a6 ?_))
   case a1 => rw [enC_length]; exact congrArg (· + 2) HID.out
   case a2 => exact news_at (heap_alloc_last _ _)
   case a3 => exact enC_one _
   case a4 => unfold maxLen; first | omega | (simp; omega)
   case a5 => first | omega | (simp; omega)
   case a6 => simp; omega
   intro v' w5 hown' hgrow _
   have hlow := O4.lt
   have R5 : Rl w5 g (Rm.oneEn b l).2 := held_own ((R4.alloc _).alloc _) ((World.ownsRow.alloc O4 _).alloc _) hgrow (by omega)
   have E5 := held_own (held_alloc (held_alloc E4.out)) ((World.ownsRow.alloc O4 _).alloc _) hgrow (by omega)
   have G5 : w.grownBy w5 (some g) := grown_own (grown_trans (grown_trans G4 (World.grownBy_alloc _ _ _)) (World.grownBy_alloc _ _ _)) hgrow (fun k hk => by have := (hlow k hk).1; omega)
   have B5 : w.heap.size + 1 ≤ w5.heap.size := by have := hgrow.size; simp at this; omega
   rw [← HEN.out] at hown'
   have T5 := HT.out.next hl0 R5 hown' E5 G5 B5
   have hmeas : leftN w5 g < leftN wr g := by
    rw [left_of R5, left_of HT.out.rd]; exact Rm.one_len b l hl0
   have HM := Lib.hid hmeas
   clear hown' hgrow hlow R5 E5 G5 B5 hmeas O4 R4
   go_wp2
   go_roundw
   case rel => exact ⟨_, _, _, T5⟩
   case measure => exact HM.out
end Go.Proofs.YtkcjhkfelaplkaaGreatDoor
end
section
namespace Go.Proofs.YtkcjhkfelaplkaaGreatDoor
open Go.RowKit
theorem infoId : (Tryz.prog.info? 46).map (fun i => (i.zero, i.size, i.bytes)) = some (some (.agg (idC zId).toArray), 32, 32) := by kernel_rfl
section
variable {ops : Array Oper} {rest : List Oper} {op : Oper} {a : Act} {w : World} {Q : Exit → Act → World → Prop} {k x y z u : Operand}
theorem bs_id {l : List UInt8} (ho : op.op = .buildSlice 34 1 #[(0, x)]) (hx : a.eval x = .agg (idC l).toArray) (hg : op.guard = none) (hl : l.length = 32)
  (h : wpList Tryz.prog ops Q rest (a.put op.dst (.slice (some ⟨w.heap.size, 0, none⟩) 1 1)) (w.alloc (.cells (idC l).toArray 46))) : wpList Tryz.prog ops Q (op :: rest) a w :=
 Great.wpList_buildSliceTo hg _ 46 1 _ ho w.heap.size rfl op.dst rfl Tryz.underlying34 _ (by simp only [List.map_toArray, List.map_cons, List.map_nil, hx]; exact builtS_id l hl) h
theorem bd_commit {l : List UInt8} {pv : Value} {ti : Nat} {te : ByteArray} {c : Array Value} (ho : op.op = .build 59 #[(0, k), (3, x), (4, y), (5, z), (6, u)]) (hk : a.eval k = .int .i64 3) (hx : a.eval x = .agg (idC l).toArray) (hy : a.eval y = pv) (hz : a.eval z = .int .u32 (ti : Int)) (hu : a.eval u = .string te) (hg : op.guard = none)
  (hb : Tryz.prog.built 59 [(0, .int .i64 3), (3, .agg (idC l).toArray), (4, pv), (5, .int .u32 (ti : Int)), (6, .string te)] = some c)
  (h : wpList Tryz.prog ops Q rest (a.put op.dst (.agg c)) w) : wpList Tryz.prog ops Q (op :: rest) a w :=
 wpList_build_as hg _ _ ho _ (by simp only [List.map_toArray, List.map_cons, List.map_nil, hk, hx, hy, hz, hu]; exact hb) h
end
theorem numV_le (m : Nat) (l : List UInt8) : Rm.numV m l ≤ m := by
 unfold Rm.numV; split
 · omega
 · split <;> omega
structure CmW (w : World) (g : Nat) (z : Array Value) (gi : Nat) (tr : List UInt8) (N n : Nat) (R : List (List UInt8) × (List UInt8 × Bool)) (j : Nat) (l : List UInt8) (b : Bool) (acc : List (List UInt8)) (o : Value) (w1 : World) : Prop where
 rd : Rl w1 g (l, b)
 wk : Rm.parsF (n - j) b l acc = R
 own : w1.ownsRow (gi + 1) 46 32 o acc.length (acc.flatMap idC)
 box : w1.heap[w.heap.size]? = some (.cells z 59)
 idb : w1.heap[gi]? = some (.cells (idC tr).toArray 46)
 gr : w.grownBy w1 (some g)
 big : gi + 1 ≤ w1.heap.size
 few : acc.length ≤ j
 len : l.length ≤ N
 ids : ∀ p ∈ acc, p.length = 32
theorem num_8 (g : Nat) (l : List UInt8) (b : Bool) (w : World) (h : Rl w g (l, b)) (hl : l.length ≤ 1000000) :
  Calls Tryz.prog 178 #[.pointer (some ⟨g, 0, none⟩), .int .u64 8] w (Took g (.int .u64 (Rm.numV 8 l)) (Rm.numR 8 b l) w) := num_l g l b 8 w h hl
theorem num_t (g : Nat) (l : List UInt8) (b : Bool) (w : World) (h : Rl w g (l, b)) (hl : l.length ≤ 1000000) :
  Calls Tryz.prog 178 #[.pointer (some ⟨g, 0, none⟩), .int .u64 4294967295] w (Took g (.int .u64 (Rm.numV Rm.maxT l)) (Rm.numR Rm.maxT b l) w) := by
 have e : ((Rm.maxT : Nat) : Int) = 4294967295 := by unfold Rm.maxT; rfl
 have := num_l g l b Rm.maxT w h hl
 rw [e] at this
 exact this
theorem CmW.next {w : World} {g : Nat} {z : Array Value} {gi : Nat} {tr : List UInt8} {N n : Nat} {R : List (List UInt8) × (List UInt8 × Bool)} {j : Nat} {l : List UInt8} {b : Bool} {acc : List (List UInt8)} {o o' : Value} {w1 w2 : World} (T : CmW w g z gi tr N n R j l b acc o w1) (hj : j < n)
  (rd : Rl w2 g (Rm.idR b l)) (own : w2.ownsRow (gi + 1) 46 32 o' (acc.length + 1) (acc.flatMap idC ++ idC (Rm.idV l))) (box : w2.heap[w.heap.size]? = some (.cells z 59)) (idb : w2.heap[gi]? = some (.cells (idC tr).toArray 46)) (gr : w.grownBy w2 (some g)) (big : gi + 1 ≤ w2.heap.size) :
  CmW w g z gi tr N n R (j + 1) (Rm.idR b l).1 (Rm.idR b l).2 (acc ++ [Rm.idV l]) o' w2 := by
 have h1 := T.few
 have h2 := T.len
 have h3 := idR_len b l
 refine ⟨rd, ?_, ?_, box, idb, gr, big, by simp; omega, by omega, fun e he => ?_⟩
 ·
  have hR := T.wk
  rw [show n - j = (n - (j + 1)) + 1 by omega] at hR
  exact hR
 ·
  rw [List.flatMap_append, List.length_append]
  simpa using own
 ·
  rcases List.mem_append.1 he with he | he
  · exact T.ids e he
  · rw [List.mem_singleton.1 he]; exact Rm.idV_len l
theorem commit_any (g : Nat) (t : List UInt8) (w : World) (h : Rl w g (t, false)) (hl : t.length ≤ 100000) :
  Calls Tryz.prog 148 #[.pointer (some ⟨g, 0, none⟩)] w (Bdy g (Rm.commitB t) w) := by
 have hz28 := (zero_of_info zero28).1
 have hz24 := (zero_of_info zero24).1
 obtain ⟨i0, hi, hz0, hz1, hz2⟩ := info_parts infoId
 have HS0 := Lib.hid noF.size
 generalize (obC noOb nilV nilV).toArray = z at hz28 HS0
 have hlt := (Array.getElem?_eq_some_iff.1 h).1
 have R1 := h.alloc (.cells z 59)
 have E1 := Lib.hid (heap_alloc_last w (.cells z 59))
 have G1 := World.grownBy_alloc w (.cells z 59) (some g)
 have hk1 := idR_len false t
 clear h
 go_enter Tryz.func148, Tryz.ntmps148
 go_wp2_with fail
 refine (id_l g t false _ R1 (by omega)).mono ?_
 rintro r w2 ⟨rfl, R2, g2⟩
 have E2 := Lib.hid (held_grown E1.out g2 (by omega))
 have G2 := grown_trans G1 g2
 have HID := Lib.hid (Rm.idV_len t)
 have HTR : Hid (Rm.idV t = Rm.idV t) := rfl
 have hB2 := g2.size
 simp at hB2
 clear R1 E1 G1 g2
 generalize hI : Rm.idV t = tr at HID ⊢
 have HI := Lib.hid hI
 clear hI HTR
 go_wp2_with (first
  | ((with_reducible apply st_id (hl := HID.out)); rfl; rfl; rfl; rfl; rfl))
 have R3 := R2.alloc (.cells (idC tr).toArray 46)
 have E3 := Lib.hid (held_alloc (o := .cells (idC tr).toArray 46) E2.out)
 have I3 := Lib.hid (heap_alloc_last w2 (.cells (idC tr).toArray 46))
 have G3 := grown_trans G2 (World.grownBy_alloc w2 (.cells (idC tr).toArray 46) (some g))
 clear R2 E2 G2
 refine (num_8 g (Rm.idR false t).1 (Rm.idR false t).2 _ R3 (by omega)).mono ?_
 rintro r w4 ⟨rfl, R4, g4⟩
 have E4 := held_grown E3.out g4 (by omega)
 have I4 := held_grown I3.out g4 (by omega)
 have G4 := grown_trans G3 g4
 have B4 : w2.heap.size + 1 ≤ w4.heap.size := by have := g4.size; simpa using this
 have hn := numV_le 8 (Rm.idR false t).1
 have hk2 := numR_len 8 (Rm.idR false t).2 (Rm.idR false t).1
 have T0 : CmW w g z w2.heap.size tr t.length (Rm.cmN t) (Rm.cmP t) 0 (Rm.cmS t).1 (Rm.cmS t).2 [] (.slice none 0 0) w4 :=
  ⟨R4, rfl, World.ownsRow_nil _ _ _ _, E4, I4, G4, B4, Nat.le_refl _, Nat.le_trans hk2 hk1, fun e he => by cases he⟩
 clear R3 E3 I3 G3 R4 g4 E4 I4 G4 hk1 hk2
 have HQ : Hid (Rm.commitB t = ({ noOb with kind := 3, tree := Rm.idV t, pars := (Rm.cmP t).1, time := Rm.cmT t, text := ⟨(Rm.cmX t).toArray⟩ }, Rm.textR (Rm.cmU t).2 (Rm.cmU t).1)) := rfl
 have HT1 : Hid (Rm.cmT t = Rm.numV Rm.maxT (Rm.cmP t).2.1) := rfl
 have HU1 : Hid (Rm.cmU t = Rm.numR Rm.maxT (Rm.cmP t).2.2 (Rm.cmP t).2.1) := rfl
 have HX1 : Hid (Rm.cmX t = Rm.textV (Rm.cmU t).1) := rfl
 generalize Rm.cmX t = X at HQ HX1
 generalize Rm.cmU t = U at HQ HX1 HU1
 generalize Rm.cmT t = TT at HQ HT1
 generalize Rm.cmP t = R at HQ HT1 HU1 T0
 generalize Rm.cmS t = S0 at T0
 have hn' : Rm.cmN t ≤ 8 := hn
 rw [show Rm.numV 8 (Rm.idR false t).1 = Rm.cmN t from rfl]
 generalize Rm.cmN t = n at T0 hn' ⊢
 clear hn
 go_wp2_with fail
 go_loopw [5, 13] (fun o i wr => ∃ (j : Nat) (l : List UInt8) (b : Bool) (acc : List (List UInt8)), i = .int .u64 j ∧ j ≤ n ∧ CmW w g z w2.heap.size tr t.length n R j l b acc o wr) (fun _ i _ => n - (intOf i).toNat)
 case atStart => exact ⟨0, _, _, [], rfl, Nat.zero_le _, T0⟩
 case round =>
  obtain ⟨j, l, b, acc, rfl, hj, T⟩ := hrel
  clear T0
  have hfew := T.few
  have hbig := T.big
  have hlen := T.len
  have R1 := T.rd
  have O1 := T.own
  have E1 := Lib.hid T.box
  have I1 := Lib.hid T.idb
  have G1 := T.gr
  have HT := Lib.hid T
  by_cases hjn : j < n
  ·
   clear T
   go_wp2_with fail
   refine (id_l g l b _ R1 (by omega)).mono ?_
   rintro r w5 ⟨rfl, R5, g5⟩
   have E5 := Lib.hid (held_grown E1.out g5 (by omega))
   have I5 := Lib.hid (held_grown I1.out g5 (by omega))
   have O5 := own_keep O1 g5 (by omega)
   have G5 := grown_trans G1 g5
   have B5 := Nat.le_trans hbig g5.size
   clear R1 E1 I1 O1 G1 g5 hbig
   have HID2 := Lib.hid (Rm.idV_len l)
   have HIV : Hid (Rm.idV l = Rm.idV l) := rfl
   generalize hII : Rm.idV l = idl at HID2 ⊢
   have HII := Lib.hid hII
   clear hII HIV
   go_wp2_with (first
    | ((with_reducible apply bs_id (hl := HID2.out)); rfl; rfl; rfl)
    | (at_builtin; refine wpList_append_own _ rfl _ _ 34 rfl (w2.heap.size + 1) 46 i0 (.agg (idC zId).toArray) 32 32 Tryz.underlying34 hi hz0 hz1 hz2 (by decide) (by decide) _ _ _ rfl (World.ownsRow.alloc O5 _) ⟨_, 0, none⟩ 1 1 (idC idl) rfl ?a1 ?a2 ?a3 ?a4 ?a5 ?a6 ?_))
   case a1 => rw [idC_length]; exact HID2.out
   case a2 => exact news_at (heap_alloc_last _ _)
   case a3 => exact idC_one _
   case a4 => unfold maxLen; first | omega | (simp; omega)
   case a5 => first | omega | (simp; omega)
   case a6 => simp; omega
   intro v' w6 hown' hgrow _
   have hlow := O5.lt
   have R6 : Rl w6 g (Rm.idR b l) := held_own (R5.alloc _) (World.ownsRow.alloc O5 _) hgrow (by omega)
   have E6 := held_own (held_alloc E5.out) (World.ownsRow.alloc O5 _) hgrow (by omega)
   have I6 := held_own (held_alloc I5.out) (World.ownsRow.alloc O5 _) hgrow (by omega)
   have G6 : w.grownBy w6 (some g) := grown_own (grown_trans G5 (World.grownBy_alloc _ _ _)) hgrow (fun k hk => by have := (hlow k hk).1; omega)
   have B6 : w2.heap.size + 1 ≤ w6.heap.size := by have := hgrow.size; simp at this; omega
   rw [← HII.out] at hown'
   have T6 := HT.out.next hjn R6 hown' E6 I6 G6 B6
   clear hown' hgrow hlow R6 E6 I6 G6 B6 O5 R5 G5 HT
   go_wp2
   exact ⟨⟨j + 1, _, _, _, by go_num, by omega, T6⟩, by simp [intOf]; omega⟩
  ·
   obtain rfl : j = n := by omega
   have hR := T.wk
   rw [Nat.sub_self] at hR
   have hR' : (acc, l, b) = R := hR
   subst hR'
   clear T hR
   go_wp2_with fail
   refine (num_t g l b _ R1 (by omega)).mono ?_
   rintro r w5 ⟨rfl, R5, g5⟩
   have E5 := Lib.hid (held_grown E1.out g5 (by omega))
   have I5 := Lib.hid (held_grown I1.out g5 (by omega))
   have O5 := own_keep O1 g5 (by omega)
   have G5 := grown_trans G1 g5
   have B5 := Nat.le_trans hbig g5.size
   have hk3 := numR_len Rm.maxT b l
   have htt := numV_le Rm.maxT l
   clear R1 E1 I1 O1 G1 g5 hbig
   rw [show Rm.numV Rm.maxT l = TT from HT1.out.symm]
   rw [show Rm.numV Rm.maxT l = TT from HT1.out.symm] at htt
   have R5' : Rl w5 g (U.1, U.2) := by rw [HU1.out]; exact R5
   have hk3' : U.1.length ≤ l.length := by rw [HU1.out]; exact hk3
   clear R5 hk3
   have htt' : TT < 4294967296 := by unfold Rm.maxT at htt; omega
   clear htt
   go_wp2_with fail
   refine (text_l g U.1 U.2 _ R5' (by omega)).mono ?_
   rintro r w6 ⟨rfl, R6, g6⟩
   have E6 := Lib.hid (held_grown E5.out g6 (by omega))
   have I6 := Lib.hid (id_rid (held_grown I5.out g6 (by omega)))
   have O6 := own_keep O5 g6 (by omega)
   have G6 := grown_trans G5 g6
   have B6 := Nat.le_trans B5 g6.size
   clear R5' E5 I5 O5 G5 g6 B5
   rw [← HX1.out]
   obtain ⟨pb, cap, rfl⟩ := own_form O6
   have hF := obC_F { noOb with kind := 3, tree := tr, pars := acc, time := TT, text := ⟨X.toArray⟩ } nilV (.slice pb acc.length cap) HID.out rfl rfl rfl
   have HS := Lib.hid hF.size
   have HO := Lib.hid hF.one
   have HFF := Lib.hid hF
   have HB := Lib.hid (built_commit tr HID.out (.slice pb acc.length cap) pb acc.length cap rfl acc TT ⟨X.toArray⟩)
   generalize (obC { noOb with kind := 3, tree := tr, pars := acc, time := TT, text := ⟨X.toArray⟩ } nilV (.slice pb acc.length cap)).toArray = c at HS HO HB HFF
   clear hF
   generalize (⟨X.toArray⟩ : ByteArray) = xb at HFF HB HQ ⊢
   go_wp2_with (first
    | ((with_reducible refine ld_idm (x := .tmp 3) ?_ ?_ ?_ I6.out HID.out ?_); rfl; rfl; rfl)
    | ((with_reducible refine bd_commit (k := .const (.int .i64 3)) (x := .tmp 25) (y := .tmp 26) (z := .tmp 28) (u := .tmp 29) (ti := TT) ?_ ?_ ?_ ?_ ?_ ?_ ?_ HB.out ?_); rfl; rfl; rfl; rfl; rfl; rfl; rfl)
    | ((with_reducible refine st_obr (x := .tmp 2) (y := .tmp 30) ?_ ?_ ?_ ?_ E6.out HS0.out HS.out HO.out ?_); rfl; rfl; rfl; rfl))
   refine bodyPost_ret (results_cell_row (fn := Tryz.f148) (p := 2) (by rfl) _ _ w.heap.size _ _ _ _ (by rfl) (setRow_heap _ _ _ _ _ _ E6.out) Tryz.underlying59 rfl (obsize HS.out)) rfl ⟨c, none, pb, 0, cap, rfl, ?_, ?_, grown_setRow G6 _ (Nat.le_refl _), fun a ha => by rcases ha with ha | ha; cases ha; exact own_new O6 (by omega) a ha⟩
   ·
    rw [HQ.out, HI.out]
    have hown : (w6.setRow w.heap.size c).ownsRow (w2.heap.size + 1) 46 32 (.slice pb acc.length cap) acc.length (acc.flatMap idC) :=
     own_keep O6 (b := w.heap.size) ⟨rfl, rfl, rfl, by rw [setRow_size]; exact Nat.le_refl _, fun k _ hk => setRow_other _ _ _ _ (by simpa using hk)⟩ (by omega)
    exact ⟨HFF.out, RowsAt.nil _ _, own_rows idC 32 hown (fun p hp => by rw [idC_length, HT.out.ids p hp]), (fun e he => by cases he), (fun e he => by cases he), HT.out.ids, (show (0 : Nat) ≤ maxLen from Nat.zero_le _), (show acc.length ≤ maxLen by unfold maxLen; omega), (show (0 : Nat) ≤ maxLen from Nat.zero_le _), htt'⟩
   ·
    rw [HQ.out]
    exact R6.setRow _ (by omega)
end Go.Proofs.YtkcjhkfelaplkaaGreatDoor
end
section
namespace Go.Proofs.YtkcjhkfelaplkaaGreatDoor
open Go.RowKit
theorem ended_l (g : Nat) (p : List UInt8 × Bool) (w : World) (h : Rl w g p) :
  Calls Tryz.prog 109 #[.pointer (some ⟨g, 0, none⟩)] w fun r w' => r = .returned (.bool (decide (p = ([], false)))) ∧ w = w' := by
 refine (ended_any g ⟨p.1.toArray⟩ p.2 w h).mono fun e w' ⟨h1, h2⟩ => ⟨?_, h2⟩
 rw [h1]
 have e : (ByteArray.mk p.1.toArray).toList = p.1 := by rw [ByteArray.toList_eq]
 rw [e]
 obtain ⟨l, b⟩ := p
 cases b <;> cases l <;> simp
theorem eq_nilf (w : World) : (Op.equalIn 10000 183 .nilFunc .nilFunc).run Tryz.prog w = .ok true w := by
 rw [show (10000 : Nat) = 9999 + 1 from rfl, Op.equalIn]
 simp [run_underlying Tryz.underlying183]
theorem eq_fn (w : World) (k : Nat) : (Op.equalIn 10000 183 (.func (.func k) #[] #[]) .nilFunc).run Tryz.prog w = .ok false w := by
 rw [show (10000 : Nat) = 9999 + 1 from rfl, Op.equalIn]
 simp [run_underlying Tryz.underlying183]
theorem bin_nilf (w : World) : (binOp .eql 183 .nilFunc .nilFunc).run Tryz.prog w = .ok (.bool true) w := by
 have h : (Op.equal 183 .nilFunc .nilFunc).run Tryz.prog w = .ok true w := eq_nilf w
 simp [binOp, h]
theorem bin_fn (w : World) (k : Nat) : (binOp .eql 183 (.func (.func k) #[] #[]) .nilFunc).run Tryz.prog w = .ok (.bool false) w := by
 have h : (Op.equal 183 (.func (.func k) #[] #[]) .nilFunc).run Tryz.prog w = .ok false w := eq_fn w k
 simp [binOp, h]
def NoDec (w : World) (r : Ending) (w' : World) : Prop := r = .returned (.tuple #[.agg (obC noOb nilV nilV).toArray, .int .i64 2]) ∧ Below w.heap.size w w'
def ADec (o : Ob) (w : World) (r : Ending) (w' : World) : Prop :=
 ∃ (cs : Array Value) (ao bo : Option Addr) (ca cb : Nat), r = .returned (.tuple #[.agg cs, .int .i64 0]) ∧ ObAt w' cs o ao bo ca cb ∧ Below w.heap.size w w'
theorem decode_long (s : ByteArray) (w : World) (hs : s.size ≤ maxLen) (h : 4096 < s.size) :
  Calls Tryz.prog 75 #[.string s] w (NoDec w) := by
 have HS := Lib.hid noF.size
 have HO := Lib.hid noF.one
 have hz28 := (zero_of_info zero28).1
 have HBN := Lib.hid built_none
 unfold NoDec
 generalize (obC noOb nilV nilV).toArray = z at HS HO hz28 HBN ⊢
 unfold maxLen at hs
 have h' : (4096 : Int) < (s.size : Int) := by omega
 have E2 := Lib.hid (heap_alloc_last w (.cells z 59))
 go_enter Tryz.func75, Tryz.ntmps75
 go_wp2_with (first
  | ((with_reducible refine bd_obz ?_ ?_ HBN.out ?_); rfl; rfl)
  | ((with_reducible refine st_obr (x := .tmp 2) (y := .tmp 13) ?_ ?_ ?_ ?_ E2.out HS.out HS.out HO.out ?_); rfl; rfl; rfl; rfl))
 refine bodyPost_ret (results_cell_tmp (fn := Tryz.f75) (p := 2) (q := 3) (by rfl) _ _ w.heap.size _ _ _ _ (by rfl) (setRow_heap _ _ _ _ _ _ E2.out) Tryz.underlying59 rfl (obsize HS.out)) rfl ⟨rfl, below_setRow ((Below.refl _ _).alloc (Nat.le_refl _) _) (Nat.le_refl _) _⟩
theorem below_own {w w1 w2 : World} {g : Nat} (h : Below w.heap.size w w1) (hg : w1.grownBy w2 (some g)) (hge : w.heap.size ≤ g) : Below w.heap.size w w2 := h.grown hg h.size (fun k hk => by cases hk; exact hge)
theorem decode_noA (s : ByteArray) (w : World) (hs : s.size ≤ 4096) (h : Rm.okA s.data.toList = false) :
  Calls Tryz.prog 75 #[.string s] w (NoDec w) := by
 have HS := Lib.hid noF.size
 have HO := Lib.hid noF.one
 have hz28 := (zero_of_info zero28).1
 have HBN := Lib.hid built_none
 unfold NoDec
 generalize (obC noOb nilV nilV).toArray = z at HS HO hz28 HBN ⊢
 have h' : ¬ (4096 : Int) < (s.size : Int) := by omega
 have hsl := size_list s
 have hsm : (⟨s.data.toList.toArray⟩ : ByteArray) = s := by simp
 generalize hl : s.data.toList = l at *
 have hll : l.length ≤ 4096 := by omega
 have HSM := Lib.hid hsm
 have HA := Lib.hid h
 clear hl hsl hsm h
 go_enter Tryz.func75, Tryz.ntmps75
 go_wp2_with fail
 have R0 : Rl ((w.alloc (.cells z 59)).alloc (.cells #[.string s, .bool false] 181)) (w.heap.size + 1) (l, false) := by
  unfold Rl; rw [HSM.out]; exact heap_alloc2_new _ _ _
 have E0 := Lib.hid (heap_alloc2_old w (.cells z 59) (.cells #[.string s, .bool false] 181))
 have hB0 := ((Below.refl w.heap.size w).alloc (Nat.le_refl _) (.cells z 59)).alloc (by simp) (.cells #[.string s, .bool false] 181)
 have hk1 := kindR_len false l
 refine (kind_l (w.heap.size + 1) l false _ R0 (by omega)).mono ?_
 rintro r w1 ⟨rfl, R1, g1⟩
 have E1 := Lib.hid (held_grown E0.out g1 (by omega))
 have hB1 := below_own hB0 g1 (by omega)
 clear R0 E0 hB0 g1
 go_wp2_with fail
 refine (text_l (w.heap.size + 1) (Rm.kindR false l).1 (Rm.kindR false l).2 _ R1 (by omega)).mono ?_
 rintro r w2 ⟨rfl, R2, g2⟩
 have E2 := Lib.hid (held_grown E1.out g2 (by omega))
 have hB2 := below_own hB1 g2 (by omega)
 have hkb := kindV_bd l
 clear R1 E1 hB1 g2
 by_cases hend : Rm.bdR l = ([], false)
 ·
  have hno : ¬ (1 ≤ Rm.kindV l ∧ Rm.kindV l ≤ 4) := fun hc => by
   have := HA.out
   unfold Rm.okA at this
   rw [decide_eq_true hend, decide_eq_true hc] at this
   cases this
  have hd : decide (Rm.textR (Rm.kindR false l).2 (Rm.kindR false l).1 = ([], false)) = true := decide_eq_true hend
  have HD := Lib.hid hd
  have hm := fun W => method_any (Rm.kindV l) W
  have HM : Hid (∀ W, Calls Tryz.prog 108 #[.int .i64 (Rm.kindV l)] W fun r w' => r = .returned .nilFunc ∧ W = w') := fun W => by
   have := method_any (Rm.kindV l) W
   rw [if_neg (by omega), if_neg (by omega), if_neg (by omega), if_neg (by omega)] at this
   exact this
  clear hd hend hno hm
  have hqf := bin_nilf
  go_wp2_with fail
  refine (HM.out _).mono ?_
  rintro r w3 ⟨rfl, rfl⟩
  go_wp2_with fail
  refine (ended_l (w.heap.size + 1) _ _ R2).mono ?_
  rintro r w3 ⟨rfl, rfl⟩
  rw [HD.out]
  go_wp2_with (first
   | ((with_reducible refine bd_obz ?_ ?_ HBN.out ?_); rfl; rfl)
   | ((with_reducible refine st_obr (x := .tmp 2) (y := .tmp 26) ?_ ?_ ?_ ?_ E2.out HS.out HS.out HO.out ?_); rfl; rfl; rfl; rfl))
  refine bodyPost_ret (results_cell_tmp (fn := Tryz.f75) (p := 2) (q := 3) (by rfl) _ _ w.heap.size _ _ _ _ (by rfl) (setRow_heap _ _ _ _ _ _ E2.out) Tryz.underlying59 rfl (obsize HS.out)) rfl ⟨rfl, below_setRow hB2 (Nat.le_refl _) _⟩
 ·
  have hd : decide (Rm.textR (Rm.kindR false l).2 (Rm.kindR false l).1 = ([], false)) = false := decide_eq_false hend
  have HD := Lib.hid hd
  clear hd hend
  go_wp2_with fail
  refine (method_any (Rm.kindV l) _).mono ?_
  rintro r w3 ⟨rfl, rfl⟩
  generalize (if Rm.kindV l = 1 then Value.func (.func 146) #[] #[] else if Rm.kindV l = 2 then .func (.func 147) #[] #[] else if Rm.kindV l = 3 then .func (.func 148) #[] #[] else if Rm.kindV l = 4 then .func (.func 149) #[] #[] else .nilFunc) = mv
  go_wp2_with fail
  refine (ended_l (w.heap.size + 1) _ _ R2).mono ?_
  rintro r w3 ⟨rfl, rfl⟩
  rw [HD.out]
  go_wp2_with (first
   | ((with_reducible refine bd_obz ?_ ?_ HBN.out ?_); rfl; rfl)
   | ((with_reducible refine st_obr (x := .tmp 2) (y := .tmp 26) ?_ ?_ ?_ ?_ E2.out HS.out HS.out HO.out ?_); rfl; rfl; rfl; rfl))
  refine bodyPost_ret (results_cell_tmp (fn := Tryz.f75) (p := 2) (q := 3) (by rfl) _ _ w.heap.size _ _ _ _ (by rfl) (setRow_heap _ _ _ _ _ _ E2.out) Tryz.underlying59 rfl (obsize HS.out)) rfl ⟨rfl, below_setRow hB2 (Nat.le_refl _) _⟩
end Go.Proofs.YtkcjhkfelaplkaaGreatDoor
end
section
namespace Go.Proofs.YtkcjhkfelaplkaaGreatDoor
open Go.RowKit
theorem decode_A (fn : Nat) (hfn : fn = 146 ∨ fn = 147 ∨ fn = 148 ∨ fn = 149) (s : ByteArray) (w : World) (hs : s.size ≤ 4096) (h : Rm.bdR s.data.toList = ([], false))
  (hm : ∀ W, Calls Tryz.prog 108 #[.int .i64 (Rm.kindV s.data.toList)] W fun r w' => r = .returned (.func (.func fn) #[] #[]) ∧ W = w')
  (hb : ∀ W g, Rl W g (Rm.bdV s.data.toList, false) → Calls Tryz.prog fn #[.pointer (some ⟨g, 0, none⟩)] W (Bdy g (Rm.bodyF (Rm.kindV s.data.toList) (Rm.bdV s.data.toList)) W)) (hok : Rm.okB s.data.toList = false) :
  Calls Tryz.prog 75 #[.string s] w (NoDec w) := by
 have HS := Lib.hid noF.size
 have HO := Lib.hid noF.one
 have hz28 := (zero_of_info zero28).1
 have HBN := Lib.hid built_none
 unfold NoDec
 generalize (obC noOb nilV nilV).toArray = z at HS HO hz28 HBN ⊢
 have h' : ¬ (4096 : Int) < (s.size : Int) := by omega
 have hsl := size_list s
 have hsm : (⟨s.data.toList.toArray⟩ : ByteArray) = s := by simp
 generalize hl : s.data.toList = l at *
 have hll : l.length ≤ 4096 := by omega
 have HSM := Lib.hid hsm
 have HA := Lib.hid h
 have HM := Lib.hid hm
 have HBD := Lib.hid hb
 have HOK := Lib.hid hok
 have HFN := Lib.hid hfn
 clear hfn hl hsl hsm h hm hb hok
 go_enter Tryz.func75, Tryz.ntmps75
 go_wp2_with fail
 have R0 : Rl ((w.alloc (.cells z 59)).alloc (.cells #[.string s, .bool false] 181)) (w.heap.size + 1) (l, false) := by
  unfold Rl; rw [HSM.out]; exact heap_alloc2_new _ _ _
 have E0 := Lib.hid (heap_alloc2_old w (.cells z 59) (.cells #[.string s, .bool false] 181))
 have hB0 := ((Below.refl w.heap.size w).alloc (Nat.le_refl _) (.cells z 59)).alloc (by simp) (.cells #[.string s, .bool false] 181)
 have hk1 := kindR_len false l
 refine (kind_l (w.heap.size + 1) l false _ R0 (by omega)).mono ?_
 rintro r w1 ⟨rfl, R1, g1⟩
 have E1 := Lib.hid (held_grown E0.out g1 (by omega))
 have hB1 := below_own hB0 g1 (by omega)
 have S1 : w.heap.size + 2 ≤ w1.heap.size := by have := g1.size; simp at this; omega
 clear R0 E0 hB0 g1
 go_wp2_with fail
 refine (text_l (w.heap.size + 1) (Rm.kindR false l).1 (Rm.kindR false l).2 _ R1 (by omega)).mono ?_
 rintro r w2 ⟨rfl, R2, g2⟩
 have E2 := Lib.hid (held_grown E1.out g2 (by omega))
 have hB2 := below_own hB1 g2 (by omega)
 have S2 := Nat.le_trans S1 g2.size
 have hkb := kindV_bd l
 have hd : decide (Rm.textR (Rm.kindR false l).2 (Rm.kindR false l).1 = ([], false)) = true := decide_eq_true HA.out
 have HD := Lib.hid hd
 have hqf := bin_fn
 clear R1 E1 hB1 g2 hd S1
 go_wp2_with fail
 refine (HM.out _).mono ?_
 rintro r w3 ⟨rfl, rfl⟩
 go_wp2_with fail
 refine (ended_l (w.heap.size + 1) _ _ R2).mono ?_
 rintro r w3 ⟨rfl, rfl⟩
 rw [HD.out]
 rw [show Rm.textV (Rm.kindR false l).1 = Rm.bdV l from rfl]
 have R3 : Rl (w2.alloc (.cells #[.string ⟨(Rm.bdV l).toArray⟩, .bool false] 181)) w2.heap.size (Rm.bdV l, false) := heap_alloc_last _ _
 have E3 := Lib.hid (held_alloc (o := .cells #[.string ⟨(Rm.bdV l).toArray⟩, .bool false] 181) E2.out)
 have hB3 := hB2.alloc hB2.size (.cells #[.string ⟨(Rm.bdV l).toArray⟩, .bool false] 181)
 clear R2 E2 hB2
 rcases HFN.out with rfl | rfl | rfl | rfl
 all_goals
  go_wp2_with fail
  refine (HBD.out _ w2.heap.size R3).mono ?_
  rintro r w4 ⟨cs, ao, bo, ca, cb, rfl, hO, R4, g4, hnew⟩
  have E4 := Lib.hid (held_grown E3.out g4 (by omega))
  have hB4 := below_own hB3 g4 (by omega)
  have S4 : w2.heap.size + 1 ≤ w4.heap.size := by have := g4.size; simpa using this
  have HCS := Lib.hid hO.F.size
  have HCO := Lib.hid hO.F.one
  have R5 := R4.alloc (.cells cs 59)
  have E5 := Lib.hid (held_alloc (o := .cells cs 59) E4.out)
  have hB5 := hB4.alloc hB4.size (.cells cs 59)
  have K5 := Kp.box w4 cs 59
  have hO5 := hO.below ((Below.refl w4.heap.size w4).alloc (Nat.le_refl _) (.cells cs 59))
  have HFV := Lib.hid (fun W (hW : Below w4.heap.size w4 W) => fieldsValid_any cs _ ao bo ca cb W (hO.below hW))
  clear R3 E3 hB3 g4 R4 E4 hB4
  by_cases hend : (Rm.bodyF (Rm.kindV l) (Rm.bdV l)).2 = ([], false)
  ·
   have hv : validB (Rm.bodyF (Rm.kindV l) (Rm.bdV l)).1 = false := by
    have := HOK.out
    unfold Rm.okB at this
    rw [decide_eq_true hend] at this
    simpa using this
   have HD2 := Lib.hid (decide_eq_true hend)
   rw [hv] at HFV
   clear hend hv
   go_wp2_with (first
    | ((with_reducible apply st_ob (hs := HCS.out) (h1 := HCO.out)); rfl; rfl; rfl; rfl; exact HS.out)
    | (go_at_call 109; refine (ended_l w2.heap.size _ _ R5).mono ?_; rintro r w6 ⟨rfl, rfl⟩; rw [HD2.out])
    | ((fail_if_success (fail_if_success go_guarded)); (with_reducible refine load_ob_g (x := .tmp 9) ?_ ?_ ?_ K5 HCS.out ?_); rfl; rfl; kernel_rfl)
    | (go_at_call 110; refine (HFV.out _ ((Below.refl w4.heap.size w4).alloc (Nat.le_refl _) (.cells cs 59))).mono ?_; rintro r w7 ⟨rfl, hx7⟩; have E7 := Lib.hid ((hx7.block w.heap.size (by simp; omega)).trans E5.out); have K7 := K5.step hx7)
    | ((with_reducible refine bd_obz ?_ ?_ HBN.out ?_); rfl; rfl)
    | ((with_reducible refine st_obr (x := .tmp 2) (y := .tmp 38) ?_ ?_ ?_ ?_ E7.out HS.out HS.out HO.out ?_); rfl; rfl; rfl; rfl))
   refine bodyPost_ret (results_cell_tmp (fn := Tryz.f75) (p := 2) (q := 3) (by rfl) _ _ w.heap.size _ _ _ _ (by rfl) (setRow_heap _ _ _ _ _ _ E7.out) Tryz.underlying59 rfl (obsize HS.out)) rfl ⟨rfl, below_setRow (hB5.trans (hx7.mono hB5.size)) (Nat.le_refl _) _⟩
  ·
   have HD2 := Lib.hid (decide_eq_false hend)
   clear hend
   go_wp2_with (first
    | ((with_reducible apply st_ob (hs := HCS.out) (h1 := HCO.out)); rfl; rfl; rfl; rfl; exact HS.out)
    | (go_at_call 109; refine (ended_l w2.heap.size _ _ R5).mono ?_; rintro r w6 ⟨rfl, rfl⟩; rw [HD2.out])
    | ((with_reducible refine bd_obz ?_ ?_ HBN.out ?_); rfl; rfl)
    | ((with_reducible refine st_obr (x := .tmp 2) (y := .tmp 38) ?_ ?_ ?_ ?_ E5.out HS.out HS.out HO.out ?_); rfl; rfl; rfl; rfl))
   refine bodyPost_ret (results_cell_tmp (fn := Tryz.f75) (p := 2) (q := 3) (by rfl) _ _ w.heap.size _ _ _ _ (by rfl) (setRow_heap _ _ _ _ _ _ E5.out) Tryz.underlying59 rfl (obsize HS.out)) rfl ⟨rfl, below_setRow hB5 (Nat.le_refl _) _⟩
theorem decode_B (fn : Nat) (hfn : fn = 146 ∨ fn = 147 ∨ fn = 148 ∨ fn = 149) (s : ByteArray) (w : World) (hs : s.size ≤ 4096) (h : Rm.bdR s.data.toList = ([], false))
  (hm : ∀ W, Calls Tryz.prog 108 #[.int .i64 (Rm.kindV s.data.toList)] W fun r w' => r = .returned (.func (.func fn) #[] #[]) ∧ W = w')
  (hb : ∀ W g, Rl W g (Rm.bdV s.data.toList, false) → Calls Tryz.prog fn #[.pointer (some ⟨g, 0, none⟩)] W (Bdy g (Rm.bodyF (Rm.kindV s.data.toList) (Rm.bdV s.data.toList)) W)) (hok : Rm.okB s.data.toList = true) :
  Calls Tryz.prog 75 #[.string s] w (ADec (Rm.bodyF (Rm.kindV s.data.toList) (Rm.bdV s.data.toList)).1 w) := by
 have HS := Lib.hid noF.size
 have HO := Lib.hid noF.one
 have hz28 := (zero_of_info zero28).1
 have HBN := Lib.hid built_none
 generalize (obC noOb nilV nilV).toArray = z at HS HO hz28 HBN
 have h' : ¬ (4096 : Int) < (s.size : Int) := by omega
 have hsl := size_list s
 have hsm : (⟨s.data.toList.toArray⟩ : ByteArray) = s := by simp
 generalize hl : s.data.toList = l at *
 have hll : l.length ≤ 4096 := by omega
 have HSM := Lib.hid hsm
 have HA := Lib.hid h
 have HM := Lib.hid hm
 have HBD := Lib.hid hb
 have HOK := Lib.hid hok
 have HFN := Lib.hid hfn
 clear hfn hl hsl hsm h hm hb hok
 go_enter Tryz.func75, Tryz.ntmps75
 go_wp2_with fail
 have R0 : Rl ((w.alloc (.cells z 59)).alloc (.cells #[.string s, .bool false] 181)) (w.heap.size + 1) (l, false) := by
  unfold Rl; rw [HSM.out]; exact heap_alloc2_new _ _ _
 have E0 := Lib.hid (heap_alloc2_old w (.cells z 59) (.cells #[.string s, .bool false] 181))
 have hB0 := ((Below.refl w.heap.size w).alloc (Nat.le_refl _) (.cells z 59)).alloc (by simp) (.cells #[.string s, .bool false] 181)
 have hk1 := kindR_len false l
 refine (kind_l (w.heap.size + 1) l false _ R0 (by omega)).mono ?_
 rintro r w1 ⟨rfl, R1, g1⟩
 have E1 := Lib.hid (held_grown E0.out g1 (by omega))
 have hB1 := below_own hB0 g1 (by omega)
 have S1 : w.heap.size + 2 ≤ w1.heap.size := by have := g1.size; simp at this; omega
 clear R0 E0 hB0 g1
 go_wp2_with fail
 refine (text_l (w.heap.size + 1) (Rm.kindR false l).1 (Rm.kindR false l).2 _ R1 (by omega)).mono ?_
 rintro r w2 ⟨rfl, R2, g2⟩
 have E2 := Lib.hid (held_grown E1.out g2 (by omega))
 have hB2 := below_own hB1 g2 (by omega)
 have S2 := Nat.le_trans S1 g2.size
 have hkb := kindV_bd l
 have hd : decide (Rm.textR (Rm.kindR false l).2 (Rm.kindR false l).1 = ([], false)) = true := decide_eq_true HA.out
 have HD := Lib.hid hd
 have hqf := bin_fn
 clear R1 E1 hB1 g2 hd S1
 go_wp2_with fail
 refine (HM.out _).mono ?_
 rintro r w3 ⟨rfl, rfl⟩
 go_wp2_with fail
 refine (ended_l (w.heap.size + 1) _ _ R2).mono ?_
 rintro r w3 ⟨rfl, rfl⟩
 rw [HD.out]
 rw [show Rm.textV (Rm.kindR false l).1 = Rm.bdV l from rfl]
 have R3 : Rl (w2.alloc (.cells #[.string ⟨(Rm.bdV l).toArray⟩, .bool false] 181)) w2.heap.size (Rm.bdV l, false) := heap_alloc_last _ _
 have E3 := Lib.hid (held_alloc (o := .cells #[.string ⟨(Rm.bdV l).toArray⟩, .bool false] 181) E2.out)
 have hB3 := hB2.alloc hB2.size (.cells #[.string ⟨(Rm.bdV l).toArray⟩, .bool false] 181)
 clear R2 E2 hB2
 rcases HFN.out with rfl | rfl | rfl | rfl
 all_goals
  go_wp2_with fail
  refine (HBD.out _ w2.heap.size R3).mono ?_
  rintro r w4 ⟨cs, ao, bo, ca, cb, rfl, hO, R4, g4, hnew⟩
  have E4 := Lib.hid (held_grown E3.out g4 (by omega))
  have hB4 := below_own hB3 g4 (by omega)
  have S4 : w2.heap.size + 1 ≤ w4.heap.size := by have := g4.size; simpa using this
  have HCS := Lib.hid hO.F.size
  have HCO := Lib.hid hO.F.one
  have R5 := R4.alloc (.cells cs 59)
  have E5 := Lib.hid (held_alloc (o := .cells cs 59) E4.out)
  have hB5 := hB4.alloc hB4.size (.cells cs 59)
  have K5 := Kp.box w4 cs 59
  have hO5 := hO.below ((Below.refl w4.heap.size w4).alloc (Nat.le_refl _) (.cells cs 59))
  have HFV := Lib.hid (fun W (hW : Below w4.heap.size w4 W) => fieldsValid_any cs _ ao bo ca cb W (hO.below hW))
  clear R3 E3 hB3 g4 R4 E4 hB4
  have hok2 := HOK.out
  unfold Rm.okB at hok2
  rw [Bool.and_eq_true, decide_eq_true_eq] at hok2
  obtain ⟨hend, hv⟩ := hok2
  have HD2 := Lib.hid (decide_eq_true hend)
  rw [hv] at HFV
  clear hend hv
  go_wp2_with (first
   | ((with_reducible apply st_ob (hs := HCS.out) (h1 := HCO.out)); rfl; rfl; rfl; rfl; exact HS.out)
   | (go_at_call 109; refine (ended_l w2.heap.size _ _ R5).mono ?_; rintro r w6 ⟨rfl, rfl⟩; rw [HD2.out])
   | ((fail_if_success (fail_if_success go_guarded)); (with_reducible refine load_ob_g (x := .tmp 9) ?_ ?_ ?_ K5 HCS.out ?_); rfl; rfl; kernel_rfl)
   | (go_at_call 110; refine (HFV.out _ ((Below.refl w4.heap.size w4).alloc (Nat.le_refl _) (.cells cs 59))).mono ?_; rintro r w7 ⟨rfl, hx7⟩; have E7 := Lib.hid ((hx7.block w.heap.size (by simp; omega)).trans E5.out); have K7 := K5.step hx7)
   | ((with_reducible refine load_ob (x := .tmp 9) ?_ ?_ ?_ K7 HCS.out ?_); rfl; rfl; rfl)
   | ((with_reducible refine st_obr (x := .tmp 2) (y := .tmp 39) ?_ ?_ ?_ ?_ E7.out HS.out HCS.out HCO.out ?_); rfl; rfl; rfl; rfl))
  have hB7 := hB5.trans (hx7.mono hB5.size)
  refine bodyPost_ret (results_cell_tmp (fn := Tryz.f75) (p := 2) (q := 3) (by rfl) _ _ w.heap.size _ _ _ _ (by rfl) (setRow_heap _ _ _ _ _ _ E7.out) Tryz.underlying59 rfl (obsize HCS.out)) rfl ⟨cs, ao, bo, ca, cb, rfl, ?_, below_setRow hB7 (Nat.le_refl _) _⟩
  exact (hO5.below hx7).setRow (fun a ha => by have := hnew a ha; simp at this; omega)
theorem blob_l (g : Nat) (t : List UInt8) (w : World) (h : Rl w g (t, false)) (hl : t.length ≤ 100000) :
  Calls Tryz.prog 146 #[.pointer (some ⟨g, 0, none⟩)] w (Bdy g (Rm.blobF t) w) := by
 refine (blob_any g ⟨t.toArray⟩ false w h).mono fun e w' ⟨h1, h2, h3⟩ => ⟨_, none, none, 0, 0, h1, ?_, h2, h3, fun a ha => by rcases ha with ha | ha <;> cases ha⟩
 exact ⟨obC_F { noOb with kind := 1, data := ⟨t.toArray⟩ } nilV nilV rfl rfl rfl rfl, RowsAt.nil _ _, RowsAt.nil _ _, (fun e he => by cases he), (fun e he => by cases he), (fun e he => by cases he), (show (0 : Nat) ≤ maxLen from Nat.zero_le _), (show (0 : Nat) ≤ maxLen from Nat.zero_le _), (show (0 : Nat) ≤ maxLen from Nat.zero_le _), (show (0 : Nat) < 4294967296 by decide)⟩
theorem bdV_len (l : List UInt8) (h : l.length ≤ 4096) : (Rm.bdV l).length ≤ 100000 := by
 have h1 := textV_len (Rm.kindR false l).1
 have h2 := kindR_len false l
 show (Rm.textV (Rm.kindR false l).1).length ≤ 100000
 omega
def Dcd (l : List UInt8) (w : World) (r : Ending) (w' : World) : Prop := match Rm.dec l with
 | none => NoDec w r w'
 | some o => ADec o w r w'
theorem decode_any (s : ByteArray) (w : World) (hs : s.size ≤ maxLen) : Calls Tryz.prog 75 #[.string s] w (Dcd s.data.toList w) := by
 have hsl := size_list s
 unfold Dcd
 by_cases h4 : 4096 < s.size
 ·
  have : Rm.dec s.data.toList = none := by unfold Rm.dec; rw [if_neg (by omega)]
  rw [this]
  exact decode_long s w hs h4
 cases hA : Rm.okA s.data.toList with
 | false =>
   have : Rm.dec s.data.toList = none := by unfold Rm.dec; rw [if_neg (by rw [hA]; simp)]
   rw [this]
   exact decode_noA s w (by omega) hA
 | true =>
   have hA' := hA
   unfold Rm.okA at hA'
   rw [Bool.and_eq_true, decide_eq_true_eq, decide_eq_true_eq] at hA'
   obtain ⟨hR, hk1, hk2⟩ := hA'
   have hbl := bdV_len s.data.toList (by omega)
   have key : ∃ fn, (fn = 146 ∨ fn = 147 ∨ fn = 148 ∨ fn = 149) ∧ (∀ W, Calls Tryz.prog 108 #[.int .i64 (Rm.kindV s.data.toList)] W fun r w' => r = .returned (.func (.func fn) #[] #[]) ∧ W = w') ∧
     (∀ W g, Rl W g (Rm.bdV s.data.toList, false) → Calls Tryz.prog fn #[.pointer (some ⟨g, 0, none⟩)] W (Bdy g (Rm.bodyF (Rm.kindV s.data.toList) (Rm.bdV s.data.toList)) W)) := by
    unfold Rm.bodyF
    rcases (by omega : Rm.kindV s.data.toList = 1 ∨ Rm.kindV s.data.toList = 2 ∨ Rm.kindV s.data.toList = 3 ∨ Rm.kindV s.data.toList = 4) with e | e | e | e
    ·
     rw [e]
     exact ⟨_, .inl rfl, fun W => method_any 1 W, fun W g hr => blob_l g _ W hr hbl⟩
    ·
     rw [e]
     exact ⟨_, .inr (.inl rfl), fun W => method_any 2 W, fun W g hr => tree_any g _ W hr hbl⟩
    ·
     rw [e]
     exact ⟨_, .inr (.inr (.inl rfl)), fun W => method_any 3 W, fun W g hr => commit_any g _ W hr hbl⟩
    ·
     rw [e]
     exact ⟨_, .inr (.inr (.inr rfl)), fun W => method_any 4 W, fun W g hr => tag_any g _ W hr hbl⟩
   obtain ⟨fn, hfn, hm, hb⟩ := key
   cases hB : Rm.okB s.data.toList with
   | false =>
     have : Rm.dec s.data.toList = none := by unfold Rm.dec; rw [if_neg (by rw [hB]; simp)]
     rw [this]
     exact decode_A fn hfn s w (by omega) hR hm hb hB
   | true =>
     have : Rm.dec s.data.toList = some (Rm.bodyF (Rm.kindV s.data.toList) (Rm.bdV s.data.toList)).1 := by unfold Rm.dec; rw [if_pos ⟨by omega, hA, hB⟩]
     rw [this]
     exact decode_B fn hfn s w (by omega) hR hm hb hB
end Go.Proofs.YtkcjhkfelaplkaaGreatDoor
end
section
namespace Go.Proofs.YtkcjhkfelaplkaaGreatDoor
open Go.RowKit
structure Two (w : World) (c1 c2 : Array Value) (W : World) : Prop where
 a : W.heap[w.heap.size]? = some (.cells c1 59)
 b : W.heap[w.heap.size + 1]? = some (.cells c2 59)
 below : Below w.heap.size w W
theorem Two.ca {w W : World} {c1 c2 : Array Value} (h : Two w c1 c2 W) {i : Nat} {v : Value} (hv : c1[i]? = some v) : W.cell? ⟨w.heap.size, i, none⟩ = some v := by rw [cell_of_row _ _ _ _ _ (0, 0) h.a]; exact hv
theorem Two.cb {w W : World} {c1 c2 : Array Value} (h : Two w c1 c2 W) {i : Nat} {v : Value} (hv : c2[i]? = some v) : W.cell? ⟨w.heap.size + 1, i, none⟩ = some v := by rw [cell_of_row _ _ _ _ _ (0, 0) h.b]; exact hv
theorem Two.drew {w W : World} {c1 c2 : Array Value} (h : Two w c1 c2 W) : Two w c1 c2 W.drew := ⟨h.a, h.b, h.below.drew⟩
end Go.Proofs.YtkcjhkfelaplkaaGreatDoor
end
end
