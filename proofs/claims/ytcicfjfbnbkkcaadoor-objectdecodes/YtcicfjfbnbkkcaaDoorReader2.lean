/-
  WALKS OF LAYER 4: the reader: text, number, and id where there is too little; bodyMethod.
-/
import Derived.Test.YtcicfjfbnbkkcaaDoorDecBad
import Derived.Test.YtcicfjfbnbkkcaaDoorMay
namespace Go.Proofs.YtcicfjfbnbkkcaaDoor
open Go.RowKit
set_option linter.unusedVariables false
set_option linter.unusedSimpArgs false

theorem setRow_other (w : World) (g k : Nat) (cs : Array Value) (h : k ≠ g) : (w.setRow g cs).heap[k]? = w.heap[k]? := by
  simp only [World.setRow, Array.getElem?_modify]
  rw [if_neg (fun e => h e.symm)]
theorem bd_blob {ops : Array Oper} {rest : List Oper} {op : Oper} {a : Act} {w : World} {Q : Exit → Act → World → Prop} {x y : Operand} {d : ByteArray} {c : Array Value} (ho : op.op = .build 29 #[(0, x), (1, y)]) (hx : a.eval x = .int .i64 1) (hy : a.eval y = .string d) (hg : op.guard = none) (hz : Tryd.prog.built 29 [(0, .int .i64 1), (1, .string d)] = some c)
    (h : wpList Tryd.prog ops Q rest (a.put op.dst (.agg c)) w) : wpList Tryd.prog ops Q (op :: rest) a w :=
  wpList_build_as hg _ _ ho _ (by simp only [List.map_toArray, List.map_cons, List.map_nil, hx, hy]; exact hz) h

set_option maxRecDepth 100000 in
theorem rtext_ok (g : Nat) (s t rest : ByteArray) (b : Bool) (w : World) (h : Rd w g s b) (ht : Calls Tryd.prog 27 #[.string s] w fun r w' => r = .returned (.tuple #[.string t, .string rest, .int .i64 0]) ∧ ∃ n, w' = w.drewN n) :
    Calls Tryd.prog 13 #[.pointer (some ⟨g, 0, none⟩)] w fun r w' => r = .returned (.string t) ∧ Rd w' g rest b ∧ w.grownBy w' (some g) := by
  have c0 := h.c0
  have HT := Lib.hid ht
  have f0 := h.f 0
  have H2 := Lib.hid (fun n => Rd.set0 (w := w.drewN n) h rest)
  clear h ht
  go_enter Tryd.func13, Tryd.ntmps13
  go_wp2_with fail
  refine HT.out.mono ?_
  rintro r w1 ⟨rfl, n, rfl⟩
  have c0' : (w.drewN n).cell? ⟨g, 0, none⟩ = some (.string s) := c0
  have f0' : (w.drewN n).frozen? ⟨g, 0, none⟩ = false := f0
  go_wp2
  go_ret
  exact ⟨rfl, H2.out n, ⟨rfl, rfl, rfl, (grown_set (w.drewN n) g 0 (.string rest)).size, (grown_set (w.drewN n) g 0 (.string rest)).block⟩⟩

set_option maxRecDepth 100000 in
theorem number_ok (g : Nat) (s rest : ByteArray) (k most : Nat) (b : Bool) (w : World) (h : Rd w g s b) (hk : k ≤ most) (ht : Calls Tryd.prog 53 #[.string s] w fun r w' => r = .returned (.tuple #[.int .u64 k, .string rest, .int .i64 0]) ∧ ∃ n, w' = w.drewN n) :
    Calls Tryd.prog 55 #[.pointer (some ⟨g, 0, none⟩), .int .u64 most] w fun r w' => r = .returned (.int .u64 k) ∧ Rd w' g rest b ∧ w.grownBy w' (some g) := by
  have c0 := h.c0
  have HT := Lib.hid ht
  have f0 := h.f 0
  have H2 := Lib.hid (fun n => Rd.set0 (w := w.drewN n) h rest)
  have hk' : ¬ (most : Int) < (k : Int) := by omega
  have hk2 : decide (most < k) = false := by simp; omega
  clear h ht
  go_enter Tryd.func55, Tryd.ntmps55
  go_wp2_with fail
  refine HT.out.mono ?_
  rintro r w1 ⟨rfl, n, rfl⟩
  have c0' : (w.drewN n).cell? ⟨g, 0, none⟩ = some (.string s) := c0
  have f0' : (w.drewN n).frozen? ⟨g, 0, none⟩ = false := f0
  go_wp2
  go_ret
  exact ⟨rfl, H2.out n, ⟨rfl, rfl, rfl, (grown_set (w.drewN n) g 0 (.string rest)).size, (grown_set (w.drewN n) g 0 (.string rest)).block⟩⟩

set_option maxRecDepth 100000 in
theorem number_big (g : Nat) (s rest : ByteArray) (k most : Nat) (b : Bool) (w : World) (h : Rd w g s b) (hk : most < k) (ht : Calls Tryd.prog 53 #[.string s] w fun r w' => r = .returned (.tuple #[.int .u64 k, .string rest, .int .i64 0]) ∧ ∃ n, w' = w.drewN n) :
    Calls Tryd.prog 55 #[.pointer (some ⟨g, 0, none⟩), .int .u64 most] w fun r w' => r = .returned (.int .u64 0) ∧ Rd w' g ⟨#[]⟩ true ∧ w.grownBy w' (some g) := by
  have c0 := h.c0
  have HT := Lib.hid ht
  have HF := Lib.hid (fun n => fail_any g s b (w.drewN n) h)
  have hk' : (most : Int) < (k : Int) := by omega
  have hk2 : decide (most < k) = true := by simp; omega
  clear h ht
  go_enter Tryd.func55, Tryd.ntmps55
  go_wp2_with fail
  refine HT.out.mono ?_
  rintro r w1 ⟨rfl, n, rfl⟩
  go_wp2_with fail
  refine (HF.out n).mono ?_
  rintro r w2 ⟨rfl, h1, h2⟩
  go_wp2
  go_ret
  exact ⟨rfl, h1, ⟨h2.os, h2.tape, h2.output, h2.size, h2.block⟩⟩

set_option maxRecDepth 100000 in
theorem number_none (g : Nat) (s : ByteArray) (most : Nat) (b : Bool) (w : World) (h : Rd w g s b) (ht : Calls Tryd.prog 53 #[.string s] w fun r w' => r = .returned (.tuple #[.int .u64 0, .string ⟨#[]⟩, .int .i64 2]) ∧ w = w') :
    Calls Tryd.prog 55 #[.pointer (some ⟨g, 0, none⟩), .int .u64 most] w fun r w' => r = .returned (.int .u64 0) ∧ Rd w' g ⟨#[]⟩ true ∧ w.grownBy w' (some g) := by
  have c0 := h.c0
  have HT := Lib.hid ht
  have HF := Lib.hid (fail_any g s b w h)
  clear h ht
  go_enter Tryd.func55, Tryd.ntmps55
  go_wp2_with fail
  refine HT.out.mono ?_
  rintro r w1 ⟨rfl, rfl⟩
  go_wp2_with fail
  refine HF.out.mono ?_
  rintro r w2 ⟨rfl, h1, h2⟩
  go_wp2
  go_ret
  exact ⟨rfl, h1, h2⟩

set_option maxRecDepth 100000 in
theorem method_any (k : Int) (w : World) :
    Calls Tryd.prog 14 #[.int .i64 k] w fun r w' => r = .returned (if k = 1 then .func (.func 28) #[] #[] else if k = 2 then .func (.func 29) #[] #[] else if k = 3 then .func (.func 30) #[] #[] else if k = 4 then .func (.func 31) #[] #[] else .nilFunc) ∧ w = w' := by
  rcases (by omega : k = 1 ∨ k = 2 ∨ k = 3 ∨ k = 4 ∨ (k ≠ 1 ∧ k ≠ 2 ∧ k ≠ 3 ∧ k ≠ 4)) with rfl | rfl | rfl | rfl | ⟨n1, n2, n3, n4⟩
  · go_enter Tryd.func14, Tryd.ntmps14
    go_wp2
    go_ret
    exact ⟨rfl, rfl⟩
  · go_enter Tryd.func14, Tryd.ntmps14
    go_wp2
    go_ret
    exact ⟨rfl, rfl⟩
  · go_enter Tryd.func14, Tryd.ntmps14
    go_wp2
    go_ret
    exact ⟨rfl, rfl⟩
  · go_enter Tryd.func14, Tryd.ntmps14
    go_wp2
    go_ret
    exact ⟨rfl, rfl⟩
  · rw [if_neg n1, if_neg n2, if_neg n3, if_neg n4]
    have m1 : (k == 1) = false := beq_eq_false_iff_ne.2 n1
    have m2 : (k == 2) = false := beq_eq_false_iff_ne.2 n2
    have m3 : (k == 3) = false := beq_eq_false_iff_ne.2 n3
    have m4 : (k == 4) = false := beq_eq_false_iff_ne.2 n4
    clear n1 n2 n3 n4
    go_enter Tryd.func14, Tryd.ntmps14
    go_wp2
    go_ret
    exact ⟨rfl, rfl⟩

set_option maxHeartbeats 1000000 in
set_option maxRecDepth 100000 in
theorem blob_any (g : Nat) (s : ByteArray) (b : Bool) (w : World) (h : Rd w g s b) :
    Calls Tryd.prog 28 #[.pointer (some ⟨g, 0, none⟩)] w fun r w' => r = .returned (.agg (obC { noOb with kind := 1, data := s } nilV nilV).toArray) ∧ Rd w' g ⟨#[]⟩ b ∧ w.grownBy w' (some g) := by
  have hz28 := (zero_of_info zero28).1
  have HS0 := Lib.hid noF.size
  have hF := obC_F { noOb with kind := 1, data := s } nilV nilV rfl rfl rfl rfl
  have HS := Lib.hid hF.size
  have HO := Lib.hid hF.one
  have HB := Lib.hid (built_blob s)
  generalize (obC { noOb with kind := 1, data := s } nilV nilV).toArray = c at HS HO HB ⊢
  generalize (obC noOb nilV nilV).toArray = z at hz28 HS0
  clear hF
  have hlt := (Array.getElem?_eq_some_iff.1 h).1
  have R1 : Rd (w.alloc (.cells z 29)) g s b := (Lib.alloc_old w _ g hlt).trans h
  have c0 := R1.c0
  have f0 := R1.f 0
  have hsz : (w.setCell ⟨g, 0, none⟩ (.string ⟨#[]⟩)).heap.size = w.heap.size := by simp [World.setCell]
  have H2 := Lib.hid ((Lib.alloc_old (w.setCell ⟨g, 0, none⟩ (.string ⟨#[]⟩)) (.cells z 29) g (by rw [hsz]; exact hlt)).trans (Rd.set0 h ⟨#[]⟩))
  have E1 := Lib.hid (show ((w.setCell ⟨g, 0, none⟩ (.string ⟨#[]⟩)).alloc (.cells z 29)).heap[w.heap.size]? = some (.cells z 29) by
    have := heap_alloc_last (w.setCell ⟨g, 0, none⟩ (.string ⟨#[]⟩)) (.cells z 29)
    rwa [hsz] at this)
  have hgr : w.grownBy ((w.setCell ⟨g, 0, none⟩ (.string ⟨#[]⟩)).alloc (.cells z 29)) (some g) := grown_trans (grown_set _ _ _ _) (World.grownBy_alloc _ _ _)
  clear h R1 hsz
  go_enter Tryd.func28, Tryd.ntmps28
  go_wp2_with (first
    | ((with_reducible refine bd_blob (x := .const (.int .i64 1)) (y := .tmp 11) (d := s) ?_ ?_ ?_ ?_ HB.out ?_); rfl; rfl; rfl; rfl)
    | ((with_reducible refine st_obr (x := .tmp 2) (y := .tmp 12) ?_ ?_ ?_ ?_ E1.out HS0.out HS.out HO.out ?_); rfl; rfl; rfl; rfl))
  refine bodyPost_ret (results_cell_row (fn := Tryd.f28) (p := 2) (by rfl) _ _ w.heap.size _ _ _ _ (by rfl) (setRow_heap _ _ _ _ _ _ E1.out) Tryd.underlying29 rfl (obsize HS.out)) rfl ⟨rfl, ?_, ?_⟩
  · exact (setRow_other _ _ _ _ (by omega)).trans H2.out
  · exact ⟨hgr.os, hgr.tape, hgr.output, by have := hgr.size; simp [World.setRow], fun k hk hne => (setRow_other _ _ _ _ (by omega)).trans (hgr.block k hk hne)⟩
end Go.Proofs.YtcicfjfbnbkkcaaDoor
