/-
  LAYER 9: knows.
-/
import Derived.Test.YtkdljagcdaphdaaUpd
namespace Go.Proofs.Ytkdljagcdaphdaa
open Go.RowKit
set_option linter.unusedVariables false
set_option linter.unusedSimpArgs false

def bid (b : UInt8) : List UInt8 := b :: List.replicate 31 0
def nmA : ByteArray := ⟨#[97]⟩
theorem built_1 : Try.prog.built 35 [(0, .int .u8 1)] = some (idC (bid 1)).toArray := by kernel_rfl
theorem built_2 : Try.prog.built 35 [(0, .int .u8 2)] = some (idC (bid 2)).toArray := by kernel_rfl
theorem built_3 : Try.prog.built 35 [(0, .int .u8 3)] = some (idC (bid 3)).toArray := by kernel_rfl
def u1 : Rf.U := ⟨nmA, Rf.zid, bid 1⟩
def u2 : Rf.U := ⟨nmA, bid 2, bid 3⟩
def r1 : Rf.R := ⟨nmA, bid 1⟩
theorem built_u1 : Try.prog.built 51 [(0, .string ⟨#[97]⟩), (2, .agg (idC (bid 1)).toArray)] = some (upC u1).toArray := by kernel_rfl
theorem built_u2 : Try.prog.built 51 [(0, .string ⟨#[97]⟩), (1, .agg (idC (bid 2)).toArray), (2, .agg (idC (bid 3)).toArray)] = some (upC u2).toArray := by kernel_rfl
theorem built_r1 : Try.prog.built 54 [(0, .string ⟨#[97]⟩), (1, .agg (idC (bid 1)).toArray)] = some (rfC r1).toArray := by kernel_rfl
set_option maxRecDepth 100000 in
theorem builtS_up (u : Rf.U) (h : u.old.length = 32) (k : u.new.length = 32) : Try.prog.builtSlice 51 1 [(0, .agg (upC u).toArray)] = some (upC u).toArray := by
  obtain ⟨n, l, m⟩ := u
  obtain ⟨x0, x1, x2, x3, x4, x5, x6, x7, x8, x9, x10, x11, x12, x13, x14, x15, x16, x17, x18, x19, x20, x21, x22, x23, x24, x25, x26, x27, x28, x29, x30, x31, rfl⟩ := len32 h
  obtain ⟨y0, y1, y2, y3, y4, y5, y6, y7, y8, y9, y10, y11, y12, y13, y14, y15, y16, y17, y18, y19, y20, y21, y22, y23, y24, y25, y26, y27, y28, y29, y30, y31, rfl⟩ := len32 k
  kernel_rfl
section
variable {ops : Array Oper} {rest : List Oper} {op : Oper} {a : Act} {w : World} {Q : Exit → Act → World → Prop} {x y : Operand}
theorem bd_1 (ho : op.op = .build 35 #[(0, .const (.int .u8 1))]) (hg : op.guard = none) (h : wpList Try.prog ops Q rest (a.put op.dst (.agg (idC (bid 1)).toArray)) w) : wpList Try.prog ops Q (op :: rest) a w :=
  wpList_build_as hg _ _ ho _ (by simp only [List.map_toArray, List.map_cons, List.map_nil]; exact built_1) h
theorem bd_2 (ho : op.op = .build 35 #[(0, .const (.int .u8 2))]) (hg : op.guard = none) (h : wpList Try.prog ops Q rest (a.put op.dst (.agg (idC (bid 2)).toArray)) w) : wpList Try.prog ops Q (op :: rest) a w :=
  wpList_build_as hg _ _ ho _ (by simp only [List.map_toArray, List.map_cons, List.map_nil]; exact built_2) h
theorem bd_3 (ho : op.op = .build 35 #[(0, .const (.int .u8 3))]) (hg : op.guard = none) (h : wpList Try.prog ops Q rest (a.put op.dst (.agg (idC (bid 3)).toArray)) w) : wpList Try.prog ops Q (op :: rest) a w :=
  wpList_build_as hg _ _ ho _ (by simp only [List.map_toArray, List.map_cons, List.map_nil]; exact built_3) h
theorem bd_u1 (ho : op.op = .build 51 #[(0, .const (.string ⟨#[97]⟩)), (2, x)]) (hx : a.eval x = .agg (idC (bid 1)).toArray) (hg : op.guard = none) (h : wpList Try.prog ops Q rest (a.put op.dst (.agg (upC u1).toArray)) w) : wpList Try.prog ops Q (op :: rest) a w :=
  wpList_build_as hg _ _ ho _ (by simp only [List.map_toArray, List.map_cons, List.map_nil, hx]; exact built_u1) h
theorem bd_u2 (ho : op.op = .build 51 #[(0, .const (.string ⟨#[97]⟩)), (1, x), (2, y)]) (hx : a.eval x = .agg (idC (bid 2)).toArray) (hy : a.eval y = .agg (idC (bid 3)).toArray) (hg : op.guard = none) (h : wpList Try.prog ops Q rest (a.put op.dst (.agg (upC u2).toArray)) w) : wpList Try.prog ops Q (op :: rest) a w :=
  wpList_build_as hg _ _ ho _ (by simp only [List.map_toArray, List.map_cons, List.map_nil, hx, hy]; exact built_u2) h
theorem bd_r1 (ho : op.op = .build 54 #[(0, .const (.string ⟨#[97]⟩)), (1, x)]) (hx : a.eval x = .agg (idC (bid 1)).toArray) (hg : op.guard = none) (h : wpList Try.prog ops Q rest (a.put op.dst (.agg (rfC r1).toArray)) w) : wpList Try.prog ops Q (op :: rest) a w :=
  wpList_build_as hg _ _ ho _ (by simp only [List.map_toArray, List.map_cons, List.map_nil, hx]; exact built_r1) h
theorem bs_up {u : Rf.U} (ho : op.op = .buildSlice 41 1 #[(0, x)]) (hx : a.eval x = .agg (upC u).toArray) (hg : op.guard = none) (h1 : u.old.length = 32) (h2 : u.new.length = 32)
    (h : wpList Try.prog ops Q rest (a.put op.dst (.slice (some ⟨w.heap.size, 0, none⟩) 1 1)) (w.alloc (.cells (upC u).toArray 51))) : wpList Try.prog ops Q (op :: rest) a w :=
  Great.wpList_buildSliceTo hg _ 51 1 _ ho w.heap.size rfl op.dst rfl Try.underlying41 _ (by simp only [List.map_toArray, List.map_cons, List.map_nil, hx]; exact builtS_up u h1 h2) h
end
theorem ups_one {w : World} {g : Nat} {u : Rf.U} (h : w.heap[g]? = some (.cells (upC u).toArray 51)) (h1 : u.old.length = 32) (h2 : u.new.length = 32) : UpsAt w (.slice (some ⟨g, 0, none⟩) 1 1) [u] := by
  refine ⟨.inr ⟨⟨g, 0, none⟩, 1, rfl, fun i cs hi => ?_⟩⟩
  match i with
  | 0 =>
    simp at hi; subst hi
    refine ⟨by rw [upC_length, h1, h2], fun j x hx => ?_⟩
    rw [show (⟨g, 0, none⟩ : Addr).add (0 * 65) = ⟨g, 0, none⟩ from rfl]
    exact news_row h j x hx
  | i + 1 => simp at hi
theorem refs_one {w : World} {g : Nat} {r : Rf.R} (h : w.heap[g]? = some (.cells (rfC r).toArray 54)) (h1 : r.id.length = 32) : RefsAt w (.slice (some ⟨g, 0, none⟩) 1 1) [r] := by
  refine ⟨.inr ⟨⟨g, 0, none⟩, 1, rfl, fun i cs hi => ?_⟩⟩
  match i with
  | 0 =>
    simp at hi; subst hi
    refine ⟨by rw [rfC_length, h1], fun j x hx => ?_⟩
    rw [show (⟨g, 0, none⟩ : Addr).add (0 * 33) = ⟨g, 0, none⟩ from rfl]
    exact news_row h j x hx
  | i + 1 => simp at hi
theorem ex_1 : Rf.upd [] [u1] true = ([r1], [0]) := by kernel_rfl
theorem ex_2 : Rf.upd [r1] [u2] false = ([r1], [10]) := by kernel_rfl
theorem fine_0 : Rf.fine [] = true := by kernel_rfl
theorem fine_1 : Rf.fine [r1] = true := by kernel_rfl

set_option maxHeartbeats 2000000 in
set_option maxRecDepth 100000 in
theorem knows_true (w : World) : Calls Try.prog 8 #[] w fun r w' => r = .returned (.bool true) ∧ Below w.heap.size w w' := by
  have HU1 := Lib.hid (fun W => update_ok (.slice none 0 0) (.slice (some ⟨W.heap.size, 0, none⟩) 1 1) true [] [u1] (W.alloc (.cells (upC u1).toArray 51)) (RefsAt.nil _) (by simp) fine_0 (ups_one (heap_alloc_new W _) rfl rfl) (by decide) (by intro u hu; simp at hu; subst hu; decide))
  have HB1 := Lib.hid (fun W => below_new W (.cells (upC u1).toArray 51))
  go_enter Try.func8, Try.ntmps8
  go_wp2_with (first
    | ((with_reducible refine bd_1 ?_ ?_ ?_); rfl; rfl)
    | ((with_reducible refine bd_u1 (x := .tmp 8) ?_ ?_ ?_ ?_); rfl; rfl; rfl)
    | ((with_reducible refine bs_up (u := u1) (x := .tmp 9) ?_ ?_ ?_ ?_ ?_ ?_); rfl; rfl; rfl; rfl; rfl))
  refine (HU1.out _).mono ?_
  rintro r w1 ⟨v1, g1, rfl, hr1, he1, hb1⟩
  rw [ex_1] at hr1 he1
  have hb01 := below_step (HB1.out w) hb1
  have HR1 := Lib.hid hr1
  have HE1 := Lib.hid he1
  obtain ⟨ao1, cap1, rfl⟩ : ∃ ao cap, v1 = .slice ao 1 cap := hr1.form
  clear hr1 he1 hb1 HU1 HB1
  have HU2 := Lib.hid (update_ok (.slice (some ⟨w1.heap.size, 0, none⟩) 1 1) (.slice (some ⟨w1.heap.size + 1, 0, none⟩) 1 1) false [r1] [u2] ((w1.alloc (.cells (rfC r1).toArray 54)).alloc (.cells (upC u2).toArray 51))
    (refs_one (by rw [Below.heap_alloc _ _ _ (by simp)]; exact heap_alloc_new _ _) rfl) (by intro r hr; simp at hr; subst hr; decide) fine_1 (ups_one (new2 _ _ _) rfl rfl) (by decide) (by intro u hu; simp at hu; subst hu; decide))
  have HB2 := Lib.hid (below2 w1 (.cells (rfC r1).toArray 54) (.cells (upC u2).toArray 51))
  go_wp2_with (first
    | ((with_reducible refine bd_1 ?_ ?_ ?_); rfl; rfl)
    | ((with_reducible refine bd_2 ?_ ?_ ?_); rfl; rfl)
    | ((with_reducible refine bd_3 ?_ ?_ ?_); rfl; rfl)
    | ((with_reducible refine bd_r1 (x := .tmp 16) ?_ ?_ ?_ ?_); rfl; rfl; rfl)
    | ((with_reducible refine bs_rf (r := r1) (x := .tmp 17) ?_ ?_ ?_ ?_ ?_); rfl; rfl; rfl; rfl)
    | ((with_reducible refine bd_u2 (x := .tmp 19) (y := .tmp 20) ?_ ?_ ?_ ?_ ?_); rfl; rfl; rfl; rfl)
    | ((with_reducible refine bs_up (u := u2) (x := .tmp 21) ?_ ?_ ?_ ?_ ?_ ?_); rfl; rfl; rfl; rfl; rfl))
  refine HU2.out.mono ?_
  rintro r w2 ⟨v2, g2, rfl, hr2, he2, hb2⟩
  rw [ex_2] at hr2 he2
  have hb12 := below_step HB2.out hb2
  have hb02 := below_step hb01 hb12
  obtain ⟨ao2, cap2, rfl⟩ : ∃ ao cap, v2 = .slice ao 1 cap := hr2.form
  obtain ⟨a, rfl, _, hc⟩ := (HR1.out.below hb12).elem 0 r1 rfl
  have HC := Lib.hid hc
  have c1 := ((HE1.out.kept (below_grown hb12) (by simp)).cell 0 0 rfl)
  have c2 := he2.cell 0 10 rfl
  have hq := fun W => eq_rf r1 rfl W
  clear hr2 he2 hb2 hb12 HU2 HB2 HR1 HE1 hc
  go_wp2_with (first
    | ((with_reducible refine ld_rf (r := r1) (x := .tmp 41) (p := a.add (0 * 33)) ?_ ?_ ?_ HC.out ?_ ?_); rfl; rfl; rfl; rfl)
    | ((with_reducible refine bd_1 ?_ ?_ ?_); rfl; rfl)
    | ((with_reducible refine bd_r1 (x := .tmp 43) ?_ ?_ ?_ ?_); rfl; rfl; rfl))
  go_ret
  exact ⟨rfl, hb02⟩

end Go.Proofs.Ytkdljagcdaphdaa
