/-
  WALKS OF LAYER 4: the document's own May (knapsackref04.May), but for trees.
-/
import Derived.Test.YtcicfjfbnbkkcaaDoorRefBody2
namespace Go.Proofs.YtcicfjfbnbkkcaaDoor
open Go.RowKit
set_option linter.unusedVariables false
set_option linter.unusedSimpArgs false

theorem st_id2 {ops : Array Oper} {rest : List Oper} {op : Oper} {a : Act} {w : World} {Q : Exit → Act → World → Prop} {x y : Operand} {g : Nat} {l : List UInt8} {c : Array Value} (ho : op.op = .store 25 x y) (hx : a.eval x = .pointer (some ⟨g, 0, none⟩)) (hy : a.eval y = .agg (idC l).toArray) (hg : op.guard = none) (hc : c.size = 32) (hgs : g = w.heap.size) (hl : l.length = 32)
    (h : wpList Tryd.prog ops Q rest (a.put op.dst undef) (w.alloc (.cells (idC l).toArray 25))) : wpList Tryd.prog ops Q (op :: rest) a (w.alloc (.cells c 25)) := by
  subst hgs; exact st_id ho hx hy hg hc hl h
theorem ldg_idm {ops : Array Oper} {rest : List Oper} {op : Oper} {a : Act} {w : World} {Q : Exit → Act → World → Prop} {x : Operand} {l : List UInt8} {b o : Nat} (ho : op.op = .load 25 x) (hx : a.eval x = .pointer (some ⟨b, o, none⟩)) (hw : Region.wanted op (yielded ops a.tmps) = true) (hc : w.rangeAt b o (idC l)) (hl : l.length = 32)
    (h : wpList Tryd.prog ops Q rest (a.put op.dst (.agg (idC l).toArray)) w) : wpList Tryd.prog ops Q (op :: rest) a w :=
  wpList_load_mid_g hw 25 x ho b o hx _ _ hc Tryd.underlying25 rfl (idsize hl) h

theorem built_zid : Tryd.prog.built 25 [] = some (idC zId).toArray := by kernel_rfl
theorem bd_zid {ops : Array Oper} {rest : List Oper} {op : Oper} {a : Act} {w : World} {Q : Exit → Act → World → Prop} (ho : op.op = .build 25 #[]) (hg : op.guard = none)
    (h : wpList Tryd.prog ops Q rest (a.put op.dst (.agg (idC zId).toArray)) w) : wpList Tryd.prog ops Q (op :: rest) a w :=
  wpList_build_as hg _ _ ho _ (by simpa using built_zid) h
theorem less_tri : ∀ a b : List UInt8, Op.bytesLess a b = !(Op.bytesLess b a || b == a)
  | [], [] => rfl
  | [], _ :: _ => by simp [Op.bytesLess]
  | _ :: _, [] => by simp [Op.bytesLess]
  | x :: a, y :: b => by
    have ih := less_tri a b
    simp only [Op.bytesLess, ih]
    rcases Nat.lt_trichotomy x.toNat y.toNat with h | h | h
    · have h1 : x < y := UInt8.lt_iff_toNat_lt.2 h
      have h2 : ¬ y < x := fun c => by have := UInt8.lt_iff_toNat_lt.1 c; omega
      have h3 : y ≠ x := fun c => by rw [c] at h; omega
      simp [h1, h2, h3]
    · have h0 : x = y := UInt8.toNat_inj.1 h
      subst h0
      have h2 : ¬ x < x := fun c => by have := UInt8.lt_iff_toNat_lt.1 c; omega
      simp [h2]
    · have h1 : ¬ x < y := fun c => by have := UInt8.lt_iff_toNat_lt.1 c; omega
      have h2 : y < x := UInt8.lt_iff_toNat_lt.2 h
      have h3 : x ≠ y := fun c => by rw [c] at h; omega
      simp [h1, h2, h3]
theorem gtB_eq (a b : ByteArray) : gtB a b = Op.bytesLess a.toList b.toList := by rw [less_tri a.toList b.toList]; rfl
theorem gt_empty {s : ByteArray} (h : nameOk s = true) : gtB ⟨#[]⟩ s = true := by
  rw [gtB_eq]
  have h1 := (nameOk_size h).1
  have h2 : (ByteArray.mk #[]).toList = [] := by rw [ByteArray.toList_eq]
  rw [h2]
  cases hs : s.toList with
  | nil =>
    have := congrArg List.length hs
    rw [ByteArray.toList_eq, size_list] at this
    simp only [List.length_nil] at this; omega
  | cons x r => rfl
theorem isEmpty_len {α : Type} (l : List α) : l.isEmpty = decide (l.length = 0) := by cases l <;> simp

set_option maxHeartbeats 2000000 in
set_option maxRecDepth 100000 in
theorem may_blob (cs : Array Value) (o : Ob) (ao bo : Option Addr) (ca cb : Nat) (w : World) (h : ObAt w cs o ao bo ca cb) (hk : o.kind = 1) :
    Calls Tryd.prog 39 #[.agg cs] w fun r w' => r = .returned (.bool (validB o)) ∧ Below w.heap.size w w' := by
  have HZ := Lib.hid (show validB o = (treeZ o && commitZ o && tagZ o) by simp [validB, foreignZ, hk])
  generalize validB o = z at HZ
  have HZ1 := Lib.hid (show blobZ o = o.data.toList.isEmpty from rfl)
  have HZ2 := Lib.hid (show treeZ o = decide (o.ents.length = 0) from isEmpty_len _)
  have HZ3 := Lib.hid (show commitZ o = (decide (o.tree = zId) && decide (o.pars.length = 0) && decide (o.time = 0) && o.text.toList.isEmpty) by rw [← isEmpty_len]; rfl)
  have HZ4 := Lib.hid (show tagZ o = (decide (o.target = zId) && decide (o.of = 0) && o.name.toList.isEmpty) from rfl)
  generalize blobZ o = z1 at HZ HZ1
  generalize treeZ o = z2 at HZ HZ2
  generalize commitZ o = z3 at HZ HZ3
  generalize tagZ o = z4 at HZ HZ4
  have c0 : cs[0]? = some (.int .i64 1) := by rw [h.F.c0, hk]
  have c1 := h.F.c1
  have c2 := h.F.c2
  have c35 := h.F.c35
  have c36 := h.F.c36
  have c37 := h.F.c37
  have c70 := h.F.c70
  have c71 := h.F.c71
  have hpl := h.pl
  have hel := h.el
  unfold maxLen at hpl hel
  have hq3 := fun W => eq_id o.tree zId h.F.trl rfl W
  have hq7 := fun W => eq_id o.target zId h.F.tal rfl W
  have HT := Lib.hid h.F.trl
  have HG := Lib.hid h.F.tal
  have HO := Lib.hid (show zId.length = 32 from rfl)
  have HNM := Lib.hid (fun W => refname_any o.name W h.nm)
  generalize decide (o.tree = zId) = tz at hq3 HZ3
  generalize decide (o.target = zId) = gz at hq7 HZ4
  have E0 := heap_alloc2_old w (.cells cs 29) (.cells (idC zId).toArray 25)
  have E1 := heap_alloc2_new w (.cells cs 29) (.cells (idC zId).toArray 25)
  have RT := Lib.hid (h.F.rtr E0)
  have RG := Lib.hid (h.F.rta E0)
  have RO := Lib.hid (id_rid E1)
  clear E0 E1 h hk
  generalize o.ents.length = ne at c2 HZ2 hel HZ
  generalize o.pars.length = np at c35 HZ3 hpl HZ
  generalize nameOk o.name = nb at HNM HZ
  have hB := ((Below.refl w.heap.size w).alloc (Nat.le_refl _) (.cells cs 29)).alloc (by simp) (.cells (idC zId).toArray 25)
  go_enter Tryd.func39, Tryd.ntmps39
  go_wp2_with (first
    | (go_at_call 60; ((with_reducible refine (HNM.out _).mono ?_); rintro r wx ⟨rfl, rfl⟩))
    | ((with_reducible refine bd_zid ?_ ?_ ?_); rfl; rfl)
    | ((with_reducible refine st_id2 (x := .tmp 3) (y := .tmp 16) (g := w.heap.size + 1) ?_ ?_ ?_ ?_ ?_ ?_ HO.out ?_); rfl; rfl; rfl; rfl; rfl; simp)
    | ((fail_if_success (fail_if_success go_guarded)); (with_reducible refine ldg_idm (x := .tmp 40) ?_ ?_ ?_ RT.out HT.out ?_); rfl; rfl; kernel_rfl)
    | ((fail_if_success (fail_if_success go_guarded)); (with_reducible refine ldg_idm (x := .tmp 3) ?_ ?_ ?_ RO.out HO.out ?_); rfl; rfl; kernel_rfl)
    | ((with_reducible refine ld_idm (x := .tmp 64) ?_ ?_ ?_ RG.out HG.out ?_); rfl; rfl; rfl)
    | ((with_reducible refine ld_idm (x := .tmp 3) ?_ ?_ ?_ RO.out HO.out ?_); rfl; rfl; rfl))
  all_goals first
    | (go_ret
       refine ⟨ret_bool ?_, hB⟩
       rw [HZ.out]
       have e1 := HZ1.out
       have e2 := HZ2.out
       have e3 := HZ3.out
       have e4 := HZ4.out
       simp_all <;> omega)
    | skip
  obtain rfl : ne = 0 := by omega
  go_loop [5] (fun i => i = .int .i64 0) (fun _ => 0)
  case atStart => rfl
  case round =>
    subst hrel
    go_wp2
    go_ret
    refine ⟨ret_bool ?_, hB⟩
    rw [HZ.out]
    have e1 := HZ1.out
    have e2 := HZ2.out
    have e3 := HZ3.out
    have e4 := HZ4.out
    simp_all <;> omega
set_option maxHeartbeats 2000000 in
set_option maxRecDepth 100000 in
theorem may_commit (cs : Array Value) (o : Ob) (ao bo : Option Addr) (ca cb : Nat) (w : World) (h : ObAt w cs o ao bo ca cb) (hk : o.kind = 3) :
    Calls Tryd.prog 39 #[.agg cs] w fun r w' => r = .returned (.bool (validB o)) ∧ Below w.heap.size w w' := by
  have HZ := Lib.hid (show validB o = (blobZ o && treeZ o && tagZ o && decide (o.pars.length ≤ 8)) by simp [validB, foreignZ, hk])
  generalize validB o = z at HZ
  have HZ1 := Lib.hid (show blobZ o = o.data.toList.isEmpty from rfl)
  have HZ2 := Lib.hid (show treeZ o = decide (o.ents.length = 0) from isEmpty_len _)
  have HZ3 := Lib.hid (show commitZ o = (decide (o.tree = zId) && decide (o.pars.length = 0) && decide (o.time = 0) && o.text.toList.isEmpty) by rw [← isEmpty_len]; rfl)
  have HZ4 := Lib.hid (show tagZ o = (decide (o.target = zId) && decide (o.of = 0) && o.name.toList.isEmpty) from rfl)
  generalize blobZ o = z1 at HZ HZ1
  generalize treeZ o = z2 at HZ HZ2
  generalize commitZ o = z3 at HZ HZ3
  generalize tagZ o = z4 at HZ HZ4
  have c0 : cs[0]? = some (.int .i64 3) := by rw [h.F.c0, hk]
  have c1 := h.F.c1
  have c2 := h.F.c2
  have c35 := h.F.c35
  have c36 := h.F.c36
  have c37 := h.F.c37
  have c70 := h.F.c70
  have c71 := h.F.c71
  have hpl := h.pl
  have hel := h.el
  unfold maxLen at hpl hel
  have hq3 := fun W => eq_id o.tree zId h.F.trl rfl W
  have hq7 := fun W => eq_id o.target zId h.F.tal rfl W
  have HT := Lib.hid h.F.trl
  have HG := Lib.hid h.F.tal
  have HO := Lib.hid (show zId.length = 32 from rfl)
  have HNM := Lib.hid (fun W => refname_any o.name W h.nm)
  generalize decide (o.tree = zId) = tz at hq3 HZ3
  generalize decide (o.target = zId) = gz at hq7 HZ4
  have E0 := heap_alloc2_old w (.cells cs 29) (.cells (idC zId).toArray 25)
  have E1 := heap_alloc2_new w (.cells cs 29) (.cells (idC zId).toArray 25)
  have RT := Lib.hid (h.F.rtr E0)
  have RG := Lib.hid (h.F.rta E0)
  have RO := Lib.hid (id_rid E1)
  clear E0 E1 h hk
  generalize o.ents.length = ne at c2 HZ2 hel HZ
  generalize o.pars.length = np at c35 HZ3 hpl HZ
  generalize nameOk o.name = nb at HNM HZ
  have hB := ((Below.refl w.heap.size w).alloc (Nat.le_refl _) (.cells cs 29)).alloc (by simp) (.cells (idC zId).toArray 25)
  go_enter Tryd.func39, Tryd.ntmps39
  go_wp2_with (first
    | (go_at_call 60; ((with_reducible refine (HNM.out _).mono ?_); rintro r wx ⟨rfl, rfl⟩))
    | ((with_reducible refine bd_zid ?_ ?_ ?_); rfl; rfl)
    | ((with_reducible refine st_id2 (x := .tmp 3) (y := .tmp 16) (g := w.heap.size + 1) ?_ ?_ ?_ ?_ ?_ ?_ HO.out ?_); rfl; rfl; rfl; rfl; rfl; simp)
    | ((fail_if_success (fail_if_success go_guarded)); (with_reducible refine ldg_idm (x := .tmp 40) ?_ ?_ ?_ RT.out HT.out ?_); rfl; rfl; kernel_rfl)
    | ((fail_if_success (fail_if_success go_guarded)); (with_reducible refine ldg_idm (x := .tmp 3) ?_ ?_ ?_ RO.out HO.out ?_); rfl; rfl; kernel_rfl)
    | ((with_reducible refine ld_idm (x := .tmp 64) ?_ ?_ ?_ RG.out HG.out ?_); rfl; rfl; rfl)
    | ((with_reducible refine ld_idm (x := .tmp 3) ?_ ?_ ?_ RO.out HO.out ?_); rfl; rfl; rfl))
  all_goals first
    | (go_ret
       refine ⟨ret_bool ?_, hB⟩
       rw [HZ.out]
       have e1 := HZ1.out
       have e2 := HZ2.out
       have e3 := HZ3.out
       have e4 := HZ4.out
       simp_all <;> omega)
    | skip
  obtain rfl : ne = 0 := by omega
  go_loop [5] (fun i => i = .int .i64 0) (fun _ => 0)
  case atStart => rfl
  case round =>
    subst hrel
    go_wp2
    go_ret
    refine ⟨ret_bool ?_, hB⟩
    rw [HZ.out]
    have e1 := HZ1.out
    have e2 := HZ2.out
    have e3 := HZ3.out
    have e4 := HZ4.out
    simp_all <;> omega
end Go.Proofs.YtcicfjfbnbkkcaaDoor
