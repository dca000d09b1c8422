/-
  WALKS OF LAYER 4: the document's own May (knapsackref04.May), but for trees.
  LAYER 4: links, entries and objects, built out of their parts.
  WALKS OF LAYER 4: the reader: fail, kind, text, ended; bodyMethod.
  WALKS OF LAYER 4: Decode of the document's example, the bytes 1, 3, hi.
  WALKS OF LAYER 4: the rows of the document's examples (knapsacklaw04.knows).
-/
import Derived.Test.YtipigedopmgemaaDoorLb
import Derived.Great.Walk
section
namespace Go.Proofs.YtipigedopmgemaaDoor
open Go.RowKit
set_option linter.unusedVariables false
set_option linter.unusedSimpArgs false

theorem st_id2 {ops : Array Oper} {rest : List Oper} {op : Oper} {a : Act} {w : World} {Q : Exit → Act → World → Prop} {x y : Operand} {g : Nat} {l : List UInt8} {c : Array Value} (ho : op.op = .store 35 x y) (hx : a.eval x = .pointer (some ⟨g, 0, none⟩)) (hy : a.eval y = .agg (idC l).toArray) (hg : op.guard = none) (hc : c.size = 32) (hgs : g = w.heap.size) (hl : l.length = 32)
    (h : wpList Tryd.prog ops Q rest (a.put op.dst undef) (w.alloc (.cells (idC l).toArray 35))) : wpList Tryd.prog ops Q (op :: rest) a (w.alloc (.cells c 35)) := by
  subst hgs; exact st_id ho hx hy hg hc hl h
theorem ldg_idm {ops : Array Oper} {rest : List Oper} {op : Oper} {a : Act} {w : World} {Q : Exit → Act → World → Prop} {x : Operand} {l : List UInt8} {b o : Nat} (ho : op.op = .load 35 x) (hx : a.eval x = .pointer (some ⟨b, o, none⟩)) (hw : Region.wanted op (yielded ops a.tmps) = true) (hc : w.rangeAt b o (idC l)) (hl : l.length = 32)
    (h : wpList Tryd.prog ops Q rest (a.put op.dst (.agg (idC l).toArray)) w) : wpList Tryd.prog ops Q (op :: rest) a w :=
  wpList_load_mid_g hw 35 x ho b o hx _ _ hc Tryd.underlying35 rfl (idsize hl) h

theorem built_zid : Tryd.prog.built 35 [] = some (idC zId).toArray := by kernel_rfl
theorem bd_zid {ops : Array Oper} {rest : List Oper} {op : Oper} {a : Act} {w : World} {Q : Exit → Act → World → Prop} (ho : op.op = .build 35 #[]) (hg : op.guard = none)
    (h : wpList Tryd.prog ops Q rest (a.put op.dst (.agg (idC zId).toArray)) w) : wpList Tryd.prog ops Q (op :: rest) a w :=
  wpList_build_as hg _ _ ho _ (by simpa using built_zid) h
theorem less_tri : ∀ a b : List UInt8, Op.bytesLess a b = !(Op.bytesLess b a || b == a)
  | [], [] => rfl
  | [], _ :: _ => by simp [Op.bytesLess]
  | _ :: _, [] => by simp [Op.bytesLess]
  | x :: a, y :: b => by
    have ih := less_tri a b
    simp only [Op.bytesLess, ih]
    rcases Nat.lt_trichotomy x.toNat y.toNat with h | h | h
    · have h1 : x < y := UInt8.lt_iff_toNat_lt.2 h
      have h2 : ¬ y < x := fun c => by have := UInt8.lt_iff_toNat_lt.1 c; omega
      have h3 : y ≠ x := fun c => by rw [c] at h; omega
      simp [h1, h2, h3]
    · have h0 : x = y := UInt8.toNat_inj.1 h
      subst h0
      have h2 : ¬ x < x := fun c => by have := UInt8.lt_iff_toNat_lt.1 c; omega
      simp [h2]
    · have h1 : ¬ x < y := fun c => by have := UInt8.lt_iff_toNat_lt.1 c; omega
      have h2 : y < x := UInt8.lt_iff_toNat_lt.2 h
      have h3 : x ≠ y := fun c => by rw [c] at h; omega
      simp [h1, h2, h3]
theorem gtB_eq (a b : ByteArray) : gtB a b = Op.bytesLess a.toList b.toList := by rw [less_tri a.toList b.toList]; rfl
theorem gt_empty {s : ByteArray} (h : nameOk s = true) : gtB ⟨#[]⟩ s = true := by
  rw [gtB_eq]
  have h1 := (nameOk_size h).1
  have h2 : (ByteArray.mk #[]).toList = [] := by rw [ByteArray.toList_eq]
  rw [h2]
  cases hs : s.toList with
  | nil =>
    have := congrArg List.length hs
    rw [ByteArray.toList_eq, size_list] at this
    simp only [List.length_nil] at this; omega
  | cons x r => rfl
theorem isEmpty_len {α : Type} (l : List α) : l.isEmpty = decide (l.length = 0) := by cases l <;> simp

set_option maxHeartbeats 2000000 in
set_option maxRecDepth 100000 in
theorem may_blob (cs : Array Value) (o : Ob) (ao bo : Option Addr) (ca cb : Nat) (w : World) (h : ObAt w cs o ao bo ca cb) (hk : o.kind = 1) :
    Calls Tryd.prog 33 #[.agg cs] w fun r w' => r = .returned (.bool (validB o)) ∧ Below w.heap.size w w' := by
  have HZ := Lib.hid (show validB o = (treeZ o && commitZ o && tagZ o) by simp [validB, foreignZ, hk])
  generalize validB o = z at HZ
  have HZ1 := Lib.hid (show blobZ o = o.data.toList.isEmpty from rfl)
  have HZ2 := Lib.hid (show treeZ o = decide (o.ents.length = 0) from isEmpty_len _)
  have HZ3 := Lib.hid (show commitZ o = (decide (o.tree = zId) && decide (o.pars.length = 0) && decide (o.time = 0) && o.text.toList.isEmpty) by rw [← isEmpty_len]; rfl)
  have HZ4 := Lib.hid (show tagZ o = (decide (o.target = zId) && decide (o.of = 0) && o.name.toList.isEmpty) from rfl)
  generalize blobZ o = z1 at HZ HZ1
  generalize treeZ o = z2 at HZ HZ2
  generalize commitZ o = z3 at HZ HZ3
  generalize tagZ o = z4 at HZ HZ4
  have c0 : cs[0]? = some (.int .i64 1) := by rw [h.F.c0, hk]
  have c1 := h.F.c1
  have c2 := h.F.c2
  have c35 := h.F.c35
  have c36 := h.F.c36
  have c37 := h.F.c37
  have c70 := h.F.c70
  have c71 := h.F.c71
  have hpl := h.pl
  have hel := h.el
  unfold maxLen at hpl hel
  have hq3 := fun W => eq_id o.tree zId h.F.trl rfl W
  have hq7 := fun W => eq_id o.target zId h.F.tal rfl W
  have HT := Lib.hid h.F.trl
  have HG := Lib.hid h.F.tal
  have HO := Lib.hid (show zId.length = 32 from rfl)
  have HNM := Lib.hid (fun W => refname_any o.name W h.nm)
  generalize decide (o.tree = zId) = tz at hq3 HZ3
  generalize decide (o.target = zId) = gz at hq7 HZ4
  have E0 := heap_alloc2_old w (.cells cs 42) (.cells (idC zId).toArray 35)
  have E1 := heap_alloc2_new w (.cells cs 42) (.cells (idC zId).toArray 35)
  have RT := Lib.hid (h.F.rtr E0)
  have RG := Lib.hid (h.F.rta E0)
  have RO := Lib.hid (id_rid E1)
  clear E0 E1 h hk
  generalize o.ents.length = ne at c2 HZ2 hel HZ
  generalize o.pars.length = np at c35 HZ3 hpl HZ
  generalize nameOk o.name = nb at HNM HZ
  have hB := ((Below.refl w.heap.size w).alloc (Nat.le_refl _) (.cells cs 42)).alloc (by simp) (.cells (idC zId).toArray 35)
  go_enter Tryd.func33, Tryd.ntmps33
  go_wp2_with (first
    | (go_at_call 52; ((with_reducible refine (HNM.out _).mono ?_); rintro r wx ⟨rfl, rfl⟩))
    | ((with_reducible refine bd_zid ?_ ?_ ?_); rfl; rfl)
    | ((with_reducible refine st_id2 (x := .tmp 3) (y := .tmp 16) (g := w.heap.size + 1) ?_ ?_ ?_ ?_ ?_ ?_ HO.out ?_); rfl; rfl; rfl; rfl; rfl; simp)
    | ((fail_if_success (fail_if_success go_guarded)); (with_reducible refine ldg_idm (x := .tmp 40) ?_ ?_ ?_ RT.out HT.out ?_); rfl; rfl; kernel_rfl)
    | ((fail_if_success (fail_if_success go_guarded)); (with_reducible refine ldg_idm (x := .tmp 3) ?_ ?_ ?_ RO.out HO.out ?_); rfl; rfl; kernel_rfl)
    | ((with_reducible refine ld_idm (x := .tmp 64) ?_ ?_ ?_ RG.out HG.out ?_); rfl; rfl; rfl)
    | ((with_reducible refine ld_idm (x := .tmp 3) ?_ ?_ ?_ RO.out HO.out ?_); rfl; rfl; rfl))
  all_goals first
    | (go_ret
       refine ⟨ret_bool ?_, hB⟩
       rw [HZ.out]
       have e1 := HZ1.out
       have e2 := HZ2.out
       have e3 := HZ3.out
       have e4 := HZ4.out
       simp_all <;> omega)
    | skip
  obtain rfl : ne = 0 := by omega
  go_loop [5] (fun i => i = .int .i64 0) (fun _ => 0)
  case atStart => rfl
  case round =>
    subst hrel
    go_wp2
    go_ret
    refine ⟨ret_bool ?_, hB⟩
    rw [HZ.out]
    have e1 := HZ1.out
    have e2 := HZ2.out
    have e3 := HZ3.out
    have e4 := HZ4.out
    simp_all <;> omega
set_option maxHeartbeats 2000000 in
set_option maxRecDepth 100000 in
theorem may_commit (cs : Array Value) (o : Ob) (ao bo : Option Addr) (ca cb : Nat) (w : World) (h : ObAt w cs o ao bo ca cb) (hk : o.kind = 3) :
    Calls Tryd.prog 33 #[.agg cs] w fun r w' => r = .returned (.bool (validB o)) ∧ Below w.heap.size w w' := by
  have HZ := Lib.hid (show validB o = (blobZ o && treeZ o && tagZ o && decide (o.pars.length ≤ 8)) by simp [validB, foreignZ, hk])
  generalize validB o = z at HZ
  have HZ1 := Lib.hid (show blobZ o = o.data.toList.isEmpty from rfl)
  have HZ2 := Lib.hid (show treeZ o = decide (o.ents.length = 0) from isEmpty_len _)
  have HZ3 := Lib.hid (show commitZ o = (decide (o.tree = zId) && decide (o.pars.length = 0) && decide (o.time = 0) && o.text.toList.isEmpty) by rw [← isEmpty_len]; rfl)
  have HZ4 := Lib.hid (show tagZ o = (decide (o.target = zId) && decide (o.of = 0) && o.name.toList.isEmpty) from rfl)
  generalize blobZ o = z1 at HZ HZ1
  generalize treeZ o = z2 at HZ HZ2
  generalize commitZ o = z3 at HZ HZ3
  generalize tagZ o = z4 at HZ HZ4
  have c0 : cs[0]? = some (.int .i64 3) := by rw [h.F.c0, hk]
  have c1 := h.F.c1
  have c2 := h.F.c2
  have c35 := h.F.c35
  have c36 := h.F.c36
  have c37 := h.F.c37
  have c70 := h.F.c70
  have c71 := h.F.c71
  have hpl := h.pl
  have hel := h.el
  unfold maxLen at hpl hel
  have hq3 := fun W => eq_id o.tree zId h.F.trl rfl W
  have hq7 := fun W => eq_id o.target zId h.F.tal rfl W
  have HT := Lib.hid h.F.trl
  have HG := Lib.hid h.F.tal
  have HO := Lib.hid (show zId.length = 32 from rfl)
  have HNM := Lib.hid (fun W => refname_any o.name W h.nm)
  generalize decide (o.tree = zId) = tz at hq3 HZ3
  generalize decide (o.target = zId) = gz at hq7 HZ4
  have E0 := heap_alloc2_old w (.cells cs 42) (.cells (idC zId).toArray 35)
  have E1 := heap_alloc2_new w (.cells cs 42) (.cells (idC zId).toArray 35)
  have RT := Lib.hid (h.F.rtr E0)
  have RG := Lib.hid (h.F.rta E0)
  have RO := Lib.hid (id_rid E1)
  clear E0 E1 h hk
  generalize o.ents.length = ne at c2 HZ2 hel HZ
  generalize o.pars.length = np at c35 HZ3 hpl HZ
  generalize nameOk o.name = nb at HNM HZ
  have hB := ((Below.refl w.heap.size w).alloc (Nat.le_refl _) (.cells cs 42)).alloc (by simp) (.cells (idC zId).toArray 35)
  go_enter Tryd.func33, Tryd.ntmps33
  go_wp2_with (first
    | (go_at_call 52; ((with_reducible refine (HNM.out _).mono ?_); rintro r wx ⟨rfl, rfl⟩))
    | ((with_reducible refine bd_zid ?_ ?_ ?_); rfl; rfl)
    | ((with_reducible refine st_id2 (x := .tmp 3) (y := .tmp 16) (g := w.heap.size + 1) ?_ ?_ ?_ ?_ ?_ ?_ HO.out ?_); rfl; rfl; rfl; rfl; rfl; simp)
    | ((fail_if_success (fail_if_success go_guarded)); (with_reducible refine ldg_idm (x := .tmp 40) ?_ ?_ ?_ RT.out HT.out ?_); rfl; rfl; kernel_rfl)
    | ((fail_if_success (fail_if_success go_guarded)); (with_reducible refine ldg_idm (x := .tmp 3) ?_ ?_ ?_ RO.out HO.out ?_); rfl; rfl; kernel_rfl)
    | ((with_reducible refine ld_idm (x := .tmp 64) ?_ ?_ ?_ RG.out HG.out ?_); rfl; rfl; rfl)
    | ((with_reducible refine ld_idm (x := .tmp 3) ?_ ?_ ?_ RO.out HO.out ?_); rfl; rfl; rfl))
  all_goals first
    | (go_ret
       refine ⟨ret_bool ?_, hB⟩
       rw [HZ.out]
       have e1 := HZ1.out
       have e2 := HZ2.out
       have e3 := HZ3.out
       have e4 := HZ4.out
       simp_all <;> omega)
    | skip
  obtain rfl : ne = 0 := by omega
  go_loop [5] (fun i => i = .int .i64 0) (fun _ => 0)
  case atStart => rfl
  case round =>
    subst hrel
    go_wp2
    go_ret
    refine ⟨ret_bool ?_, hB⟩
    rw [HZ.out]
    have e1 := HZ1.out
    have e2 := HZ2.out
    have e3 := HZ3.out
    have e4 := HZ4.out
    simp_all <;> omega
end Go.Proofs.YtipigedopmgemaaDoor
end

section
namespace Go.Proofs.YtipigedopmgemaaDoor
open Go.RowKit
set_option linter.unusedVariables false
set_option linter.unusedSimpArgs false

set_option maxRecDepth 100000 in
theorem len32 {l : List UInt8} (h : l.length = 32) : ∃ x0 x1 x2 x3 x4 x5 x6 x7 x8 x9 x10 x11 x12 x13 x14 x15 x16 x17 x18 x19 x20 x21 x22 x23 x24 x25 x26 x27 x28 x29 x30 x31 : UInt8, l = [x0, x1, x2, x3, x4, x5, x6, x7, x8, x9, x10, x11, x12, x13, x14, x15, x16, x17, x18, x19, x20, x21, x22, x23, x24, x25, x26, x27, x28, x29, x30, x31] := by
  rcases l with _ | ⟨x0, l⟩
  · simp at h
  rcases l with _ | ⟨x1, l⟩
  · simp at h
  rcases l with _ | ⟨x2, l⟩
  · simp at h
  rcases l with _ | ⟨x3, l⟩
  · simp at h
  rcases l with _ | ⟨x4, l⟩
  · simp at h
  rcases l with _ | ⟨x5, l⟩
  · simp at h
  rcases l with _ | ⟨x6, l⟩
  · simp at h
  rcases l with _ | ⟨x7, l⟩
  · simp at h
  rcases l with _ | ⟨x8, l⟩
  · simp at h
  rcases l with _ | ⟨x9, l⟩
  · simp at h
  rcases l with _ | ⟨x10, l⟩
  · simp at h
  rcases l with _ | ⟨x11, l⟩
  · simp at h
  rcases l with _ | ⟨x12, l⟩
  · simp at h
  rcases l with _ | ⟨x13, l⟩
  · simp at h
  rcases l with _ | ⟨x14, l⟩
  · simp at h
  rcases l with _ | ⟨x15, l⟩
  · simp at h
  rcases l with _ | ⟨x16, l⟩
  · simp at h
  rcases l with _ | ⟨x17, l⟩
  · simp at h
  rcases l with _ | ⟨x18, l⟩
  · simp at h
  rcases l with _ | ⟨x19, l⟩
  · simp at h
  rcases l with _ | ⟨x20, l⟩
  · simp at h
  rcases l with _ | ⟨x21, l⟩
  · simp at h
  rcases l with _ | ⟨x22, l⟩
  · simp at h
  rcases l with _ | ⟨x23, l⟩
  · simp at h
  rcases l with _ | ⟨x24, l⟩
  · simp at h
  rcases l with _ | ⟨x25, l⟩
  · simp at h
  rcases l with _ | ⟨x26, l⟩
  · simp at h
  rcases l with _ | ⟨x27, l⟩
  · simp at h
  rcases l with _ | ⟨x28, l⟩
  · simp at h
  rcases l with _ | ⟨x29, l⟩
  · simp at h
  rcases l with _ | ⟨x30, l⟩
  · simp at h
  rcases l with _ | ⟨x31, l⟩
  · simp at h
  rcases l with _ | ⟨y, l⟩
  · exact ⟨_, _, _, _, _, _, _, _, _, _, _, _, _, _, _, _, _, _, _, _, _, _, _, _, _, _, _, _, _, _, _, _, rfl⟩
  · simp at h

set_option maxRecDepth 100000 in
theorem built_en (n : ByteArray) (k : Int) (l : List UInt8) (h : l.length = 32) : Tryd.prog.built 90 [(0, .string n), (1, .int .i64 k), (2, .agg (idC l).toArray)] = some (enC ⟨n, k, l⟩).toArray := by
  obtain ⟨x0, x1, x2, x3, x4, x5, x6, x7, x8, x9, x10, x11, x12, x13, x14, x15, x16, x17, x18, x19, x20, x21, x22, x23, x24, x25, x26, x27, x28, x29, x30, x31, rfl⟩ := len32 h
  kernel_rfl
set_option maxRecDepth 100000 in
theorem builtS_en (n : ByteArray) (k : Int) (l : List UInt8) (h : l.length = 32) : Tryd.prog.builtSlice 90 1 [(0, .agg (enC ⟨n, k, l⟩).toArray)] = some (enC ⟨n, k, l⟩).toArray := by
  obtain ⟨x0, x1, x2, x3, x4, x5, x6, x7, x8, x9, x10, x11, x12, x13, x14, x15, x16, x17, x18, x19, x20, x21, x22, x23, x24, x25, x26, x27, x28, x29, x30, x31, rfl⟩ := len32 h
  kernel_rfl
set_option maxRecDepth 100000 in
theorem builtS_id (l : List UInt8) (h : l.length = 32) : Tryd.prog.builtSlice 35 1 [(0, .agg (idC l).toArray)] = some (idC l).toArray := by
  obtain ⟨x0, x1, x2, x3, x4, x5, x6, x7, x8, x9, x10, x11, x12, x13, x14, x15, x16, x17, x18, x19, x20, x21, x22, x23, x24, x25, x26, x27, x28, x29, x30, x31, rfl⟩ := len32 h
  kernel_rfl

/-- The cells of an object. -/
def obC (o : Ob) (ev pv : Value) : List Value := .int .i64 o.kind :: .string o.data :: ev :: (idC o.tree ++ (pv :: .int .u32 (o.time : Int) :: .string o.text :: (idC o.target ++ [.int .i64 o.of, .string o.name])))
theorem obC_F (o : Ob) (ev pv : Value) (h1 : o.tree.length = 32) (h2 : o.target.length = 32) (he : ev.oneCell' = true) (hp : pv.oneCell' = true) : ObF (obC o ev pv).toArray o ev pv := by
  have e1 : (idC o.tree).length = 32 := by rw [idC_length, h1]
  have e2 : (idC o.target).length = 32 := by rw [idC_length, h2]
  have g : ∀ j, (obC o ev pv).toArray[35 + j]? = (pv :: .int .u32 (o.time : Int) :: .string o.text :: (idC o.target ++ [.int .i64 o.of, .string o.name]))[j]? := fun j => by
    rw [List.getElem?_toArray, show 35 + j = (32 + j) + 1 + 1 + 1 by omega]
    simp only [obC, List.getElem?_cons_succ]
    rw [List.getElem?_append_right (by omega), e1]
    congr 1; omega
  have g2 : ∀ j, (obC o ev pv).toArray[70 + j]? = ([.int .i64 o.of, .string o.name] : List Value)[j]? := fun j => by
    rw [show 70 + j = 35 + (35 + j) by omega, g, show 35 + j = (32 + j) + 1 + 1 + 1 by omega]
    simp only [List.getElem?_cons_succ]
    rw [List.getElem?_append_right (by omega), e2]
    congr 1; omega
  refine ⟨rfl, rfl, rfl, fun j v hv => ?_, g 0, g 1, g 2, fun j v hv => ?_, g2 0, g2 1, h1, h2, ?_, ?_⟩
  · have hj := (List.getElem?_eq_some_iff.1 hv).1
    rw [List.getElem?_toArray, show 3 + j = j + 1 + 1 + 1 by omega]
    simp only [obC, List.getElem?_cons_succ]
    rw [List.getElem?_append_left hj]; exact hv
  · have hj := (List.getElem?_eq_some_iff.1 hv).1
    rw [show 38 + j = 35 + (j + 1 + 1 + 1) by omega, g]
    simp only [List.getElem?_cons_succ]
    rw [List.getElem?_append_left hj]; exact hv
  · simp [obC, e1, e2]
  · refine all_oneCell_toArray (fun v hv => ?_)
    simp only [obC, List.mem_cons, List.mem_append, List.not_mem_nil, or_false] at hv
    rcases hv with rfl | rfl | rfl | h | rfl | rfl | rfl | h | rfl | rfl
    all_goals first | rfl | exact he | exact hp | exact idC_one _ _ h
def noOb : Ob := ⟨0, ⟨#[]⟩, [], zId, [], 0, ⟨#[]⟩, zId, 0, ⟨#[]⟩⟩
def nilV : Value := .slice none 0 0
set_option maxRecDepth 100000 in
theorem built_none : Tryd.prog.built 42 [] = some (obC noOb nilV nilV).toArray := by kernel_rfl
set_option maxRecDepth 100000 in
theorem built_blob (d : ByteArray) : Tryd.prog.built 42 [(0, .int .i64 1), (1, .string d)] = some (obC { noOb with kind := 1, data := d } nilV nilV).toArray := by kernel_rfl
set_option maxRecDepth 100000 in
theorem built_tree (ev : Value) (ao : Option Addr) (n c : Nat) (h : ev = .slice ao n c) (es : List En) : Tryd.prog.built 42 [(0, .int .i64 2), (2, ev)] = some (obC { noOb with kind := 2, ents := es } ev nilV).toArray := by
  subst h; kernel_rfl
set_option maxRecDepth 100000 in
theorem built_commit (l : List UInt8) (h : l.length = 32) (pv : Value) (bo : Option Addr) (n c : Nat) (hp : pv = .slice bo n c) (ps : List (List UInt8)) (ti : Nat) (te : ByteArray) : Tryd.prog.built 42 [(0, .int .i64 3), (3, .agg (idC l).toArray), (4, pv), (5, .int .u32 (ti : Int)), (6, .string te)] = some (obC { noOb with kind := 3, tree := l, pars := ps, time := ti, text := te } nilV pv).toArray := by
  subst hp
  obtain ⟨x0, x1, x2, x3, x4, x5, x6, x7, x8, x9, x10, x11, x12, x13, x14, x15, x16, x17, x18, x19, x20, x21, x22, x23, x24, x25, x26, x27, x28, x29, x30, x31, rfl⟩ := len32 h
  kernel_rfl
set_option maxRecDepth 100000 in
theorem built_tag (l : List UInt8) (h : l.length = 32) (f : Int) (nm : ByteArray) : Tryd.prog.built 42 [(0, .int .i64 4), (8, .int .i64 f), (7, .agg (idC l).toArray), (9, .string nm)] = some (obC { noOb with kind := 4, target := l, of := f, name := nm } nilV nilV).toArray := by
  obtain ⟨x0, x1, x2, x3, x4, x5, x6, x7, x8, x9, x10, x11, x12, x13, x14, x15, x16, x17, x18, x19, x20, x21, x22, x23, x24, x25, x26, x27, x28, x29, x30, x31, rfl⟩ := len32 h
  kernel_rfl
end Go.Proofs.YtipigedopmgemaaDoor
end

section
namespace Go.Proofs.YtipigedopmgemaaDoor
open Go.RowKit
set_option linter.unusedVariables false
set_option linter.unusedSimpArgs false

/-- A reader in block g: what is left, and whether there was a fault. -/
def Rd (w : World) (g : Nat) (s : ByteArray) (b : Bool) : Prop := w.heap[g]? = some (.cells #[.string s, .bool b] 92)
theorem Rd.c0 {w : World} {g : Nat} {s : ByteArray} {b : Bool} (h : Rd w g s b) : w.cell? ⟨g, 0, none⟩ = some (.string s) := (Lib.cell_of_heap h 0)
theorem Rd.c1 {w : World} {g : Nat} {s : ByteArray} {b : Bool} (h : Rd w g s b) : w.cell? ⟨g, 1, none⟩ = some (.bool b) := (Lib.cell_of_heap h 1)
theorem Rd.f {w : World} {g : Nat} {s : ByteArray} {b : Bool} (h : Rd w g s b) (j : Nat) : w.frozen? ⟨g, j, none⟩ = false := Lib.frozen_of_heap h j
theorem Rd.set0 {w : World} {g : Nat} {s : ByteArray} {b : Bool} (h : Rd w g s b) (t : ByteArray) : Rd (w.setCell ⟨g, 0, none⟩ (.string t)) g t b := by
  have := heap_setCell_same w g 0 _ _ (.string t) h
  simpa [Rd] using this
theorem Rd.set1 {w : World} {g : Nat} {s : ByteArray} {b : Bool} (h : Rd w g s b) (c : Bool) : Rd (w.setCell ⟨g, 1, none⟩ (.bool c)) g s c := by
  have := heap_setCell_same w g 1 _ _ (.bool c) h
  simpa [Rd] using this
theorem grown_set (w : World) (g i : Nat) (v : Value) : w.grownBy (w.setCell ⟨g, i, none⟩ v) (some g) :=
  ⟨rfl, rfl, rfl, by simp [World.setCell], fun k _ hk => Below.heap_setCell _ _ _ _ (fun e => hk (by simp [e]))⟩
theorem grown_trans {a b c : World} {g : Nat} (h : a.grownBy b (some g)) (k : b.grownBy c (some g)) : a.grownBy c (some g) :=
  ⟨k.os.trans h.os, k.tape.trans h.tape, k.output.trans h.output, Nat.le_trans h.size k.size, fun i hi hne => (k.block i (Nat.lt_of_lt_of_le hi h.size) hne).trans (h.block i hi hne)⟩
theorem grown_drawn {a b : World} {g : Nat} (h : a.grownBy b (some g)) (n : Nat) : a.grownBy (b.drewN n) (some g) := ⟨h.os, h.tape, h.output, h.size, h.block⟩

theorem ret_int {k : IntKind} {a b : Int} (h : a = b) : Ending.returned (.int k a) = .returned (.int k b) := by rw [h]

set_option maxRecDepth 100000 in
theorem fail_any (g : Nat) (s : ByteArray) (b : Bool) (w : World) (h : Rd w g s b) :
    Calls Tryd.prog 55 #[.pointer (some ⟨g, 0, none⟩)] w fun r w' => r = .returned (.tuple #[]) ∧ Rd w' g ⟨#[]⟩ true ∧ w.grownBy w' (some g) := by
  have c0 := h.c0
  have f0 := h.f 0
  have h1 := h.set0 ⟨#[]⟩
  have c1 := h1.c1
  have f1 := h1.f 1
  have H2 := Lib.hid (h1.set1 true)
  clear h h1
  go_enter Tryd.func55, Tryd.ntmps55
  go_wp2
  go_end0
  exact ⟨rfl, H2.out, grown_trans (grown_set _ _ _ _) (grown_set _ _ _ _)⟩

set_option maxRecDepth 100000 in
theorem kind_none (g : Nat) (b : Bool) (w : World) (h : Rd w g ⟨#[]⟩ b) :
    Calls Tryd.prog 40 #[.pointer (some ⟨g, 0, none⟩)] w fun r w' => r = .returned (.int .i64 0) ∧ Rd w' g ⟨#[]⟩ true ∧ w.grownBy w' (some g) := by
  have c0 := h.c0
  have HF := Lib.hid (fail_any g _ b w h)
  clear h
  go_enter Tryd.func40, Tryd.ntmps40
  go_wp2_with fail
  refine HF.out.mono ?_
  rintro r w1 ⟨rfl, h1, h2⟩
  go_wp2
  go_ret
  exact ⟨rfl, h1, h2⟩

set_option maxRecDepth 100000 in
theorem kind_some (g : Nat) (s : ByteArray) (b : Bool) (w : World) (h : Rd w g s b) (h0 : 0 < s.size) (hs : s.size ≤ maxLen) :
    Calls Tryd.prog 40 #[.pointer (some ⟨g, 0, none⟩)] w fun r w' => r = .returned (.int .i64 ((s[0]).toNat : Int)) ∧ Rd w' g (s.extract 1 s.size) b ∧ w.grownBy w' (some g) := by
  unfold maxLen at hs
  have c0 := h.c0
  have f0 := h.f 0
  have hne : ¬ s.toList = [] := fun hc => by
    have := congrArg List.length hc
    rw [ByteArray.toList_eq, size_list] at this
    simp only [List.length_nil] at this; omega
  have hne2 : s.toList.isEmpty = false := by simpa using hne
  have h0' : (0 : Int) < (s.size : Int) := by omega
  have H2 := Lib.hid (h.set0 (s.extract 1 s.size))
  clear h
  go_enter Tryd.func40, Tryd.ntmps40
  go_wp2
  go_ret
  exact ⟨ret_int (by have h := (s[0]).toNat_lt; unfold wrap64; omega), H2.out, grown_set _ _ _ _⟩

set_option maxRecDepth 100000 in
theorem ended_any (g : Nat) (s : ByteArray) (b : Bool) (w : World) (h : Rd w g s b) :
    Calls Tryd.prog 43 #[.pointer (some ⟨g, 0, none⟩)] w fun r w' => r = .returned (.bool (!b && s.toList.isEmpty)) ∧ w = w' := by
  have c0 := h.c0
  have c1 := h.c1
  clear h
  cases b
  · go_enter Tryd.func43, Tryd.ntmps43
    go_wp2
    go_ret
    exact ⟨ret_bool (by simp), rfl⟩
  · go_enter Tryd.func43, Tryd.ntmps43
    go_wp2
    go_ret
    exact ⟨ret_bool (by simp), rfl⟩

set_option maxRecDepth 100000 in
theorem rtext_bad (g : Nat) (s : ByteArray) (b : Bool) (w : World) (h : Rd w g s b) (ht : Calls Tryd.prog 56 #[.string s] w fun r w' => r = .returned (.tuple #[.string ⟨#[]⟩, .string ⟨#[]⟩, .int .i64 2]) ∧ ∃ n, w' = w.drewN n) :
    Calls Tryd.prog 41 #[.pointer (some ⟨g, 0, none⟩)] w fun r w' => r = .returned (.string ⟨#[]⟩) ∧ Rd w' g ⟨#[]⟩ true ∧ w.grownBy w' (some g) := by
  have c0 := h.c0
  have HT := Lib.hid ht
  have HF := Lib.hid (fun n => fail_any g s b (w.drewN n) h)
  clear h ht
  go_enter Tryd.func41, Tryd.ntmps41
  go_wp2_with fail
  refine HT.out.mono ?_
  rintro r w1 ⟨rfl, n, rfl⟩
  go_wp2_with fail
  refine (HF.out n).mono ?_
  rintro r w2 ⟨rfl, h1, h2⟩
  go_wp2
  go_ret
  exact ⟨rfl, h1, ⟨h2.os, h2.tape, h2.output, h2.size, h2.block⟩⟩

set_option maxRecDepth 100000 in
theorem method_one (w : World) :
    Calls Tryd.prog 42 #[.int .i64 1] w fun r w' => r = .returned (.func (.func 57) #[] #[]) ∧ w = w' := by
  go_enter Tryd.func42, Tryd.ntmps42
  go_wp2
  go_ret
  exact ⟨rfl, rfl⟩
end Go.Proofs.YtipigedopmgemaaDoor
end

section
namespace Go.Proofs.YtipigedopmgemaaDoor
open Go.RowKit
set_option linter.unusedVariables false
set_option linter.unusedSimpArgs false

theorem ok_3hi : Vi.Ok [3, 104, 105] 0 := ⟨by decide, by decide, fun j _ hj => absurd hj (by omega), by decide, fun h => absurd h (by decide), fun h => absurd h (by decide)⟩
theorem take_3hi (w : World) : Calls Tryd.prog 56 #[.string ⟨#[3, 104, 105]⟩] w fun r w' => r = .returned (.tuple #[.string ⟨#[]⟩, .string ⟨#[]⟩, .int .i64 2]) ∧ ∃ n, w' = w.drewN n :=
  take_short ⟨#[3, 104, 105]⟩ w (by decide) 0 ok_3hi (by decide)
theorem bd_obz {ops : Array Oper} {rest : List Oper} {op : Oper} {a : Act} {w : World} {Q : Exit → Act → World → Prop} {z : Array Value} (ho : op.op = .build 42 #[]) (hg : op.guard = none) (hz : Tryd.prog.built 42 [] = some z)
    (h : wpList Tryd.prog ops Q rest (a.put op.dst (.agg z)) w) : wpList Tryd.prog ops Q (op :: rest) a w :=
  wpList_build_as hg _ _ ho _ (by simpa using hz) h
theorem zero28 : (Tryd.prog.info? 42).map (fun i => (i.zero, i.size)) = some (some (.agg (obC noOb nilV nilV).toArray), 72) := by kernel_rfl
theorem results_cell_tmp {P : Program} {fn : Func} {p q : Tmp} {ty : TypeId} (h : fn.results = #[.cell p ty, .tmp q]) (tmps : Array Value) (w : World) (g : Nat) (t : TypeId) (cs : Array Value) (fr : Nat × Nat) (d : TypeDesc)
    (hp : tmps.getD p undef = .pointer (some ⟨g, 0, none⟩)) (hg : w.heap[g]? = some (.cells cs t fr))
    (hu : P.underlying ty = some d) (hd : (match d with | .struct _ | .array _ _ => true | _ => false) = true) (hi : (P.info? ty).map (·.size) = some cs.size) :
    (results fn tmps).run P w = .ok (.tuple #[.agg cs, tmps.getD q undef]) w := by
  have hp' : tmps[p]?.getD undef = .pointer (some ⟨g, 0, none⟩) := by simpa using hp
  simp [results, h, hp', asAddr, run_loadVar_row w g t ty cs fr d hg hu hd hi]
/-- The whole object into a block that is known. -/
theorem st_obr {ops : Array Oper} {rest : List Oper} {op : Oper} {a : Act} {w : World} {Q : Exit → Act → World → Prop} {x y : Operand} {g : Nat} {cs c : Array Value} (ho : op.op = .store 42 x y) (hx : a.eval x = .pointer (some ⟨g, 0, none⟩)) (hy : a.eval y = .agg cs) (hgd : op.guard = none)
    (hg : w.heap[g]? = some (.cells c 42)) (hc : c.size = 72) (hs : cs.size = 72) (h1 : cs.all (·.oneCell') = true)
    (h : wpList Tryd.prog ops Q rest (a.put op.dst undef) (w.setRow g cs)) : wpList Tryd.prog ops Q (op :: rest) a w :=
  wpList_store_row hgd _ x y ho g cs hx hy _ c hg (obsize hs) (by rw [hc, hs]) h1 h
theorem below_setRow {B : Nat} {a w : World} (h : Below B a w) {g : Nat} (hg : B ≤ g) (cs : Array Value) : Below B a (w.setRow g cs) := by
  refine ⟨h.os, h.tape, h.output, Nat.le_trans h.size (by simp [World.setRow]), fun k hk => ?_⟩
  rw [← h.block k hk]
  simp only [World.setRow, Array.getElem?_modify]
  rw [if_neg (by omega)]
theorem noF : ObF (obC noOb nilV nilV).toArray noOb nilV nilV := obC_F noOb nilV nilV rfl rfl rfl rfl

set_option maxHeartbeats 1000000 in
set_option maxRecDepth 100000 in
theorem decode_bad (w : World) :
    Calls Tryd.prog 21 #[.string ⟨#[1, 3, 104, 105]⟩] w fun r w' => r = .returned (.tuple #[.agg (obC noOb nilV nilV).toArray, .int .i64 2]) ∧ Below w.heap.size w w' := by
  have HS := Lib.hid noF.size
  have HO := Lib.hid noF.one
  have hz28 := (zero_of_info zero28).1
  have HBN := Lib.hid built_none
  generalize (obC noOb nilV nilV).toArray = z at HS HO hz28 HBN ⊢
  go_enter Tryd.func21, Tryd.ntmps21
  go_wp2_with fail
  have R0 : Rd ((w.alloc (.cells z 42)).alloc (.cells #[.string ⟨#[1, 3, 104, 105]⟩, .bool false] 92)) (w.heap.size + 1) ⟨#[1, 3, 104, 105]⟩ false := heap_alloc2_new _ _ _
  have E0 := Lib.hid (heap_alloc2_old w (.cells z 42) (.cells #[.string ⟨#[1, 3, 104, 105]⟩, .bool false] 92))
  have hB0 := ((Below.refl w.heap.size w).alloc (Nat.le_refl _) (.cells z 42)).alloc (by simp) (.cells #[.string ⟨#[1, 3, 104, 105]⟩, .bool false] 92)
  refine (kind_some (w.heap.size + 1) _ false _ R0 (by decide) (by decide)).mono ?_
  rintro r w1 ⟨rfl, R1, g1⟩
  have e1 : (((ByteArray.mk #[1, 3, 104, 105])[0]).toNat : Int) = 1 := rfl
  have e2 : (ByteArray.mk #[1, 3, 104, 105]).extract 1 (ByteArray.mk #[1, 3, 104, 105]).size = ⟨#[3, 104, 105]⟩ := by decide
  rw [e1]
  rw [e2] at R1
  clear e1 e2
  have E1 := Lib.hid ((g1.block w.heap.size (Array.getElem?_eq_some_iff.1 E0.out).1 (by simp)).trans E0.out)
  have hB1 := hB0.grown g1 hB0.size (fun q hq => by simp at hq; omega)
  clear R0 E0 hB0 g1
  go_wp2_with fail
  refine (rtext_bad (w.heap.size + 1) _ false _ R1 (take_3hi _)).mono ?_
  rintro r w2 ⟨rfl, R2, g2⟩
  have E2 := Lib.hid ((g2.block w.heap.size (Array.getElem?_eq_some_iff.1 E1.out).1 (by simp)).trans E1.out)
  have hB2 := hB1.grown g2 hB1.size (fun q hq => by simp at hq; omega)
  clear R1 E1 hB1 g2
  go_wp2_with fail
  refine (method_one _).mono ?_
  rintro r w3 ⟨rfl, rfl⟩
  go_wp2_with fail
  refine (ended_any (w.heap.size + 1) _ true _ R2).mono ?_
  rintro r w3 ⟨rfl, rfl⟩
  go_wp2_with (first
    | ((with_reducible refine bd_obz ?_ ?_ HBN.out ?_); rfl; rfl)
    | ((with_reducible refine st_obr (x := .tmp 2) (y := .tmp 26) ?_ ?_ ?_ ?_ E2.out HS.out HS.out HO.out ?_); rfl; rfl; rfl; rfl))
  refine bodyPost_ret (results_cell_tmp (fn := Tryd.f21) (p := 2) (q := 3) (by rfl) _ _ w.heap.size _ _ _ _ (by rfl) (setRow_heap _ _ _ _ _ _ E2.out) Tryd.underlying42 rfl (obsize HS.out)) rfl ⟨rfl, below_setRow hB2 (Nat.le_refl _) _⟩
end Go.Proofs.YtipigedopmgemaaDoor
end

section
namespace Go.Proofs.YtipigedopmgemaaDoor
open Go.RowKit
set_option linter.unusedVariables false
set_option linter.unusedSimpArgs false

def hiOb : Ob := { noOb with kind := 1, data := ⟨#[104, 105]⟩ }
theorem hi_at (w : World) : ObAt w (obC hiOb nilV nilV).toArray hiOb none none 0 0 :=
  ⟨obC_F hiOb nilV nilV rfl rfl rfl rfl, RowsAt.nil w 34, RowsAt.nil w 32, (fun _ h => by cases h), (fun _ h => by cases h), (fun _ h => by cases h), (by decide), (by decide), (by decide), (by decide)⟩
theorem hi_text : textOf ⟨#[104, 105]⟩ = ⟨#[2, 104, 105]⟩ := by
  unfold textOf
  rw [show (ByteArray.mk #[104, 105]).size = 2 from rfl, Lib.uvarint_small (by decide)]
  decide
theorem hi_enc : encS hiOb = ⟨#[1, 2, 104, 105]⟩ := by
  unfold encS
  rw [show bodyL hiOb = [104, 105] from rfl, show (ByteArray.mk ([104, 105] : List UInt8).toArray) = ⟨#[104, 105]⟩ from rfl, hi_text]
  decide
theorem hi_ok : encOk hiOb = true := by
  unfold encOk
  rw [hi_enc]
  simp [validB, foreignZ, hiOb, noOb, treeZ, commitZ, tagZ, ByteArray.toList_eq]
  decide
theorem name_ab (w : World) : Calls Tryd.prog 64 #[.string ⟨#[97, 47, 98]⟩] w fun r w' => r = .returned (.bool false) ∧ w = w' := name_any ⟨#[97, 47, 98]⟩ w (by decide)
theorem name_no (w : World) : Calls Tryd.prog 64 #[.string ⟨#[]⟩] w fun r w' => r = .returned (.bool false) ∧ w = w' := name_any ⟨#[]⟩ w (by decide)
theorem name_a (w : World) : Calls Tryd.prog 64 #[.string ⟨#[97]⟩] w fun r w' => r = .returned (.bool true) ∧ w = w' := name_any ⟨#[97]⟩ w (by decide)
theorem bd_hi {ops : Array Oper} {rest : List Oper} {op : Oper} {a : Act} {w : World} {Q : Exit → Act → World → Prop} (ho : op.op = .build 42 #[(0, .const (.int .i64 1)), (1, .const (.string ⟨#[104, 105]⟩))]) (hg : op.guard = none) (c : Array Value) (hc : (obC hiOb nilV nilV).toArray = c)
    (h : wpList Tryd.prog ops Q rest (a.put op.dst (.agg c)) w) : wpList Tryd.prog ops Q (op :: rest) a w := by
  subst hc
  exact wpList_build_as hg _ _ ho _ (by simp only [List.map_toArray, List.map_cons, List.map_nil]; exact built_blob ⟨#[104, 105]⟩) h

end Go.Proofs.YtipigedopmgemaaDoor
end
