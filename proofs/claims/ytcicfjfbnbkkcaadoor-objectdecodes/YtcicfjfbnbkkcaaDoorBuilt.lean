/-
  LAYER 4: links, entries and objects, built out of their parts.
-/
import Derived.Test.YtcicfjfbnbkkcaaDoorRefBody2
import Derived.Great.Walk
namespace Go.Proofs.YtcicfjfbnbkkcaaDoor
open Go.RowKit
set_option linter.unusedVariables false
set_option linter.unusedSimpArgs false

set_option maxRecDepth 100000 in
theorem len32 {l : List UInt8} (h : l.length = 32) : ∃ x0 x1 x2 x3 x4 x5 x6 x7 x8 x9 x10 x11 x12 x13 x14 x15 x16 x17 x18 x19 x20 x21 x22 x23 x24 x25 x26 x27 x28 x29 x30 x31 : UInt8, l = [x0, x1, x2, x3, x4, x5, x6, x7, x8, x9, x10, x11, x12, x13, x14, x15, x16, x17, x18, x19, x20, x21, x22, x23, x24, x25, x26, x27, x28, x29, x30, x31] := by
  rcases l with _ | ⟨x0, l⟩
  · simp at h
  rcases l with _ | ⟨x1, l⟩
  · simp at h
  rcases l with _ | ⟨x2, l⟩
  · simp at h
  rcases l with _ | ⟨x3, l⟩
  · simp at h
  rcases l with _ | ⟨x4, l⟩
  · simp at h
  rcases l with _ | ⟨x5, l⟩
  · simp at h
  rcases l with _ | ⟨x6, l⟩
  · simp at h
  rcases l with _ | ⟨x7, l⟩
  · simp at h
  rcases l with _ | ⟨x8, l⟩
  · simp at h
  rcases l with _ | ⟨x9, l⟩
  · simp at h
  rcases l with _ | ⟨x10, l⟩
  · simp at h
  rcases l with _ | ⟨x11, l⟩
  · simp at h
  rcases l with _ | ⟨x12, l⟩
  · simp at h
  rcases l with _ | ⟨x13, l⟩
  · simp at h
  rcases l with _ | ⟨x14, l⟩
  · simp at h
  rcases l with _ | ⟨x15, l⟩
  · simp at h
  rcases l with _ | ⟨x16, l⟩
  · simp at h
  rcases l with _ | ⟨x17, l⟩
  · simp at h
  rcases l with _ | ⟨x18, l⟩
  · simp at h
  rcases l with _ | ⟨x19, l⟩
  · simp at h
  rcases l with _ | ⟨x20, l⟩
  · simp at h
  rcases l with _ | ⟨x21, l⟩
  · simp at h
  rcases l with _ | ⟨x22, l⟩
  · simp at h
  rcases l with _ | ⟨x23, l⟩
  · simp at h
  rcases l with _ | ⟨x24, l⟩
  · simp at h
  rcases l with _ | ⟨x25, l⟩
  · simp at h
  rcases l with _ | ⟨x26, l⟩
  · simp at h
  rcases l with _ | ⟨x27, l⟩
  · simp at h
  rcases l with _ | ⟨x28, l⟩
  · simp at h
  rcases l with _ | ⟨x29, l⟩
  · simp at h
  rcases l with _ | ⟨x30, l⟩
  · simp at h
  rcases l with _ | ⟨x31, l⟩
  · simp at h
  rcases l with _ | ⟨y, l⟩
  · exact ⟨_, _, _, _, _, _, _, _, _, _, _, _, _, _, _, _, _, _, _, _, _, _, _, _, _, _, _, _, _, _, _, _, rfl⟩
  · simp at h

set_option maxRecDepth 100000 in
theorem built_en (n : ByteArray) (k : Int) (l : List UInt8) (h : l.length = 32) : Tryd.prog.built 52 [(0, .string n), (1, .int .i64 k), (2, .agg (idC l).toArray)] = some (enC ⟨n, k, l⟩).toArray := by
  obtain ⟨x0, x1, x2, x3, x4, x5, x6, x7, x8, x9, x10, x11, x12, x13, x14, x15, x16, x17, x18, x19, x20, x21, x22, x23, x24, x25, x26, x27, x28, x29, x30, x31, rfl⟩ := len32 h
  kernel_rfl
set_option maxRecDepth 100000 in
theorem builtS_en (n : ByteArray) (k : Int) (l : List UInt8) (h : l.length = 32) : Tryd.prog.builtSlice 52 1 [(0, .agg (enC ⟨n, k, l⟩).toArray)] = some (enC ⟨n, k, l⟩).toArray := by
  obtain ⟨x0, x1, x2, x3, x4, x5, x6, x7, x8, x9, x10, x11, x12, x13, x14, x15, x16, x17, x18, x19, x20, x21, x22, x23, x24, x25, x26, x27, x28, x29, x30, x31, rfl⟩ := len32 h
  kernel_rfl
set_option maxRecDepth 100000 in
theorem builtS_id (l : List UInt8) (h : l.length = 32) : Tryd.prog.builtSlice 25 1 [(0, .agg (idC l).toArray)] = some (idC l).toArray := by
  obtain ⟨x0, x1, x2, x3, x4, x5, x6, x7, x8, x9, x10, x11, x12, x13, x14, x15, x16, x17, x18, x19, x20, x21, x22, x23, x24, x25, x26, x27, x28, x29, x30, x31, rfl⟩ := len32 h
  kernel_rfl

/-- The cells of an object. -/
def obC (o : Ob) (ev pv : Value) : List Value := .int .i64 o.kind :: .string o.data :: ev :: (idC o.tree ++ (pv :: .int .u32 (o.time : Int) :: .string o.text :: (idC o.target ++ [.int .i64 o.of, .string o.name])))
theorem obC_F (o : Ob) (ev pv : Value) (h1 : o.tree.length = 32) (h2 : o.target.length = 32) (he : ev.oneCell' = true) (hp : pv.oneCell' = true) : ObF (obC o ev pv).toArray o ev pv := by
  have e1 : (idC o.tree).length = 32 := by rw [idC_length, h1]
  have e2 : (idC o.target).length = 32 := by rw [idC_length, h2]
  have g : ∀ j, (obC o ev pv).toArray[35 + j]? = (pv :: .int .u32 (o.time : Int) :: .string o.text :: (idC o.target ++ [.int .i64 o.of, .string o.name]))[j]? := fun j => by
    rw [List.getElem?_toArray, show 35 + j = (32 + j) + 1 + 1 + 1 by omega]
    simp only [obC, List.getElem?_cons_succ]
    rw [List.getElem?_append_right (by omega), e1]
    congr 1; omega
  have g2 : ∀ j, (obC o ev pv).toArray[70 + j]? = ([.int .i64 o.of, .string o.name] : List Value)[j]? := fun j => by
    rw [show 70 + j = 35 + (35 + j) by omega, g, show 35 + j = (32 + j) + 1 + 1 + 1 by omega]
    simp only [List.getElem?_cons_succ]
    rw [List.getElem?_append_right (by omega), e2]
    congr 1; omega
  refine ⟨rfl, rfl, rfl, fun j v hv => ?_, g 0, g 1, g 2, fun j v hv => ?_, g2 0, g2 1, h1, h2, ?_, ?_⟩
  · have hj := (List.getElem?_eq_some_iff.1 hv).1
    rw [List.getElem?_toArray, show 3 + j = j + 1 + 1 + 1 by omega]
    simp only [obC, List.getElem?_cons_succ]
    rw [List.getElem?_append_left hj]; exact hv
  · have hj := (List.getElem?_eq_some_iff.1 hv).1
    rw [show 38 + j = 35 + (j + 1 + 1 + 1) by omega, g]
    simp only [List.getElem?_cons_succ]
    rw [List.getElem?_append_left hj]; exact hv
  · simp [obC, e1, e2]
  · refine all_oneCell_toArray (fun v hv => ?_)
    simp only [obC, List.mem_cons, List.mem_append, List.not_mem_nil, or_false] at hv
    rcases hv with rfl | rfl | rfl | h | rfl | rfl | rfl | h | rfl | rfl
    all_goals first | rfl | exact he | exact hp | exact idC_one _ _ h
def noOb : Ob := ⟨0, ⟨#[]⟩, [], zId, [], 0, ⟨#[]⟩, zId, 0, ⟨#[]⟩⟩
def nilV : Value := .slice none 0 0
set_option maxRecDepth 100000 in
theorem built_none : Tryd.prog.built 29 [] = some (obC noOb nilV nilV).toArray := by kernel_rfl
set_option maxRecDepth 100000 in
theorem built_blob (d : ByteArray) : Tryd.prog.built 29 [(0, .int .i64 1), (1, .string d)] = some (obC { noOb with kind := 1, data := d } nilV nilV).toArray := by kernel_rfl
set_option maxRecDepth 100000 in
theorem built_tree (ev : Value) (ao : Option Addr) (n c : Nat) (h : ev = .slice ao n c) (es : List En) : Tryd.prog.built 29 [(0, .int .i64 2), (2, ev)] = some (obC { noOb with kind := 2, ents := es } ev nilV).toArray := by
  subst h; kernel_rfl
set_option maxRecDepth 100000 in
theorem built_commit (l : List UInt8) (h : l.length = 32) (pv : Value) (bo : Option Addr) (n c : Nat) (hp : pv = .slice bo n c) (ps : List (List UInt8)) (ti : Nat) (te : ByteArray) : Tryd.prog.built 29 [(0, .int .i64 3), (3, .agg (idC l).toArray), (4, pv), (5, .int .u32 (ti : Int)), (6, .string te)] = some (obC { noOb with kind := 3, tree := l, pars := ps, time := ti, text := te } nilV pv).toArray := by
  subst hp
  obtain ⟨x0, x1, x2, x3, x4, x5, x6, x7, x8, x9, x10, x11, x12, x13, x14, x15, x16, x17, x18, x19, x20, x21, x22, x23, x24, x25, x26, x27, x28, x29, x30, x31, rfl⟩ := len32 h
  kernel_rfl
set_option maxRecDepth 100000 in
theorem built_tag (l : List UInt8) (h : l.length = 32) (f : Int) (nm : ByteArray) : Tryd.prog.built 29 [(0, .int .i64 4), (8, .int .i64 f), (7, .agg (idC l).toArray), (9, .string nm)] = some (obC { noOb with kind := 4, target := l, of := f, name := nm } nilV nilV).toArray := by
  obtain ⟨x0, x1, x2, x3, x4, x5, x6, x7, x8, x9, x10, x11, x12, x13, x14, x15, x16, x17, x18, x19, x20, x21, x22, x23, x24, x25, x26, x27, x28, x29, x30, x31, rfl⟩ := len32 h
  kernel_rfl
end Go.Proofs.YtcicfjfbnbkkcaaDoor
