/-
  WALKS OF LAYER 4: the document's own May (knapsackref04.May), but for trees.
-/
import Derived.Test.YtnkdimfamhmaeaaRefBody2
namespace Go.Proofs.Ytnkdimfamhmaeaa
open Go.RowKit
set_option linter.unusedVariables false
set_option linter.unusedSimpArgs false

theorem st_id2 {ops : Array Oper} {rest : List Oper} {op : Oper} {a : Act} {w : World} {Q : Exit → Act → World → Prop} {x y : Operand} {g : Nat} {l : List UInt8} {c : Array Value} (ho : op.op = .store 24 x y) (hx : a.eval x = .pointer (some ⟨g, 0, none⟩)) (hy : a.eval y = .agg (idC l).toArray) (hg : op.guard = none) (hc : c.size = 32) (hgs : g = w.heap.size) (hl : l.length = 32)
    (h : wpList Try.prog ops Q rest (a.put op.dst undef) (w.alloc (.cells (idC l).toArray 24))) : wpList Try.prog ops Q (op :: rest) a (w.alloc (.cells c 24)) := by
  subst hgs; exact st_id ho hx hy hg hc hl h
theorem ldg_idm {ops : Array Oper} {rest : List Oper} {op : Oper} {a : Act} {w : World} {Q : Exit → Act → World → Prop} {x : Operand} {l : List UInt8} {b o : Nat} (ho : op.op = .load 24 x) (hx : a.eval x = .pointer (some ⟨b, o, none⟩)) (hw : Region.wanted op (yielded ops a.tmps) = true) (hc : w.rangeAt b o (idC l)) (hl : l.length = 32)
    (h : wpList Try.prog ops Q rest (a.put op.dst (.agg (idC l).toArray)) w) : wpList Try.prog ops Q (op :: rest) a w :=
  wpList_load_mid_g hw 24 x ho b o hx _ _ hc Try.underlying24 rfl (idsize hl) h

theorem built_zid : Try.prog.built 24 [] = some (idC zId).toArray := by kernel_rfl
theorem bd_zid {ops : Array Oper} {rest : List Oper} {op : Oper} {a : Act} {w : World} {Q : Exit → Act → World → Prop} (ho : op.op = .build 24 #[]) (hg : op.guard = none)
    (h : wpList Try.prog ops Q rest (a.put op.dst (.agg (idC zId).toArray)) w) : wpList Try.prog ops Q (op :: rest) a w :=
  wpList_build_as hg _ _ ho _ (by simpa using built_zid) h
theorem less_tri : ∀ a b : List UInt8, Op.bytesLess a b = !(Op.bytesLess b a || b == a)
  | [], [] => rfl
  | [], _ :: _ => by simp [Op.bytesLess]
  | _ :: _, [] => by simp [Op.bytesLess]
  | x :: a, y :: b => by
    have ih := less_tri a b
    simp only [Op.bytesLess, ih]
    rcases Nat.lt_trichotomy x.toNat y.toNat with h | h | h
    · have h1 : x < y := UInt8.lt_iff_toNat_lt.2 h
      have h2 : ¬ y < x := fun c => by have := UInt8.lt_iff_toNat_lt.1 c; omega
      have h3 : y ≠ x := fun c => by rw [c] at h; omega
      simp [h1, h2, h3]
    · have h0 : x = y := UInt8.toNat_inj.1 h
      subst h0
      have h2 : ¬ x < x := fun c => by have := UInt8.lt_iff_toNat_lt.1 c; omega
      simp [h2]
    · have h1 : ¬ x < y := fun c => by have := UInt8.lt_iff_toNat_lt.1 c; omega
      have h2 : y < x := UInt8.lt_iff_toNat_lt.2 h
      have h3 : x ≠ y := fun c => by rw [c] at h; omega
      simp [h1, h2, h3]
theorem gtB_eq (a b : ByteArray) : gtB a b = Op.bytesLess a.toList b.toList := by rw [less_tri a.toList b.toList]; rfl
theorem gt_empty {s : ByteArray} (h : nameOk s = true) : gtB ⟨#[]⟩ s = true := by
  rw [gtB_eq]
  have h1 := (nameOk_size h).1
  have h2 : (ByteArray.mk #[]).toList = [] := by rw [ByteArray.toList_eq]
  rw [h2]
  cases hs : s.toList with
  | nil =>
    have := congrArg List.length hs
    rw [ByteArray.toList_eq, size_list] at this
    simp only [List.length_nil] at this; omega
  | cons x r => rfl
theorem isEmpty_len {α : Type} (l : List α) : l.isEmpty = decide (l.length = 0) := by cases l <;> simp

end Go.Proofs.Ytnkdimfamhmaeaa
