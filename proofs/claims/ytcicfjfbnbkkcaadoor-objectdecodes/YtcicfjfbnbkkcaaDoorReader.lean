/-
  WALKS OF LAYER 4: the reader: fail, kind, text, ended; bodyMethod.
-/
import Derived.Test.YtcicfjfbnbkkcaaDoorBuilt
namespace Go.Proofs.YtcicfjfbnbkkcaaDoor
open Go.RowKit
set_option linter.unusedVariables false
set_option linter.unusedSimpArgs false

/-- A reader in block g: what is left, and whether there was a fault. -/
def Rd (w : World) (g : Nat) (s : ByteArray) (b : Bool) : Prop := w.heap[g]? = some (.cells #[.string s, .bool b] 41)
theorem Rd.c0 {w : World} {g : Nat} {s : ByteArray} {b : Bool} (h : Rd w g s b) : w.cell? ⟨g, 0, none⟩ = some (.string s) := (Lib.cell_of_heap h 0)
theorem Rd.c1 {w : World} {g : Nat} {s : ByteArray} {b : Bool} (h : Rd w g s b) : w.cell? ⟨g, 1, none⟩ = some (.bool b) := (Lib.cell_of_heap h 1)
theorem Rd.f {w : World} {g : Nat} {s : ByteArray} {b : Bool} (h : Rd w g s b) (j : Nat) : w.frozen? ⟨g, j, none⟩ = false := Lib.frozen_of_heap h j
theorem Rd.set0 {w : World} {g : Nat} {s : ByteArray} {b : Bool} (h : Rd w g s b) (t : ByteArray) : Rd (w.setCell ⟨g, 0, none⟩ (.string t)) g t b := by
  have := heap_setCell_same w g 0 _ _ (.string t) h
  simpa [Rd] using this
theorem Rd.set1 {w : World} {g : Nat} {s : ByteArray} {b : Bool} (h : Rd w g s b) (c : Bool) : Rd (w.setCell ⟨g, 1, none⟩ (.bool c)) g s c := by
  have := heap_setCell_same w g 1 _ _ (.bool c) h
  simpa [Rd] using this
theorem grown_set (w : World) (g i : Nat) (v : Value) : w.grownBy (w.setCell ⟨g, i, none⟩ v) (some g) :=
  ⟨rfl, rfl, rfl, by simp [World.setCell], fun k _ hk => Below.heap_setCell _ _ _ _ (fun e => hk (by simp [e]))⟩
theorem grown_trans {a b c : World} {g : Nat} (h : a.grownBy b (some g)) (k : b.grownBy c (some g)) : a.grownBy c (some g) :=
  ⟨k.os.trans h.os, k.tape.trans h.tape, k.output.trans h.output, Nat.le_trans h.size k.size, fun i hi hne => (k.block i (Nat.lt_of_lt_of_le hi h.size) hne).trans (h.block i hi hne)⟩
theorem grown_drawn {a b : World} {g : Nat} (h : a.grownBy b (some g)) (n : Nat) : a.grownBy (b.drewN n) (some g) := ⟨h.os, h.tape, h.output, h.size, h.block⟩

theorem ret_int {k : IntKind} {a b : Int} (h : a = b) : Ending.returned (.int k a) = .returned (.int k b) := by rw [h]

set_option maxRecDepth 100000 in
theorem fail_any (g : Nat) (s : ByteArray) (b : Bool) (w : World) (h : Rd w g s b) :
    Calls Tryd.prog 26 #[.pointer (some ⟨g, 0, none⟩)] w fun r w' => r = .returned (.tuple #[]) ∧ Rd w' g ⟨#[]⟩ true ∧ w.grownBy w' (some g) := by
  have c0 := h.c0
  have f0 := h.f 0
  have h1 := h.set0 ⟨#[]⟩
  have c1 := h1.c1
  have f1 := h1.f 1
  have H2 := Lib.hid (h1.set1 true)
  clear h h1
  go_enter Tryd.func26, Tryd.ntmps26
  go_wp2
  go_end0
  exact ⟨rfl, H2.out, grown_trans (grown_set _ _ _ _) (grown_set _ _ _ _)⟩

set_option maxRecDepth 100000 in
theorem kind_none (g : Nat) (b : Bool) (w : World) (h : Rd w g ⟨#[]⟩ b) :
    Calls Tryd.prog 12 #[.pointer (some ⟨g, 0, none⟩)] w fun r w' => r = .returned (.int .i64 0) ∧ Rd w' g ⟨#[]⟩ true ∧ w.grownBy w' (some g) := by
  have c0 := h.c0
  have HF := Lib.hid (fail_any g _ b w h)
  clear h
  go_enter Tryd.func12, Tryd.ntmps12
  go_wp2_with fail
  refine HF.out.mono ?_
  rintro r w1 ⟨rfl, h1, h2⟩
  go_wp2
  go_ret
  exact ⟨rfl, h1, h2⟩

set_option maxRecDepth 100000 in
theorem kind_some (g : Nat) (s : ByteArray) (b : Bool) (w : World) (h : Rd w g s b) (h0 : 0 < s.size) (hs : s.size ≤ maxLen) :
    Calls Tryd.prog 12 #[.pointer (some ⟨g, 0, none⟩)] w fun r w' => r = .returned (.int .i64 ((s[0]).toNat : Int)) ∧ Rd w' g (s.extract 1 s.size) b ∧ w.grownBy w' (some g) := by
  unfold maxLen at hs
  have c0 := h.c0
  have f0 := h.f 0
  have hne : ¬ s.toList = [] := fun hc => by
    have := congrArg List.length hc
    rw [ByteArray.toList_eq, size_list] at this
    simp only [List.length_nil] at this; omega
  have hne2 : s.toList.isEmpty = false := by simpa using hne
  have h0' : (0 : Int) < (s.size : Int) := by omega
  have H2 := Lib.hid (h.set0 (s.extract 1 s.size))
  clear h
  go_enter Tryd.func12, Tryd.ntmps12
  go_wp2
  go_ret
  exact ⟨ret_int (by have h := (s[0]).toNat_lt; unfold wrap64; omega), H2.out, grown_set _ _ _ _⟩

set_option maxRecDepth 100000 in
theorem ended_any (g : Nat) (s : ByteArray) (b : Bool) (w : World) (h : Rd w g s b) :
    Calls Tryd.prog 15 #[.pointer (some ⟨g, 0, none⟩)] w fun r w' => r = .returned (.bool (!b && s.toList.isEmpty)) ∧ w = w' := by
  have c0 := h.c0
  have c1 := h.c1
  clear h
  cases b
  · go_enter Tryd.func15, Tryd.ntmps15
    go_wp2
    go_ret
    exact ⟨ret_bool (by simp), rfl⟩
  · go_enter Tryd.func15, Tryd.ntmps15
    go_wp2
    go_ret
    exact ⟨ret_bool (by simp), rfl⟩

set_option maxRecDepth 100000 in
theorem rtext_bad (g : Nat) (s : ByteArray) (b : Bool) (w : World) (h : Rd w g s b) (ht : Calls Tryd.prog 27 #[.string s] w fun r w' => r = .returned (.tuple #[.string ⟨#[]⟩, .string ⟨#[]⟩, .int .i64 2]) ∧ ∃ n, w' = w.drewN n) :
    Calls Tryd.prog 13 #[.pointer (some ⟨g, 0, none⟩)] w fun r w' => r = .returned (.string ⟨#[]⟩) ∧ Rd w' g ⟨#[]⟩ true ∧ w.grownBy w' (some g) := by
  have c0 := h.c0
  have HT := Lib.hid ht
  have HF := Lib.hid (fun n => fail_any g s b (w.drewN n) h)
  clear h ht
  go_enter Tryd.func13, Tryd.ntmps13
  go_wp2_with fail
  refine HT.out.mono ?_
  rintro r w1 ⟨rfl, n, rfl⟩
  go_wp2_with fail
  refine (HF.out n).mono ?_
  rintro r w2 ⟨rfl, h1, h2⟩
  go_wp2
  go_ret
  exact ⟨rfl, h1, ⟨h2.os, h2.tape, h2.output, h2.size, h2.block⟩⟩

set_option maxRecDepth 100000 in
theorem method_one (w : World) :
    Calls Tryd.prog 14 #[.int .i64 1] w fun r w' => r = .returned (.func (.func 28) #[] #[]) ∧ w = w' := by
  go_enter Tryd.func14, Tryd.ntmps14
  go_wp2
  go_ret
  exact ⟨rfl, rfl⟩
end Go.Proofs.YtcicfjfbnbkkcaaDoor
