/-
  LAYER 12: what a heap is (mathematics).
-/
import Derived.Lib.Hide
import Derived.Test.YtkcjhkfelaplkaaGreatDoorQk
import Derived.Shelf.SlSortCmp.KitK
import Derived.Test.YtkcjhkfelaplkaaGreatDoorQa
set_option linter.unusedVariables false
set_option linter.unusedSimpArgs false
set_option maxHeartbeats 8000000
set_option maxRecDepth 100000
section
namespace Go.Proofs.YtkcjhkfelaplkaaGreatDoor
end Go.Proofs.YtkcjhkfelaplkaaGreatDoor
end
section
namespace Go.Proofs.YtkcjhkfelaplkaaGreatDoor
end Go.Proofs.YtkcjhkfelaplkaaGreatDoor
end
section
namespace Go.Proofs.YtkcjhkfelaplkaaGreatDoor
open Go.RowKit Go.Sort
structure Cd where
 id : List UInt8
 time : Nat
 par : Value
 idl : id.length = 32
 tml : time < 4294967296
 parl : par.oneCell' = true
instance : Inhabited Cd := ⟨⟨zId, 0, .slice none 0 0, by decide, by decide, rfl⟩⟩
theorem splice_app {α : Type} (A X c : List α) (n : Nat) : splice (A ++ X) (A.length + n) c = A ++ splice X n c := by
 unfold splice
 rw [List.take_length_add_append, show A.length + n + c.length = A.length + (n + c.length) by omega, List.drop_length_add_append, List.append_assoc]
theorem flatK_set {k : Nat} : ∀ (C : List (List Value)), (∀ c ∈ C, c.length = k) → ∀ (i : Nat) (c : List Value), i < C.length → c.length = k → (C.set i c).flatten = splice C.flatten (i * k) c
 | [], _, i, c, h, _ => by simp at h
 | a :: r, hk, 0, c, _, hc => by
   have ha : a.length = k := hk a (by simp)
   simp [splice, hc, ← ha]
 | a :: r, hk, i + 1, c, h, hc => by
   have ha : a.length = k := hk a (by simp)
   rw [List.set_cons_succ, List.flatten_cons, List.flatten_cons, flatK_set r (fun x hx => hk x (by simp [hx])) i c (by simpa using h) hc, show (i + 1) * k = a.length + i * k by rw [Nat.succ_mul]; omega, splice_app]
theorem splice_take {α : Type} (L vs : List α) (o m : Nat) (h : o + vs.length ≤ m) (hm : m ≤ L.length) : (splice L o vs).take m = splice (L.take m) o vs := by
 unfold splice
 have hl : (L.take o).length = o := by rw [List.length_take, Nat.min_eq_left (by omega)]
 have h1 : (L.take o).take m = L.take o := List.take_of_length_le (by omega)
 have h2 : vs.take (m - o) = vs := List.take_of_length_le (by omega)
 rw [List.take_append, hl, h1, List.take_append, h2, List.take_take, Nat.min_eq_left (by omega), List.drop_take, show m - o - vs.length = m - (o + vs.length) by omega]
theorem splice_length {α : Type} (L vs : List α) (o : Nat) (h : o + vs.length ≤ L.length) : (splice L o vs).length = L.length := by
 unfold splice; simp; omega
end Go.Proofs.YtkcjhkfelaplkaaGreatDoor
end
section
namespace Go.Proofs.YtkcjhkfelaplkaaGreatDoor
open Go.RowKit Go.Sort
end Go.Proofs.YtkcjhkfelaplkaaGreatDoor
end
