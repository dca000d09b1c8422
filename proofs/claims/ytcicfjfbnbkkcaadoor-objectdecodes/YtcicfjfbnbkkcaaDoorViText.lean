/-
  WALKS OF LAYER 1: Text and Take, of the program and of the document.
-/
import Derived.Test.YtcicfjfbnbkkcaaDoorViPut
namespace Go.Proofs.YtcicfjfbnbkkcaaDoor
open Go.RowKit
set_option linter.unusedVariables false

/-- The bytes of a string with its length ahead. -/
def textOf (t : ByteArray) : ByteArray := ⟨(Lib.uvarint t.size).toArray⟩ ++ t

set_option maxHeartbeats 400000 in
set_option maxRecDepth 100000 in
theorem text_any (t : ByteArray) (w : World) (ht : t.size ≤ 281474976710656) :
    Calls Tryd.prog 23 #[.string t] w fun r w' => r = .returned (.string (textOf t)) ∧ Below w.heap.size w w' := by
  have hl := Lib.uvarint_length64 (x := t.size) (by omega)
  go_enter Tryd.func23, Tryd.ntmps23
  go_wp2_with fail
  refine (put_any t.size _ (by omega)).mono ?_
  rintro e w1 ⟨rfl, hb⟩
  go_wp2_with fail
  go_ret
  exact ⟨rfl, hb⟩

set_option maxHeartbeats 400000 in
set_option maxRecDepth 100000 in
theorem reftext_any (t : ByteArray) (w : World) (ht : t.size ≤ 281474976710656) :
    Calls Tryd.prog 41 #[.string t] w fun r w' => r = .returned (.string (textOf t)) ∧ Below w.heap.size w w' := by
  have hl := Lib.uvarint_length64 (x := t.size) (by omega)
  go_enter Tryd.func41, Tryd.ntmps41
  go_wp2_with fail
  refine (refput_any t.size _ (by omega)).mono ?_
  rintro e w1 ⟨rfl, hb⟩
  go_wp2_with fail
  go_ret
  exact ⟨rfl, hb⟩

set_option maxHeartbeats 400000 in
set_option maxRecDepth 100000 in
theorem take_none (s : ByteArray) (w : World) (hs : s.size ≤ maxLen) (h : ∀ e, ¬ Vi.Ok s.data.toList e) :
    Calls Tryd.prog 27 #[.string s] w fun r w' => r = .returned (.tuple #[.string ⟨#[]⟩, .string ⟨#[]⟩, .int .i64 2]) ∧ w = w' := by
  have H := Lib.hid h
  clear h
  go_enter Tryd.func27, Tryd.ntmps27
  go_wp2_with fail
  refine (get_none s _ hs H.out).mono ?_
  rintro e w1 ⟨rfl, rfl⟩
  go_wp2_with fail
  go_ret3
  exact ⟨rfl, rfl⟩

set_option maxHeartbeats 400000 in
set_option maxRecDepth 100000 in
theorem take_short (s : ByteArray) (w : World) (hs : s.size ≤ maxLen) (e : Nat) (h : Vi.Ok s.data.toList e) (hv : s.size - (e + 1) < Vi.val (s.data.toList.take (e + 1))) :
    Calls Tryd.prog 27 #[.string s] w fun r w' => r = .returned (.tuple #[.string ⟨#[]⟩, .string ⟨#[]⟩, .int .i64 2]) ∧ ∃ n, w' = w.drewN n := by
  have hlt := h.lt
  rw [size_list] at hlt
  have H := Lib.hid h
  have hsz := hs
  unfold maxLen at hsz
  have hvl := h.val_lt
  clear h
  generalize hx : Vi.val (s.data.toList.take (e + 1)) = x at *
  have HX := Lib.hid hx
  clear hx
  go_enter Tryd.func27, Tryd.ntmps27
  go_wp2_with fail
  refine (get_ok s _ hs e H.out).mono ?_
  rintro r w1 ⟨rfl, n1, rfl⟩
  rw [HX.out]
  go_wp2_with fail
  go_ret3
  exact ⟨rfl, _, rfl⟩

set_option maxHeartbeats 400000 in
set_option maxRecDepth 100000 in
theorem take_ok (s : ByteArray) (w : World) (hs : s.size ≤ maxLen) (e : Nat) (h : Vi.Ok s.data.toList e) (hv : Vi.val (s.data.toList.take (e + 1)) ≤ s.size - (e + 1)) :
    Calls Tryd.prog 27 #[.string s] w fun r w' => r = .returned (.tuple #[.string ((s.extract (e + 1) s.size).extract 0 (Vi.val (s.data.toList.take (e + 1)))), .string ((s.extract (e + 1) s.size).extract (Vi.val (s.data.toList.take (e + 1))) (s.size - (e + 1))), .int .i64 0]) ∧ ∃ n, w' = w.drewN n := by
  have hlt := h.lt
  rw [size_list] at hlt
  have H := Lib.hid h
  have hsz := hs
  unfold maxLen at hsz
  have hvl := h.val_lt
  clear h
  generalize hx : Vi.val (s.data.toList.take (e + 1)) = x at *
  have HX := Lib.hid hx
  clear hx
  have hrs : (s.extract (e + 1) s.size).size = s.size - (e + 1) := by simp
  rw [← hrs]
  generalize hre : s.extract (e + 1) s.size = rest at *
  have HR := Lib.hid hre
  clear hre
  have hr1 : x ≤ rest.size := by omega
  have hr2 : rest.size ≤ 9223372036854775807 := by omega
  have hw3 : IntKind.u64.wrap (rest.size : Int) = (rest.size : Int) := u64_wrap_id _ (by omega) (by omega)
  clear hrs hv hvl hlt hsz
  go_enter Tryd.func27, Tryd.ntmps27
  go_wp2_with fail
  refine (get_ok s _ hs e H.out).mono ?_
  rintro r w1 ⟨rfl, n1, rfl⟩
  rw [HX.out, HR.out]
  go_wp2_with fail
  go_region
  all_goals go_wp2
  all_goals go_ret3
  all_goals exact ⟨rfl, n1 + 1, rfl⟩

end Go.Proofs.YtcicfjfbnbkkcaaDoor
