/-
  THE WALK OF THE LAW VarintTells: whatever the number and the strings, the law answers true.
-/
import Derived.Test.YtlfoekifacinpaaWalksE
namespace Go.Proofs.Ytlfoekifacinpaa
open Go.RowKit
set_option linter.unusedVariables false

theorem extract_list (s : ByteArray) (a b : Nat) : (s.extract a b).toList = (s.data.toList.drop a).take (b - a) := by
  rw [ByteArray.toList_eq, show s.extract a b = (ByteArray.mk s.data.toList.toArray).extract a b by simp, ByteArray.extract_mk]

theorem same_text (s : ByteArray) (k x : Nat) (h : k + x ≤ s.size) : (((s.extract k s.size).extract 0 x).toList == (s.extract k (k + x)).toList) = true := by
  rw [beq_iff_eq, extract_list, extract_list, ← ByteArray.toList_eq, extract_list]
  simp only [List.drop_zero, Nat.sub_zero, Nat.add_sub_cancel_left]
  rw [List.take_take, Nat.min_eq_left (by omega)]

theorem same_rest (s : ByteArray) (k x : Nat) (h : k + x ≤ s.size) : (((s.extract k s.size).extract x (s.size - k)).toList == (s.extract (k + x) s.size).toList) = true := by
  rw [beq_iff_eq, extract_list, extract_list, ← ByteArray.toList_eq, extract_list]
  rw [List.drop_take, List.take_take, List.drop_drop]
  congr 1
  omega

set_option maxHeartbeats 1000000 in
set_option maxRecDepth 100000 in
theorem tells_none (n : Nat) (s t : ByteArray) (w : World) (hn : n < 18446744073709551616) (hs : s.size ≤ maxLen) (ht : t.size ≤ 281474976710656) (h : ∀ e, ¬ Vi.Ok s.data.toList e) :
    Calls Try.prog 3 #[.int .u64 n, .string s, .string t] w fun r w' => r = .returned (.bool true) ∧ Below w.heap.size w w' := by
  have H := Lib.hid h
  clear h
  go_enter Try.func3, Try.ntmps3
  go_wp2_with fail
  refine (put_any n _ hn).mono ?_
  rintro r w1 ⟨rfl, hb1⟩
  go_wp2_with fail
  refine (refput_any n _ hn).mono ?_
  rintro r w2 ⟨rfl, hb2⟩
  go_wp2_with fail
  refine (text_any t _ ht).mono ?_
  rintro r w3 ⟨rfl, hb3⟩
  go_wp2_with fail
  refine (reftext_any t _ ht).mono ?_
  rintro r w4 ⟨rfl, hb4⟩
  go_wp2_with fail
  refine (get_none s _ hs H.out).mono ?_
  rintro r w5 ⟨rfl, rfl⟩
  go_wp2_with fail
  refine (refget_none s _ hs H.out).mono ?_
  rintro r w5 ⟨rfl, rfl⟩
  go_wp2_with fail
  refine (take_none s _ hs H.out).mono ?_
  rintro r w5 ⟨rfl, rfl⟩
  go_wp2_with fail
  refine (reftake_none s _ hs H.out).mono ?_
  rintro r w5 ⟨rfl, rfl⟩
  go_wp2_with fail
  refine (knows_true _).mono ?_
  rintro r w5 ⟨rfl, hb5⟩
  go_wp2_with fail
  go_ret
  exact ⟨rfl, below_step (below_step (below_step (below_step hb1 hb2) hb3) hb4) hb5⟩

set_option maxHeartbeats 1000000 in
set_option maxRecDepth 100000 in
theorem tells_short (n : Nat) (s t : ByteArray) (w : World) (hn : n < 18446744073709551616) (hs : s.size ≤ maxLen) (ht : t.size ≤ 281474976710656) (e : Nat) (h : Vi.Ok s.data.toList e) (hv : s.size - (e + 1) < Vi.val (s.data.toList.take (e + 1))) :
    Calls Try.prog 3 #[.int .u64 n, .string s, .string t] w fun r w' => r = .returned (.bool true) ∧ Below w.heap.size w w' := by
  have hlt := h.lt
  rw [size_list] at hlt
  have hsz := hs
  unfold maxLen at hsz
  have H := Lib.hid h
  have HV := Lib.hid hv
  clear h
  generalize hx : Vi.val (s.data.toList.take (e + 1)) = x at *
  have HX := Lib.hid hx
  clear hx
  have hk0 : ((e : Int) + 1 == 0) = false := beq_eq_false_iff_ne.2 (by omega)
  clear hv
  go_enter Try.func3, Try.ntmps3
  go_wp2_with fail
  refine (put_any n _ hn).mono ?_
  rintro r w1 ⟨rfl, hb1⟩
  go_wp2_with fail
  refine (refput_any n _ hn).mono ?_
  rintro r w2 ⟨rfl, hb2⟩
  go_wp2_with fail
  refine (text_any t _ ht).mono ?_
  rintro r w3 ⟨rfl, hb3⟩
  go_wp2_with fail
  refine (reftext_any t _ ht).mono ?_
  rintro r w4 ⟨rfl, hb4⟩
  go_wp2_with fail
  refine (get_ok s _ hs e H.out).mono ?_
  rintro r w5 ⟨rfl, n5, rfl⟩
  rw [HX.out]
  go_wp2_with fail
  refine (refget_ok s _ hs e H.out).mono ?_
  rintro r w5 ⟨rfl, rfl⟩
  rw [HX.out]
  go_wp2_with fail
  refine (take_short s _ hs e H.out (by rw [HX.out]; exact HV.out)).mono ?_
  rintro r w5 ⟨rfl, n6, rfl⟩
  go_wp2_with fail
  refine (reftake_short s _ hs e H.out (by rw [HX.out]; exact HV.out)).mono ?_
  rintro r w5 ⟨rfl, rfl⟩
  go_wp2_with fail
  refine (knows_true _).mono ?_
  rintro r w5 ⟨rfl, hb5⟩
  go_wp2_with fail
  all_goals go_ret
  all_goals exact ⟨rfl, below_step (below_step (below_step (below_step (below_step hb1 hb2) hb3) hb4) (below_drawn _ (n5 + n6))) hb5⟩

set_option maxHeartbeats 1000000 in
set_option maxRecDepth 100000 in
theorem tells_ok (n : Nat) (s t : ByteArray) (w : World) (hn : n < 18446744073709551616) (hs : s.size ≤ maxLen) (ht : t.size ≤ 281474976710656) (e : Nat) (h : Vi.Ok s.data.toList e) (hv : Vi.val (s.data.toList.take (e + 1)) ≤ s.size - (e + 1)) :
    Calls Try.prog 3 #[.int .u64 n, .string s, .string t] w fun r w' => r = .returned (.bool true) ∧ Below w.heap.size w w' := by
  have hlt := h.lt
  rw [size_list] at hlt
  have hsz := hs
  unfold maxLen at hsz
  have H := Lib.hid h
  have HV := Lib.hid hv
  clear h
  generalize hx : Vi.val (s.data.toList.take (e + 1)) = x at *
  have HX := Lib.hid hx
  clear hx
  have hk0 : ((e : Int) + 1 == 0) = false := beq_eq_false_iff_ne.2 (by omega)
  have hm0 : ((e : Int) + 1 + (x : Int) == 0) = false := beq_eq_false_iff_ne.2 (by omega)
  have hle : (e : Int) + 1 + (x : Int) ≤ (s.size : Int) := by omega
  have het := same_text s (e + 1) x (by omega)
  have her := same_rest s (e + 1) x (by omega)
  clear hv
  go_enter Try.func3, Try.ntmps3
  go_wp2_with fail
  refine (put_any n _ hn).mono ?_
  rintro r w1 ⟨rfl, hb1⟩
  go_wp2_with fail
  refine (refput_any n _ hn).mono ?_
  rintro r w2 ⟨rfl, hb2⟩
  go_wp2_with fail
  refine (text_any t _ ht).mono ?_
  rintro r w3 ⟨rfl, hb3⟩
  go_wp2_with fail
  refine (reftext_any t _ ht).mono ?_
  rintro r w4 ⟨rfl, hb4⟩
  go_wp2_with fail
  refine (get_ok s _ hs e H.out).mono ?_
  rintro r w5 ⟨rfl, n5, rfl⟩
  rw [HX.out]
  go_wp2_with fail
  refine (refget_ok s _ hs e H.out).mono ?_
  rintro r w5 ⟨rfl, rfl⟩
  rw [HX.out]
  go_wp2_with fail
  refine (take_ok s _ hs e H.out (by rw [HX.out]; exact HV.out)).mono ?_
  rintro r w5 ⟨rfl, n6, rfl⟩
  rw [HX.out]
  go_wp2_with fail
  refine (reftake_ok s _ hs e H.out (by rw [HX.out]; exact HV.out)).mono ?_
  rintro r w5 ⟨rfl, rfl⟩
  rw [HX.out]
  go_wp2_with fail
  refine (knows_true _).mono ?_
  rintro r w5 ⟨rfl, hb5⟩
  go_wp2_with fail
  all_goals go_ret
  all_goals exact ⟨rfl, below_step (below_step (below_step (below_step (below_step hb1 hb2) hb3) hb4) (below_drawn _ (n5 + n6))) hb5⟩

theorem tells_any (n : Nat) (s t : ByteArray) (w : World) (hn : n < 18446744073709551616) (hs : s.size ≤ maxLen) (ht : t.size ≤ 281474976710656) :
    Calls Try.prog 3 #[.int .u64 n, .string s, .string t] w fun r w' => r = .returned (.bool true) ∧ Below w.heap.size w w' := by
  by_cases h : ∃ e, Vi.Ok s.data.toList e
  · obtain ⟨e, h⟩ := h
    by_cases hv : Vi.val (s.data.toList.take (e + 1)) ≤ s.size - (e + 1)
    · exact tells_ok n s t w hn hs ht e h hv
    · exact tells_short n s t w hn hs ht e h (by omega)
  · exact tells_none n s t w hn hs ht (fun e he => h ⟨e, he⟩)

end Go.Proofs.Ytlfoekifacinpaa
