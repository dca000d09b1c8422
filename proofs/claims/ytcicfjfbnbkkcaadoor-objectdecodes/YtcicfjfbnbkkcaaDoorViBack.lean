/-
  WALKS OF LAYER 1, taken up in layer 4: what was put is got, a text that was written is taken.
-/
import Derived.Test.YtcicfjfbnbkkcaaDoorViText
namespace Go.Proofs.YtcicfjfbnbkkcaaDoor
open Go.RowKit
set_option linter.unusedVariables false

theorem below_step {w w1 w2 : World} (h1 : Below w.heap.size w w1) (h2 : Below w1.heap.size w1 w2) : Below w.heap.size w w2 := h1.trans (h2.mono h1.size)
theorem below_drawn (w : World) (n : Nat) : Below w.heap.size w (w.drewN n) := below_drewN (Below.refl _ _) n

theorem extract_list (s : ByteArray) (a b : Nat) : (s.extract a b).toList = (s.data.toList.drop a).take (b - a) := by
  rw [ByteArray.toList_eq, show s.extract a b = (ByteArray.mk s.data.toList.toArray).extract a b by simp, ByteArray.extract_mk]

theorem bytes_ext {a b : ByteArray} (h : a.data.toList = b.data.toList) : a = b := by
  cases a with | mk x => cases b with | mk y => simp only [Array.toList_inj] at h; subst h; rfl

theorem list_append (a b : ByteArray) : (a ++ b).data.toList = a.data.toList ++ b.data.toList := by
  rw [ByteArray.data_append]; simp

theorem extract_data (s : ByteArray) (a b : Nat) : (s.extract a b).data.toList = (s.data.toList.drop a).take (b - a) := by
  rw [← ByteArray.toList_eq, extract_list]

theorem put_list (n : Nat) (s : ByteArray) : (ByteArray.mk (Lib.uvarint n).toArray ++ s).data.toList = Lib.uvarint n ++ s.data.toList := by
  rw [list_append]

/-- What was put is got, whatever stands behind. -/
theorem get_put (n : Nat) (s : ByteArray) (w : World) (hn : n < 18446744073709551616) (hs : s.size ≤ 562949953421312) :
    Calls Tryd.prog 53 #[.string (⟨(Lib.uvarint n).toArray⟩ ++ s)] w fun r w' => r = .returned (.tuple #[.int .u64 n, .string s, .int .i64 0]) ∧ ∃ k, w' = w.drewN k := by
  have hl := Lib.uvarint_length64 hn
  have hp := Lib.uvarint_pos n
  have hsz : (ByteArray.mk (Lib.uvarint n).toArray ++ s).size = (Lib.uvarint n).length + s.size := by rw [← size_list, put_list]; simp
  have hok : Vi.Ok (ByteArray.mk (Lib.uvarint n).toArray ++ s).data.toList ((Lib.uvarint n).length - 1) := by rw [put_list]; exact Vi.ok_put n hn _
  refine (get_ok _ w (by unfold maxLen; omega) _ hok).mono ?_
  rintro r w' ⟨rfl, h⟩
  refine ⟨ret_tuple3 (val_int ?_) (val_str (bytes_ext ?_)) rfl, h⟩
  · rw [put_list, Vi.val_put]
  · rw [extract_data, put_list, hsz, show (Lib.uvarint n).length - 1 + 1 = (Lib.uvarint n).length by omega, List.drop_left' rfl, List.take_of_length_le (by simp)]

/-- A text that was written is taken, whatever stands behind. -/
theorem take_text (t s : ByteArray) (w : World) (ht : t.size ≤ 281474976710656) (hs : s.size ≤ 281474976710656) :
    Calls Tryd.prog 27 #[.string (textOf t ++ s)] w fun r w' => r = .returned (.tuple #[.string t, .string s, .int .i64 0]) ∧ ∃ k, w' = w.drewN k := by
  have hn : t.size < 18446744073709551616 := by omega
  have hl := Lib.uvarint_length64 hn
  have hp := Lib.uvarint_pos t.size
  have hlist : (textOf t ++ s).data.toList = Lib.uvarint t.size ++ (t.data.toList ++ s.data.toList) := by
    unfold textOf; rw [list_append, put_list, List.append_assoc]
  have hsz : (textOf t ++ s).size = (Lib.uvarint t.size).length + (t.size + s.size) := by
    rw [← size_list, hlist]; simp
  have hok : Vi.Ok (textOf t ++ s).data.toList ((Lib.uvarint t.size).length - 1) := by rw [hlist]; exact Vi.ok_put _ hn _
  have hval : Vi.val ((textOf t ++ s).data.toList.take ((Lib.uvarint t.size).length - 1 + 1)) = t.size := by rw [hlist, Vi.val_put]
  refine (take_ok _ w (by unfold maxLen; omega) _ hok (by rw [hval]; omega)).mono ?_
  rintro r w' ⟨rfl, h⟩
  have hdrop : ((textOf t ++ s).extract ((Lib.uvarint t.size).length - 1 + 1) (textOf t ++ s).size).data.toList = t.data.toList ++ s.data.toList := by
    rw [extract_data, hlist, hsz, show (Lib.uvarint t.size).length - 1 + 1 = (Lib.uvarint t.size).length by omega, List.drop_left' rfl, List.take_of_length_le (by simp)]
  refine ⟨ret_tuple3 (val_str (bytes_ext ?_)) (val_str (bytes_ext ?_)) rfl, h⟩
  · rw [extract_data, hdrop, hval, List.drop_zero, Nat.sub_zero, List.take_left' (by simp)]
  · rw [extract_data, hdrop, hval, hsz, List.drop_left' (by simp), List.take_of_length_le (by simp; omega)]

theorem got_put {s : ByteArray} {e : Nat} (h : Vi.Ok s.data.toList e) :
    ((ByteArray.mk (Lib.uvarint (Vi.val (s.data.toList.take (e + 1)))).toArray ++ s.extract (e + 1) s.size).toList == s.toList) = true := by
  rw [beq_iff_eq, ByteArray.toList_eq, ByteArray.toList_eq, put_list, h.back, extract_data, List.take_of_length_le (l := List.drop _ _) (by simp), List.take_append_drop]

theorem took_text {s : ByteArray} {e : Nat} (h : Vi.Ok s.data.toList e) (hv : Vi.val (s.data.toList.take (e + 1)) ≤ s.size - (e + 1)) :
    ((textOf ((s.extract (e + 1) s.size).extract 0 (Vi.val (s.data.toList.take (e + 1)))) ++ (s.extract (e + 1) s.size).extract (Vi.val (s.data.toList.take (e + 1))) (s.size - (e + 1))).toList == s.toList) = true := by
  have hb := h.back
  have hlt := h.lt
  rw [size_list] at hlt
  generalize Vi.val (s.data.toList.take (e + 1)) = x at *
  have hd : (s.extract (e + 1) s.size).data.toList = s.data.toList.drop (e + 1) := by rw [extract_data, List.take_of_length_le (by simp)]
  have hsz : ((s.extract (e + 1) s.size).extract 0 x).size = x := by
    rw [← size_list, extract_data, hd]; simp; omega
  have h1 : ((s.extract (e + 1) s.size).extract 0 x).data.toList = (s.data.toList.drop (e + 1)).take x := by
    rw [extract_data (s.extract (e + 1) s.size), hd, List.drop_zero, Nat.sub_zero]
  have h2 : ((s.extract (e + 1) s.size).extract x (s.size - (e + 1))).data.toList = (s.data.toList.drop (e + 1)).drop x := by
    rw [extract_data (s.extract (e + 1) s.size), hd, List.take_of_length_le (by simp; omega)]
  rw [beq_iff_eq, ByteArray.toList_eq, ByteArray.toList_eq]
  unfold textOf
  rw [list_append, put_list, hsz, hb, h1, h2, List.append_assoc, List.take_append_drop, List.take_append_drop]

theorem text_size (t : ByteArray) (ht : t.size ≤ 281474976710656) : (textOf t).size ≤ 281474976710666 := by
  have hl := Lib.uvarint_length64 (x := t.size) (by omega)
  unfold textOf
  rw [← size_list, put_list]; simp; omega

end Go.Proofs.YtcicfjfbnbkkcaaDoor
