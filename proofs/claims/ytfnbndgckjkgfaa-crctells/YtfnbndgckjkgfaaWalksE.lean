/-
  WALKS OF LAYER 3: the document's own Seal and Open (knapsackref03).
-/
import Derived.Test.YtfnbndgckjkgfaaWalksD
import Derived.Test.YtfnbndgckjkgfaaByte
namespace Go.Proofs.Ytfnbndgckjkgfaa
open Go.RowKit
set_option linter.unusedVariables false
set_option linter.unusedSimpArgs false
open Cr (Wd)

theorem conv_sum (w : World) (x : Wd) : (convert 32 9 (.slice (some ⟨w.heap.size, 0, none⟩) 4 4)).run Try.prog (w.alloc (.cells #[.int .u8 ((x.toNat : Int) % (256 : Int)), .int .u8 ((x.toNat : Int) / (256 : Int) % (256 : Int)), .int .u8 ((x.toNat : Int) / (65536 : Int) % (256 : Int)), .int .u8 ((x.toNat : Int) / (16777216 : Int))] 5)) = .ok (.string ⟨#[Cr.b4 x.toNat 0, Cr.b4 x.toNat 1, Cr.b4 x.toNat 2, Cr.b4 x.toNat 3]⟩) (w.alloc (.cells #[.int .u8 ((x.toNat : Int) % (256 : Int)), .int .u8 ((x.toNat : Int) / (256 : Int) % (256 : Int)), .int .u8 ((x.toNat : Int) / (65536 : Int) % (256 : Int)), .int .u8 ((x.toNat : Int) / (16777216 : Int))] 5)) := by
  have hx := w_lt x
  have e0 := b4_eq x.toNat 0
  have e1 := b4_eq x.toNat 1
  have e2 := b4_eq x.toNat 2
  have e3 := b4_eq x.toNat 3
  generalize x.toNat = y at *
  simp at e0 e1 e2 e3
  have h0 : (y : Int) % (256 : Int) = ((Cr.b4 y 0).toNat : Int) := by rw [← e0]
  have h1 : (y : Int) / (256 : Int) % (256 : Int) = ((Cr.b4 y 1).toNat : Int) := by rw [← e1]
  have h2 : (y : Int) / (65536 : Int) % (256 : Int) = ((Cr.b4 y 2).toNat : Int) := by rw [← e2]
  have h3 : (y : Int) / (16777216 : Int) = ((Cr.b4 y 3).toNat : Int) := by rw [← e3]; omega
  rw [h0, h1, h2, h3]
  exact conv_four (w.alloc _) w.heap.size [Cr.b4 y 0, Cr.b4 y 1, Cr.b4 y 2, Cr.b4 y 3] 5 #[.int .u8 ((Cr.b4 y 0).toNat : Int), .int .u8 ((Cr.b4 y 1).toNat : Int), .int .u8 ((Cr.b4 y 2).toNat : Int), .int .u8 ((Cr.b4 y 3).toNat : Int)] rfl (heap_alloc_new w _) 4 4 rfl

set_option maxHeartbeats 400000 in
set_option maxRecDepth 100000 in
theorem refseal_any (s : ByteArray) (w : World) (hs : s.size ≤ 400) :
    Calls Try.prog 11 #[.string s] w fun r w' => r = .returned (.string (sealed s)) ∧ Below w.heap.size w w' := by
  have HS := Lib.hid (show sealed s = s ++ ⟨#[Cr.b4 (Cr.sum s.data.toList).toNat 0, Cr.b4 (Cr.sum s.data.toList).toNat 1, Cr.b4 (Cr.sum s.data.toList).toNat 2, Cr.b4 (Cr.sum s.data.toList).toNat 3]⟩ from rfl)
  go_enter Try.func11, Try.ntmps11
  go_wp2_with fail
  refine (refsum_any s _ hs).mono ?_
  rintro e w1 ⟨rfl, hb⟩
  generalize Cr.sum s.data.toList = x at *
  have hcv := conv_sum w1 x
  go_wp2_with fail
  go_ret
  exact ⟨ret_str (by rw [HS.out]), hb.alloc hb.size _⟩

theorem seal_parts (s : ByteArray) (h4 : 4 ≤ s.size) : sealed (s.extract 0 (s.size - 4)) = s ↔ s.extract (s.size - 4) s.size = sumS (s.extract 0 (s.size - 4)).data.toList := by
  have e1 : (s.extract 0 (s.size - 4)).data.toList = s.data.toList.take (s.size - 4) := by rw [extract_data]; simp
  have e2 : (s.extract (s.size - 4) s.size).data.toList = s.data.toList.drop (s.size - 4) := by
    rw [extract_data, List.take_of_length_le (by simp)]
  constructor
  · intro h
    apply bytes_ext
    have h1 := congrArg (fun b : ByteArray => b.data.toList) h
    simp only [sealed_list] at h1
    rw [e2, sumS_list]
    have h2 := congrArg (List.drop (s.size - 4)) h1
    rw [← h2, List.drop_left' (by rw [e1, List.length_take, size_list]; omega)]
  · intro h
    apply bytes_ext
    have h1 := congrArg (fun b : ByteArray => b.data.toList) h
    simp only [sumS_list] at h1
    rw [e2] at h1
    rw [sealed_list, ← h1, e1, List.take_append_drop]

set_option maxHeartbeats 400000 in
set_option maxRecDepth 100000 in
theorem refopen_short (s : ByteArray) (w : World) (hs : s.size < 4) :
    Calls Try.prog 7 #[.string s] w fun r w' => r = .returned (.tuple #[.string ⟨#[]⟩, .int .i64 2]) ∧ w = w' := by
  go_enter Try.func7, Try.ntmps7
  go_wp2_with fail
  go_ret2
  exact ⟨rfl, rfl⟩

set_option maxHeartbeats 400000 in
set_option maxRecDepth 100000 in
theorem refopen_bad (s : ByteArray) (w : World) (h4 : 4 ≤ s.size) (hs : s.size ≤ 400) (h : sealed (s.extract 0 (s.size - 4)) ≠ s) :
    Calls Try.prog 7 #[.string s] w fun r w' => r = .returned (.tuple #[.string ⟨#[]⟩, .int .i64 5]) ∧ Below w.heap.size w w' := by
  have hn0 : 0 ≤ (s.size : Int) - 4 := by omega
  have hn1 : ((s.size : Int) - 4).toNat = s.size - 4 := by omega
  have hn2 : (s.size : Int) - 4 ≤ (s.size : Int) := by omega
  have hsz : (s.extract 0 (s.size - 4)).size ≤ 400 := by simp; omega
  have HSE := Lib.hid (fun w => refseal_any (s.extract 0 (s.size - 4)) w hsz)
  generalize sealed (s.extract 0 (s.size - 4)) = t at *
  have hc : (t.toList == s.toList) = false := by
    rw [beq_eq_false_iff_ne]; intro h'; rw [ByteArray.toList_eq, ByteArray.toList_eq] at h'; exact h (bytes_ext h')
  clear h hsz
  go_enter Try.func7, Try.ntmps7
  go_wp2_with fail
  refine (HSE.out _).mono ?_
  rintro e w1 ⟨rfl, hb⟩
  go_wp2_with fail
  go_ret2
  exact ⟨rfl, hb⟩

set_option maxHeartbeats 400000 in
set_option maxRecDepth 100000 in
theorem refopen_ok (s : ByteArray) (w : World) (h4 : 4 ≤ s.size) (hs : s.size ≤ 400) (h : sealed (s.extract 0 (s.size - 4)) = s) :
    Calls Try.prog 7 #[.string s] w fun r w' => r = .returned (.tuple #[.string (s.extract 0 (s.size - 4)), .int .i64 0]) ∧ Below w.heap.size w w' := by
  have hn0 : 0 ≤ (s.size : Int) - 4 := by omega
  have hn1 : ((s.size : Int) - 4).toNat = s.size - 4 := by omega
  have hn2 : (s.size : Int) - 4 ≤ (s.size : Int) := by omega
  have hsz : (s.extract 0 (s.size - 4)).size ≤ 400 := by simp; omega
  have HSE := Lib.hid (fun w => refseal_any (s.extract 0 (s.size - 4)) w hsz)
  rw [h] at HSE
  clear h hsz
  go_enter Try.func7, Try.ntmps7
  go_wp2_with fail
  refine (HSE.out _).mono ?_
  rintro e w1 ⟨rfl, hb⟩
  go_wp2_with fail
  go_ret2
  exact ⟨rfl, hb⟩

end Go.Proofs.Ytfnbndgckjkgfaa
