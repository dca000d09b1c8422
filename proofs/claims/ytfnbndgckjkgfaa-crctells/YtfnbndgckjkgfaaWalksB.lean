/-
  WALKS OF LAYER 3: sumText, Seal, Open (crc).
-/
import Derived.Test.YtfnbndgckjkgfaaWalksA
import Derived.Laws.Rows
import Derived.Laws.CopyOwn
import Derived.Deep.WholeRow
import Derived.Lib.ConvBytes
import Derived.Deep.RegionWith
namespace Go.Proofs.Ytfnbndgckjkgfaa
open Go.RowKit
set_option linter.unusedVariables false
set_option linter.unusedSimpArgs false
open Cr (Wd)

theorem ret_str {a b : ByteArray} (h : a = b) : Ending.returned (.string a) = .returned (.string b) := by rw [h]
theorem val_str {a b : ByteArray} (h : a = b) : Value.string a = .string b := by rw [h]
theorem ret_tuple2 {a a' b b' : Value} (h1 : a = a') (h2 : b = b') : Ending.returned (.tuple #[a, b]) = .returned (.tuple #[a', b']) := by rw [h1, h2]
theorem held_set {wr : World} {g : Nat} {cs : Array Value} {t : TypeId} (h : wr.heap[g]? = some (.cells cs t)) (i : Nat) (v : Value) : (wr.setCell ⟨g, i, none⟩ v).heap[g]? = some (.cells (cs.setIfInBounds i v) t) := heap_setCell_same wr g i cs t v h

/-- Four places, the first of them filled with the bytes of a number. -/
def four (x : Nat) (k : Nat) : Array Value := #[.int .u8 (if 0 < k then ((Cr.b4 x 0).toNat : Int) else 0), .int .u8 (if 1 < k then ((Cr.b4 x 1).toNat : Int) else 0), .int .u8 (if 2 < k then ((Cr.b4 x 2).toNat : Int) else 0), .int .u8 (if 3 < k then ((Cr.b4 x 3).toNat : Int) else 0)]
theorem four_rest (x k : Nat) (h : k < 4) : (four x k)[k]? = some (.int .u8 0) := by
  have : k = 0 ∨ k = 1 ∨ k = 2 ∨ k = 3 := by omega
  rcases this with rfl | rfl | rfl | rfl <;> rfl
theorem four_push (x k : Nat) (h : k < 4) : (four x k).setIfInBounds k (.int .u8 ((Cr.b4 x k).toNat : Int)) = four x (k + 1) := by
  have : k = 0 ∨ k = 1 ∨ k = 2 ∨ k = 3 := by omega
  rcases this with rfl | rfl | rfl | rfl <;> rfl
theorem four_all (x : Nat) : four x 4 = #[.int .u8 ((Cr.b4 x 0).toNat : Int), .int .u8 ((Cr.b4 x 1).toNat : Int), .int .u8 ((Cr.b4 x 2).toNat : Int), .int .u8 ((Cr.b4 x 3).toNat : Int)] := rfl
theorem b4_eq (x k : Nat) : ((x : Int) / 2 ^ (8 * k)) % 256 = ((Cr.b4 x k).toNat : Int) := by
  simp [Cr.b4, UInt8.toNat_ofNat']

/-- The bytes that seal a text. -/
def sumS (l : List UInt8) : ByteArray := ⟨(Cr.sumB l).toArray⟩
theorem sumS_size (l : List UInt8) : (sumS l).size = 4 := rfl

/-- Four bytes in memory, as a string. -/
theorem conv_four (w : World) (g : Nat) (l : List UInt8) (t : TypeId) (cs : Array Value) (hc : cs.toList = l.map fun b => Value.int .u8 (b.toNat : Int)) (h : w.heap[g]? = some (.cells cs t)) (n cap : Nat) (hn : n = l.length) :
    (convert 32 9 (.slice (some ⟨g, 0, none⟩) n cap)).run Try.prog w = .ok (.string ⟨l.toArray⟩) w := by
  subst hn
  refine run_convert_bytes_back (P := Try.prog) w 32 9 5 ⟨g, 0, none⟩ cap l Try.underlying32 Try.underlying5 Try.underlying9 (fun j hj => ?_)
  have hadd : (⟨g, 0, none⟩ : Addr).add j = ⟨g, j, none⟩ := by unfold Addr.add; split <;> simp_all
  rw [hadd, cell_of_row w g j cs _ _ h, ← Array.getElem?_toList, hc]
  simp [hj]

set_option maxHeartbeats 400000 in
set_option maxRecDepth 100000 in
theorem sumText_any (s : ByteArray) (w : World) (hs : s.size ≤ 281474976710656) :
    Calls Try.prog 12 #[.string s] w fun r w' => r = .returned (.string (sumS s.data.toList)) ∧ Below w.heap.size w w' := by
  have HS := Lib.hid (show sumS s.data.toList = ⟨#[Cr.b4 (Cr.sum s.data.toList).toNat 0, Cr.b4 (Cr.sum s.data.toList).toNat 1, Cr.b4 (Cr.sum s.data.toList).toNat 2, Cr.b4 (Cr.sum s.data.toList).toNat 3]⟩ from rfl)
  go_enter Try.func12, Try.ntmps12
  go_wp2_with fail
  refine (sum_any s _ hs).mono ?_
  rintro e w' ⟨rfl, rfl⟩
  generalize Cr.sum s.data.toList = x at *
  have hx := w_lt x
  go_wp2_with fail
  go_loopw [8] (fun i wr => ∃ (k : Nat), k ≤ 4 ∧ i = .int .i64 k ∧ Hid (wr.heap[w.heap.size]? = some (.cells (four x.toNat k) 38)) ∧ Below w.heap.size w wr) (fun i _ => 4 - (intOf i).toNat)
  case atStart => exact ⟨0, by omega, rfl, heap_alloc_new _ _, (Below.refl _ _).alloc (Nat.le_refl _) _⟩
  case round =>
    obtain ⟨k, hk, rfl, H, hb⟩ := hrel
    by_cases hlt : k < 4
    · have c2 := (cell_of_row wr w.heap.size k _ _ _ H.out).trans (four_rest _ k hlt)
      have c3 := frozen_of_row wr w.heap.size k _ _ H.out
      have HB := Lib.hid (b4_eq x.toNat k)
      have hd : (8 * (k : Int)).toNat = 8 * k := by omega
      have hd0 : 0 ≤ 8 * (k : Int) := by omega
      have hlt' : (k : Int) < 4 := by omega
      go_wp2
      rw [HB.out]
      refine ⟨⟨k + 1, by omega, by go_num, ?_, hb.setCell (by simp) _⟩, by simp [intOf]; omega⟩
      rw [← four_push _ _ hlt]
      exact held_set H.out k _
    · obtain rfl : k = 4 := by omega
      have hcv := conv_four wr w.heap.size [Cr.b4 x.toNat 0, Cr.b4 x.toNat 1, Cr.b4 x.toNat 2, Cr.b4 x.toNat 3] 38 _ rfl H.out 4 4 rfl
      have hb' := hb
      go_wp2
      go_ret
      exact ⟨ret_str (by rw [HS.out]), hb'⟩

set_option maxHeartbeats 400000 in
set_option maxRecDepth 100000 in
theorem seal_any (s : ByteArray) (w : World) (hs : s.size ≤ 281474976710656) :
    Calls Try.prog 10 #[.string s] w fun r w' => r = .returned (.string (s ++ sumS s.data.toList)) ∧ Below w.heap.size w w' := by
  go_enter Try.func10, Try.ntmps10
  go_wp2_with fail
  refine (sumText_any s _ hs).mono ?_
  rintro e w1 ⟨rfl, hb⟩
  have h4 := sumS_size s.data.toList
  generalize ht : sumS s.data.toList = t at *
  have HT := Lib.hid ht
  have h4' : t.size ≤ 4 := by omega
  clear h4 ht
  go_wp2_with fail
  go_ret
  exact ⟨ret_str (by rw [HT.out]), hb⟩

/-! ### Open -/
theorem extract_data (s : ByteArray) (a b : Nat) : (s.extract a b).data.toList = (s.data.toList.drop a).take (b - a) := by
  rw [← ByteArray.toList_eq, show s.extract a b = (ByteArray.mk s.data.toList.toArray).extract a b by simp, ByteArray.extract_mk, ByteArray.toList_eq]
theorem bytes_ext {a b : ByteArray} (h : a.data.toList = b.data.toList) : a = b := by
  cases a; cases b; simp only at h; rw [Array.toList_inj.1 h]
theorem sumText_at (s t : ByteArray) (w : World) (hs : s.size ≤ 281474976710656) (h : sumS s.data.toList = t) :
    Calls Try.prog 12 #[.string s] w fun r w' => r = .returned (.string t) ∧ Below w.heap.size w w' := by
  subst h; exact sumText_any s w hs

set_option maxHeartbeats 400000 in
set_option maxRecDepth 100000 in
theorem open_short (s : ByteArray) (w : World) (hs : s.size < 4) :
    Calls Try.prog 6 #[.string s] w fun r w' => r = .returned (.tuple #[.string ⟨#[]⟩, .int .i64 2]) ∧ w = w' := by
  go_enter Try.func6, Try.ntmps6
  go_wp2_with fail
  go_ret2
  exact ⟨rfl, rfl⟩

set_option maxHeartbeats 800000 in
set_option maxRecDepth 100000 in
theorem open_bad (s : ByteArray) (w : World) (h4 : 4 ≤ s.size) (hs : s.size ≤ 281474976710656) (h : s.extract (s.size - 4) s.size ≠ sumS (s.extract 0 (s.size - 4)).data.toList) :
    Calls Try.prog 6 #[.string s] w fun r w' => r = .returned (.tuple #[.string ⟨#[]⟩, .int .i64 5]) ∧ Below w.heap.size w w' := by
  have hn0 : 0 ≤ (s.size : Int) - 4 := by omega
  have hn1 : ((s.size : Int) - 4).toNat = s.size - 4 := by omega
  have hn2 : (s.size : Int) - 4 ≤ (s.size : Int) := by omega
  have hsz : (s.extract 0 (s.size - 4)).size ≤ 281474976710656 := by simp; omega
  generalize ht : sumS (s.extract 0 (s.size - 4)).data.toList = t at h
  have HT := Lib.hid ht
  have hc : ((s.extract (s.size - 4) s.size).toList == t.toList) = false := by
    rw [beq_eq_false_iff_ne]; intro h'; rw [ByteArray.toList_eq, ByteArray.toList_eq] at h'; exact h (bytes_ext h')
  clear h ht
  go_enter Try.func6, Try.ntmps6
  go_wp2_with fail
  go_region_with (go_at_call 12; refine (sumText_at (s.extract 0 (s.size - 4)) t _ hsz HT.out).mono ?_; rintro e w1 ⟨rfl, hb1⟩)
  all_goals go_wp2_with fail
  all_goals go_ret2
  all_goals exact ⟨rfl, (Below.refl _ _).drew.trans hb1⟩

set_option maxHeartbeats 800000 in
set_option maxRecDepth 100000 in
theorem open_ok (s : ByteArray) (w : World) (h4 : 4 ≤ s.size) (hs : s.size ≤ 281474976710656) (h : s.extract (s.size - 4) s.size = sumS (s.extract 0 (s.size - 4)).data.toList) :
    Calls Try.prog 6 #[.string s] w fun r w' => r = .returned (.tuple #[.string (s.extract 0 (s.size - 4)), .int .i64 0]) ∧ Below w.heap.size w w' := by
  have hn0 : 0 ≤ (s.size : Int) - 4 := by omega
  have hn1 : ((s.size : Int) - 4).toNat = s.size - 4 := by omega
  have hn2 : (s.size : Int) - 4 ≤ (s.size : Int) := by omega
  have hsz : (s.extract 0 (s.size - 4)).size ≤ 281474976710656 := by simp; omega
  generalize ht : sumS (s.extract 0 (s.size - 4)).data.toList = t at h
  have HT := Lib.hid ht
  have hc : ((s.extract (s.size - 4) s.size).toList == t.toList) = true := by rw [h]; simp
  clear h ht
  go_enter Try.func6, Try.ntmps6
  go_wp2_with fail
  go_region_with (go_at_call 12; refine (sumText_at (s.extract 0 (s.size - 4)) t _ hsz HT.out).mono ?_; rintro e w1 ⟨rfl, hb1⟩)
  all_goals go_wp2_with fail
  all_goals go_ret2
  all_goals exact ⟨rfl, (Below.refl _ _).drew.trans hb1⟩

end Go.Proofs.Ytfnbndgckjkgfaa
