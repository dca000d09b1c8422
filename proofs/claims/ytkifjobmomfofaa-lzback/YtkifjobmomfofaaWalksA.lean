/-
  WALKS OF LAYER 5: varint's Get over the mathematics of a step; takeLiteral, takeMatch, takeStep.
-/
import Derived.Test.YtkifjobmomfofaaViPut
import Derived.Test.YtkifjobmomfofaaViRefGet
import Derived.Test.YtkifjobmomfofaaMath
import Derived.BigRegion
namespace Go.Proofs.Ytkifjobmomfofaa
open Go.RowKit
set_option linter.unusedVariables false

theorem below_step {w w1 w2 : World} (h1 : Below w.heap.size w w1) (h2 : Below w1.heap.size w1 w2) : Below w.heap.size w w2 := h1.trans (h2.mono h1.size)
theorem below_drawn (w : World) (n : Nat) : Below w.heap.size w (w.drewN n) := below_drewN (Below.refl _ _) n

theorem extract_list (s : ByteArray) (a b : Nat) : (s.extract a b).data.toList = (s.data.toList.drop a).take (b - a) := by
  rw [show s.extract a b = (ByteArray.mk s.data.toList.toArray).extract a b by simp, ByteArray.extract_mk]
theorem extract_rest (s : ByteArray) (a : Nat) : (s.extract a s.size).data.toList = s.data.toList.drop a := by
  rw [extract_list, List.take_of_length_le]; rw [List.length_drop, size_list]; omega

/-- varint.Get over vget: there is a number. -/
theorem get_some (s : ByteArray) (w : World) (hs : s.size ≤ maxLen) (n k : Nat) (h : Lz.vget s.data.toList = some (n, k)) :
    Calls Try.prog 25 #[.string s] w fun r w' => r = .returned (.tuple #[.int .u64 n, .string (s.extract k s.size), .int .i64 0]) ∧ ∃ n, w' = w.drewN n := by
  obtain ⟨e, he, rfl, rfl⟩ := Lz.vget_some h
  exact get_ok s w hs e he

theorem get_nil (s : ByteArray) (w : World) (hs : s.size ≤ maxLen) (h : Lz.vget s.data.toList = none) :
    Calls Try.prog 25 #[.string s] w fun r w' => r = .returned (.tuple #[.int .u64 0, .string ⟨#[]⟩, .int .i64 2]) ∧ w = w' := get_none s w hs (Lz.vget_none h)

theorem rget_some (s : ByteArray) (w : World) (hs : s.size ≤ maxLen) (n k : Nat) (h : Lz.vget s.data.toList = some (n, k)) :
    Calls Try.prog 13 #[.string s] w fun r w' => r = .returned (.tuple #[.int .u64 n, .int .i64 k]) ∧ w = w' := by
  obtain ⟨e, he, rfl, rfl⟩ := Lz.vget_some h
  exact refget_ok s w hs e he

theorem rget_nil (s : ByteArray) (w : World) (hs : s.size ≤ maxLen) (h : Lz.vget s.data.toList = none) :
    Calls Try.prog 13 #[.string s] w fun r w' => r = .returned (.tuple #[.int .u64 0, .int .i64 0]) ∧ w = w' := refget_none s w hs (Lz.vget_none h)

/-- A step as Go has it. -/
def stV (c : Nat) (lit : ByteArray) (f : Nat) : Value := .agg #[.int .u64 c, .string lit, .int .i64 f]

set_option maxHeartbeats 800000 in
set_option maxRecDepth 100000 in
theorem takeLiteral_no (c : Nat) (s : ByteArray) (w : World) (hs : s.size ≤ maxLen) (hc : c < 18446744073709551616) (h : c < 1 ∨ s.size < c) :
    Calls Try.prog 26 #[.int .u64 c, .string s] w fun r w' => r = .returned (.tuple #[stV 0 ⟨#[]⟩ 0, .string ⟨#[]⟩, .bool false]) ∧ Below w.heap.size w w' := by
  unfold maxLen at hs
  have hw3 : IntKind.u64.wrap (s.size : Int) = (s.size : Int) := u64_wrap_id _ (by omega) (by omega)
  by_cases h0 : c < 1
  · obtain rfl : c = 0 := by omega
    clear h
    go_enter Try.func26, Try.ntmps26
    go_wp2_with fail
    exact bodyPost_ret (v := .tuple #[stV 0 ⟨#[]⟩ 0, .string ⟨#[]⟩, .bool false]) (by simp [results, Try.results26, go_sem, stV]) rfl ⟨rfl, (Below.refl _ _).alloc (Nat.le_refl _) _⟩
  · have h1 : ¬ (c : Int) < 1 := by omega
    have h2 : (s.size : Int) < (c : Int) := by omega
    clear h
    go_enter Try.func26, Try.ntmps26
    go_wp2_with fail
    exact bodyPost_ret (v := .tuple #[stV 0 ⟨#[]⟩ 0, .string ⟨#[]⟩, .bool false]) (by simp [results, Try.results26, go_sem, stV]) rfl ⟨rfl, (Below.refl _ _).alloc (Nat.le_refl _) _⟩

set_option maxHeartbeats 800000 in
set_option maxRecDepth 100000 in
theorem takeLiteral_ok (c : Nat) (s : ByteArray) (w : World) (hs : s.size ≤ maxLen) (h1 : 1 ≤ c) (h2 : c ≤ s.size) :
    Calls Try.prog 26 #[.int .u64 c, .string s] w fun r w' => r = .returned (.tuple #[stV c (s.extract 0 c) 0, .string (s.extract c s.size), .bool true]) ∧ Below w.heap.size w w' := by
  unfold maxLen at hs
  have hw3 : IntKind.u64.wrap (s.size : Int) = (s.size : Int) := u64_wrap_id _ (by omega) (by omega)
  have h3 : ¬ (c : Int) < 1 := by omega
  have h4 : ¬ (s.size : Int) < (c : Int) := by omega
  go_enter Try.func26, Try.ntmps26
  go_wp2_with fail
  go_region
  all_goals go_wp2
  all_goals exact bodyPost_ret (v := .tuple #[stV c (s.extract 0 c) 0, .string (s.extract c s.size), .bool true]) (by simp [results, Try.results26, go_sem, stV]) rfl ⟨rfl, below_drewN ((Below.refl _ _).alloc (Nat.le_refl _) _) 1⟩

theorem below_set3 {w w1 : World} (h : Below w.heap.size w w1) (a b c : Value) : Below w.heap.size w (((w1.setCell ⟨w.heap.size, 0, none⟩ a).setCell ⟨w.heap.size, 1, none⟩ b).setCell ⟨w.heap.size, 2, none⟩ c) :=
  ((h.setCell (Nat.le_refl _) _).setCell (Nat.le_refl _) _).setCell (Nat.le_refl _) _

/-- The end of a call that told no step. -/
def noStep (w : World) (r : Ending) (w' : World) : Prop := r = .returned (.tuple #[stV 0 ⟨#[]⟩ 0, .string ⟨#[]⟩, .bool false]) ∧ Below w.heap.size w w'
/-- The end of a call that told this step, with this rest. -/
def aStep (w : World) (c f : Nat) (lit rest : List UInt8) (r : Ending) (w' : World) : Prop :=
  ∃ a b : ByteArray, a.data.toList = lit ∧ b.data.toList = rest ∧ r = .returned (.tuple #[stV c a f, .string b, .bool true]) ∧ Below w.heap.size w w'

set_option maxHeartbeats 800000 in
set_option maxRecDepth 100000 in
theorem takeMatch_nil (c : Nat) (s : ByteArray) (t : Int) (w : World) (hs : s.size ≤ maxLen) (hc : c < 18446744073709551616) (h : Lz.vget s.data.toList = none) :
    Calls Try.prog 27 #[.int .u64 c, .string s, .int .i64 t] w (noStep w) := by
  have H := Lib.hid h
  clear h
  go_enter Try.func27, Try.ntmps27
  go_wp2_with fail
  refine (get_nil s _ hs H.out).mono ?_
  rintro e w1 ⟨rfl, rfl⟩
  go_wp2_with fail
  exact bodyPost_ret (v := .tuple #[stV 0 ⟨#[]⟩ 0, .string ⟨#[]⟩, .bool false]) (by simp [results, Try.results27, go_sem, stV]) rfl ⟨rfl, (Below.refl _ _).alloc (Nat.le_refl _) _⟩

set_option maxHeartbeats 800000 in
set_option maxRecDepth 100000 in
theorem takeMatch_no (c : Nat) (s : ByteArray) (t : Nat) (w : World) (hs : s.size ≤ maxLen) (hc : c < 18446744073709551616) (ht : t ≤ 9223372036854775807) (f m : Nat) (h : Lz.vget s.data.toList = some (f, m)) (hb : c < 4 ∨ f < 1 ∨ 65535 < f ∨ t < f) :
    Calls Try.prog 27 #[.int .u64 c, .string s, .int .i64 t] w (noStep w) := by
  have hbd := Lz.vget_bd h
  have H := Lib.hid h
  clear h
  have hw3 : IntKind.u64.wrap (t : Int) = (t : Int) := u64_wrap_id _ (by omega) (by omega)
  by_cases h4 : (c : Int) < 4
  · clear hb
    go_enter Try.func27, Try.ntmps27
    go_wp2_with fail
    refine (get_some s _ hs f m H.out).mono ?_
    rintro e w1 ⟨rfl, n1, rfl⟩
    go_wp2_with fail
    exact bodyPost_ret (v := .tuple #[stV 0 ⟨#[]⟩ 0, .string ⟨#[]⟩, .bool false]) (by simp [results, Try.results27, go_sem, stV]) rfl ⟨rfl, below_set3 (below_drewN ((Below.refl _ _).alloc (Nat.le_refl _) _) n1) _ _ _⟩
  · by_cases h1 : (f : Int) < 1
    · clear hb
      go_enter Try.func27, Try.ntmps27
      go_wp2_with fail
      refine (get_some s _ hs f m H.out).mono ?_
      rintro e w1 ⟨rfl, n1, rfl⟩
      go_wp2_with fail
      exact bodyPost_ret (v := .tuple #[stV 0 ⟨#[]⟩ 0, .string ⟨#[]⟩, .bool false]) (by simp [results, Try.results27, go_sem, stV]) rfl ⟨rfl, below_set3 (below_drewN ((Below.refl _ _).alloc (Nat.le_refl _) _) n1) _ _ _⟩
    · by_cases h2 : (65535 : Int) < (f : Int)
      · clear hb
        go_enter Try.func27, Try.ntmps27
        go_wp2_with fail
        refine (get_some s _ hs f m H.out).mono ?_
        rintro e w1 ⟨rfl, n1, rfl⟩
        go_wp2_with fail
        exact bodyPost_ret (v := .tuple #[stV 0 ⟨#[]⟩ 0, .string ⟨#[]⟩, .bool false]) (by simp [results, Try.results27, go_sem, stV]) rfl ⟨rfl, below_set3 (below_drewN ((Below.refl _ _).alloc (Nat.le_refl _) _) n1) _ _ _⟩
      · have h3 : (t : Int) < (f : Int) := by omega
        clear hb
        go_enter Try.func27, Try.ntmps27
        go_wp2_with fail
        refine (get_some s _ hs f m H.out).mono ?_
        rintro e w1 ⟨rfl, n1, rfl⟩
        go_wp2_with fail
        exact bodyPost_ret (v := .tuple #[stV 0 ⟨#[]⟩ 0, .string ⟨#[]⟩, .bool false]) (by simp [results, Try.results27, go_sem, stV]) rfl ⟨rfl, below_set3 (below_drewN ((Below.refl _ _).alloc (Nat.le_refl _) _) n1) _ _ _⟩

set_option maxHeartbeats 800000 in
set_option maxRecDepth 100000 in
theorem takeMatch_ok (c : Nat) (s : ByteArray) (t : Nat) (w : World) (hs : s.size ≤ maxLen) (hc : c < 18446744073709551616) (ht : t ≤ 9223372036854775807) (f m : Nat) (h : Lz.vget s.data.toList = some (f, m)) (h4 : 4 ≤ c) (h1 : 1 ≤ f) (h2 : f ≤ 65535) (h3 : f ≤ t) :
    Calls Try.prog 27 #[.int .u64 c, .string s, .int .i64 t] w (aStep w c f [] (s.data.toList.drop m)) := by
  have hbd := Lz.vget_bd h
  have H := Lib.hid h
  clear h
  have hw3 : IntKind.u64.wrap (t : Int) = (t : Int) := u64_wrap_id _ (by omega) (by omega)
  have g4 : ¬ (c : Int) < 4 := by omega
  have g1 : ¬ (f : Int) < 1 := by omega
  have g2 : ¬ (65535 : Int) < (f : Int) := by omega
  have g3 : ¬ (t : Int) < (f : Int) := by omega
  go_enter Try.func27, Try.ntmps27
  go_wp2_with fail
  refine (get_some s _ hs f m H.out).mono ?_
  rintro e w1 ⟨rfl, n1, rfl⟩
  go_wp2_with fail
  exact bodyPost_ret (v := .tuple #[stV c ⟨#[]⟩ f, .string (s.extract m s.size), .bool true]) (by simp [results, Try.results27, go_sem, stV]) rfl ⟨⟨#[]⟩, _, rfl, extract_rest s m, rfl, below_set3 (below_drewN ((Below.refl _ _).alloc (Nat.le_refl _) _) n1) _ _ _⟩

end Go.Proofs.Ytkifjobmomfofaa
