/-
  WALKS OF LAYER 6: varint's Get over the mathematics of a number; takeLiteral, takeCopy, takeStep.
-/
import Derived.Test.YtoglbmibbdpjcaaViPut
import Derived.Test.YtoglbmibbdpjcaaViRefGet
import Derived.Test.YtoglbmibbdpjcaaMath
import Derived.BigRegion
import Derived.IntWalk
namespace Go.Proofs.Ytoglbmibbdpjcaa
open Go.RowKit
set_option linter.unusedVariables false

theorem below_step {w w1 w2 : World} (h1 : Below w.heap.size w w1) (h2 : Below w1.heap.size w1 w2) : Below w.heap.size w w2 := h1.trans (h2.mono h1.size)
theorem below_drawn (w : World) (n : Nat) : Below w.heap.size w (w.drewN n) := below_drewN (Below.refl _ _) n

theorem extract_list (s : ByteArray) (a b : Nat) : (s.extract a b).data.toList = (s.data.toList.drop a).take (b - a) := by
  rw [show s.extract a b = (ByteArray.mk s.data.toList.toArray).extract a b by simp, ByteArray.extract_mk]
theorem extract_rest (s : ByteArray) (a : Nat) : (s.extract a s.size).data.toList = s.data.toList.drop a := by
  rw [extract_list, List.take_of_length_le]; rw [List.length_drop, size_list]; omega

/-- varint.Get over vget: there is a number. -/
theorem get_some (s : ByteArray) (w : World) (hs : s.size ≤ maxLen) (n k : Nat) (h : Lz.vget s.data.toList = some (n, k)) :
    Calls Try.prog 19 #[.string s] w fun r w' => r = .returned (.tuple #[.int .u64 n, .string (s.extract k s.size), .int .i64 0]) ∧ ∃ n, w' = w.drewN n := by
  obtain ⟨e, he, rfl, rfl⟩ := Lz.vget_some h
  exact get_ok s w hs e he

theorem get_nil (s : ByteArray) (w : World) (hs : s.size ≤ maxLen) (h : Lz.vget s.data.toList = none) :
    Calls Try.prog 19 #[.string s] w fun r w' => r = .returned (.tuple #[.int .u64 0, .string ⟨#[]⟩, .int .i64 2]) ∧ w = w' := get_none s w hs (Lz.vget_none h)

theorem rget_some (s : ByteArray) (w : World) (hs : s.size ≤ maxLen) (n k : Nat) (h : Lz.vget s.data.toList = some (n, k)) :
    Calls Try.prog 10 #[.string s] w fun r w' => r = .returned (.tuple #[.int .u64 n, .int .i64 k]) ∧ w = w' := by
  obtain ⟨e, he, rfl, rfl⟩ := Lz.vget_some h
  exact refget_ok s w hs e he

theorem rget_nil (s : ByteArray) (w : World) (hs : s.size ≤ maxLen) (h : Lz.vget s.data.toList = none) :
    Calls Try.prog 10 #[.string s] w fun r w' => r = .returned (.tuple #[.int .u64 0, .int .i64 0]) ∧ w = w' := refget_none s w hs (Lz.vget_none h)

/-- The end of a call that told no step. -/
def noStep (w : World) (r : Ending) (w' : World) : Prop := r = .returned (.tuple #[.string ⟨#[]⟩, .string ⟨#[]⟩, .bool false]) ∧ Below w.heap.size w w'
/-- The end of a call that told this piece, with this rest. -/
def aStep (w : World) (piece rest : List UInt8) (r : Ending) (w' : World) : Prop :=
  ∃ a b : ByteArray, a.data.toList = piece ∧ b.data.toList = rest ∧ r = .returned (.tuple #[.string a, .string b, .bool true]) ∧ Below w.heap.size w w'

set_option maxHeartbeats 800000 in
set_option maxRecDepth 100000 in
theorem takeLiteral_no (c : Nat) (s : ByteArray) (w : World) (hs : s.size ≤ maxLen) (hc : c < 18446744073709551616) (h : c < 1 ∨ s.size < c) :
    Calls Try.prog 28 #[.int .u64 c, .string s] w (noStep w) := by
  unfold maxLen at hs
  have hw3 : IntKind.u64.wrap (s.size : Int) = (s.size : Int) := u64_wrap_id _ (by omega) (by omega)
  by_cases h0 : c < 1
  · obtain rfl : c = 0 := by omega
    clear h
    go_enter Try.func28, Try.ntmps28
    go_wp2_with fail
    go_ret3
    exact ⟨rfl, Below.refl _ _⟩
  · have h1 : ¬ (c : Int) < 1 := by omega
    have h2 : (s.size : Int) < (c : Int) := by omega
    clear h
    go_enter Try.func28, Try.ntmps28
    go_wp2_with fail
    go_ret3
    exact ⟨rfl, Below.refl _ _⟩

set_option maxHeartbeats 800000 in
set_option maxRecDepth 100000 in
theorem takeLiteral_ok (c : Nat) (s : ByteArray) (w : World) (hs : s.size ≤ maxLen) (h1 : 1 ≤ c) (h2 : c ≤ s.size) :
    Calls Try.prog 28 #[.int .u64 c, .string s] w (aStep w (s.data.toList.take c) (s.data.toList.drop c)) := by
  unfold maxLen at hs
  have hw3 : IntKind.u64.wrap (s.size : Int) = (s.size : Int) := u64_wrap_id _ (by omega) (by omega)
  have h3 : ¬ (c : Int) < 1 := by omega
  have h4 : ¬ (s.size : Int) < (c : Int) := by omega
  go_enter Try.func28, Try.ntmps28
  go_wp2_with fail
  go_region
  all_goals go_wp2
  all_goals go_ret3
  all_goals exact ⟨_, _, by rw [extract_list]; simp, extract_rest s c, rfl, below_drawn w 1⟩

set_option maxHeartbeats 800000 in
set_option maxRecDepth 100000 in
theorem takeCopy_nil (base : ByteArray) (c : Nat) (s : ByteArray) (w : World) (hs : s.size ≤ maxLen) (h : Lz.vget s.data.toList = none) :
    Calls Try.prog 29 #[.string base, .int .u64 c, .string s] w (noStep w) := by
  have H := Lib.hid h
  clear h
  go_enter Try.func29, Try.ntmps29
  go_wp2_with fail
  refine (get_nil s _ hs H.out).mono ?_
  rintro e w1 ⟨rfl, rfl⟩
  go_wp2_with fail
  go_ret3
  exact ⟨rfl, Below.refl _ _⟩

set_option maxHeartbeats 800000 in
set_option maxRecDepth 100000 in
theorem takeCopy_no (base : ByteArray) (c : Nat) (s : ByteArray) (w : World) (hbs : base.size ≤ maxLen) (hs : s.size ≤ maxLen) (hc : c < 18446744073709551616) (p m : Nat) (h : Lz.vget s.data.toList = some (p, m)) (hb : c < 1 ∨ base.size < p ∨ base.size - p < c) :
    Calls Try.prog 29 #[.string base, .int .u64 c, .string s] w (noStep w) := by
  have hbd := Lz.vget_bd h
  have H := Lib.hid h
  clear h
  unfold maxLen at hbs
  have hw3 : IntKind.u64.wrap (base.size : Int) = (base.size : Int) := u64_wrap_id _ (by omega) (by omega)
  by_cases h0 : (c : Int) < 1
  · clear hb
    go_enter Try.func29, Try.ntmps29
    go_wp2_with fail
    refine (get_some s _ hs p m H.out).mono ?_
    rintro e w1 ⟨rfl, n1, rfl⟩
    go_wp2_with fail
    go_ret3
    exact ⟨rfl, below_drawn w n1⟩
  · by_cases h1 : (base.size : Int) < (p : Int)
    · clear hb
      go_enter Try.func29, Try.ntmps29
      go_wp2_with fail
      refine (get_some s _ hs p m H.out).mono ?_
      rintro e w1 ⟨rfl, n1, rfl⟩
      go_wp2_with fail
      go_ret3
      exact ⟨rfl, below_drawn w n1⟩
    · have h2 : (base.size : Int) - (p : Int) < (c : Int) := by omega
      have hw4 : IntKind.u64.wrap ((base.size : Int) - (p : Int)) = (base.size : Int) - (p : Int) := u64_wrap_id _ (by omega) (by omega)
      clear hb
      go_enter Try.func29, Try.ntmps29
      go_wp2_with fail
      refine (get_some s _ hs p m H.out).mono ?_
      rintro e w1 ⟨rfl, n1, rfl⟩
      go_wp2_with fail
      go_ret3
      exact ⟨rfl, below_drawn w n1⟩

set_option maxHeartbeats 800000 in
set_option maxRecDepth 100000 in
theorem takeCopy_ok (base : ByteArray) (c : Nat) (s : ByteArray) (w : World) (hbs : base.size ≤ maxLen) (hs : s.size ≤ maxLen) (p m : Nat) (h : Lz.vget s.data.toList = some (p, m)) (h1 : 1 ≤ c) (h2 : p ≤ base.size) (h3 : c ≤ base.size - p) :
    Calls Try.prog 29 #[.string base, .int .u64 c, .string s] w (aStep w ((base.data.toList.drop p).take c) (s.data.toList.drop m)) := by
  have hbd := Lz.vget_bd h
  have H := Lib.hid h
  clear h
  unfold maxLen at hbs
  have hw3 : IntKind.u64.wrap (base.size : Int) = (base.size : Int) := u64_wrap_id _ (by omega) (by omega)
  have g0 : ¬ (c : Int) < 1 := by omega
  have g1 : ¬ (base.size : Int) < (p : Int) := by omega
  have g2 : ¬ (base.size : Int) - (p : Int) < (c : Int) := by omega
  have hw4 : IntKind.u64.wrap ((base.size : Int) - (p : Int)) = (base.size : Int) - (p : Int) := u64_wrap_id _ (by omega) (by omega)
  have hw5 : IntKind.u64.wrap ((p : Int) + (c : Int)) = (p : Int) + (c : Int) := u64_wrap_id _ (by omega) (by omega)
  have g3 : (p : Int) ≤ (p : Int) + (c : Int) := by omega
  have g4 : (p : Int) + (c : Int) ≤ (base.size : Int) := by omega
  have t1 : ((p : Int) + (c : Int)).toNat = p + c := by omega
  go_enter Try.func29, Try.ntmps29
  go_wp2_with fail
  refine (get_some s _ hs p m H.out).mono ?_
  rintro e w1 ⟨rfl, n1, rfl⟩
  go_wp2_with fail
  go_ret3
  refine ⟨_, _, ?_, extract_rest s m, rfl, below_drawn w n1⟩
  rw [extract_list, show p + c - p = c by omega]

set_option maxHeartbeats 800000 in
set_option maxRecDepth 100000 in
theorem takeStep_nil (base s : ByteArray) (w : World) (hs : s.size ≤ maxLen) (h : Lz.vget s.data.toList = none) :
    Calls Try.prog 26 #[.string base, .string s] w (noStep w) := by
  have H := Lib.hid h
  clear h
  go_enter Try.func26, Try.ntmps26
  go_wp2_with fail
  refine (get_nil s _ hs H.out).mono ?_
  rintro e w1 ⟨rfl, rfl⟩
  go_wp2_with fail
  go_ret3
  exact ⟨rfl, Below.refl _ _⟩

set_option maxHeartbeats 800000 in
set_option maxRecDepth 100000 in
theorem takeStep_lit (base s : ByteArray) (w : World) (hs : s.size ≤ maxLen) (n k : Nat) (h : Lz.vget s.data.toList = some (n, k)) (he : n % 2 = 0) (post : World → Ending → World → Prop)
    (hpost : ∀ (w1 : World) r w2, post w1 r w2 → Below w.heap.size w w1 → post w r w2)
    (hform : ∀ w1 r w2, post w1 r w2 → ∃ a b c, r = .returned (.tuple #[.string a, .string b, .bool c]))
    (hcall : ∀ w1, Calls Try.prog 28 #[.int .u64 ((n / 2 : Nat) : Int), .string (s.extract k s.size)] w1 (post w1)) :
    Calls Try.prog 26 #[.string base, .string s] w (post w) := by
  have hbd := Lz.vget_bd h
  have H := Lib.hid h
  clear h
  have hsz := hs
  unfold maxLen at hsz
  have he' : ((n : Int) % 2 == 0) = true := by rw [beq_iff_eq]; omega
  generalize hre : s.extract k s.size = rest at *
  have HR := Lib.hid hre
  have HP := Lib.hid hpost
  have HF := Lib.hid hform
  have HC := Lib.hid hcall
  clear hre he hpost hform hcall
  go_enter Try.func26, Try.ntmps26
  go_wp2_with fail
  refine (get_some s _ hs n k H.out).mono ?_
  rintro e w1 ⟨rfl, n1, rfl⟩
  rw [HR.out]
  go_wp2_with fail
  refine (HC.out _).mono ?_
  rintro e w2 hq
  obtain ⟨a, b, c, rfl⟩ := HF.out _ _ _ hq
  go_wp2_with fail
  go_ret3
  exact HP.out _ _ _ hq (below_drawn w n1)

set_option maxHeartbeats 800000 in
set_option maxRecDepth 100000 in
theorem takeStep_cop (base s : ByteArray) (w : World) (hs : s.size ≤ maxLen) (n k : Nat) (h : Lz.vget s.data.toList = some (n, k)) (he : n % 2 = 1) (post : World → Ending → World → Prop)
    (hpost : ∀ (w1 : World) r w2, post w1 r w2 → Below w.heap.size w w1 → post w r w2)
    (hform : ∀ w1 r w2, post w1 r w2 → ∃ a b c, r = .returned (.tuple #[.string a, .string b, .bool c]))
    (hcall : ∀ w1, Calls Try.prog 29 #[.string base, .int .u64 ((n / 2 : Nat) : Int), .string (s.extract k s.size)] w1 (post w1)) :
    Calls Try.prog 26 #[.string base, .string s] w (post w) := by
  have hbd := Lz.vget_bd h
  have H := Lib.hid h
  clear h
  have hsz := hs
  unfold maxLen at hsz
  have he' : ((n : Int) % 2 == 0) = false := by rw [beq_eq_false_iff_ne]; omega
  have hdv : ((n : Int) - 1) / 2 = ((n / 2 : Nat) : Int) := by omega
  have hn1 : (1 : Int) ≤ (n : Int) := by omega
  have HD := Lib.hid hdv
  generalize hre : s.extract k s.size = rest at *
  have HR := Lib.hid hre
  have HP := Lib.hid hpost
  have HF := Lib.hid hform
  have HC := Lib.hid hcall
  clear hre he hpost hform hcall hdv
  go_enter Try.func26, Try.ntmps26
  go_wp2_with fail
  refine (get_some s _ hs n k H.out).mono ?_
  rintro e w1 ⟨rfl, n1, rfl⟩
  rw [HR.out]
  go_wp2_with fail
  rw [HD.out]
  refine (HC.out _).mono ?_
  rintro e w2 hq
  obtain ⟨a, b, c, rfl⟩ := HF.out _ _ _ hq
  go_wp2_with fail
  go_ret3
  exact HP.out _ _ _ hq (below_drawn w n1)

theorem noStep_step (w w1 : World) (r : Ending) (w2 : World) (h : noStep w1 r w2) (hb : Below w.heap.size w w1) : noStep w r w2 := ⟨h.1, below_step hb h.2⟩
theorem noStep_form (w1 : World) (r : Ending) (w2 : World) (h : noStep w1 r w2) : ∃ a b c, r = .returned (.tuple #[.string a, .string b, .bool c]) := ⟨_, _, _, h.1⟩
theorem aStep_step (x y : List UInt8) (w w1 : World) (r : Ending) (w2 : World) (h : aStep w1 x y r w2) (hb : Below w.heap.size w w1) : aStep w x y r w2 := by
  obtain ⟨a, b, h1, h2, h3, h4⟩ := h
  exact ⟨a, b, h1, h2, h3, below_step hb h4⟩
theorem aStep_form (x y : List UInt8) (w1 : World) (r : Ending) (w2 : World) (h : aStep w1 x y r w2) : ∃ a b c, r = .returned (.tuple #[.string a, .string b, .bool c]) := by
  obtain ⟨a, b, _, _, h3, _⟩ := h
  exact ⟨a, b, true, h3⟩

theorem takeStep_no (base s : ByteArray) (w : World) (hbs : base.size ≤ maxLen) (hs : s.size ≤ maxLen) (h : Dl.stp base.data.toList s.data.toList = none) :
    Calls Try.prog 26 #[.string base, .string s] w (noStep w) := by
  unfold Dl.stp at h
  split at h
  · rename_i hv; exact takeStep_nil base s w hs hv
  · rename_i n k hv
    have hbd := Lz.vget_bd hv
    have hrl := extract_rest s k
    have hrs : (s.extract k s.size).size = s.size - k := by simp
    have hrm : (s.extract k s.size).size ≤ maxLen := by omega
    rw [size_list] at h
    split at h
    · rename_i he
      split at h
      · rename_i hb
        exact takeStep_lit base s w hs n k hv he noStep (noStep_step w) noStep_form (fun w1 => takeLiteral_no (n / 2) _ w1 hrm (by omega) (by omega))
      · cases h
    · rename_i he
      rw [size_list] at h
      split at h
      · rename_i hv2
        exact takeStep_cop base s w hs n k hv (by omega) noStep (noStep_step w) noStep_form (fun w1 => takeCopy_nil base (n / 2) _ w1 hrm (by rw [hrl]; exact hv2))
      · rename_i p m hv2
        split at h
        · rename_i hb
          exact takeStep_cop base s w hs n k hv (by omega) noStep (noStep_step w) noStep_form (fun w1 => takeCopy_no base (n / 2) _ w1 hbs hrm (by omega) p m (by rw [hrl]; exact hv2) hb)
        · cases h

theorem takeStep_ok (base s : ByteArray) (w : World) (hbs : base.size ≤ maxLen) (hs : s.size ≤ maxLen) (x : List UInt8) (q : Nat) (h : Dl.stp base.data.toList s.data.toList = some (x, q)) :
    Calls Try.prog 26 #[.string base, .string s] w (aStep w x (s.data.toList.drop q)) := by
  unfold Dl.stp at h
  split at h
  · cases h
  · rename_i n k hv
    have hbd := Lz.vget_bd hv
    have hrl := extract_rest s k
    have hrs : (s.extract k s.size).size = s.size - k := by simp
    have hrm : (s.extract k s.size).size ≤ maxLen := by omega
    rw [size_list] at h
    split at h
    · rename_i he
      split at h
      · cases h
      · rename_i hb
        simp only [Option.some.injEq, Prod.mk.injEq] at h
        obtain ⟨rfl, rfl⟩ := h
        refine takeStep_lit base s w hs n k hv he (fun w => aStep w _ _) (aStep_step _ _ w) (aStep_form _ _) (fun w1 => ?_)
        have := takeLiteral_ok (n / 2) (s.extract k s.size) w1 hrm (by omega) (by omega)
        rw [hrl, List.drop_drop] at this
        exact this
    · rename_i he
      rw [size_list] at h
      split at h
      · cases h
      · rename_i p m hv2
        split at h
        · cases h
        · rename_i hb
          simp only [Option.some.injEq, Prod.mk.injEq] at h
          obtain ⟨rfl, rfl⟩ := h
          refine takeStep_cop base s w hs n k hv (by omega) (fun w => aStep w _ _) (aStep_step _ _ w) (aStep_form _ _) (fun w1 => ?_)
          have := takeCopy_ok base (n / 2) (s.extract k s.size) w1 hbs hrm p m (by rw [hrl]; exact hv2) (by omega) (by omega) (by omega)
          rw [hrl, List.drop_drop] at this
          exact this

end Go.Proofs.Ytoglbmibbdpjcaa
