/-
  THE WALK OF THE LAW CrcTells: whatever the text, the law answers true.
-/
import Derived.Test.YtfnbndgckjkgfaaWalksE
namespace Go.Proofs.Ytfnbndgckjkgfaa
open Go.RowKit
set_option linter.unusedVariables false
set_option linter.unusedSimpArgs false

set_option maxHeartbeats 400000 in
set_option maxRecDepth 100000 in
theorem tells_long (s : ByteArray) (w : World) (hs : 400 < s.size) :
    Calls Try.prog 3 #[.string s] w fun r w' => r = .returned (.bool true) ∧ Below w.heap.size w w' := by
  go_enter Try.func3, Try.ntmps3
  go_wp2_with fail
  refine (knows_true _).mono ?_
  rintro r w1 ⟨rfl, hb⟩
  go_wp2_with fail
  go_ret
  exact ⟨rfl, hb⟩

/-- Both Opens answer alike: then the law is true. -/
theorem tells_of (s t : ByteArray) (e : Int) (w : World) (hs : s.size ≤ 400)
    (h1 : ∀ w, Calls Try.prog 6 #[.string s] w fun r w' => r = .returned (.tuple #[.string t, .int .i64 e]) ∧ Below w.heap.size w w')
    (h2 : ∀ w, Calls Try.prog 7 #[.string s] w fun r w' => r = .returned (.tuple #[.string t, .int .i64 e]) ∧ Below w.heap.size w w') :
    Calls Try.prog 3 #[.string s] w fun r w' => r = .returned (.bool true) ∧ Below w.heap.size w w' := by
  have H1 := Lib.hid h1
  have H2 := Lib.hid h2
  clear h1 h2
  go_enter Try.func3, Try.ntmps3
  go_wp2_with fail
  refine (H1.out _).mono ?_
  rintro r w1 ⟨rfl, hb1⟩
  go_wp2_with fail
  refine (H2.out _).mono ?_
  rintro r w2 ⟨rfl, hb2⟩
  go_wp2_with fail
  refine (knows_true _).mono ?_
  rintro r w3 ⟨rfl, hb3⟩
  go_wp2_with fail
  refine (sum_any s _ (by omega)).mono ?_
  rintro r w4 ⟨rfl, rfl⟩
  go_wp2_with fail
  refine (refsum_any s _ hs).mono ?_
  rintro r w5 ⟨rfl, hb5⟩
  go_wp2_with fail
  refine (seal_at s _ (by omega)).mono ?_
  rintro r w6 ⟨rfl, hb6⟩
  go_wp2_with fail
  refine (refseal_any s _ hs).mono ?_
  rintro r w7 ⟨rfl, hb7⟩
  go_wp2_with fail
  go_ret
  exact ⟨rfl, below_step (below_step (below_step (below_step (below_step hb1 hb2) hb3) hb5) hb6) hb7⟩

theorem tells_any (s : ByteArray) (w : World) :
    Calls Try.prog 3 #[.string s] w fun r w' => r = .returned (.bool true) ∧ Below w.heap.size w w' := by
  by_cases hs : s.size ≤ 400
  · by_cases h4 : 4 ≤ s.size
    · by_cases h : sealed (s.extract 0 (s.size - 4)) = s
      · exact tells_of s _ 0 w hs (fun w => open_ok s w h4 (by omega) ((seal_parts s h4).1 h)) (fun w => refopen_ok s w h4 hs h)
      · exact tells_of s _ 5 w hs (fun w => open_bad s w h4 (by omega) (fun e => h ((seal_parts s h4).2 e))) (fun w => refopen_bad s w h4 hs h)
    · exact tells_of s _ 2 w hs (fun w => (open_short s w (by omega)).mono fun _ _ ⟨a, b⟩ => ⟨a, by rw [← b]; exact Below.refl _ _⟩) (fun w => (refopen_short s w (by omega)).mono fun _ _ ⟨a, b⟩ => ⟨a, by rw [← b]; exact Below.refl _ _⟩)
  · exact tells_long s w (by omega)

end Go.Proofs.Ytfnbndgckjkgfaa
