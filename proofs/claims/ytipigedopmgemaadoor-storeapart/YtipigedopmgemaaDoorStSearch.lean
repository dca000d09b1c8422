/-
  WALKS OF LAYER 11: sort.Search over any closure that never makes memory look otherwise; the closure of place.
-/
import Derived.Test.YtipigedopmgemaaDoorStIns

import Derived.Shelf.Abstract
import Derived.BigQuiet
import Derived.Deep.QuietTactic
namespace Go.Proofs.YtipigedopmgemaaDoor
open Go.RowKit
set_option linter.unusedVariables false
set_option linter.unusedSimpArgs false

/-- What is asked of a closure over indices. -/
def PredI (g : Nat) (lb : Array Value) (p : Nat → Bool) (n : Nat) (w : World) : Prop :=
  ∀ (W : World) (k : Nat), Below w.heap.size w W → k < n → Calls Tryd.prog g (#[.int .i64 (k : Int)] ++ lb) W fun e w' => e = .returned (.bool (p k)) ∧ Below W.heap.size W w'

set_option maxHeartbeats 1000000 in
set_option maxRecDepth 100000 in
theorem search_any (p : Nat → Bool) (f n : Nat) (g : Nat) (lb : Array Value) (eg : ∀ args w, (callFunc g args).run Tryd.prog w = .ok (.enter g args) w) (w : World) (hn : n ≤ 1000) (hf : f ≤ n) (h1 : ∀ k, k < f → p k = false) (h2 : ∀ k, f ≤ k → k < n → p k = true) (hp : PredI g lb p n w) :
    Calls Tryd.prog 48 #[.int .i64 (n : Int), .func (.func g) #[] lb] w fun r w' => r = .returned (.int .i64 (f : Int)) ∧ Below w.heap.size w w' := by
  have HP := Lib.hid hp
  have H1 := Lib.hid h1
  have H2 := Lib.hid h2
  clear hp h1 h2
  go_enter Tryd.func48, Tryd.ntmps48
  go_wp2_with fail
  go_loopw [5, 6] (fun i j wr => ∃ (a b : Nat), a ≤ f ∧ f ≤ b ∧ b ≤ n ∧ i = .int .i64 a ∧ j = .int .i64 b ∧ Below w.heap.size w wr) (fun i j _ => (intOf j).toNat - (intOf i).toNat)
  case atStart => exact ⟨0, n, by omega, hf, Nat.le_refl _, rfl, rfl, Below.refl _ _⟩
  case round =>
    obtain ⟨a, b, ha, hb, hbn, rfl, rfl, hbw⟩ := hrel
    by_cases hlt : a < b
    · have hlt' : (a : Int) < (b : Int) := by omega
      obtain ⟨m, hm⟩ : ∃ m, m = (a + b) / 2 := ⟨_, rfl⟩
      have hm1 : a ≤ m := by omega
      have hm2 : m < b := by omega
      have hmn : m < n := by omega
      have hm' : ((a : Int) + (b : Int)) / 2 = (m : Int) := by omega
      have hcall := HP.out wr m hbw hmn
      have hbs := hbw.size
      by_cases hfm : f ≤ m
      · rw [H2.out m hfm hmn] at hcall
        clear hm
        go_wp2_with (go_at_fn g; refine hcall.mono ?_; rintro r wx ⟨rfl, hbx⟩)
        go_roundw
        case rel => exact ⟨a, m, by omega, by omega, by omega, rfl, by go_num, hbw.trans (hbx.mono (by omega))⟩
        case measure => simp [intOf]; omega
      · rw [H1.out m (by omega)] at hcall
        clear hm
        go_wp2_with (go_at_fn g; refine hcall.mono ?_; rintro r wx ⟨rfl, hbx⟩)
        go_roundw
        case rel => exact ⟨m + 1, b, by omega, by omega, by omega, by go_num, rfl, hbw.trans (hbx.mono (by omega))⟩
        case measure => simp [intOf]; omega
    · have : a = f := by omega
      subst this
      go_wp2_with fail
      go_ret
      exact ⟨rfl, hbw⟩

end Go.Proofs.YtipigedopmgemaaDoor
