/-
  THE WALK OF THE LAW DeltaSteps: whatever the base, the steps and the three numbers, the law answers true.
-/
import Derived.Test.YtoglbmibbdpjcaaSteps
namespace Go.Proofs.Ytoglbmibbdpjcaa
open Go.RowKit
set_option linter.unusedVariables false
set_option linter.unusedSimpArgs false

theorem cell_three {w w1 : World} {a b c : Value} {t : Nat} (hb : Below (w.alloc (.cells #[a, b, c] t)).heap.size (w.alloc (.cells #[a, b, c] t)) w1) : w1.cell? ⟨w.heap.size, 2, none⟩ = some c := by
  rw [hb.cell (p := ⟨w.heap.size, 2, none⟩) (by simp)]
  rw [cell_of_row _ _ 2 _ _ _ (Deep.blk_alloc_new _ _)]; rfl

set_option maxHeartbeats 2000000 in
set_option maxRecDepth 100000 in
theorem deltasteps_any (base : ByteArray) (v : Value) (L : List Sp) (x y most : Int) (w : World) (hbs : base.size ≤ maxLen) (hL : StepsAt w v L) (hlm : L.length ≤ maxLen) :
    Calls Try.prog 4 #[.string base, v, .agg #[.int .i64 x, .int .i64 y, .int .i64 most]] w fun r w' => r = .returned (.bool true) ∧ Below w.heap.size w w' := by
  obtain ⟨ao, cap, rfl⟩ := hL.form
  have hsz := hlm
  unfold maxLen at hsz hbs
  clear hlm
  by_cases h0 : (400 : Int) < (base.size : Int)
  · go_enter Try.func4, Try.ntmps4
    go_wp2_with fail
    refine (knows_true _).mono ?_
    rintro e w1 ⟨rfl, hb1⟩
    go_wp2_with fail
    go_ret
    exact ⟨rfl, ((Below.refl _ _).alloc (Nat.le_refl _) _).trans (hb1.mono (by simp))⟩
  by_cases h1 : (30 : Int) < (L.length : Int)
  · go_enter Try.func4, Try.ntmps4
    go_wp2_with fail
    refine (knows_true _).mono ?_
    rintro e w1 ⟨rfl, hb1⟩
    go_wp2_with fail
    go_ret
    exact ⟨rfl, ((Below.refl _ _).alloc (Nat.le_refl _) _).trans (hb1.mono (by simp))⟩
  by_cases h2 : (20000 : Int) < most
  · go_enter Try.func4, Try.ntmps4
    go_wp2_with fail
    refine (knows_true _).mono ?_
    rintro e w1 ⟨rfl, hb1⟩
    go_wp2_with fail
    go_ret
    exact ⟨rfl, ((Below.refl _ _).alloc (Nat.le_refl _) _).trans (hb1.mono (by simp))⟩
  have HL := Lib.hid (fun W (q : Below w.heap.size w W) => hL.below q)
  clear hL
  have g0 : ¬ (400 : Int) < (base.size : Int) := h0
  have g1 : ¬ (30 : Int) < (L.length : Int) := h1
  have hbw : ∀ o, Below w.heap.size w (w.alloc o) := fun o => (Below.refl _ _).alloc (Nat.le_refl _) o
  have HBW := Lib.hid hbw
  clear hbw
  go_enter Try.func4, Try.ntmps4
  go_wp2_with fail
  go_loop [7] (fun i => ∃ k : Nat, k ≤ L.length ∧ i = .int .i64 k ∧ Hid (∀ i e, L[i]? = some e → i < k → e.text.size ≤ 100 ∧ 0 ≤ e.n)) (fun i => L.length - (intOf i).toNat)
  case atStart => exact ⟨0, by omega, rfl, fun i e _ h => absurd h (by omega)⟩
  case round =>
    obtain ⟨k, hk, rfl, HO⟩ := hrel
    by_cases hlt : k < L.length
    · have hlt' : (k : Int) < (L.length : Int) := by omega
      have hk0 : (0 : Int) ≤ (k : Int) := by omega
      obtain ⟨e, he⟩ : ∃ e, L[k]? = some e := ⟨L[k], List.getElem?_eq_getElem hlt⟩
      obtain ⟨a, ea, c0, c1, c2⟩ := (HL.out _ (HBW.out (.cells #[.int .i64 x, .int .i64 y, .int .i64 most] 35))).elem k e he
      subst ea
      have hA1 := add_block a (k * 3)
      have hA2 := add_off a (k * 3)
      have HO2 : Hid ((e.text.size ≤ 100 ∧ 0 ≤ e.n) → ∀ i x, L[i]? = some x → i < k + 1 → x.text.size ≤ 100 ∧ 0 ≤ x.n) := fun hh i x hx hi => by
        by_cases hik : i = k
        · subst hik; rw [he] at hx; cases hx; exact hh
        · exact HO.out i x hx (by omega)
      clear he HO
      generalize e.pl = ep at *
      generalize e.n = en at *
      generalize e.text = et at *
      by_cases q1 : (100 : Int) < (et.size : Int)
      · go_wp2_with fail
        refine (knows_true _).mono ?_
        rintro e w1 ⟨rfl, hb1⟩
        go_wp2_with fail
        go_ret
        exact ⟨rfl, (HBW.out _).trans (hb1.mono (by simp))⟩
      · by_cases q2 : en < 0
        · go_wp2_with fail
          refine (knows_true _).mono ?_
          rintro e w1 ⟨rfl, hb1⟩
          go_wp2_with fail
          go_ret
          exact ⟨rfl, (HBW.out _).trans (hb1.mono (by simp))⟩
        · go_wp2_with fail
          go_round
          case rel => exact ⟨k + 1, by omega, by go_num, HO2.out ⟨by omega, by omega⟩⟩
          case measure => simp [intOf]; omega
    · have hkl : k = L.length := by omega
      have HOK : Hid (∀ e ∈ L, e.text.size ≤ 100 ∧ 0 ≤ e.n) := fun e hm => by
        obtain ⟨i, hi, rfl⟩ := List.getElem_of_mem hm
        exact HO.out i _ (List.getElem?_eq_getElem hi) (by omega)
      clear HO hkl
      go_wp2_with fail
      refine (refdelta_some x y _ L _ (HL.out _ (HBW.out _)) (by omega) HOK.out).mono ?_
      rintro e w1 ⟨b, rfl, hbz, hb1⟩
      have HA := Lib.hid (fun v : World => apply_any base b most v (by omega) (by omega) (by omega))
      have HB := Lib.hid (fun v : World => refapply_any base b most v (by omega) (by omega) (by omega))
      generalize Dl.app base.data.toList b.data.toList most = q at *
      obtain ⟨q1, q2⟩ := q
      have hc1 := cell_three hb1
      go_wp2_with fail
      refine (HA.out _).mono ?_
      rintro e w2 ⟨rfl, hb2⟩
      have hb12 := below_step hb1 hb2
      have hc2 := cell_three hb12
      clear hc1 hb1 hb2
      go_wp2_with fail
      refine (HB.out _).mono ?_
      rintro e w3 ⟨rfl, hb3⟩
      have hb13 := below_step hb12 hb3
      clear hc2 hb12 hb3
      go_wp2_with fail
      refine (knows_true _).mono ?_
      rintro e w4 ⟨rfl, hb4⟩
      go_wp2_with fail
      go_ret
      exact ⟨rfl, (HBW.out _).trans ((below_step hb13 hb4).mono (by simp))⟩

end Go.Proofs.Ytoglbmibbdpjcaa
