/-
  THE WALK OF THE LAW LzSteps: whatever the steps and the limit, the law answers true.
-/
import Derived.Test.YtkifjobmomfofaaSteps
namespace Go.Proofs.Ytkifjobmomfofaa
open Go.RowKit
set_option linter.unusedVariables false
set_option linter.unusedSimpArgs false

set_option maxHeartbeats 2000000 in
set_option maxRecDepth 100000 in
theorem lzsteps_any (v : Value) (L : List Sp) (most : Int) (w : World) (hL : StepsAt w v L) (hlm : L.length ≤ maxLen) :
    Calls Try.prog 4 #[v, .int .i64 most] w fun r w' => r = .returned (.bool true) ∧ Below w.heap.size w w' := by
  obtain ⟨ao, cap, rfl⟩ := hL.form
  have hsz := hlm
  unfold maxLen at hsz
  clear hlm
  by_cases h1 : (30 : Int) < (L.length : Int)
  · go_enter Try.func4, Try.ntmps4
    go_wp2_with fail
    refine (knows_true _).mono ?_
    rintro e w1 ⟨rfl, hb1⟩
    go_wp2_with fail
    go_ret
    exact ⟨rfl, hb1⟩
  · by_cases h2 : (20000 : Int) < most
    · go_enter Try.func4, Try.ntmps4
      go_wp2_with fail
      refine (knows_true _).mono ?_
      rintro e w1 ⟨rfl, hb1⟩
      go_wp2_with fail
      go_ret
      exact ⟨rfl, hb1⟩
    · have HL := Lib.hid hL
      clear hL
      have g1 : ¬ (30 : Int) < (L.length : Int) := h1
      go_enter Try.func4, Try.ntmps4
      go_wp2_with fail
      go_loop [5] (fun i => ∃ k : Nat, k ≤ L.length ∧ i = .int .i64 k ∧ Hid (∀ i e, L[i]? = some e → i < k → e.text.size ≤ 100 ∧ 0 ≤ e.n ∧ 0 ≤ e.far)) (fun i => L.length - (intOf i).toNat)
      case atStart => exact ⟨0, by omega, rfl, fun i e _ h => absurd h (by omega)⟩
      case round =>
        obtain ⟨k, hk, rfl, HO⟩ := hrel
        by_cases hlt : k < L.length
        · have hlt' : (k : Int) < (L.length : Int) := by omega
          have hk0 : (0 : Int) ≤ (k : Int) := by omega
          obtain ⟨e, he⟩ : ∃ e, L[k]? = some e := ⟨L[k], List.getElem?_eq_getElem hlt⟩
          obtain ⟨a, ea, c0, c1, c2⟩ := HL.out.elem k e he
          subst ea
          have hA1 := add_block a (k * 3)
          have hA2 := add_off a (k * 3)
          have HO2 : Hid ((e.text.size ≤ 100 ∧ 0 ≤ e.n ∧ 0 ≤ e.far) → ∀ i x, L[i]? = some x → i < k + 1 → x.text.size ≤ 100 ∧ 0 ≤ x.n ∧ 0 ≤ x.far) := fun hh i x hx hi => by
            by_cases hik : i = k
            · subst hik; rw [he] at hx; cases hx; exact hh
            · exact HO.out i x hx (by omega)
          clear he HO
          generalize e.n = en at *
          generalize e.far = ef at *
          generalize e.text = et at *
          by_cases q1 : (100 : Int) < (et.size : Int)
          · go_wp2_with fail
            refine (knows_true _).mono ?_
            rintro e w1 ⟨rfl, hb1⟩
            go_wp2_with fail
            go_ret
            exact ⟨rfl, hb1⟩
          · by_cases q2 : en < 0
            · go_wp2_with fail
              refine (knows_true _).mono ?_
              rintro e w1 ⟨rfl, hb1⟩
              go_wp2_with fail
              go_ret
              exact ⟨rfl, hb1⟩
            · by_cases q3 : ef < 0
              · go_wp2_with fail
                refine (knows_true _).mono ?_
                rintro e w1 ⟨rfl, hb1⟩
                go_wp2_with fail
                go_ret
                exact ⟨rfl, hb1⟩
              · go_wp2_with fail
                go_round
                case rel => exact ⟨k + 1, by omega, by go_num, HO2.out ⟨by omega, by omega, by omega⟩⟩
                case measure => simp [intOf]; omega
        · have hkl : k = L.length := by omega
          have HOK : Hid (∀ e ∈ L, e.text.size ≤ 100 ∧ 0 ≤ e.n ∧ 0 ≤ e.far) := fun e hm => by
            obtain ⟨i, hi, rfl⟩ := List.getElem_of_mem hm
            exact HO.out i _ (List.getElem?_eq_getElem hi) (by omega)
          clear HO hkl
          go_wp2_with fail
          refine (refsteps_some _ L _ HL.out (by omega) HOK.out).mono ?_
          rintro e w1 ⟨b, rfl, hbz, hb1⟩
          have hbm : b.size ≤ maxLen := by unfold maxLen; omega
          have HA := Lib.hid (fun v : World => unpack_any b most v hbm (by omega))
          have HB := Lib.hid (fun v : World => refunpack_any b most v hbm (by omega))
          generalize Lz.unp b.data.toList most = q at *
          obtain ⟨q1, q2⟩ := q
          go_wp2_with fail
          refine (HA.out _).mono ?_
          rintro e w2 ⟨rfl, hb2⟩
          go_wp2_with fail
          refine (HB.out _).mono ?_
          rintro e w3 ⟨rfl, hb3⟩
          go_wp2_with fail
          refine (knows_true _).mono ?_
          rintro e w4 ⟨rfl, hb4⟩
          go_wp2_with fail
          go_ret
          exact ⟨rfl, below_step (below_step (below_step hb1 hb2) hb3) hb4⟩

end Go.Proofs.Ytkifjobmomfofaa
