/-
  THE WALK OF THE LAW BandGets: whatever the lines, it answers true.
-/
import Derived.Test.YtaaemdmeicjnbaaLaw
namespace Go.Proofs.Ytaaemdmeicjnbaa
open Go.RowKit
set_option linter.unusedVariables false
set_option linter.unusedSimpArgs false
open Pk (Ln)

set_option maxHeartbeats 1000000 in
set_option maxRecDepth 100000 in
theorem bandgets_any (v : Value) (L : List Ln) (w : World) (hL : LinesAt w v L) (hl : L.length ≤ maxLen) :
    Calls Try.prog 4 #[v] w fun r w' => r = .returned (.bool true) ∧ Below w.heap.size w w' := by
  obtain ⟨ao, cap, rfl⟩ := hL.form
  have HL := Lib.hid hL
  unfold maxLen at hl
  clear hL
  by_cases h40 : 40 < L.length
  · have h40' : 40 < (L.length : Int) := by omega
    go_enter Try.func4, Try.ntmps4
    go_wp2_with fail
    refine (knows_true _).mono ?_
    rintro r w1 ⟨rfl, hb1⟩
    go_wp2_with fail
    go_ret
    exact ⟨rfl, hb1⟩
  · have h40' : ¬ 40 < (L.length : Int) := by omega
    have h40n : L.length ≤ 40 := by omega
    clear h40 hl
    go_enter Try.func4, Try.ntmps4
    go_wp2_with fail
    go_loop [3] (fun i => ∃ k : Nat, k ≤ L.length ∧ i = .int .i64 k ∧ Hid (∀ i e, L[i]? = some e → i < k → e.load.size ≤ 1100)) (fun i => L.length - (intOf i).toNat)
    case atStart => exact ⟨0, by omega, rfl, fun i e _ h => absurd h (by omega)⟩
    case round =>
      obtain ⟨k, hk, rfl, HO⟩ := hrel
      by_cases hlt : k < L.length
      · have hlt' : (k : Int) < (L.length : Int) := by omega
        have hk0 : (0 : Int) ≤ (k : Int) := by omega
        obtain ⟨e, he⟩ : ∃ e, L[k]? = some e := ⟨L[k], List.getElem?_eq_getElem hlt⟩
        obtain ⟨a, ea, c0, c1⟩ := HL.out.elem k e he
        subst ea
        have hA1 := add_block a (k * 2)
        have hA2 := add_off a (k * 2)
        have HO2 : Hid (e.load.size ≤ 1100 → ∀ i x, L[i]? = some x → i < k + 1 → x.load.size ≤ 1100) := fun hh i x hx hi => by
          by_cases hik : i = k
          · subst hik; rw [he] at hx; cases hx; exact hh
          · exact HO.out i x hx (by omega)
        clear he HO
        generalize e.kind = ek at *
        generalize e.load = el at *
        by_cases q1 : (1100 : Int) < (el.size : Int)
        · go_wp2_with fail
          refine (knows_true _).mono ?_
          rintro r w1 ⟨rfl, hb1⟩
          go_wp2_with fail
          go_ret
          exact ⟨rfl, hb1⟩
        · go_wp2_with fail
          go_round
          case rel => exact ⟨k + 1, by omega, by go_num, HO2.out (by omega)⟩
          case measure => simp [intOf]; omega
      · have HM := Lib.hid (show ∀ e ∈ L, e.load.size ≤ 3000 from fun e hm => by
          obtain ⟨i, hi, rfl⟩ := List.getElem_of_mem hm
          have := HO.out i _ (List.getElem?_eq_getElem hi) (by omega)
          omega)
        have HG := Lib.hid (get_any _ L _ HL.out (by omega) HM.out)
        have HR := Lib.hid (fun W v' (h : LinesAt W v' L) => refget_any v' L W h (by omega) HM.out)
        unfold foundV at HG HR
        clear HO
        generalize (found L).1 = s1 at *
        generalize (found L).2.1 = s2 at *
        generalize (found L).2.2 = n3 at *
        go_wp2_with fail
        refine HG.out.mono ?_
        rintro r w1 ⟨rfl, hb1⟩
        go_wp2_with fail
        refine (as_any _ L w1 (HL.out.below hb1) (by omega)).mono ?_
        rintro r w2 ⟨v2, rfl, hown2, hb2⟩
        have hb02 := below_step hb1 hb2
        have HR2 := Lib.hid (HR.out w2 v2 hown2.rows)
        clear hown2 hb1 hb2 HG
        go_wp2_with fail
        refine HR2.out.mono ?_
        rintro r w3 ⟨rfl, rfl⟩
        go_wp2_with fail
        refine (knows_true _).mono ?_
        rintro r w4 ⟨rfl, hb4⟩
        go_wp2_with fail
        go_ret
        exact ⟨rfl, below_step hb02 hb4⟩

end Go.Proofs.Ytaaemdmeicjnbaa
