/-
  THE WALK OF THE LAW PktGets.
-/
import Derived.Test.YtdmijinlhiohbaaLaw
namespace Go.Proofs.Ytdmijinlhiohbaa
open Go.RowKit
set_option linter.unusedVariables false
set_option linter.unusedSimpArgs false
open Pk (Ln)

theorem getD_bd (s : ByteArray) (hs : s.size ≤ 100000) : ((allL s).getD []).length * 4 ≤ s.size ∧ (∀ e ∈ (allL s).getD [], e.load.size ≤ 1100) := by
  cases h : allL s with
  | none => exact ⟨by simp, by simp⟩
  | some L =>
    obtain ⟨_, _, h1, h2⟩ := Pk.all_inv s.size s L (Nat.le_refl _) h
    exact ⟨h1, fun e he => by have := h2 e he; omega⟩

set_option maxHeartbeats 2000000 in
set_option maxRecDepth 100000 in
theorem pktgets_any (s : ByteArray) (w : World) (hs : s.size ≤ maxLen) :
    Calls Try.prog 4 #[.string s] w fun r w' => r = .returned (.bool true) ∧ Below w.heap.size w w' := by
  unfold maxLen at hs
  by_cases h0 : (2500 : Int) < (s.size : Int)
  · go_enter Try.func4, Try.ntmps4
    go_wp2_with fail
    refine (knows_true _).mono ?_
    rintro e w1 ⟨rfl, hb1⟩
    go_wp2_with fail
    go_ret
    exact ⟨rfl, hb1⟩
  have HG := Lib.hid (fun W => get_any s W (by unfold maxLen; omega))
  have HR := Lib.hid (fun W => refget_any s W (by unfold maxLen; omega))
  have HA := Lib.hid (fun W => all_any s W (by omega))
  have HB := Lib.hid (fun W => refall_any s W (by omega))
  have HD := Lib.hid (getD_bd s (by omega))
  unfold GetR at HG
  unfold RGetR at HR
  unfold AllR at HA
  unfold RAllR at HB
  have hM1 := HD.out.1
  generalize (allL s).getD [] = M at *
  generalize (allL s).isSome = I at *
  have hMl : M.length ≤ 3000 := by omega
  have HA2 := Lib.hid (fun W => (HA.out W).mono (fun r w' h => by cases I <;> simpa using h) : ∀ W, Calls Try.prog 13 #[.string s] W fun r w' => ∃ v, r = .returned (.tuple #[v, .int .i64 (bif I then 0 else 2)]) ∧ OwnR 33 w' W.heap.size v M ∧ Below W.heap.size W w')
  clear HA
  have HKN := Lib.hid knows_true
  cases hg : Pk.get s with
  | none =>
    rw [hg] at HG HR
    clear hg
    unfold getV lnV at HG
    unfold rgetV lnV at HR
    go_enter Try.func4, Try.ntmps4
    go_wp2_with fail
    refine (HG.out _).mono ?_
    rintro r w1 ⟨rfl, hb1⟩
    go_wp2_with fail
    refine (HR.out _).mono ?_
    rintro r w2 ⟨rfl, hb2⟩
    have hbb := below_step (hb1.alloc hb1.size _) hb2
    have HX := Lib.hid ((hb2.block w1.heap.size (by simp)).trans (heap_alloc_new w1 _))
    have ⟨k0, k1⟩ := cells2 HX.out
    have hlt := (Array.getElem?_eq_some_iff.1 HX.out).1
    clear hb1 hb2
    have hb3 := hbb.alloc hbb.size (.cells #[.int .i64 0, .string ByteArray.empty] 36)
    go_wp2_with fail
    refine (HA2.out _).mono ?_
    rintro r w4 ⟨v4, rfl, hown4, hb4⟩
    have hb04 := below_step hb3 hb4
    have HL4 := Lib.hid hown4.rows
    clear hown4 hb4 k0 k1 HX hlt hbb hb3
    obtain ⟨ao, ca, rfl⟩ := HL4.out.form
    go_wp2_with fail
    refine (HB.out _).mono ?_
    rintro r w5 ⟨v5, rfl, hown5, hb5⟩
    have hb05 := below_step hb04 hb5
    have HL5 := Lib.hid hown5.rows
    have HL45 := Lib.hid (HL4.out.below hb5)
    obtain ⟨bo, cb, rfl⟩ := HL5.out.form
    clear hown5 hb5 hb04
    go_wp2_with fail
    refine (as_any _ M _ HL45.out hMl).mono ?_
    rintro r w6 ⟨v6, rfl, hown6, hb6⟩
    have hb06 := below_step hb05 hb6
    have HL6 := Lib.hid hown6.rows
    have HL56 := Lib.hid (HL5.out.below hb6)
    obtain ⟨co, cc, rfl⟩ := HL6.out.form
    clear hown6 hb6 hb05
    go_wp2_with fail
    refine (same_any M _ _ _ HL6.out HL56.out hMl).mono ?_
    rintro r w7 ⟨rfl, hb7⟩
    have hb07 := below_step hb06 hb7
    clear hb06 hb7
    go_wp2_with fail
    refine (HKN.out _).mono ?_
    rintro r w8 ⟨rfl, hb8⟩
    cases I
    all_goals go_wp2_with fail
    all_goals go_ret
    all_goals exact ⟨rfl, below_step hb07 hb8⟩
  | some q =>
    obtain ⟨p, n⟩ := q
    obtain ⟨r1, r2, r3⟩ := Pk.rest_size hg
    rw [hg] at HG HR
    clear hg
    unfold getV lnV at HG
    unfold rgetV lnV at HR
    obtain ⟨pk, pl⟩ := p
    have hn1 : (n : Int) ≤ (s.size : Int) := by omega
    have hn2 : (0 : Int) ≤ (n : Int) := by omega
    have hn4 : (0 : Int) < (n : Int) := by omega
    have hn3 : ((n : Int) == 0) = false := beq_eq_false_iff_ne.2 (by omega)
    go_enter Try.func4, Try.ntmps4
    go_wp2_with fail
    refine (HG.out _).mono ?_
    rintro r w1 ⟨rfl, hb1⟩
    go_wp2_with fail
    refine (HR.out _).mono ?_
    rintro r w2 ⟨rfl, hb2⟩
    have hbb := below_step (hb1.alloc hb1.size _) hb2
    have HX := Lib.hid ((hb2.block w1.heap.size (by simp)).trans (heap_alloc_new w1 _))
    have ⟨k0, k1⟩ := cells2 HX.out
    have hlt := (Array.getElem?_eq_some_iff.1 HX.out).1
    clear hb1 hb2
    have hb3 := hbb.alloc hbb.size (.cells #[.int .i64 pk, .string pl] 36)
    go_wp2_with fail
    refine (HA2.out _).mono ?_
    rintro r w4 ⟨v4, rfl, hown4, hb4⟩
    have hb04 := below_step hb3 hb4
    have HL4 := Lib.hid hown4.rows
    clear hown4 hb4 k0 k1 HX hlt hbb hb3
    obtain ⟨ao, ca, rfl⟩ := HL4.out.form
    go_wp2_with fail
    refine (HB.out _).mono ?_
    rintro r w5 ⟨v5, rfl, hown5, hb5⟩
    have hb05 := below_step hb04 hb5
    have HL5 := Lib.hid hown5.rows
    have HL45 := Lib.hid (HL4.out.below hb5)
    obtain ⟨bo, cb, rfl⟩ := HL5.out.form
    clear hown5 hb5 hb04
    go_wp2_with fail
    refine (as_any _ M _ HL45.out hMl).mono ?_
    rintro r w6 ⟨v6, rfl, hown6, hb6⟩
    have hb06 := below_step hb05 hb6
    have HL6 := Lib.hid hown6.rows
    have HL56 := Lib.hid (HL5.out.below hb6)
    obtain ⟨co, cc, rfl⟩ := HL6.out.form
    clear hown6 hb6 hb05
    go_wp2_with fail
    refine (same_any M _ _ _ HL6.out HL56.out hMl).mono ?_
    rintro r w7 ⟨rfl, hb7⟩
    have hb07 := below_step hb06 hb7
    clear hb06 hb7
    go_wp2_with fail
    refine (HKN.out _).mono ?_
    rintro r w8 ⟨rfl, hb8⟩
    cases I
    all_goals go_wp2_with fail
    all_goals go_ret
    all_goals exact ⟨rfl, below_step hb07 hb8⟩

end Go.Proofs.Ytdmijinlhiohbaa
