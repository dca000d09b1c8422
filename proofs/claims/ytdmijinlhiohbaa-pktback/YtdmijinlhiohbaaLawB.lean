/-
  THE WALK OF THE LAW PktBack: whatever the lines and the text, it answers true.
-/
import Derived.Test.YtdmijinlhiohbaaLawG
namespace Go.Proofs.Ytdmijinlhiohbaa
open Go.RowKit
set_option linter.unusedVariables false
set_option linter.unusedSimpArgs false
open Pk (Ln)

theorem flat_size (L : List Ln) (hl : L.length ≤ 30) (hm : ∀ e ∈ L, e.load.size ≤ 1100) : (L.flatMap Pk.enc).length ≤ 40000 := by
  have key : ∀ L : List Ln, (∀ e ∈ L, e.load.size ≤ 1100) → (L.flatMap Pk.enc).length ≤ 1104 * L.length := by
    intro L
    induction L with
    | nil => intro _; simp
    | cons a r ih =>
      intro h
      have h1 := ih (fun e he => h e (by simp [he]))
      have h2 := h a (by simp)
      rw [List.flatMap_cons, List.length_append, Pk.enc_length, List.length_cons]; omega
  have := key L hm
  omega

/-- The lines of a text, put again. -/
theorem put_back (s : ByteArray) (hs : s.size ≤ 100000) : ∃ u g, putV ((allL s).getD []) = .tuple #[.string u, .int .i64 g] ∧ ((allL s).isSome = true → g = 0 ∧ u = s) := by
  cases h : allL s with
  | none => exact ⟨⟨#[]⟩, 0, rfl, fun h => by cases h⟩
  | some L =>
    obtain ⟨h1, h2, _, _⟩ := Pk.all_inv s.size s L (Nat.le_refl _) h
    refine ⟨⟨(L.flatMap Pk.enc).toArray⟩, 0, ?_, fun _ => ⟨rfl, ?_⟩⟩
    · show putV L = _
      unfold putV; rw [if_pos h1]
    · exact Pk.bytes_ext (by show (L.flatMap Pk.enc) = _; rw [h2])

theorem allr_bif (s : ByteArray) (hs : s.size ≤ 100000) (W : World) : Calls Try.prog 13 #[.string s] W fun r w' => ∃ v, r = .returned (.tuple #[v, .int .i64 (bif (allL s).isSome then 0 else 2)]) ∧ OwnR 33 w' W.heap.size v ((allL s).getD []) ∧ Below W.heap.size W w' :=
  (all_any s W hs).mono (fun r w' h => by
    unfold AllR at h
    cases hq : (allL s).isSome <;> rw [hq] at h <;> simpa using h)
theorem all_of_put {L : List Ln} {T : ByteArray} (hf : L.all Pk.fine = true) (hT : T = ⟨(L.flatMap Pk.enc).toArray⟩) : allL T = some L := by
  subst hT
  exact Pk.all_enc L _ _ (Nat.le_refl _) hf rfl

set_option maxHeartbeats 2000000 in
set_option maxRecDepth 100000 in
theorem pktback_any (v : Value) (L : List Ln) (s : ByteArray) (w : World) (hL : LinesAt w v L) (hl : L.length ≤ maxLen) (hs : s.size ≤ maxLen) :
    Calls Try.prog 5 #[v, .string s] w fun r w' => r = .returned (.bool true) ∧ Below w.heap.size w w' := by
  unfold maxLen at hs
  have HL := Lib.hid hL
  have HFW := Lib.hid (few_any v L w hL hl)
  obtain ⟨ao, cap, rfl⟩ := hL.form
  have HKN := Lib.hid knows_true
  clear hL hl
  by_cases h0 : (2500 : Int) < (s.size : Int)
  · go_enter Try.func5, Try.ntmps5
    go_wp2_with fail
    refine HFW.out.mono ?_
    rintro r w0 ⟨⟨b, rfl, hbt⟩, rfl⟩
    cases b
    all_goals go_wp2_with fail
    all_goals refine (HKN.out _).mono ?_
    all_goals rintro r w1 ⟨rfl, hb1⟩
    all_goals go_wp2_with fail
    all_goals go_ret
    all_goals exact ⟨rfl, hb1⟩
  · obtain ⟨u, g, hpb, hug⟩ := put_back s (by omega)
    have HPB := Lib.hid hpb
    have HUG := Lib.hid hug
    have HD := Lib.hid (getD_bd s (by omega))
    have HAL := Lib.hid (allr_bif s (by omega))
    have hM1 := HD.out.1
    clear hpb hug
    generalize (allL s).getD [] = M at *
    generalize (allL s).isSome = I at *
    have hMl : M.length ≤ 3000 := by omega
    go_enter Try.func5, Try.ntmps5
    go_wp2_with fail
    refine HFW.out.mono ?_
    rintro r w0 ⟨⟨b, rfl, hbt⟩, rfl⟩
    clear HFW
    cases b with
    | false =>
      go_wp2_with fail
      refine (HKN.out _).mono ?_
      rintro r w1 ⟨rfl, hb1⟩
      go_wp2_with fail
      go_ret
      exact ⟨rfl, hb1⟩
    | true =>
      obtain ⟨h30, hm⟩ := hbt rfl
      have HM := Lib.hid hm
      have hfl := flat_size L h30 hm
      clear hm hbt
      have HP := Lib.hid (put_any _ L _ HL.out (by omega) HM.out)
      cases hf : L.all Pk.fine with
      | false =>
        have e1 : putV L = .tuple #[.string ⟨#[]⟩, .int .i64 1] := by unfold putV; rw [hf]; rfl
        rw [e1] at HP
        clear e1 hf hfl
        go_wp2_with fail
        refine HP.out.mono ?_
        rintro r w1 ⟨rfl, hb1⟩
        clear HP
        go_wp2_with fail
        refine (HAL.out _).mono ?_
        rintro r w5 ⟨v5, rfl, hown5, hb5⟩
        have hb05 := below_step hb1 hb5
        have HQ := Lib.hid (put_any _ M _ hown5.rows hMl HD.out.2)
        rw [HPB.out] at HQ
        obtain ⟨bo, cb, rfl⟩ := hown5.rows.form
        clear hown5 hb5 hb1 HAL
        go_wp2_with fail
        refine HQ.out.mono ?_
        rintro r w6 ⟨rfl, hb6⟩
        have hb06 := below_step hb05 hb6
        clear hb05 hb6 HQ
        go_wp2_with fail
        refine (HKN.out _).mono ?_
        rintro r w8 ⟨rfl, hb8⟩
        cases I with
        | false =>
          go_wp2_with fail
          go_ret
          exact ⟨rfl, below_step hb06 hb8⟩
        | true =>
          obtain ⟨rfl, rfl⟩ := HUG.out rfl
          go_wp2_with fail
          go_ret
          exact ⟨rfl, below_step hb06 hb8⟩
      | true =>
        have e1 : putV L = .tuple #[.string ⟨(L.flatMap Pk.enc).toArray⟩, .int .i64 0] := by unfold putV; rw [if_pos hf]
        rw [e1] at HP
        obtain ⟨T, hT⟩ : ∃ T : ByteArray, T = ⟨(L.flatMap Pk.enc).toArray⟩ := ⟨_, rfl⟩
        have hTs : T.size ≤ 40000 := by rw [hT]; exact hfl
        have hTl := all_of_put hf hT
        rw [← hT] at HP
        have HTA := Lib.hid (allr_bif T (by omega))
        rw [hTl] at HTA
        simp only [Option.isSome_some, cond_true, Option.getD_some] at HTA
        clear e1 hf hfl hT hTl hTs
        go_wp2_with fail
        refine HP.out.mono ?_
        rintro r w1 ⟨rfl, hb1⟩
        clear HP
        go_wp2_with fail
        refine (HTA.out _).mono ?_
        rintro r w2 ⟨v2, rfl, hown2, hb2⟩
        have hb02 := below_step hb1 hb2
        have HL2 := Lib.hid hown2.rows
        obtain ⟨bo, cb, rfl⟩ := HL2.out.form
        clear hown2 hb2 hb1 HTA
        go_wp2_with fail
        refine (as_any _ L _ (HL.out.below hb02) (by omega)).mono ?_
        rintro r w3 ⟨v3, rfl, hown3, hb3⟩
        have hb03 := below_step hb02 hb3
        have HL3 := Lib.hid hown3.rows
        have HL23 := Lib.hid (HL2.out.below hb3)
        obtain ⟨co, cc, rfl⟩ := HL3.out.form
        clear hown3 hb3 hb02
        go_wp2_with fail
        refine (as_any _ L _ HL23.out (by omega)).mono ?_
        rintro r w4 ⟨v4, rfl, hown4, hb4⟩
        have hb04 := below_step hb03 hb4
        have HL4 := Lib.hid hown4.rows
        have HL34 := Lib.hid (HL3.out.below hb4)
        obtain ⟨xo, xc, rfl⟩ := HL4.out.form
        clear hown4 hb4 hb03
        go_wp2_with fail
        refine (same_any L _ _ _ HL34.out HL4.out (by omega)).mono ?_
        rintro r w9 ⟨rfl, hb9⟩
        have hb09 := below_step hb04 hb9
        clear hb04 hb9
        go_wp2_with fail
        refine (HAL.out _).mono ?_
        rintro r w5 ⟨v5, rfl, hown5, hb5⟩
        have hb05 := below_step hb09 hb5
        have HQ := Lib.hid (put_any _ M _ hown5.rows hMl HD.out.2)
        rw [HPB.out] at HQ
        obtain ⟨yo, yc, rfl⟩ := hown5.rows.form
        clear hown5 hb5 hb09 HAL
        go_wp2_with fail
        refine HQ.out.mono ?_
        rintro r w6 ⟨rfl, hb6⟩
        have hb06 := below_step hb05 hb6
        clear hb05 hb6 HQ
        go_wp2_with fail
        refine (HKN.out _).mono ?_
        rintro r w8 ⟨rfl, hb8⟩
        cases I with
        | false =>
          go_wp2_with fail
          go_ret
          exact ⟨rfl, below_step hb06 hb8⟩
        | true =>
          obtain ⟨rfl, rfl⟩ := HUG.out rfl
          go_wp2_with fail
          go_ret
          exact ⟨rfl, below_step hb06 hb8⟩

end Go.Proofs.Ytdmijinlhiohbaa
