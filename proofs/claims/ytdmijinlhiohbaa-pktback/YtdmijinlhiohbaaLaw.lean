/-
  THE WALK OF THE LAW PktPuts: whatever the lines, it answers true.
-/
import Derived.Test.YtdmijinlhiohbaaWalksE
namespace Go.Proofs.Ytdmijinlhiohbaa
open Go.RowKit
set_option linter.unusedVariables false
set_option linter.unusedSimpArgs false
open Pk (Ln)

/-- The lines of the document's example. -/
def exL : List Ln := [⟨0, ⟨#[104, 105]⟩⟩, ⟨1, ⟨#[]⟩⟩]
theorem ex_put : putV exL = .tuple #[.string ⟨#[48, 48, 48, 54, 104, 105, 48, 48, 48, 48]⟩, .int .i64 0] := by
  unfold putV
  rw [if_pos (by decide +kernel)]
  rw [show (exL.flatMap Pk.enc) = [48, 48, 48, 54, 104, 105, 48, 48, 48, 48] by decide +kernel]
theorem ex_get3 : Pk.get ⟨#[48, 48, 48, 51]⟩ = none := by
  rw [Pk.get_of_rd (n := 3) (by decide +kernel)]; rfl
theorem ex_get6 : Pk.get ⟨#[48, 48, 48, 54, 104]⟩ = none := by
  rw [Pk.get_of_rd (n := 6) (by decide +kernel)]; rfl
theorem ex_lines (w : World) (t : TypeId) : LinesAt (w.alloc (.cells #[.int .i64 0, .string ⟨#[104, 105]⟩, .int .i64 1, .string ⟨#[]⟩] t)) (.slice (some ⟨w.heap.size, 0, none⟩) 2 2) exL := by
  refine ⟨.inr ⟨⟨w.heap.size, 0, none⟩, 2, rfl, fun i e hi => ?_⟩⟩
  have key : ∀ j x, (#[Value.int .i64 0, .string ⟨#[104, 105]⟩, .int .i64 1, .string ⟨#[]⟩] : Array Value)[j]? = some x → (w.alloc (.cells #[.int .i64 0, .string ⟨#[104, 105]⟩, .int .i64 1, .string ⟨#[]⟩] t)).cell? ⟨w.heap.size, j, none⟩ = some x := fun j x hx => by
    rw [cell_of_row _ _ j _ _ _ (heap_alloc_new _ _)]; exact hx
  match i with
  | 0 =>
    simp [exL] at hi; subst hi
    exact ⟨key 0 _ rfl, key 1 _ rfl⟩
  | 1 =>
    simp [exL] at hi; subst hi
    exact ⟨key 2 _ rfl, key 3 _ rfl⟩
  | i + 2 => simp [exL] at hi

set_option maxHeartbeats 1000000 in
set_option maxRecDepth 100000 in
theorem knows_true (w : World) : Calls Try.prog 7 #[] w fun r w' => r = .returned (.bool true) ∧ Below w.heap.size w w' := by
  have HP := Lib.hid (put_any _ exL _ (ex_lines w 33) (by decide) (by intro e he; simp [exL] at he; rcases he with rfl | rfl <;> decide))
  rw [ex_put] at HP
  have HG := Lib.hid (fun W => get_any ⟨#[48, 48, 48, 51]⟩ W (by decide))
  have HH := Lib.hid (fun W => get_any ⟨#[48, 48, 48, 54, 104]⟩ W (by decide))
  unfold GetR at HG HH
  rw [ex_get3] at HG
  rw [ex_get6] at HH
  unfold getV lnV at HG HH
  go_enter Try.func7, Try.ntmps7
  go_wp2_with fail
  refine HP.out.mono ?_
  rintro r w1 ⟨rfl, hb1⟩
  have hb01 := below_step (below_new _ _) hb1
  clear HP hb1
  go_wp2_with fail
  refine (HG.out _).mono ?_
  rintro r w2 ⟨rfl, hb2⟩
  have hb02 := below_step hb01 hb2
  clear hb2 hb01
  go_wp2_with fail
  refine (HH.out _).mono ?_
  rintro r w3 ⟨rfl, hb3⟩
  have hb03 := below_step (hb02.alloc hb02.size _) hb3
  clear hb3 hb02
  go_wp2_with fail
  go_ret
  exact ⟨rfl, hb03.alloc hb03.size _⟩

set_option maxHeartbeats 1000000 in
set_option maxRecDepth 100000 in
theorem pktputs_any (v : Value) (L : List Ln) (w : World) (hL : LinesAt w v L) (hl : L.length ≤ maxLen) :
    Calls Try.prog 3 #[v] w fun r w' => r = .returned (.bool true) ∧ Below w.heap.size w w' := by
  have HL := Lib.hid hL
  have HFW := Lib.hid (few_any v L w hL hl)
  obtain ⟨ao, cap, rfl⟩ := hL.form
  clear hL hl
  go_enter Try.func3, Try.ntmps3
  go_wp2_with fail
  refine HFW.out.mono ?_
  rintro r w0 ⟨⟨b, rfl, hbt⟩, rfl⟩
  cases b with
  | false =>
    go_wp2_with fail
    refine (knows_true _).mono ?_
    rintro r w1 ⟨rfl, hb1⟩
    go_wp2_with fail
    go_ret
    exact ⟨rfl, hb1⟩
  | true =>
    obtain ⟨h30, hm⟩ := hbt rfl
    have HM := Lib.hid hm
    clear hm hbt
    have HP := Lib.hid (put_any _ L _ HL.out (by omega) HM.out)
    cases hf : L.all Pk.fine with
    | true =>
      have e1 : putV L = .tuple #[.string ⟨(L.flatMap Pk.enc).toArray⟩, .int .i64 0] := by unfold putV; rw [if_pos hf]
      have HE2 := Lib.hid (show rputV L = .tuple #[.string ⟨(L.flatMap Pk.enc).toArray⟩, .bool true] by unfold rputV; rw [if_pos hf])
      rw [e1] at HP
      clear e1 hf
      generalize (⟨(L.flatMap Pk.enc).toArray⟩ : ByteArray) = T at *
      go_wp2_with fail
      refine HP.out.mono ?_
      rintro r w1 ⟨rfl, hb1⟩
      go_wp2_with fail
      refine (as_any _ L w1 (HL.out.below hb1) (by omega)).mono ?_
      rintro r w2 ⟨v2, rfl, hown2, hb2⟩
      have hb02 := below_step hb1 hb2
      have HR := Lib.hid (refput_any _ L w2 hown2.rows (by omega) HM.out)
      rw [HE2.out] at HR
      clear hown2 hb1 hb2
      go_wp2_with fail
      refine HR.out.mono ?_
      rintro r w3 ⟨rfl, hb3⟩
      have hb03 := below_step hb02 hb3
      clear hb3 hb02
      go_wp2_with fail
      refine (knows_true _).mono ?_
      rintro r w4 ⟨rfl, hb4⟩
      go_wp2_with fail
      go_ret
      exact ⟨rfl, below_step hb03 hb4⟩
    | false =>
      have e1 : putV L = .tuple #[.string ⟨#[]⟩, .int .i64 1] := by unfold putV; rw [hf]; rfl
      have HE2 := Lib.hid (show rputV L = .tuple #[.string ⟨#[]⟩, .bool false] by unfold rputV; rw [hf]; rfl)
      rw [e1] at HP
      clear e1 hf
      go_wp2_with fail
      refine HP.out.mono ?_
      rintro r w1 ⟨rfl, hb1⟩
      go_wp2_with fail
      refine (as_any _ L w1 (HL.out.below hb1) (by omega)).mono ?_
      rintro r w2 ⟨v2, rfl, hown2, hb2⟩
      have hb02 := below_step hb1 hb2
      have HR := Lib.hid (refput_any _ L w2 hown2.rows (by omega) HM.out)
      rw [HE2.out] at HR
      clear hown2 hb1 hb2
      go_wp2_with fail
      refine HR.out.mono ?_
      rintro r w3 ⟨rfl, hb3⟩
      have hb03 := below_step hb02 hb3
      clear hb3 hb02
      go_wp2_with fail
      refine (knows_true _).mono ?_
      rintro r w4 ⟨rfl, hb4⟩
      go_wp2_with fail
      go_ret
      exact ⟨rfl, below_step hb03 hb4⟩

end Go.Proofs.Ytdmijinlhiohbaa
