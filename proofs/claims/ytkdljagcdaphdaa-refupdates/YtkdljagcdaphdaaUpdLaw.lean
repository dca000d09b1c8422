/-
  THE WALK OF THE LAW RefUpdates: whatever the refs and the updates, it answers true.
-/
import Derived.Test.YtkdljagcdaphdaaDUpd
namespace Go.Proofs.Ytkdljagcdaphdaa
open Go.RowKit
set_option linter.unusedVariables false
set_option linter.unusedSimpArgs false

theorem max70 {n : Nat} (h : n ≤ 70) : n ≤ maxLen := by unfold maxLen; omega
theorem max100n {n : Nat} (h : n ≤ 100) : n ≤ maxLen := by unfold maxLen; omega
theorem ownI_form {w : World} {B n : Nat} {v : Value} {es : List Nat} (h : OwnI w B v n es) : ∃ ao cap, v = .slice ao n cap := by
  rcases h.2 with ⟨rfl, h0⟩ | ⟨g, cap, cur, rfl, _⟩
  · exact ⟨none, 0, by rw [h0]⟩
  · exact ⟨_, cap, rfl⟩

set_option maxHeartbeats 2000000 in
set_option maxRecDepth 100000 in
theorem updates_any (v uv : Value) (all : Bool) (L : List Rf.R) (us : List Rf.U) (w : World) (hL : RefsAt w v L) (hU : UpsAt w uv us) (hl : L.length ≤ maxLen) (hul : us.length ≤ maxLen) (hui : ∀ u ∈ us, u.old.length = 32 ∧ u.new.length = 32) :
    Calls Try.prog 5 #[v, uv, .bool all] w fun r w' => r = .returned (.bool true) ∧ Below w.heap.size w w' := by
  have HFW := Lib.hid (few_any v L w hL hl)
  have HSH := Lib.hid (short_any uv us w hU hul)
  have HL := Lib.hid hL
  have HU := Lib.hid hU
  have HUI := Lib.hid hui
  have HID := Lib.hid hL.len
  clear hL hU hui hl hul
  go_enter Try.func5, Try.ntmps5
  go_wp2_with fail
  refine HFW.out.mono ?_
  rintro r wx ⟨⟨b1, rfl, h1⟩, rfl⟩
  have H1 := Lib.hid h1
  clear h1 HFW
  go_wp2_with fail
  refine HSH.out.mono ?_
  rintro r wx ⟨⟨b2, rfl, h2⟩, rfl⟩
  have H2 := Lib.hid h2
  clear h2 HSH
  have KN := Lib.hid (knows_true w)
  cases b1 with
  | false =>
    go_wp2_with fail
    refine KN.out.mono ?_
    rintro r w1 ⟨rfl, hb⟩
    go_wp2_with fail
    go_ret
    exact ⟨rfl, hb⟩
  | true =>
    cases b2 with
    | false =>
      go_wp2_with fail
      refine KN.out.mono ?_
      rintro r w1 ⟨rfl, hb⟩
      go_wp2_with fail
      go_ret
      exact ⟨rfl, hb⟩
    | true =>
      have HLL := Lib.hid ((H1.out rfl).1)
      have hu64 : us.length ≤ 64 := by have := (H2.out rfl).1; omega
      have HNL := Lib.hid (show ∀ r ∈ L, r.name.size ≤ maxLen from fun r hr => max100n ((H1.out rfl).2 r hr))
      have HUN := Lib.hid (show ∀ u ∈ us, u.old.length = 32 ∧ u.new.length = 32 ∧ u.name.size ≤ 1000 from fun u hu => ⟨(HUI.out u hu).1, (HUI.out u hu).2, by have := (H2.out rfl).2 u hu; omega⟩)
      have HFN := Lib.hid (fun W hb => reffine_any v L W (HL.out.below hb) HNL.out (max70 HLL.out))
      clear H1 H2
      cases hf : Rf.fine L with
      | false =>
        have HUB := Lib.hid (update_bad v uv all L w HL.out HNL.out (max70 HLL.out) hf)
        rw [hf] at HFN
        clear hf
        go_wp2_with fail
        refine HUB.out.mono ?_
        rintro r w1 ⟨rfl, hb1⟩
        clear HUB
        go_wp2_with fail
        refine (HFN.out w1 hb1).mono ?_
        rintro r w2 ⟨rfl, hb2⟩
        have hb02 := below_step hb1 hb2
        have KN2 := Lib.hid (knows_true w2)
        go_wp2_with fail
        refine KN2.out.mono ?_
        rintro r w3 ⟨rfl, hb3⟩
        go_wp2_with fail
        go_ret
        exact ⟨rfl, below_step hb02 hb3⟩
      | true =>
        have HUB := Lib.hid (update_ok v uv all L us w HL.out HNL.out hf HU.out hu64 HUN.out)
        have HRU := Lib.hid (fun W hb => refupdate_any v uv all L us W (HL.out.below hb) hf (HU.out.below hb) hu64 HUN.out)
        have HFM := Lib.hid (fine_len (Rf.upd_fine (us := us) (all := all) hf))
        have HLN := Lib.hid (Rf.upd_len L us all)
        rw [hf] at HFN
        clear hf
        go_wp2_with fail
        refine HUB.out.mono ?_
        rintro r w1 ⟨v1, gt, rfl, hr1, he1, hb1⟩
        have HR1 := Lib.hid hr1
        have HE1 := Lib.hid he1
        clear hr1 he1 HUB
        go_wp2_with fail
        refine (HFN.out w1 hb1).mono ?_
        rintro r w2 ⟨rfl, hb2⟩
        have hb02 := below_step hb1 hb2
        have HR2 := Lib.hid (HR1.out.below hb2)
        have HE2 := Lib.hid (HE1.out.kept (below_grown hb2) (by simp))
        clear HR1 HE1 hb2 hb1 HFN
        go_wp2_with fail
        refine (HRU.out w2 hb02).mono ?_
        rintro r w3 ⟨v3, vt, rfl, hr3, ht3, hb3⟩
        have hb03 := below_step hb02 hb3
        have HR3 := Lib.hid hr3
        have HR23 := Lib.hid (HR2.out.below hb3)
        have HE3 := Lib.hid (HE2.out.kept (below_grown hb3) (by simp))
        have HT3 := Lib.hid ht3
        obtain ⟨to, tc, rfl⟩ := ownI_form ht3
        clear hr3 ht3 HR2 HE2 hb3 HRU
        generalize (Rf.upd L us all).1 = M at *
        generalize (Rf.upd L us all).2 = ES at *
        go_wp2_with fail
        refine (same_any M _ _ w3 HR23.out HR3.out (by have := HFM.out; omega)).mono ?_
        rintro r w4 ⟨rfl, hb4⟩
        have hb04 := below_step hb03 hb4
        have HE4 := Lib.hid (HE3.out.kept (below_grown hb4) (by simp))
        have HT4 := Lib.hid (show OwnI w4 w2.heap.size (.slice to us.length tc) us.length ES from own_below HT3.out hb4)
        have k5 : ((us.length : Int) != (us.length : Int)) = false := by simp
        clear HR3 HR23 HE3 HT3 hb4
        go_wp2_with fail
        go_loopw [16] (fun i wr => ∃ k : Nat, k ≤ us.length ∧ i = .int .i64 k ∧ ∃ m, wr = w4.drewN m) (fun i _ => us.length - (intOf i).toNat)
        case atStart => exact ⟨0, by omega, rfl, 0, rfl⟩
        case round =>
          obtain ⟨k, hk, rfl, m, rfl⟩ := hrel
          by_cases hlt : k < us.length
          · have hlt' : (k : Int) < (us.length : Int) := by omega
            have hk0 : (0 : Int) ≤ (k : Int) := by omega
            obtain ⟨e, he⟩ : ∃ e, ES[k]? = some e := ⟨ES[k]'(by rw [HLN.out]; exact hlt), List.getElem?_eq_getElem _⟩
            obtain ⟨g, cap, hv, _, _⟩ := World.ownsRow.form HT4.out (by omega)
            simp only [Value.slice.injEq, true_and] at hv
            obtain ⟨rfl, rfl⟩ := hv
            have c1 : w4.cell? ⟨gt, k, none⟩ = some (.int .i64 (e : Int)) := HE4.out.cell k e he
            have c2 : w4.cell? ⟨g, k, none⟩ = some (.int .i64 (e : Int)) := by
              rw [World.ownsRow.cellAt HT4.out k (by omega)]; simp only [errC, List.getElem?_map, he]; rfl
            have k6 : ((e : Int) != (e : Int)) = false := by simp
            clear he
            go_wp2_with fail
            go_quiet (fail)
            go_wp2_with fail
            go_roundw
            case rel => exact ⟨k + 1, by omega, by go_num, _, rfl⟩
            case measure => simp [intOf]; omega
          · have k4 : ¬ (k : Int) < (us.length : Int) := by omega
            have hb0 := bel_drewN hb04 m
            have KN5 := Lib.hid (knows_true (w4.drewN m))
            go_wp2_with fail
            refine KN5.out.mono ?_
            rintro r w6 ⟨rfl, hb6⟩
            go_wp2_with fail
            go_ret
            exact ⟨rfl, below_step hb0 hb6⟩

end Go.Proofs.Ytkdljagcdaphdaa
