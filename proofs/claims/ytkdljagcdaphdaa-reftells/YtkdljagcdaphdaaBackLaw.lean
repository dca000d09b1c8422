/-
  THE WALK OF THE LAW RefBack: whatever the refs and the text, it answers true.
-/
import Derived.Test.YtkdljagcdaphdaaKn
import Derived.Test.YtkdljagcdaphdaaGetW
import Derived.Test.YtkdljagcdaphdaaPutW
namespace Go.Proofs.Ytkdljagcdaphdaa
open Go.RowKit
set_option linter.unusedVariables false
set_option linter.unusedSimpArgs false

theorem fine_len {L : List Rf.R} (h : Rf.fine L = true) : L.length ≤ 64 := ((Rf.fine_iff L).1 h).1
theorem fine_names {L : List Rf.R} (h : Rf.fine L = true) : ∀ r ∈ L, r.name.size ≤ 100 := fun r hr => by
  have := ((Rf.fine_iff L).1 h).2.1 r hr
  unfold Rf.okr Rf.nameOk at this
  simp at this
  omega

theorem text_most40 (L : List Rf.R) (h : Rf.Ok32 L) (hn : ∀ r ∈ L, r.name.size ≤ 40) : (Rf.textL L).length ≤ 106 * L.length := by
  induction L with
  | nil => simp [Rf.textL]
  | cons r t ih =>
    have h1 := ih (fun x hx => h x (by simp [hx])) (fun x hx => hn x (by simp [hx]))
    have h2 := S2.hexL_length r.id
    rw [h r (by simp)] at h2
    have h3 := hn r (by simp)
    rw [Rf.text_cons]
    simp [Rf.bodyL, h2] at h3 ⊢; omega

set_option maxHeartbeats 2000000 in
set_option maxRecDepth 100000 in
theorem back_any (v : Value) (L : List Rf.R) (s : ByteArray) (w : World) (hL : RefsAt w v L) (hl : L.length ≤ maxLen) (hs : s.size ≤ maxLen) :
    Calls Try.prog 4 #[v, .string s] w fun r w' => r = .returned (.bool true) ∧ Below w.heap.size w w' := by
  have HFW := Lib.hid (few_any v L w hL hl)
  have HL := Lib.hid hL
  have HID := Lib.hid hL.len
  unfold maxLen at hs
  clear hL hl
  go_enter Try.func4, Try.ntmps4
  go_wp2_with fail
  refine HFW.out.mono ?_
  rintro r wx ⟨⟨b1, rfl, h1⟩, rfl⟩
  have H1 := Lib.hid h1
  clear h1 HFW
  have KN := Lib.hid (knows_true w)
  cases b1 with
  | false =>
    go_wp2_with fail
    refine KN.out.mono ?_
    rintro r w1 ⟨rfl, hb⟩
    go_wp2_with fail
    go_ret
    exact ⟨rfl, hb⟩
  | true =>
    by_cases h15 : 1500 < s.size
    · have h15' : (1500 : Int) < (s.size : Int) := by omega
      clear h15
      go_wp2_with fail
      refine KN.out.mono ?_
      rintro r w1 ⟨rfl, hb⟩
      go_wp2_with fail
      go_ret
      exact ⟨rfl, hb⟩
    · have h15' : ¬ (1500 : Int) < (s.size : Int) := by omega
      have HGS := Lib.hid (fun W => get_any s W (by omega))
      have hl70 : L.length ≤ 70 := (H1.out rfl).1
      have HNL := Lib.hid (H1.out rfl).2
      clear H1 h15
      cases hf : Rf.fine L with
      | false =>
        have HPB := Lib.hid (put_bad v L w HL.out (fun r hr => by have := HNL.out r hr; unfold maxLen; omega) (by unfold maxLen; omega) hf)
        clear hf
        go_wp2_with fail
        refine HPB.out.mono ?_
        rintro r w2 ⟨rfl, hbW⟩
        clear HPB
        go_wp2_with fail
        refine (HGS.out _).mono ?_
        rintro r w3 (⟨L2, v2, hIs, hR2, rfl, hb3⟩ | ⟨hno, rfl, hb3⟩)
        · have hb03 := below_step hbW hb3
          have HR2 := Lib.hid hR2
          have HF2 := Lib.hid hIs.1
          have HN2 := Lib.hid (fine_names hIs.1)
          have HTX := Lib.hid (show (⟨(Rf.textL L2).toArray⟩ : ByteArray) = s from Rf.bytes_ext (by simpa using hIs.2.2))
          have HPT := Lib.hid (put_ok v2 L2 w3 hR2 HN2.out hIs.1)
          rw [HTX.out] at HPT
          have hl2 := fine_len hIs.1
          clear hIs hR2 hb3
          go_wp2_with fail
          refine HPT.out.mono ?_
          rintro r w4 ⟨rfl, hb4⟩
          have hb04 := below_step hb03 hb4
          have KN4 := Lib.hid (knows_true w4)
          have HR4 := Lib.hid (HR2.out.below hb4)
          clear HPT hb4 HTX
          go_wp2_with fail
          refine KN4.out.mono ?_
          rintro r w5 ⟨rfl, hb5⟩
          have hb05 := below_step hb04 hb5
          have HFI := Lib.hid (fine_any v2 L2 w5 (HR4.out.below hb5) (fun r hr => by have := HN2.out r hr; unfold maxLen; omega) (by unfold maxLen; omega))
          rw [HF2.out] at HFI
          clear hb5
          go_wp2_with fail
          refine HFI.out.mono ?_
          rintro r w6 ⟨rfl, hb6⟩
          go_wp2_with fail
          go_ret
          exact ⟨rfl, below_step hb05 hb6⟩
        · have hb03 := below_step hbW hb3
          have HPT := Lib.hid (put_ok (.slice none 0 0) [] w3 (RefsAt.nil _) (by simp) fine_0)
          clear hno hb3
          go_wp2_with fail
          refine HPT.out.mono ?_
          rintro r w4 ⟨rfl, hb4⟩
          have hb04 := below_step hb03 hb4
          have KN4 := Lib.hid (knows_true w4)
          clear HPT hb4
          go_wp2_with fail
          refine KN4.out.mono ?_
          rintro r w5 ⟨rfl, hb5⟩
          go_wp2_with fail
          go_ret
          exact ⟨rfl, below_step hb04 hb5⟩
      | true =>
        have HPB := Lib.hid (put_ok v L w HL.out HNL.out hf)
        have HIS := Lib.hid (show Rf.Is (Rf.textL L) L from ⟨hf, HID.out, rfl⟩)
        have hl64 := fine_len hf
        have htl : (⟨(Rf.textL L).toArray⟩ : ByteArray).size ≤ 10000 := by
          have := Rf.text_most L HID.out (fine_names hf)
          have h40 : (Rf.textL L).length ≤ 10000 := by
            have h2 := text_most40 L HID.out (fun r hr => by
              have := ((Rf.fine_iff L).1 hf).2.1 r hr
              unfold Rf.okr Rf.nameOk at this
              simp at this
              omega)
            omega
          show (Rf.textL L).toArray.size ≤ 10000
          simpa using h40
        have HGT := Lib.hid (fun W => get_any ⟨(Rf.textL L).toArray⟩ W htl)
        clear hf htl
        go_wp2_with fail
        refine HPB.out.mono ?_
        rintro r w1 ⟨rfl, hb1⟩
        clear HPB
        go_wp2_with fail
        refine (HGT.out _).mono ?_
        rintro r w2 (⟨M, v2, hIs, hR2, rfl, hb2⟩ | ⟨hno, rfl, hb2⟩)
        · obtain rfl : L = M := HIS.out.uniq (by simpa using hIs)
          have hb02 := below_step hb1 hb2
          have HSM := Lib.hid (same_any L _ _ w2 (HL.out.below hb02) hR2 (by omega))
          clear hIs hR2 hb1 hb2 HGT
          generalize Rf.textL L = T at *
          go_wp2_with fail
          refine HSM.out.mono ?_
          rintro r w2' ⟨rfl, hbx⟩
          have hbW := below_step hb02 hbx
          clear hbx hb02 HSM
          go_wp2_with fail
          refine (HGS.out _).mono ?_
          rintro r w3 (⟨L2, v2, hIs, hR2, rfl, hb3⟩ | ⟨hno, rfl, hb3⟩)
          · have hb03 := below_step hbW hb3
            have HR2 := Lib.hid hR2
            have HF2 := Lib.hid hIs.1
            have HN2 := Lib.hid (fine_names hIs.1)
            have HTX := Lib.hid (show (⟨(Rf.textL L2).toArray⟩ : ByteArray) = s from Rf.bytes_ext (by simpa using hIs.2.2))
            have HPT := Lib.hid (put_ok v2 L2 w3 hR2 HN2.out hIs.1)
            rw [HTX.out] at HPT
            have hl2 := fine_len hIs.1
            clear hIs hR2 hb3
            go_wp2_with fail
            refine HPT.out.mono ?_
            rintro r w4 ⟨rfl, hb4⟩
            have hb04 := below_step hb03 hb4
            have KN4 := Lib.hid (knows_true w4)
            have HR4 := Lib.hid (HR2.out.below hb4)
            clear HPT hb4 HTX
            go_wp2_with fail
            refine KN4.out.mono ?_
            rintro r w5 ⟨rfl, hb5⟩
            have hb05 := below_step hb04 hb5
            have HFI := Lib.hid (fine_any v2 L2 w5 (HR4.out.below hb5) (fun r hr => by have := HN2.out r hr; unfold maxLen; omega) (by unfold maxLen; omega))
            rw [HF2.out] at HFI
            clear hb5
            go_wp2_with fail
            refine HFI.out.mono ?_
            rintro r w6 ⟨rfl, hb6⟩
            go_wp2_with fail
            go_ret
            exact ⟨rfl, below_step hb05 hb6⟩
          · have hb03 := below_step hbW hb3
            have HPT := Lib.hid (put_ok (.slice none 0 0) [] w3 (RefsAt.nil _) (by simp) fine_0)
            clear hno hb3
            go_wp2_with fail
            refine HPT.out.mono ?_
            rintro r w4 ⟨rfl, hb4⟩
            have hb04 := below_step hb03 hb4
            have KN4 := Lib.hid (knows_true w4)
            clear HPT hb4
            go_wp2_with fail
            refine KN4.out.mono ?_
            rintro r w5 ⟨rfl, hb5⟩
            go_wp2_with fail
            go_ret
            exact ⟨rfl, below_step hb04 hb5⟩
        · exact absurd (by simpa using HIS.out) (hno L)

end Go.Proofs.Ytkdljagcdaphdaa
