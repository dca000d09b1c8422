/-
  THE WALK OF THE LAW CapsTells: whatever the words, the text and the word, it answers true.
-/
import Derived.Test.YtkdljagcdaphdabDoorPutW
import Derived.Test.YtkdljagcdaphdabDoorDGet
import Derived.Test.YtkdljagcdaphdabDoorTellsA
namespace Go.Proofs.YtkdljagcdaphdabDoor
open Go.RowKit
set_option linter.unusedVariables false
set_option linter.unusedSimpArgs false

set_option maxHeartbeats 4000000 in
set_option maxRecDepth 100000 in
theorem tells_good (v : Value) (L : List ByteArray) (s wd : ByteArray) (w : World) (hL : StrsAt w v L) (hl : L.length ≤ maxLen) (hs : s.size ≤ maxLen) (hwd : wd.size ≤ maxLen) (hf : Cp.fine L = true) :
    Calls Tryd.prog 3 #[v, .string s, .string wd] w fun r w' => r = .returned (.bool true) ∧ Below w.heap.size w w' := by
  have HFW := Lib.hid (few_any v L w hL hl)
  have HL := Lib.hid hL
  have HF := Lib.hid hf
  unfold maxLen at hs hwd
  clear hL hl hf
  go_enter Tryd.func3, Tryd.ntmps3
  go_wp2_with fail
  refine HFW.out.mono ?_
  rintro r wx ⟨⟨b1, rfl, h1⟩, rfl⟩
  have H1 := Lib.hid h1
  clear h1 HFW
  have KN := Lib.hid (knows_true w)
  cases b1 with
  | false =>
    go_wp2_with fail
    refine KN.out.mono ?_
    rintro r w1 ⟨rfl, hb⟩
    go_wp2_with fail
    go_ret
    exact ⟨rfl, hb⟩
  | true =>
    by_cases h15 : 500 < s.size
    · have h15' : (500 : Int) < (s.size : Int) := by omega
      clear h15
      go_wp2_with fail
      refine KN.out.mono ?_
      rintro r w1 ⟨rfl, hb⟩
      go_wp2_with fail
      go_ret
      exact ⟨rfl, hb⟩
    · have h15' : ¬ (500 : Int) < (s.size : Int) := by omega
      by_cases h10 : 100 < wd.size
      · have h10' : (100 : Int) < (wd.size : Int) := by omega
        clear h10
        go_wp2_with fail
        refine KN.out.mono ?_
        rintro r w1 ⟨rfl, hb⟩
        go_wp2_with fail
        go_ret
        exact ⟨rfl, hb⟩
      · have h10' : ¬ (100 : Int) < (wd.size : Int) := by omega
        have HGS := Lib.hid (fun W => get_any s W (by omega))
        have HRG := Lib.hid (fun W => refget_any s W (by omega))
        have hl70 : L.length ≤ 30 := (H1.out rfl).1
        have HNL := Lib.hid (H1.out rfl).2
        have HNM := Lib.hid (show ∀ r ∈ L, r.size ≤ maxLen from fun r hr => by have := HNL.out r hr; unfold maxLen; omega)
        have HFI := Lib.hid (fun W hb => fine_any v L W (HL.out.below hb) HNM.out (by unfold maxLen; omega))
        have HRF := Lib.hid (reffine_any v L w HL.out HNM.out (by unfold maxLen; omega))
        rw [HF.out] at HFI HRF
        clear H1 h15 h10
        go_wp2_with fail
        refine HRF.out.mono ?_
        rintro r w1 ⟨rfl, hb1⟩
        clear HRF
        have HPB := Lib.hid (put_ok v L w1 (HL.out.below hb1) HF.out)
        have HRP := Lib.hid (fun W hb => refput_any v L W (HL.out.below hb) (by omega) HNL.out)
        generalize Cp.textL L = T at HPB HRP
        go_wp2_with fail
        refine HPB.out.mono ?_
        rintro r w2 ⟨rfl, hb2⟩
        have hbW := below_step hb1 hb2
        clear HPB hb2 hb1
        generalize (⟨T.toArray⟩ : ByteArray) = tx at *
        go_wp2_with fail
        refine (HFI.out _ hbW).mono ?_
        rintro r wx ⟨rfl, rfl⟩
        clear HFI
        go_wp2_with fail
        refine (HRP.out _ hbW).mono ?_
        rintro r wx ⟨rfl, rfl⟩
        clear HRP
        go_wp2_with fail
        refine (HGS.out _).mono ?_
        rintro r w3 (⟨L2, v2, hIs, hR2, rfl, hb3⟩ | ⟨hno, rfl, hb3⟩)
        · have hb03 := below_step hbW hb3
          have HR2 := Lib.hid hR2
          have HIS := Lib.hid hIs
          clear hIs hR2 hb3
          go_wp2_with fail
          refine (HRG.out _).mono ?_
          rintro r w4 (⟨L3, v3, hIs3, hR3, rfl, hb4⟩ | ⟨hno, rfl, hb4⟩)
          · obtain rfl : L2 = L3 := Cp.Is.uniq (s := s) HIS.out hIs3
            have hb04 := below_step hb03 hb4
            have HR4 := Lib.hid (HR2.out.below hb4)
            have HSM := Lib.hid (same_any L2 _ _ w4 HR4.out hR3 (by have := Cp.fine_len HIS.out.1; omega))
            have HTX := Lib.hid (show (⟨(Cp.textL L2).toArray⟩ : ByteArray) = s from Cp.bytes_ext (by simpa using HIS.out.2))
            have HPT := Lib.hid (fun W (h : StrsAt W v2 L2) => put_ok v2 L2 W h HIS.out.1)
            rw [HTX.out] at HPT
            clear hIs3 hR3 hb4 HR2 HIS HTX
            go_wp2_with fail
            refine HSM.out.mono ?_
            rintro r w5 ⟨rfl, n5, hw⟩
            have hb05 : Below w.heap.size w w5 := by rw [hw]; exact bel_drewN hb04 _
            have HR5 := Lib.hid (show StrsAt w5 v2 L2 by rw [hw]; exact HR4.out.drawn _)
            clear hw hb04 HR4 HSM hb03
            go_wp2_with fail
            refine (HPT.out w5 HR5.out).mono ?_
            rintro r w6 ⟨rfl, hb6⟩
            have hbz := below_step hb05 hb6
            have KNz := Lib.hid (knows_true w6)
            have hss : (s.toList == s.toList) = true := by simp
            clear hb6 hb05 HR5 HPT
            go_wp2_with fail
            refine KNz.out.mono ?_
            rintro r wk ⟨rfl, hbk⟩
            have hb0k := below_step hbz hbk
            have HH1 := Lib.hid (has_any v L wd wk (HL.out.below hb0k) (by unfold maxLen; omega))
            have HH2 := Lib.hid (refhas_any v L wd wk (HL.out.below hb0k) (by unfold maxLen; omega))
            generalize Cp.hasW L wd = hz at HH1 HH2
            have hbb1 : (hz == hz) = true := by simp
            clear hbk KNz
            go_wp2_with fail
            refine HH1.out.mono ?_
            rintro r wx ⟨rfl, rfl⟩
            go_wp2_with fail
            refine HH2.out.mono ?_
            rintro r wx ⟨rfl, rfl⟩
            go_wp2_with fail
            go_ret
            exact ⟨rfl, hb0k⟩
          · exact absurd HIS.out (hno L2)
        · have hb03 := below_step hbW hb3
          go_wp2_with fail
          refine (HRG.out _).mono ?_
          rintro r w4 (⟨L3, v3, hIs3, hR3, rfl, hb4⟩ | ⟨hno2, rfl, hb4⟩)
          · exact absurd hIs3 (hno L3)
          · have hb04 := below_step hb03 hb4
            have HSM := Lib.hid (same_any [] _ _ w4 (StrsAt.nil _) (StrsAt.nil _) (by simp))
            clear hno hno2 hb4 hb3
            go_wp2_with fail
            refine HSM.out.mono ?_
            rintro r w5 ⟨rfl, n5, hw⟩
            have hb05 : Below w.heap.size w w5 := by rw [hw]; exact bel_drewN hb04 _
            have HPT := Lib.hid (put_ok (.slice none 0 0) [] w5 (StrsAt.nil _) fine_nil)
            clear hw hb04 HSM hb03
            go_wp2_with fail
            refine HPT.out.mono ?_
            rintro r w6 ⟨rfl, hb6⟩
            have hbz := below_step hb05 hb6
            have KNz := Lib.hid (knows_true w6)
            clear hb6 hb05 HPT
            go_wp2_with fail
            refine KNz.out.mono ?_
            rintro r wk ⟨rfl, hbk⟩
            have hb0k := below_step hbz hbk
            have HH1 := Lib.hid (has_any v L wd wk (HL.out.below hb0k) (by unfold maxLen; omega))
            have HH2 := Lib.hid (refhas_any v L wd wk (HL.out.below hb0k) (by unfold maxLen; omega))
            generalize Cp.hasW L wd = hz at HH1 HH2
            have hbb1 : (hz == hz) = true := by simp
            clear hbk KNz
            go_wp2_with fail
            refine HH1.out.mono ?_
            rintro r wx ⟨rfl, rfl⟩
            go_wp2_with fail
            refine HH2.out.mono ?_
            rintro r wx ⟨rfl, rfl⟩
            go_wp2_with fail
            go_ret
            exact ⟨rfl, hb0k⟩

theorem tells_any (v : Value) (L : List ByteArray) (s wd : ByteArray) (w : World) (hL : StrsAt w v L) (hl : L.length ≤ maxLen) (hs : s.size ≤ maxLen) (hwd : wd.size ≤ maxLen) :
    Calls Tryd.prog 3 #[v, .string s, .string wd] w fun r w' => r = .returned (.bool true) ∧ Below w.heap.size w w' := by
  cases hf : Cp.fine L with
  | false => exact tells_bad v L s wd w hL hl hs hwd hf
  | true => exact tells_good v L s wd w hL hl hs hwd hf

end Go.Proofs.YtkdljagcdaphdabDoor
