/-
  THE WALK OF THE LAW RefTells: whatever the refs, the text and the name, it answers true.
-/
import Derived.Test.YtkdljagcdaphdaaBackLaw
import Derived.Test.YtkdljagcdaphdaaDGet
import Derived.Test.YtkdljagcdaphdaaTellsA
namespace Go.Proofs.Ytkdljagcdaphdaa
open Go.RowKit
set_option linter.unusedVariables false
set_option linter.unusedSimpArgs false

set_option maxHeartbeats 4000000 in
set_option maxRecDepth 100000 in
theorem tells_good (v : Value) (L : List Rf.R) (s nm : ByteArray) (w : World) (hL : RefsAt w v L) (hl : L.length ≤ maxLen) (hs : s.size ≤ maxLen) (hnm : nm.size ≤ maxLen) (hf : Rf.fine L = true) :
    Calls Try.prog 3 #[v, .string s, .string nm] w fun r w' => r = .returned (.bool true) ∧ Below w.heap.size w w' := by
  have HFW := Lib.hid (few_any v L w hL hl)
  have HL := Lib.hid hL
  have HID := Lib.hid hL.len
  have HF := Lib.hid hf
  unfold maxLen at hs hnm
  clear hL hl hf
  go_enter Try.func3, Try.ntmps3
  go_wp2_with fail
  refine HFW.out.mono ?_
  rintro r wx ⟨⟨b1, rfl, h1⟩, rfl⟩
  have H1 := Lib.hid h1
  clear h1 HFW
  have KN := Lib.hid (knows_true w)
  cases b1 with
  | false =>
    go_wp2_with fail
    refine KN.out.mono ?_
    rintro r w1 ⟨rfl, hb⟩
    go_wp2_with fail
    go_ret
    exact ⟨rfl, hb⟩
  | true =>
    by_cases h15 : 1500 < s.size
    · have h15' : (1500 : Int) < (s.size : Int) := by omega
      clear h15
      go_wp2_with fail
      refine KN.out.mono ?_
      rintro r w1 ⟨rfl, hb⟩
      go_wp2_with fail
      go_ret
      exact ⟨rfl, hb⟩
    · have h15' : ¬ (1500 : Int) < (s.size : Int) := by omega
      by_cases h10 : 100 < nm.size
      · have h10' : (100 : Int) < (nm.size : Int) := by omega
        clear h10
        go_wp2_with fail
        refine KN.out.mono ?_
        rintro r w1 ⟨rfl, hb⟩
        go_wp2_with fail
        go_ret
        exact ⟨rfl, hb⟩
      · have h10' : ¬ (100 : Int) < (nm.size : Int) := by omega
        have HGS := Lib.hid (fun W => get_any s W (by omega))
        have HRG := Lib.hid (fun W => refget_any s W (by omega))
        have hl70 : L.length ≤ 70 := (H1.out rfl).1
        have HNL := Lib.hid (H1.out rfl).2
        have HNM := Lib.hid (show ∀ r ∈ L, r.name.size ≤ maxLen from fun r hr => by have := HNL.out r hr; unfold maxLen; omega)
        have HFI := Lib.hid (fun W hb => fine_any v L W (HL.out.below hb) HNM.out (by unfold maxLen; omega))
        have HRF := Lib.hid (reffine_any v L w HL.out HNM.out (by unfold maxLen; omega))
        rw [HF.out] at HFI HRF
        clear H1 h15 h10
        go_wp2_with fail
        refine HRF.out.mono ?_
        rintro r w1 ⟨rfl, hb1⟩
        clear HRF
        have HPB := Lib.hid (put_ok v L w1 (HL.out.below hb1) HNL.out HF.out)
        have HRP := Lib.hid (fun W hb => refput_any v L W (HL.out.below hb) (fun r hr => by have := HNL.out r hr; omega) (by omega))
        have HTT := Lib.hid (show Rf.textL L = Rf.textL L from rfl)
        generalize Rf.textL L = T at HPB HRP
        go_wp2_with fail
        refine HPB.out.mono ?_
        rintro r w2 ⟨rfl, hb2⟩
        have hb02 := below_step hb1 hb2
        clear HPB hb2 hb1 HTT
        generalize (⟨T.toArray⟩ : ByteArray) = tx at *
        go_wp2_with fail
        refine (HFI.out _ hb02).mono ?_
        rintro r w2' ⟨rfl, hbx⟩
        have hbV := below_step hb02 hbx
        clear hbx hb02 HFI
        go_wp2_with fail
        refine (HRP.out _ hbV).mono ?_
        rintro r w2'' ⟨rfl, hby⟩
        have hbW := below_step hbV hby
        clear hby hbV HRP
        go_wp2_with fail
        refine (HGS.out _).mono ?_
        rintro r w3 (⟨L2, v2, hIs, hR2, rfl, hb3⟩ | ⟨hno, rfl, hb3⟩)
        · have hb03 := below_step hbW hb3
          have HR2 := Lib.hid hR2
          have HIS := Lib.hid hIs
          clear hIs hR2 hb3
          go_wp2_with fail
          refine (HRG.out _).mono ?_
          rintro r w4 (⟨L3, v3, hIs3, hR3, rfl, hb4⟩ | ⟨hno, rfl, hb4⟩)
          · obtain rfl : L2 = L3 := HIS.out.uniq hIs3
            have hb04 := below_step hb03 hb4
            have HSM := Lib.hid (same_any L2 _ _ w4 (HR2.out.below hb4) hR3 (by have := fine_len HIS.out.1; omega))
            clear hIs3 hR3 hb4 HR2 HIS
            go_wp2_with fail
            refine HSM.out.mono ?_
            rintro r w5 ⟨rfl, hb5⟩
            have hb0 := below_step hb04 hb5
            clear hb5 hb04 HSM hb03
            have HX1 := Lib.hid (find_len (n := nm) HID.out)
            have HFD := Lib.hid (fun W hb => find_any v L nm W (HL.out.below hb) (by unfold maxLen; omega))
            have HRD := Lib.hid (fun W hb => reffind_any v L nm W (HL.out.below hb) (by unfold maxLen; omega))
            have HN1 := Lib.hid (fun W => name_any nm W (by unfold maxLen; omega))
            have HN2 := Lib.hid (fun W => refname_any nm W (by unfold maxLen; omega))
            have hq := fun W => eq_id ((Rf.find L nm).getD Rf.zid) ((Rf.find L nm).getD Rf.zid) HX1.out HX1.out W
            have HFV := Lib.hid (findV_eq (Rf.find L nm))
            rw [show decide ((Rf.find L nm).getD Rf.zid = (Rf.find L nm).getD Rf.zid) = true by simp] at hq
            rw [HFV.out] at HFD HRD
            generalize (Rf.find L nm).getD Rf.zid = fid at *
            generalize (Rf.find L nm).isSome = fb at *
            generalize Rf.nameOk nm = nk at *
            clear HFV
            go_wp2_with fail
            refine (HFD.out _ hb0).mono ?_
            rintro r w7 ⟨rfl, hb7⟩
            have hb07 := below_step hb0 hb7
            have HB8 := Lib.hid (below_step hb07 (below_new w7 (.cells (idC fid).toArray 35)))
            have HG8 := Lib.hid (heap_alloc_new w7 (.cells (idC fid).toArray 35))
            have hz8 : w7.heap.size < (w7.alloc (.cells (idC fid).toArray 35)).heap.size := by simp
            clear hb7 hb07 HFD
            go_wp2_with ((with_reducible apply st_id (l := fid) (hl := HX1.out)); rfl; rfl; rfl; rfl; rfl)
            generalize w7.heap.size = g7 at *
            generalize w7.alloc (.cells (idC fid).toArray 35) = w8 at *
            refine (HRD.out _ HB8.out).mono ?_
            rintro r w9 ⟨rfl, hb9⟩
            have HG9 := Lib.hid ((hb9.block g7 hz8).trans HG8.out)
            have hz9 : g7 < w9.heap.size := by have := hb9.size; omega
            have hb09 := below_step HB8.out hb9
            have HBa := Lib.hid (below_step hb09 (below_new w9 (.cells (idC fid).toArray 35)))
            have HGa := Lib.hid (heap_alloc_new w9 (.cells (idC fid).toArray 35))
            have HGb := Lib.hid ((Below.heap_alloc w9 (.cells (idC fid).toArray 35) g7 hz9).trans HG9.out)
            have hza : w9.heap.size < (w9.alloc (.cells (idC fid).toArray 35)).heap.size := by simp
            have hzb : g7 < (w9.alloc (.cells (idC fid).toArray 35)).heap.size := by simp; omega
            clear hb9 hb09 HRD HG9 HG8 HB8 hz8
            go_wp2_with ((with_reducible apply st_id (l := fid) (hl := HX1.out)); rfl; rfl; rfl; rfl; rfl)
            generalize w9.heap.size = g9 at *
            generalize w9.alloc (.cells (idC fid).toArray 35) = wa at *
            have KNa := Lib.hid (knows_true wa)
            refine KNa.out.mono ?_
            rintro r wc ⟨rfl, hbc⟩
            have HRa := Lib.hid (show wc.rangeAt g9 0 (idC fid) from fun j u hu => by rw [cell_of_row _ _ _ _ _ _ ((hbc.block g9 hza).trans HGa.out)]; simpa using hu)
            have HRb := Lib.hid (show wc.rangeAt g7 0 (idC fid) from fun j u hu => by rw [cell_of_row _ _ _ _ _ _ ((hbc.block g7 hzb).trans HGb.out)]; simpa using hu)
            have hb0c := below_step HBa.out hbc
            clear hbc KNa
            have hbb1 : (fb == fb) = true := by simp
            have hbb2 : (nk == nk) = true := by simp
            go_wp2_with (first
              | ((fail_if_success (fail_if_success go_guarded)); (with_reducible refine ldg_idm (x := .tmp 16) (b := g7) (o := 0) ?_ ?_ ?_ HRb.out HX1.out ?_); rfl; rfl; kernel_rfl)
              | ((fail_if_success (fail_if_success go_guarded)); (with_reducible refine ldg_idm (x := .tmp 18) (b := g9) (o := 0) ?_ ?_ ?_ HRa.out HX1.out ?_); rfl; rfl; kernel_rfl)
              | (go_at_call 18; ((with_reducible refine (HN1.out _).mono ?_); rintro r wd ⟨rfl, rfl⟩))
              | (go_at_call 19; ((with_reducible refine (HN2.out _).mono ?_); rintro r wd ⟨rfl, rfl⟩)))
            go_ret
            exact ⟨rfl, hb0c⟩
          · exact absurd HIS.out (hno L2)
        · have hb03 := below_step hbW hb3
          go_wp2_with fail
          refine (HRG.out _).mono ?_
          rintro r w4 (⟨L3, v3, hIs3, hR3, rfl, hb4⟩ | ⟨hno2, rfl, hb4⟩)
          · exact absurd hIs3 (hno L3)
          · have hb04 := below_step hb03 hb4
            have HSM := Lib.hid (same_any [] _ _ w4 (RefsAt.nil _) (RefsAt.nil _) (by simp))
            clear hno hno2 hb4 hb3
            go_wp2_with fail
            refine HSM.out.mono ?_
            rintro r w5 ⟨rfl, hb5⟩
            have hb0 := below_step hb04 hb5
            clear hb5 hb04 HSM hb03
            have HX1 := Lib.hid (find_len (n := nm) HID.out)
            have HFD := Lib.hid (fun W hb => find_any v L nm W (HL.out.below hb) (by unfold maxLen; omega))
            have HRD := Lib.hid (fun W hb => reffind_any v L nm W (HL.out.below hb) (by unfold maxLen; omega))
            have HN1 := Lib.hid (fun W => name_any nm W (by unfold maxLen; omega))
            have HN2 := Lib.hid (fun W => refname_any nm W (by unfold maxLen; omega))
            have hq := fun W => eq_id ((Rf.find L nm).getD Rf.zid) ((Rf.find L nm).getD Rf.zid) HX1.out HX1.out W
            have HFV := Lib.hid (findV_eq (Rf.find L nm))
            rw [show decide ((Rf.find L nm).getD Rf.zid = (Rf.find L nm).getD Rf.zid) = true by simp] at hq
            rw [HFV.out] at HFD HRD
            generalize (Rf.find L nm).getD Rf.zid = fid at *
            generalize (Rf.find L nm).isSome = fb at *
            generalize Rf.nameOk nm = nk at *
            clear HFV
            go_wp2_with fail
            refine (HFD.out _ hb0).mono ?_
            rintro r w7 ⟨rfl, hb7⟩
            have hb07 := below_step hb0 hb7
            have HB8 := Lib.hid (below_step hb07 (below_new w7 (.cells (idC fid).toArray 35)))
            have HG8 := Lib.hid (heap_alloc_new w7 (.cells (idC fid).toArray 35))
            have hz8 : w7.heap.size < (w7.alloc (.cells (idC fid).toArray 35)).heap.size := by simp
            clear hb7 hb07 HFD
            go_wp2_with ((with_reducible apply st_id (l := fid) (hl := HX1.out)); rfl; rfl; rfl; rfl; rfl)
            generalize w7.heap.size = g7 at *
            generalize w7.alloc (.cells (idC fid).toArray 35) = w8 at *
            refine (HRD.out _ HB8.out).mono ?_
            rintro r w9 ⟨rfl, hb9⟩
            have HG9 := Lib.hid ((hb9.block g7 hz8).trans HG8.out)
            have hz9 : g7 < w9.heap.size := by have := hb9.size; omega
            have hb09 := below_step HB8.out hb9
            have HBa := Lib.hid (below_step hb09 (below_new w9 (.cells (idC fid).toArray 35)))
            have HGa := Lib.hid (heap_alloc_new w9 (.cells (idC fid).toArray 35))
            have HGb := Lib.hid ((Below.heap_alloc w9 (.cells (idC fid).toArray 35) g7 hz9).trans HG9.out)
            have hza : w9.heap.size < (w9.alloc (.cells (idC fid).toArray 35)).heap.size := by simp
            have hzb : g7 < (w9.alloc (.cells (idC fid).toArray 35)).heap.size := by simp; omega
            clear hb9 hb09 HRD HG9 HG8 HB8 hz8
            go_wp2_with ((with_reducible apply st_id (l := fid) (hl := HX1.out)); rfl; rfl; rfl; rfl; rfl)
            generalize w9.heap.size = g9 at *
            generalize w9.alloc (.cells (idC fid).toArray 35) = wa at *
            have KNa := Lib.hid (knows_true wa)
            refine KNa.out.mono ?_
            rintro r wc ⟨rfl, hbc⟩
            have HRa := Lib.hid (show wc.rangeAt g9 0 (idC fid) from fun j u hu => by rw [cell_of_row _ _ _ _ _ _ ((hbc.block g9 hza).trans HGa.out)]; simpa using hu)
            have HRb := Lib.hid (show wc.rangeAt g7 0 (idC fid) from fun j u hu => by rw [cell_of_row _ _ _ _ _ _ ((hbc.block g7 hzb).trans HGb.out)]; simpa using hu)
            have hb0c := below_step HBa.out hbc
            clear hbc KNa
            have hbb1 : (fb == fb) = true := by simp
            have hbb2 : (nk == nk) = true := by simp
            go_wp2_with (first
              | ((fail_if_success (fail_if_success go_guarded)); (with_reducible refine ldg_idm (x := .tmp 16) (b := g7) (o := 0) ?_ ?_ ?_ HRb.out HX1.out ?_); rfl; rfl; kernel_rfl)
              | ((fail_if_success (fail_if_success go_guarded)); (with_reducible refine ldg_idm (x := .tmp 18) (b := g9) (o := 0) ?_ ?_ ?_ HRa.out HX1.out ?_); rfl; rfl; kernel_rfl)
              | (go_at_call 18; ((with_reducible refine (HN1.out _).mono ?_); rintro r wd ⟨rfl, rfl⟩))
              | (go_at_call 19; ((with_reducible refine (HN2.out _).mono ?_); rintro r wd ⟨rfl, rfl⟩)))
            go_ret
            exact ⟨rfl, hb0c⟩

theorem tells_any (v : Value) (L : List Rf.R) (s nm : ByteArray) (w : World) (hL : RefsAt w v L) (hl : L.length ≤ maxLen) (hs : s.size ≤ maxLen) (hnm : nm.size ≤ maxLen) :
    Calls Try.prog 3 #[v, .string s, .string nm] w fun r w' => r = .returned (.bool true) ∧ Below w.heap.size w w' := by
  cases hf : Rf.fine L with
  | false => exact tells_bad v L s nm w hL hl hs hnm hf
  | true => exact tells_good v L s nm w hL hl hs hnm hf

end Go.Proofs.Ytkdljagcdaphdaa
