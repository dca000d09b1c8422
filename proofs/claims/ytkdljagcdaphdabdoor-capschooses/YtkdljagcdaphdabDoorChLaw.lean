/-
  THE WALK OF THE LAW CapsChooses: whatever the two lists, it answers true.
-/
import Derived.Test.YtkdljagcdaphdabDoorGetW
namespace Go.Proofs.YtkdljagcdaphdabDoor
open Go.RowKit
set_option linter.unusedVariables false
set_option linter.unusedSimpArgs false

theorem known_size {A B : List ByteArray} : ∀ r ∈ Cp.choose A B, r.size ≤ 20 := fun r hr => (Cp.word_size (Cp.fine_ok (Cp.choose_fine A B) r hr)).2
set_option maxHeartbeats 2000000 in
set_option maxRecDepth 100000 in
theorem chooses_any (va vb : Value) (A B : List ByteArray) (w : World) (hA : StrsAt w va A) (hB : StrsAt w vb B) (hla : A.length ≤ maxLen) (hlb : B.length ≤ maxLen) :
    Calls Tryd.prog 4 #[va, vb] w fun r w' => r = .returned (.bool true) ∧ Below w.heap.size w w' := by
  have HF1 := Lib.hid (few_any va A w hA hla)
  have HF2 := Lib.hid (few_any vb B w hB hlb)
  have HA := Lib.hid hA
  have HB := Lib.hid hB
  have HLA := Lib.hid hla
  have HLB := Lib.hid hlb
  clear hA hB hla hlb
  go_enter Tryd.func4, Tryd.ntmps4
  go_wp2_with fail
  refine HF1.out.mono ?_
  rintro r wx ⟨⟨b1, rfl, _⟩, rfl⟩
  clear HF1
  go_wp2_with fail
  refine HF2.out.mono ?_
  rintro r wx ⟨⟨b2, rfl, _⟩, rfl⟩
  clear HF2
  have KN := Lib.hid (knows_true w)
  cases b1 with
  | false =>
    go_wp2_with fail
    refine KN.out.mono ?_
    rintro r w1 ⟨rfl, hb⟩
    go_wp2_with fail
    go_ret
    exact ⟨rfl, hb⟩
  | true =>
    cases b2 with
    | false =>
      go_wp2_with fail
      refine KN.out.mono ?_
      rintro r w1 ⟨rfl, hb⟩
      go_wp2_with fail
      go_ret
      exact ⟨rfl, hb⟩
    | true =>
      have HC1 := Lib.hid (choose_any va vb A B w HA.out HB.out HLA.out HLB.out)
      have HC2 := Lib.hid (fun W hb => refchoose_any va vb A B W (HA.out.below hb) (HB.out.below hb) HLA.out HLB.out)
      have HC3 := Lib.hid (fun W hb => choose_any vb va B A W (HB.out.below hb) (HA.out.below hb) HLB.out HLA.out)
      have hc5 : (Cp.choose A B).length ≤ 5 := Cp.choose_len A B
      have HC4 := Lib.hid (fun W v1 (hb : Below w.heap.size w W) (h1 : StrsAt W v1 (Cp.choose A B)) => choose_any v1 va (Cp.choose A B) A W h1 (HA.out.below hb) (by unfold maxLen; omega) HLA.out)
      have HC5 := Lib.hid (fun W v1 (hb : Below w.heap.size w W) (h1 : StrsAt W v1 (Cp.choose A B)) => choose_any vb v1 B (Cp.choose A B) W (HB.out.below hb) h1 HLB.out (by unfold maxLen; omega))
      have HFI := Lib.hid (fun W v1 (h1 : StrsAt W v1 (Cp.choose A B)) => fine_any v1 (Cp.choose A B) W h1 (fun r hr => by have := known_size r hr; unfold maxLen; omega) (by unfold maxLen; omega))
      unfold ChP at HC1 HC2 HC3 HC4 HC5
      rw [Cp.choose_comm B A] at HC3
      rw [Cp.choose_again A B] at HC4
      rw [Cp.choose_once A B] at HC5
      rw [Cp.choose_fine A B] at HFI
      have HSM := Lib.hid (fun W v1 v2 (h1 : StrsAt W v1 (Cp.choose A B)) (h2 : StrsAt W v2 (Cp.choose A B)) => same_any (Cp.choose A B) v1 v2 W h1 h2 (by omega))
      generalize Cp.choose A B = C at *
      go_wp2_with fail
      refine HC1.out.mono ?_
      rintro r w1 ⟨v1, rfl, hs1, hb1⟩
      have HS1 := Lib.hid hs1
      clear hs1 HC1
      go_wp2_with fail
      refine (HC2.out w1 hb1).mono ?_
      rintro r w2 ⟨v2, rfl, hs2, hb2⟩
      have HS1b := Lib.hid (HS1.out.below hb2)
      have HM := Lib.hid (HSM.out w2 v1 v2 HS1b.out hs2)
      have hb02 := below_step hb1 hb2
      clear hs2 HC2 hb2 hb1 HS1
      go_wp2_with fail
      refine HM.out.mono ?_
      rintro r wx ⟨rfl, n1, hw⟩
      have hb03 : Below w.heap.size w wx := by rw [hw]; exact bel_drewN hb02 _
      have HS3 := Lib.hid (show StrsAt wx v1 C by rw [hw]; exact HS1b.out.drawn _)
      clear hw HM hb02 HS1b
      go_wp2_with fail
      refine (HC3.out wx hb03).mono ?_
      rintro r w4 ⟨v4, rfl, hs4, hb4⟩
      have HS4 := Lib.hid (HS3.out.below hb4)
      have HM := Lib.hid (HSM.out w4 v1 v4 HS4.out hs4)
      have hb04 := below_step hb03 hb4
      clear hs4 HC3 hb4 hb03 HS3
      go_wp2_with fail
      refine HM.out.mono ?_
      rintro r w5 ⟨rfl, n2, hw⟩
      have hb05 : Below w.heap.size w w5 := by rw [hw]; exact bel_drewN hb04 _
      have HS5 := Lib.hid (show StrsAt w5 v1 C by rw [hw]; exact HS4.out.drawn _)
      clear hw HM hb04 HS4
      go_wp2_with fail
      refine (HC4.out w5 v1 hb05 HS5.out).mono ?_
      rintro r w6 ⟨v6, rfl, hs6, hb6⟩
      have HS6 := Lib.hid (HS5.out.below hb6)
      have HM := Lib.hid (HSM.out w6 v1 v6 HS6.out hs6)
      have hb06 := below_step hb05 hb6
      clear hs6 HC4 hb6 hb05 HS5
      go_wp2_with fail
      refine HM.out.mono ?_
      rintro r w7 ⟨rfl, n3, hw⟩
      have hb07 : Below w.heap.size w w7 := by rw [hw]; exact bel_drewN hb06 _
      have HS7 := Lib.hid (show StrsAt w7 v1 C by rw [hw]; exact HS6.out.drawn _)
      clear hw HM hb06 HS6
      go_wp2_with fail
      refine (HC5.out w7 v1 hb07 HS7.out).mono ?_
      rintro r w8 ⟨v8, rfl, hs8, hb8⟩
      have HS8 := Lib.hid (HS7.out.below hb8)
      have HM := Lib.hid (HSM.out w8 v1 v8 HS8.out hs8)
      have hb08 := below_step hb07 hb8
      clear hs8 HC5 hb8 hb07 HS7
      go_wp2_with fail
      refine HM.out.mono ?_
      rintro r w9 ⟨rfl, n4, hw⟩
      have hb09 : Below w.heap.size w w9 := by rw [hw]; exact bel_drewN hb08 _
      have HS9 := Lib.hid (show StrsAt w9 v1 C by rw [hw]; exact HS8.out.drawn _)
      have KN9 := Lib.hid (knows_true w9)
      clear hw HM hb08 HS8
      go_wp2_with fail
      refine KN9.out.mono ?_
      rintro r wa ⟨rfl, hba⟩
      have HFF := Lib.hid (HFI.out wa v1 (HS9.out.below hba))
      have hb0a := below_step hb09 hba
      clear hba KN9 hb09
      go_wp2_with fail
      refine HFF.out.mono ?_
      rintro r wb ⟨rfl, rfl⟩
      go_wp2_with fail
      go_ret
      exact ⟨rfl, hb0a⟩

end Go.Proofs.YtkdljagcdaphdabDoor
