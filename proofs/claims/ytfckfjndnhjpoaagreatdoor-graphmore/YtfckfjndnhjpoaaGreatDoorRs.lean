/-
  PROVED: for every history the law GraphMore answers true, and its arguments read afterwards as before: of up to 24 seeds, of which up to 10 objects are left out, what is reached from up to 10 ids and up to 10 further ones, or with less cut, is more; what is reached from what is reached is it; the commits that are walked are reached, each once, and of each but those from which one went a child was told ahead; the document's examples hold. Conditions: the row's own: each argument within the form's reach; the package variable roundWords starts as the program's text lays it (the card ties it).
-/
import Derived.Test.YtfckfjndnhjpoaaGreatDoorRr
import Derived.Test.YtfckfjndnhjpoaaGreatDoorRk
import Derived.Test.YtfckfjndnhjpoaaGreatDoorQg
import Derived.Test.YtfckfjndnhjpoaaGreatDoorCards
import Derived.Test.YtfckfjndnhjpoaaGreatDoorTie
import Derived.SevenTiedAt
import Derived.ChangeSlices
import Derived.Carry
import Derived.Test.YtfckfjndnhjpoaaGreatDoorQa
set_option linter.unusedVariables false
set_option linter.unusedSimpArgs false
set_option maxHeartbeats 8000000
set_option maxRecDepth 100000
namespace Go.Proofs.YtfckfjndnhjpoaaGreatDoor
open Go.ChangeShapes Go.WideShapes Go.ChangeAt Go.RowKit Go.Deep
theorem more_lifted (os : Os) (started : os.Started) (H : Type) (enc : TypeId × Value → H) :
  ReturnsInHanded {} Tryz.checked os 5 .any (fun w args => (Rows.graphMoreSpec.pre enc Tryz.prog Tryz.f5 [] false w args ∧ laidMetH Tryz.prog [("knapsack/sha256.roundWords", Rows.laid_knapsack_sha256_roundWords)] w) ∧ sizedMet enc Tryz.prog Tryz.f5 (OpenSpec.ofChange Rows.graphMoreSpec) false w args)
   (Rows.graphMoreSpec.post enc Tryz.prog Tryz.f5 false true false false) := by
 refine returnsInHanded_of_change_and (C := Tryz.checked) (X := fun w _ => laidMetH Tryz.prog [("knapsack/sha256.roundWords", Rows.laid_knapsack_sha256_roundWords)] w) (fun _ _ _ hh h => h.of_heap hh) S2.Tryz.own started (by kernel_rfl) Tryz.func5
  (ChangeSpec.witness_shaped (enc := enc) (C := Tryz.checked) (os := os) (X := fun w _ => laidMetH Tryz.prog [("knapsack/sha256.roundWords", Rows.laid_knapsack_sha256_roundWords)] w) false (World.doorLaid Tryz.prog 400 os) #[.agg #[.slice none 0 0, .slice none 0 0, .slice none 0 0, .slice none 0 0], .slice none 0 0] 8 rfl (World.shaped_of_RefB (by kernel_rfl) (by kernel_rfl)) (by kernel_rfl) (by kernel_rfl) (by kernel_rfl) (S2.door_met os _)) ?_
 intro W base args ds gs before hval0 hW _ _ hL _
 have hval : ∀ (j : Nat) t v, Tryz.f5.params[j]? = some t → args[j]? = some v → Value.okWide Tryz.prog W .any base t v := hval0
 have hW' := hW
 obtain ⟨p, q, hA0, hV, rfl, hfz, hnd⟩ := hW
 have hA : DataW.TrodAll enc Tryz.prog W 0 (fun _ => true) true Tryz.f5.params.toList args.toList ds p := hA0
 rw [Tryz.params5] at hA hval
 obtain ⟨v0, v1, d0, d1, p0, p1, rfl, rfl, rfl, h0, h1⟩ := trodAll_two hA
 obtain ⟨rfl, rfl⟩ := trodVars_none hV
 have h0k := h0
 have h1k := h1
 obtain ⟨fuel, hf⟩ := h0
 obtain ⟨fuel1, hf1⟩ := h1
 clear hA0 hval0
 simp only [List.append_nil] at hW'
 have hlt : ∀ x ∈ p0, x.block < W.heap.size := fun x hx => by simpa using hW'.lt x (by simp [hx])
 have hlt1 : ∀ x ∈ p1, x.block < W.heap.size := fun x hx => by simpa using hW'.lt x (by simp [hx])
 have hargs : ∀ (W' : World), Below W.heap.size W W' → DataW.Trod enc Tryz.prog W' 0 (fun b => decide (b < W.heap.size)) true 25 v0 d0 p0 :=
  fun W' hn => Below.trod opLaid (by kernel_rfl) (of_decide_eq_true (by kernel_rfl)) h0k hn hlt
 have hargs1 : ∀ (W' : World), Below W.heap.size W W' → DataW.Trod enc Tryz.prog W' 0 (fun b => decide (b < W.heap.size)) true 23 v1 d1 p1 :=
  fun W' hn => Below.trod opLaid (by kernel_rfl) (of_decide_eq_true (by kernel_rfl)) h1k hn hlt1
 obtain ⟨cs, rfl, hcs⟩ := okWide_struct Tryz.underlying25 (hval 0 25 v0 rfl rfl)
 obtain ⟨a1, len1, cap1, rfl⟩ := okWide_slice Tryz.underlying23 (hval 1 23 v1 rfl rfl)
 obtain ⟨Mo, bo, cb, hcs1, hMo, _⟩ := open_by hf1
 simp [Value.cells] at hcs1
 obtain ⟨rfl, rfl, rfl⟩ := hcs1
 have hk := S2.kin_of_laid hL
 obtain ⟨S, O, F, C, so, oo, fo, co, sc, oc, fc, cc, hc, hS, hSl, hO, hF, hC⟩ := open_hist hf
 have hc' : cs = #[.slice so S.length sc, .slice oo O.length oc, .slice fo F.length fc, .slice co C.length cc] := by
  apply Array.ext'
  simpa [Value.cells] using hc
 subst hc'
 refine (more_law W _ _ _ _ _ S O F C Mo hS hSl hO hF hC hMo hk).mono fun e W' ⟨he, hb⟩ => ?_
 subst he
 exact ⟨_, rfl, _, _, _, [], _, [], hW', trodAll_cons_mk (shut_bool Tryz.underlying4 _) trodAll_mk0, trodAll_cons_mk (hargs W' hb) (trodAll_cons_mk (hargs1 W' hb) trodAll_mk0),
  rfl, hb.frame _, fun h => by cases h⟩
theorem more_holds : Rows.GraphMoreSaid :=
 OpenClaim.holds_of_wide 5 Tryz.f5 rfl rfl rfl rfl rfl rfl rfl ⟨rfl, rfl, rfl, rfl, rfl⟩ rfl rfl rfl rfl rfl (by kernel_rfl) Tryz.func5 (by kernel_rfl)
  (of_decide_eq_true (by kernel_rfl)) (by unfold Func.isWrapper; first | (rw [if_pos (by decide +kernel)]; kernel_rfl) | (rw [if_neg (by decide +kernel)]; exact ⟨rfl, rfl⟩))
  (fun os started H enc _ => more_lifted os started H enc)
theorem more_card : Rows.GraphMoreCardSaid :=
 Claim7.holds_tied_plain_at .later [] [.data] true Rows.graphMoreCard.stood.harness true
  more_holds (fun _ h => by cases h) (by kernel_rfl) (fun _ h => by cases h) graphMore_row_tie rfl ⟨rfl, rfl⟩ (by kernel_rfl) rfl
  (fun f fn hf hfn => by
    obtain rfl : f = 5 := Option.some.inj ((show Tryz.prog.funcNamed "knapsack/knapsacklaw12.GraphMore" = some 5 by kernel_rfl).symm.trans hf) |>.symm
    obtain rfl : fn = Tryz.f5 := (Option.some.inj (Tryz.func5.symm.trans hfn)).symm
    exact ⟨by kernel_rfl, fun j t ht => by
     rw [Tryz.params5] at ht
     have hm : t ∈ [25, 23] := by simpa using Array.mem_of_getElem? ht
     have hall : ([25, 23].all fun u => !Tryz.prog.wantsStandIn u) = true := by kernel_rfl
     exact (show Tryz.prog.wantsStandIn t = false by simpa using List.all_eq_true.1 hall t hm)⟩)
  (by kernel_rfl)
end Go.Proofs.YtfckfjndnhjpoaaGreatDoor
