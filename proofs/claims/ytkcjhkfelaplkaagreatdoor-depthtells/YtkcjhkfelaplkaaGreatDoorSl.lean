/-
  PROVED: for every history the law DepthTells answers true, and its arguments read afterwards as before: for every history and every depth the law DepthTells (P13.1) answers true, and its arguments read afterwards as before: of up to 24 seeds, of which up to 10 objects are left out, the depths from up to 10 ids, the shallow commits and those below the bound are what the document says; a depth that no bound has is refused. Conditions: the row's own: each argument within the form's reach; the package variable roundWords starts as the program's text lays it (the card ties it).
-/
import Derived.Test.YtkcjhkfelaplkaaGreatDoorSk
import Derived.Test.YtkcjhkfelaplkaaGreatDoorRd
import Derived.Test.YtkcjhkfelaplkaaGreatDoorQg
import Derived.Test.YtkcjhkfelaplkaaGreatDoorCards
import Derived.Test.YtkcjhkfelaplkaaGreatDoorTie
import Derived.SevenTiedAt
import Derived.ChangeSlices
import Derived.Carry
import Derived.Test.YtkcjhkfelaplkaaGreatDoorQa
set_option linter.unusedVariables false
set_option linter.unusedSimpArgs false
set_option maxHeartbeats 8000000
set_option maxRecDepth 100000
namespace Go.Proofs.YtkcjhkfelaplkaaGreatDoor
open Go.ChangeShapes Go.WideShapes Go.ChangeAt Go.RowKit Go.Deep
theorem dptells_law (w : World) (sv lo lf lc : Value) (nz : Int) (S : List Sd) (O F C : List UInt8) (h : SdsAt w sv S) (hl : S.length ≤ maxLen) (hO : ByAt w lo O) (hF : ByAt w lf F) (hC : ByAt w lc C) (hk : S2.KIn w) :
  Calls Tryz.prog 3 #[.agg #[sv, lo, lf, lc], .int .i64 nz] w fun r w' => r = .returned (.bool true) ∧ Below w.heap.size w w' := by
 by_cases hg : goodG S ∧ O.length ≤ 10 ∧ F.length ≤ 10 ∧ C.length ≤ 10
 ·
  by_cases hn : 1 ≤ nz ∧ nz ≤ 1048576
  · exact dptells_yes w sv lo lf lc nz S O F C h hl hO hF hC hk hg.1 hg.2.1 hg.2.2.1 hg.2.2.2 hn
  · exact dptells_bad w sv lo lf lc nz S O F C h hl hO hF hC hk hg.1 hg.2.1 hg.2.2.1 hg.2.2.2 (by omega)
 · exact dptells_no w sv lo lf lc nz S O F C h hl hO hF hC hg
theorem dptells_lifted (os : Os) (started : os.Started) (H : Type) (enc : TypeId × Value → H) :
  ReturnsInHanded {} Tryz.checked os 3 .any (fun w args => (Rows.depthTellsSpec.pre enc Tryz.prog Tryz.f3 [] false w args ∧ laidMetH Tryz.prog [("knapsack/sha256.roundWords", Rows.laid_knapsack_sha256_roundWords)] w) ∧ sizedMet enc Tryz.prog Tryz.f3 (OpenSpec.ofChange Rows.depthTellsSpec) false w args)
   (Rows.depthTellsSpec.post enc Tryz.prog Tryz.f3 false true false false) := by
 refine returnsInHanded_of_change_and (C := Tryz.checked) (X := fun w _ => laidMetH Tryz.prog [("knapsack/sha256.roundWords", Rows.laid_knapsack_sha256_roundWords)] w) (fun _ _ _ hh h => h.of_heap hh) S2.Tryz.own started (by kernel_rfl) Tryz.func3
  (ChangeSpec.witness_shaped (enc := enc) (C := Tryz.checked) (os := os) (X := fun w _ => laidMetH Tryz.prog [("knapsack/sha256.roundWords", Rows.laid_knapsack_sha256_roundWords)] w) false (World.doorLaid Tryz.prog 400 os) #[.agg #[.slice none 0 0, .slice none 0 0, .slice none 0 0, .slice none 0 0], .int .i64 1] 8 rfl (World.shaped_of_RefB (by kernel_rfl) (by kernel_rfl)) (by kernel_rfl) (by kernel_rfl) (by kernel_rfl) (S2.door_met os _)) ?_
 intro W base args ds gs before hval0 hW _ _ hL _
 have hval : ∀ (j : Nat) t v, Tryz.f3.params[j]? = some t → args[j]? = some v → Value.okWide Tryz.prog W .any base t v := hval0
 have hW' := hW
 obtain ⟨p, q, hA0, hV, rfl, hfz, hnd⟩ := hW
 have hA : DataW.TrodAll enc Tryz.prog W 0 (fun _ => true) true Tryz.f3.params.toList args.toList ds p := hA0
 rw [Tryz.params3] at hA hval
 obtain ⟨v0, v1, d0, d1, p0, p1, rfl, rfl, rfl, h0, h1⟩ := trodAll_two hA
 obtain ⟨rfl, rfl⟩ := trodVars_none hV
 have h0k := h0
 have h1k := h1
 obtain ⟨fuel, hf⟩ := h0
 obtain ⟨fuel1, hf1⟩ := h1
 clear hA0 hval0
 simp only [List.append_nil] at hW'
 have hlt : ∀ x ∈ p0, x.block < W.heap.size := fun x hx => by simpa using hW'.lt x (by simp [hx])
 have hlt1 : ∀ x ∈ p1, x.block < W.heap.size := fun x hx => by simpa using hW'.lt x (by simp [hx])
 have hargs : ∀ (W' : World), Below W.heap.size W W' → DataW.Trod enc Tryz.prog W' 0 (fun b => decide (b < W.heap.size)) true 25 v0 d0 p0 :=
  fun W' hn => Below.trod opLaid (by kernel_rfl) (of_decide_eq_true (by kernel_rfl)) h0k hn hlt
 have hargs1 : ∀ (W' : World), Below W.heap.size W W' → DataW.Trod enc Tryz.prog W' 0 (fun b => decide (b < W.heap.size)) true 3 v1 d1 p1 :=
  fun W' hn => Below.trod opLaid (by kernel_rfl) (of_decide_eq_true (by kernel_rfl)) h1k hn hlt1
 obtain ⟨cs, rfl, hcs⟩ := okWide_struct Tryz.underlying25 (hval 0 25 v0 rfl rfl)
 obtain ⟨nz, rfl⟩ := okWide_int Tryz.underlying3 (hval 1 3 v1 rfl rfl)
 have hk := S2.kin_of_laid hL
 obtain ⟨S, O, F, C, so, oo, fo, co, sc, oc, fc, cc, hc, hS, hSl, hO, hF, hC⟩ := open_hist hf
 have hc' : cs = #[.slice so S.length sc, .slice oo O.length oc, .slice fo F.length fc, .slice co C.length cc] := by
  apply Array.ext'
  simpa [Value.cells] using hc
 subst hc'
 refine (dptells_law W _ _ _ _ nz S O F C hS hSl hO hF hC hk).mono fun e W' ⟨he, hb⟩ => ?_
 subst he
 exact ⟨_, rfl, _, _, _, [], _, [], hW', trodAll_cons_mk (shut_bool Tryz.underlying4 _) trodAll_mk0, trodAll_cons_mk (hargs W' hb) (trodAll_cons_mk (hargs1 W' hb) trodAll_mk0),
  rfl, hb.frame _, fun h => by cases h⟩
theorem dptells_holds : Rows.DepthTellsSaid :=
 OpenClaim.holds_of_wide 3 Tryz.f3 rfl rfl rfl rfl rfl rfl rfl ⟨rfl, rfl, rfl, rfl, rfl⟩ rfl rfl rfl rfl rfl (by kernel_rfl) Tryz.func3 (by kernel_rfl)
  (of_decide_eq_true (by kernel_rfl)) (by unfold Func.isWrapper; first | (rw [if_pos (by decide +kernel)]; kernel_rfl) | (rw [if_neg (by decide +kernel)]; exact ⟨rfl, rfl⟩))
  (fun os started H enc _ => dptells_lifted os started H enc)
theorem dptells_card : Rows.DepthTellsCardSaid :=
 Claim7.holds_tied_plain_at .later [] [.data] true Rows.depthTellsCard.stood.harness true
  dptells_holds (fun _ h => by cases h) (by kernel_rfl) (fun _ h => by cases h) depthTells_row_tie rfl ⟨rfl, rfl⟩ (by kernel_rfl) rfl
  (fun f fn hf hfn => by
    obtain rfl : f = 3 := Option.some.inj ((show Tryz.prog.funcNamed "knapsack/knapsacklaw13.DepthTells" = some 3 by kernel_rfl).symm.trans hf) |>.symm
    obtain rfl : fn = Tryz.f3 := (Option.some.inj (Tryz.func3.symm.trans hfn)).symm
    exact ⟨by kernel_rfl, fun j t ht => by
     rw [Tryz.params3] at ht
     have hm : t ∈ [25, 3] := by simpa using Array.mem_of_getElem? ht
     have hall : ([25, 3].all fun u => !Tryz.prog.wantsStandIn u) = true := by kernel_rfl
     exact (show Tryz.prog.wantsStandIn t = false by simpa using List.all_eq_true.1 hall t hm)⟩)
  (by kernel_rfl)
end Go.Proofs.YtkcjhkfelaplkaaGreatDoor
