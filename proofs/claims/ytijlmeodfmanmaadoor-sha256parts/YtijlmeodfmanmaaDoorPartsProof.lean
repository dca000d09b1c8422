/-
  PROVED: for every string and every slice of uint16 the law Sha256Parts (P2.1, P2.3) answers true, and its arguments read afterwards as before: in whatever parts up to 400 bytes are told (up to 20 cuts), the program's sum is the same.
  Conditions: the row's own: each argument within the form's reach; the package variable roundWords starts as the program's text lays it (the card ties it).
-/
import Derived.Test.YtijlmeodfmanmaaDoorParts
import Derived.Test.YtijlmeodfmanmaaDoorLaid
import Derived.Test.YtijlmeodfmanmaaDoorCards
import Derived.Test.YtijlmeodfmanmaaDoorTie
import Derived.SevenTiedAt
import Derived.ChangeSlices
import Derived.Carry
namespace Go.Proofs.YtijlmeodfmanmaaDoor
open Go.ChangeShapes Go.WideShapes Go.ChangeAt Go.RowKit
open Go.ChangeMaps (open_string shut_string)
set_option linter.unusedVariables false

theorem laidOut : laidOutB Tryd.prog = true := by kernel_rfl
theorem cells16 : Tryd.prog.cellsOf 30 = 1 := by kernel_rfl
theorem cuts_of {W : World} {a : Addr} {len cap : Nat} {zs : List Int} (hl : len ≤ zs.length) (hm : len ≤ maxLen) (hc : ∀ i, i < zs.length → W.cell? (a.add i) = some (.int .u16 (zs.getD i 0))) (hw : ∀ n ∈ zs, (Lit.int .u16 n).wf = true) :
    CutsAt W (.slice (some a) len cap) len := by
  refine .row a len cap (fun i hi => ?_) hm
  have hlt : i < zs.length := by omega
  have hmem : zs.getD i 0 ∈ zs := by
    rw [List.getD_eq_getElem?_getD, List.getElem?_eq_getElem hlt]; exact List.getElem_mem hlt
  have hwf := hw _ hmem
  simp [Lit.wf, IntKind.min, IntKind.max, IntKind.signed, IntKind.bits] at hwf
  refine ⟨(zs.getD i 0).toNat, ?_, ?_⟩
  · simp only [List.getD_eq_getElem?_getD] at hwf ⊢; omega
  · rw [hc i hlt]
    have : (((zs.getD i 0).toNat : Nat) : Int) = zs.getD i 0 := by simp only [List.getD_eq_getElem?_getD] at hwf ⊢; omega
    rw [this]

set_option maxRecDepth 100000 in
theorem parts_lifted (os : Os) (started : os.Started) (H : Type) (enc : TypeId × Value → H) :
    ReturnsInHanded {} Tryd.checked os 4 .any (fun w args => (Rows.sha256PartsSpec.pre enc Tryd.prog Tryd.f4 [] false w args ∧ laidMetH Tryd.prog [("knapsack/sha256.roundWords", Rows.laid_knapsack_sha256_roundWords)] w) ∧ sizedMet enc Tryd.prog Tryd.f4 (OpenSpec.ofChange Rows.sha256PartsSpec) false w args)
      (Rows.sha256PartsSpec.post enc Tryd.prog Tryd.f4 false true false false) := by
  refine returnsInHanded_of_change_and (C := Tryd.checked) (X := fun w _ => laidMetH Tryd.prog [("knapsack/sha256.roundWords", Rows.laid_knapsack_sha256_roundWords)] w) (fun _ _ _ hh h => h.of_heap hh) Tryd.own started (by kernel_rfl) Tryd.func4
    (ChangeSpec.witness_shaped (enc := enc) (C := Tryd.checked) (os := os) (X := fun w _ => laidMetH Tryd.prog [("knapsack/sha256.roundWords", Rows.laid_knapsack_sha256_roundWords)] w) false (World.doorLaid Tryd.prog 400 os) #[.string .empty, .slice none 0 0] 8 rfl (World.shaped_of_RefB (by kernel_rfl) (by kernel_rfl)) (by kernel_rfl) (by kernel_rfl) (by kernel_rfl) (door_met os _)) ?_
  intro W base args ds gs before hval0 hW _ _ hL _
  have hval : ∀ (j : Nat) t v, Tryd.f4.params[j]? = some t → args[j]? = some v → Value.okWide Tryd.prog W .any base t v := hval0
  have hW' := hW
  obtain ⟨p, q, hA0, hV, rfl, hfz, hnd⟩ := hW
  have hA : DataW.TrodAll enc Tryd.prog W 0 (fun _ => true) true Tryd.f4.params.toList args.toList ds p := hA0
  rw [Tryd.params4] at hA hval
  obtain ⟨v0, v1, d0, d1, p0, p1, rfl, rfl, rfl, h0, h1⟩ := trodAll_two hA
  obtain ⟨rfl, rfl⟩ := trodVars_none hV
  obtain ⟨s, rfl, rfl, rfl, hs⟩ := open_string Tryd.underlying9 (hval 0 9 v0 rfl rfl) h0
  have h1k := h1
  obtain ⟨fuel, hf⟩ := h1
  clear hA0 hval0
  simp only [List.append_nil, List.nil_append] at hW'
  have hlt : ∀ x ∈ p1, x.block < W.heap.size := fun x hx => by simpa using hW'.lt x hx
  have hargs : ∀ (W' : World), Below W.heap.size W W' → DataW.Trod enc Tryd.prog W' 0 (fun b => decide (b < W.heap.size)) true 28 v1 d1 p1 :=
    fun W' hn => Below.trod laidOut (by kernel_rfl) (of_decide_eq_true (by kernel_rfl)) h1k hn hlt
  obtain ⟨a0, len, cap, rfl⟩ := okWide_slice Tryd.underlying28 (hval 1 28 v1 rfl rfl)
  have hk := kin_of_laid hL
  have hs2 : s.size ≤ 9223372036854775807 := by unfold maxLen at hs; omega
  have hcuts : CutsAt W (.slice a0 len cap) len := by
    rcases open_ints Tryd.underlying28 Tryd.underlying30 cells16 hf with ⟨hcs, hx⟩ | ⟨a, len', cap', zs, hcs, _, hl, hm, hz, hx, hcell, hwz⟩
    · simp [Value.cells] at hcs
      obtain ⟨rfl, rfl, rfl⟩ := hcs
      exact .nil
    · simp [Value.cells] at hcs
      obtain ⟨rfl, rfl, rfl⟩ := hcs
      simp only [if_true] at hz
      exact cuts_of (by omega) (by omega) hcell hwz
  refine (parts_any s _ len W hs2 hcuts hk).mono fun e W' ⟨he, hb⟩ => ?_
  subst he
  exact ⟨_, rfl, _, _, _, [], _, [], hW', trodAll_cons_mk (shut_bool Tryd.underlying4 _) trodAll_mk0, trodAll_cons_mk (shut_string Tryd.underlying9 hs) (trodAll_cons_mk (hargs W' hb) trodAll_mk0),
    rfl, hb.frame _, fun h => by cases h⟩

theorem parts_holds : Rows.Sha256PartsSaid :=
  OpenClaim.holds_of_wide 4 Tryd.f4 rfl rfl rfl rfl rfl rfl rfl ⟨rfl, rfl, rfl, rfl, rfl⟩ rfl rfl rfl rfl rfl (by kernel_rfl) Tryd.func4 (by kernel_rfl)
    (of_decide_eq_true (by kernel_rfl)) (by unfold Func.isWrapper; first | (rw [if_pos (by decide +kernel)]; kernel_rfl) | (rw [if_neg (by decide +kernel)]; exact ⟨rfl, rfl⟩))
    (fun os started H enc _ => parts_lifted os started H enc)

theorem parts_card : Rows.Sha256PartsCardSaid :=
  Claim7.holds_tied_plain_at .later [] [.data] true Rows.sha256PartsCard.stood.harness false
    parts_holds (fun _ h => by cases h) (by kernel_rfl) (fun _ h => by cases h) sha256Parts_row_tie rfl ⟨rfl, rfl⟩ (by kernel_rfl) rfl
    (fun f fn hf hfn => by
      obtain rfl : f = 4 := Option.some.inj ((show Tryd.prog.funcNamed "knapsack/knapsacklaw02.Sha256Parts" = some 4 by kernel_rfl).symm.trans hf) |>.symm
      obtain rfl : fn = Tryd.f4 := (Option.some.inj (Tryd.func4.symm.trans hfn)).symm
      exact ⟨by kernel_rfl, fun j t ht => by
        rw [Tryd.params4] at ht
        have hm : t ∈ [9, 28] := by simpa using Array.mem_of_getElem? ht
        have hall : ([9, 28].all fun u => !Tryd.prog.wantsStandIn u) = true := by kernel_rfl
        exact (show Tryd.prog.wantsStandIn t = false by simpa using List.all_eq_true.1 hall t hm)⟩)
    (by kernel_rfl)

end Go.Proofs.YtijlmeodfmanmaaDoor
