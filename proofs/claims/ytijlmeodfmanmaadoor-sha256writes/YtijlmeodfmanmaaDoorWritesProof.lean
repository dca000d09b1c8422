/-
  PROVED: for every two ids and every string the law Sha256Writes (P2.2, P2.3) answers true, and its arguments read afterwards as before.
  Conditions: the row's own: each argument within the form's reach; the package variable roundWords starts as the program's text lays it (the card ties it).
-/
import Derived.Test.YtijlmeodfmanmaaDoorWritesB
import Derived.Test.YtijlmeodfmanmaaDoorLaid
import Derived.Test.YtijlmeodfmanmaaDoorCards
import Derived.Test.YtijlmeodfmanmaaDoorTie
import Derived.SevenTiedAt
import Derived.ChangeSlices
import Derived.Carry
import Derived.OpenShut
import Derived.WideKeyArr2
namespace Go.Proofs.YtijlmeodfmanmaaDoor
open Go.ChangeShapes Go.WideShapes Go.ChangeAt Go.RowKit
open Go.ChangeMaps (open_string shut_string)
set_option linter.unusedVariables false

theorem laidOutW : laidOutB Tryd.prog = true := by kernel_rfl
theorem cells8 : Tryd.prog.cellsOf 5 = 1 := by kernel_rfl
theorem cellsId : Tryd.prog.cellsOf 24 = 32 := by kernel_rfl
def byteOf : Value → UInt8
  | .int _ n => UInt8.ofNat n.toNat
  | _ => 0
theorem bv_byteOf {z : Int} (h : (Lit.int .u8 z).wf = true) : bv (byteOf (.int .u8 z)) = .int .u8 z := by
  simp [Lit.wf, IntKind.min, IntKind.max, IntKind.signed, IntKind.bits] at h
  have : z.toNat % 256 = z.toNat := by omega
  simp [bv, byteOf, UInt8.toNat_ofNat', this]
  omega
theorem open_id {H : Type} {enc : TypeId × Value → H} {W : World} {base b0 : Nat} {r : Reach} {sp : Nat → Bool} {held : Bool} {v : Value} {d : DataW H} {ps : List MemPlace}
    (hv : Value.okWide Tryd.prog W r b0 24 v) (h : DataW.Trod enc Tryd.prog W base sp held 24 v d ps) : ∃ a : List UInt8, v = .agg (idA a) ∧ a.length = 32 ∧ ps = [] := by
  have hv2 : ∃ xs : Array Value, v = .agg xs ∧ xs.size = 32 := by
    simp only [Value.okWide, Tryd.underlying24] at hv
    obtain ⟨cs, h1, h2, _⟩ := hv
    exact ⟨cs, h1, by rw [h2, cellsId]⟩
  obtain ⟨xs, rfl, hn⟩ := hv2
  obtain ⟨fuel, hf⟩ := h
  obtain ⟨ys, m, _, ex, hlen, hl, hel⟩ := DataW.trod_array Tryd.underlying24 hf
  rw [cells8] at hel
  have key : ∀ (i : Nat) (hi : i < 32), ∃ z, xs.toList[i]? = some (.int .u8 z) ∧ ys[i]? = some (.lit (.int .u8 z), []) ∧ (Lit.int .u8 z).wf = true := by
    intro i hi
    have hli : i < ys.length := by omega
    have hxi : i < xs.toList.length := by simpa [hn] using hi
    have k := hel i hi
    rw [List.getElem?_eq_getElem hli] at k
    obtain ⟨z, e1, e2, e3⟩ := DataW.trod_int Tryd.underlying5 k
    refine ⟨z, ?_, by rw [List.getElem?_eq_getElem hli, e2], e3⟩
    have e4 := congrArg (·[0]?) e1
    simpa [Value.cells, List.getElem?_take, List.getElem?_drop] using e4
  refine ⟨xs.toList.map byteOf, ?_, by simpa using hn, ?_⟩
  · congr 1
    apply Array.ext'
    have hz : (32 - (xs.toList.map byteOf).length) = 0 := by simp [hn]
    simp only [idA, hz, List.replicate_zero, List.append_nil, List.map_map]
    apply List.ext_getElem?
    intro i
    by_cases hi : i < 32
    · obtain ⟨z, e1, _, e3⟩ := key i hi
      rw [List.getElem?_map, e1]
      simp only [Option.map_some, Function.comp_apply, bv_byteOf e3]
    · rw [List.getElem?_eq_none (by simp [hn]; omega), List.getElem?_eq_none (by simp [hn]; omega)]
  · rw [(Prod.mk.inj ex).2]
    rw [List.flatMap_eq_nil_iff]
    intro y hy
    obtain ⟨i, hi, rfl⟩ := List.getElem_of_mem hy
    obtain ⟨z, _, e2, _⟩ := key i (by omega)
    rw [List.getElem?_eq_getElem hi] at e2
    rw [Option.some.inj e2]

set_option maxRecDepth 100000 in
theorem writes_lifted (os : Os) (started : os.Started) (H : Type) (enc : TypeId × Value → H) :
    ReturnsInHanded {} Tryd.checked os 5 .any (fun w args => (Rows.sha256WritesSpec.pre enc Tryd.prog Tryd.f5 [] false w args ∧ laidMetH Tryd.prog [("knapsack/sha256.roundWords", Rows.laid_knapsack_sha256_roundWords)] w) ∧ sizedMet enc Tryd.prog Tryd.f5 (OpenSpec.ofChange Rows.sha256WritesSpec) false w args)
      (Rows.sha256WritesSpec.post enc Tryd.prog Tryd.f5 false true false false) := by
  refine returnsInHanded_of_change_and (C := Tryd.checked) (X := fun w _ => laidMetH Tryd.prog [("knapsack/sha256.roundWords", Rows.laid_knapsack_sha256_roundWords)] w) (fun _ _ _ hh h => h.of_heap hh) Tryd.own started (by kernel_rfl) Tryd.func5
    (ChangeSpec.witness_shaped (enc := enc) (C := Tryd.checked) (os := os) (X := fun w _ => laidMetH Tryd.prog [("knapsack/sha256.roundWords", Rows.laid_knapsack_sha256_roundWords)] w) false (World.doorLaid Tryd.prog 400 os) #[.agg (idA []), .agg (idA []), .string .empty] 8 rfl (World.shaped_of_RefB (by kernel_rfl) (by kernel_rfl)) (by kernel_rfl) (by kernel_rfl) (by kernel_rfl) (door_met os _)) ?_
  intro W base args ds gs before hval0 hW _ _ hL _
  have hval : ∀ (j : Nat) t v, Tryd.f5.params[j]? = some t → args[j]? = some v → Value.okWide Tryd.prog W .any base t v := hval0
  have hW' := hW
  obtain ⟨p, q, hA0, hV, rfl, hfz, hnd⟩ := hW
  have hA : DataW.TrodAll enc Tryd.prog W 0 (fun _ => true) true Tryd.f5.params.toList args.toList ds p := hA0
  rw [Tryd.params5] at hA hval
  obtain ⟨v0, v1, v2, d0, d1, d2, p0, p1, p2, rfl, rfl, rfl, h0, h1, h2⟩ := trodAll_three hA
  obtain ⟨rfl, rfl⟩ := trodVars_none hV
  obtain ⟨s, rfl, rfl, rfl, hs⟩ := open_string Tryd.underlying9 (hval 2 9 v2 rfl rfl) h2
  obtain ⟨a, rfl, ha, rfl⟩ := open_id (hval 0 24 v0 rfl rfl) h0
  obtain ⟨b, rfl, hb, rfl⟩ := open_id (hval 1 24 v1 rfl rfl) h1
  clear hA0 hval0
  simp only [List.append_nil] at hW'
  have hargs0 : ∀ (W' : World), Below W.heap.size W W' → DataW.Trod enc Tryd.prog W' 0 (fun b => decide (b < W.heap.size)) true 24 (.agg (idA a)) d0 [] :=
    fun W' hn => Below.trod laidOutW (by kernel_rfl) (of_decide_eq_true (by kernel_rfl)) h0 hn (fun _ hx => by cases hx)
  have hargs1 : ∀ (W' : World), Below W.heap.size W W' → DataW.Trod enc Tryd.prog W' 0 (fun b => decide (b < W.heap.size)) true 24 (.agg (idA b)) d1 [] :=
    fun W' hn => Below.trod laidOutW (by kernel_rfl) (of_decide_eq_true (by kernel_rfl)) h1 hn (fun _ hx => by cases hx)
  have hk := kin_of_laid hL
  have hs2 : s.size ≤ 9223372036854775807 := by unfold maxLen at hs; omega
  refine (writes_any a b s W hs2 ha hb hk).mono fun e W' ⟨he, hbl⟩ => ?_
  subst he
  exact ⟨_, rfl, _, _, _, [], [], [], hW', trodAll_cons_mk (shut_bool Tryd.underlying4 _) trodAll_mk0, trodAll_cons_mk (hargs0 W' hbl) (trodAll_cons_mk (hargs1 W' hbl) (trodAll_cons_mk (shut_string Tryd.underlying9 hs) trodAll_mk0)),
    rfl, hbl.frame _, fun h => by cases h⟩

theorem writes_holds : Rows.Sha256WritesSaid :=
  OpenClaim.holds_of_wide 5 Tryd.f5 rfl rfl rfl rfl rfl rfl rfl ⟨rfl, rfl, rfl, rfl, rfl⟩ rfl rfl rfl rfl rfl (by kernel_rfl) Tryd.func5 (by kernel_rfl)
    (of_decide_eq_true (by kernel_rfl)) (by unfold Func.isWrapper; first | (rw [if_pos (by decide +kernel)]; kernel_rfl) | (rw [if_neg (by decide +kernel)]; exact ⟨rfl, rfl⟩))
    (fun os started H enc _ => writes_lifted os started H enc)

theorem writes_card : Rows.Sha256WritesCardSaid :=
  Claim7.holds_tied_plain_at .later [] [.data] true Rows.sha256WritesCard.stood.harness false
    writes_holds (fun _ h => by cases h) (by kernel_rfl) (fun _ h => by cases h) sha256Writes_row_tie rfl ⟨rfl, rfl⟩ (by kernel_rfl) rfl
    (fun f fn hf hfn => by
      obtain rfl : f = 5 := Option.some.inj ((show Tryd.prog.funcNamed "knapsack/knapsacklaw02.Sha256Writes" = some 5 by kernel_rfl).symm.trans hf) |>.symm
      obtain rfl : fn = Tryd.f5 := (Option.some.inj (Tryd.func5.symm.trans hfn)).symm
      exact ⟨by kernel_rfl, fun j t ht => by
        rw [Tryd.params5] at ht
        have hm : t ∈ [24, 24, 9] := by simpa using Array.mem_of_getElem? ht
        have hall : ([24, 24, 9].all fun u => !Tryd.prog.wantsStandIn u) = true := by kernel_rfl
        exact (show Tryd.prog.wantsStandIn t = false by simpa using List.all_eq_true.1 hall t hm)⟩)
    (by kernel_rfl)

end Go.Proofs.YtijlmeodfmanmaaDoor
