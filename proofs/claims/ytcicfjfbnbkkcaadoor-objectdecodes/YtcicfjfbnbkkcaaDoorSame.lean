/-
  WALKS OF LAYER 4: Same (knapsackref04), of two objects that hold the same.
-/
import Derived.Test.YtcicfjfbnbkkcaaDoorRdDecode2
import Derived.StillTailTactics
namespace Go.Proofs.YtcicfjfbnbkkcaaDoor
open Go.RowKit
set_option linter.unusedVariables false
set_option linter.unusedSimpArgs false

theorem rg_still {P : Program} {id : Nat} {Q : Exit → Act → World → Prop} {a : Act} {w : World} {l : List Oper} (hm : P.follows .mixedOrders = true) (hB : Region.lexB .any l.toArray = true)
    (h : wpStill P l.toArray w.drew (fun a' => Q .normal a' w.drew) l a) : (Code.region id l.toArray true).wp P Q a w := wp_region_still_lit hm hB h
/-- A value of several cells out of wherever, in a region that only reads. -/
theorem st_ld {ops : Array Oper} {w : World} {Q : Act → Prop} {a : Act} {o : Oper} {rest : List Oper} {cs : List Value} {ty : TypeId} {x : Operand} {p : Addr} {d : TypeDesc} (ho : o.op = .load ty x) (hx : a.eval x = .pointer (some p)) (hg : o.guard = none)
    (hc : ∀ j v, cs[j]? = some v → w.cell? (p.add j) = some v) (hu : Tryd.prog.underlying ty = some d) (hd : d.isRow = true) (hi : (Tryd.prog.info? ty).map (·.size) = some cs.length)
    (h : wpStill Tryd.prog ops w Q rest (a.put o.dst (.agg cs.toArray))) : wpStill Tryd.prog ops w Q (o :: rest) a := by
  refine wpStill_step fun K hK => ?_
  rw [if_pos (by simp [Region.wanted, hg])]
  unfold Oper.still execOp
  simp only [ho, hx, Instr.loadAt, Instr.sureAddr, Sem.run_bind, Sem.run_pure, Result.andThen_ok, run_loadVar_at w p ty cs d hc hu hd hi]
  exact ⟨rfl, hK _ h⟩

/-- Both objects lie in their boxes. -/
structure Two (w : World) (c1 c2 : Array Value) (W : World) : Prop where
  a : W.heap[w.heap.size]? = some (.cells c1 29)
  b : W.heap[w.heap.size + 1]? = some (.cells c2 29)
  below : Below w.heap.size w W
theorem Two.ca {w W : World} {c1 c2 : Array Value} (h : Two w c1 c2 W) {i : Nat} {v : Value} (hv : c1[i]? = some v) : W.cell? ⟨w.heap.size, i, none⟩ = some v := by rw [cell_of_row _ _ _ _ _ (0, 0) h.a]; exact hv
theorem Two.cb {w W : World} {c1 c2 : Array Value} (h : Two w c1 c2 W) {i : Nat} {v : Value} (hv : c2[i]? = some v) : W.cell? ⟨w.heap.size + 1, i, none⟩ = some v := by rw [cell_of_row _ _ _ _ _ (0, 0) h.b]; exact hv
theorem Two.drew {w W : World} {c1 c2 : Array Value} (h : Two w c1 c2 W) : Two w c1 c2 W.drew := ⟨h.a, h.b, h.below.drew⟩

set_option maxHeartbeats 2000000 in
set_option maxRecDepth 100000 in
theorem same_any (c1 c2 : Array Value) (o : Ob) (ao bo ao2 bo2 : Option Addr) (ca cb ca2 cb2 : Nat) (w : World) (h1 : ObAt w c1 o ao bo ca cb) (h2 : ObAt w c2 o ao2 bo2 ca2 cb2) :
    Calls Tryd.prog 7 #[.agg c1, .agg c2] w fun r w' => r = .returned (.bool true) ∧ Below w.heap.size w w' := by
  have T0 : Two w c1 c2 ((w.alloc (.cells c1 29)).alloc (.cells c2 29)) := ⟨heap_alloc2_old _ _ _, heap_alloc2_new _ _ _, ((Below.refl _ _).alloc (Nat.le_refl _) _).alloc (by simp) _⟩
  have a0 := h1.F.c0
  have a1 := h1.F.c1
  have a2 := h1.F.c2
  have a35 := h1.F.c35
  have a36 := h1.F.c36
  have a37 := h1.F.c37
  have a70 := h1.F.c70
  have a71 := h1.F.c71
  have b0 := h2.F.c0
  have b1 := h2.F.c1
  have b2 := h2.F.c2
  have b35 := h2.F.c35
  have b36 := h2.F.c36
  have b37 := h2.F.c37
  have b70 := h2.F.c70
  have b71 := h2.F.c71
  have RT1 := Lib.hid (h1.F.rtr T0.a)
  have RG1 := Lib.hid (h1.F.rta T0.a)
  have RT2 := Lib.hid (h2.F.rtr T0.b)
  have RG2 := Lib.hid (h2.F.rta T0.b)
  have HT := Lib.hid h1.F.trl
  have HG := Lib.hid h1.F.tal
  have hq3 : ∀ W, (Op.equalIn 10000 25 (.agg (idC o.tree).toArray) (.agg (idC o.tree).toArray)).run Tryd.prog W = .ok true W := fun W => by
    have := eq_id o.tree o.tree h1.F.trl h1.F.trl W; simpa using this
  have hq7 : ∀ W, (Op.equalIn 10000 25 (.agg (idC o.target).toArray) (.agg (idC o.target).toArray)).run Tryd.prog W = .ok true W := fun W => by
    have := eq_id o.target o.target h1.F.tal h1.F.tal W; simpa using this
  have hel := h1.el
  have hpl := h1.pl
  unfold maxLen at hel hpl
  have HE1 := Lib.hid h1.E
  have HE2 := Lib.hid h2.E
  have HP1 := Lib.hid h1.P
  have HP2 := Lib.hid h2.P
  have HEI := Lib.hid h1.eid
  have HPI := Lib.hid h1.pid
  have A2 := Lib.hid a2
  have B2 := Lib.hid b2
  have A35 := Lib.hid a35
  have B35 := Lib.hid b35
  have HT0 := Lib.hid T0
  clear h1 h2 T0
  go_enter Tryd.func7, Tryd.ntmps7
  go_wp2_with (first
    | ((fail_if_success (fail_if_success go_guarded)); (with_reducible refine ldg_idm (x := .tmp 20) ?_ ?_ ?_ RT1.out HT.out ?_); rfl; rfl; kernel_rfl)
    | ((fail_if_success (fail_if_success go_guarded)); (with_reducible refine ldg_idm (x := .tmp 22) ?_ ?_ ?_ RT2.out HT.out ?_); rfl; rfl; kernel_rfl)
    | ((fail_if_success (fail_if_success go_guarded)); (with_reducible refine ldg_idm (x := .tmp 41) ?_ ?_ ?_ RG1.out HG.out ?_); rfl; rfl; kernel_rfl)
    | ((fail_if_success (fail_if_success go_guarded)); (with_reducible refine ldg_idm (x := .tmp 43) ?_ ?_ ?_ RG2.out HG.out ?_); rfl; rfl; kernel_rfl))
  clear a0 a1 a2 a35 a36 a37 a70 a71 b0 b1 b2 b35 b36 b37 b70 b71 hq3 hq7
  go_loopw [5] (fun i wr => ∃ k : Nat, k ≤ o.ents.length ∧ i = .int .i64 k ∧ Two w c1 c2 wr) (fun i _ => o.ents.length - (intOf i).toNat)
  case atStart => exact ⟨0, by omega, rfl, HT0.out⟩
  case round =>
    obtain ⟨k, hk, rfl, T⟩ := hrel
    have ca2' := T.ca A2.out
    have cb2' := T.cb B2.out
    have HTT := Lib.hid T
    by_cases hlt : k < o.ents.length
    · have hlt' : (k : Int) < (o.ents.length : Int) := by omega
      have hk0 : (0 : Int) ≤ (k : Int) := by omega
      obtain ⟨l, he⟩ : ∃ l, o.ents[k]? = some l := ⟨o.ents[k], List.getElem?_eq_getElem hlt⟩
      have hlen := HEI.out l (List.mem_of_getElem? he)
      obtain ⟨a, rfl, hc⟩ := ent_cells (HE1.out.below T.below) k l he
      obtain ⟨b, rfl, hd⟩ := ent_cells (HE2.out.below T.below) k l he
      have HC := Lib.hid (show ∀ j x, (enC l)[j]? = some x → wr.drew.cell? ((a.add (k * 34)).add j) = some x from hc)
      have HE := Lib.hid (show ∀ j x, (enC l)[j]? = some x → wr.drew.cell? ((b.add (k * 34)).add j) = some x from hd)
      have HS := Lib.hid (ensize hlen)
      have hq := fun W => eq_en l hlen W
      have HU := Lib.hid under45
      have da := T.drew.ca A2.out
      have db := T.drew.cb B2.out
      clear hc hd he hlen T
      go_wp2_with fail
      refine rg_still (by kernel_rfl) (by kernel_rfl) ?_
      repeat still_step
      (with_reducible apply st_ld (hc := HC.out) (hu := HU.out) (hi := HS.out))
      rfl
      rfl
      rfl
      rfl
      repeat still_step
      (with_reducible apply st_ld (hc := HE.out) (hu := HU.out) (hi := HS.out))
      rfl
      rfl
      rfl
      rfl
      repeat still_step
      refine wpStill_nil ?_
      go_wp2
      go_roundw
      case rel => exact ⟨k + 1, by omega, by go_num, HTT.out.drew⟩
      case measure => simp [intOf]; omega
    · clear T
      go_wp2_with fail
      go_loopw [6] (fun i wr => ∃ k : Nat, k ≤ o.pars.length ∧ i = .int .i64 k ∧ Two w c1 c2 wr) (fun i _ => o.pars.length - (intOf i).toNat)
      case atStart => exact ⟨0, by omega, rfl, HTT.out⟩
      case round =>
        obtain ⟨j, hj, rfl, T⟩ := hrel
        have ca35' := T.ca A35.out
        have cb35' := T.cb B35.out
        have HT3 := Lib.hid T
        by_cases hjl : j < o.pars.length
        · have hjl' : (j : Int) < (o.pars.length : Int) := by omega
          have hj0 : (0 : Int) ≤ (j : Int) := by omega
          obtain ⟨l, he⟩ : ∃ l, o.pars[j]? = some l := ⟨o.pars[j], List.getElem?_eq_getElem hjl⟩
          have hlen := HPI.out l (List.mem_of_getElem? he)
          obtain ⟨a, rfl, hc⟩ := par_cells (HP1.out.below T.below) j l he
          obtain ⟨b, rfl, hd⟩ := par_cells (HP2.out.below T.below) j l he
          have HC := Lib.hid (show ∀ i x, (idC l)[i]? = some x → wr.drew.cell? ((a.add (j * 32)).add i) = some x from hc)
          have HE := Lib.hid (show ∀ i x, (idC l)[i]? = some x → wr.drew.cell? ((b.add (j * 32)).add i) = some x from hd)
          have HS := Lib.hid (idsize hlen)
          have hq : ∀ W, (Op.equalIn 10000 25 (.agg (idC l).toArray) (.agg (idC l).toArray)).run Tryd.prog W = .ok true W := fun W => by
            have := eq_id l l hlen hlen W; simpa using this
          have HU := Lib.hid Tryd.underlying25
          have da := T.drew.ca A35.out
          have db := T.drew.cb B35.out
          clear hc hd he hlen T
          go_wp2_with fail
          refine rg_still (by kernel_rfl) (by kernel_rfl) ?_
          repeat still_step
          (with_reducible apply st_ld (hc := HC.out) (hu := HU.out) (hi := HS.out))
          rfl
          rfl
          rfl
          rfl
          repeat still_step
          (with_reducible apply st_ld (hc := HE.out) (hu := HU.out) (hi := HS.out))
          rfl
          rfl
          rfl
          rfl
          repeat still_step
          refine wpStill_nil ?_
          go_wp2
          go_roundw
          case rel => exact ⟨j + 1, by omega, by go_num, HT3.out.drew⟩
          case measure => simp [intOf]; omega
        · clear T
          go_wp2_with fail
          go_ret
          exact ⟨rfl, HT3.out.below⟩

end Go.Proofs.YtcicfjfbnbkkcaaDoor
