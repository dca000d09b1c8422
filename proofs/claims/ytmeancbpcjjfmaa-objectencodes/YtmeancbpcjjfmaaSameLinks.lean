/-
  WALKS OF LAYER 4: SameLinks (knapsackref04), of two rows that hold the same.
-/
import Derived.Test.YtmeancbpcjjfmaaLinks
namespace Go.Proofs.Ytmeancbpcjjfmaa
open Go.RowKit
set_option linter.unusedVariables false
set_option linter.unusedSimpArgs false

theorem still_of {P : Program} {f : FuncId} {args : Array Value} {w : World} {v : Value} (h : Calls P f args w fun e w' => e = .returned v ∧ w = w') : Calls P f args w fun e w' => e = .returned v ∧ w' = w := h.mono fun _ _ ⟨h1, h2⟩ => ⟨h1, h2.symm⟩
theorem region_still {P : Program} {id : Nat} {Q : Exit → Act → World → Prop} {a : Act} {w : World} {l : List Oper} (hm : P.follows .mixedOrders = true) (hB : Region.lexB .any l.toArray = true)
    (h : wpStill P l.toArray w.drew (fun a' => Q .normal a' w.drew) l a) : (Code.region id l.toArray true).wp P Q a w := wp_region_still_lit hm hB h
/-- A link out of wherever, in a region that only reads. -/
theorem still_ld {ops : Array Oper} {w : World} {Q : Act → Prop} {a : Act} {o : Oper} {rest : List Oper} {cs : List Value} {ty : TypeId} {x : Operand} {p : Addr} {d : TypeDesc} (ho : o.op = .load ty x) (hx : a.eval x = .pointer (some p)) (hg : o.guard = none)
    (hc : ∀ j v, cs[j]? = some v → w.cell? (p.add j) = some v) (hu : Try.prog.underlying ty = some d) (hd : d.isRow = true) (hi : (Try.prog.info? ty).map (·.size) = some cs.length)
    (h : wpStill Try.prog ops w Q rest (a.put o.dst (.agg cs.toArray))) : wpStill Try.prog ops w Q (o :: rest) a := by
  refine wpStill_step fun K hK => ?_
  rw [if_pos (by simp [Region.wanted, hg])]
  unfold Oper.still execOp
  simp only [ho, hx, Instr.loadAt, Instr.sureAddr, Sem.run_bind, Sem.run_pure, Result.andThen_ok, run_loadVar_at w p ty cs d hc hu hd hi]
  exact ⟨rfl, hK _ h⟩

theorem lk_cells {w : World} {ao : Option Addr} {n cap : Nat} {ls : List (List UInt8 × Int)} (h : RowsAt w (.slice ao n cap) 33 (ls.map lkC)) (i : Nat) (l : List UInt8 × Int) (hi : ls[i]? = some l) :
    ∃ a, ao = some a ∧ ∀ j x, (lkC l)[j]? = some x → w.cell? ((a.add (i * 33)).add j) = some x := by
  obtain ⟨a, h1, _, h3⟩ := h.elem i (lkC l) (by simp [hi])
  exact ⟨a, h1, h3⟩

set_option maxHeartbeats 1000000 in
set_option maxRecDepth 100000 in
theorem sameLinks_any (ls : List (List UInt8 × Int)) (ao bo : Option Addr) (ca cb : Nat) (w : World) (hA : RowsAt w (.slice ao ls.length ca) 33 (ls.map lkC)) (hB : RowsAt w (.slice bo ls.length cb) 33 (ls.map lkC)) (hid : ∀ l ∈ ls, l.1.length = 32) (hl : ls.length ≤ 1000) :
    Calls Try.prog 11 #[.slice ao ls.length ca, .slice bo ls.length cb] w fun r w' => r = .returned (.bool true) ∧ Below w.heap.size w w' := by
  have HA := Lib.hid hA
  have HB := Lib.hid hB
  have HD := Lib.hid hid
  clear hA hB hid
  go_enter Try.func11, Try.ntmps11
  go_wp2
  go_loopw [5] (fun i wr => ∃ (k : Nat), k ≤ ls.length ∧ i = .int .i64 k ∧ Below w.heap.size w wr) (fun i _ => ls.length - (intOf i).toNat)
  case atStart => exact ⟨0, by omega, rfl, Below.refl _ _⟩
  case round =>
    obtain ⟨k, hk, rfl, hb⟩ := hrel
    by_cases hlt : k < ls.length
    · have hlt' : (k : Int) < (ls.length : Int) := by omega
      have hk0 : (0 : Int) ≤ (k : Int) := by omega
      obtain ⟨l, he⟩ : ∃ l, ls[k]? = some l := ⟨ls[k], List.getElem?_eq_getElem hlt⟩
      have hlen := HD.out l (List.mem_of_getElem? he)
      obtain ⟨a, rfl, hc⟩ := lk_cells (HA.out.below hb) k l he
      obtain ⟨b, rfl, hd⟩ := lk_cells (HB.out.below hb) k l he
      have HC := Lib.hid (show ∀ j x, (lkC l)[j]? = some x → wr.drew.cell? ((a.add (k * 33)).add j) = some x from hc)
      have HE := Lib.hid (show ∀ j x, (lkC l)[j]? = some x → wr.drew.cell? ((b.add (k * 33)).add j) = some x from hd)
      have HS := Lib.hid (lksize hlen)
      have hq := fun W => eq_lk l hlen W
      have HU := Lib.hid under52
      clear hc hd he hlen
      go_wp2_with fail
      refine region_still (by kernel_rfl) (by kernel_rfl) ?_
      repeat still_step
      (with_reducible apply still_ld (hc := HC.out) (hu := HU.out) (hi := HS.out))
      rfl
      rfl
      rfl
      rfl
      repeat still_step
      (with_reducible apply still_ld (hc := HE.out) (hu := HU.out) (hi := HS.out))
      rfl
      rfl
      rfl
      rfl
      repeat still_step
      refine wpStill_nil ?_
      go_wp2
      go_roundw
      case rel => exact ⟨k + 1, by omega, by go_num, hb.drew⟩
      case measure => simp [intOf]; omega
    · go_wp2
      go_ret
      exact ⟨rfl, hb⟩
end Go.Proofs.Ytmeancbpcjjfmaa
