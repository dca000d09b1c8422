/-
  WALKS OF LAYER 11: the store in memory; the closure of place; place.
-/
import Derived.Test.YtipigedopmgemaaDoorStSearch
import Derived.Test.YtipigedopmgemaaDoorS2c
import Derived.StillTailTactics
namespace Go.Proofs.YtipigedopmgemaaDoor
open Go.RowKit
set_option linter.unusedVariables false
set_option linter.unusedSimpArgs false

theorem rgn_tail {P : Program} {id : Nat} {Q : Exit → Act → World → Prop} {a : Act} {w : World} {l : List Oper} (n : Nat) (hm : P.follows .mixedOrders = true) (hB : Region.lexTailB .any l.toArray n = true)
    (h : wpStill P l.toArray w.drew (fun a' => wpList P l.toArray Q (l.drop n) a' w.drew) (l.take n) a) : (Code.region id l.toArray true).wp P Q a w := wp_region_still_tail n hm hB h
theorem rgn_still {P : Program} {id : Nat} {Q : Exit → Act → World → Prop} {a : Act} {w : World} {l : List Oper} (hm : P.follows .mixedOrders = true) (hB : Region.lexB .any l.toArray = true)
    (h : wpStill P l.toArray w.drew (fun a' => Q .normal a' w.drew) l a) : (Code.region id l.toArray true).wp P Q a w := wp_region_still_lit hm hB h
/-- A value of several cells out of wherever, in a region that only reads. -/
theorem still_at {ops : Array Oper} {w : World} {Q : Act → Prop} {a : Act} {o : Oper} {rest : List Oper} {cs : List Value} {ty : TypeId} {x : Operand} {p : Addr} {d : TypeDesc} (ho : o.op = .load ty x) (hx : a.eval x = .pointer (some p)) (hg : o.guard = none)
    (hc : ∀ j v, cs[j]? = some v → w.cell? (p.add j) = some v) (hu : Tryd.prog.underlying ty = some d) (hd : d.isRow = true) (hi : (Tryd.prog.info? ty).map (·.size) = some cs.length)
    (h : wpStill Tryd.prog ops w Q rest (a.put o.dst (.agg cs.toArray))) : wpStill Tryd.prog ops w Q (o :: rest) a := by
  refine wpStill_step fun K hK => ?_
  rw [if_pos (by simp [Region.wanted, hg])]
  unfold Oper.still execOp
  simp only [ho, hx, Instr.loadAt, Instr.sureAddr, Sem.run_bind, Sem.run_pure, Result.andThen_ok, run_loadVar_at w p ty cs d hc hu hd hi]
  exact ⟨rfl, hK _ h⟩
theorem still_id {ops : Array Oper} {w : World} {Q : Act → Prop} {a : Act} {o : Oper} {rest : List Oper} {l : List UInt8} {x : Operand} {p : Addr} (ho : o.op = .load 35 x) (hx : a.eval x = .pointer (some p)) (hg : o.guard = none)
    (hc : ∀ j v, (idC l)[j]? = some v → w.cell? (p.add j) = some v) (hl : l.length = 32)
    (h : wpStill Tryd.prog ops w Q rest (a.put o.dst (.agg (idC l).toArray))) : wpStill Tryd.prog ops w Q (o :: rest) a :=
  still_at ho hx hg hc Tryd.underlying35 rfl (idsize hl) h

theorem lt_same : ∀ a b : List UInt8, S2.ltB a b = St.lt a b
  | [], [] => rfl
  | [], _ :: _ => rfl
  | _ :: _, [] => rfl
  | x :: r, y :: q => by unfold S2.ltB St.lt; rw [lt_same r q]
theorem idA_same (l : List UInt8) (h : l.length = 32) : S2.idA l = (idC l).toArray := by
  unfold S2.idA idC
  rw [h]; simp
  intro x _; rfl
theorem less_id (a b : List UInt8) (w : World) (ha : a.length = 32) (hb : b.length = 32) :
    Calls Tryd.prog 50 #[.agg (idC a).toArray, .agg (idC b).toArray] w fun r w' => r = .returned (.bool (St.lt a b)) ∧ Below w.heap.size w w' := by
  have := S2.less_any a b w ha hb
  rwa [idA_same a ha, idA_same b hb, lt_same] at this
theorem refless_id (a b : List UInt8) (w : World) (ha : a.length = 32) (hb : b.length = 32) :
    Calls Tryd.prog 29 #[.agg (idC a).toArray, .agg (idC b).toArray] w fun r w' => r = .returned (.bool (St.lt a b)) ∧ Below w.heap.size w w' := by
  have := S2.refless_any a b w ha hb
  rwa [idA_same a ha, idA_same b hb, lt_same] at this

/-- The program's store in memory: its block b, its row; what it holds. -/
structure PSt (w : World) (base b : Nat) (v : Value) (L : List St.It) : Prop where
  box : w.heap[b]? = some (.cells #[v] 65)
  own : OwnF w base v L
  ge : base ≤ b
  len : St.Len L
  srt : St.Srt L
  few : L.length ≤ 63
theorem PSt.below {w w' : World} {base b : Nat} {v : Value} {L : List St.It} (h : PSt w base b v L) (hb : Below w.heap.size w w') : PSt w' base b v L :=
  ⟨(hb.block b (Array.getElem?_eq_some_iff.1 h.box).1).trans h.box, own_bel h.own hb, h.ge, h.len, h.srt, h.few⟩
theorem PSt.cell {w : World} {base b : Nat} {v : Value} {L : List St.It} (h : PSt w base b v L) : w.cell? ⟨b, 0, none⟩ = some v := by
  rw [cell_of_row _ _ 0 _ _ _ h.box]; rfl
theorem PSt.lt {w : World} {base b : Nat} {v : Value} {L : List St.It} (h : PSt w base b v L) : b < w.heap.size := (Array.getElem?_eq_some_iff.1 h.box).1
theorem PSt.form {w : World} {base b : Nat} {v : Value} {L : List St.It} (h : PSt w base b v L) : ∃ ao cap, v = .slice ao L.length cap := (h.own.rows h.len).form
theorem PSt.elem {w : World} {base b : Nat} {ao : Option Addr} {n cap : Nat} {L : List St.It} (h : PSt w base b (.slice ao n cap) L) (i : Nat) (r : St.It) (hi : L[i]? = some r) :
    ∃ a, ao = some a ∧ r.id.length = 32 ∧ ∀ j x, (itC r)[j]? = some x → w.cell? ((a.add (i * 33)).add j) = some x := (h.own.rows h.len).elem i r hi

set_option maxHeartbeats 1000000 in
set_option maxRecDepth 100000 in
theorem place1_any (W : World) (base b b2 b3 k : Nat) (v : Value) (L : List St.It) (id : List UInt8) (r : St.It) (h : PSt W base b v L) (h2 : W.cell? ⟨b2, 0, none⟩ = some (.pointer (some ⟨b, 0, none⟩))) (h3 : ∀ j x, (idC id)[j]? = some x → W.cell? ((⟨b3, 0, none⟩ : Addr).add j) = some x) (hil : id.length = 32) (hr : L[k]? = some r) :
    Calls Tryd.prog 49 #[.int .i64 (k : Int), .pointer (some ⟨b2, 0, none⟩), .pointer (some ⟨b3, 0, none⟩)] W fun e w' => e = .returned (.bool (!St.lt r.id id)) ∧ Below W.heap.size W w' := by
  have hkl : k < L.length := (List.getElem?_eq_some_iff.1 hr).1
  have hfew := h.few
  obtain ⟨ao, cap, rfl⟩ := h.form
  obtain ⟨a, rfl, hrl, hc⟩ := h.elem k r hr
  have HC := Lib.hid (show ∀ j x, (idC r.id)[j]? = some x → W.drew.cell? ((a.add (k * 33)).add j) = some x from it_id hc)
  have HI := Lib.hid (show ∀ j x, (idC id)[j]? = some x → W.drew.cell? ((⟨b3, 0, none⟩ : Addr).add j) = some x from h3)
  have HL1 := Lib.hid hrl
  have HL2 := Lib.hid hil
  have c2 : W.drew.cell? ⟨b2, 0, none⟩ = some (.pointer (some ⟨b, 0, none⟩)) := h2
  have cb : W.drew.cell? ⟨b, 0, none⟩ = some (.slice (some a) L.length cap) := h.cell
  have g1 : (k : Int) < (L.length : Int) := by omega
  have g2 : (0 : Int) ≤ (k : Int) := by omega
  have HLS := Lib.hid (fun W => less_id r.id id W hrl hil)
  clear h h2 h3 hr hrl hil hc hfew
  go_enter Tryd.func49, Tryd.ntmps49
  go_wp2_with fail
  refine rgn_tail 9 (by kernel_rfl) (by kernel_rfl) ?_
  simp only [List.take_succ_cons, List.take_zero, List.drop_succ_cons, List.drop_zero]
  repeat still_step
  (with_reducible apply still_id (hc := HC.out) (hl := HL1.out))
  rfl
  rfl
  rfl
  (with_reducible apply still_id (hc := HI.out) (hl := HL2.out))
  rfl
  rfl
  rfl
  refine wpStill_nil ?_
  go_wp2_with fail
  refine (HLS.out _).mono ?_
  rintro e w1 ⟨rfl, hb1⟩
  go_wp2_with fail
  go_ret
  exact ⟨rfl, (Below.refl _ _).drew.trans hb1⟩

end Go.Proofs.YtipigedopmgemaaDoor
