/-
  WALKS OF LAYER 11: place, of a store and of none.
-/
import Derived.Test.YtipigedopmgemaaDoorStPlace
namespace Go.Proofs.YtipigedopmgemaaDoor
open Go.RowKit
set_option linter.unusedVariables false
set_option linter.unusedSimpArgs false

theorem still_idg {ops : Array Oper} {w : World} {Q : Act → Prop} {a : Act} {o : Oper} {rest : List Oper} {l : List UInt8} {x : Operand} {p : Addr} (ho : o.op = .load 35 x) (hx : a.eval x = .pointer (some p)) (hw : Region.wanted o (yielded ops a.tmps) = true)
    (hc : ∀ j v, (idC l)[j]? = some v → w.cell? (p.add j) = some v) (hl : l.length = 32)
    (h : wpStill Tryd.prog ops w Q rest (a.put o.dst (.agg (idC l).toArray))) : wpStill Tryd.prog ops w Q (o :: rest) a := by
  refine wpStill_step fun K hK => ?_
  rw [if_pos hw]
  unfold Oper.still execOp
  simp only [ho, hx, Instr.loadAt, Instr.sureAddr, Sem.run_bind, Sem.run_pure, Result.andThen_ok, run_loadVar_at w p 35 (idC l) _ hc Tryd.underlying35 rfl (idsize hl)]
  exact ⟨rfl, hK _ h⟩
theorem egP1 : ∀ args w, (callFunc 49 args).run Tryd.prog w = .ok (.enter 49 args) w := fun args w => by
  have h1 : decide (Tryd.f49.name = "runtime.NumGoroutine") = false := by kernel_rfl
  have h2 : Tryd.f49.body.isNone = false := by kernel_rfl
  have h1' : ¬ Tryd.f49.name = "runtime.NumGoroutine" := by simpa using h1
  have h2' : ¬ Tryd.f49.body = none := fun e => by rw [e] at h2; cases h2
  simp [callFunc, run_program, Tryd.func49, h1', h2']
theorem box_cell (w : World) (v : Value) (t : TypeId) : (w.alloc (.cells #[v] t)).cell? ⟨w.heap.size, 0, none⟩ = some v := by
  rw [cell_of_row _ _ 0 _ _ _ (heap_alloc_new _ _)]; rfl
theorem box2_cell (w : World) (v : Value) (t : TypeId) (o : Obj) : ((w.alloc (.cells #[v] t)).alloc o).cell? ⟨w.heap.size, 0, none⟩ = some v := by
  rw [((Below.refl _ _).alloc (Nat.le_refl _) o : Below (w.alloc (.cells #[v] t)).heap.size _ _).cell (by simp)]
  exact box_cell w v t
theorem below2 (w : World) (o1 o2 : Obj) : Below w.heap.size w ((w.alloc o1).alloc o2) := ((Below.refl _ _).alloc (Nat.le_refl _) _).alloc (by simp) _
theorem new2 (w : World) (o1 o2 : Obj) : ((w.alloc o1).alloc o2).heap[w.heap.size + 1]? = some o2 := by
  have := heap_alloc_new (w.alloc o1) o2
  simpa using this
theorem bel_drewN {B : Nat} {w w' : World} (h : Below B w w') (n : Nat) : Below B w (w'.drewN n) := ⟨h.os, h.tape, h.output, h.size, h.block⟩
/-- What the closure of place answers. -/
def plP (L : List St.It) (id : List UInt8) (k : Nat) : Bool := match L[k]? with
  | some r => !St.lt r.id id
  | none => true
theorem plP_at {L : List St.It} {id : List UInt8} {k : Nat} {r : St.It} (h : L[k]? = some r) : plP L id k = !St.lt r.id id := by unfold plP; rw [h]
theorem has_lt {L : List St.It} {id : List UInt8} {r : St.It} (hs : St.Srt L) (hr : L[St.pos L id]? = some r) : St.has L id = decide (r.id = id) := by
  by_cases e : r.id = id
  · rw [decide_eq_true e, St.has_of hr e]
  · rw [decide_eq_false e]
    cases hq : St.has L id with
    | false => rfl
    | true =>
      obtain ⟨r', hr', he⟩ := St.has_at hs hq
      rw [hr] at hr'; cases hr'; exact absurd he e
theorem has_ge {L : List St.It} {id : List UInt8} (hs : St.Srt L) (h : ¬ St.pos L id < L.length) : St.has L id = false := by
  cases hq : St.has L id with
  | false => rfl
  | true =>
    obtain ⟨r', hr', he⟩ := St.has_at hs hq
    exact absurd (List.getElem?_eq_some_iff.1 hr').1 h

set_option maxHeartbeats 400000 in
set_option maxRecDepth 100000 in
theorem place_nil (id : List UInt8) (w : World) :
    Calls Tryd.prog 30 #[.pointer none, .agg (idC id).toArray] w fun r w' => r = .returned (.tuple #[.int .i64 0, .bool false]) ∧ Below w.heap.size w w' := by
  have HB := Lib.hid (below2 w)
  generalize (idC id).toArray = da at *
  go_enter Tryd.func30, Tryd.ntmps30
  go_wp2_with fail
  go_ret2
  exact ⟨rfl, HB.out _ _⟩

set_option maxHeartbeats 2000000 in
set_option maxRecDepth 100000 in
theorem place_any (w : World) (base b : Nat) (v : Value) (L : List St.It) (id : List UInt8) (h : PSt w base b v L) (hil : id.length = 32) :
    Calls Tryd.prog 30 #[.pointer (some ⟨b, 0, none⟩), .agg (idC id).toArray] w fun r w' => r = .returned (.tuple #[.int .i64 (St.pos L id : Int), .bool (St.has L id)]) ∧ Below w.heap.size w w' := by
  have hfew := h.few
  have hpl := St.pos_le L id
  have HS := Lib.hid h.srt
  obtain ⟨ao, cap, rfl⟩ := h.form
  have HB2 := Lib.hid (below2 w)
  have HX2 := Lib.hid (box2_cell w)
  have HN2 := Lib.hid (new2 w)
  have HP := Lib.hid h
  have HIL := Lib.hid hil
  have hlt := h.lt
  have cb := h.cell
  have HSE := Lib.hid (show ∀ W, Below w.heap.size w W → W.cell? ⟨w.heap.size, 0, none⟩ = some (.pointer (some ⟨b, 0, none⟩)) → (∀ j x, (idC id)[j]? = some x → W.cell? ((⟨w.heap.size + 1, 0, none⟩ : Addr).add j) = some x) → w.heap.size + 2 ≤ W.heap.size →
      PredI 49 #[.pointer (some ⟨w.heap.size, 0, none⟩), .pointer (some ⟨w.heap.size + 1, 0, none⟩)] (plP L id) L.length W from fun W hb h2 h3 hz W2 k hb2 hk => by
    have hr := List.getElem?_eq_getElem hk
    rw [plP_at hr]
    refine place1_any W2 base b _ _ k _ L id _ ((h.below hb).below hb2) ?_ (fun j x hx => ?_) hil hr
    · rw [hb2.cell (by show w.heap.size < _; omega)]; exact h2
    · have := h3 j x hx
      rw [hb2.cell (World.block_lt_of_cell? _ _ this)]; exact this)
  have HH := Lib.hid (fun r (hr : L[St.pos L id]? = some r) => has_lt (id := id) h.srt hr)
  have HG := Lib.hid (has_ge (id := id) h.srt)
  have HF1 := Lib.hid (show ∀ k, k < St.pos L id → plP L id k = false from fun k hk => by
    have hr := List.getElem?_eq_getElem (show k < L.length by omega)
    rw [plP_at hr, St.pos_before hk hr]; rfl)
  have HF2 := Lib.hid (show ∀ k, St.pos L id ≤ k → k < L.length → plP L id k = true from fun k hk hk2 => by
    have hr := List.getElem?_eq_getElem hk2
    rw [plP_at hr, St.pos_from h.srt hk hr]; rfl)
  generalize hpos : St.pos L id = pos at *
  generalize hhas : St.has L id = has at *
  clear h hil hpos hhas
  go_enter Tryd.func30, Tryd.ntmps30
  go_wp2_with fail
  refine (search_any (plP L id) pos L.length 49 #[.pointer (some ⟨w.heap.size, 0, none⟩), .pointer (some ⟨w.heap.size + 1, 0, none⟩)] egP1 _ (by omega) hpl HF1.out HF2.out (HSE.out _ (HB2.out _ _) (HX2.out _ _ _) (row_news (HN2.out _ _)) (by simp))).mono ?_
  rintro r w3 ⟨rfl, hb3⟩
  have hb03 := (HB2.out _ _).trans (hb3.mono (show w.heap.size ≤ _ by simp; omega))
  have HP3 := Lib.hid (HP.out.below hb03)
  have c3 := (hb3.cell (p := ⟨w.heap.size, 0, none⟩) (by simp; omega)).trans (HX2.out _ _ _)
  have HN3 := Lib.hid (row_news ((hb3.block (w.heap.size + 1) (by simp)).trans (HN2.out _ _)))
  clear hb3 HSE HX2 HN2 HB2 cb
  have c3' : w3.drew.cell? ⟨w.heap.size, 0, none⟩ = some (.pointer (some ⟨b, 0, none⟩)) := c3
  have cb' : w3.drew.cell? ⟨b, 0, none⟩ = some (.slice ao L.length cap) := HP3.out.cell
  have cb : w3.cell? ⟨b, 0, none⟩ = some (.slice ao L.length cap) := HP3.out.cell
  by_cases hpp : pos < L.length
  · obtain ⟨r, hr⟩ : ∃ r, L[pos]? = some r := ⟨L[pos], List.getElem?_eq_getElem hpp⟩
    obtain ⟨a, rfl, hrl, hc⟩ := HP3.out.elem pos r hr
    have HC := Lib.hid (show ∀ j x, (idC r.id)[j]? = some x → w3.drew.cell? ((a.add (pos * 33)).add j) = some x from it_id hc)
    have HI := Lib.hid (show ∀ j x, (idC id)[j]? = some x → w3.drew.cell? ((⟨w.heap.size + 1, 0, none⟩ : Addr).add j) = some x from HN3.out)
    have HL1 := Lib.hid hrl
    have hq := fun W => eq_id r.id id hrl HIL.out W
    have HHH := Lib.hid (HH.out r hr)
    clear HP3
    have g1 : decide ((pos : Int) < (L.length : Int)) = true := by simp; omega
    have g2 : decide (pos < L.length) = true := by simp; omega
    have g3 : (pos : Int) < (L.length : Int) := by omega
    have g4 : (0 : Int) ≤ (pos : Int) := by omega
    clear hr hrl hc
    go_wp2_with fail
    refine rgn_still (by kernel_rfl) (by kernel_rfl) ?_
    repeat still_step
    (with_reducible apply still_idg (hc := HC.out) (hl := HL1.out))
    rfl
    rfl
    kernel_rfl
    (with_reducible apply still_idg (hc := HI.out) (hl := HIL.out))
    rfl
    rfl
    kernel_rfl
    repeat still_step
    refine wpStill_nil ?_
    go_wp2_with fail
    go_ret2
    exact ⟨by rw [HHH.out]; rfl, hb03.drew⟩
  · have HGG := Lib.hid (HG.out hpp)
    have g1 : decide ((pos : Int) < (L.length : Int)) = false := by simp; omega
    have g2 : decide (pos < L.length) = false := by simp; omega
    have g3 : ¬ (pos : Int) < (L.length : Int) := by omega
    go_wp2_with fail
    go_quiet (fail)
    go_wp2_with fail
    go_ret2
    exact ⟨by rw [HGG.out]; rfl, bel_drewN hb03 _⟩

end Go.Proofs.YtipigedopmgemaaDoor
