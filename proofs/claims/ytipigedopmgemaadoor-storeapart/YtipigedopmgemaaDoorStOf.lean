/-
  WALKS OF LAYER 11: Of (a program's store of the document's).
-/
import Derived.Test.YtipigedopmgemaaDoorStDoc2
namespace Go.Proofs.YtipigedopmgemaaDoor
open Go.RowKit
set_option linter.unusedVariables false
set_option linter.unusedSimpArgs false

theorem still_idw {ops : Array Oper} {w : World} {Q : Act → Prop} {a : Act} {o : Oper} {rest : List Oper} {l : List UInt8} {x : Operand} {p : Addr} (ho : o.op = .load 35 x) (hx : a.eval x = .pointer (some p)) (hw : Region.wanted o (yielded ops a.tmps) = true)
    (hc : ∀ j v, (idC l)[j]? = some v → w.cell? (p.add j) = some v) (hl : l.length = 32)
    (h : wpStill Tryd.prog ops w Q rest (a.put o.dst (.agg (idC l).toArray))) : wpStill Tryd.prog ops w Q (o :: rest) a := by
  refine wpStill_step fun K hK => ?_
  rw [if_pos hw]
  unfold Oper.still execOp
  simp only [ho, hx, Instr.loadAt, Instr.sureAddr, Sem.run_bind, Sem.run_pure, Result.andThen_ok, run_loadVar_at w p 35 (idC l) _ hc Tryd.underlying35 rfl (idsize hl)]
  exact ⟨rfl, hK _ h⟩
/-- An item of the document's store: where its id and its text lie, and what they are. -/
theorem DSt.outd {w : World} {ao : Option Addr} {n cap : Nat} {L : List St.It} (h : DSt w (.slice ao n cap) L) (i : Nat) (x : St.It) (hi : L[i]? = some x) :
    ∃ o, Rm.dec x.text.data.toList = some o ∧ shaI x.text = x.id := by
  obtain ⟨a, c, e, hd, hc⟩ := h.elem i x hi
  obtain ⟨o, cs, _, _, _, _, h1, h2⟩ := hd
  exact ⟨o, h1, h2⟩
/-- Put of a store's own next item. -/
theorem put_next {W w : World} {v' : Value} {L : List St.It} {k b : Nat} {x : St.It} {ao : Option Addr} {n cap : Nat} (hd : DSt W (.slice ao n cap) L) (hx : L[k]? = some x) (hp : PSt w b b v' (L.take k)) (hk : S2.KIn w) :
    Calls Tryd.prog 9 #[.pointer (some ⟨b, 0, none⟩), .string x.text] w fun r w' => r = .returned (.tuple #[.agg (idC x.id).toArray, .int .i64 0]) ∧ ∃ v5, PSt w' b b v5 (L.take (k + 1)) ∧ Below b w w' := by
  obtain ⟨o, h1, h2⟩ := hd.outd k x hx
  have hkl := (List.getElem?_eq_some_iff.1 hx).1
  have hfew := hd.few
  have hs : x.text.size ≤ maxLen := by
    obtain ⟨_, _, hl4, _⟩ := Rm.dec_inv h1
    rw [size_list] at hl4
    unfold maxLen; omega
  refine (put_ok w b b v' (L.take k) x.text o hp hk hs h1 (by simp; omega) (Nat.le_of_lt hp.lt)).mono ?_
  rintro r w' ⟨rfl, v5, h3, h4, _⟩
  rw [h2] at h3 ⊢
  exact ⟨rfl, v5, (St.put_up hd.srt hx) ▸ h3, h4.below hp⟩

set_option maxHeartbeats 2000000 in
set_option maxRecDepth 100000 in
theorem of_any (w : World) (v : Value) (L : List St.It) (h : DSt w v L) (hk : S2.KIn w) :
    Calls Tryd.prog 7 #[.agg #[v]] w fun r w' => ∃ b v', r = .returned (.pointer (some ⟨b, 0, none⟩)) ∧ w.heap.size ≤ b ∧ PSt w' b b v' L ∧ Below w.heap.size w w' := by
  have hfew := h.few
  obtain ⟨ao, cap, rfl⟩ := h.form
  have HH := Lib.hid h
  have HX1 := Lib.hid (heap_alloc_new w (.cells #[.slice ao L.length cap] 27))
  have hz1 : (w.alloc (.cells #[.slice ao L.length cap] 27)).heap.size = w.heap.size + 1 := by simp
  have HZ1 := Lib.hid hz1
  have HB2 := Lib.hid (below2 w (.cells #[.slice ao L.length cap] 27) (.cells #[.slice none 0 0] 65))
  have HX2 := Lib.hid (((below_new (w.alloc (.cells #[.slice ao L.length cap] 27)) (.cells #[.slice none 0 0] 65)).block w.heap.size (by simp)).trans HX1.out)
  have hp := new_st (w.alloc (.cells #[.slice ao L.length cap] 27))
  rw [hz1] at hp
  have HP2 := Lib.hid hp
  have HK2 := Lib.hid (hk.step HB2.out)
  have HNEW := Lib.hid (new_any (w.alloc (.cells #[.slice ao L.length cap] 27)))
  clear h hp hz1 hk
  go_enter Tryd.func7, Tryd.ntmps7
  go_wp2_with fail
  refine HNEW.out.mono ?_
  rintro r w2 ⟨rfl, rfl⟩
  rw [HZ1.out]
  generalize (w.alloc (.cells #[.slice ao L.length cap] 27)).alloc (.cells #[.slice none 0 0] 65) = w2 at *
  clear HNEW HX1 HZ1
  go_wp2_with fail
  go_loopw [4] (fun i wr => ∃ (k : Nat) (v' : Value), k ≤ L.length ∧ i = .int .i64 k ∧ Hid (PSt wr (w.heap.size + 1) (w.heap.size + 1) v' (L.take k)) ∧ Hid (S2.KIn wr) ∧ Hid (Below w.heap.size w wr) ∧ Hid (wr.heap[w.heap.size]? = some (.cells #[.slice ao L.length cap] 27))) (fun i _ => L.length - (intOf i).toNat)
  case atStart => exact ⟨0, _, by omega, rfl, HP2.out, HK2.out, HB2.out, HX2.out⟩
  case round =>
    obtain ⟨k, v', hk, rfl, HP, HKI, HB, HX⟩ := hrel
    have c0 : wr.cell? ⟨w.heap.size, 0, none⟩ = some (.slice ao L.length cap) := by rw [cell_of_row _ _ 0 _ _ _ HX.out]; rfl
    by_cases hlt : k < L.length
    · have hlt' : (k : Int) < (L.length : Int) := by omega
      have hk0 : (0 : Int) ≤ (k : Int) := by omega
      obtain ⟨x, hx⟩ : ∃ x, L[k]? = some x := ⟨L[k], List.getElem?_eq_getElem hlt⟩
      have hxl := HH.out.len x (List.mem_of_getElem? hx)
      have HPUT := Lib.hid (put_next HH.out hx HP.out HKI.out)
      have HOUT := Lib.hid (fun W (hb : Below w.heap.size w W) => (HH.out.below hb).out k x hx)
      obtain ⟨a, rfl, _, ct⟩ := HOUT.out wr HB.out
      have hA1 := add_block a (k * 105)
      have hA2 : (a.add (k * 105)).off = a.off + k * 105 := by unfold Addr.add; split <;> simp_all
      have HXL := Lib.hid hxl
      have hq : ∀ W, (Op.equalIn 10000 35 (.agg (idC x.id).toArray) (.agg (idC x.id).toArray)).run Tryd.prog W = .ok true W := fun W => by
        have := eq_id x.id x.id hxl hxl W; simpa using this
      clear hx hxl
      go_wp2_with fail
      refine HPUT.out.mono ?_
      rintro r w5 ⟨rfl, v5, hp5, hb5⟩
      have HB5 := Lib.hid (HB.out.trans (hb5.mono (by omega)))
      have HB6 := Lib.hid (HB5.out.trans ((below_new w5 (.cells (idC x.id).toArray 35)).mono HB5.out.size))
      have HX6 := Lib.hid (((below_new w5 (.cells (idC x.id).toArray 35)).block w.heap.size (by have := hp5.lt; omega)).trans ((hb5.block w.heap.size (by omega)).trans HX.out))
      have HP6 := Lib.hid (hp5.below (below_new w5 (.cells (idC x.id).toArray 35)))
      have HK6 := Lib.hid ((HKI.out.below hb5 (by omega)).step (below_new w5 (.cells (idC x.id).toArray 35)))
      obtain ⟨a', he', hc, _⟩ := HOUT.out _ HB6.out
      cases he'
      have HC2 := Lib.hid (show ∀ j u, (idC x.id)[j]? = some u → (w5.alloc (.cells (idC x.id).toArray 35)).drew.cell? ((a.add (k * 105)).add j) = some u from hc)
      have HC1 := Lib.hid (show ∀ j u, (idC x.id)[j]? = some u → (w5.alloc (.cells (idC x.id).toArray 35)).drew.cell? ((⟨w5.heap.size, 0, none⟩ : Addr).add j) = some u from row_news (heap_alloc_new w5 (.cells (idC x.id).toArray 35)))
      have c6 : (w5.alloc (.cells (idC x.id).toArray 35)).drew.cell? ⟨w.heap.size, 0, none⟩ = some (.slice (some a) L.length cap) := by
        show (w5.alloc (.cells (idC x.id).toArray 35)).cell? ⟨w.heap.size, 0, none⟩ = _
        rw [cell_of_row _ _ 0 _ _ _ HX6.out]; rfl
      clear hp5 hb5 HPUT HOUT hc HP HKI HB HX c0 ct
      go_wp2_with ((with_reducible refine st_id2 (l := x.id) (x := .tmp 5) (y := .tmp 26) (g := w5.heap.size) ?_ ?_ ?_ ?_ ?_ ?_ HXL.out ?_); rfl; rfl; rfl; rfl; rfl; rfl)
      refine rgn_still (by kernel_rfl) (by kernel_rfl) ?_
      repeat still_step
      (with_reducible apply still_idw (hc := HC1.out) (hl := HXL.out))
      rfl
      rfl
      kernel_rfl
      repeat still_step
      (with_reducible apply still_idw (hc := HC2.out) (hl := HXL.out))
      rfl
      rfl
      kernel_rfl
      repeat still_step
      refine wpStill_nil ?_
      go_wp2_with fail
      go_roundw
      case rel => exact ⟨k + 1, _, by omega, by go_num, HP6.out.below (Below.refl _ _).drew, HK6.out, HB6.out.drew, HX6.out⟩
      case measure => simp [intOf]; omega
    · have : k = L.length := by omega
      subst this
      have HP' := Lib.hid (show PSt wr (w.heap.size + 1) (w.heap.size + 1) v' L from by simpa using HP.out)
      go_wp2_with fail
      go_ret
      exact ⟨_, _, rfl, by omega, HP'.out, HB.out⟩

end Go.Proofs.YtipigedopmgemaaDoor
