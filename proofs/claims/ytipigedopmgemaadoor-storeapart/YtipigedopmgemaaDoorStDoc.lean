/-
  WALKS OF LAYER 11: the document's store in memory; At, Ids; Same of two lists of ids.
-/
import Derived.Test.YtipigedopmgemaaDoorStFill
namespace Go.Proofs.YtipigedopmgemaaDoor
open Go.RowKit
set_option linter.unusedVariables false
set_option linter.unusedSimpArgs false

/-- A row of items that a call has made. -/
structure OwnR (w : World) (base : Nat) (v : Value) (C : List (List Value)) : Prop where
  own : w.ownsRow base 44 105 v C.length C.flatten
  len : ∀ c ∈ C, c.length = 105
theorem OwnR.nil (w : World) (base : Nat) : OwnR w base (.slice none 0 0) [] := ⟨World.ownsRow_nil _ _ _ _, (fun i h => by cases h)⟩
theorem OwnR.below {w w' : World} {base : Nat} {v : Value} {C : List (List Value)} (h : OwnR w base v C) (hb : Below w.heap.size w w') : OwnR w' base v C := ⟨own_bel h.own hb, h.len⟩
theorem OwnR.rows {w : World} {base : Nat} {v : Value} {C : List (List Value)} (h : OwnR w base v C) : RowsAt w v 105 C := own_rowsK h.own h.len
theorem OwnR.zero {w : World} {base : Nat} {v : Value} {C : List (List Value)} (h : OwnR w base v C) : OwnR w 0 v C := by
  refine ⟨⟨h.own.1, h.own.2.imp id ?_⟩, h.len⟩
  rintro ⟨g, cap, cur, hv, _, hrest⟩
  exact ⟨g, cap, cur, hv, Nat.zero_le _, hrest⟩
/-- An item of the document's store: its 105 cells (of its object the kind alone is looked at). -/
def DIt (_w : World) (c : List Value) (x : St.It) : Prop :=
  ∃ (o : Ob) (cs : Array Value), c = riC x.id x.text cs ∧ cs.size = 72 ∧ cs.all (·.oneCell') = true ∧ cs[0]? = some (.int .i64 o.kind) ∧ Rm.dec x.text.data.toList = some o ∧ shaI x.text = x.id
theorem DIt.below {w w' : World} {c : List Value} {x : St.It} (h : DIt w c x) (hb : Below w.heap.size w w') : DIt w' c x := h
theorem DIt.idl {w : World} {c : List Value} {x : St.It} (h : DIt w c x) : x.id.length = 32 := by
  obtain ⟨o, cs, _, _, _, _, _, h4⟩ := h
  rw [← h4]; exact shaI_len _
theorem DIt.len {w : World} {c : List Value} {x : St.It} (h : DIt w c x) : c.length = 105 := by
  have := h.idl
  obtain ⟨o, cs, rfl, h2, _⟩ := h
  exact riC_length _ this h2
theorem DIt.one {w : World} {c : List Value} {x : St.It} (h : DIt w c x) : ∀ v ∈ c, v.oneCell' = true := by
  obtain ⟨o, cs, rfl, _, h2, _⟩ := h
  exact riC_one _ _ h2
/-- Rows of items, each what it is to be. -/
structure Its (w : World) (C : List (List Value)) (L : List St.It) : Prop where
  len : C.length = L.length
  at_ : ∀ (i : Nat) (c : List Value) (x : St.It), C[i]? = some c → L[i]? = some x → DIt w c x
theorem Its.below {w w' : World} {C : List (List Value)} {L : List St.It} (h : Its w C L) (hb : Below w.heap.size w w') : Its w' C L := ⟨h.len, fun i c x h1 h2 => (h.at_ i c x h1 h2).below hb⟩
theorem Its.rowlen {w : World} {C : List (List Value)} {L : List St.It} (h : Its w C L) : ∀ c ∈ C, c.length = 105 := fun c hc => by
  obtain ⟨i, hi⟩ := List.getElem?_of_mem hc
  have hl : i < L.length := by rw [← h.len]; exact (List.getElem?_eq_some_iff.1 hi).1
  exact (h.at_ i c _ hi (List.getElem?_eq_getElem hl)).len
theorem Its.push {w : World} {C : List (List Value)} {L : List St.It} {c : List Value} {x : St.It} (h : Its w C L) (hc : DIt w c x) : Its w (C ++ [c]) (L ++ [x]) := by
  refine ⟨by simp [h.len], fun i d y hd hy => ?_⟩
  by_cases hi : i < C.length
  · rw [List.getElem?_append_left hi] at hd
    rw [List.getElem?_append_left (by rw [← h.len]; exact hi)] at hy
    exact h.at_ i d y hd hy
  · have hic : i = C.length := by
      have := (List.getElem?_eq_some_iff.1 hd).1
      simp at this; omega
    subst hic
    rw [List.getElem?_append_right (Nat.le_refl _)] at hd
    rw [List.getElem?_append_right (by rw [h.len]; exact Nat.le_refl _), h.len] at hy
    simp at hd hy
    subst hd hy
    exact hc
/-- The document's store in memory. -/
structure DSt (w : World) (v : Value) (L : List St.It) : Prop where
  rows : ∃ C, OwnR w 0 v C ∧ Its w C L
  srt : St.Srt L
  few : L.length ≤ 62
theorem DSt.below {w w' : World} {v : Value} {L : List St.It} (h : DSt w v L) (hb : Below w.heap.size w w') : DSt w' v L := by
  obtain ⟨C, h1, h2⟩ := h.rows
  exact ⟨⟨C, h1.below hb, h2.below hb⟩, h.srt, h.few⟩
theorem DSt.form {w : World} {v : Value} {L : List St.It} (h : DSt w v L) : ∃ ao cap, v = .slice ao L.length cap := by
  obtain ⟨C, h1, h2⟩ := h.rows
  rw [← h2.len]; exact h1.rows.form
theorem DSt.nil (w : World) : DSt w (.slice none 0 0) [] := ⟨⟨[], OwnR.nil _ _, rfl, fun i c x h => by simp at h⟩, St.nil_srt, Nat.zero_le _⟩
/-- An item, where it lies. -/
theorem DSt.elem {w : World} {ao : Option Addr} {n cap : Nat} {L : List St.It} (h : DSt w (.slice ao n cap) L) (i : Nat) (x : St.It) (hi : L[i]? = some x) :
    ∃ a c, ao = some a ∧ DIt w c x ∧ ∀ j u, c[j]? = some u → w.cell? ((a.add (i * 105)).add j) = some u := by
  obtain ⟨C, h1, h2⟩ := h.rows
  have hl : i < C.length := by rw [h2.len]; exact (List.getElem?_eq_some_iff.1 hi).1
  have hc := List.getElem?_eq_getElem hl
  obtain ⟨a, e, _, h3⟩ := h1.rows.elem i _ hc
  exact ⟨a, _, e, h2.at_ i _ x hc hi, h3⟩
theorem DSt.len {w : World} {v : Value} {L : List St.It} (h : DSt w v L) : St.Len L := fun r hr => by
  obtain ⟨C, h1, h2⟩ := h.rows
  obtain ⟨i, hi⟩ := List.getElem?_of_mem hr
  have hl : i < C.length := by rw [h2.len]; exact (List.getElem?_eq_some_iff.1 hi).1
  exact (h2.at_ i _ r (List.getElem?_eq_getElem hl) hi).idl
theorem ri_id {w : World} {p : Addr} {id : List UInt8} {t : ByteArray} {cs : Array Value} (h : ∀ j x, (riC id t cs)[j]? = some x → w.cell? (p.add j) = some x) : ∀ j x, (idC id)[j]? = some x → w.cell? (p.add j) = some x := fun j x hx => h j x (by
  simp only [riC]
  rw [List.getElem?_append_left (List.getElem?_eq_some_iff.1 hx).1]; exact hx)
theorem ri_text {w : World} {p : Addr} {id : List UInt8} {t : ByteArray} {cs : Array Value} (h : ∀ j x, (riC id t cs)[j]? = some x → w.cell? (p.add j) = some x) (hl : id.length = 32) : w.cell? (p.add 32) = some (.string t) := h 32 _ (by
  simp only [riC]
  rw [List.getElem?_append_right (by rw [idC_length]; omega), idC_length, hl]; rfl)
theorem ri_ob {w : World} {p : Addr} {id : List UInt8} {t : ByteArray} {cs : Array Value} (h : ∀ j x, (riC id t cs)[j]? = some x → w.cell? (p.add j) = some x) (hl : id.length = 32) (j : Nat) (u : Value) (hu : cs[j]? = some u) : w.cell? (p.add (33 + j)) = some u := h (33 + j) u (by
  simp only [riC]
  rw [List.getElem?_append_right (by rw [idC_length]; omega), idC_length, hl, show 33 + j - 32 = j + 1 by omega, List.getElem?_cons_succ]
  simpa using hu)
theorem DSt.out {w : World} {ao : Option Addr} {n cap : Nat} {L : List St.It} (h : DSt w (.slice ao n cap) L) (i : Nat) (x : St.It) (hi : L[i]? = some x) :
    ∃ a, ao = some a ∧ (∀ j u, (idC x.id)[j]? = some u → w.cell? ((a.add (i * 105)).add j) = some u) ∧ w.cell? ⟨a.block, a.off + i * 105 + 32, none⟩ = some (.string x.text) := by
  obtain ⟨a, c, e, hd, hc⟩ := h.elem i x hi
  have hil := hd.idl
  obtain ⟨o, cs, rfl, _⟩ := hd
  refine ⟨a, e, ri_id hc, ?_⟩
  have := ri_text hc hil
  rwa [add_two a (i * 105) 32 (by decide)] at this

/-- Where an id stands. -/
def atV (L : List St.It) (id : List UInt8) : Int := if St.has L id then (St.pos L id : Int) else -1
theorem atV_at {L : List St.It} {id : List UInt8} {k : Nat} {x : St.It} (hs : St.Srt L) (hx : L[k]? = some x) (he : x.id = id) : atV L id = k := by
  unfold atV
  rw [St.has_of hx he, if_pos rfl, ← he, St.pos_eq hs hx]
theorem atV_none {L : List St.It} {id : List UInt8} (h : ∀ (j : Nat) (x : St.It), j < L.length → L[j]? = some x → x.id ≠ id) : atV L id = -1 := by
  unfold atV
  have : St.has L id = false := by
    unfold St.has
    rw [List.any_eq_false]
    intro x hx
    obtain ⟨j, hj⟩ := List.getElem?_of_mem hx
    simpa using h j x (List.getElem?_eq_some_iff.1 hj).1 hj
  rw [this]; rfl

set_option maxHeartbeats 2000000 in
set_option maxRecDepth 100000 in
theorem at_any (w : World) (v : Value) (L : List St.It) (id : List UInt8) (h : DSt w v L) (hil : id.length = 32) :
    Calls Tryd.prog 28 #[.agg #[v], .agg (idC id).toArray] w fun r w' => r = .returned (.int .i64 (atV L id)) ∧ Below w.heap.size w w' := by
  have hfew := h.few
  obtain ⟨ao, cap, rfl⟩ := h.form
  have HB2 := Lib.hid (below2 w (.cells #[.slice ao L.length cap] 27) (.cells (idC id).toArray 35))
  have HX2 := Lib.hid (box2_cell w (.slice ao L.length cap) 27 (.cells (idC id).toArray 35))
  have HN2 := Lib.hid (row_news (new2 w (.cells #[.slice ao L.length cap] 27) (.cells (idC id).toArray 35)))
  have HH := Lib.hid h
  have HIL := Lib.hid hil
  have HV := Lib.hid (show ∀ (k : Nat) (x : St.It), L[k]? = some x → x.id = id → atV L id = (k : Int) from fun k x hx he => atV_at h.srt hx he)
  have HW := Lib.hid (show (∀ (j : Nat) (x : St.It), j < L.length → L[j]? = some x → x.id ≠ id) → atV L id = -1 from fun h => atV_none h)
  generalize atV L id = Z at *
  clear h hil
  go_enter Tryd.func28, Tryd.ntmps28
  go_wp2_with fail
  go_loopw [5] (fun i wr => ∃ (k : Nat), k ≤ L.length ∧ i = .int .i64 k ∧ Hid (∀ (j : Nat) (x : St.It), j < k → L[j]? = some x → x.id ≠ id) ∧ Hid (Below w.heap.size w wr) ∧ Hid (wr.cell? ⟨w.heap.size, 0, none⟩ = some (.slice ao L.length cap)) ∧ Hid (∀ j u, (idC id)[j]? = some u → wr.cell? ((⟨w.heap.size + 1, 0, none⟩ : Addr).add j) = some u)) (fun i _ => L.length - (intOf i).toNat)
  case atStart => exact ⟨0, by omega, rfl, fun j x h => absurd h (by omega), HB2.out, HX2.out, HN2.out⟩
  case round =>
    obtain ⟨k, hk, rfl, HA, HB, HC, HI⟩ := hrel
    have c0 := HC.out
    have c0' : wr.drew.cell? ⟨w.heap.size, 0, none⟩ = some (.slice ao L.length cap) := HC.out
    by_cases hlt : k < L.length
    · have hlt' : (k : Int) < (L.length : Int) := by omega
      have hk0 : (0 : Int) ≤ (k : Int) := by omega
      obtain ⟨x, hx⟩ : ∃ x, L[k]? = some x := ⟨L[k], List.getElem?_eq_getElem hlt⟩
      have hxl := HH.out.len x (List.mem_of_getElem? hx)
      obtain ⟨a, rfl, hc, _⟩ := (HH.out.below HB.out).out k x hx
      have HC1 := Lib.hid (show ∀ j u, (idC x.id)[j]? = some u → wr.drew.cell? ((a.add (k * 105)).add j) = some u from hc)
      have HC2 := Lib.hid (show ∀ j u, (idC id)[j]? = some u → wr.drew.cell? ((⟨w.heap.size + 1, 0, none⟩ : Addr).add j) = some u from HI.out)
      have HXL := Lib.hid hxl
      have HX := Lib.hid hx
      have hq := fun W => eq_id x.id id hxl HIL.out W
      clear hx hxl hc
      by_cases he : x.id = id
      · have HR := Lib.hid (HV.out k x HX.out he)
        rw [show decide (x.id = id) = true from decide_eq_true he] at hq
        clear he
        go_wp2_with fail
        refine rgn_still (by kernel_rfl) (by kernel_rfl) ?_
        repeat still_step
        (with_reducible apply still_id (hc := HC1.out) (hl := HXL.out))
        rfl
        rfl
        rfl
        (with_reducible apply still_id (hc := HC2.out) (hl := HIL.out))
        rfl
        rfl
        rfl
        repeat still_step
        refine wpStill_nil ?_
        go_wp2_with fail
        go_ret
        exact ⟨ret_int HR.out.symm, HB.out.drew⟩
      · have HA2 := Lib.hid (show ∀ (j : Nat) (y : St.It), j < k + 1 → L[j]? = some y → y.id ≠ id from fun j y hj hy => by
          by_cases e : j = k
          · subst e; rw [HX.out] at hy; cases hy; exact he
          · exact HA.out j y (by omega) hy)
        rw [show decide (x.id = id) = false from decide_eq_false he] at hq
        clear he
        go_wp2_with fail
        refine rgn_still (by kernel_rfl) (by kernel_rfl) ?_
        repeat still_step
        (with_reducible apply still_id (hc := HC1.out) (hl := HXL.out))
        rfl
        rfl
        rfl
        (with_reducible apply still_id (hc := HC2.out) (hl := HIL.out))
        rfl
        rfl
        rfl
        repeat still_step
        refine wpStill_nil ?_
        go_wp2_with fail
        go_roundw
        case rel => exact ⟨k + 1, by omega, by go_num, HA2.out, HB.out.drew, HC.out, HI.out⟩
        case measure => simp [intOf]; omega
    · have HR := Lib.hid (HW.out (fun j x hj hx => HA.out j x (by omega) hx))
      go_wp2_with fail
      go_ret
      exact ⟨ret_int HR.out.symm, HB.out⟩

end Go.Proofs.YtipigedopmgemaaDoor
