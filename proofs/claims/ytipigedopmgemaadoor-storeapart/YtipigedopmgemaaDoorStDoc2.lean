/-
  WALKS OF LAYER 11: rows that grow by an id, by an item; the document's Ids; Same of two lists of ids that are one; Kind.
-/
import Derived.Test.YtipigedopmgemaaDoorStDoc
namespace Go.Proofs.YtipigedopmgemaaDoor
open Go.RowKit
set_option linter.unusedVariables false
set_option linter.unusedSimpArgs false

/-- A row of ids that a call has made. -/
structure OwnI (w : World) (base : Nat) (v : Value) (I : List (List UInt8)) : Prop where
  own : w.ownsRow base 35 32 v I.length (I.map idC).flatten
  len : ∀ i ∈ I, i.length = 32
theorem OwnI.nil (w : World) (base : Nat) : OwnI w base (.slice none 0 0) [] := ⟨World.ownsRow_nil _ _ _ _, (fun i h => by cases h)⟩
theorem OwnI.below {w w' : World} {base : Nat} {v : Value} {I : List (List UInt8)} (h : OwnI w base v I) (hb : Below w.heap.size w w') : OwnI w' base v I := ⟨own_bel h.own hb, h.len⟩
theorem OwnI.rows {w : World} {base : Nat} {v : Value} {I : List (List UInt8)} (h : OwnI w base v I) : IdsAt w v I := own_rowsK (C := I.map idC) (by simpa using h.own) (ids_len h.len)
theorem wp_ap_id {op : Oper} {a : Act} {wr : World} {K : Act → World → Prop} {Q : Exit → Act → World → Prop} {v : Value} {I : List (List UInt8)} {id : List UInt8} {base : Nat} (s x : Operand)
    (ho : op.op = .call { callee := .builtin .append, args := #[s, x], argTypes := #[28, 28] }) (hs : a.eval s = v) (hx : a.eval x = .slice (some ⟨wr.heap.size, 0, none⟩) 1 1)
    (h : OwnI wr base v I) (hb : base ≤ wr.heap.size) (hid : id.length = 32) (hl : I.length ≤ 2000)
    (hK : ∀ v' w', Hid (OwnI w' base v' (I ++ [id])) → Hid ((wr.alloc (.cells (idC id).toArray 35)).grownBy w' v.ownBlock) → K (a.put op.dst v') w') : op.wp Tryd.prog a (wr.alloc (.cells (idC id).toArray 35)) K Q := by
  obtain ⟨i0, hi, hz0, hz1, hz2⟩ := info_parts infoIdz
  refine wp_append_own _ s x 28 ho base 35 i0 _ 32 32 Tryd.underlying28 hi hz0 hz1 hz2 (by decide) (by decide) v I.length (I.map idC).flatten hs (World.ownsRow.alloc h.own _) ⟨wr.heap.size, 0, none⟩ 1 1 (idC id) hx (by rw [idC_length, hid]) (row_news (heap_alloc_new _ _)) (idC_one id) (by unfold maxLen; omega) (by omega) (by simp; omega) ?_
  intro v' w' h1 h2 _
  refine hK v' w' ⟨?_, ?_⟩ h2
  · have := own_pushK (C := I.map idC) (c := idC id) (by simpa using h1)
    rw [show (I ++ [id]).map idC = I.map idC ++ [idC id] by simp, show (I ++ [id]).length = (I.map idC ++ [idC id]).length by simp]
    exact this
  · intro i hi
    rcases List.mem_append.1 hi with h | h
    · exact OwnI.len ‹_› i h
    · rw [List.mem_singleton.1 h]; exact hid
theorem ap_id {ops : Array Oper} {rest : List Oper} {op : Oper} {a : Act} {wr : World} {Q : Exit → Act → World → Prop} {v : Value} {I : List (List UInt8)} {id : List UInt8} {base : Nat} (s x : Operand)
    (ho : op.op = .call { callee := .builtin .append, args := #[s, x], argTypes := #[28, 28] }) (hs : a.eval s = v) (hx : a.eval x = .slice (some ⟨wr.heap.size, 0, none⟩) 1 1) (hg : op.guard = none)
    (h : OwnI wr base v I) (hb : base ≤ wr.heap.size) (hid : id.length = 32) (hl : I.length ≤ 2000)
    (hK : ∀ v' w', Hid (OwnI w' base v' (I ++ [id])) → Hid ((wr.alloc (.cells (idC id).toArray 35)).grownBy w' v.ownBlock) → wpList Tryd.prog ops Q rest (a.put op.dst v') w') : wpList Tryd.prog ops Q (op :: rest) a (wr.alloc (.cells (idC id).toArray 35)) :=
  wpList_plain hg fun _ hK' => wp_ap_id s x ho hs hx h hb hid hl (fun v' w' h1 h2 => hK' _ _ (hK v' w' h1 h2))
theorem bs_id2 {ops : Array Oper} {rest : List Oper} {op : Oper} {a : Act} {w : World} {Q : Exit → Act → World → Prop} {x : Operand} {l : List UInt8} (ho : op.op = .buildSlice 28 1 #[(0, x)]) (hx : a.eval x = .agg (idC l).toArray) (hg : op.guard = none) (hl : l.length = 32)
    (h : wpList Tryd.prog ops Q rest (a.put op.dst (.slice (some ⟨w.heap.size, 0, none⟩) 1 1)) (w.alloc (.cells (idC l).toArray 35))) : wpList Tryd.prog ops Q (op :: rest) a w :=
  Great.wpList_buildSliceTo hg _ 35 1 _ ho w.heap.size rfl op.dst rfl Tryd.underlying28 _ (by simp only [List.map_toArray, List.map_cons, List.map_nil, hx]; exact builtS_id l hl) h
theorem OwnI.grown {w wr w' : World} {base : Nat} {v : Value} {I : List (List UInt8)} {o : Obj} (h : OwnI wr base v I) (hb : Below base w wr) (hbs : base ≤ wr.heap.size) (hg : (wr.alloc o).grownBy w' v.ownBlock) : Below base w w' :=
  (hb.alloc hbs _).grown hg (by simp; omega) (fun k hk => (h.own.lt k hk).1)

theorem idsOf_take {L : List St.It} {k : Nat} {x : St.It} (h : L[k]? = some x) : idsOf (L.take (k + 1)) = idsOf (L.take k) ++ [x.id] := by
  obtain ⟨hk, rfl⟩ := List.getElem?_eq_some_iff.1 h
  unfold idsOf
  rw [List.take_succ_eq_append_getElem hk, List.map_append]; rfl

set_option maxHeartbeats 2000000 in
set_option maxRecDepth 100000 in
theorem refids_any (w : World) (v : Value) (L : List St.It) (h : DSt w v L) :
    Calls Tryd.prog 25 #[.agg #[v]] w fun r w' => ∃ v', r = .returned v' ∧ IdsAt w' v' (idsOf L) ∧ Below w.heap.size w w' := by
  have hfew := h.few
  obtain ⟨ao, cap, rfl⟩ := h.form
  have HB1 := Lib.hid (below_new w (.cells #[.slice ao L.length cap] 27))
  have HX1 := Lib.hid (box_cell w (.slice ao L.length cap) 27)
  have HH := Lib.hid h
  clear h
  go_enter Tryd.func25, Tryd.ntmps25
  go_wp2_with fail
  have hsz1 : (w.alloc (.cells #[.slice ao L.length cap] 27)).heap.size = w.heap.size + 1 := by simp
  generalize w.alloc (.cells #[.slice ao L.length cap] 27) = W1 at *
  go_loopw [3, 4] (fun o i wr => ∃ (k : Nat), k ≤ L.length ∧ i = .int .i64 k ∧ Hid (OwnI wr (w.heap.size + 1) o (idsOf (L.take k))) ∧ Hid (Below (w.heap.size + 1) W1 wr)) (fun _ i _ => L.length - (intOf i).toNat)
  case atStart => exact ⟨0, by omega, rfl, OwnI.nil _ _, Below.refl _ _⟩
  case round =>
    obtain ⟨k, hk, rfl, HO, HB⟩ := hrel
    have hbs := HB.out.size
    have hbs' : w.heap.size + 1 ≤ wr.heap.size := by omega
    have c0 : wr.cell? ⟨w.heap.size, 0, none⟩ = some (.slice ao L.length cap) := (HB.out.cell (p := ⟨w.heap.size, 0, none⟩) (by show w.heap.size < _; omega)).trans HX1.out
    have HBW := Lib.hid (HB1.out.trans (HB.out.mono (show w.heap.size ≤ w.heap.size + 1 by omega)))
    by_cases hlt : k < L.length
    · have hlt' : (k : Int) < (L.length : Int) := by omega
      have hk0 : (0 : Int) ≤ (k : Int) := by omega
      obtain ⟨x, hx⟩ : ∃ x, L[k]? = some x := ⟨L[k], List.getElem?_eq_getElem hlt⟩
      have hxl := HH.out.len x (List.mem_of_getElem? hx)
      obtain ⟨a, rfl, hc, _⟩ := (HH.out.below HBW.out).out k x hx
      have HC1 := Lib.hid hc
      have HXL := Lib.hid hxl
      have HTK := Lib.hid (idsOf_take hx)
      have hlen : (idsOf (L.take k)).length ≤ 2000 := by simp [idsOf]; omega
      clear hx hxl hc hbs hsz1
      go_wp2_with (first
        | ((with_reducible refine ld_id (x := .tmp 17) (p := a.add (k * 105)) ?_ ?_ ?_ HC1.out HXL.out ?_); rfl; rfl; rfl)
        | ((with_reducible refine bs_id2 (l := x.id) (x := .tmp 18) ?_ ?_ ?_ HXL.out ?_); rfl; rfl; rfl)
        | ((with_reducible refine ap_id (id := x.id) (.tmp 12) (.tmp 19) ?_ ?_ ?_ ?_ HO.out hbs' HXL.out hlen ?_); rfl; rfl; rfl; rfl; intro v5 w5 HO5 HG5))
      go_roundw
      case rel => exact ⟨k + 1, by omega, by go_num, by show OwnI _ _ _ _; rw [HTK.out]; exact HO5.out, HO.out.grown HB.out hbs' HG5.out⟩
      case measure => simp [intOf]; omega
    · have hkl : k = L.length := by omega
      subst hkl
      have hq := HO.out.rows
      rw [List.take_length] at hq
      have HQ := Lib.hid hq
      clear hq
      clear hsz1 hbs
      go_wp2_with fail
      go_ret
      exact ⟨_, rfl, HQ.out, HBW.out⟩

set_option maxHeartbeats 2000000 in
set_option maxRecDepth 100000 in
/-- Two lists of ids that are one. -/
theorem sameids_any (w : World) (v1 v2 : Value) (I : List (List UInt8)) (h1 : IdsAt w v1 I) (h2 : IdsAt w v2 I) (hl : ∀ i ∈ I, i.length = 32) (hn : I.length ≤ 1000) :
    Calls Tryd.prog 24 #[v1, v2] w fun r w' => r = .returned (.bool true) ∧ Below w.heap.size w w' := by
  obtain ⟨ao, c1, rfl⟩ : ∃ ao cap, v1 = .slice ao I.length cap := by simpa using RowsAt.form h1
  obtain ⟨bo, c2, rfl⟩ : ∃ ao cap, v2 = .slice ao I.length cap := by simpa using RowsAt.form h2
  have H1 := Lib.hid h1
  have H2 := Lib.hid h2
  have HL := Lib.hid hl
  clear h1 h2 hl
  go_enter Tryd.func24, Tryd.ntmps24
  go_wp2_with fail
  go_loopw [5] (fun i wr => ∃ (k : Nat), k ≤ I.length ∧ i = .int .i64 k ∧ Hid (Below w.heap.size w wr)) (fun i _ => I.length - (intOf i).toNat)
  case atStart => exact ⟨0, by omega, rfl, Below.refl _ _⟩
  case round =>
    obtain ⟨k, hk, rfl, HB⟩ := hrel
    by_cases hlt : k < I.length
    · have hlt' : (k : Int) < (I.length : Int) := by omega
      have hk0 : (0 : Int) ≤ (k : Int) := by omega
      obtain ⟨id, hx⟩ : ∃ x, I[k]? = some x := ⟨I[k], List.getElem?_eq_getElem hlt⟩
      have hxl := HL.out id (List.mem_of_getElem? hx)
      obtain ⟨a, rfl, _, hc⟩ := (RowsAt.below H1.out HB.out).elem k (idC id) (by simp [hx])
      obtain ⟨b, rfl, _, hd⟩ := (RowsAt.below H2.out HB.out).elem k (idC id) (by simp [hx])
      have HC1 := Lib.hid (show ∀ j u, (idC id)[j]? = some u → wr.drew.cell? ((a.add (k * 32)).add j) = some u from hc)
      have HC2 := Lib.hid (show ∀ j u, (idC id)[j]? = some u → wr.drew.cell? ((b.add (k * 32)).add j) = some u from hd)
      have HXL := Lib.hid hxl
      have hq : ∀ W, (Op.equalIn 10000 35 (.agg (idC id).toArray) (.agg (idC id).toArray)).run Tryd.prog W = .ok true W := fun W => by
        have := eq_id id id hxl hxl W; simpa using this
      clear hx hxl hc hd
      go_wp2_with fail
      refine rgn_still (by kernel_rfl) (by kernel_rfl) ?_
      repeat still_step
      (with_reducible apply still_id (hc := HC1.out) (hl := HXL.out))
      rfl
      rfl
      rfl
      repeat still_step
      (with_reducible apply still_id (hc := HC2.out) (hl := HXL.out))
      rfl
      rfl
      rfl
      repeat still_step
      refine wpStill_nil ?_
      go_wp2_with fail
      go_roundw
      case rel => exact ⟨k + 1, by omega, by go_num, HB.out.drew⟩
      case measure => simp [intOf]; omega
    · go_wp2_with fail
      go_ret
      exact ⟨rfl, HB.out⟩

end Go.Proofs.YtipigedopmgemaaDoor
