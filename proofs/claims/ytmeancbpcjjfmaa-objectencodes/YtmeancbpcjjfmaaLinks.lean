/-
  WALKS OF LAYER 4: Links, of the program.
-/
import Derived.Test.YtmeancbpcjjfmaaBuilt
namespace Go.Proofs.Ytmeancbpcjjfmaa
open Go.RowKit
set_option linter.unusedVariables false
set_option linter.unusedSimpArgs false

theorem infoLk : (Try.prog.info? 52).map (fun i => (i.zero, i.size, i.bytes)) = some (some (.agg (lkC (zId, 0)).toArray), 33, 40) := by kernel_rfl
/-- A row of links that a call has made. -/
def OwnL (w : World) (base : Nat) (v : Value) (ls : List (List UInt8 × Int)) : Prop := w.ownsRow base 52 33 v ls.length (ls.flatMap lkC)
theorem own_push {w : World} {base : Nat} {v : Value} {ls : List (List UInt8 × Int)} {l : List UInt8 × Int} (h : w.ownsRow base 52 33 v (ls.length + 1) (ls.flatMap lkC ++ lkC l)) : OwnL w base v (ls ++ [l]) := by
  unfold OwnL
  rw [List.flatMap_append, List.length_append]
  simpa using h
theorem own_one (w : World) (base : Nat) (l : List UInt8 × Int) (hl : l.1.length = 32) (hb : base ≤ w.heap.size) : OwnL (w.alloc (.cells (lkC l).toArray 52)) base (.slice (some ⟨w.heap.size, 0, none⟩) 1 1) [l] := by
  have hn := lkC_length l
  rw [hl] at hn
  refine ⟨by simp [hn], .inr ⟨w.heap.size, 1, (lkC l).toArray, rfl, hb, heap_alloc_last w _, Nat.le_refl _, by unfold maxLen; omega, by simp [hn], ?_⟩⟩
  simp only [List.flatMap_cons, List.flatMap_nil, List.append_nil]
  rw [List.take_of_length_le (by simp [hn])]
theorem own_le {W : World} {b b' : Nat} {v : Value} {ls : List (List UInt8 × Int)} (hh : OwnL W b v ls) (hb : b' ≤ b) : OwnL W b' v ls := by
  refine ⟨hh.1, ?_⟩
  rcases hh.2 with hn | ⟨g, cap, cur, hv, hg, rest⟩
  · exact .inl hn
  · exact .inr ⟨g, cap, cur, hv, Nat.le_trans hb hg, rest⟩
theorem flat_get (ls : List (List UInt8 × Int)) (h : ∀ l ∈ ls, l.1.length = 32) : ∀ (i : Nat) (l : List UInt8 × Int), ls[i]? = some l → ∀ (j : Nat) (x : Value), (lkC l)[j]? = some x → (ls.flatMap lkC)[i * 33 + j]? = some x := by
  induction ls with
  | nil => intro i l hi; simp at hi
  | cons a r ih =>
    intro i l hi j x hx
    have ha := lkC_length a
    rw [h a (by simp)] at ha
    rw [List.flatMap_cons]
    cases i with
    | zero =>
      simp at hi; subst hi
      have hj : j < 33 := by
        have := (List.getElem?_eq_some_iff.1 hx).1; omega
      rw [Nat.zero_mul, Nat.zero_add, List.getElem?_append_left (by omega)]
      exact hx
    | succ i =>
      simp at hi
      rw [List.getElem?_append_right (by omega), show (i + 1) * 33 + j - (lkC a).length = i * 33 + j by omega]
      exact ih (fun l hl => h l (by simp [hl])) i l hi j x hx
theorem OwnL.rows {w : World} {base : Nat} {v : Value} {ls : List (List UInt8 × Int)} (h : OwnL w base v ls) (hl : ∀ l ∈ ls, l.1.length = 32) : RowsAt w v 33 (ls.map lkC) := by
  refine ⟨?_⟩
  rcases h.2 with ⟨rfl, h0⟩ | ⟨g, cap, cur, rfl, hg, hb⟩
  · exact .inl ⟨rfl, by simpa using h0⟩
  · refine .inr ⟨⟨g, 0, none⟩, cap, by simp, fun i cs hi => ?_⟩
    obtain ⟨l, hl1, rfl⟩ : ∃ l, ls[i]? = some l ∧ cs = lkC l := by
      rw [List.getElem?_map] at hi
      cases hq : ls[i]? with
      | none => rw [hq] at hi; simp at hi
      | some l => rw [hq] at hi; simp at hi; exact ⟨l, rfl, hi.symm⟩
    refine ⟨by rw [lkC_length, hl l (List.mem_of_getElem? hl1)], fun j x hx => ?_⟩
    have := World.ownsRow.cells h (g := g) rfl (i * 33 + j) x (flat_get ls hl i l hl1 j x hx)
    rw [Addr.add_mid] at this
    rw [Addr.add_mid, Addr.add_mid]
    simpa [Nat.add_assoc] using this
section
variable {ops : Array Oper} {rest : List Oper} {op : Oper} {a : Act} {w : World} {Q : Exit → Act → World → Prop} {x y : Operand}
theorem bd_lk {l : List UInt8} {k : Int} (ho : op.op = .build 52 #[(0, x), (1, y)]) (hx : a.eval x = .agg (idC l).toArray) (hy : a.eval y = .int .i64 k) (hg : op.guard = none) (hl : l.length = 32)
    (h : wpList Try.prog ops Q rest (a.put op.dst (.agg (lkC (l, k)).toArray)) w) : wpList Try.prog ops Q (op :: rest) a w :=
  wpList_build_as hg _ _ ho _ (by simp only [List.map_toArray, List.map_cons, List.map_nil, hx, hy]; exact built_lk l k hl) h
theorem bs_lk {l : List UInt8} {k : Int} (ho : op.op = .buildSlice 36 1 #[(0, x)]) (hx : a.eval x = .agg (lkC (l, k)).toArray) (hg : op.guard = none) (hl : l.length = 32)
    (h : wpList Try.prog ops Q rest (a.put op.dst (.slice (some ⟨w.heap.size, 0, none⟩) 1 1)) (w.alloc (.cells (lkC (l, k)).toArray 52))) : wpList Try.prog ops Q (op :: rest) a w :=
  Great.wpList_buildSliceTo hg _ 52 1 _ ho w.heap.size rfl op.dst rfl Try.underlying36 _ (by simp only [List.map_toArray, List.map_cons, List.map_nil, hx]; exact builtS_lk l k hl) h
end
theorem take_map_succ {α β : Type} (f : α → β) (l : List α) (k : Nat) (e : α) (h : l[k]? = some e) : (l.take (k + 1)).map f = (l.take k).map f ++ [f e] := by
  obtain ⟨hk, rfl⟩ := List.getElem?_eq_some_iff.1 h
  rw [List.take_succ_eq_append_getElem hk, List.map_append]; rfl
theorem news_row {w : World} {g : Nat} {l : List Value} {t : TypeId} (h : w.heap[g]? = some (.cells l.toArray t)) : ∀ j u, l[j]? = some u → w.cell? ((⟨g, 0, none⟩ : Addr).add j) = some u := fun j u hu => by
  rw [Addr.add_mid, Nat.zero_add, cell_of_row _ _ _ _ t (0, 0) h]
  simpa using hu
theorem heap2 (w : World) (A B : Obj) : ((w.alloc A).alloc B).heap[w.heap.size + 1]? = some B := heap_alloc2_new w A B

set_option maxHeartbeats 1000000 in
set_option maxRecDepth 100000 in
theorem entryLinks_any (es : List En) (ao : Option Addr) (cap : Nat) (w : World) (hR : RowsAt w (.slice ao es.length cap) 34 (es.map enC)) (hid : ∀ e ∈ es, e.id.length = 32) (hl : es.length ≤ 100) :
    Calls Try.prog 24 #[.slice ao es.length cap] w fun r w' => ∃ v, r = .returned v ∧ OwnL w' w.heap.size v (es.map fun e => (e.id, e.kind)) ∧ Below w.heap.size w w' := by
  have HR := Lib.hid hR
  have HD := Lib.hid hid
  clear hR hid
  obtain ⟨i0, hi, hz0, hz1, hz2⟩ := info_parts infoLk
  go_enter Try.func24, Try.ntmps24
  go_wp2
  go_loopw [3, 8] (fun v i wr => ∃ (k : Nat) (acc : List (List UInt8 × Int)), k ≤ es.length ∧ i = .int .i64 k ∧ Hid (acc = (es.take k).map fun e => (e.id, e.kind)) ∧ OwnL wr w.heap.size v acc ∧ Below w.heap.size w wr) (fun _ i _ => es.length - (intOf i).toNat)
  case atStart => exact ⟨0, [], by omega, rfl, rfl, World.ownsRow_nil _ _ _ _, Below.refl _ _⟩
  case round =>
    obtain ⟨k, acc, hk, rfl, HA, hown, hb⟩ := hrel
    have hal : acc.length ≤ 101 := by rw [HA.out, List.length_map, List.length_take]; omega
    by_cases hlt : k < es.length
    · have hlt' : (k : Int) < (es.length : Int) := by omega
      obtain ⟨e, he⟩ : ∃ e, es[k]? = some e := ⟨es[k], List.getElem?_eq_getElem hlt⟩
      obtain ⟨a, rfl, hc⟩ := ent_cells (HR.out.below hb) k e he
      have HC := Lib.hid hc
      have HL := Lib.hid (HD.out e (List.mem_of_getElem? he))
      have HK := Lib.hid he
      have n1 : (enC e)[1]? = some (.int .i64 e.kind) := rfl
      have RI := Lib.hid (en_rid (heap_alloc_last wr (.cells (enC e).toArray 45)))
      clear hc he
      go_wp2_with (first
        | ((with_reducible apply ld_en (hc := HC.out) (hid := HL.out)); rfl; rfl; rfl)
        | ((with_reducible apply st_en (hid := HL.out)); rfl; rfl; rfl; rfl; rfl)
        | ((with_reducible apply ld_idm (hc := RI.out) (hl := HL.out)); rfl; rfl; rfl)
        | ((with_reducible apply bd_lk (hl := HL.out)); rfl; rfl; rfl; rfl)
        | ((with_reducible apply bs_lk (hl := HL.out)); rfl; rfl; rfl)
        | (at_builtin; refine wpList_append_own _ rfl _ _ 36 rfl w.heap.size 52 i0 (.agg (lkC (zId, 0)).toArray) 33 40 Try.underlying36 hi hz0 hz1 hz2 (by decide) (by decide) _ _ _ rfl ((World.ownsRow.alloc hown _).alloc _) ⟨_, 0, none⟩ 1 1 (lkC (e.id, e.kind)) rfl ?a1 ?a2 ?a3 ?a4 ?a5 ?a6 ?_))
      case a1 => rw [lkC_length]; exact congrArg (· + 1) HL.out
      case a2 => exact news_row (heap_alloc_last _ _)
      case a3 => exact lkC_one _
      case a4 => unfold maxLen; first | omega | (simp; omega)
      case a5 => first | omega | (simp; omega)
      case a6 => have := hb.size; simp; omega
      intro v' w1 hown' hgrow _
      have hb' : Below w.heap.size w w1 := (((hb.alloc hb.size _).alloc (by have := hb.size; simp; omega) _).grown hgrow (by have := hb.size; simp; omega) (fun k hk => (hown.lt k hk).1))
      have HO2 := Lib.hid (own_push hown')
      have HA2 := Lib.hid (show acc ++ [(e.id, e.kind)] = (es.take (k + 1)).map fun e => (e.id, e.kind) by rw [take_map_succ _ _ _ _ HK.out, HA.out])
      clear hown hgrow hown'
      go_wp2
      go_roundw
      case rel => exact ⟨k + 1, _, by omega, by go_num, HA2, HO2.out, hb'⟩
      case measure => simp [intOf]; omega
    · have HT := Lib.hid (show acc = es.map fun e => (e.id, e.kind) by rw [HA.out, List.take_of_length_le (by omega)])
      rw [HT.out] at hown
      go_wp2
      go_ret
      exact ⟨_, rfl, hown, hb⟩

set_option maxHeartbeats 1000000 in
set_option maxRecDepth 100000 in
theorem commitLinks_any (tr : List UInt8) (ht : tr.length = 32) (ps : List (List UInt8)) (ao : Option Addr) (cap : Nat) (w : World) (hR : RowsAt w (.slice ao ps.length cap) 32 (ps.map idC)) (hid : ∀ p ∈ ps, p.length = 32) (hl : ps.length ≤ 100) :
    Calls Try.prog 25 #[.agg (idC tr).toArray, .slice ao ps.length cap] w fun r w' => ∃ v, r = .returned v ∧ OwnL w' w.heap.size v ((tr, 2) :: ps.map fun p => (p, 3)) ∧ Below w.heap.size w w' := by
  have HR := Lib.hid hR
  have HD := Lib.hid hid
  clear hR hid
  obtain ⟨i0, hi, hz0, hz1, hz2⟩ := info_parts infoLk
  have HT := Lib.hid ht
  clear ht
  have RT := Lib.hid (id_rid (heap_alloc_last w (.cells (idC tr).toArray 24)))
  have hB0 : Below w.heap.size w (w.alloc (.cells (idC tr).toArray 24)) := (Below.refl _ _).alloc (Nat.le_refl _) _
  have O1 := own_one (w.alloc (.cells (idC tr).toArray 24)) w.heap.size (tr, 2) HT.out hB0.size
  have hB1 := hB0.alloc hB0.size (.cells (lkC (tr, 2)).toArray 52)
  go_enter Try.func25, Try.ntmps25
  go_wp2_with (first
    | ((with_reducible apply ld_idm (hc := RT.out) (hl := HT.out)); rfl; rfl; rfl)
    | ((with_reducible apply bd_lk (hl := HT.out)); rfl; rfl; rfl; rfl)
    | ((with_reducible apply bs_lk (hl := HT.out)); rfl; rfl; rfl))
  go_loopw [5, 13] (fun v i wr => ∃ (k : Nat) (acc : List (List UInt8 × Int)), k ≤ ps.length ∧ i = .int .i64 k ∧ Hid (acc = (tr, 2) :: (ps.take k).map fun p => (p, 3)) ∧ OwnL wr w.heap.size v acc ∧ Below w.heap.size w wr) (fun _ i _ => ps.length - (intOf i).toNat)
  case atStart => exact ⟨0, _, by omega, rfl, rfl, by simpa using O1, hB1⟩
  case round =>
    clear O1 hB1 hB0 RT
    obtain ⟨k, acc, hk, rfl, HA, hown, hb⟩ := hrel
    have hal : acc.length ≤ 101 := by rw [HA.out, List.length_cons, List.length_map, List.length_take]; omega
    by_cases hlt : k < ps.length
    · have hlt' : (k : Int) < (ps.length : Int) := by omega
      obtain ⟨e, he⟩ : ∃ e, ps[k]? = some e := ⟨ps[k], List.getElem?_eq_getElem hlt⟩
      obtain ⟨a, rfl, hc⟩ := par_cells (HR.out.below hb) k e he
      have HC := Lib.hid hc
      have HL := Lib.hid (HD.out e (List.mem_of_getElem? he))
      have HK := Lib.hid he
      have RI := Lib.hid (id_rid (heap_alloc_last wr (.cells (idC e).toArray 24)))
      clear hc he
      go_wp2_with (first
        | ((with_reducible apply ld_id (x := .tmp 15) (hc := HC.out) (hl := HL.out)); rfl; rfl; rfl)
        | ((with_reducible apply st_id (hl := HL.out)); rfl; rfl; rfl; rfl; rfl)
        | ((with_reducible apply ld_idm (x := .tmp 7) (hc := RI.out) (hl := HL.out)); rfl; rfl; rfl)
        | ((with_reducible apply bd_lk (hl := HL.out)); rfl; rfl; rfl; rfl)
        | ((with_reducible apply bs_lk (hl := HL.out)); rfl; rfl; rfl)
        | (at_builtin; refine wpList_append_own _ rfl _ _ 36 rfl w.heap.size 52 i0 (.agg (lkC (zId, 0)).toArray) 33 40 Try.underlying36 hi hz0 hz1 hz2 (by decide) (by decide) _ _ _ rfl ((World.ownsRow.alloc hown _).alloc _) ⟨_, 0, none⟩ 1 1 (lkC (e, 3)) rfl ?a1 ?a2 ?a3 ?a4 ?a5 ?a6 ?_))
      case a1 => rw [lkC_length]; exact congrArg (· + 1) HL.out
      case a2 => exact news_row (heap_alloc_last _ _)
      case a3 => exact lkC_one _
      case a4 => unfold maxLen; first | omega | (simp; omega)
      case a5 => first | omega | (simp; omega)
      case a6 => have := hb.size; simp; omega
      intro v' w1 hown' hgrow _
      have hb' : Below w.heap.size w w1 := (((hb.alloc hb.size _).alloc (by have := hb.size; simp; omega) _).grown hgrow (by have := hb.size; simp; omega) (fun k hk => (hown.lt k hk).1))
      have HO2 := Lib.hid (own_push hown')
      have HA2 := Lib.hid (show acc ++ [(e, 3)] = (tr, 2) :: (ps.take (k + 1)).map fun p => (p, 3) by rw [take_map_succ _ _ _ _ HK.out, HA.out]; rfl)
      clear hown hgrow hown'
      go_wp2
      go_roundw
      case rel => exact ⟨k + 1, _, by omega, by go_num, HA2, HO2.out, hb'⟩
      case measure => simp [intOf]; omega
    · have HT := Lib.hid (show acc = (tr, 2) :: ps.map fun p => (p, 3) by rw [HA.out, List.take_of_length_le (by omega)])
      rw [HT.out] at hown
      go_wp2
      go_ret
      exact ⟨_, rfl, hown, hb⟩

/-- What an object leads to. -/
def linksL (o : Ob) : List (List UInt8 × Int) := if o.kind = 2 then o.ents.map (fun e => (e.id, e.kind)) else if o.kind = 3 then (o.tree, 2) :: o.pars.map (fun p => (p, 3)) else if o.kind = 4 then [(o.target, o.of)] else []
set_option maxHeartbeats 1000000 in
set_option maxRecDepth 100000 in
theorem links_any (cs : Array Value) (o : Ob) (ao bo : Option Addr) (ca cb : Nat) (w : World) (h : ObAt w cs o ao bo ca cb) (he : o.ents.length ≤ 100) (hp : o.pars.length ≤ 100) :
    Calls Try.prog 9 #[.agg cs] w fun r w' => ∃ v, r = .returned v ∧ OwnL w' w.heap.size v (linksL o) ∧ Below w.heap.size w w' := by
  have hB0 : Below w.heap.size w (w.alloc (.cells cs 28)) := (Below.refl _ _).alloc (Nat.le_refl _) _
  have c0 := h.F.c0
  have c2 := h.F.c2
  have c35 := h.F.c35
  have c70 := h.F.c70
  have HE := Lib.hid (entryLinks_any o.ents ao ca _ (h.E.below hB0) h.eid he)
  have HC := Lib.hid (commitLinks_any o.tree h.F.trl o.pars bo cb _ (h.P.below hB0) h.pid hp)
  have HT := Lib.hid h.F.trl
  have HG := Lib.hid h.F.tal
  have RT := Lib.hid (h.F.rtr (heap_alloc_last w (.cells cs 28)))
  have RG := Lib.hid (h.F.rta (heap_alloc_last w (.cells cs 28)))
  have HM := Lib.hid (show linksL o = if o.kind = 2 then o.ents.map (fun e => (e.id, e.kind)) else if o.kind = 3 then (o.tree, 2) :: o.pars.map (fun p => (p, 3)) else if o.kind = 4 then [(o.target, o.of)] else [] from rfl)
  generalize linksL o = M at HM
  have O1 := own_one (w.alloc (.cells cs 28)) w.heap.size (o.target, o.of) HG.out hB0.size
  have hB1 := hB0.alloc hB0.size (.cells (lkC (o.target, o.of)).toArray 52)
  clear h he hp
  rcases (by omega : o.kind = 2 ∨ o.kind = 3 ∨ o.kind = 4 ∨ (o.kind ≠ 2 ∧ o.kind ≠ 3 ∧ o.kind ≠ 4)) with e | e | e | ⟨n2, n3, n4⟩
  · rw [e] at c0
    have HM2 := Lib.hid (show M = o.ents.map (fun e => (e.id, e.kind)) by rw [HM.out, if_pos e])
    clear HM e
    go_enter Try.func9, Try.ntmps9
    go_wp2_with (first
      | (go_at_call 24; refine HE.out.mono ?_; rintro r wx ⟨v, rfl, ox, hx⟩)
      | (go_at_call 25; refine HC.out.mono ?_; rintro r wx ⟨v, rfl, ox, hx⟩)
      | ((with_reducible apply ld_idm (x := .tmp 12) (hc := RT.out) (hl := HT.out)); rfl; rfl; rfl)
      | ((with_reducible apply ld_idm (x := .tmp 19) (hc := RG.out) (hl := HG.out)); rfl; rfl; rfl)
      | ((with_reducible apply bd_lk (hl := HG.out)); rfl; rfl; rfl; rfl)
      | ((with_reducible apply bs_lk (hl := HG.out)); rfl; rfl; rfl))
    go_ret
    exact ⟨_, rfl, by rw [HM2.out]; exact own_le ox (by simp), hB0.trans (hx.mono (by simp))⟩
  · rw [e] at c0
    have HM2 := Lib.hid (show M = (o.tree, 2) :: o.pars.map (fun p => (p, 3)) by rw [HM.out, if_neg (by omega), if_pos e])
    clear HM e
    go_enter Try.func9, Try.ntmps9
    go_wp2_with (first
      | (go_at_call 24; refine HE.out.mono ?_; rintro r wx ⟨v, rfl, ox, hx⟩)
      | (go_at_call 25; refine HC.out.mono ?_; rintro r wx ⟨v, rfl, ox, hx⟩)
      | ((with_reducible apply ld_idm (x := .tmp 12) (hc := RT.out) (hl := HT.out)); rfl; rfl; rfl)
      | ((with_reducible apply ld_idm (x := .tmp 19) (hc := RG.out) (hl := HG.out)); rfl; rfl; rfl)
      | ((with_reducible apply bd_lk (hl := HG.out)); rfl; rfl; rfl; rfl)
      | ((with_reducible apply bs_lk (hl := HG.out)); rfl; rfl; rfl))
    go_ret
    exact ⟨_, rfl, by rw [HM2.out]; exact own_le ox (by simp), hB0.trans (hx.mono (by simp))⟩
  · rw [e] at c0
    have HM2 := Lib.hid (show M = [(o.target, o.of)] by rw [HM.out, if_neg (by omega), if_neg (by omega), if_pos e])
    clear HM e
    go_enter Try.func9, Try.ntmps9
    go_wp2_with (first
      | (go_at_call 24; refine HE.out.mono ?_; rintro r wx ⟨v, rfl, ox, hx⟩)
      | (go_at_call 25; refine HC.out.mono ?_; rintro r wx ⟨v, rfl, ox, hx⟩)
      | ((with_reducible apply ld_idm (x := .tmp 12) (hc := RT.out) (hl := HT.out)); rfl; rfl; rfl)
      | ((with_reducible apply ld_idm (x := .tmp 19) (hc := RG.out) (hl := HG.out)); rfl; rfl; rfl)
      | ((with_reducible apply bd_lk (hl := HG.out)); rfl; rfl; rfl; rfl)
      | ((with_reducible apply bs_lk (hl := HG.out)); rfl; rfl; rfl))
    go_ret
    have hz : (w.alloc (.cells cs 28)).heap.size = w.heap.size + 1 := by simp
    rw [hz] at O1
    exact ⟨_, rfl, by rw [HM2.out]; exact O1, hB1⟩
  · have m2 : (o.kind == 2) = false := beq_eq_false_iff_ne.2 n2
    have m3 : (o.kind == 3) = false := beq_eq_false_iff_ne.2 n3
    have m4 : (o.kind == 4) = false := beq_eq_false_iff_ne.2 n4
    have HM2 := Lib.hid (show M = [] by rw [HM.out, if_neg n2, if_neg n3, if_neg n4])
    clear HM n2 n3 n4
    go_enter Try.func9, Try.ntmps9
    go_wp2_with (first
      | (go_at_call 24; refine HE.out.mono ?_; rintro r wx ⟨v, rfl, ox, hx⟩)
      | (go_at_call 25; refine HC.out.mono ?_; rintro r wx ⟨v, rfl, ox, hx⟩)
      | ((with_reducible apply ld_idm (x := .tmp 12) (hc := RT.out) (hl := HT.out)); rfl; rfl; rfl)
      | ((with_reducible apply ld_idm (x := .tmp 19) (hc := RG.out) (hl := HG.out)); rfl; rfl; rfl)
      | ((with_reducible apply bd_lk (hl := HG.out)); rfl; rfl; rfl; rfl)
      | ((with_reducible apply bs_lk (hl := HG.out)); rfl; rfl; rfl))
    go_ret
    exact ⟨_, rfl, by rw [HM2.out]; exact World.ownsRow_nil _ _ _ _, hB0⟩
end Go.Proofs.Ytmeancbpcjjfmaa
