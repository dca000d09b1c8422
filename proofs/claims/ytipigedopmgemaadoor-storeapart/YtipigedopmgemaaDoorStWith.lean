/-
  WALKS OF LAYER 11: the document's Decode once more, with where its rows lie; parts of With; Kind.
-/
import Derived.Test.YtipigedopmgemaaDoorStDoc2
namespace Go.Proofs.YtipigedopmgemaaDoor
open Go.RowKit
set_option linter.unusedVariables false
set_option linter.unusedSimpArgs false

/-- The document's Decode found this object, in new rows. -/
def ANew (o : Ob) (w : World) (r : Ending) (w' : World) : Prop :=
  ∃ (cs : Array Value) (ao bo : Option Addr) (ca cb : Nat), r = .returned (.tuple #[.agg cs, .bool true]) ∧ ObAt w' cs o ao bo ca cb ∧ (∀ a, ao = some a ∨ bo = some a → w.heap.size ≤ a.block) ∧ Below w.heap.size w w'
set_option maxHeartbeats 2000000 in
set_option maxRecDepth 100000 in
theorem refdec_new (s : ByteArray) (w : World) (h0 : 0 < s.size) (hs : s.size ≤ 5000) (hok : encOk (Rm.guessF s.data.toList) = true) (hd : encS (Rm.guessF s.data.toList) = s) : Calls Tryd.prog 27 #[.string s] w (ANew (Rm.guessF s.data.toList) w) := by
  unfold ANew
  have hz28 := (zero_of_info zero28).1
  have HS0 := Lib.hid noF.size
  have HO0 := Lib.hid noF.one
  have HBN := Lib.hid built_none
  generalize (obC noOb nilV nilV).toArray = z at hz28 HS0 HO0 HBN 
  have E0 := Lib.hid (heap_alloc_last w (.cells z 42))
  have hB0 := (Below.refl w.heap.size w).alloc (Nat.le_refl _) (.cells z 42)
  have hne2 : ¬ s = ByteArray.empty := fun e => by rw [e] at h0; exact absurd h0 (by decide)
  have hne : s.toList.isEmpty = false := by
    rw [ByteArray.toList_eq]
    have h1 := size_list s
    cases hl : s.data.toList with
    | nil => rw [hl] at h1; simp at h1; omega
    | cons a b => rfl
  have HGS := Lib.hid (fun W => guess_any s W h0 hs)
  have hsl := size_list s
  have hsh := guess_short s.data.toList
  have HRE := Lib.hid (fun (W : World) (cs : Array Value) (ao bo : Option Addr) (ca cb : Nat) (h : ObAt W cs (Rm.guessF s.data.toList) ao bo ca cb) => refencode_any cs (Rm.guessF s.data.toList) ao bo ca cb W h (by omega) (by omega))
  rw [hok, hd] at HRE
  clear hok hd
  clear hsl hsh
  go_enter Tryd.func27, Tryd.ntmps27
  go_wp2_with (first
    | (go_at_call 47; fail))
  refine (HGS.out _).mono ?_
  rintro r w2 ⟨cs, ao, bo, ca, cb, rfl, hO, hx2, hnew⟩
  have HNW := Lib.hid (show ∀ a : Addr, ao = some a ∨ bo = some a → w.heap.size + 1 ≤ a.block from fun a ha => by have := hnew a ha; simpa using this)
  clear hnew
  have E2 := Lib.hid ((hx2.block w.heap.size (by simp)).trans E0.out)
  have hB2 := hB0.trans (hx2.mono hB0.size)
  generalize w.alloc (.cells z 42) = w1 at *
  have HCS := Lib.hid hO.F.size
  have HCO := Lib.hid hO.F.one
  have HN := Lib.hid (heap_alloc_last w2 (.cells cs 42))
  have hO3 := hO.below ((Below.refl w2.heap.size w2).alloc (Nat.le_refl _) (.cells cs 42))
  have E3 := Lib.hid (held_alloc (o := .cells cs 42) E2.out)
  have hB3 := hB2.alloc hB2.size (.cells cs 42)
  have HCALL := Lib.hid (HRE.out _ _ _ _ _ _ hO3)
  go_wp2_with (first
    | (go_at_call 19; fail)
    | ((with_reducible refine st_ob2 (x := .tmp 4) (y := .tmp 11) (g := w2.heap.size) ?_ ?_ ?_ ?_ ?_ ?_ HCS.out HCO.out ?_); rfl; rfl; rfl; rfl; exact HS0.out; rfl)
    | ((with_reducible refine ld_obr (x := .tmp 4) ?_ ?_ ?_ HN.out HCS.out ?_); rfl; rfl; rfl))
  refine HCALL.out.mono ?_
  rintro r w4 ⟨hr, hx4⟩
  have hr2 : r = .returned (.tuple #[.string s, .bool true]) := hr
  subst hr2
  clear hr
  have E4 := Lib.hid ((hx4.block w.heap.size (by have := (Array.getElem?_eq_some_iff.1 E3.out).1; exact this)).trans E3.out)
  have N4 := Lib.hid ((hx4.block w2.heap.size (by simp)).trans HN.out)
  have hB4 := hB3.trans (hx4.mono hB3.size)
  have hO4 := hO3.below hx4
  go_wp2_with (first
    | ((with_reducible refine ld_obr (x := .tmp 4) ?_ ?_ ?_ N4.out HCS.out ?_); rfl; rfl; rfl)
    | ((with_reducible refine st_obr (x := .tmp 2) (y := .tmp 25) ?_ ?_ ?_ ?_ E4.out HS0.out HCS.out HCO.out ?_); rfl; rfl; rfl; rfl))
  refine bodyPost_ret (results_cell_tmp (fn := Tryd.f27) (p := 2) (q := 3) (by rfl) _ _ w.heap.size _ _ _ _ (by rfl) (setRow_heap _ _ _ _ _ _ E4.out) Tryd.underlying42 rfl (obsize HCS.out)) rfl ⟨cs, ao, bo, ca, cb, rfl, hO4.setRow (fun a ha => by have := HNW.out a ha; omega), (fun a ha => by have := HNW.out a ha; omega), below_setRow hB4 (Nat.le_refl _) _⟩
theorem refdec_obj (s : ByteArray) (o : Ob) (w : World) (hs : s.size ≤ 5000) (h : Rm.dec s.data.toList = some o) : Calls Tryd.prog 27 #[.string s] w (ANew o w) := by
  have hi := Rm.dec_ids h
  obtain ⟨hv2, he2, hl2, _⟩ := Rm.dec_inv h
  have hes2 : encS o = s := bytes_ext he2
  have hsz2 : (encS o).size ≤ 4096 := by rw [← size_list, he2]; exact hl2
  obtain ⟨h1, h2, h3, h4⟩ := short_ob hv2 hsz2
  have hgs := Rm.guess_fwd hv2 (fit_of hv2 h1 h2 h3) hi.e hi.p hi.tr hi.ta hi.ti
  rw [he2] at hgs
  have hok : encOk o = true := by unfold encOk; rw [hv2, decide_eq_true hsz2]; rfl
  have := refdec_new s w (by rw [← hes2]; exact h4) hs (by rw [hgs]; exact hok) (by rw [hgs]; exact hes2)
  rw [hgs] at this
  exact this

theorem bd_ri {ops : Array Oper} {rest : List Oper} {op : Oper} {a : Act} {w : World} {Q : Exit → Act → World → Prop} {x y z : Operand} {l : List UInt8} {t : ByteArray} {cs : Array Value} (ho : op.op = .build 44 #[(0, x), (1, y), (2, z)]) (hx : a.eval x = .agg (idC l).toArray) (hy : a.eval y = .string t) (hz : a.eval z = .agg cs) (hg : op.guard = none) (hl : l.length = 32) (hs : cs.size = 72)
    (h : wpList Tryd.prog ops Q rest (a.put op.dst (.agg (riC l t cs).toArray)) w) : wpList Tryd.prog ops Q (op :: rest) a w :=
  wpList_build_as hg _ _ ho _ (by simp only [List.map_toArray, List.map_cons, List.map_nil, hx, hy, hz]; exact built_ri l t cs hl hs) h
theorem bs_ri {ops : Array Oper} {rest : List Oper} {op : Oper} {a : Act} {w : World} {Q : Exit → Act → World → Prop} {x : Operand} {c : List Value} (ho : op.op = .buildSlice 25 1 #[(0, x)]) (hx : a.eval x = .agg c.toArray) (hg : op.guard = none) (hl : c.length = 105)
    (h : wpList Tryd.prog ops Q rest (a.put op.dst (.slice (some ⟨w.heap.size, 0, none⟩) 1 1)) (w.alloc (.cells c.toArray 44))) : wpList Tryd.prog ops Q (op :: rest) a w :=
  Great.wpList_buildSliceTo hg _ 44 1 _ ho w.heap.size rfl op.dst rfl Tryd.underlying25 _ (by simp only [List.map_toArray, List.map_cons, List.map_nil, hx]; exact builtS_ri c hl) h
theorem ld_ri {ops : Array Oper} {rest : List Oper} {op : Oper} {a : Act} {w : World} {Q : Exit → Act → World → Prop} {x : Operand} {p : Addr} {c : List Value} (ho : op.op = .load 44 x) (hx : a.eval x = .pointer (some p)) (hg : op.guard = none) (hc : ∀ j v, c[j]? = some v → w.cell? (p.add j) = some v) (hl : c.length = 105)
    (h : wpList Tryd.prog ops Q rest (a.put op.dst (.agg c.toArray)) w) : wpList Tryd.prog ops Q (op :: rest) a w :=
  wpList_load_at hg 44 x ho p hx _ _ hc underRi rfl (by rw [hl]; exact infoRz) h
theorem ap_ri {ops : Array Oper} {rest : List Oper} {op : Oper} {a : Act} {wr : World} {Q : Exit → Act → World → Prop} {v : Value} {C : List (List Value)} {c : List Value} {base : Nat} (s x : Operand)
    (ho : op.op = .call { callee := .builtin .append, args := #[s, x], argTypes := #[25, 25] }) (hs : a.eval s = v) (hx : a.eval x = .slice (some ⟨wr.heap.size, 0, none⟩) 1 1) (hg : op.guard = none)
    (h : OwnR wr base v C) (hb : base ≤ wr.heap.size) (hc : c.length = 105) (h1c : ∀ u ∈ c, u.oneCell' = true) (hl : C.length ≤ 2000)
    (hK : ∀ v' w', Hid (OwnR w' base v' (C ++ [c])) → Hid ((wr.alloc (.cells c.toArray 44)).grownBy w' v.ownBlock) → wpList Tryd.prog ops Q rest (a.put op.dst v') w') : wpList Tryd.prog ops Q (op :: rest) a (wr.alloc (.cells c.toArray 44)) := by
  obtain ⟨i0, hi, hz0, hz1, hz2⟩ := info_parts infoRi
  refine wpList_plain hg fun K hK' => ?_
  refine wp_append_own _ s x 25 ho base 44 i0 _ 105 232 Tryd.underlying25 hi hz0 hz1 hz2 (by decide) (by decide) v C.length C.flatten hs (World.ownsRow.alloc h.own _) ⟨wr.heap.size, 0, none⟩ 1 1 c hx (by rw [hc]) (row_news (heap_alloc_new _ _)) h1c (by unfold maxLen; omega) (by omega) (by simp; omega) ?_
  intro v' w' h1 h2 _
  refine hK' _ _ (hK v' w' ⟨own_pushK h1, ?_⟩ h2)
  intro i hi
  rcases List.mem_append.1 hi with h' | h'
  · exact h.len i h'
  · rw [List.mem_singleton.1 h']; exact hc
theorem OwnR.grown {w wr w' : World} {base : Nat} {v : Value} {C : List (List Value)} {o : Obj} (h : OwnR wr base v C) (hb : Below base w wr) (hbs : base ≤ wr.heap.size) (hg : (wr.alloc o).grownBy w' v.ownBlock) : Below base w w' :=
  (hb.alloc hbs _).grown hg (by simp; omega) (fun k hk => (h.own.lt k hk).1)
theorem results_three {P : Program} {fn : Func} {p q r : Tmp} {t1 t2 : TypeId} (h : fn.results = #[.cell p t1, .cell q t2, .tmp r]) (tmps : Array Value) (w : World) (g1 g2 : Nat) (e1 e2 : TypeId) (c1 c2 : Array Value) (f1 f2 : Nat × Nat) (d1 d2 : TypeDesc)
    (hp : tmps.getD p undef = .pointer (some ⟨g1, 0, none⟩)) (hg1 : w.heap[g1]? = some (.cells c1 e1 f1)) (hu1 : P.underlying t1 = some d1) (hd1 : (match d1 with | .struct _ | .array _ _ => true | _ => false) = true) (hi1 : (P.info? t1).map (·.size) = some c1.size)
    (hq : tmps.getD q undef = .pointer (some ⟨g2, 0, none⟩)) (hg2 : w.heap[g2]? = some (.cells c2 e2 f2)) (hu2 : P.underlying t2 = some d2) (hd2 : (match d2 with | .struct _ | .array _ _ => true | _ => false) = true) (hi2 : (P.info? t2).map (·.size) = some c2.size) :
    (results fn tmps).run P w = .ok (.tuple #[.agg c1, .agg c2, tmps.getD r undef]) w := by
  have hp' : tmps[p]?.getD undef = .pointer (some ⟨g1, 0, none⟩) := by simpa using hp
  have hq' : tmps[q]?.getD undef = .pointer (some ⟨g2, 0, none⟩) := by simpa using hq
  simp [results, h, hp', hq', asAddr, run_loadVar_row w g1 e1 t1 c1 f1 d1 hg1 hu1 hd1 hi1, run_loadVar_row w g2 e2 t2 c2 f2 d2 hg2 hu2 hd2 hi2]

set_option maxHeartbeats 2000000 in
set_option maxRecDepth 100000 in
theorem refkind_any (w : World) (v : Value) (L : List St.It) (id : List UInt8) (h : DSt w v L) (hil : id.length = 32) :
    Calls Tryd.prog 39 #[.agg #[v], .agg (idC id).toArray] w fun r w' => ∃ K : Int, r = .returned (.int .i64 K) ∧ 0 ≤ K ∧ K ≤ 4 ∧ Below w.heap.size w w' := by
  have hfew := h.few
  have HA := Lib.hid (fun W (hb : Below w.heap.size w W) => at_any W v L id (h.below hb) hil)
  obtain ⟨ao, cap, rfl⟩ := h.form
  have HB2 := Lib.hid (below2 w (.cells #[.slice ao L.length cap] 27) (.cells (idC id).toArray 35))
  have c2 := (box2_cell w (.slice ao L.length cap) 27 (.cells (idC id).toArray 35))
  have HN2 := Lib.hid (row_news (new2 w (.cells #[.slice ao L.length cap] 27) (.cells (idC id).toArray 35)))
  have HH := Lib.hid h
  have HIL := Lib.hid hil
  have hpl := St.pos_le L id
  have HV : Hid (St.has L id = false → atV L id = -1) := Lib.hid (fun h => by unfold atV; rw [h]; rfl)
  have HW : Hid (St.has L id = true → atV L id = (St.pos L id : Int) ∧ ∃ x, L[St.pos L id]? = some x) := Lib.hid (fun h' => by
    obtain ⟨x, hx, _⟩ := St.has_at h.srt h'
    exact ⟨by unfold atV; rw [h']; rfl, x, hx⟩)
  generalize atV L id = Z at *
  generalize St.pos L id = pos at *
  clear h hil
  go_enter Tryd.func39, Tryd.ntmps39
  go_wp2_with ((with_reducible refine ld_id (x := .tmp 3) (p := ⟨w.heap.size + 1, 0, none⟩) ?_ ?_ ?_ HN2.out HIL.out ?_); rfl; rfl; rfl)
  refine (HA.out _ HB2.out).mono ?_
  rintro r w3 ⟨rfl, hb3⟩
  have hB := HB2.out.trans (hb3.mono (show w.heap.size ≤ _ by simp; omega))
  have c3 := (hb3.cell (p := ⟨w.heap.size, 0, none⟩) (by simp; omega)).trans c2
  clear hb3 c2 HA HN2 HB2
  cases hq : St.has L id with
  | false =>
    obtain rfl := (HV.out hq)
    clear HV HW hq
    go_wp2_with fail
    go_ret
    exact ⟨0, rfl, by decide, by decide, hB⟩
  | true =>
    obtain ⟨rfl, x, hx⟩ := HW.out hq
    clear HV HW hq
    have hlt : pos < L.length := (List.getElem?_eq_some_iff.1 hx).1
    obtain ⟨a, c, rfl, hd, hc⟩ := (HH.out.below hB).elem pos x hx
    have hxl := hd.idl
    obtain ⟨o, cs, rfl, _, _, hO0, hdec, _⟩ := hd
    have hk := (Rm.dec_head hdec).2.2
    have hcell := ri_ob hc hxl 0 _ hO0
    rw [add_two a (pos * 105) 33 (by decide)] at hcell
    have hA1 := add_block a (pos * 105)
    have hA2 : (a.add (pos * 105)).off = a.off + pos * 105 := by unfold Addr.add; split <;> simp_all
    have hlt' : (pos : Int) < (L.length : Int) := by omega
    have hk0 : (0 : Int) ≤ (pos : Int) := by omega
    clear hx hc hO0 hdec hxl
    go_wp2_with fail
    go_ret
    exact ⟨o.kind, rfl, by omega, by omega, hB⟩

end Go.Proofs.YtipigedopmgemaaDoor
