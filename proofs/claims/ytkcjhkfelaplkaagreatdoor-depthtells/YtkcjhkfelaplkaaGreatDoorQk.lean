/-
  WALKS OF LAYER 11: the document's store in memory; At, Ids; Same of two lists of ids.
-/
import Derived.Test.YtkcjhkfelaplkaaGreatDoorQj
import Derived.Test.YtkcjhkfelaplkaaGreatDoorQa
set_option linter.unusedVariables false
set_option linter.unusedSimpArgs false
set_option maxHeartbeats 8000000
set_option maxRecDepth 100000
section
namespace Go.Proofs.YtkcjhkfelaplkaaGreatDoor
open Go.RowKit
structure OwnR (w : World) (base : Nat) (v : Value) (C : List (List Value)) : Prop where
 own : w.ownsRow base 91 105 v C.length C.flatten
 len : ∀ c ∈ C, c.length = 105
theorem OwnR.nil (w : World) (base : Nat) : OwnR w base (.slice none 0 0) [] := ⟨World.ownsRow_nil _ _ _ _, (fun i h => by cases h)⟩
theorem OwnR.below {w w' : World} {base : Nat} {v : Value} {C : List (List Value)} (h : OwnR w base v C) (hb : Below w.heap.size w w') : OwnR w' base v C := ⟨own_bel h.own hb, h.len⟩
theorem OwnR.rows {w : World} {base : Nat} {v : Value} {C : List (List Value)} (h : OwnR w base v C) : RowsAt w v 105 C := own_rowsK h.own h.len
theorem OwnR.zero {w : World} {base : Nat} {v : Value} {C : List (List Value)} (h : OwnR w base v C) : OwnR w 0 v C := by
 refine ⟨⟨h.own.1, h.own.2.imp id ?_⟩, h.len⟩
 rintro ⟨g, cap, cur, hv, _, hrest⟩
 exact ⟨g, cap, cur, hv, Nat.zero_le _, hrest⟩
def DIt (_w : World) (c : List Value) (x : St.It) : Prop :=
 ∃ (o : Ob) (cs : Array Value), c = riC x.id x.text cs ∧ cs.size = 72 ∧ cs.all (·.oneCell') = true ∧ cs[0]? = some (.int .i64 o.kind) ∧ Rm.dec x.text.data.toList = some o ∧ shaI x.text = x.id
theorem DIt.below {w w' : World} {c : List Value} {x : St.It} (h : DIt w c x) (hb : Below w.heap.size w w') : DIt w' c x := h
theorem DIt.idl {w : World} {c : List Value} {x : St.It} (h : DIt w c x) : x.id.length = 32 := by
 obtain ⟨o, cs, _, _, _, _, _, h4⟩ := h
 rw [← h4]; exact shaI_len _
theorem DIt.len {w : World} {c : List Value} {x : St.It} (h : DIt w c x) : c.length = 105 := by
 have := h.idl
 obtain ⟨o, cs, rfl, h2, _⟩ := h
 exact riC_length _ this h2
theorem DIt.one {w : World} {c : List Value} {x : St.It} (h : DIt w c x) : ∀ v ∈ c, v.oneCell' = true := by
 obtain ⟨o, cs, rfl, _, h2, _⟩ := h
 exact riC_one _ _ h2
structure Its (w : World) (C : List (List Value)) (L : List St.It) : Prop where
 len : C.length = L.length
 at_ : ∀ (i : Nat) (c : List Value) (x : St.It), C[i]? = some c → L[i]? = some x → DIt w c x
theorem Its.below {w w' : World} {C : List (List Value)} {L : List St.It} (h : Its w C L) (hb : Below w.heap.size w w') : Its w' C L := ⟨h.len, fun i c x h1 h2 => (h.at_ i c x h1 h2).below hb⟩
theorem Its.push {w : World} {C : List (List Value)} {L : List St.It} {c : List Value} {x : St.It} (h : Its w C L) (hc : DIt w c x) : Its w (C ++ [c]) (L ++ [x]) := by
 refine ⟨by simp [h.len], fun i d y hd hy => ?_⟩
 by_cases hi : i < C.length
 ·
  rw [List.getElem?_append_left hi] at hd
  rw [List.getElem?_append_left (by rw [← h.len]; exact hi)] at hy
  exact h.at_ i d y hd hy
 ·
  have hic : i = C.length := by
   have := (List.getElem?_eq_some_iff.1 hd).1
   simp at this; omega
  subst hic
  rw [List.getElem?_append_right (Nat.le_refl _)] at hd
  rw [List.getElem?_append_right (by rw [h.len]; exact Nat.le_refl _), h.len] at hy
  simp at hd hy
  subst hd hy
  exact hc
structure DSt (w : World) (v : Value) (L : List St.It) : Prop where
 rows : ∃ C, OwnR w 0 v C ∧ Its w C L
 srt : St.Srt L
 few : L.length ≤ 62
theorem DSt.below {w w' : World} {v : Value} {L : List St.It} (h : DSt w v L) (hb : Below w.heap.size w w') : DSt w' v L := by
 obtain ⟨C, h1, h2⟩ := h.rows
 exact ⟨⟨C, h1.below hb, h2.below hb⟩, h.srt, h.few⟩
theorem DSt.form {w : World} {v : Value} {L : List St.It} (h : DSt w v L) : ∃ ao cap, v = .slice ao L.length cap := by
 obtain ⟨C, h1, h2⟩ := h.rows
 rw [← h2.len]; exact h1.rows.form
theorem DSt.nil (w : World) : DSt w (.slice none 0 0) [] := ⟨⟨[], OwnR.nil _ _, rfl, fun i c x h => by simp at h⟩, St.nil_srt, Nat.zero_le _⟩
theorem DSt.elem {w : World} {ao : Option Addr} {n cap : Nat} {L : List St.It} (h : DSt w (.slice ao n cap) L) (i : Nat) (x : St.It) (hi : L[i]? = some x) :
  ∃ a c, ao = some a ∧ DIt w c x ∧ ∀ j u, c[j]? = some u → w.cell? ((a.add (i * 105)).add j) = some u := by
 obtain ⟨C, h1, h2⟩ := h.rows
 have hl : i < C.length := by rw [h2.len]; exact (List.getElem?_eq_some_iff.1 hi).1
 have hc := List.getElem?_eq_getElem hl
 obtain ⟨a, e, _, h3⟩ := h1.rows.elem i _ hc
 exact ⟨a, _, e, h2.at_ i _ x hc hi, h3⟩
theorem DSt.len {w : World} {v : Value} {L : List St.It} (h : DSt w v L) : St.Len L := fun r hr => by
 obtain ⟨C, h1, h2⟩ := h.rows
 obtain ⟨i, hi⟩ := List.getElem?_of_mem hr
 have hl : i < C.length := by rw [h2.len]; exact (List.getElem?_eq_some_iff.1 hi).1
 exact (h2.at_ i _ r (List.getElem?_eq_getElem hl) hi).idl
theorem ri_id {w : World} {p : Addr} {id : List UInt8} {t : ByteArray} {cs : Array Value} (h : ∀ j x, (riC id t cs)[j]? = some x → w.cell? (p.add j) = some x) : ∀ j x, (idC id)[j]? = some x → w.cell? (p.add j) = some x := fun j x hx => h j x (by
 simp only [riC]
 rw [List.getElem?_append_left (List.getElem?_eq_some_iff.1 hx).1]; exact hx)
theorem ri_text {w : World} {p : Addr} {id : List UInt8} {t : ByteArray} {cs : Array Value} (h : ∀ j x, (riC id t cs)[j]? = some x → w.cell? (p.add j) = some x) (hl : id.length = 32) : w.cell? (p.add 32) = some (.string t) := h 32 _ (by
 simp only [riC]
 rw [List.getElem?_append_right (by rw [idC_length]; omega), idC_length, hl]; rfl)
theorem ri_ob {w : World} {p : Addr} {id : List UInt8} {t : ByteArray} {cs : Array Value} (h : ∀ j x, (riC id t cs)[j]? = some x → w.cell? (p.add j) = some x) (hl : id.length = 32) (j : Nat) (u : Value) (hu : cs[j]? = some u) : w.cell? (p.add (33 + j)) = some u := h (33 + j) u (by
 simp only [riC]
 rw [List.getElem?_append_right (by rw [idC_length]; omega), idC_length, hl, show 33 + j - 32 = j + 1 by omega, List.getElem?_cons_succ]
 simpa using hu)
theorem DSt.out {w : World} {ao : Option Addr} {n cap : Nat} {L : List St.It} (h : DSt w (.slice ao n cap) L) (i : Nat) (x : St.It) (hi : L[i]? = some x) :
  ∃ a, ao = some a ∧ (∀ j u, (idC x.id)[j]? = some u → w.cell? ((a.add (i * 105)).add j) = some u) ∧ w.cell? ⟨a.block, a.off + i * 105 + 32, none⟩ = some (.string x.text) := by
 obtain ⟨a, c, e, hd, hc⟩ := h.elem i x hi
 have hil := hd.idl
 obtain ⟨o, cs, rfl, _⟩ := hd
 refine ⟨a, e, ri_id hc, ?_⟩
 have := ri_text hc hil
 rwa [add_two a (i * 105) 32 (by decide)] at this
def atV (L : List St.It) (id : List UInt8) : Int := if St.has L id then (St.pos L id : Int) else -1
theorem atV_at {L : List St.It} {id : List UInt8} {k : Nat} {x : St.It} (hs : St.Srt L) (hx : L[k]? = some x) (he : x.id = id) : atV L id = k := by
 unfold atV
 rw [St.has_of hx he, if_pos rfl, ← he, St.pos_eq hs hx]
theorem atV_none {L : List St.It} {id : List UInt8} (h : ∀ (j : Nat) (x : St.It), j < L.length → L[j]? = some x → x.id ≠ id) : atV L id = -1 := by
 unfold atV
 have : St.has L id = false := by
  unfold St.has
  rw [List.any_eq_false]
  intro x hx
  obtain ⟨j, hj⟩ := List.getElem?_of_mem hx
  simpa using h j x (List.getElem?_eq_some_iff.1 hj).1 hj
 rw [this]; rfl
theorem at_any (w : World) (v : Value) (L : List St.It) (id : List UInt8) (h : DSt w v L) (hil : id.length = 32) :
  Calls Tryz.prog 50 #[.agg #[v], .agg (idC id).toArray] w fun r w' => r = .returned (.int .i64 (atV L id)) ∧ Below w.heap.size w w' := by
 have hfew := h.few
 obtain ⟨ao, cap, rfl⟩ := h.form
 have HB2 := Lib.hid (below2 w (.cells #[.slice ao L.length cap] 28) (.cells (idC id).toArray 46))
 have HX2 := Lib.hid (box2_cell w (.slice ao L.length cap) 28 (.cells (idC id).toArray 46))
 have HN2 := Lib.hid (row_news (new2 w (.cells #[.slice ao L.length cap] 28) (.cells (idC id).toArray 46)))
 have HH := Lib.hid h
 have HIL := Lib.hid hil
 have HV := Lib.hid (show ∀ (k : Nat) (x : St.It), L[k]? = some x → x.id = id → atV L id = (k : Int) from fun k x hx he => atV_at h.srt hx he)
 have HW := Lib.hid (show (∀ (j : Nat) (x : St.It), j < L.length → L[j]? = some x → x.id ≠ id) → atV L id = -1 from fun h => atV_none h)
 generalize atV L id = Z at *
 clear h hil
 go_enter Tryz.func50, Tryz.ntmps50
 go_wp2_with fail
 go_loopw [5] (fun i wr => ∃ (k : Nat), k ≤ L.length ∧ i = .int .i64 k ∧ Hid (∀ (j : Nat) (x : St.It), j < k → L[j]? = some x → x.id ≠ id) ∧ Hid (Below w.heap.size w wr) ∧ Hid (wr.cell? ⟨w.heap.size, 0, none⟩ = some (.slice ao L.length cap)) ∧ Hid (∀ j u, (idC id)[j]? = some u → wr.cell? ((⟨w.heap.size + 1, 0, none⟩ : Addr).add j) = some u)) (fun i _ => L.length - (intOf i).toNat)
 case atStart => exact ⟨0, by omega, rfl, fun j x h => absurd h (by omega), HB2.out, HX2.out, HN2.out⟩
 case round =>
  obtain ⟨k, hk, rfl, HA, HB, HC, HI⟩ := hrel
  have c0 := HC.out
  have c0' : wr.drew.cell? ⟨w.heap.size, 0, none⟩ = some (.slice ao L.length cap) := HC.out
  by_cases hlt : k < L.length
  ·
   have hlt' : (k : Int) < (L.length : Int) := by omega
   have hk0 : (0 : Int) ≤ (k : Int) := by omega
   obtain ⟨x, hx⟩ : ∃ x, L[k]? = some x := ⟨L[k], List.getElem?_eq_getElem hlt⟩
   have hxl := HH.out.len x (List.mem_of_getElem? hx)
   obtain ⟨a, rfl, hc, _⟩ := (HH.out.below HB.out).out k x hx
   have HC1 := Lib.hid (show ∀ j u, (idC x.id)[j]? = some u → wr.drew.cell? ((a.add (k * 105)).add j) = some u from hc)
   have HC2 := Lib.hid (show ∀ j u, (idC id)[j]? = some u → wr.drew.cell? ((⟨w.heap.size + 1, 0, none⟩ : Addr).add j) = some u from HI.out)
   have HXL := Lib.hid hxl
   have HX := Lib.hid hx
   have hq := fun W => eq_id x.id id hxl HIL.out W
   clear hx hxl hc
   by_cases he : x.id = id
   ·
    have HR := Lib.hid (HV.out k x HX.out he)
    rw [show decide (x.id = id) = true from decide_eq_true he] at hq
    clear he
    go_wp2_with fail
    refine rgn_still (by kernel_rfl) (by kernel_rfl) ?_
    repeat still_step
    (with_reducible apply still_id (hc := HC1.out) (hl := HXL.out))
    rfl
    rfl
    rfl
    (with_reducible apply still_id (hc := HC2.out) (hl := HIL.out))
    rfl
    rfl
    rfl
    repeat still_step
    refine wpStill_nil ?_
    go_wp2_with fail
    go_ret
    exact ⟨ret_int HR.out.symm, HB.out.drew⟩
   ·
    have HA2 := Lib.hid (show ∀ (j : Nat) (y : St.It), j < k + 1 → L[j]? = some y → y.id ≠ id from fun j y hj hy => by
     by_cases e : j = k
     · subst e; rw [HX.out] at hy; cases hy; exact he
     · exact HA.out j y (by omega) hy)
    rw [show decide (x.id = id) = false from decide_eq_false he] at hq
    clear he
    go_wp2_with fail
    refine rgn_still (by kernel_rfl) (by kernel_rfl) ?_
    repeat still_step
    (with_reducible apply still_id (hc := HC1.out) (hl := HXL.out))
    rfl
    rfl
    rfl
    (with_reducible apply still_id (hc := HC2.out) (hl := HIL.out))
    rfl
    rfl
    rfl
    repeat still_step
    refine wpStill_nil ?_
    go_wp2_with fail
    go_roundw
    case rel => exact ⟨k + 1, by omega, by go_num, HA2.out, HB.out.drew, HC.out, HI.out⟩
    case measure => simp [intOf]; omega
  ·
   have HR := Lib.hid (HW.out (fun j x hj hx => HA.out j x (by omega) hx))
   go_wp2_with fail
   go_ret
   exact ⟨ret_int HR.out.symm, HB.out⟩
end Go.Proofs.YtkcjhkfelaplkaaGreatDoor
end
section
namespace Go.Proofs.YtkcjhkfelaplkaaGreatDoor
open Go.RowKit
structure OwnI (w : World) (base : Nat) (v : Value) (I : List (List UInt8)) : Prop where
 own : w.ownsRow base 46 32 v I.length (I.map idC).flatten
 len : ∀ i ∈ I, i.length = 32
theorem OwnI.nil (w : World) (base : Nat) : OwnI w base (.slice none 0 0) [] := ⟨World.ownsRow_nil _ _ _ _, (fun i h => by cases h)⟩
theorem OwnI.below {w w' : World} {base : Nat} {v : Value} {I : List (List UInt8)} (h : OwnI w base v I) (hb : Below w.heap.size w w') : OwnI w' base v I := ⟨own_bel h.own hb, h.len⟩
theorem OwnI.rows {w : World} {base : Nat} {v : Value} {I : List (List UInt8)} (h : OwnI w base v I) : IdsAt w v I := own_rowsK (C := I.map idC) (by simpa using h.own) (ids_len h.len)
theorem wp_ap_id {op : Oper} {a : Act} {wr : World} {K : Act → World → Prop} {Q : Exit → Act → World → Prop} {v : Value} {I : List (List UInt8)} {id : List UInt8} {base : Nat} (s x : Operand)
  (ho : op.op = .call { callee := .builtin .append, args := #[s, x], argTypes := #[34, 34] }) (hs : a.eval s = v) (hx : a.eval x = .slice (some ⟨wr.heap.size, 0, none⟩) 1 1)
  (h : OwnI wr base v I) (hb : base ≤ wr.heap.size) (hid : id.length = 32) (hl : I.length ≤ 2000)
  (hK : ∀ v' w', Hid (OwnI w' base v' (I ++ [id])) → Hid ((wr.alloc (.cells (idC id).toArray 46)).grownBy w' v.ownBlock) → K (a.put op.dst v') w') : op.wp Tryz.prog a (wr.alloc (.cells (idC id).toArray 46)) K Q := by
 obtain ⟨i0, hi, hz0, hz1, hz2⟩ := info_parts infoIdz
 refine wp_append_own _ s x 34 ho base 46 i0 _ 32 32 Tryz.underlying34 hi hz0 hz1 hz2 (by decide) (by decide) v I.length (I.map idC).flatten hs (World.ownsRow.alloc h.own _) ⟨wr.heap.size, 0, none⟩ 1 1 (idC id) hx (by rw [idC_length, hid]) (row_news (heap_alloc_new _ _)) (idC_one id) (by unfold maxLen; omega) (by omega) (by simp; omega) ?_
 intro v' w' h1 h2 _
 refine hK v' w' ⟨?_, ?_⟩ h2
 ·
  have := own_pushK (C := I.map idC) (c := idC id) (by simpa using h1)
  rw [show (I ++ [id]).map idC = I.map idC ++ [idC id] by simp, show (I ++ [id]).length = (I.map idC ++ [idC id]).length by simp]
  exact this
 ·
  intro i hi
  rcases List.mem_append.1 hi with h | h
  · exact OwnI.len ‹_› i h
  · rw [List.mem_singleton.1 h]; exact hid
theorem ap_id {ops : Array Oper} {rest : List Oper} {op : Oper} {a : Act} {wr : World} {Q : Exit → Act → World → Prop} {v : Value} {I : List (List UInt8)} {id : List UInt8} {base : Nat} (s x : Operand)
  (ho : op.op = .call { callee := .builtin .append, args := #[s, x], argTypes := #[34, 34] }) (hs : a.eval s = v) (hx : a.eval x = .slice (some ⟨wr.heap.size, 0, none⟩) 1 1) (hg : op.guard = none)
  (h : OwnI wr base v I) (hb : base ≤ wr.heap.size) (hid : id.length = 32) (hl : I.length ≤ 2000)
  (hK : ∀ v' w', Hid (OwnI w' base v' (I ++ [id])) → Hid ((wr.alloc (.cells (idC id).toArray 46)).grownBy w' v.ownBlock) → wpList Tryz.prog ops Q rest (a.put op.dst v') w') : wpList Tryz.prog ops Q (op :: rest) a (wr.alloc (.cells (idC id).toArray 46)) :=
 wpList_plain hg fun _ hK' => wp_ap_id s x ho hs hx h hb hid hl (fun v' w' h1 h2 => hK' _ _ (hK v' w' h1 h2))
theorem bs_id2 {ops : Array Oper} {rest : List Oper} {op : Oper} {a : Act} {w : World} {Q : Exit → Act → World → Prop} {x : Operand} {l : List UInt8} (ho : op.op = .buildSlice 34 1 #[(0, x)]) (hx : a.eval x = .agg (idC l).toArray) (hg : op.guard = none) (hl : l.length = 32)
  (h : wpList Tryz.prog ops Q rest (a.put op.dst (.slice (some ⟨w.heap.size, 0, none⟩) 1 1)) (w.alloc (.cells (idC l).toArray 46))) : wpList Tryz.prog ops Q (op :: rest) a w :=
 Great.wpList_buildSliceTo hg _ 46 1 _ ho w.heap.size rfl op.dst rfl Tryz.underlying34 _ (by simp only [List.map_toArray, List.map_cons, List.map_nil, hx]; exact builtS_id l hl) h
theorem OwnI.grown {w wr w' : World} {base : Nat} {v : Value} {I : List (List UInt8)} {o : Obj} (h : OwnI wr base v I) (hb : Below base w wr) (hbs : base ≤ wr.heap.size) (hg : (wr.alloc o).grownBy w' v.ownBlock) : Below base w w' :=
 (hb.alloc hbs _).grown hg (by simp; omega) (fun k hk => (h.own.lt k hk).1)
end Go.Proofs.YtkcjhkfelaplkaaGreatDoor
end
section
namespace Go.Proofs.YtkcjhkfelaplkaaGreatDoor
open Go.RowKit
def ANew (o : Ob) (w : World) (r : Ending) (w' : World) : Prop :=
 ∃ (cs : Array Value) (ao bo : Option Addr) (ca cb : Nat), r = .returned (.tuple #[.agg cs, .bool true]) ∧ ObAt w' cs o ao bo ca cb ∧ (∀ a, ao = some a ∨ bo = some a → w.heap.size ≤ a.block) ∧ Below w.heap.size w w'
theorem refdec_new (s : ByteArray) (w : World) (h0 : 0 < s.size) (hs : s.size ≤ 5000) (hok : encOk (Rm.guessF s.data.toList) = true) (hd : encS (Rm.guessF s.data.toList) = s) : Calls Tryz.prog 97 #[.string s] w (ANew (Rm.guessF s.data.toList) w) := by
 unfold ANew
 have hz28 := (zero_of_info zero28).1
 have HS0 := Lib.hid noF.size
 have HO0 := Lib.hid noF.one
 have HBN := Lib.hid built_none
 generalize (obC noOb nilV nilV).toArray = z at hz28 HS0 HO0 HBN 
 have E0 := Lib.hid (heap_alloc_last w (.cells z 59))
 have hB0 := (Below.refl w.heap.size w).alloc (Nat.le_refl _) (.cells z 59)
 have hne2 : ¬ s = ByteArray.empty := fun e => by rw [e] at h0; exact absurd h0 (by decide)
 have hne : s.toList.isEmpty = false := by
  rw [ByteArray.toList_eq]
  have h1 := size_list s
  cases hl : s.data.toList with
  | nil => rw [hl] at h1; simp at h1; omega
  | cons a b => rfl
 have HGS := Lib.hid (fun W => guess_any s W h0 hs)
 have hsl := size_list s
 have hsh := guess_short s.data.toList
 have HRE := Lib.hid (fun (W : World) (cs : Array Value) (ao bo : Option Addr) (ca cb : Nat) (h : ObAt W cs (Rm.guessF s.data.toList) ao bo ca cb) => refencode_any cs (Rm.guessF s.data.toList) ao bo ca cb W h (by omega) (by omega))
 rw [hok, hd] at HRE
 clear hok hd
 clear hsl hsh
 go_enter Tryz.func97, Tryz.ntmps97
 go_wp2_with (first
  | (go_at_call 130; fail))
 refine (HGS.out _).mono ?_
 rintro r w2 ⟨cs, ao, bo, ca, cb, rfl, hO, hx2, hnew⟩
 have HNW := Lib.hid (show ∀ a : Addr, ao = some a ∨ bo = some a → w.heap.size + 1 ≤ a.block from fun a ha => by have := hnew a ha; simpa using this)
 clear hnew
 have E2 := Lib.hid ((hx2.block w.heap.size (by simp)).trans E0.out)
 have hB2 := hB0.trans (hx2.mono hB0.size)
 generalize w.alloc (.cells z 59) = w1 at *
 have HCS := Lib.hid hO.F.size
 have HCO := Lib.hid hO.F.one
 have HN := Lib.hid (heap_alloc_last w2 (.cells cs 59))
 have hO3 := hO.below ((Below.refl w2.heap.size w2).alloc (Nat.le_refl _) (.cells cs 59))
 have E3 := Lib.hid (held_alloc (o := .cells cs 59) E2.out)
 have hB3 := hB2.alloc hB2.size (.cells cs 59)
 have HCALL := Lib.hid (HRE.out _ _ _ _ _ _ hO3)
 go_wp2_with (first
  | (go_at_call 68; fail)
  | ((with_reducible refine st_ob2 (x := .tmp 4) (y := .tmp 11) (g := w2.heap.size) ?_ ?_ ?_ ?_ ?_ ?_ HCS.out HCO.out ?_); rfl; rfl; rfl; rfl; exact HS0.out; rfl)
  | ((with_reducible refine ld_obr (x := .tmp 4) ?_ ?_ ?_ HN.out HCS.out ?_); rfl; rfl; rfl))
 refine HCALL.out.mono ?_
 rintro r w4 ⟨hr, hx4⟩
 have hr2 : r = .returned (.tuple #[.string s, .bool true]) := hr
 subst hr2
 clear hr
 have E4 := Lib.hid ((hx4.block w.heap.size (by have := (Array.getElem?_eq_some_iff.1 E3.out).1; exact this)).trans E3.out)
 have N4 := Lib.hid ((hx4.block w2.heap.size (by simp)).trans HN.out)
 have hB4 := hB3.trans (hx4.mono hB3.size)
 have hO4 := hO3.below hx4
 go_wp2_with (first
  | ((with_reducible refine ld_obr (x := .tmp 4) ?_ ?_ ?_ N4.out HCS.out ?_); rfl; rfl; rfl)
  | ((with_reducible refine st_obr (x := .tmp 2) (y := .tmp 25) ?_ ?_ ?_ ?_ E4.out HS0.out HCS.out HCO.out ?_); rfl; rfl; rfl; rfl))
 refine bodyPost_ret (results_cell_tmp (fn := Tryz.f97) (p := 2) (q := 3) (by rfl) _ _ w.heap.size _ _ _ _ (by rfl) (setRow_heap _ _ _ _ _ _ E4.out) Tryz.underlying59 rfl (obsize HCS.out)) rfl ⟨cs, ao, bo, ca, cb, rfl, hO4.setRow (fun a ha => by have := HNW.out a ha; omega), (fun a ha => by have := HNW.out a ha; omega), below_setRow hB4 (Nat.le_refl _) _⟩
theorem refdec_obj (s : ByteArray) (o : Ob) (w : World) (hs : s.size ≤ 5000) (h : Rm.dec s.data.toList = some o) : Calls Tryz.prog 97 #[.string s] w (ANew o w) := by
 have hi := Rm.dec_ids h
 obtain ⟨hv2, he2, hl2, _⟩ := Rm.dec_inv h
 have hes2 : encS o = s := bytes_ext he2
 have hsz2 : (encS o).size ≤ 4096 := by rw [← size_list, he2]; exact hl2
 obtain ⟨h1, h2, h3, h4⟩ := short_ob hv2 hsz2
 have hgs := Rm.guess_fwd hv2 (fit_of hv2 h1 h2 h3) hi.e hi.p hi.tr hi.ta hi.ti
 rw [he2] at hgs
 have hok : encOk o = true := by unfold encOk; rw [hv2, decide_eq_true hsz2]; rfl
 have := refdec_new s w (by rw [← hes2]; exact h4) hs (by rw [hgs]; exact hok) (by rw [hgs]; exact hes2)
 rw [hgs] at this
 exact this
theorem bd_ri {ops : Array Oper} {rest : List Oper} {op : Oper} {a : Act} {w : World} {Q : Exit → Act → World → Prop} {x y z : Operand} {l : List UInt8} {t : ByteArray} {cs : Array Value} (ho : op.op = .build 91 #[(0, x), (1, y), (2, z)]) (hx : a.eval x = .agg (idC l).toArray) (hy : a.eval y = .string t) (hz : a.eval z = .agg cs) (hg : op.guard = none) (hl : l.length = 32) (hs : cs.size = 72)
  (h : wpList Tryz.prog ops Q rest (a.put op.dst (.agg (riC l t cs).toArray)) w) : wpList Tryz.prog ops Q (op :: rest) a w :=
 wpList_build_as hg _ _ ho _ (by simp only [List.map_toArray, List.map_cons, List.map_nil, hx, hy, hz]; exact built_ri l t cs hl hs) h
theorem bs_ri {ops : Array Oper} {rest : List Oper} {op : Oper} {a : Act} {w : World} {Q : Exit → Act → World → Prop} {x : Operand} {c : List Value} (ho : op.op = .buildSlice 26 1 #[(0, x)]) (hx : a.eval x = .agg c.toArray) (hg : op.guard = none) (hl : c.length = 105)
  (h : wpList Tryz.prog ops Q rest (a.put op.dst (.slice (some ⟨w.heap.size, 0, none⟩) 1 1)) (w.alloc (.cells c.toArray 91))) : wpList Tryz.prog ops Q (op :: rest) a w :=
 Great.wpList_buildSliceTo hg _ 91 1 _ ho w.heap.size rfl op.dst rfl Tryz.underlying26 _ (by simp only [List.map_toArray, List.map_cons, List.map_nil, hx]; exact builtS_ri c hl) h
theorem ld_ri {ops : Array Oper} {rest : List Oper} {op : Oper} {a : Act} {w : World} {Q : Exit → Act → World → Prop} {x : Operand} {p : Addr} {c : List Value} (ho : op.op = .load 91 x) (hx : a.eval x = .pointer (some p)) (hg : op.guard = none) (hc : ∀ j v, c[j]? = some v → w.cell? (p.add j) = some v) (hl : c.length = 105)
  (h : wpList Tryz.prog ops Q rest (a.put op.dst (.agg c.toArray)) w) : wpList Tryz.prog ops Q (op :: rest) a w :=
 wpList_load_at hg 91 x ho p hx _ _ hc underRi rfl (by rw [hl]; exact infoRz) h
theorem ap_ri {ops : Array Oper} {rest : List Oper} {op : Oper} {a : Act} {wr : World} {Q : Exit → Act → World → Prop} {v : Value} {C : List (List Value)} {c : List Value} {base : Nat} (s x : Operand)
  (ho : op.op = .call { callee := .builtin .append, args := #[s, x], argTypes := #[26, 26] }) (hs : a.eval s = v) (hx : a.eval x = .slice (some ⟨wr.heap.size, 0, none⟩) 1 1) (hg : op.guard = none)
  (h : OwnR wr base v C) (hb : base ≤ wr.heap.size) (hc : c.length = 105) (h1c : ∀ u ∈ c, u.oneCell' = true) (hl : C.length ≤ 2000)
  (hK : ∀ v' w', Hid (OwnR w' base v' (C ++ [c])) → Hid ((wr.alloc (.cells c.toArray 91)).grownBy w' v.ownBlock) → wpList Tryz.prog ops Q rest (a.put op.dst v') w') : wpList Tryz.prog ops Q (op :: rest) a (wr.alloc (.cells c.toArray 91)) := by
 obtain ⟨i0, hi, hz0, hz1, hz2⟩ := info_parts infoRi
 refine wpList_plain hg fun K hK' => ?_
 refine wp_append_own _ s x 26 ho base 91 i0 _ 105 232 Tryz.underlying26 hi hz0 hz1 hz2 (by decide) (by decide) v C.length C.flatten hs (World.ownsRow.alloc h.own _) ⟨wr.heap.size, 0, none⟩ 1 1 c hx (by rw [hc]) (row_news (heap_alloc_new _ _)) h1c (by unfold maxLen; omega) (by omega) (by simp; omega) ?_
 intro v' w' h1 h2 _
 refine hK' _ _ (hK v' w' ⟨own_pushK h1, ?_⟩ h2)
 intro i hi
 rcases List.mem_append.1 hi with h' | h'
 · exact h.len i h'
 · rw [List.mem_singleton.1 h']; exact hc
theorem OwnR.grown {w wr w' : World} {base : Nat} {v : Value} {C : List (List Value)} {o : Obj} (h : OwnR wr base v C) (hb : Below base w wr) (hbs : base ≤ wr.heap.size) (hg : (wr.alloc o).grownBy w' v.ownBlock) : Below base w w' :=
 (hb.alloc hbs _).grown hg (by simp; omega) (fun k hk => (h.own.lt k hk).1)
theorem results_three {P : Program} {fn : Func} {p q r : Tmp} {t1 t2 : TypeId} (h : fn.results = #[.cell p t1, .cell q t2, .tmp r]) (tmps : Array Value) (w : World) (g1 g2 : Nat) (e1 e2 : TypeId) (c1 c2 : Array Value) (f1 f2 : Nat × Nat) (d1 d2 : TypeDesc)
  (hp : tmps.getD p undef = .pointer (some ⟨g1, 0, none⟩)) (hg1 : w.heap[g1]? = some (.cells c1 e1 f1)) (hu1 : P.underlying t1 = some d1) (hd1 : (match d1 with | .struct _ | .array _ _ => true | _ => false) = true) (hi1 : (P.info? t1).map (·.size) = some c1.size)
  (hq : tmps.getD q undef = .pointer (some ⟨g2, 0, none⟩)) (hg2 : w.heap[g2]? = some (.cells c2 e2 f2)) (hu2 : P.underlying t2 = some d2) (hd2 : (match d2 with | .struct _ | .array _ _ => true | _ => false) = true) (hi2 : (P.info? t2).map (·.size) = some c2.size) :
  (results fn tmps).run P w = .ok (.tuple #[.agg c1, .agg c2, tmps.getD r undef]) w := by
 have hp' : tmps[p]?.getD undef = .pointer (some ⟨g1, 0, none⟩) := by simpa using hp
 have hq' : tmps[q]?.getD undef = .pointer (some ⟨g2, 0, none⟩) := by simpa using hq
 simp [results, h, hp', hq', asAddr, run_loadVar_row w g1 e1 t1 c1 f1 d1 hg1 hu1 hd1 hi1, run_loadVar_row w g2 e2 t2 c2 f2 d2 hg2 hu2 hd2 hi2]
theorem refkind_any (w : World) (v : Value) (L : List St.It) (id : List UInt8) (h : DSt w v L) (hil : id.length = 32) :
  Calls Tryz.prog 20 #[.agg #[v], .agg (idC id).toArray] w fun r w' => ∃ K : Int, r = .returned (.int .i64 K) ∧ 0 ≤ K ∧ K ≤ 4 ∧ Below w.heap.size w w' := by
 have hfew := h.few
 have HA := Lib.hid (fun W (hb : Below w.heap.size w W) => at_any W v L id (h.below hb) hil)
 obtain ⟨ao, cap, rfl⟩ := h.form
 have HB2 := Lib.hid (below2 w (.cells #[.slice ao L.length cap] 28) (.cells (idC id).toArray 46))
 have c2 := (box2_cell w (.slice ao L.length cap) 28 (.cells (idC id).toArray 46))
 have HN2 := Lib.hid (row_news (new2 w (.cells #[.slice ao L.length cap] 28) (.cells (idC id).toArray 46)))
 have HH := Lib.hid h
 have HIL := Lib.hid hil
 have hpl := St.pos_le L id
 have HV : Hid (St.has L id = false → atV L id = -1) := Lib.hid (fun h => by unfold atV; rw [h]; rfl)
 have HW : Hid (St.has L id = true → atV L id = (St.pos L id : Int) ∧ ∃ x, L[St.pos L id]? = some x) := Lib.hid (fun h' => by
  obtain ⟨x, hx, _⟩ := St.has_at h.srt h'
  exact ⟨by unfold atV; rw [h']; rfl, x, hx⟩)
 generalize atV L id = Z at *
 generalize St.pos L id = pos at *
 clear h hil
 go_enter Tryz.func20, Tryz.ntmps20
 go_wp2_with ((with_reducible refine ld_id (x := .tmp 3) (p := ⟨w.heap.size + 1, 0, none⟩) ?_ ?_ ?_ HN2.out HIL.out ?_); rfl; rfl; rfl)
 refine (HA.out _ HB2.out).mono ?_
 rintro r w3 ⟨rfl, hb3⟩
 have hB := HB2.out.trans (hb3.mono (show w.heap.size ≤ _ by simp; omega))
 have c3 := (hb3.cell (p := ⟨w.heap.size, 0, none⟩) (by simp; omega)).trans c2
 clear hb3 c2 HA HN2 HB2
 cases hq : St.has L id with
 | false =>
   obtain rfl := (HV.out hq)
   clear HV HW hq
   go_wp2_with fail
   go_ret
   exact ⟨0, rfl, by decide, by decide, hB⟩
 | true =>
   obtain ⟨rfl, x, hx⟩ := HW.out hq
   clear HV HW hq
   have hlt : pos < L.length := (List.getElem?_eq_some_iff.1 hx).1
   obtain ⟨a, c, rfl, hd, hc⟩ := (HH.out.below hB).elem pos x hx
   have hxl := hd.idl
   obtain ⟨o, cs, rfl, _, _, hO0, hdec, _⟩ := hd
   have hk := (Rm.dec_head hdec).2.2
   have hcell := ri_ob hc hxl 0 _ hO0
   rw [add_two a (pos * 105) 33 (by decide)] at hcell
   have hA1 := add_block a (pos * 105)
   have hA2 : (a.add (pos * 105)).off = a.off + pos * 105 := by unfold Addr.add; split <;> simp_all
   have hlt' : (pos : Int) < (L.length : Int) := by omega
   have hk0 : (0 : Int) ≤ (pos : Int) := by omega
   clear hx hc hO0 hdec hxl
   go_wp2_with fail
   go_ret
   exact ⟨o.kind, rfl, by omega, by omega, hB⟩
end Go.Proofs.YtkcjhkfelaplkaaGreatDoor
end
section
namespace Go.Proofs.YtkcjhkfelaplkaaGreatDoor
open Go.RowKit
theorem underSt : Tryz.prog.underlying 28 = some (.struct (Tryz.prog.fieldsOf 28)) := by kernel_rfl
theorem sizeSt : (Tryz.prog.info? 28).map (·.size) = some 1 := by kernel_rfl
structure Tri (w W : World) (v : Value) : Prop where
 b0 : W.heap[w.heap.size]? = some (.cells #[v] 28)
 b1 : W.heap[w.heap.size + 1]? = some (.cells #[.slice none 0 0] 28)
 b2 : W.heap[w.heap.size + 1 + 1]? = some (.cells (idC zId).toArray 46)
 bel : Below w.heap.size w W
 sz : w.heap.size + 1 + 1 < W.heap.size
theorem Tri.below {w W W' : World} {v : Value} (h : Tri w W v) (hb : Below W.heap.size W W') : Tri w W' v := by
 have := h.sz
 have := hb.size
 exact ⟨(hb.block _ (by omega)).trans h.b0, (hb.block _ (by omega)).trans h.b1, (hb.block _ (by omega)).trans h.b2, h.bel.trans (hb.mono h.bel.size), by omega⟩
theorem Tri.made (w : World) (v : Value) : Tri w (((w.alloc (.cells #[v] 28)).alloc (.cells #[.slice none 0 0] 28)).alloc (.cells (idC zId).toArray 46)) v := by
 refine ⟨?_, ?_, ?_, ((below_new w _).alloc (by simp) _).alloc (by simp; omega) _, by simp⟩
 ·
  rw [(below_new _ _).block _ (by simp; omega), (below_new _ _).block _ (by simp)]
  exact heap_alloc_new _ _
 ·
  rw [(below_new _ _).block _ (by simp)]
  have := heap_alloc_new (w.alloc (.cells #[v] 28)) (.cells #[.slice none 0 0] 28)
  simpa using this
 ·
  have := heap_alloc_new ((w.alloc (.cells #[v] 28)).alloc (.cells #[.slice none 0 0] 28)) (.cells (idC zId).toArray 46)
  simpa using this
theorem Tri.cell {w W : World} {v : Value} (h : Tri w W v) : W.cell? ⟨w.heap.size, 0, none⟩ = some v := by rw [cell_of_row _ _ 0 _ _ _ h.b0]; rfl
theorem st_st {ops : Array Oper} {rest : List Oper} {op : Oper} {a : Act} {w : World} {Q : Exit → Act → World → Prop} {x y : Operand} {g : Nat} {v : Value} {c : Array Value} (ho : op.op = .store 28 x y) (hx : a.eval x = .pointer (some ⟨g, 0, none⟩)) (hy : a.eval y = .agg #[v]) (hg : op.guard = none) (he : w.heap[g]? = some (.cells c 28)) (hc : c.size = 1) (h1 : v.oneCell' = true)
  (h : wpList Tryz.prog ops Q rest (a.put op.dst undef) (w.setRow g #[v])) : wpList Tryz.prog ops Q (op :: rest) a w :=
 wpList_store_row hg 28 x y ho g _ hx hy 28 c he sizeSt (by simp [hc]) (by simp [h1]) h
theorem Tri.stored {w W : World} {u v : Value} {id : List UInt8} (h : Tri w W u) (hl : id.length = 32) :
  ((W.setRow (w.heap.size + 1) #[v]).setRow (w.heap.size + 1 + 1) (idC id).toArray).heap[w.heap.size + 1]? = some (.cells #[v] 28 (0, 0)) ∧
  ((W.setRow (w.heap.size + 1) #[v]).setRow (w.heap.size + 1 + 1) (idC id).toArray).heap[w.heap.size + 1 + 1]? = some (.cells (idC id).toArray 46 (0, 0)) ∧
  Below w.heap.size w ((W.setRow (w.heap.size + 1) #[v]).setRow (w.heap.size + 1 + 1) (idC id).toArray) := by
 refine ⟨?_, ?_, below_setRow (below_setRow h.bel (by omega) _) (by omega) _⟩
 ·
  rw [setRow_other _ _ _ _ (by omega)]
  exact setRow_heap _ _ _ _ _ _ h.b1
 · exact setRow_heap _ _ (idC zId).toArray _ _ _ (by rw [setRow_other _ _ _ _ (by omega)]; exact h.b2)
def WithNo (w : World) (v : Value) (r : Ending) (w' : World) : Prop := r = .returned (.tuple #[.agg #[v], .agg (idC zId).toArray, .bool false]) ∧ Below w.heap.size w w'
theorem with_bad (w : World) (v : Value) (L : List St.It) (s : ByteArray) (h : DSt w v L) (hs : s.size ≤ 5000) (hd : Rm.dec s.data.toList = none) :
  Calls Tryz.prog 67 #[.agg #[v], .string s] w (WithNo w v) := by
 obtain ⟨ao, cap, rfl⟩ := h.form
 have hz28 := (zero_of_info zero28).1
 have HS0 := Lib.hid noF.size
 have HN0 := Lib.hid noF.one
 have HD := Lib.hid (fun W => show Calls Tryz.prog 97 #[.string s] W (fun r w' => r = .returned (.tuple #[.agg (obC noOb nilV nilV).toArray, .bool false]) ∧ Below W.heap.size W w') from refdec_no s W hs hd)
 generalize (obC noOb nilV nilV).toArray = z at hz28 HS0 HN0 HD
 clear hd h
 unfold WithNo
 go_enter Tryz.func67, Tryz.ntmps67
 go_wp2_with fail
 change Calls _ _ _ (((w.alloc (.cells #[.slice ao L.length cap] 28)).alloc (.cells #[.slice none 0 0] 28)).alloc (.cells (idC zId).toArray 46)) _
 have HT := Lib.hid (Tri.made w (.slice ao L.length cap))
 generalize ((w.alloc (.cells #[.slice ao L.length cap] 28)).alloc (.cells #[.slice none 0 0] 28)).alloc (.cells (idC zId).toArray 46) = W at *
 refine (HD.out _).mono ?_
 rintro r w1 ⟨rfl, hb1⟩
 have HT1 := Lib.hid (HT.out.below (hb1.alloc hb1.size (.cells z 59)))
 have c0 := HT1.out.cell
 clear hb1 HT
 have HE1 := Lib.hid HT1.out.b1
 have HE2 := Lib.hid (show ((w1.alloc (.cells z 59)).setRow (w.heap.size + 1) #[.slice ao L.length cap]).heap[w.heap.size + 1 + 1]? = some (.cells (idC zId).toArray 46) by rw [setRow_other _ _ _ _ (by omega)]; exact HT1.out.b2)
 go_wp2_with (first
  | ((with_reducible apply st_ob (hs := HS0.out) (h1 := HN0.out)); rfl; rfl; rfl; rfl; exact HS0.out)
  | ((with_reducible refine bd_zid ?_ ?_ ?_); rfl; rfl)
  | ((with_reducible refine st_st (v := .slice ao L.length cap) (x := .tmp 4) (y := .tmp 21) (g := w.heap.size + 1) ?_ ?_ ?_ ?_ HE1.out ?_ ?_ ?_); rfl; rfl; rfl; rfl; rfl; rfl)
  | ((with_reducible refine st_idg (l := zId) (x := .tmp 5) (y := .tmp 22) (g := w.heap.size + 1 + 1) ?_ ?_ ?_ ?_ HE2.out ?_ ?_ ?_); rfl; rfl; rfl; rfl; rfl; rfl))
 obtain ⟨r1, r2, r3⟩ := HT1.out.stored (v := .slice ao L.length cap) (id := zId) rfl
 exact bodyPost_ret (results_three (fn := Tryz.f67) (p := 4) (q := 5) (r := 6) (by rfl) _ _ (w.heap.size + 1) (w.heap.size + 1 + 1) _ _ _ _ _ _ _ _ (by rfl) r1 underSt rfl sizeSt (by rfl) r2 Tryz.underlying46 rfl (by rw [List.size_toArray]; exact idsize rfl)) rfl ⟨rfl, r3⟩
end Go.Proofs.YtkcjhkfelaplkaaGreatDoor
end
section
namespace Go.Proofs.YtkcjhkfelaplkaaGreatDoor
open Go.RowKit
structure Pre (w W : World) (v : Value) (cs : Array Value) (o : Ob) (ao bo : Option Addr) (ca cb : Nat) (id : List UInt8) (n1 n2 : Nat) : Prop where
 tri : Tri w W v
 ob : W.heap[n1]? = some (.cells cs 59)
 idb : W.heap[n2]? = some (.cells (idC id).toArray 46)
 oat : ObAt W cs o ao bo ca cb
 fresh : ∀ a, ao = some a ∨ bo = some a → w.heap.size + 1 + 1 < a.block
 lt1 : n1 < W.heap.size
 lt2 : n2 < W.heap.size
theorem Pre.below {w W W' : World} {v : Value} {cs : Array Value} {o : Ob} {ao bo : Option Addr} {ca cb n1 n2 : Nat} {id : List UInt8} (h : Pre w W v cs o ao bo ca cb id n1 n2) (hb : Below W.heap.size W W') : Pre w W' v cs o ao bo ca cb id n1 n2 :=
 ⟨h.tri.below hb, (hb.block _ h.lt1).trans h.ob, (hb.block _ h.lt2).trans h.idb, h.oat.below hb, h.fresh, Nat.lt_of_lt_of_le h.lt1 hb.size, Nat.lt_of_lt_of_le h.lt2 hb.size⟩
theorem Pre.idr {w W : World} {v : Value} {cs : Array Value} {o : Ob} {ao bo : Option Addr} {ca cb n1 n2 : Nat} {id : List UInt8} (h : Pre w W v cs o ao bo ca cb id n1 n2) : ∀ j u, (idC id)[j]? = some u → W.cell? ((⟨n2, 0, none⟩ : Addr).add j) = some u := row_news h.idb
structure ItN (w : World) (c0 : List Value) (x : St.It) (C : List (List Value)) (M : List St.It) : Prop where
 len : C.length = M.length
 at_ : ∀ (i : Nat) (c : List Value) (y : St.It), C[i]? = some c → M[i]? = some y → DIt w c y ∨ (c = c0 ∧ y = x)
theorem ItN.nil (w : World) (c0 : List Value) (x : St.It) : ItN w c0 x [] [] := ⟨rfl, fun i c y h => by simp at h⟩
theorem ItN.push {w : World} {c0 : List Value} {x : St.It} {C : List (List Value)} {M : List St.It} {c : List Value} {y : St.It} (h : ItN w c0 x C M) (hc : DIt w c y ∨ (c = c0 ∧ y = x)) : ItN w c0 x (C ++ [c]) (M ++ [y]) := by
 refine ⟨by simp [h.len], fun i d z hd hz => ?_⟩
 by_cases hi : i < C.length
 ·
  rw [List.getElem?_append_left hi] at hd
  rw [List.getElem?_append_left (by rw [← h.len]; exact hi)] at hz
  exact h.at_ i d z hd hz
 ·
  have hic : i = C.length := by
   have := (List.getElem?_eq_some_iff.1 hd).1
   simp at this; omega
  subst hic
  rw [List.getElem?_append_right (Nat.le_refl _)] at hd
  rw [List.getElem?_append_right (by rw [h.len]; exact Nat.le_refl _), h.len] at hz
  simp at hd hz
  subst hd hz
  exact hc
theorem ItN.its {w W : World} {c0 : List Value} {x : St.It} {C : List (List Value)} {M : List St.It} (h : ItN w c0 x C M) (hb : Below w.heap.size w W) (hx : DIt W c0 x) : Its W C M :=
 ⟨h.len, fun i c y hc hy => by
  rcases h.at_ i c y hc hy with h1 | ⟨rfl, rfl⟩
  · exact h1.below hb
  · exact hx⟩
theorem DSt.lift {w W : World} {ao : Option Addr} {n cap : Nat} {L : List St.It} (h : DSt w (.slice ao n cap) L) (hb : Below w.heap.size w W) (i : Nat) (x : St.It) (hi : L[i]? = some x) :
  ∃ a c, ao = some a ∧ DIt w c x ∧ ∀ j u, c[j]? = some u → W.cell? ((a.add (i * 105)).add j) = some u := by
 obtain ⟨a, c, e, hd, hc⟩ := h.elem i x hi
 refine ⟨a, c, e, hd, fun j u hu => ?_⟩
 have h1 := hc j u hu
 rw [hb.cell (World.block_lt_of_cell? w _ h1)]; exact h1
theorem DIt.ids {w W : World} {c : List Value} {x : St.It} {p : Addr} (h : DIt w c x) (hc : ∀ j u, c[j]? = some u → W.cell? (p.add j) = some u) : ∀ j u, (idC x.id)[j]? = some u → W.cell? (p.add j) = some u := by
 obtain ⟨o, cs, rfl, _⟩ := h
 exact ri_id hc
theorem Pre.final {w W : World} {v u : Value} {cs : Array Value} {o : Ob} {ao bo : Option Addr} {ca cb n1 n2 : Nat} {id : List UInt8} (h : Pre w W v cs o ao bo ca cb id n1 n2) (hl : id.length = 32) :
  ObAt ((W.setRow (w.heap.size + 1) #[u]).setRow (w.heap.size + 1 + 1) (idC id).toArray) cs o ao bo ca cb :=
 (h.oat.setRow (fun a ha => by have := h.fresh a ha; omega)).setRow (fun a ha => by have := h.fresh a ha; omega)
structure Rd2 (n0 n2 : Nat) (v : Value) (id : List UInt8) (W : World) : Prop where
 c : W.cell? ⟨n0, 0, none⟩ = some v
 r : W.rangeAt n2 0 (idC id)
theorem Rd2.setRow {n0 n2 k : Nat} {v : Value} {id : List UInt8} {W : World} (h : Rd2 n0 n2 v id W) (h0 : n0 ≠ k) (h2 : n2 ≠ k) (cs : Array Value) : Rd2 n0 n2 v id (W.setRow k cs) :=
 ⟨by rw [cell_setRow_other _ _ _ _ h0]; exact h.c, fun j u hu => by rw [cell_setRow_other _ _ _ _ h2]; exact h.r j u hu⟩
theorem range_row {w : World} {g : Nat} {l : List Value} {t : TypeId} (h : w.heap[g]? = some (.cells l.toArray t)) : w.rangeAt g 0 l := fun j u hu => by
 have := row_news h j u hu
 rwa [Addr.add_mid] at this
end Go.Proofs.YtkcjhkfelaplkaaGreatDoor
end
section
namespace Go.Proofs.YtkcjhkfelaplkaaGreatDoor
open Go.RowKit
theorem built_st (ao : Option Addr) (n c : Nat) : Tryz.prog.built 28 [(0, .slice ao n c)] = some #[.slice ao n c] := by kernel_rfl
theorem yields_bd_st {ops : Array Oper} {S : World → Prop} {o : Oper} {a : Act} {ao : Option Addr} {n c : Nat} (hw : Region.wanted o (yielded ops a.tmps) = true) (x : Operand) (ho : o.op = .build 28 #[(0, x)]) (hx : a.eval x = .slice ao n c) :
  YieldsIf Tryz.prog ops S o (.agg #[.slice ao n c]) a := .inl ⟨hw, fun w _ => by
 unfold execOp
 have hr := run_build (P := Tryz.prog) w 28 #[(0, .slice ao n c)] _ (built_st ao n c)
 simp only [ho, Sem.run_bind, Sem.run_pure, Result.andThen_ok, List.map_toArray, List.map_cons, List.map_nil, hx, hr]⟩
end Go.Proofs.YtkcjhkfelaplkaaGreatDoor
end
