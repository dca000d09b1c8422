/-
  WALKS OF LAYER 4: the document's own May (knapsackref04.May), of tags.
  WALKS OF LAYER 4: Links, of the program.
  WALKS OF LAYER 4: SameLinks (knapsackref04), of two rows that hold the same.
-/
import Derived.Test.YtipigedopmgemaaDoorLc
section
namespace Go.Proofs.YtipigedopmgemaaDoor
open Go.RowKit
set_option linter.unusedVariables false
set_option linter.unusedSimpArgs false

set_option maxHeartbeats 2000000 in
set_option maxRecDepth 100000 in
theorem may_tag (cs : Array Value) (o : Ob) (ao bo : Option Addr) (ca cb : Nat) (w : World) (h : ObAt w cs o ao bo ca cb) (hk : o.kind = 4) :
    Calls Tryd.prog 33 #[.agg cs] w fun r w' => r = .returned (.bool (validB o)) ∧ Below w.heap.size w w' := by
  have HZ := Lib.hid (show validB o = (blobZ o && treeZ o && commitZ o && (decide (1 ≤ o.of ∧ o.of ≤ 4) && nameOk o.name)) by simp [validB, foreignZ, hk])
  generalize validB o = z at HZ
  have HZ1 := Lib.hid (show blobZ o = o.data.toList.isEmpty from rfl)
  have HZ2 := Lib.hid (show treeZ o = decide (o.ents.length = 0) from isEmpty_len _)
  have HZ3 := Lib.hid (show commitZ o = (decide (o.tree = zId) && decide (o.pars.length = 0) && decide (o.time = 0) && o.text.toList.isEmpty) by rw [← isEmpty_len]; rfl)
  have HZ4 := Lib.hid (show tagZ o = (decide (o.target = zId) && decide (o.of = 0) && o.name.toList.isEmpty) from rfl)
  generalize blobZ o = z1 at HZ HZ1
  generalize treeZ o = z2 at HZ HZ2
  generalize commitZ o = z3 at HZ HZ3
  generalize tagZ o = z4 at HZ HZ4
  have c0 : cs[0]? = some (.int .i64 4) := by rw [h.F.c0, hk]
  have c1 := h.F.c1
  have c2 := h.F.c2
  have c35 := h.F.c35
  have c36 := h.F.c36
  have c37 := h.F.c37
  have c70 := h.F.c70
  have c71 := h.F.c71
  have hpl := h.pl
  have hel := h.el
  unfold maxLen at hpl hel
  have hq3 := fun W => eq_id o.tree zId h.F.trl rfl W
  have hq7 := fun W => eq_id o.target zId h.F.tal rfl W
  have HT := Lib.hid h.F.trl
  have HG := Lib.hid h.F.tal
  have HO := Lib.hid (show zId.length = 32 from rfl)
  have HNM := Lib.hid (fun W => refname_any o.name W h.nm)
  generalize decide (o.tree = zId) = tz at hq3 HZ3
  generalize decide (o.target = zId) = gz at hq7 HZ4
  have E0 := heap_alloc2_old w (.cells cs 42) (.cells (idC zId).toArray 35)
  have E1 := heap_alloc2_new w (.cells cs 42) (.cells (idC zId).toArray 35)
  have RT := Lib.hid (h.F.rtr E0)
  have RG := Lib.hid (h.F.rta E0)
  have RO := Lib.hid (id_rid E1)
  clear E0 E1 h hk
  generalize o.ents.length = ne at c2 HZ2 hel HZ
  generalize o.pars.length = np at c35 HZ3 hpl HZ
  generalize nameOk o.name = nb at HNM HZ
  have hB := ((Below.refl w.heap.size w).alloc (Nat.le_refl _) (.cells cs 42)).alloc (by simp) (.cells (idC zId).toArray 35)
  go_enter Tryd.func33, Tryd.ntmps33
  go_wp2_with (first
    | (go_at_call 52; ((with_reducible refine (HNM.out _).mono ?_); rintro r wx ⟨rfl, rfl⟩))
    | ((with_reducible refine bd_zid ?_ ?_ ?_); rfl; rfl)
    | ((with_reducible refine st_id2 (x := .tmp 3) (y := .tmp 16) (g := w.heap.size + 1) ?_ ?_ ?_ ?_ ?_ ?_ HO.out ?_); rfl; rfl; rfl; rfl; rfl; simp)
    | ((fail_if_success (fail_if_success go_guarded)); (with_reducible refine ldg_idm (x := .tmp 40) ?_ ?_ ?_ RT.out HT.out ?_); rfl; rfl; kernel_rfl)
    | ((fail_if_success (fail_if_success go_guarded)); (with_reducible refine ldg_idm (x := .tmp 3) ?_ ?_ ?_ RO.out HO.out ?_); rfl; rfl; kernel_rfl)
    | ((with_reducible refine ld_idm (x := .tmp 64) ?_ ?_ ?_ RG.out HG.out ?_); rfl; rfl; rfl)
    | ((with_reducible refine ld_idm (x := .tmp 3) ?_ ?_ ?_ RO.out HO.out ?_); rfl; rfl; rfl))
  all_goals first
    | (go_ret
       refine ⟨ret_bool ?_, hB⟩
       rw [HZ.out]
       have e1 := HZ1.out
       have e2 := HZ2.out
       have e3 := HZ3.out
       have e4 := HZ4.out
       simp_all <;> omega)
    | skip
  · go_ret
    refine ⟨ret_bool ?_, hB⟩
    rename_i hx
    have hnb : nb = false := by
      rcases hx with (h | h) | h
      · omega
      · omega
      · simpa using h
    rw [HZ.out, hnb]
    simp
  obtain rfl : ne = 0 := by omega
  go_loop [5] (fun i => i = .int .i64 0) (fun _ => 0)
  case atStart => rfl
  case round =>
    subst hrel
    go_wp2
    go_ret
    refine ⟨ret_bool ?_, hB⟩
    rw [HZ.out]
    have e1 := HZ1.out
    have e2 := HZ2.out
    have e3 := HZ3.out
    have e4 := HZ4.out
    simp_all <;> omega
end Go.Proofs.YtipigedopmgemaaDoor
end

section
namespace Go.Proofs.YtipigedopmgemaaDoor
open Go.RowKit
set_option linter.unusedVariables false
set_option linter.unusedSimpArgs false

theorem flat_get (ls : List (List UInt8 × Int)) (h : ∀ l ∈ ls, l.1.length = 32) : ∀ (i : Nat) (l : List UInt8 × Int), ls[i]? = some l → ∀ (j : Nat) (x : Value), (lkC l)[j]? = some x → (ls.flatMap lkC)[i * 33 + j]? = some x := by
  induction ls with
  | nil => intro i l hi; simp at hi
  | cons a r ih =>
    intro i l hi j x hx
    have ha := lkC_length a
    rw [h a (by simp)] at ha
    rw [List.flatMap_cons]
    cases i with
    | zero =>
      simp at hi; subst hi
      have hj : j < 33 := by
        have := (List.getElem?_eq_some_iff.1 hx).1; omega
      rw [Nat.zero_mul, Nat.zero_add, List.getElem?_append_left (by omega)]
      exact hx
    | succ i =>
      simp at hi
      rw [List.getElem?_append_right (by omega), show (i + 1) * 33 + j - (lkC a).length = i * 33 + j by omega]
      exact ih (fun l hl => h l (by simp [hl])) i l hi j x hx
section
variable {ops : Array Oper} {rest : List Oper} {op : Oper} {a : Act} {w : World} {Q : Exit → Act → World → Prop} {x y : Operand}
end
theorem take_map_succ {α β : Type} (f : α → β) (l : List α) (k : Nat) (e : α) (h : l[k]? = some e) : (l.take (k + 1)).map f = (l.take k).map f ++ [f e] := by
  obtain ⟨hk, rfl⟩ := List.getElem?_eq_some_iff.1 h
  rw [List.take_succ_eq_append_getElem hk, List.map_append]; rfl
theorem news_row {w : World} {g : Nat} {l : List Value} {t : TypeId} (h : w.heap[g]? = some (.cells l.toArray t)) : ∀ j u, l[j]? = some u → w.cell? ((⟨g, 0, none⟩ : Addr).add j) = some u := fun j u hu => by
  rw [Addr.add_mid, Nat.zero_add, cell_of_row _ _ _ _ t (0, 0) h]
  simpa using hu
theorem heap2 (w : World) (A B : Obj) : ((w.alloc A).alloc B).heap[w.heap.size + 1]? = some B := heap_alloc2_new w A B

/-- What an object leads to. -/
def linksL (o : Ob) : List (List UInt8 × Int) := if o.kind = 2 then o.ents.map (fun e => (e.id, e.kind)) else if o.kind = 3 then (o.tree, 2) :: o.pars.map (fun p => (p, 3)) else if o.kind = 4 then [(o.target, o.of)] else []
end Go.Proofs.YtipigedopmgemaaDoor
end

section
namespace Go.Proofs.YtipigedopmgemaaDoor
open Go.RowKit
set_option linter.unusedVariables false
set_option linter.unusedSimpArgs false

theorem still_of {P : Program} {f : FuncId} {args : Array Value} {w : World} {v : Value} (h : Calls P f args w fun e w' => e = .returned v ∧ w = w') : Calls P f args w fun e w' => e = .returned v ∧ w' = w := h.mono fun _ _ ⟨h1, h2⟩ => ⟨h1, h2.symm⟩
theorem region_still {P : Program} {id : Nat} {Q : Exit → Act → World → Prop} {a : Act} {w : World} {l : List Oper} (hm : P.follows .mixedOrders = true) (hB : Region.lexB .any l.toArray = true)
    (h : wpStill P l.toArray w.drew (fun a' => Q .normal a' w.drew) l a) : (Code.region id l.toArray true).wp P Q a w := wp_region_still_lit hm hB h
/-- A link out of wherever, in a region that only reads. -/
theorem still_ld {ops : Array Oper} {w : World} {Q : Act → Prop} {a : Act} {o : Oper} {rest : List Oper} {cs : List Value} {ty : TypeId} {x : Operand} {p : Addr} {d : TypeDesc} (ho : o.op = .load ty x) (hx : a.eval x = .pointer (some p)) (hg : o.guard = none)
    (hc : ∀ j v, cs[j]? = some v → w.cell? (p.add j) = some v) (hu : Tryd.prog.underlying ty = some d) (hd : d.isRow = true) (hi : (Tryd.prog.info? ty).map (·.size) = some cs.length)
    (h : wpStill Tryd.prog ops w Q rest (a.put o.dst (.agg cs.toArray))) : wpStill Tryd.prog ops w Q (o :: rest) a := by
  refine wpStill_step fun K hK => ?_
  rw [if_pos (by simp [Region.wanted, hg])]
  unfold Oper.still execOp
  simp only [ho, hx, Instr.loadAt, Instr.sureAddr, Sem.run_bind, Sem.run_pure, Result.andThen_ok, run_loadVar_at w p ty cs d hc hu hd hi]
  exact ⟨rfl, hK _ h⟩

theorem lk_cells {w : World} {ao : Option Addr} {n cap : Nat} {ls : List (List UInt8 × Int)} (h : RowsAt w (.slice ao n cap) 33 (ls.map lkC)) (i : Nat) (l : List UInt8 × Int) (hi : ls[i]? = some l) :
    ∃ a, ao = some a ∧ ∀ j x, (lkC l)[j]? = some x → w.cell? ((a.add (i * 33)).add j) = some x := by
  obtain ⟨a, h1, _, h3⟩ := h.elem i (lkC l) (by simp [hi])
  exact ⟨a, h1, h3⟩

end Go.Proofs.YtipigedopmgemaaDoor
end
