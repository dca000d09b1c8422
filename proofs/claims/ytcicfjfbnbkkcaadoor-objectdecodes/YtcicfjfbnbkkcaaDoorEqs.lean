/-
  LAYER 4: '==' of ids, entries and links; an id's bytes as a string; loads out of the middle of a block.
-/
import Derived.Test.YtcicfjfbnbkkcaaDoorOb
namespace Go.Proofs.YtcicfjfbnbkkcaaDoor
open Go.RowKit
set_option linter.unusedVariables false
set_option linter.unusedSimpArgs false

theorem info_byte : ∃ i, Tryd.prog.info? 5 = some i ∧ i.zero = some (.int .u8 0) ∧ i.size = 1 ∧ i.bytes = 1 := info_parts Tryd.infoByte
theorem cells_byte : Tryd.prog.cellsOf 5 = 1 := by kernel_rfl
theorem part_byte (xs : Array Value) (i : Nat) (v : Value) (h : xs[i]? = some v) (w : World) : (part 5 xs (i * 1)).run Tryd.prog w = .ok v w := by
  simp [part, Tryd.isAgg5, h, Result.andThen]
theorem idC_get (l : List UInt8) (i : Nat) (h : i < l.length) : (idC l).toArray[i]? = some (.int .u8 ((l.getD i 0).toNat : Int)) := by
  simp [idC, bv, h]
theorem eqItems_ids (d : Nat) (a b : List UInt8) (w : World) : ∀ is : List Nat, (∀ i ∈ is, i < a.length ∧ i < b.length) → (Op.eqItems (d + 1) 5 1 (idC a).toArray (idC b).toArray is).run Tryd.prog w = .ok (is.all fun i => a.getD i 0 == b.getD i 0) w
  | [], _ => by simp [Op.eqItems]
  | i :: is, h => by
    have ih := eqItems_ids d a b w is (fun j hj => h j (by simp [hj]))
    simp only [Op.eqItems, Sem.run_bind, part_byte _ i _ (idC_get a i (h i (by simp)).1), part_byte _ i _ (idC_get b i (h i (by simp)).2), Result.andThen_ok, run_equalIn_int w d 5 .u8 .u8 _ _ Tryd.underlying5]
    have e : (((a.getD i 0).toNat : Int) == ((b.getD i 0).toNat : Int)) = (a.getD i 0 == b.getD i 0) := by
      rw [Bool.eq_iff_iff, beq_iff_eq, beq_iff_eq, ← UInt8.toNat_inj]; omega
    rw [e, List.all_cons]
    cases (a.getD i 0 == b.getD i 0)
    · simp
    · simpa using ih
theorem ids_all (a b : List UInt8) (ha : a.length = 32) (hb : b.length = 32) : ((List.range 32).all fun i => a.getD i 0 == b.getD i 0) = decide (a = b) := by
  rw [Bool.eq_iff_iff, List.all_eq_true, decide_eq_true_iff]
  constructor
  · intro h
    apply List.ext_getElem?
    intro i
    by_cases hi : i < 32
    · have := h i (by simpa using hi)
      simpa [List.getD_eq_getElem?_getD, List.getElem?_eq_getElem (show i < a.length by omega), List.getElem?_eq_getElem (show i < b.length by omega)] using this
    · rw [List.getElem?_eq_none (by omega), List.getElem?_eq_none (by omega)]
  · rintro rfl i _
    simp
/-- '==' of two ids. -/
theorem eq_ids (a b : List UInt8) (ha : a.length = 32) (hb : b.length = 32) (d : Nat) (w : World) : (Op.equalIn (d + 1 + 1) 25 (.agg (idC a).toArray) (.agg (idC b).toArray)).run Tryd.prog w = .ok (decide (a = b)) w := by
  obtain ⟨i, hi, _⟩ := info_byte
  rw [run_equalIn_array w (d + 1) _ _ Tryd.underlying25 hi, cells_byte, eqItems_ids d a b w _ (fun j hj => by have := List.mem_range.1 hj; omega), ids_all a b ha hb]
theorem eq_id (a b : List UInt8) (ha : a.length = 32) (hb : b.length = 32) (w : World) : (Op.equalIn 10000 25 (.agg (idC a).toArray) (.agg (idC b).toArray)).run Tryd.prog w = .ok (decide (a = b)) w := eq_ids a b ha hb 9998 w

def lkC (l : List UInt8 × Int) : List Value := idC l.1 ++ [.int .i64 l.2]
theorem lkC_length (l : List UInt8 × Int) : (lkC l).length = l.1.length + 1 := by simp [lkC, idC]
theorem lkC_one (l : List UInt8 × Int) : ∀ v ∈ lkC l, v.oneCell' = true := by
  intro v hv; simp only [lkC, List.mem_append, List.mem_singleton] at hv
  rcases hv with h | rfl
  · exact idC_one _ _ h
  · rfl
theorem enC_one (e : En) : ∀ v ∈ enC e, v.oneCell' = true := by
  intro v hv; simp only [enC, List.mem_cons] at hv
  rcases hv with rfl | rfl | h
  · rfl
  · rfl
  · exact idC_one _ _ h

theorem part_id (xs : Array Value) (off : Nat) (w : World) : (part 25 xs off).run Tryd.prog w = .ok (.agg (xs.extract off (off + 32))) w := by
  have h1 : (isAgg 25).run Tryd.prog w = .ok true w := by
    unfold isAgg; rw [Sem.run_bind, run_underlying Tryd.underlying25 w]; simp
  cases hq : Tryd.prog.info? 25 with
  | none => have := info24; simp [hq] at this
  | some i =>
    have hs : i.size = 32 := by have := info24; simpa [hq] using this
    simp [part, Sem.run_bind, h1, Go.sizeOf, typeInfo, hq, hs]
theorem part_int (xs : Array Value) (i : Nat) (v : Value) (h : xs[i]? = some v) (w : World) : (part 3 xs i).run Tryd.prog w = .ok v w := by
  simp [part, Tryd.isAgg3, h, Result.andThen]
theorem part_string (xs : Array Value) (i : Nat) (v : Value) (h : xs[i]? = some v) (w : World) : (part 9 xs i).run Tryd.prog w = .ok v w := by
  simp [part, Tryd.isAgg9, h, Result.andThen]

theorem fields45 : (Tryd.prog.fieldsOf 52).toList.map (fun f => (decide (f.name = "_"), f.type, f.offset)) = [(false, 9, 0), (false, 3, 1), (false, 25, 2)] := by kernel_rfl
theorem eqFields_cons (d : Nat) (xs : Array Value) (f : Field) (fs : List Field) (v : Value) (w : World) (hn : decide (f.name = "_") = false) (hp : (part f.type xs f.offset).run Tryd.prog w = .ok v w) (he : (Op.equalIn d f.type v v).run Tryd.prog w = .ok true w)
    (hr : (Op.eqFields d xs xs fs).run Tryd.prog w = .ok true w) : (Op.eqFields d xs xs (f :: fs)).run Tryd.prog w = .ok true w := by
  have hn' : f.name ≠ "_" := by simpa using hn
  simp only [Op.eqFields, if_pos hn', Sem.run_bind, hp, he, Result.andThen_ok]
  simpa using hr
theorem three_of {l : List Field} {a b c : Bool × TypeId × Nat} (h : l.map (fun f => (decide (f.name = "_"), f.type, f.offset)) = [a, b, c]) :
    ∃ x y z : Field, l = [x, y, z] ∧ (decide (x.name = "_"), x.type, x.offset) = a ∧ (decide (y.name = "_"), y.type, y.offset) = b ∧ (decide (z.name = "_"), z.type, z.offset) = c := by
  match l, h with
  | [x, y, z], h => simp only [List.map_cons, List.map_nil, List.cons.injEq, and_true] at h; exact ⟨x, y, z, rfl, h.1, h.2.1, h.2.2⟩
theorem two_of {l : List Field} {a b : Bool × TypeId × Nat} (h : l.map (fun f => (decide (f.name = "_"), f.type, f.offset)) = [a, b]) :
    ∃ x y : Field, l = [x, y] ∧ (decide (x.name = "_"), x.type, x.offset) = a ∧ (decide (y.name = "_"), y.type, y.offset) = b := by
  match l, h with
  | [x, y], h => simp only [List.map_cons, List.map_nil, List.cons.injEq, and_true] at h; exact ⟨x, y, rfl, h.1, h.2⟩
theorem under45 : Tryd.prog.underlying 52 = some (.struct (Tryd.prog.fieldsOf 52)) := by kernel_rfl
theorem ext_en (e : En) (h : e.id.length = 32) : (enC e).toArray.extract 2 (2 + 32) = (idC e.id).toArray := by
  apply Array.ext'
  simp only [Array.toList_extract, List.extract_eq_take_drop, enC]
  simp [List.take_of_length_le, idC_length, h]
theorem ext_lk (l : List UInt8 × Int) (h : l.1.length = 32) : (lkC l).toArray.extract 0 (0 + 32) = (idC l.1).toArray := by
  apply Array.ext'
  simp only [Array.toList_extract, List.extract_eq_take_drop, lkC]
  simp [List.take_append_of_le_length, idC_length, h]
/-- An entry is itself. -/
theorem eq_en (e : En) (h : e.id.length = 32) (w : World) : (Op.equalIn 10000 52 (.agg (enC e).toArray) (.agg (enC e).toArray)).run Tryd.prog w = .ok true w := by
  obtain ⟨x, y, z, hl, hx, hy, hz⟩ := three_of fields45
  simp only [Prod.mk.injEq] at hx hy hz
  rw [show (10000 : Nat) = 9999 + 1 from rfl, run_equalIn_struct w 9999 52 _ _ under45 (by kernel_rfl), hl]
  refine eqFields_cons _ _ _ _ (.string e.name) w hx.1 (by rw [hx.2.1, hx.2.2]; exact part_string _ 0 _ rfl w) (by rw [hx.2.1, show (9999 : Nat) = 9998 + 1 from rfl, run_equalIn_string w _ _ _ _ Tryd.underlying9]; simp) ?_
  refine eqFields_cons _ _ _ _ (.int .i64 e.kind) w hy.1 (by rw [hy.2.1, hy.2.2]; exact part_int _ 1 _ rfl w) (by rw [hy.2.1, show (9999 : Nat) = 9998 + 1 from rfl, run_equalIn_int w _ _ _ _ _ _ Tryd.underlying3]; simp) ?_
  refine eqFields_cons _ _ _ _ (.agg (idC e.id).toArray) w hz.1 (by rw [hz.2.1, hz.2.2, part_id, ext_en e h]) (by rw [hz.2.1, show (9999 : Nat) = 9997 + 1 + 1 from rfl, eq_ids _ _ h h]; simp) ?_
  simp [Op.eqFields]
/-- An id in memory, as a string. -/
theorem conv_id (w : World) (a : Addr) (l : List UInt8) (h : l.length = 32) (hc : ∀ j v, (idC l)[j]? = some v → w.cell? (a.add j) = some v) :
    (convert 55 9 (.slice (some a) 32 32)).run Tryd.prog w = .ok (.string ⟨l.toArray⟩) w := by
  have := run_convert_bytes_back (P := Tryd.prog) w 55 9 5 a 32 l Tryd.underlying55 Tryd.underlying5 Tryd.underlying9 (fun j hj => hc j _ (by simp [idC, bv, hj]))
  rwa [h] at this

/-- The goal is a list of operations (asked ahead of a load's law: held against a call it would not end). -/
theorem at_wl {P : Program} {ops : Array Oper} {l : List Oper} {a : Act} {w : World} {Q : Exit → Act → World → Prop} (h : wpList P ops Q l a w) : wpList P ops Q l a w := h
theorem loadAt_row {P : Program} (w : World) (g : Nat) (t ty : TypeId) (cs : Array Value) (d : TypeDesc) (hg : w.heap[g]? = some (.cells cs t))
    (hu : P.underlying ty = some d) (hd : (match d with | .struct _ | .array _ _ => true | _ => false) = true) (hi : (P.info? ty).map (·.size) = some cs.size) :
    (Instr.loadAt ty (.pointer (some ⟨g, 0, none⟩))).run P w = .ok (.agg cs) w := by
  simp only [Instr.loadAt, Instr.sureAddr, Sem.run_bind, Sem.run_pure, Result.andThen]
  exact run_loadVar_row w g t ty cs _ d hg hu hd hi
theorem wpList_load_mid_g {P : Program} {ops : Array Oper} {rest : List Oper} {op : Oper} {a : Act} {w : World} {Q : Exit → Act → World → Prop} (hw : Region.wanted op (yielded ops a.tmps) = true) (ty : TypeId) (x : Operand) (ho : op.op = .load ty x)
    (b o : Nat) (hx : a.eval x = .pointer (some ⟨b, o, none⟩)) (cs : List Value) (d : TypeDesc) (hc : w.rangeAt b o cs)
    (hu : P.underlying ty = some d) (hd : d.isRow = true) (hi : (P.info? ty).map (·.size) = some cs.length)
    (h : wpList P ops Q rest (a.put op.dst (.agg cs.toArray)) w) : wpList P ops Q (op :: rest) a w :=
  wpList_step fun K hK => by rw [if_pos hw]; exact wp_load_mid ty x ho b o hx cs d hc hu hd hi (hK _ _ h)
/-- A whole array out of a block that is known, behind a guard that is met. -/
theorem wpList_load_row_g {P : Program} {ops : Array Oper} {rest : List Oper} {o : Oper} {a : Act} {w : World} {Q : Exit → Act → World → Prop} (hw : Region.wanted o (yielded ops a.tmps) = true) (ty : TypeId) (x : Operand) (ho : o.op = .load ty x)
    (g : Nat) (hx : a.eval x = .pointer (some ⟨g, 0, none⟩)) (t : TypeId) (cs : Array Value) (fr : Nat × Nat) (d : TypeDesc) (hg : w.heap[g]? = some (.cells cs t fr))
    (hu : P.underlying ty = some d) (hd : (match d with | .struct _ | .array _ _ => true | _ => false) = true) (hi : (P.info? ty).map (·.size) = some cs.size)
    (h : wpList P ops Q rest (a.put o.dst (.agg cs)) w) : wpList P ops Q (o :: rest) a w :=
  wpList_step fun K hK => by rw [if_pos hw]; exact wp_load_row ty x ho g hx t cs fr d hg hu hd hi (hK _ _ h)
/-- A variable of several cells at whatever address. -/
theorem run_loadVar_at {P : Program} (w : World) (a : Addr) (ty : TypeId) (cs : List Value) (d : TypeDesc) (hc : ∀ j v, cs[j]? = some v → w.cell? (a.add j) = some v)
    (hu : P.underlying ty = some d) (hd : d.isRow = true) (hi : (P.info? ty).map (·.size) = some cs.length) :
    (loadVar ty a).run P w = .ok (.agg cs.toArray) w := by
  have hl : (loadCells a cs.length).run P w = .ok cs.toArray w := run_loadCells_list (P := P) w a cs hc
  cases hq : P.info? ty with
  | none => simp [hq] at hi
  | some i =>
    have hs : i.size = cs.length := by simpa [hq] using hi
    have hagg : (isAgg ty).run P w = .ok true w := by
      unfold isAgg
      rw [Sem.run_bind, run_underlying hu w]
      cases d <;> simp_all
    simp [loadVar, Sem.run_bind, hagg, Go.sizeOf, typeInfo, hq, hs, hl]
theorem wp_load_at {P : Program} {op : Oper} {a : Act} {w : World} {K : Act → World → Prop} {Q : Exit → Act → World → Prop} (ty : TypeId) (x : Operand) (ho : op.op = .load ty x)
    (p : Addr) (hx : a.eval x = .pointer (some p)) (cs : List Value) (d : TypeDesc) (hc : ∀ j v, cs[j]? = some v → w.cell? (p.add j) = some v)
    (hu : P.underlying ty = some d) (hd : d.isRow = true) (hi : (P.info? ty).map (·.size) = some cs.length)
    (h : K (a.put op.dst (.agg cs.toArray)) w) : op.wp P a w K Q := by
  unfold Oper.wp execOp
  simp only [ho, hx, Instr.loadAt, Instr.sureAddr, Sem.run_bind, Sem.run_pure, Result.andThen_ok, run_loadVar_at w p ty cs d hc hu hd hi]
  exact h
theorem wpList_load_at {P : Program} {ops : Array Oper} {rest : List Oper} {op : Oper} {a : Act} {w : World} {Q : Exit → Act → World → Prop} (hgd : op.guard = none) (ty : TypeId) (x : Operand) (ho : op.op = .load ty x)
    (p : Addr) (hx : a.eval x = .pointer (some p)) (cs : List Value) (d : TypeDesc) (hc : ∀ j v, cs[j]? = some v → w.cell? (p.add j) = some v)
    (hu : P.underlying ty = some d) (hd : d.isRow = true) (hi : (P.info? ty).map (·.size) = some cs.length)
    (h : wpList P ops Q rest (a.put op.dst (.agg cs.toArray)) w) : wpList P ops Q (op :: rest) a w :=
  wpList_plain hgd fun _ hK => wp_load_at ty x ho p hx cs d hc hu hd hi (hK _ _ h)
/-- An aggregate, built: its cells under a name. -/
theorem wpList_build_as {P : Program} {ops : Array Oper} {rest : List Oper} {o : Oper} {a : Act} {w : World} {Q : Exit → Act → World → Prop} (hg : o.guard = none) (t : TypeId) (parts : Array (Nat × Operand)) (ho : o.op = .build t parts) (cs : Array Value)
    (hb : P.built t (parts.map fun (i, x) => (i, a.eval x)).toList = some cs) (h : wpList P ops Q rest (a.put o.dst (.agg cs)) w) : wpList P ops Q (o :: rest) a w := by
  refine wpList_build hg t parts ho (by rw [hb]; rfl) ?_
  rw [hb]
  exact h

theorem ObF.rta {cs : Array Value} {o : Ob} {ev pv : Value} (F : ObF cs o ev pv) {w : World} {g : Nat} {t : TypeId} (h : w.heap[g]? = some (.cells cs t)) : w.rangeAt g 38 (idC o.target) := fun j v hv => by
  rw [cell_of_row _ _ _ cs t (0, 0) h]; exact F.ta j v hv
theorem ObF.rtr {cs : Array Value} {o : Ob} {ev pv : Value} (F : ObF cs o ev pv) {w : World} {g : Nat} {t : TypeId} (h : w.heap[g]? = some (.cells cs t)) : w.rangeAt g 3 (idC o.tree) := fun j v hv => by
  rw [cell_of_row _ _ _ cs t (0, 0) h]; exact F.tr j v hv
theorem idsize {l : List UInt8} (h : l.length = 32) : (Tryd.prog.info? 25).map (·.size) = some (idC l).length := by rw [idC_length, h]; exact info24
theorem obsize {cs : Array Value} (h : cs.size = 72) : (Tryd.prog.info? 29).map (·.size) = some cs.size := by rw [h]; exact info28

end Go.Proofs.YtcicfjfbnbkkcaaDoor
