/-
  WALKS OF LAYER 7: Same (knapsacklaw07), of two rows that hold the same; Put (pkt), Put (knapsackref07).
-/
import Derived.Test.YtdmijinlhiohbaaWalksC
namespace Go.Proofs.Ytdmijinlhiohbaa
open Go.RowKit
set_option linter.unusedVariables false
set_option linter.unusedSimpArgs false
open Pk (Ln)

/-! ### Same -/
theorem part_int (xs : Array Value) (i : Nat) (v : Value) (h : xs[i]? = some v) (w : World) : (part 3 xs i).run Try.prog w = .ok v w := by
  simp [part, Try.isAgg3, h, Result.andThen]
theorem part_string (xs : Array Value) (i : Nat) (v : Value) (h : xs[i]? = some v) (w : World) : (part 9 xs i).run Try.prog w = .ok v w := by
  simp [part, Try.isAgg9, h, Result.andThen]
theorem fieldsLn : (Try.prog.fieldsOf 36).toList.map (fun f => (decide (f.name = "_"), f.type, f.offset)) = [(false, 3, 0), (false, 9, 1)] := by kernel_rfl
theorem eqFields_cons (d : Nat) (xs : Array Value) (f : Field) (fs : List Field) (v : Value) (w : World) (hn : decide (f.name = "_") = false) (hp : (part f.type xs f.offset).run Try.prog w = .ok v w) (he : (Op.equalIn d f.type v v).run Try.prog w = .ok true w)
    (hr : (Op.eqFields d xs xs fs).run Try.prog w = .ok true w) : (Op.eqFields d xs xs (f :: fs)).run Try.prog w = .ok true w := by
  have hn' : f.name ≠ "_" := by simpa using hn
  simp only [Op.eqFields, if_pos hn', Sem.run_bind, hp, he, Result.andThen_ok]
  simpa using hr
theorem two_of {l : List Field} {a b : Bool × TypeId × Nat} (h : l.map (fun f => (decide (f.name = "_"), f.type, f.offset)) = [a, b]) :
    ∃ x y : Field, l = [x, y] ∧ (decide (x.name = "_"), x.type, x.offset) = a ∧ (decide (y.name = "_"), y.type, y.offset) = b := by
  match l, h with
  | [x, y], h => simp only [List.map_cons, List.map_nil, List.cons.injEq, and_true] at h; exact ⟨x, y, rfl, h.1, h.2⟩
theorem underLn : Try.prog.underlying 36 = some (.struct (Try.prog.fieldsOf 36)) := by kernel_rfl
/-- A line is itself. -/
theorem eq_ln (k : Int) (l : ByteArray) (w : World) : (Op.equalIn 10000 36 (.agg #[.int .i64 k, .string l]) (.agg #[.int .i64 k, .string l])).run Try.prog w = .ok true w := by
  obtain ⟨x, y, hl, hx, hy⟩ := two_of fieldsLn
  simp only [Prod.mk.injEq] at hx hy
  rw [show (10000 : Nat) = 9999 + 1 from rfl, run_equalIn_struct w 9999 36 _ _ underLn (by kernel_rfl), hl]
  refine eqFields_cons _ _ _ _ (.int .i64 k) w hx.1 (by rw [hx.2.1, hx.2.2]; exact part_int _ 0 _ rfl w) (by rw [hx.2.1, show (9999 : Nat) = 9998 + 1 from rfl, run_equalIn_int w _ _ _ _ _ _ Try.underlying3]; simp) ?_
  refine eqFields_cons _ _ _ _ (.string l) w hy.1 (by rw [hy.2.1, hy.2.2]; exact part_string _ 1 _ rfl w) (by rw [hy.2.1, show (9999 : Nat) = 9998 + 1 from rfl, run_equalIn_string w _ _ _ _ Try.underlying9]; simp) ?_
  simp [Op.eqFields]
theorem run_loadVar_at {P : Program} (w : World) (a : Addr) (ty : TypeId) (cs : List Value) (d : TypeDesc) (hc : ∀ j v, cs[j]? = some v → w.cell? (a.add j) = some v)
    (hu : P.underlying ty = some d) (hd : d.isRow = true) (hi : (P.info? ty).map (·.size) = some cs.length) :
    (loadVar ty a).run P w = .ok (.agg cs.toArray) w := by
  have hl : (loadCells a cs.length).run P w = .ok cs.toArray w := run_loadCells_list (P := P) w a cs hc
  cases hq : P.info? ty with
  | none => simp [hq] at hi
  | some i =>
    have hs : i.size = cs.length := by simpa [hq] using hi
    have hagg : (isAgg ty).run P w = .ok true w := by
      unfold isAgg
      rw [Sem.run_bind, run_underlying hu w]
      cases d <;> simp_all
    simp [loadVar, Sem.run_bind, hagg, Go.sizeOf, typeInfo, hq, hs, hl]
theorem still_ld {ops : Array Oper} {w : World} {Q : Act → Prop} {a : Act} {o : Oper} {rest : List Oper} {cs : List Value} {ty : TypeId} {x : Operand} {p : Addr} {d : TypeDesc} (ho : o.op = .load ty x) (hx : a.eval x = .pointer (some p)) (hg : o.guard = none)
    (hc : ∀ j v, cs[j]? = some v → w.cell? (p.add j) = some v) (hu : Try.prog.underlying ty = some d) (hd : d.isRow = true) (hi : (Try.prog.info? ty).map (·.size) = some cs.length)
    (h : wpStill Try.prog ops w Q rest (a.put o.dst (.agg cs.toArray))) : wpStill Try.prog ops w Q (o :: rest) a := by
  refine wpStill_step fun K hK => ?_
  rw [if_pos (by simp [Region.wanted, hg])]
  unfold Oper.still execOp
  simp only [ho, hx, Instr.loadAt, Instr.sureAddr, Sem.run_bind, Sem.run_pure, Result.andThen_ok, run_loadVar_at w p ty cs d hc hu hd hi]
  exact ⟨rfl, hK _ h⟩
theorem elem_cells {w : World} {a : Addr} {i : Nat} {e : Ln} (h0 : w.cell? (a.add (i * 2)) = some (.int .i64 e.kind)) (h1 : w.cell? ⟨a.block, a.off + i * 2 + 1, none⟩ = some (.string e.load)) : ∀ j v, (lnC e)[j]? = some v → w.cell? ((a.add (i * 2)).add j) = some v := fun j v hj => by
  match j with
  | 0 => simp [lnC] at hj; subst hj; rw [show (a.add (i * 2)).add 0 = a.add (i * 2) by simp [Addr.add]]; exact h0
  | 1 => simp [lnC] at hj; subst hj; rw [add_add_mid _ _ _ (by decide)]; exact h1
  | j + 2 => simp [lnC] at hj

set_option maxHeartbeats 1000000 in
set_option maxRecDepth 100000 in
theorem same_any (L : List Ln) (va vb : Value) (w : World) (hA : LinesAt w va L) (hB : LinesAt w vb L) (hl : L.length ≤ 3000) :
    Calls Try.prog 15 #[va, vb] w fun r w' => r = .returned (.int .i64 1) ∧ Below w.heap.size w w' := by
  obtain ⟨ao, ca, rfl⟩ := hA.form
  obtain ⟨bo, cb, rfl⟩ := hB.form
  have HA := Lib.hid hA
  have HB := Lib.hid hB
  clear hA hB
  have HU := Lib.hid underLn
  go_enter Try.func15, Try.ntmps15
  go_wp2_with fail
  go_loopw [5] (fun i wr => ∃ (k : Nat), k ≤ L.length ∧ i = .int .i64 k ∧ Below w.heap.size w wr) (fun i _ => L.length - (intOf i).toNat)
  case atStart => exact ⟨0, by omega, rfl, Below.refl _ _⟩
  case round =>
    obtain ⟨k, hk, rfl, hb⟩ := hrel
    by_cases hlt : k < L.length
    · have hlt' : (k : Int) < (L.length : Int) := by omega
      have hk0 : (0 : Int) ≤ (k : Int) := by omega
      obtain ⟨e, he⟩ : ∃ e, L[k]? = some e := ⟨L[k], List.getElem?_eq_getElem hlt⟩
      obtain ⟨a, rfl, a0, a1⟩ := (HA.out.below hb.drew).elem k e he
      obtain ⟨b, rfl, b0, b1⟩ := (HB.out.below hb.drew).elem k e he
      have HC := Lib.hid (elem_cells a0 a1)
      have HE := Lib.hid (elem_cells b0 b1)
      have HI := Lib.hid (show (Try.prog.info? 36).map (·.size) = some (lnC e).length from infoLine)
      have hq := fun W => eq_ln e.kind e.load W
      clear he a0 a1 b0 b1
      go_wp2_with fail
      refine region_still (by kernel_rfl) (by kernel_rfl) ?_
      repeat still_step
      (with_reducible apply still_ld (hc := HC.out) (hu := HU.out) (hi := HI.out))
      rfl
      rfl
      rfl
      rfl
      repeat still_step
      (with_reducible apply still_ld (hc := HE.out) (hu := HU.out) (hi := HI.out))
      rfl
      rfl
      rfl
      rfl
      unfold lnC
      repeat still_step
      refine wpStill_nil ?_
      go_wp2
      go_roundw
      case rel => exact ⟨k + 1, by omega, by go_num, hb.drew⟩
      case measure => simp [intOf]; omega
    · go_wp2
      go_ret
      exact ⟨rfl, hb⟩

/-! ### Put -/
theorem Try.infoByte : (Try.prog.info? 5).map (fun i => (i.zero, i.size, i.bytes)) = some (some (.int .u8 0), 1, 1) := by kernel_rfl
/-- Bytes as the cells of a row. -/
def cellsOf (l : List UInt8) : List Value := l.map fun b => Value.int .u8 (b.toNat : Int)
theorem cellsOf_append (a b : List UInt8) : cellsOf a ++ cellsOf b = cellsOf (a ++ b) := by simp [cellsOf]
theorem strCells_list (s : ByteArray) : Lib.strCells s = cellsOf s.data.toList := by simp [Lib.strCells, cellsOf]
theorem own_ne {w : World} {base e n b t : Nat} {v : Value} {xs : List Value} {cs : Array Value} {fr : Nat × Nat} (h : w.ownsRow base e 1 v n xs) (hb : w.heap[b]? = some (.cells cs t fr)) (ht : t ≠ e) : some b ≠ v.ownBlock := by
  rcases h.2 with ⟨rfl, _⟩ | ⟨g, cap, cur, rfl, _, hh, _⟩
  · simp [Value.ownBlock]
  · intro e1
    simp only [Value.ownBlock, Option.some.injEq] at e1
    subst e1
    rw [hh] at hb
    simp at hb
    exact ht hb.2.1.symm
theorem ret_bytes {w : World} {base : Nat} {v : Value} {l : List UInt8} (h : w.ownsRow base 5 1 v l.length (cellsOf l)) : (convert 46 9 v).run Try.prog w = .ok (.string ⟨l.toArray⟩) w := by
  rcases h.2 with ⟨rfl, h0⟩ | ⟨g, cap, cur, rfl, _⟩
  · obtain rfl : l = [] := List.eq_nil_of_length_eq_zero h0
    simp [convert, run_underlying Try.underlying46, run_underlying Try.underlying9, run_underlying Try.underlying5, Conv.bytesToString, go_sem]
    rfl
  · exact run_convert_bytes_back (P := Try.prog) w 46 9 5 ⟨g, 0, none⟩ cap l Try.underlying46 Try.underlying5 Try.underlying9 (fun j hj => by
      refine h.cells (by rfl) j _ ?_
      simp [cellsOf, hj])
/-- What Put answers. -/
def putV (L : List Ln) : Value := if L.all Pk.fine = true then .tuple #[.string ⟨(L.flatMap Pk.enc).toArray⟩, .int .i64 0] else .tuple #[.string ⟨#[]⟩, .int .i64 1]
def rputV (L : List Ln) : Value := if L.all Pk.fine = true then .tuple #[.string ⟨(L.flatMap Pk.enc).toArray⟩, .bool true] else .tuple #[.string ⟨#[]⟩, .bool false]
theorem all_take (L : List Ln) (k : Nat) (e : Ln) (he : L[k]? = some e) (h : (L.take k).all Pk.fine = true) (hf : Pk.fine e = true) : (L.take (k + 1)).all Pk.fine = true := by
  rw [take_push _ _ _ he, List.all_append, h]; simp [hf]
theorem all_not (L : List Ln) (k : Nat) (e : Ln) (he : L[k]? = some e) (hf : Pk.fine e = false) : L.all Pk.fine = false := by
  rw [List.all_eq_false]
  exact ⟨e, List.mem_of_getElem? he, by simp [hf]⟩
theorem flat_take (L : List Ln) (k : Nat) (e : Ln) (he : L[k]? = some e) : (L.take (k + 1)).flatMap Pk.enc = (L.take k).flatMap Pk.enc ++ Pk.enc e := by
  rw [take_push _ _ _ he, List.flatMap_append]; simp
theorem fine_size {p : Ln} (h : Pk.fine p = true) : p.load.size ≤ 1000 ∧ Pk.hd p < 65536 := by
  rw [Pk.fine_iff] at h
  have h2 : Pk.hd p ≤ 4 + p.load.size := by unfold Pk.hd; split <;> (try split) <;> omega
  omega

section
variable {ops : Array Oper} {rest : List Oper} {op : Oper} {a : Act} {w : World} {Q : Exit → Act → World → Prop} {x : Operand}
theorem ld_at {e : Ln} {p : Addr} {ty : TypeId} {d : TypeDesc} (ho : op.op = .load ty x) (hx : a.eval x = .pointer (some p)) (hg : op.guard = none)
    (hc : ∀ j v, (lnC e)[j]? = some v → w.cell? (p.add j) = some v) (hu : Try.prog.underlying ty = some d) (hd : d.isRow = true) (hi : (Try.prog.info? ty).map (·.size) = some 2)
    (h : wpList Try.prog ops Q rest (a.put op.dst (.agg #[.int .i64 e.kind, .string e.load])) w) : wpList Try.prog ops Q (op :: rest) a w := by
  refine wpList_plain hg fun K hK => ?_
  unfold Oper.wp execOp
  simp only [ho, hx, Instr.loadAt, Instr.sureAddr, Sem.run_bind, Sem.run_pure, Result.andThen_ok, run_loadVar_at w p ty (lnC e) d hc hu hd hi]
  exact hK _ _ h
end
theorem infoPkt : (Try.prog.info? 33).map (·.size) = some 2 := by kernel_rfl

set_option maxHeartbeats 2000000 in
set_option maxRecDepth 100000 in
theorem put_any (v : Value) (L : List Ln) (w : World) (hL : LinesAt w v L) (hl : L.length ≤ 3000) (hm : ∀ e ∈ L, e.load.size ≤ 1100) :
    Calls Try.prog 8 #[v] w fun r w' => r = .returned (putV L) ∧ Below w.heap.size w w' := by
  obtain ⟨ao, cap, rfl⟩ := hL.form
  have HL := Lib.hid hL
  have HM := Lib.hid hm
  clear hL hm
  obtain ⟨i0, hi, hz0, hz1, hz2⟩ := info_parts Try.infoByte
  have HI := Lib.hid infoPkt
  go_enter Try.func8, Try.ntmps8
  go_wp2_with fail
  go_loopw [4, 9] (fun o i wr => ∃ (k : Nat) (acc : List UInt8), k ≤ L.length ∧ i = .int .i64 k ∧ acc.length ≤ 1004 * k ∧ Hid (acc = (L.take k).flatMap Pk.enc) ∧ Hid ((L.take k).all Pk.fine = true) ∧ wr.ownsRow w.heap.size 5 1 o acc.length (cellsOf acc) ∧ Below w.heap.size w wr) (fun _ i _ => L.length - (intOf i).toNat)
  case atStart => exact ⟨0, [], by omega, rfl, by simp, rfl, rfl, World.ownsRow_nil _ _ _ _, Below.refl _ _⟩
  case round =>
    obtain ⟨k, acc, hk, rfl, hal, HA, HF, hown, hb⟩ := hrel
    by_cases hlt : k < L.length
    · have hlt' : (k : Int) < (L.length : Int) := by omega
      have hk0 : (0 : Int) ≤ (k : Int) := by omega
      obtain ⟨e, he⟩ : ∃ e, L[k]? = some e := ⟨L[k], List.getElem?_eq_getElem hlt⟩
      obtain ⟨a, ea, c0, c1⟩ := (HL.out.below hb).elem k e he
      subst ea
      have HC := Lib.hid (elem_cells c0 c1)
      have hsz := HM.out e (List.mem_of_getElem? he)
      have HV := Lib.hid (fun W => valid_any e W (by unfold maxLen; omega))
      have HX := Lib.hid (fun W (hW : Below (wr.alloc (.cells #[.int .i64 e.kind, .string e.load] 33)).heap.size (wr.alloc (.cells #[.int .i64 e.kind, .string e.load] 33)) W) => (hW.block wr.heap.size (by simp)).trans (heap_alloc_new wr (.cells #[.int .i64 e.kind, .string e.load] 33)))
      have HBA := Lib.hid (hb.alloc hb.size (.cells #[.int .i64 e.kind, .string e.load] 33))
      cases hf : Pk.fine e with
      | false =>
        rw [hf] at HV
        have HP := Lib.hid (show putV L = .tuple #[.string ⟨#[]⟩, .int .i64 1] by unfold putV; rw [all_not L k e he hf]; rfl)
        clear he hf c0 c1 HF HA
        unfold lnV at HV
        go_wp2_with ((with_reducible apply ld_at (hc := HC.out) (hi := HI.out)); rfl; rfl; rfl; rfl; rfl)
        refine (HV.out _).mono ?_
        rintro r w1 ⟨rfl, hb1⟩
        go_wp2_with fail
        go_ret2
        exact ⟨by rw [HP.out]; rfl, HBA.out.trans (hb1.mono HBA.out.size)⟩
      | true =>
        rw [hf] at HV
        have hfs := fine_size hf
        have HH := Lib.hid (fun W => head_any e W hfs.1)
        have HT := Lib.hid (fun W => headText_any (Pk.hd e) W hfs.2)
        have HF2 := Lib.hid (all_take L k e he HF.out hf)
        have HA2 := Lib.hid (show acc ++ (figS (Pk.hd e)).data.toList ++ e.load.data.toList = (L.take (k + 1)).flatMap Pk.enc by rw [flat_take L k e he, HA.out, List.append_assoc]; rfl)
        clear he hf c0 c1 HF HA
        unfold lnV at HV HH
        go_wp2_with ((with_reducible apply ld_at (hc := HC.out) (hi := HI.out)); rfl; rfl; rfl; rfl; rfl)
        refine (HV.out _).mono ?_
        rintro r w1 ⟨rfl, hb1⟩
        have ⟨d0, d1⟩ := cells2 (HX.out w1 hb1)
        have HOW := Lib.hid (own_below (hown.alloc (.cells #[.int .i64 e.kind, .string e.load] 33)) hb1)
        have hzz := hb.size
        clear HC
        go_wp2_with fail
        refine (HH.out _).mono ?_
        rintro r w2 ⟨rfl, hb2⟩
        go_wp2_with fail
        refine (HT.out _).mono ?_
        rintro r w3 ⟨rfl, hb3⟩
        have hb12 := below_step hb1 hb2
        have hb13 := below_step hb12 hb3
        have HX3 := Lib.hid (HX.out w3 hb13)
        have hown3 := own_below (own_below HOW.out hb2) hb3
        have hs3 := hb13.size
        have hb03 := HBA.out.trans (hb13.mono HBA.out.size)
        have hs4 := hb03.size
        have h4 := figS_size (Pk.hd e)
        have hsl := size_list (figS (Pk.hd e))
        clear hb1 hb2 hb3 hb12 hb13 HOW hown d0 d1 HV HH HT
        generalize figS (Pk.hd e) = fs at *
        go_wp2_with (at_builtin; refine Lib.wpList_append_own_string _ rfl _ _ 46 9 rfl w.heap.size 5 i0 Try.underlying46 Try.underlying9 hi hz0 hz1 hz2 _ _ _ rfl hown3 fs rfl ?c1 ?c2 ?c3 ?_)
        case c1 => unfold maxLen; omega
        case c2 => omega
        case c3 => omega
        intro v4 w4 hown4 hgrow4 _
        have hb04 := hb03.grown hgrow4 hs4 (fun k hk => (hown3.lt k hk).1)
        have HX4 := Lib.hid ((hgrow4.block wr.heap.size (by simp at hs3; omega) (own_ne hown3 HX3.out (by decide))).trans HX3.out)
        have ⟨d0, d1⟩ := cells2 HX4.out
        rw [strCells_list, cellsOf_append] at hown4
        have hown4' : w4.ownsRow w.heap.size 5 1 v4 (acc ++ fs.data.toList).length (cellsOf (acc ++ fs.data.toList)) := by rw [List.length_append, hsl, h4]; exact hown4
        have hlen4 : (acc ++ fs.data.toList).length ≤ 1004 * k + 4 := by rw [List.length_append, hsl]; omega
        have hs5 := hb04.size
        clear hown3 hgrow4 hown4 hb03 HX3 HX4
        generalize acc ++ fs.data.toList = acc4 at *
        go_wp2_with (at_builtin; refine Lib.wpList_append_own_string _ rfl _ _ 46 9 rfl w.heap.size 5 i0 Try.underlying46 Try.underlying9 hi hz0 hz1 hz2 _ _ _ rfl hown4' e.load rfl ?c1 ?c2 ?c3 ?_)
        case c1 => unfold maxLen; omega
        case c2 => omega
        case c3 => omega
        intro v5 w5 hown5 hgrow5 _
        have hb05 := hb04.grown hgrow5 hs5 (fun k hk => (hown4'.lt k hk).1)
        rw [strCells_list, cellsOf_append] at hown5
        have hsl2 := size_list e.load
        have hown5' : w5.ownsRow w.heap.size 5 1 v5 (acc4 ++ e.load.data.toList).length (cellsOf (acc4 ++ e.load.data.toList)) := by rw [List.length_append, hsl2]; exact hown5
        have hlen5 : (acc4 ++ e.load.data.toList).length ≤ 1004 * (k + 1) := by rw [List.length_append, hsl2]; omega
        have HO5 := Lib.hid hown5'
        clear hown4' hgrow5 hown5 hown5' hb04 d0 d1
        go_wp2_with fail
        go_roundw
        case rel => exact ⟨k + 1, _, by omega, by go_num, hlen5, HA2, HF2, HO5.out, hb05⟩
        case measure => simp [intOf]; omega
    · have HP := Lib.hid (show putV L = .tuple #[.string ⟨acc.toArray⟩, .int .i64 0] by
        have e1 : L.take k = L := List.take_of_length_le (by omega)
        have h1 := HF.out
        have h2 := HA.out
        rw [e1] at h1 h2
        unfold putV; rw [if_pos h1, h2])
      have hcv := ret_bytes hown
      clear hown HF HA
      go_wp2_with fail
      go_ret2
      exact ⟨by rw [HP.out]; rfl, hb⟩

set_option maxHeartbeats 2000000 in
set_option maxRecDepth 100000 in
theorem refput_any (v : Value) (L : List Ln) (w : World) (hL : LinesAt w v L) (hl : L.length ≤ 3000) (hm : ∀ e ∈ L, e.load.size ≤ 1100) :
    Calls Try.prog 9 #[v] w fun r w' => r = .returned (rputV L) ∧ Below w.heap.size w w' := by
  obtain ⟨ao, cap, rfl⟩ := hL.form
  have HL := Lib.hid hL
  have HM := Lib.hid hm
  clear hL hm
  have HI := Lib.hid infoLine
  go_enter Try.func9, Try.ntmps9
  go_wp2_with fail
  go_loopw [4, 5] (fun o i wr => ∃ (k : Nat) (acc : ByteArray), k ≤ L.length ∧ i = .int .i64 k ∧ o = .string acc ∧ acc.size ≤ 1004 * k ∧ Hid (acc.data.toList = (L.take k).flatMap Pk.enc) ∧ Hid ((L.take k).all Pk.fine = true) ∧ Below w.heap.size w wr) (fun _ i _ => L.length - (intOf i).toNat)
  case atStart => exact ⟨0, ⟨#[]⟩, by omega, rfl, rfl, by decide, rfl, rfl, Below.refl _ _⟩
  case round =>
    obtain ⟨k, acc, hk, rfl, rfl, hal, HA, HF, hb⟩ := hrel
    by_cases hlt : k < L.length
    · have hlt' : (k : Int) < (L.length : Int) := by omega
      have hk0 : (0 : Int) ≤ (k : Int) := by omega
      obtain ⟨e, he⟩ : ∃ e, L[k]? = some e := ⟨L[k], List.getElem?_eq_getElem hlt⟩
      obtain ⟨a, ea, c0, c1⟩ := (HL.out.below hb).elem k e he
      subst ea
      have HC := Lib.hid (elem_cells c0 c1)
      have hsz := HM.out e (List.mem_of_getElem? he)
      have HV := Lib.hid (fun W => fine_any e W (by unfold maxLen; omega))
      have HX := Lib.hid (fun W (q : Below w.heap.size w W) => (by
        obtain ⟨a', e', q0, q1⟩ := (HL.out.below q).elem k e he
        cases e'
        exact elem_cells q0 q1 : ∀ j v, (lnC e)[j]? = some v → W.cell? ((a.add (k * 2)).add j) = some v))
      cases hf : Pk.fine e with
      | false =>
        rw [hf] at HV
        have HP := Lib.hid (show rputV L = .tuple #[.string ⟨#[]⟩, .bool false] by unfold rputV; rw [all_not L k e he hf]; rfl)
        clear he hf c0 c1 HF HA
        unfold lnV at HV
        go_wp2_with ((with_reducible apply ld_at (hc := HC.out) (hi := HI.out)); rfl; rfl; rfl; rfl; rfl)
        refine (HV.out _).mono ?_
        rintro r w1 ⟨rfl, hb1⟩
        go_wp2_with fail
        go_ret2
        exact ⟨by rw [HP.out]; rfl, below_step hb hb1⟩
      | true =>
        rw [hf] at HV
        have hfs := fine_size hf
        have HH := Lib.hid (fun W => bytes_any e W hf)
        have HF2 := Lib.hid (all_take L k e he HF.out hf)
        have HA2 := Lib.hid (show (acc ++ encS e).data.toList = (L.take (k + 1)).flatMap Pk.enc by rw [flat_take L k e he, data_append, HA.out]; rfl)
        have h4 := encS_size e
        have hss : ¬ 9223372036854775807 < acc.size + (encS e).size := by omega
        have hs6 : (acc ++ encS e).size ≤ 1004 * (k + 1) := by rw [ByteArray.size_append]; omega
        clear he hf c0 c1 HF HA h4
        unfold lnV at HV HH
        generalize encS e = es at *
        go_wp2_with ((with_reducible apply ld_at (hc := HC.out) (hi := HI.out)); rfl; rfl; rfl; rfl; rfl)
        refine (HV.out _).mono ?_
        rintro r w1 ⟨rfl, hb1⟩
        have hb01 := below_step hb hb1
        have HC1 := Lib.hid (HX.out _ hb01)
        clear HC hb1
        go_wp2_with ((with_reducible apply ld_at (hc := HC1.out) (hi := HI.out)); rfl; rfl; rfl; rfl; rfl)
        refine (HH.out _).mono ?_
        rintro r w2 ⟨rfl, hb2⟩
        have hb02 := below_step hb01 hb2
        clear HC1 hb2
        go_wp2_with fail
        go_roundw
        case rel => exact ⟨k + 1, _, by omega, by go_num, rfl, hs6, HA2, HF2, hb02⟩
        case measure => simp [intOf]; omega
    · have HP := Lib.hid (show rputV L = .tuple #[.string acc, .bool true] by
        have e1 : L.take k = L := List.take_of_length_le (by omega)
        have h1 := HF.out
        have h2 := HA.out
        rw [e1] at h1 h2
        unfold rputV; rw [if_pos h1, ← h2])
      clear HF HA
      go_wp2_with fail
      go_ret2
      exact ⟨by rw [HP.out]; try rfl, hb⟩

end Go.Proofs.Ytdmijinlhiohbaa
