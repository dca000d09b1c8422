/-
  WALKS OF LAYER 11: the document's With.
-/
import Derived.Test.YtipigedopmgemaaDoorStWith
namespace Go.Proofs.YtipigedopmgemaaDoor
open Go.RowKit
set_option linter.unusedVariables false
set_option linter.unusedSimpArgs false

theorem zeroSt : (Tryd.prog.info? 27).map (fun i => (i.zero, i.size)) = some (some (.agg #[.slice none 0 0]), 1) := by kernel_rfl
theorem underSt : Tryd.prog.underlying 27 = some (.struct (Tryd.prog.fieldsOf 27)) := by kernel_rfl
theorem sizeSt : (Tryd.prog.info? 27).map (·.size) = some 1 := by kernel_rfl
theorem cells3 (w : World) (a b c : Obj) : ((w.alloc a).alloc b).heap.size = w.heap.size + 2 ∧ (((w.alloc a).alloc b).alloc c).heap.size = w.heap.size + 3 := by simp

/-- The three boxes that With makes first. -/
structure Tri (w W : World) (v : Value) : Prop where
  b0 : W.heap[w.heap.size]? = some (.cells #[v] 27)
  b1 : W.heap[w.heap.size + 1]? = some (.cells #[.slice none 0 0] 27)
  b2 : W.heap[w.heap.size + 1 + 1]? = some (.cells (idC zId).toArray 35)
  bel : Below w.heap.size w W
  sz : w.heap.size + 1 + 1 < W.heap.size
theorem Tri.below {w W W' : World} {v : Value} (h : Tri w W v) (hb : Below W.heap.size W W') : Tri w W' v := by
  have := h.sz
  have := hb.size
  exact ⟨(hb.block _ (by omega)).trans h.b0, (hb.block _ (by omega)).trans h.b1, (hb.block _ (by omega)).trans h.b2, h.bel.trans (hb.mono h.bel.size), by omega⟩
theorem Tri.made (w : World) (v : Value) : Tri w (((w.alloc (.cells #[v] 27)).alloc (.cells #[.slice none 0 0] 27)).alloc (.cells (idC zId).toArray 35)) v := by
  refine ⟨?_, ?_, ?_, ((below_new w _).alloc (by simp) _).alloc (by simp; omega) _, by simp⟩
  · rw [(below_new _ _).block _ (by simp; omega), (below_new _ _).block _ (by simp)]
    exact heap_alloc_new _ _
  · rw [(below_new _ _).block _ (by simp)]
    have := heap_alloc_new (w.alloc (.cells #[v] 27)) (.cells #[.slice none 0 0] 27)
    simpa using this
  · have := heap_alloc_new ((w.alloc (.cells #[v] 27)).alloc (.cells #[.slice none 0 0] 27)) (.cells (idC zId).toArray 35)
    simpa using this
theorem Tri.cell {w W : World} {v : Value} (h : Tri w W v) : W.cell? ⟨w.heap.size, 0, none⟩ = some v := by rw [cell_of_row _ _ 0 _ _ _ h.b0]; rfl

theorem st_st {ops : Array Oper} {rest : List Oper} {op : Oper} {a : Act} {w : World} {Q : Exit → Act → World → Prop} {x y : Operand} {g : Nat} {v : Value} {c : Array Value} (ho : op.op = .store 27 x y) (hx : a.eval x = .pointer (some ⟨g, 0, none⟩)) (hy : a.eval y = .agg #[v]) (hg : op.guard = none) (he : w.heap[g]? = some (.cells c 27)) (hc : c.size = 1) (h1 : v.oneCell' = true)
    (h : wpList Tryd.prog ops Q rest (a.put op.dst undef) (w.setRow g #[v])) : wpList Tryd.prog ops Q (op :: rest) a w :=
  wpList_store_row hg 27 x y ho g _ hx hy 27 c he sizeSt (by simp [hc]) (by simp [h1]) h
/-- What With's two stores leave. -/
theorem Tri.stored {w W : World} {u v : Value} {id : List UInt8} (h : Tri w W u) (hl : id.length = 32) :
    ((W.setRow (w.heap.size + 1) #[v]).setRow (w.heap.size + 1 + 1) (idC id).toArray).heap[w.heap.size + 1]? = some (.cells #[v] 27 (0, 0)) ∧
    ((W.setRow (w.heap.size + 1) #[v]).setRow (w.heap.size + 1 + 1) (idC id).toArray).heap[w.heap.size + 1 + 1]? = some (.cells (idC id).toArray 35 (0, 0)) ∧
    Below w.heap.size w ((W.setRow (w.heap.size + 1) #[v]).setRow (w.heap.size + 1 + 1) (idC id).toArray) := by
  refine ⟨?_, ?_, below_setRow (below_setRow h.bel (by omega) _) (by omega) _⟩
  · rw [setRow_other _ _ _ _ (by omega)]
    exact setRow_heap _ _ _ _ _ _ h.b1
  · exact setRow_heap _ _ (idC zId).toArray _ _ _ (by rw [setRow_other _ _ _ _ (by omega)]; exact h.b2)

/-- With of what is no object's encoding. -/
def WithNo (w : World) (v : Value) (r : Ending) (w' : World) : Prop := r = .returned (.tuple #[.agg #[v], .agg (idC zId).toArray, .bool false]) ∧ Below w.heap.size w w'
/-- With of an object's encoding. -/
def WithOk (w : World) (v : Value) (L : List St.It) (s : ByteArray) (r : Ending) (w' : World) : Prop :=
  ∃ v', r = .returned (.tuple #[.agg #[v'], .agg (idC (shaI s)).toArray, .bool true]) ∧ DSt w' v' (St.put L ⟨shaI s, s⟩) ∧ Below w.heap.size w w'

set_option maxHeartbeats 2000000 in
set_option maxRecDepth 100000 in
theorem with_bad (w : World) (v : Value) (L : List St.It) (s : ByteArray) (h : DSt w v L) (hs : s.size ≤ 5000) (hd : Rm.dec s.data.toList = none) :
    Calls Tryd.prog 12 #[.agg #[v], .string s] w (WithNo w v) := by
  obtain ⟨ao, cap, rfl⟩ := h.form
  have hz28 := (zero_of_info zero28).1
  have HS0 := Lib.hid noF.size
  have HN0 := Lib.hid noF.one
  have HD := Lib.hid (fun W => show Calls Tryd.prog 27 #[.string s] W (fun r w' => r = .returned (.tuple #[.agg (obC noOb nilV nilV).toArray, .bool false]) ∧ Below W.heap.size W w') from refdec_no s W hs hd)
  generalize (obC noOb nilV nilV).toArray = z at hz28 HS0 HN0 HD
  clear hd h
  unfold WithNo
  go_enter Tryd.func12, Tryd.ntmps12
  go_wp2_with fail
  change Calls _ _ _ (((w.alloc (.cells #[.slice ao L.length cap] 27)).alloc (.cells #[.slice none 0 0] 27)).alloc (.cells (idC zId).toArray 35)) _
  have HT := Lib.hid (Tri.made w (.slice ao L.length cap))
  generalize ((w.alloc (.cells #[.slice ao L.length cap] 27)).alloc (.cells #[.slice none 0 0] 27)).alloc (.cells (idC zId).toArray 35) = W at *
  refine (HD.out _).mono ?_
  rintro r w1 ⟨rfl, hb1⟩
  have HT1 := Lib.hid (HT.out.below (hb1.alloc hb1.size (.cells z 42)))
  have c0 := HT1.out.cell
  clear hb1 HT
  have HE1 := Lib.hid HT1.out.b1
  have HE2 := Lib.hid (show ((w1.alloc (.cells z 42)).setRow (w.heap.size + 1) #[.slice ao L.length cap]).heap[w.heap.size + 1 + 1]? = some (.cells (idC zId).toArray 35) by rw [setRow_other _ _ _ _ (by omega)]; exact HT1.out.b2)
  go_wp2_with (first
    | ((with_reducible apply st_ob (hs := HS0.out) (h1 := HN0.out)); rfl; rfl; rfl; rfl; exact HS0.out)
    | ((with_reducible refine bd_zid ?_ ?_ ?_); rfl; rfl)
    | ((with_reducible refine st_st (v := .slice ao L.length cap) (x := .tmp 4) (y := .tmp 21) (g := w.heap.size + 1) ?_ ?_ ?_ ?_ HE1.out ?_ ?_ ?_); rfl; rfl; rfl; rfl; rfl; rfl)
    | ((with_reducible refine st_idg (l := zId) (x := .tmp 5) (y := .tmp 22) (g := w.heap.size + 1 + 1) ?_ ?_ ?_ ?_ HE2.out ?_ ?_ ?_); rfl; rfl; rfl; rfl; rfl; rfl))
  obtain ⟨r1, r2, r3⟩ := HT1.out.stored (v := .slice ao L.length cap) (id := zId) rfl
  exact bodyPost_ret (results_three (fn := Tryd.f12) (p := 4) (q := 5) (r := 6) (by rfl) _ _ (w.heap.size + 1) (w.heap.size + 1 + 1) _ _ _ _ _ _ _ _ (by rfl) r1 underSt rfl sizeSt (by rfl) r2 Tryd.underlying35 rfl (by rw [List.size_toArray]; exact idsize rfl)) rfl ⟨rfl, r3⟩

end Go.Proofs.YtipigedopmgemaaDoor
