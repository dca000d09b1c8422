/-
  A ROW OF BYTES THAT A CALL OWNS, made by '[]byte(s)' or by append: what lies behind its bytes may be written, so one byte more can be appended, again and again; and it reads back as a string.
-/
import Derived.Test.YtijlmeodfmanmaaDoorRows
import Derived.WalkKit
import Derived.WalkSpells
import Derived.WalkLawsBesides
import Derived.Lib.Hide
import Derived.Lib.ConvBytes
import Derived.Laws.AppendOwn
import Derived.Laws.IdiomStrings
namespace Go.Proofs.YtijlmeodfmanmaaDoor
open Go.RowKit
set_option linter.unusedVariables false
set_option linter.unusedSimpArgs false

theorem Tryd.infoByte : (Tryd.prog.info? 5).map (fun i => (i.zero, i.size, i.bytes)) = some (some (.int .u8 0), 1, 1) := by kernel_rfl

/-- Bytes as the cells of a row. -/
def cellsOf (l : List UInt8) : List Value := l.map fun b => Value.int .u8 (b.toNat : Int)
theorem cellsOf_length (l : List UInt8) : (cellsOf l).length = l.length := by simp [cellsOf]
theorem cellsOf_snoc (l : List UInt8) (b : UInt8) : cellsOf (l ++ [b]) = cellsOf l ++ [.int .u8 (b.toNat : Int)] := by simp [cellsOf]
theorem cellsOf_get (l : List UInt8) (j : Nat) (hj : j < l.length) : (cellsOf l)[j]? = some (.int .u8 ((l[j]).toNat : Int)) := by simp [cellsOf, hj]

def OwnB (w : World) (base : Nat) (v : Value) (l : List UInt8) : Prop :=
  (v = .slice none 0 0 ∧ l = []) ∨
  ∃ g cap cur fz, v = .slice (some ⟨g, 0, none⟩) l.length cap ∧ base ≤ g ∧ w.heap[g]? = some (.cells cur 5 fz) ∧ (cur.size ≤ fz.1 ∨ fz.2 = 0) ∧ l.length ≤ cap ∧ cap ≤ maxLen ∧ cur.size = cap ∧ cur.toList.take l.length = cellsOf l

theorem OwnB.nil (w : World) (base : Nat) : OwnB w base (.slice none 0 0) [] := .inl ⟨rfl, rfl⟩
/-- What keeps the blocks from base on keeps the row. -/
theorem OwnB.alloc {w : World} {base : Nat} {v : Value} {l : List UInt8} (h : OwnB w base v l) (o : Obj) : OwnB (w.alloc o) base v l := by
  rcases h with h | ⟨g, cap, cur, fz, h1, h2, h3, h4⟩
  · exact .inl h
  · exact .inr ⟨g, cap, cur, fz, h1, h2, (Below.heap_alloc w o g (Array.getElem?_eq_some_iff.1 h3).1).trans h3, h4⟩
theorem OwnB.below {w w' : World} {base B : Nat} {v : Value} {l : List UInt8} (h : OwnB w base v l) (hb : Below w.heap.size w w') : OwnB w' base v l := by
  rcases h with h | ⟨g, cap, cur, fz, h1, h2, h3, h4⟩
  · exact .inl h
  · exact .inr ⟨g, cap, cur, fz, h1, h2, (hb.block g (Array.getElem?_eq_some_iff.1 h3).1).trans h3, h4⟩
theorem OwnB.drew {w : World} {base : Nat} {v : Value} {l : List UInt8} (h : OwnB w base v l) : OwnB w.drew base v l := h
theorem OwnB.form {w : World} {base : Nat} {v : Value} {l : List UInt8} (h : OwnB w base v l) : ∃ p cap, v = .slice p l.length cap := by
  rcases h with ⟨rfl, rfl⟩ | ⟨g, cap, cur, fz, h1, h2, h3, h4⟩
  · exact ⟨_, _, rfl⟩
  · exact ⟨_, _, h1⟩

/-- '[]byte(s)'. -/
theorem OwnB.conv (w : World) (s : ByteArray) (hs : s.size ≤ maxLen) : OwnB (Lib.bytesWorld w 5 s) w.heap.size (.slice (some ⟨w.heap.size, 0, none⟩) s.size (grownCap w s.size 0 5)) s.data.toList := by
  have hge := grownCap_ge w s.size 0 5
  have hsz : (Lib.bytesCells w 5 s).size = grownCap w s.size 0 5 := by simp [Lib.bytesCells]; omega
  refine .inr ⟨w.heap.size, grownCap w s.size 0 5, Lib.bytesCells w 5 s, _, by simp, Nat.le_refl _, Lib.bytesWorld_at_new w 5 s, .inl (Nat.le_refl _), by simpa using hge, grownCap_le_maxLen _ _ _ _ hs, hsz, ?_⟩
  simp [Lib.bytesCells, cellsOf]
theorem below_conv (w : World) (s : ByteArray) : Below w.heap.size w (Lib.bytesWorld w 5 s) :=
  ⟨rfl, rfl, rfl, by rw [Lib.bytesWorld_size]; omega, fun k hk => Lib.bytesWorld_at_old w _ s k hk⟩

theorem frozen_behind {w : World} {g n : Nat} {cur : Array Value} {t : TypeId} {fz : Nat × Nat} (h : w.heap[g]? = some (.cells cur t fz)) (hf : cur.size ≤ fz.1 ∨ fz.2 = 0) (hn : n < cur.size) : w.frozen? ⟨g, n, none⟩ = false := by
  obtain ⟨lo, hi⟩ := fz
  simp only [World.frozen?, h]
  rcases hf with hf | hf
  · have : ¬ lo ≤ n := by simp at hf; omega
    simp [this]
  · have : ¬ n < hi := by simp at hf; omega
    simp [this]

/-- One byte more. -/
theorem run_push (w : World) (base : Nat) (i : TypeInfo) (hi : Tryd.prog.info? 5 = some i) (hz : i.zero = some (.int .u8 0)) (hsize : i.size = 1) (hby : i.bytes = 1) (ty : TypeId)
    (v : Value) (l : List UInt8) (h : OwnB w base v l) (b : UInt8) (ad : Addr) (c : Nat) (hc : w.cell? ad = some (.int .u8 (b.toNat : Int))) (hl : l.length + 1 ≤ 140737488355328) (hbase : base ≤ w.heap.size) :
    ∃ v' w', (Builtin.append_ #[46, 46] ty #[v, .slice (some ad) 1 c]).run Tryd.prog w = .ok v' w' ∧ OwnB w' base v' (l ++ [b]) ∧ (∀ W0, Below base W0 w → Below base W0 w') := by
  have ht := Tryd.underlying46
  have hnews : ∀ j u, [Value.int .u8 (b.toNat : Int)][j]? = some u → w.cell? (ad.add j) = some u := by
    intro j u hj
    match j, hj with
    | 0, hj =>
      simp at hj
      subst hj
      rw [show ad.add 0 = ad by simp [Addr.add]]
      exact hc
    | (j + 1), hj => simp at hj
  have hml : l.length + 1 ≤ maxLen := by unfold maxLen; omega
  rcases h with ⟨rfl, rfl⟩ | ⟨g, cap, cur, fz, rfl, hg, hh, hf, hlc, hcm, hcs, htake⟩
  · obtain ⟨v', w', r1, r2, r3, r4⟩ := run_append_own (P := Tryd.prog) w base 46 ty 5 i (.int .u8 0) 1 1 ht hi hz hsize hby rfl (by decide) (.slice none 0 0) 0 [] ⟨by simp, .inl ⟨rfl, rfl⟩⟩ ad 1 c [.int .u8 (b.toNat : Int)] rfl hnews (by intro u hu; simp at hu; subst hu; rfl) (by decide) (by decide) hbase
    refine ⟨v', w', r1, ?_, fun W0 hb => hb.grown r3 hbase (fun k hk => by simp [Value.ownBlock] at hk)⟩
    rcases r2.2 with ⟨_, h0⟩ | ⟨g, cap, cur, hv, hg, hh, hn, hm, hcs, htk⟩
    · omega
    · exact .inr ⟨g, cap, cur, (0, 0), hv, hg, hh, .inr rfl, hn, hm, by simpa using hcs, by simpa [cellsOf] using htk⟩
  · by_cases hroom : l.length + 1 ≤ cap
    · have hcell : w.cell? ⟨g, l.length, none⟩ = some (cur[l.length]'(by omega)) := by
        rw [cell_of_row w g _ cur _ _ hh]; simp [show l.length < cur.size by omega]
      have hfr := frozen_behind hh hf (n := l.length) (by omega)
      have hfc := run_firstCells_some (P := Tryd.prog) w i.size 1 ad 1 c [.int .u8 (b.toNat : Int)] (by simp [hsize]) hnews
      have hst : (storeCells ⟨g, l.length * i.size, none⟩ [Value.int .u8 (b.toNat : Int)] 0).run Tryd.prog w = .ok () (w.setCell ⟨g, l.length, none⟩ (.int .u8 (b.toNat : Int))) := by
        rw [hsize, Nat.mul_one]
        simp only [storeCells, Sem.run_bind, Addr.add_lit, Nat.add_zero]
        rw [run_store _ _ _ _ _ (by rfl), hcell]
        simp [hfr, Result.andThen]
      refine ⟨.slice (some ⟨g, 0, none⟩) (l.length + 1) cap, w.setCell ⟨g, l.length, none⟩ (.int .u8 (b.toNat : Int)), ?_, ?_, fun W0 hb => hb.setCell hg _⟩
      · simp [Builtin.append_, run_underlying ht, sizeOf, typeInfo, hi, Builtin.lenOf, hroom, hfc, Addr.add_lit, hst]
      · have hset : (w.setCell ⟨g, l.length, none⟩ (.int .u8 (b.toNat : Int))).heap[g]? = some (.cells (cur.setIfInBounds l.length (.int .u8 (b.toNat : Int))) 5 fz) := by
          rw [setCell_eq_setRow w g _ cur _ fz _ hh]; exact setRow_heap w g cur _ _ _ hh
        refine .inr ⟨g, cap, _, fz, by simp, hg, hset, by simpa using hf, by simpa using hroom, hcm, by simpa using hcs, ?_⟩
        rw [cellsOf_snoc, ← htake]
        simp only [Array.toList_setIfInBounds, List.length_append, List.length_singleton]
        rw [List.take_add_one]
        congr 1
        · rw [List.take_set, List.set_eq_of_length_le (by simp; omega)]
        · rw [List.getElem?_set_self (by simp; omega)]; rfl
    · have holds : ∀ j u, (cellsOf l)[j]? = some u → w.cell? ((⟨g, 0, none⟩ : Addr).add j) = some u := by
        intro j u hj
        have hadd : (⟨g, 0, none⟩ : Addr).add j = ⟨g, j, none⟩ := by unfold Addr.add; split <;> simp_all
        rw [hadd, cell_of_row w g j cur _ _ hh]
        rw [← htake, List.getElem?_take] at hj
        split at hj
        · simpa using hj
        · cases hj
      have hr := run_append_grow (P := Tryd.prog) w 46 ty 5 i (.int .u8 0) ht hi hz ⟨g, 0, none⟩ l.length cap (cellsOf l) (by rw [cellsOf_length, hsize, Nat.mul_one]) holds ad 1 c [.int .u8 (b.toNat : Int)] (by simp [hsize]) hnews (by omega) (by unfold maxLen at hml; omega) (growslice_fits (by omega) (by rw [hby]; omega))
      have hge := grownCap_ge w (l.length + 1) cap 5
      refine ⟨_, _, hr, .inr ⟨w.heap.size, _, _, (0, 0), by simp; rfl, hbase, heap_alloc_new w.drew _, .inr rfl, by simpa using hge, grownCap_le_maxLen w _ cap _ hml, ?_, ?_⟩, fun W0 hb => hb.drew.alloc hbase _⟩
      · simp only [Array.size_append, List.size_toArray, size_zeroCells, cellsOf_length, List.length_singleton, show (Value.int .u8 0).cells.size = 1 from rfl]
        omega
      · rw [cellsOf_snoc]
        simp only [Array.toList_append, List.length_append, List.length_singleton]
        rw [← cellsOf_length l, show (cellsOf l).length + 1 = (cellsOf l ++ [Value.int .u8 (b.toNat : Int)]).length by simp]
        exact List.take_left

theorem info_byte : ∃ i, Tryd.prog.info? 5 = some i ∧ i.zero = some (.int .u8 0) ∧ i.size = 1 ∧ i.bytes = 1 := info_parts Tryd.infoByte

/-- 'v = append(v, x)', as the walk meets it. -/
theorem wpList_push {ops : Array Oper} {rest : List Oper} {o : Oper} {a : Act} {Q : Exit → Act → World → Prop} (hgd : o.guard = none) (s x : Operand)
    (ho : o.op = .call { callee := .builtin .append, args := #[s, x], argTypes := #[46, 46] })
    (v : Value) (l : List UInt8) (hs : a.eval s = v) (W0 w0 : World) (n : Int) (b : UInt8) (hn : n = (b.toNat : Int)) (h : OwnB w0 W0.heap.size v l) (hb : Below W0.heap.size W0 w0)
    (hx : a.eval x = .slice (some ⟨w0.heap.size, 0, none⟩) 1 1) (hl : l.length + 1 ≤ 140737488355328)
    (hK : ∀ v' w', OwnB w' W0.heap.size v' (l ++ [b]) → Below W0.heap.size W0 w' → wpList Tryd.prog ops Q rest (a.put o.dst v') w') : wpList Tryd.prog ops Q (o :: rest) a (w0.alloc (.cells #[.int .u8 n] 5)) := by
  subst hn
  obtain ⟨i, hi, hz, h1, h2⟩ := info_byte
  have hbs := hb.size
  obtain ⟨v', w', hr, ho', hb'⟩ := run_push (w0.alloc (.cells #[.int .u8 (b.toNat : Int)] 5)) W0.heap.size i hi hz h1 h2 o.type v l (h.alloc _) b ⟨w0.heap.size, 0, none⟩ 1 (by simp) hl (by simp; omega)
  refine wpList_plain hgd fun K hK' => ?_
  unfold Oper.wp execOp
  simp only [ho, resolve, invoke, builtin, Sem.run_bind, Sem.run_pure, Result.andThen_ok, List.map_toArray, List.map_cons, List.map_nil, hs, hx, hr]
  exact hK' _ _ (hK v' w' ho' (hb' _ (hb.alloc hbs _)))

/-- 'string(v)'. -/
theorem OwnB.back {w : World} {base : Nat} {v : Value} {l : List UInt8} (h : OwnB w base v l) (hl : l ≠ []) : (convert 46 9 v).run Tryd.prog w = .ok (.string ⟨l.toArray⟩) w := by
  rcases h with ⟨_, h0⟩ | ⟨g, cap, cur, fz, rfl, hg, hh, hf, hlc, hcm, hcs, htake⟩
  · exact absurd h0 hl
  · refine run_convert_bytes_back (P := Tryd.prog) w 46 9 5 ⟨g, 0, none⟩ cap l Tryd.underlying46 Tryd.underlying5 Tryd.underlying9 (fun j hj => ?_)
    have hadd : (⟨g, 0, none⟩ : Addr).add j = ⟨g, j, none⟩ := by unfold Addr.add; split <;> simp_all
    have hc := cellsOf_get l j hj
    rw [← htake, List.getElem?_take_of_lt hj] at hc
    rw [hadd, cell_of_row w g j cur _ _ hh]
    simpa using hc

end Go.Proofs.YtijlmeodfmanmaaDoor
