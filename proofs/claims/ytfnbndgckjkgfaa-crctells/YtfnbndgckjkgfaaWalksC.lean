/-
  WALKS OF LAYER 3: a row of bits that a call owns; an append of zeros; the document's own powers (knapsackref03.powers).
-/
import Derived.Test.YtfnbndgckjkgfaaWalksB
import Derived.Laws.OwnMore
import Derived.Lib.AppendZeros
namespace Go.Proofs.Ytfnbndgckjkgfaa
open Go.RowKit
set_option linter.unusedVariables false
set_option linter.unusedSimpArgs false
open Cr (Wd)

/-! ### append(v, make([]T, m)...) onto a row that a call owns -/
theorem toList_zeros (z : Value) (m : Nat) : (Builtin.zeroCells #[z] m).toList = List.replicate m z := by
  apply List.ext_getElem?
  intro j
  by_cases hj : j < m
  · simp [Builtin.zeroCells, hj, Nat.mod_one]
  · simp [Builtin.zeroCells, hj]

theorem run_append_zeros {P : Program} (w : World) (base : Nat) (t tn ty e : TypeId) (i : TypeInfo) (z : Value) (k kn : IntKind) (ht : P.underlying t = some (.slice e)) (htn : P.underlying tn = some (.int kn)) (hi : P.info? e = some i) (hz : i.zero = some z)
    (hsize : i.size = 1) (hby : i.bytes = 1) (hzc : z.cells = #[z]) (hz1 : z.oneCell' = true) (v : Value) (n : Nat) (xs : List Value) (hown : w.ownsRow base e 1 v n xs) (m : Nat) (hm : 0 < m) (hnm : n + m ≤ 1000000) (hbase : base ≤ w.heap.size) :
    ∃ v' w', (Builtin.append_ #[t, tn] ty #[v, .int k m]).run P w = .ok v' w' ∧ w'.ownsRow base e 1 v' (n + m) (xs ++ List.replicate m z) ∧ w.grownBy w' v.ownBlock := by
  have hw : IntKind.i64.wrap (m : Int) = m := by rw [IntKind.wrap_i64]; omega
  have hneg : ¬ ((m : Int) < 0) := by omega
  have h48i : ¬ (281474976710656 < (m : Int)) := by omega
  have hmz : ¬ m = 0 := by omega
  have hlen : (xs ++ List.replicate m z).length = (n + m) * 1 := by rw [List.length_append, hown.1, List.length_replicate]; omega
  rcases hown.2 with ⟨rfl, rfl⟩ | ⟨g, cap, cur, rfl, hbg, hg, hnc, hcm, hcs, htake⟩
  · have hx : xs = [] := List.eq_nil_of_length_eq_zero (by simpa using hown.1)
    subst hx
    have hr := Lib.run_append_nil_zeros (P := P) w t tn ty e i z k kn ht htn hi hz m hm (by omega) (by omega) (by rw [hby]; omega)
    refine ⟨_, _, hr, ?_, ⟨rfl, rfl, rfl, by simp, fun k hk _ => Below.heap_alloc w.drew _ k hk⟩⟩
    have hge := grownCap_ge w m 0 e
    simp only [Nat.zero_add]
    refine ⟨by simp, .inr ⟨w.heap.size, _, _, rfl, hbase, heap_alloc_new w.drew _, hge, grownCap_le_maxLen w m 0 e (by unfold maxLen; omega), ?_, ?_⟩⟩
    · simp only [Array.size_append, size_zeroCells, hzc]
      simp; omega
    · rw [hzc, Array.toList_append, toList_zeros, Nat.mul_one]
      simp
  · by_cases hroom : n + m ≤ cap
    · have hst := run_storeCells_at P g n e (List.replicate m z) 0 cur w hg (by simp; omega) (by intro u hu; rw [List.mem_replicate] at hu; rw [hu.2]; exact hz1)
      simp only [Nat.add_zero] at hst
      refine ⟨.slice (some ⟨g, 0, none⟩) (n + m) cap, w.setRow g (cur.toList.take n ++ List.replicate m z ++ cur.toList.drop (n + (List.replicate m z).length)).toArray, ?_, ⟨hlen, .inr ⟨g, cap, _, rfl, hbg, setRow_heap w g cur _ e _ hg, hroom, hcm, ?_, ?_⟩⟩, ⟨rfl, rfl, rfl, by simp, fun k _ hk => setRow_other w g k _ (fun e => hk (by simp [Value.ownBlock, e]))⟩⟩
      · simp [Builtin.append_, run_underlying ht, run_underlying htn, sizeOf, typeInfo, zeroValue, hi, hz, hsize, hby, hzc, asInt, asIntOf, hw, hmz, hneg, h48i, hroom, toList_zeros, Addr.add_lit, hst]
      · simp; omega
      · have ht' : cur.toList.take n = xs := by simpa using htake
        rw [ht', ← hlen]
        exact List.take_left
    · have holds : ∀ j u, xs[j]? = some u → w.cell? ((⟨g, 0, none⟩ : Addr).add j) = some u := hown.cells (g := g) rfl
      have hfo := run_firstCells_some (P := P) w.drew 1 n ⟨g, 0, none⟩ n cap xs hown.1 (by simpa using holds)
      have h63' : ¬ (9223372036854775807 < ((n : Int) + (m : Int))) := by omega
      have hle := nextslicecap_le (need := n + m) (old := cap) (by omega)
      have h48' : ¬ (281474976710656 < Builtin.nextslicecap (n + m) cap) := by omega
      have hge := grownCap_ge w (n + m) cap e
      refine ⟨.slice (some ⟨w.heap.size, 0, none⟩) (n + m) (grownCap w (n + m) cap e), w.drew.alloc (.cells (xs.toArray ++ Builtin.zeroCells #[z] m ++ Builtin.zeroCells #[z] (grownCap w (n + m) cap e - (n + m))) e), ?_, ⟨hlen, .inr ⟨w.heap.size, _, _, rfl, hbase, heap_alloc_new w.drew _, hge, grownCap_le_maxLen w (n + m) cap e (by unfold maxLen; omega), ?_, ?_⟩⟩, ⟨rfl, rfl, rfl, by simp, fun k hk _ => Below.heap_alloc w.drew _ k hk⟩⟩
      · simp [Builtin.append_, run_underlying ht, run_underlying htn, sizeOf, typeInfo, zeroValue, hi, hz, hsize, hby, hzc, asInt, asIntOf, hw, hmz, hneg, h48i, hroom, h63', h48', Question.forced, hfo, newRow, grownCap]
      · have := hown.1
        simp only [Array.size_append, List.size_toArray, size_zeroCells]
        simp; omega
      · rw [Array.toList_append, Array.toList_append, toList_zeros, toList_zeros, ← hlen]
        exact List.take_left

theorem wpList_append_zeros {P : Program} (w : World) {ops : Array Oper} {rest : List Oper} {o : Oper} {a : Act} {Q : Exit → Act → World → Prop} (hgd : o.guard = none) (s x : Operand) (t tn : TypeId)
    (ho : o.op = .call { callee := .builtin .append, args := #[s, x], argTypes := #[t, tn] }) (base : Nat) (e : TypeId) (i : TypeInfo) (z : Value) (k kn : IntKind) (ht : P.underlying t = some (.slice e)) (htn : P.underlying tn = some (.int kn)) (hi : P.info? e = some i) (hz : i.zero = some z)
    (hsize : i.size = 1) (hby : i.bytes = 1) (hzc : z.cells = #[z]) (hz1 : z.oneCell' = true) (v : Value) (n : Nat) (xs : List Value) (hs : a.eval s = v) (hown : w.ownsRow base e 1 v n xs) (m : Nat) (hx : a.eval x = .int k m) (hm : 0 < m) (hnm : n + m ≤ 1000000) (hbase : base ≤ w.heap.size)
    (h : ∀ v' w', w'.ownsRow base e 1 v' (n + m) (xs ++ List.replicate m z) → w.grownBy w' v.ownBlock → wpList P ops Q rest (a.put o.dst v') w') : wpList P ops Q (o :: rest) a w := by
  obtain ⟨v', w', hr, h2, h3⟩ := run_append_zeros (P := P) w base t tn o.type e i z k kn ht htn hi hz hsize hby hzc hz1 v n xs hown m hm hnm hbase
  exact Lib.wpList_append_run w hgd s x t tn ho v (.int k m) hs hx v' w' hr (h v' w' h2 h3)

/-! ### Rows of bits -/
theorem Try.infoBool : (Try.prog.info? 4).map (fun i => (i.zero, i.size, i.bytes)) = some (some (.bool false), 1, 1) := by kernel_rfl
theorem info_bool : ∃ i, Try.prog.info? 4 = some i ∧ i.zero = some (.bool false) ∧ i.size = 1 ∧ i.bytes = 1 := info_parts Try.infoBool

/-- A row of N bits at g. -/
structure RowN (W wr : World) (g N cap : Nat) (B : List Bool) : Prop where
  own : wr.ownsRow W.heap.size 4 1 (.slice (some ⟨g, 0, none⟩) N cap) N (B.map Value.bool)
  bel : Below W.heap.size W wr

theorem RowN.len {W wr : World} {g N cap : Nat} {B : List Bool} (h : RowN W wr g N cap B) : B.length = N := by
  have := h.own.1; simpa using this
theorem RowN.base {W wr : World} {g N cap : Nat} {B : List Bool} (h : RowN W wr g N cap B) : W.heap.size ≤ g ∧ g < wr.heap.size := h.own.lt g rfl
theorem RowN.cell {W wr : World} {g N cap : Nat} {B : List Bool} (h : RowN W wr g N cap B) (j : Nat) (hj : j < N) : wr.cell? ⟨g, j, none⟩ = some (.bool (Cr.at' B j)) := by
  rw [h.own.cellAt j (by omega), List.getElem?_map, Cr.at', List.getD_eq_getElem?_getD, List.getElem?_eq_getElem (by rw [h.len]; exact hj)]
  rfl
theorem RowN.frozen {W wr : World} {g N cap : Nat} {B : List Bool} (h : RowN W wr g N cap B) (j : Nat) : wr.frozen? ⟨g, j, none⟩ = false := h.own.frozenAt j
theorem RowN.flip {W wr : World} {g N cap : Nat} {B : List Bool} (h : RowN W wr g N cap B) (j : Nat) (b : Bool) (hb : b = !Cr.at' B j) : RowN W (wr.setCell ⟨g, j, none⟩ (.bool b)) g N cap (Cr.flip B j) := by
  subst hb
  refine ⟨?_, h.bel.setCell h.base.1 _⟩
  have := (h.own.stored j (.bool (!Cr.at' B j))).1
  rwa [← List.map_set] at this
theorem RowN.drew {W wr : World} {g N cap : Nat} {B : List Bool} (h : RowN W wr g N cap B) : RowN W wr.drew g N cap B := ⟨h.own, h.bel.drew⟩
theorem RowN.alloc {W wr : World} {g N cap : Nat} {B : List Bool} (h : RowN W wr g N cap B) (o : Obj) : RowN W (wr.alloc o) g N cap B := ⟨h.own.alloc o, h.bel.alloc h.bel.size o⟩

def powC : Array Value := #[.int .i64 26, .int .i64 23, .int .i64 22, .int .i64 16, .int .i64 12, .int .i64 11, .int .i64 10, .int .i64 8, .int .i64 7, .int .i64 5, .int .i64 4, .int .i64 2, .int .i64 1, .int .i64 0]
theorem powC_get (j : Nat) (hj : j < 14) : ∃ p : Nat, p ≤ 26 ∧ powC[j]? = some (.int .i64 (p : Int)) ∧ Cr.powers.take (j + 1) = Cr.powers.take j ++ [p] := by
  have : j = 0 ∨ j = 1 ∨ j = 2 ∨ j = 3 ∨ j = 4 ∨ j = 5 ∨ j = 6 ∨ j = 7 ∨ j = 8 ∨ j = 9 ∨ j = 10 ∨ j = 11 ∨ j = 12 ∨ j = 13 := by omega
  rcases this with rfl | rfl | rfl | rfl | rfl | rfl | rfl | rfl | rfl | rfl | rfl | rfl | rfl | rfl
  · exact ⟨26, by decide, rfl, rfl⟩
  · exact ⟨23, by decide, rfl, rfl⟩
  · exact ⟨22, by decide, rfl, rfl⟩
  · exact ⟨16, by decide, rfl, rfl⟩
  · exact ⟨12, by decide, rfl, rfl⟩
  · exact ⟨11, by decide, rfl, rfl⟩
  · exact ⟨10, by decide, rfl, rfl⟩
  · exact ⟨8, by decide, rfl, rfl⟩
  · exact ⟨7, by decide, rfl, rfl⟩
  · exact ⟨5, by decide, rfl, rfl⟩
  · exact ⟨4, by decide, rfl, rfl⟩
  · exact ⟨2, by decide, rfl, rfl⟩
  · exact ⟨1, by decide, rfl, rfl⟩
  · exact ⟨0, by decide, rfl, rfl⟩

set_option maxHeartbeats 400000 in
set_option maxRecDepth 100000 in
theorem powers_any (w : World) :
    Calls Try.prog 14 #[] w fun r w' => r = .returned (.slice (some ⟨w.heap.size, 0, none⟩) 14 14) ∧ w.alloc (.cells powC 3) = w' := by
  go_enter Try.func14, Try.ntmps14
  go_wp2
  go_ret
  exact ⟨rfl, rfl⟩

end Go.Proofs.Ytfnbndgckjkgfaa
