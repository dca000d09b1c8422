/-
  ROWS OF LINES (layer 8): what wip/l07 has of them: a slice of lines in memory, a row that a call has made; As and Same (knapsacklaw07).
-/
import Derived.Test.YtaaemdmeicjnbaaRows
import Derived.Test.YtaaemdmeicjnbaaMath
import Derived.WalkKit
import Derived.WalkSpells
import Derived.WalkLawsBesides
import Derived.WalkSmall
import Derived.Lib.Hide
import Derived.Deep.QuietTactic
import Derived.BigQuiet
import Derived.BigRegion
import Derived.IntWalk
import Derived.OwnWalk
import Derived.Laws.Rows
import Derived.Laws.CopyOwn
import Derived.Deep.WholeRow
import Derived.Deep.Heap
import Derived.Lib.ConvBytes
import Derived.Deep.RegionWith
import Derived.Deep.RegionHeld3
import Derived.Deep.RegionLaw
import Derived.StillTailTactics
import Derived.Lib.AppendStr
import Derived.Deep.AppendLies
namespace Go.Proofs.Ytaaemdmeicjnbaa
open Go.RowKit
set_option linter.unusedVariables false
set_option linter.unusedSimpArgs false
open Pk (Ln)

theorem ret_str {a b : ByteArray} (h : a = b) : Ending.returned (.string a) = .returned (.string b) := by rw [h]
theorem ret_bool {a b : Bool} (h : a = b) : Ending.returned (.bool a) = .returned (.bool b) := by rw [h]
theorem ret_int {k : IntKind} {a b : Int} (h : a = b) : Ending.returned (.int k a) = .returned (.int k b) := by rw [h]
theorem ret_tuple2 {a a' b b' : Value} (h1 : a = a') (h2 : b = b') : Ending.returned (.tuple #[a, b]) = .returned (.tuple #[a', b']) := by rw [h1, h2]
theorem val_str {a b : ByteArray} (h : a = b) : Value.string a = .string b := by rw [h]
theorem val_int {k : IntKind} {a b : Int} (h : a = b) : Value.int k a = .int k b := by rw [h]
theorem below_step {w w1 w2 : World} (h1 : Below w.heap.size w w1) (h2 : Below w1.heap.size w1 w2) : Below w.heap.size w w2 := h1.trans (h2.mono h1.size)
theorem below_new (w : World) (o : Obj) : Below w.heap.size w (w.alloc o) := (Below.refl _ _).alloc (Nat.le_refl _) _
theorem size_list (b : ByteArray) : b.data.toList.length = b.size := rfl
theorem list_ne {x : ByteArray} (h : ¬ x = ByteArray.empty) : x.data.toList ≠ [] := fun e => h (by
  cases x with | mk d => cases d with | mk l => simp at e; subst e; rfl)
theorem size_ne {x : ByteArray} (h : ¬ x = ByteArray.empty) : 0 < x.size := by
  have := list_ne h
  have h2 := size_list x
  have : x.data.toList.length ≠ 0 := fun e => this (List.eq_nil_of_length_eq_zero e)
  omega
theorem not_empty {x : ByteArray} (h : ¬ x = ByteArray.empty) : (!x.toList.isEmpty) = true := by
  have := list_ne h
  rw [ByteArray.toList_eq]
  simpa using this
theorem data_append (a b : ByteArray) : (a ++ b).data.toList = a.data.toList ++ b.data.toList := by rw [ByteArray.data_append]; simp
theorem held_set {wr : World} {g : Nat} {cs : Array Value} {t : TypeId} (h : wr.heap[g]? = some (.cells cs t)) (i : Nat) (v : Value) : (wr.setCell ⟨g, i, none⟩ v).heap[g]? = some (.cells (cs.setIfInBounds i v) t) := heap_setCell_same wr g i cs t v h
theorem getD_byte (b : ByteArray) (j : Nat) (hj : j < b.size) : b.data.toList.getD j 0 = b[j] := by
  rw [List.getD_eq_getElem?_getD, List.getElem?_eq_getElem (by simpa using hj)]; rfl
/-- A line as a value. -/
def lnV (p : Ln) : Value := .agg #[.int .i64 p.kind, .string p.load]
theorem conv_one (w : World) (b : UInt8) (x : Int) (h : x = (b.toNat : Int)) : (convert 44 9 (.slice (some ⟨w.heap.size, 0, none⟩) 1 1)).run Try.prog (w.alloc (.cells #[.int .u8 x] 5)) = .ok (.string ⟨#[b]⟩) (w.alloc (.cells #[.int .u8 x] 5)) := by
  subst h
  exact run_convert_bytes_back (P := Try.prog) (w.alloc (.cells #[.int .u8 (b.toNat : Int)] 5)) 44 9 5 ⟨w.heap.size, 0, none⟩ 1 [b] Try.underlying44 Try.underlying5 Try.underlying9 (fun j hj => by
    have hj0 : j = 0 := by simpa using hj
    subst hj0
    exact cell_one_new w _ 5 0 _ rfl)
theorem isEmpty_iff (l : ByteArray) : l.toList.isEmpty = true ↔ l.size = 0 := by
  rw [ByteArray.toList_eq, List.isEmpty_iff, ← size_list]
  constructor
  · intro h; rw [h]; rfl
  · exact List.eq_nil_of_length_eq_zero
theorem cells2 {W : World} {g : Nat} {a b : Value} {t : TypeId} (h : W.heap[g]? = some (.cells #[a, b] t)) : W.cell? ⟨g, 0, none⟩ = some a ∧ W.cell? ⟨g, 1, none⟩ = some b := by
  refine ⟨?_, ?_⟩
  · rw [cell_of_row _ _ 0 _ _ _ h]; rfl
  · rw [cell_of_row _ _ 1 _ _ _ h]; rfl
theorem infoLine : (Try.prog.info? 45).map (·.size) = some 2 := by kernel_rfl
/-- A slice of lines in memory, of either type. -/
structure LinesAt (w : World) (v : Value) (L : List Ln) : Prop where
  out : (v = .slice none 0 0 ∧ L = []) ∨ ∃ a cap, v = .slice (some a) L.length cap ∧ ∀ i e, L[i]? = some e → w.cell? (a.add (i * 2)) = some (.int .i64 e.kind) ∧ w.cell? ((a.add (i * 2)).add 1) = some (.string e.load)
theorem LinesAt.form {w : World} {v : Value} {L : List Ln} (h : LinesAt w v L) : ∃ ao cap, v = .slice ao L.length cap := by
  rcases h.out with ⟨rfl, rfl⟩ | ⟨a, cap, rfl, _⟩
  · exact ⟨none, 0, rfl⟩
  · exact ⟨some a, cap, rfl⟩
theorem add_block (a : Addr) (n : Nat) : (a.add n).block = a.block := by unfold Addr.add; split <;> rfl
theorem add_add_mid (a : Addr) (n k : Nat) (hk : k ≠ 0) : (a.add n).add k = ⟨a.block, a.off + n + k, none⟩ := by
  unfold Addr.add
  rw [if_neg hk]
  split
  · subst_vars; simp
  · rfl
theorem add_off (a : Addr) (n : Nat) : (a.add n).off = a.off + n := by unfold Addr.add; split <;> simp_all
theorem LinesAt.elem {w : World} {cap : Nat} {ao : Option Addr} {n : Nat} {L : List Ln} (h : LinesAt w (.slice ao n cap) L) (i : Nat) (e : Ln) (hi : L[i]? = some e) :
    ∃ a, ao = some a ∧ w.cell? (a.add (i * 2)) = some (.int .i64 e.kind) ∧ w.cell? ⟨a.block, a.off + i * 2 + 1, none⟩ = some (.string e.load) := by
  rcases h.out with ⟨_, rfl⟩ | ⟨a, cap', hv, hc⟩
  · simp at hi
  · simp only [Value.slice.injEq] at hv
    obtain ⟨h0, h1⟩ := hc i e hi
    rw [add_add_mid _ _ _ (by decide)] at h1
    exact ⟨a, hv.1, h0, h1⟩
theorem LinesAt.below {w w' : World} {v : Value} {L : List Ln} (h : LinesAt w v L) (hb : Below w.heap.size w w') : LinesAt w' v L := by
  refine ⟨?_⟩
  rcases h.out with h0 | ⟨a, cap, hv, hc⟩
  · exact .inl h0
  · refine .inr ⟨a, cap, hv, fun i e hi => ?_⟩
    obtain ⟨h0, h1⟩ := hc i e hi
    exact ⟨by rw [hb.cell (World.block_lt_of_cell? w _ h0)]; exact h0, by rw [hb.cell (World.block_lt_of_cell? w _ h1)]; exact h1⟩
/-- A line's cells. -/
def lnC (p : Ln) : List Value := [.int .i64 p.kind, .string p.load]
theorem lnC_length (p : Ln) : (lnC p).length = 2 := rfl
theorem lnC_one (p : Ln) : ∀ v ∈ lnC p, v.oneCell' = true := by
  intro v hv
  simp only [lnC, List.mem_cons, List.not_mem_nil, or_false] at hv
  rcases hv with rfl | rfl <;> rfl
/-- A row of lines that a call has made, of the type t. -/
def OwnR (t : TypeId) (w : World) (base : Nat) (v : Value) (L : List Ln) : Prop := w.ownsRow base t 2 v L.length (L.flatMap lnC)
theorem own_push {t : TypeId} {w : World} {base : Nat} {v : Value} {L : List Ln} {p : Ln} (h : w.ownsRow base t 2 v (L.length + 1) (L.flatMap lnC ++ lnC p)) : OwnR t w base v (L ++ [p]) := by
  unfold OwnR
  rw [List.flatMap_append, List.length_append]
  simpa using h
theorem own_nil (t : TypeId) (w : World) (base : Nat) : OwnR t w base (.slice none 0 0) [] := World.ownsRow_nil _ _ _ _
theorem own_below {w w' : World} {B e k n : Nat} {v : Value} {xs : List Value} (h : w.ownsRow B e k v n xs) (hb : Below w.heap.size w w') : w'.ownsRow B e k v n xs := by
  refine ⟨h.1, h.2.imp id ?_⟩
  rintro ⟨g, cap, cur, hv, hg, hh, hrest⟩
  have hlt : g < w.heap.size := (Array.getElem?_eq_some_iff.1 hh).1
  exact ⟨g, cap, cur, hv, hg, (hb.block g hlt).trans hh, hrest⟩
theorem flat_get (L : List Ln) : ∀ (i : Nat) (p : Ln), L[i]? = some p → ∀ (j : Nat) (x : Value), (lnC p)[j]? = some x → (L.flatMap lnC)[i * 2 + j]? = some x := by
  induction L with
  | nil => intro i l hi; simp at hi
  | cons a r ih =>
    intro i l hi j x hx
    have ha := lnC_length a
    rw [List.flatMap_cons]
    cases i with
    | zero =>
      simp at hi; subst hi
      have hj : j < 2 := by
        have := (List.getElem?_eq_some_iff.1 hx).1; rw [lnC_length] at this; omega
      rw [Nat.zero_mul, Nat.zero_add, List.getElem?_append_left (by omega)]
      exact hx
    | succ i =>
      simp at hi
      rw [List.getElem?_append_right (by omega), show (i + 1) * 2 + j - (lnC a).length = i * 2 + j by omega]
      exact ih i l hi j x hx
theorem OwnR.rows {t : TypeId} {w : World} {base : Nat} {v : Value} {L : List Ln} (h : OwnR t w base v L) : LinesAt w v L := by
  refine ⟨?_⟩
  rcases h.2 with ⟨rfl, h0⟩ | ⟨g, cap, cur, rfl, hg, hb⟩
  · exact .inl ⟨rfl, by simpa using h0⟩
  · refine .inr ⟨⟨g, 0, none⟩, cap, rfl, fun i p hi => ?_⟩
    have key : ∀ j x, (lnC p)[j]? = some x → w.cell? ⟨g, i * 2 + j, none⟩ = some x := fun j x hx => by
      have := World.ownsRow.cells h (g := g) rfl (i * 2 + j) x (flat_get L i p hi j x hx)
      rw [Addr.add_mid] at this
      simpa using this
    have k0 := key 0 _ rfl
    have k1 := key 1 _ rfl
    refine ⟨?_, ?_⟩
    · rw [Addr.add_mid]; simpa using k0
    · rw [Addr.add_mid, Addr.add_mid]; simpa using k1
theorem news_row {w : World} {g : Nat} {l : List Value} {t : TypeId} (h : w.heap[g]? = some (.cells l.toArray t)) : ∀ j u, l[j]? = some u → w.cell? ((⟨g, 0, none⟩ : Addr).add j) = some u := fun j u hu => by
  rw [Addr.add_mid, Nat.zero_add, cell_of_row _ _ _ _ t (0, 0) h]
  simpa using hu
theorem infoLn : (Try.prog.info? 45).map (fun i => (i.zero, i.size, i.bytes)) = some (some (.agg #[.int .i64 0, .string ⟨#[]⟩]), 2, 24) := by kernel_rfl
theorem infoPk : (Try.prog.info? 34).map (fun i => (i.zero, i.size, i.bytes)) = some (some (.agg #[.int .i64 0, .string ⟨#[]⟩]), 2, 24) := by kernel_rfl
theorem region_tail {P : Program} {id : Nat} {Q : Exit → Act → World → Prop} {a : Act} {w : World} {l : List Oper} (n : Nat) (hm : P.follows .mixedOrders = true) (hB : Region.lexTailB .any l.toArray n = true)
    (h : wpStill P l.toArray w.drew (fun a' => wpList P l.toArray Q (l.drop n) a' w.drew) (l.take n) a) : (Code.region id l.toArray true).wp P Q a w := wp_region_still_tail n hm hB h
theorem region_still {P : Program} {id : Nat} {Q : Exit → Act → World → Prop} {a : Act} {w : World} {l : List Oper} (hm : P.follows .mixedOrders = true) (hB : Region.lexB .any l.toArray = true)
    (h : wpStill P l.toArray w.drew (fun a' => Q .normal a' w.drew) l a) : (Code.region id l.toArray true).wp P Q a w := wp_region_still_lit hm hB h
theorem take_push (L : List Ln) (k : Nat) (e : Ln) (h : L[k]? = some e) : L.take (k + 1) = L.take k ++ [e] := by
  obtain ⟨hk, rfl⟩ := List.getElem?_eq_some_iff.1 h
  rw [List.take_succ_eq_append_getElem hk]
set_option maxHeartbeats 1600000 in
set_option maxRecDepth 100000 in
theorem as_any (v : Value) (L : List Ln) (w : World) (hL : LinesAt w v L) (hl : L.length ≤ 3000) :
    Calls Try.prog 10 #[v] w fun r w' => ∃ v', r = .returned v' ∧ OwnR 45 w' w.heap.size v' L ∧ Below w.heap.size w w' := by
  obtain ⟨ao, cap, rfl⟩ := hL.form
  have HL := Lib.hid hL
  clear hL
  obtain ⟨i0, hi, hz0, hz1, hz2⟩ := info_parts infoLn
  go_enter Try.func10, Try.ntmps10
  go_wp2_with fail
  go_loopw [3, 4] (fun v i wr => ∃ (k : Nat) (acc : List Ln), k ≤ L.length ∧ i = .int .i64 k ∧ acc.length = k ∧ Hid (acc = L.take k) ∧ OwnR 45 wr w.heap.size v acc ∧ Below w.heap.size w wr) (fun _ i _ => L.length - (intOf i).toNat)
  case atStart => exact ⟨0, [], by omega, rfl, rfl, rfl, own_nil _ _ _, Below.refl _ _⟩
  case round =>
    obtain ⟨k, acc, hk, rfl, hal, HA, hown, hb⟩ := hrel
    by_cases hlt : k < L.length
    · have hlt' : (k : Int) < (L.length : Int) := by omega
      have hk0 : (0 : Int) ≤ (k : Int) := by omega
      obtain ⟨e, he⟩ : ∃ e, L[k]? = some e := ⟨L[k], List.getElem?_eq_getElem hlt⟩
      obtain ⟨a, ea, c0, c1⟩ := (HL.out.below hb).elem k e he
      subst ea
      have hA1 := add_block a (k * 2)
      have hA2 := add_off a (k * 2)
      have HA2 := Lib.hid (show acc ++ [e] = L.take (k + 1) by rw [take_push _ _ _ he, HA.out])
      have HCC := Lib.hid (fun W (q : Below w.heap.size w W) => (by
        obtain ⟨a', e', h'⟩ := (HL.out.below q).elem k e he
        cases e'
        exact ⟨q, h'⟩ : Below w.heap.size w W ∧ W.cell? (a.add (k * 2)) = some (.int .i64 e.kind) ∧ W.cell? ⟨a.block, a.off + k * 2 + 1, none⟩ = some (.string e.load)))
      have HLOW := Lib.hid hown.lt
      have hbs := hb.size
      clear he HA
      obtain ⟨ek, el⟩ := e
      go_wp2_with fail
      go_region_held3 (fun w' => Below w.heap.size w w' ∧ w'.cell? (a.add (k * 2)) = some (.int .i64 ek) ∧ w'.cell? ⟨a.block, a.off + k * 2 + 1, none⟩ = some (.string el))
        (first
          | exact HCC.out _ (below_drewN hb 1)
          | exact HCC.out _ (below_drewN (hb.alloc hb.size _) 1)
          | exact HCC.out _ ((below_drewN (hb.alloc hb.size _) 1).grown hgrow (by simp; omega) (fun k hk => (HLOW.out k hk).1)))
        ((refine step_append_lies _ (by rfl) _ _ _ (by rfl) w.heap.size 45 i0 _ 2 24 Try.underlying27 hi hz0 hz1 hz2 rfl (by omega) u3 acc.length (acc.flatMap lnC) (by rfl) ((hown.alloc _).drew)
            ⟨wr.heap.size, 0, none⟩ 1 1 [.int .i64 ek, .string el] (by rfl) (by rfl) (World.news_of_block (cs := #[.int .i64 ek, .string el]) (t := 45) (fr := (0, 0)) (heap_alloc_new wr _)) (lnC_one ⟨ek, el⟩)
            (by omega) (by unfold maxLen; omega) (by omega) (by simp; omega) (wr.heap.size + 1) (by simp) ?_; intro gg cap' w1 hown1 hgrow hat hlt9))
      rename_i hH
      have HO2 := Lib.hid (own_push (p := ⟨ek, el⟩) hown1)
      clear hown hown1 hgrow
      go_wp2
      go_roundw
      case rel => exact ⟨k + 1, _, by omega, by go_num, by simp; omega, HA2, by simpa [hal] using HO2.out, hH.1⟩
      case measure => simp [intOf]; omega
    · have HT := Lib.hid (show acc = L by rw [HA.out, List.take_of_length_le (by omega)])
      rw [HT.out] at hown
      go_wp2_with fail
      go_ret
      exact ⟨_, rfl, hown, hb⟩
theorem part_int (xs : Array Value) (i : Nat) (v : Value) (h : xs[i]? = some v) (w : World) : (part 3 xs i).run Try.prog w = .ok v w := by
  simp [part, Try.isAgg3, h, Result.andThen]
theorem part_string (xs : Array Value) (i : Nat) (v : Value) (h : xs[i]? = some v) (w : World) : (part 9 xs i).run Try.prog w = .ok v w := by
  simp [part, Try.isAgg9, h, Result.andThen]
theorem fieldsLn : (Try.prog.fieldsOf 45).toList.map (fun f => (decide (f.name = "_"), f.type, f.offset)) = [(false, 3, 0), (false, 9, 1)] := by kernel_rfl
theorem eqFields_cons (d : Nat) (xs : Array Value) (f : Field) (fs : List Field) (v : Value) (w : World) (hn : decide (f.name = "_") = false) (hp : (part f.type xs f.offset).run Try.prog w = .ok v w) (he : (Op.equalIn d f.type v v).run Try.prog w = .ok true w)
    (hr : (Op.eqFields d xs xs fs).run Try.prog w = .ok true w) : (Op.eqFields d xs xs (f :: fs)).run Try.prog w = .ok true w := by
  have hn' : f.name ≠ "_" := by simpa using hn
  simp only [Op.eqFields, if_pos hn', Sem.run_bind, hp, he, Result.andThen_ok]
  simpa using hr
theorem two_of {l : List Field} {a b : Bool × TypeId × Nat} (h : l.map (fun f => (decide (f.name = "_"), f.type, f.offset)) = [a, b]) :
    ∃ x y : Field, l = [x, y] ∧ (decide (x.name = "_"), x.type, x.offset) = a ∧ (decide (y.name = "_"), y.type, y.offset) = b := by
  match l, h with
  | [x, y], h => simp only [List.map_cons, List.map_nil, List.cons.injEq, and_true] at h; exact ⟨x, y, rfl, h.1, h.2⟩
theorem underLn : Try.prog.underlying 45 = some (.struct (Try.prog.fieldsOf 45)) := by kernel_rfl
/-- A line is itself. -/
theorem eq_ln (k : Int) (l : ByteArray) (w : World) : (Op.equalIn 10000 45 (.agg #[.int .i64 k, .string l]) (.agg #[.int .i64 k, .string l])).run Try.prog w = .ok true w := by
  obtain ⟨x, y, hl, hx, hy⟩ := two_of fieldsLn
  simp only [Prod.mk.injEq] at hx hy
  rw [show (10000 : Nat) = 9999 + 1 from rfl, run_equalIn_struct w 9999 45 _ _ underLn (by kernel_rfl), hl]
  refine eqFields_cons _ _ _ _ (.int .i64 k) w hx.1 (by rw [hx.2.1, hx.2.2]; exact part_int _ 0 _ rfl w) (by rw [hx.2.1, show (9999 : Nat) = 9998 + 1 from rfl, run_equalIn_int w _ _ _ _ _ _ Try.underlying3]; simp) ?_
  refine eqFields_cons _ _ _ _ (.string l) w hy.1 (by rw [hy.2.1, hy.2.2]; exact part_string _ 1 _ rfl w) (by rw [hy.2.1, show (9999 : Nat) = 9998 + 1 from rfl, run_equalIn_string w _ _ _ _ Try.underlying9]; simp) ?_
  simp [Op.eqFields]
theorem run_loadVar_at {P : Program} (w : World) (a : Addr) (ty : TypeId) (cs : List Value) (d : TypeDesc) (hc : ∀ j v, cs[j]? = some v → w.cell? (a.add j) = some v)
    (hu : P.underlying ty = some d) (hd : d.isRow = true) (hi : (P.info? ty).map (·.size) = some cs.length) :
    (loadVar ty a).run P w = .ok (.agg cs.toArray) w := by
  have hl : (loadCells a cs.length).run P w = .ok cs.toArray w := run_loadCells_list (P := P) w a cs hc
  cases hq : P.info? ty with
  | none => simp [hq] at hi
  | some i =>
    have hs : i.size = cs.length := by simpa [hq] using hi
    have hagg : (isAgg ty).run P w = .ok true w := by
      unfold isAgg
      rw [Sem.run_bind, run_underlying hu w]
      cases d <;> simp_all
    simp [loadVar, Sem.run_bind, hagg, Go.sizeOf, typeInfo, hq, hs, hl]
theorem still_ld {ops : Array Oper} {w : World} {Q : Act → Prop} {a : Act} {o : Oper} {rest : List Oper} {cs : List Value} {ty : TypeId} {x : Operand} {p : Addr} {d : TypeDesc} (ho : o.op = .load ty x) (hx : a.eval x = .pointer (some p)) (hg : o.guard = none)
    (hc : ∀ j v, cs[j]? = some v → w.cell? (p.add j) = some v) (hu : Try.prog.underlying ty = some d) (hd : d.isRow = true) (hi : (Try.prog.info? ty).map (·.size) = some cs.length)
    (h : wpStill Try.prog ops w Q rest (a.put o.dst (.agg cs.toArray))) : wpStill Try.prog ops w Q (o :: rest) a := by
  refine wpStill_step fun K hK => ?_
  rw [if_pos (by simp [Region.wanted, hg])]
  unfold Oper.still execOp
  simp only [ho, hx, Instr.loadAt, Instr.sureAddr, Sem.run_bind, Sem.run_pure, Result.andThen_ok, run_loadVar_at w p ty cs d hc hu hd hi]
  exact ⟨rfl, hK _ h⟩
theorem elem_cells {w : World} {a : Addr} {i : Nat} {e : Ln} (h0 : w.cell? (a.add (i * 2)) = some (.int .i64 e.kind)) (h1 : w.cell? ⟨a.block, a.off + i * 2 + 1, none⟩ = some (.string e.load)) : ∀ j v, (lnC e)[j]? = some v → w.cell? ((a.add (i * 2)).add j) = some v := fun j v hj => by
  match j with
  | 0 => simp [lnC] at hj; subst hj; rw [show (a.add (i * 2)).add 0 = a.add (i * 2) by simp [Addr.add]]; exact h0
  | 1 => simp [lnC] at hj; subst hj; rw [add_add_mid _ _ _ (by decide)]; exact h1
  | j + 2 => simp [lnC] at hj
set_option maxHeartbeats 1000000 in
set_option maxRecDepth 100000 in
theorem same_any (L : List Ln) (va vb : Value) (w : World) (hA : LinesAt w va L) (hB : LinesAt w vb L) (hl : L.length ≤ 3000) :
    Calls Try.prog 9 #[va, vb] w fun r w' => r = .returned (.int .i64 1) ∧ Below w.heap.size w w' := by
  obtain ⟨ao, ca, rfl⟩ := hA.form
  obtain ⟨bo, cb, rfl⟩ := hB.form
  have HA := Lib.hid hA
  have HB := Lib.hid hB
  clear hA hB
  have HU := Lib.hid underLn
  go_enter Try.func9, Try.ntmps9
  go_wp2_with fail
  go_loopw [5] (fun i wr => ∃ (k : Nat), k ≤ L.length ∧ i = .int .i64 k ∧ Below w.heap.size w wr) (fun i _ => L.length - (intOf i).toNat)
  case atStart => exact ⟨0, by omega, rfl, Below.refl _ _⟩
  case round =>
    obtain ⟨k, hk, rfl, hb⟩ := hrel
    by_cases hlt : k < L.length
    · have hlt' : (k : Int) < (L.length : Int) := by omega
      have hk0 : (0 : Int) ≤ (k : Int) := by omega
      obtain ⟨e, he⟩ : ∃ e, L[k]? = some e := ⟨L[k], List.getElem?_eq_getElem hlt⟩
      obtain ⟨a, rfl, a0, a1⟩ := (HA.out.below hb.drew).elem k e he
      obtain ⟨b, rfl, b0, b1⟩ := (HB.out.below hb.drew).elem k e he
      have HC := Lib.hid (elem_cells a0 a1)
      have HE := Lib.hid (elem_cells b0 b1)
      have HI := Lib.hid (show (Try.prog.info? 45).map (·.size) = some (lnC e).length from infoLine)
      have hq := fun W => eq_ln e.kind e.load W
      clear he a0 a1 b0 b1
      go_wp2_with fail
      refine region_still (by kernel_rfl) (by kernel_rfl) ?_
      repeat still_step
      (with_reducible apply still_ld (hc := HC.out) (hu := HU.out) (hi := HI.out))
      rfl
      rfl
      rfl
      rfl
      repeat still_step
      (with_reducible apply still_ld (hc := HE.out) (hu := HU.out) (hi := HI.out))
      rfl
      rfl
      rfl
      rfl
      unfold lnC
      repeat still_step
      refine wpStill_nil ?_
      go_wp2
      go_roundw
      case rel => exact ⟨k + 1, by omega, by go_num, hb.drew⟩
      case measure => simp [intOf]; omega
    · go_wp2
      go_ret
      exact ⟨rfl, hb⟩
theorem Try.infoByte : (Try.prog.info? 5).map (fun i => (i.zero, i.size, i.bytes)) = some (some (.int .u8 0), 1, 1) := by kernel_rfl
/-- Bytes as the cells of a row. -/
def cellsOf (l : List UInt8) : List Value := l.map fun b => Value.int .u8 (b.toNat : Int)
theorem cellsOf_append (a b : List UInt8) : cellsOf a ++ cellsOf b = cellsOf (a ++ b) := by simp [cellsOf]
theorem strCells_list (s : ByteArray) : Lib.strCells s = cellsOf s.data.toList := by simp [Lib.strCells, cellsOf]
theorem own_ne {w : World} {base e n b t : Nat} {v : Value} {xs : List Value} {cs : Array Value} {fr : Nat × Nat} (h : w.ownsRow base e 1 v n xs) (hb : w.heap[b]? = some (.cells cs t fr)) (ht : t ≠ e) : some b ≠ v.ownBlock := by
  rcases h.2 with ⟨rfl, _⟩ | ⟨g, cap, cur, rfl, _, hh, _⟩
  · simp [Value.ownBlock]
  · intro e1
    simp only [Value.ownBlock, Option.some.injEq] at e1
    subst e1
    rw [hh] at hb
    simp at hb
    exact ht hb.2.1.symm
theorem ret_bytes {w : World} {base : Nat} {v : Value} {l : List UInt8} (h : w.ownsRow base 5 1 v l.length (cellsOf l)) : (convert 44 9 v).run Try.prog w = .ok (.string ⟨l.toArray⟩) w := by
  rcases h.2 with ⟨rfl, h0⟩ | ⟨g, cap, cur, rfl, _⟩
  · obtain rfl : l = [] := List.eq_nil_of_length_eq_zero h0
    simp [convert, run_underlying Try.underlying44, run_underlying Try.underlying9, run_underlying Try.underlying5, Conv.bytesToString, go_sem]
    rfl
  · exact run_convert_bytes_back (P := Try.prog) w 44 9 5 ⟨g, 0, none⟩ cap l Try.underlying44 Try.underlying5 Try.underlying9 (fun j hj => by
      refine h.cells (by rfl) j _ ?_
      simp [cellsOf, hj])
theorem infoPkt : (Try.prog.info? 34).map (·.size) = some 2 := by kernel_rfl
section
variable {ops : Array Oper} {rest : List Oper} {op : Oper} {a : Act} {w : World} {Q : Exit → Act → World → Prop} {x : Operand}
theorem ld_at {e : Ln} {p : Addr} {ty : TypeId} {d : TypeDesc} (ho : op.op = .load ty x) (hx : a.eval x = .pointer (some p)) (hg : op.guard = none)
    (hc : ∀ j v, (lnC e)[j]? = some v → w.cell? (p.add j) = some v) (hu : Try.prog.underlying ty = some d) (hd : d.isRow = true) (hi : (Try.prog.info? ty).map (·.size) = some 2)
    (h : wpList Try.prog ops Q rest (a.put op.dst (.agg #[.int .i64 e.kind, .string e.load])) w) : wpList Try.prog ops Q (op :: rest) a w := by
  refine wpList_plain hg fun K hK => ?_
  unfold Oper.wp execOp
  simp only [ho, hx, Instr.loadAt, Instr.sureAddr, Sem.run_bind, Sem.run_pure, Result.andThen_ok, run_loadVar_at w p ty (lnC e) d hc hu hd hi]
  exact hK _ _ h
end

end Go.Proofs.Ytaaemdmeicjnbaa
