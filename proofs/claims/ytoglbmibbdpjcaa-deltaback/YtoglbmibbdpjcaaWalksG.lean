/-
  WALKS OF LAYER 6: the map of first places, the row of next places, findPlaces.
-/
import Derived.Test.YtoglbmibbdpjcaaWalksF
import Derived.Maps.OwnSet
namespace Go.Proofs.Ytoglbmibbdpjcaa
open Go.RowKit Go.WideMaps Go.Maps
set_option linter.unusedVariables false
set_option linter.unusedSimpArgs false

theorem keyLaw : Keyed Try.prog 9 := string_keyed Try.underlying9
theorem zeroInt (w : World) : (zeroValue 3).run Try.prog w = .ok (.int .i64 0) w := by kernel_rfl

/-- Block b is a map from four bytes to a place, of at most n entries: M. -/
structure Mp (w : World) (b n : Nat) (M : List UInt8 → Option Nat) : Prop where
  out : ∃ D : DataW Unit, w.ownsMap Try.prog 9 (plainElem Try.prog 3) b n D ∧ Maps.IsMap D ∧ ∀ key, Maps.has D (.string key) = (M key).isSome ∧ D.atKey (.string key) (.lit (.int .i64 0)) = .lit (.int .i64 (((M key).getD 0 : Nat) : Int))

def upd (M : List UInt8 → Option Nat) (k : List UInt8) (p : Nat) : List UInt8 → Option Nat := fun x => if x = k then some p else M x

theorem Mp.made (w : World) : Mp (w.alloc (.map #[] 0)) w.heap.size 0 (fun _ => none) :=
  ⟨.map [], World.ownsMap_made _ _ _ _, Maps.isMap_empty, fun key => ⟨rfl, rfl⟩⟩
theorem Mp.kept {w w' : World} {b n : Nat} {M : List UInt8 → Option Nat} {row : Option Nat} (h : Mp w b n M) (hg : w.grownBy w' row) (hne : some b ≠ row) : Mp w' b n M := by
  obtain ⟨D, h1, h2⟩ := h.out
  exact ⟨D, h1.kept hg hne, h2⟩
theorem Mp.drewN {w : World} {b n : Nat} {M : List UInt8 → Option Nat} (h : Mp w b n M) (k : Nat) : Mp (w.drewN k) b n M := by
  obtain ⟨D, h1, h2⟩ := h.out
  exact ⟨D, h1, h2⟩
theorem Mp.lt {w : World} {b n : Nat} {M : List UInt8 → Option Nat} (h : Mp w b n M) : b < w.heap.size := by
  obtain ⟨D, h1, h2⟩ := h.out
  exact h1.lt

section
variable (w : World) {ops : Array Oper} {rest : List Oper} {o : Oper} {a : Act} {Q : Exit → Act → World → Prop}
theorem wpList_look_none (hg : o.guard = none) (m x : Operand) (hop : o.op = Op.lookup 52 m x true) (b n : Nat) (M : List UInt8 → Option Nat)
    (hm : a.eval m = .map (some b)) (hM : Mp w b n M) (s : ByteArray) (hx : a.eval x = .string s) (hs : s.size ≤ maxLen) (hq : M s.data.toList = none)
    (hK : wpList Try.prog ops Q rest (a.put o.dst (.tuple #[.int .i64 0, .bool false])) w) : wpList Try.prog ops Q (o :: rest) a w := by
  obtain ⟨D, h1, h2, h3⟩ := hM.out
  refine wpList_lookup_own_ok_int w hg m x 52 hop 9 3 .i64 keyLaw Try.underlying52 Try.underlying3 (zeroInt w) b n D hm h1 (.string s) (.string s.data.toList) hx (keyOf_string_mk Try.underlying9 hs) ?_
  intro c hat _
  obtain ⟨e1, e2⟩ := h3 s.data.toList
  rw [hq] at e1 e2
  rw [e2] at hat
  simp at hat
  subst hat
  rw [e1]
  exact hK
theorem wpList_look_some (hg : o.guard = none) (m x : Operand) (hop : o.op = Op.lookup 52 m x true) (b n : Nat) (M : List UInt8 → Option Nat)
    (hm : a.eval m = .map (some b)) (hM : Mp w b n M) (s : ByteArray) (hx : a.eval x = .string s) (hs : s.size ≤ maxLen) (p : Nat) (hq : M s.data.toList = some p)
    (hK : wpList Try.prog ops Q rest (a.put o.dst (.tuple #[.int .i64 p, .bool true])) w) : wpList Try.prog ops Q (o :: rest) a w := by
  obtain ⟨D, h1, h2, h3⟩ := hM.out
  refine wpList_lookup_own_ok_int w hg m x 52 hop 9 3 .i64 keyLaw Try.underlying52 Try.underlying3 (zeroInt w) b n D hm h1 (.string s) (.string s.data.toList) hx (keyOf_string_mk Try.underlying9 hs) ?_
  intro c hat _
  obtain ⟨e1, e2⟩ := h3 s.data.toList
  rw [hq] at e1 e2
  rw [e2] at hat
  simp at hat
  subst hat
  rw [e1]
  exact hK
theorem wpList_keep (hg : o.guard = none) (m x v : Operand) (hop : o.op = Op.mapUpdate 52 m x v) (b n : Nat) (M : List UInt8 → Option Nat)
    (hm : a.eval m = .map (some b)) (hM : Mp w b n M) (hn : n < maxLen) (s : ByteArray) (hx : a.eval x = .string s) (hs : s.size ≤ maxLen) (p : Nat) (hv : a.eval v = .int .i64 p) (hp : p ≤ 9223372036854775807)
    (hK : ∀ w', Mp w' b (n + 1) (upd M s.data.toList p) → w.grownBy w' (some b) → wpList Try.prog ops Q rest (a.put o.dst undef) w') : wpList Try.prog ops Q (o :: rest) a w := by
  obtain ⟨D, h1, h2, h3⟩ := hM.out
  refine wpList_mapUpdate_own w hg m x v 52 hop 9 3 keyLaw Try.underlying52 _ b n D hm h1 hn (.string s) (.int .i64 p) (.string s.data.toList) hx hv (keyOf_string_mk Try.underlying9 hs) _ [] (plainElem_int Try.underlying3 (WalkArith.wf_i64 (by omega))) ?_
  intro w' hown hgrow
  refine hK w' ⟨_, hown, h2.put _ _, fun key => ?_⟩ hgrow
  unfold upd
  by_cases hk : key = s.data.toList
  · subst hk
    rw [if_pos rfl]
    exact ⟨Maps.has_put_same h2 (show WideAt.IsKeyLit (.string s.data.toList) from trivial) _, Maps.atKey_put_same h2 (show WideAt.IsKeyLit (.string s.data.toList) from trivial) _ _⟩
  · rw [if_neg hk]
    have hne : (Lit.string key) ≠ Lit.string s.data.toList := fun e => hk (by injection e)
    rw [Maps.has_put_other hne, Maps.atKey_put_other hne]
    exact h3 key
end

theorem below_grown {w w' : World} (h : Below w.heap.size w w') : w.grownBy w' none := ⟨h.os, h.tape, h.output, h.size, fun k hk _ => h.block k hk⟩
theorem Mp.below {w w' : World} {b n : Nat} {M : List UInt8 → Option Nat} (h : Mp w b n M) (hb : Below w.heap.size w w') : Mp w' b n M := h.kept (below_grown hb) (by simp)
theorem Mp.alloc {w : World} {b n : Nat} {M : List UInt8 → Option Nat} (h : Mp w b n M) (o : Obj) : Mp (w.alloc o) b n M := h.below ((Below.refl _ _).alloc (Nat.le_refl _) o)
theorem Mp.setCell {w : World} {b n : Nat} {M : List UInt8 → Option Nat} (h : Mp w b n M) {a : Addr} (ha : b ≠ a.block) (u : Value) : Mp (w.setCell a u) b n M := by
  obtain ⟨D, h1, h2⟩ := h.out
  exact ⟨D, h1.setCell ha u, h2⟩
theorem Mp.mono {w : World} {b n n' : Nat} {M : List UInt8 → Option Nat} (h : Mp w b n M) (hn : n ≤ n') : Mp w b n' M := by
  obtain ⟨D, h1, h2⟩ := h.out
  exact ⟨D, h1.mono hn, h2⟩

theorem Try.infoInt : (Try.prog.info? 3).map (fun i => (i.zero, i.size, i.bytes)) = some (some (.int .i64 0), 1, 8) := by kernel_rfl

/-- Block g is a row of n places, each none or within the row. -/
structure Nx (w : World) (g n : Nat) : Prop where
  out : ∃ X : List Int, w.ownsRow 0 3 1 (.slice (some ⟨g, 0, none⟩) n n) n (X.map (Value.int .i64)) ∧ ∀ x ∈ X, x = -1 ∨ (0 ≤ x ∧ x < (n : Int))

theorem Nx.cell {w : World} {g n : Nat} (h : Nx w g n) (j : Nat) (hj : j < n) : ∃ x : Int, w.cell? ⟨g, j, none⟩ = some (.int .i64 x) ∧ (x = -1 ∨ (0 ≤ x ∧ x < (n : Int))) := by
  obtain ⟨X, h1, h2⟩ := h.out
  have hl : X.length = n := by have := h1.1; simpa using this
  refine ⟨X[j], ?_, h2 _ (List.getElem_mem _)⟩
  rw [h1.cellAt j (by omega), List.getElem?_map, List.getElem?_eq_getElem (by omega)]
  rfl
theorem Nx.frozen {w : World} {g n : Nat} (h : Nx w g n) (j : Nat) : w.frozen? ⟨g, j, none⟩ = false := by
  obtain ⟨X, h1, _⟩ := h.out
  exact h1.frozenAt j
theorem Nx.lt {w : World} {g n : Nat} (h : Nx w g n) : g < w.heap.size := by
  obtain ⟨X, h1, _⟩ := h.out
  exact (h1.lt g rfl).2
theorem Nx.set {w : World} {g n : Nat} (h : Nx w g n) (j : Nat) (x : Int) (hx : x = -1 ∨ (0 ≤ x ∧ x < (n : Int))) : Nx (w.setCell ⟨g, j, none⟩ (.int .i64 x)) g n := by
  obtain ⟨X, h1, h2⟩ := h.out
  refine ⟨X.set j x, ?_, fun y hy => ?_⟩
  · have := (h1.stored j (.int .i64 x)).1
    rwa [← List.map_set] at this
  · rcases List.mem_or_eq_of_mem_set hy with h3 | h3
    · exact h2 y h3
    · rw [h3]; exact hx
theorem Nx.of_block {w w' : World} {g n : Nat} (h : Nx w g n) (hb : w'.heap[g]? = w.heap[g]?) : Nx w' g n := by
  obtain ⟨X, h1, h2⟩ := h.out
  refine ⟨X, ⟨h1.1, h1.2.imp id ?_⟩, h2⟩
  rintro ⟨g', cap, cur, hv, hg, hh, hrest⟩
  have e : g = g' := by simp at hv; exact hv.1
  subst e
  exact ⟨g, cap, cur, hv, hg, hb.trans hh, hrest⟩

/-- The places of a base as Go has them. -/
def plV (b g n : Nat) : Value := .agg #[.map (some b), .slice (some ⟨g, 0, none⟩) n n]

/-- What the map tells when all places behind j are in it. -/
structure Pm (l : List UInt8) (M : List UInt8 → Option Nat) (j : Int) : Prop where
  lt : ∀ k p, M k = some p → p < l.length - 3
  at1 : ∀ q : Nat, (q : Int) = j + 1 → q < l.length - 3 → M ((l.drop q).take 4) = some q

theorem Pm.start (l : List UInt8) (j : Int) (hj : ((l.length - 3 : Nat) : Int) ≤ j + 1) : Pm l (fun _ => none) j := ⟨fun k p h => (by cases h), fun q h1 h2 => (by omega)⟩
theorem Pm.step {l : List UInt8} {M : List UInt8 → Option Nat} {j : Nat} (h : Pm l M (j : Int)) (hj : j < l.length - 3) : Pm l (upd M ((l.drop j).take 4) j) ((j : Int) - 1) := by
  refine ⟨fun k p hk => ?_, fun q h1 h2 => ?_⟩
  · unfold upd at hk
    split at hk
    · cases hk; exact hj
    · exact h.lt k p hk
  · have : q = j := by omega
    subst this
    unfold upd; rw [if_pos rfl]

/-- Where findPlaces stands in memory: the result's box, the map b, the row g, the places' box B. -/
structure Fw (w wr : World) (n b g B : Nat) : Prop where
  box : wr.heap[B]? = some (.cells #[.map (some b), .slice (some ⟨g, 0, none⟩) n n] 55)
  res : wr.heap[w.heap.size]? = some (.cells #[.map none, .slice none 0 0] 55)
  nx : Nx wr g n
  bel : Below w.heap.size w wr
  ord : w.heap.size < b ∧ b < g ∧ g < B ∧ B < wr.heap.size

theorem Fw.set {w wr : World} {n b g B : Nat} (h : Fw w wr n b g B) (j : Nat) (x : Int) (hx : x = -1 ∨ (0 ≤ x ∧ x < (n : Int))) : Fw w (wr.setCell ⟨g, j, none⟩ (.int .i64 x)) n b g B := by
  have ho := h.ord
  exact ⟨by rw [heap_setCell_other _ _ _ _ (by simp; omega)]; exact h.box, by rw [heap_setCell_other _ _ _ _ (by simp; omega)]; exact h.res, h.nx.set j x hx, h.bel.setCell (by simp; omega) _, by simp; omega⟩
theorem Fw.grow {w wr w' : World} {n b g B : Nat} (h : Fw w wr n b g B) (hg : wr.grownBy w' (some b)) : Fw w w' n b g B := by
  have ho := h.ord
  have hsz := hg.size
  refine ⟨?_, ?_, h.nx.of_block ?_, h.bel.grown hg (by omega) (fun k hk => by cases hk; omega), by omega⟩
  · rw [hg.block _ (by omega) (by simp; omega)]; exact h.box
  · rw [hg.block _ (by omega) (by simp; omega)]; exact h.res
  · rw [hg.block _ (by omega) (by simp; omega)]
theorem Fw.cells {w wr : World} {n b g B : Nat} (h : Fw w wr n b g B) : wr.cell? ⟨B, 0, none⟩ = some (.map (some b)) ∧ wr.cell? ⟨B, 1, none⟩ = some (.slice (some ⟨g, 0, none⟩) n n) ∧
    wr.cell? ⟨w.heap.size, 0, none⟩ = some (.map none) ∧ wr.cell? ⟨w.heap.size, 1, none⟩ = some (.slice none 0 0) := by
  refine ⟨?_, ?_, ?_, ?_⟩
  · rw [cell_of_row _ _ 0 _ _ _ h.box]; rfl
  · rw [cell_of_row _ _ 1 _ _ _ h.box]; rfl
  · rw [cell_of_row _ _ 0 _ _ _ h.res]; rfl
  · rw [cell_of_row _ _ 1 _ _ _ h.res]; rfl
theorem Fw.froz {w wr : World} {n b g B : Nat} (h : Fw w wr n b g B) : wr.frozen? ⟨w.heap.size, 0, none⟩ = false ∧ wr.frozen? ⟨w.heap.size, 1, none⟩ = false := by
  constructor
  · exact frozen_of_row _ _ _ _ _ h.res
  · exact frozen_of_row _ _ _ _ _ h.res

/-- The places of a base, in memory. -/
structure Pw (w : World) (b g : Nat) (l : List UInt8) : Prop where
  map : ∃ M c, Mp w b c M ∧ Pm l M (-1)
  nx : Nx w g (l.length - 3)

theorem nx_made {w : World} {g n : Nat} (h : w.ownsRow 0 3 1 (.slice (some ⟨g, 0, none⟩) n n) n (madeCells #[Value.int .i64 0] n).toList) : Nx w g n := by
  rw [toList_madeCells_one, ← List.map_replicate] at h
  exact ⟨_, h, fun x hx => (by rw [List.mem_replicate] at hx; right; omega)⟩

/-- The end of findPlaces. -/
def Fpd (l : List UInt8) (n : Nat) (w : World) (r : Ending) (w' : World) : Prop := ∃ b g, r = .returned (plV b g n) ∧ Pw w' b g l ∧ Below w.heap.size w w'

theorem fw_start {w w1 : World} {n b g : Nat} (hb : w.heap.size + 1 = b) (hg : b + 1 = g)
    (hown : w1.ownsRow 0 3 1 (.slice (some ⟨g, 0, none⟩) n n) n (madeCells #[Value.int .i64 0] n).toList)
    (hgr : ((w.alloc (.cells #[.map none, .slice none 0 0] 55)).alloc (.map #[] 0)).grownBy w1 none) :
    Fw w (w1.alloc (.cells #[.map (some b), .slice (some ⟨g, 0, none⟩) n n] 55)) n b g w1.heap.size ∧ Mp (w1.alloc (.cells #[.map (some b), .slice (some ⟨g, 0, none⟩) n n] 55)) b 0 (fun _ => none) := by
  have hnx := nx_made hown
  have hl := hnx.lt
  subst hb; subst hg
  refine ⟨⟨Deep.blk_alloc_new _ _, ?_, hnx.of_block (Deep.blk_alloc_lt _ _ _ hl), ?_, ?_⟩, ?_⟩
  · rw [Deep.blk_alloc_lt _ _ _ (by omega), hgr.block _ (by simp; omega) (by simp), Deep.blk_alloc_lt _ _ _ (by simp)]
    exact Deep.blk_alloc_new _ _
  · exact ((((Below.refl _ w).alloc (Nat.le_refl _) _).alloc (by simp) _).grown hgr (by simp; omega) (fun k hk => by cases hk)).alloc (by omega) _
  · simp; omega
  · have hm := Mp.made (w.alloc (.cells #[.map none, .slice none 0 0] 55))
    rw [show (w.alloc (.cells #[.map none, .slice none 0 0] 55)).heap.size = w.heap.size + 1 by simp] at hm
    exact (hm.kept hgr (by simp)).alloc _

set_option maxHeartbeats 800000 in
set_option maxRecDepth 100000 in
theorem findPlaces_big (s : ByteArray) (w : World) (hs : s.size ≤ 16777216) (h4 : 4 ≤ s.size) (n : Nat) (hn : s.size - 3 = n) :
    Calls Try.prog 22 #[.string s] w (Fpd s.data.toList n w) := by
  obtain ⟨i0, hi, hz0, hz1, hz2⟩ := info_parts Try.infoInt
  have hmm := @run_makeMap Try.prog
  have hlen := size_list s
  have HLEN := Lib.hid hlen
  clear hlen
  have hw1 : (s.size : Int) - 4 + 1 = (n : Int) := by omega
  have hw2 : ¬ (s.size : Int) - 4 + 1 < 0 := by omega
  have hw3 : ¬ (s.size : Int) - 4 + 1 ≤ 0 := by omega
  have hw4 : (0 : Int) ≤ (s.size : Int) - 4 + 1 := by omega
  have hnn : n ≤ 16777216 := by omega
  go_enter Try.func22, Try.ntmps22
  go_wp2_with (refine wpList_make_full _ rfl _ _ 53 rfl 0 3 i0 (.int .i64 0) 1 Try.underlying53 hi hz0 hz1 .i64 .i64 _ _ n rfl rfl ?e1 ?e2 ?c1 ?c2 ?c3 ?_)
  case e1 => first | rfl | exact hw1
  case e2 => first | rfl | exact hw1
  case c1 => omega
  case c2 => unfold maxLen; omega
  all_goals try (exact Nat.zero_le _)
  intro w1 hown hgr
  clear hmm
  have hst := fun b g (h1 : w.heap.size + 1 = b) (h2 : b + 1 = g) => fw_start (w := w) (w1 := w1) (n := n) h1 h2
  obtain ⟨b, hb⟩ : ∃ b, w.heap.size + 1 = b := ⟨_, rfl⟩
  obtain ⟨g, hg⟩ : ∃ g, b + 1 = g := ⟨_, rfl⟩
  rw [hb, hg] at hown
  obtain ⟨hF, hM⟩ := fw_start hb hg hown hgr
  rw [hb, hg]
  clear hgr hown hst
  generalize hB : w1.heap.size = B at *
  have ho := hF.ord
  go_wp2_with fail
  generalize w1.alloc (.cells #[.map (some b), .slice (some ⟨g, 0, none⟩) n n] 55) = w2 at *
  clear hB
  go_loopw [5] (fun i wr => ∃ (j : Int) (c : Nat) (M : List UInt8 → Option Nat), i = .int .i64 j ∧ -1 ≤ j ∧ j < (n : Int) ∧ (c : Int) + j + 1 = (n : Int) ∧ Mp wr b c M ∧ Pm s.data.toList M j ∧ Fw w wr n b g B) (fun i _ => (intOf i + 1).toNat)
  case atStart => exact ⟨(n : Int) - 1, 0, _, by go_num, by omega, by omega, by omega, hM, Pm.start _ _ (by rw [HLEN.out]; omega), hF⟩
  case round =>
    obtain ⟨j, c, M, rfl, hj1, hj2, hc, hM1, hP, hF1⟩ := hrel
    clear hM hF
    have HP := Lib.hid hP
    clear hP
    by_cases hj0 : 0 ≤ j
    · obtain ⟨j, rfl⟩ := Int.eq_ofNat_of_zero_le hj0
      have hkey : (s.extract j (j + 4)).data.toList = (s.data.toList.drop j).take 4 := by rw [extract_list, show j + 4 - j = 4 by omega]
      have hks : (s.extract j (j + 4)).size ≤ maxLen := by unfold maxLen; simp; omega
      have HK := Lib.hid hkey
      clear hkey
      have HPn := Lib.hid (HP.out.step (by rw [HLEN.out]; omega))
      obtain ⟨c0, c1, _, _⟩ := hF1.cells
      obtain ⟨x, cx, _⟩ := hF1.nx.cell j (by omega)
      have cf := hF1.nx.frozen j
      have hF2 := hF1.set j (-1) (.inl rfl)
      have hM2 := hM1.setCell (a := ⟨g, j, none⟩) (by simp; omega) (.int .i64 (-1))
      have hne1 : B ≠ g := by omega
      have hne2 : g ≠ B := by omega
      have hjn : (j : Int) < (n : Int) := by omega
      cases hq : M (s.extract j (j + 4)).data.toList with
      | none =>
        have HQ := Lib.hid hq
        clear hq
        go_wp2_with (first | (at_lookup; refine wpList_look_none _ rfl _ _ rfl b c M rfl hM2 _ rfl hks HQ.out ?_) | (at_mapUpdate; refine wpList_keep _ rfl _ _ _ rfl b c M rfl hM2 (by unfold maxLen; omega) _ rfl hks j rfl (by omega) ?_; intro w3 hM3 hg3))
        exact ⟨⟨(j : Int) - 1, c + 1, _, rfl, by omega, by omega, by omega, hM3, by rw [HK.out]; exact HPn.out, hF2.grow hg3⟩, by simp [intOf]⟩
      | some y =>
        have hy := HP.out.lt _ _ hq
        rw [HLEN.out] at hy
        have hy' : y < n := by omega
        have HQ := Lib.hid hq
        have hF3 := hF2.set j (y : Int) (.inr ⟨by omega, by omega⟩)
        have hM3 := hM2.setCell (a := ⟨g, j, none⟩) (by simp; omega) (.int .i64 (y : Int))
        clear hq hy
        go_wp2_with (first | (at_lookup; refine wpList_look_some _ rfl _ _ rfl b c M rfl hM2 _ rfl hks y HQ.out ?_) | (at_mapUpdate; refine wpList_keep _ rfl _ _ _ rfl b c M rfl hM3 (by unfold maxLen; omega) _ rfl hks j rfl (by omega) ?_; intro w3 hM4 hg3))
        exact ⟨⟨(j : Int) - 1, c + 1, _, rfl, by omega, by omega, by omega, hM4, by rw [HK.out]; exact HPn.out, hF3.grow hg3⟩, by simp [intOf]⟩
    · obtain rfl : j = -1 := by omega
      obtain ⟨c0, c1, r0, r1⟩ := hF1.cells
      obtain ⟨f0, f1⟩ := hF1.froz
      go_wp2_with fail
      have hpw : Pw ((wr.setCell ⟨w.heap.size, 0, none⟩ (.map (some b))).setCell ⟨w.heap.size, 1, none⟩ (.slice (some ⟨g, 0, none⟩) n n)) b g s.data.toList := by
        refine ⟨⟨M, c, (hM1.setCell (by simp; omega) _).setCell (by simp; omega) _, HP.out⟩, ?_⟩
        rw [HLEN.out, hn]
        refine hF1.nx.of_block ?_
        rw [heap_setCell_other _ _ _ _ (by simp; omega), heap_setCell_other _ _ _ _ (by simp; omega)]
      exact bodyPost_ret (v := plV b g n) (by simp [results, Try.results22, go_sem, plV, r0, r1]) rfl ⟨b, g, rfl, hpw, (hF1.bel.setCell (by simp) _).setCell (by simp) _⟩

set_option maxHeartbeats 800000 in
set_option maxRecDepth 100000 in
theorem findPlaces_three (s : ByteArray) (w : World) (h4 : s.size = 3) :
    Calls Try.prog 22 #[.string s] w (Fpd s.data.toList 0 w) := by
  obtain ⟨i0, hi, hz0, hz1, hz2⟩ := info_parts Try.infoInt
  have hmm := @run_makeMap Try.prog
  have hlen := size_list s
  have HLEN := Lib.hid hlen
  clear hlen
  have hw1 : (s.size : Int) - 4 + 1 = 0 := by omega
  go_enter Try.func22, Try.ntmps22
  go_wp2_with (refine wpList_make_full _ rfl _ _ 53 rfl 0 3 i0 (.int .i64 0) 1 Try.underlying53 hi hz0 hz1 .i64 .i64 _ _ 0 rfl rfl rfl rfl (by omega) (Nat.zero_le _) (Nat.zero_le _) ?_)
  intro w1 hown hgr
  clear hmm
  obtain ⟨b, hb⟩ : ∃ b, w.heap.size + 1 = b := ⟨_, rfl⟩
  obtain ⟨g, hg⟩ : ∃ g, b + 1 = g := ⟨_, rfl⟩
  rw [hb, hg] at hown
  obtain ⟨hF, hM⟩ := fw_start hb hg hown hgr
  rw [hb, hg]
  clear hgr hown
  generalize hB : w1.heap.size = B at *
  have ho := hF.ord
  go_wp2_with fail
  generalize w1.alloc (.cells #[.map (some b), .slice (some ⟨g, 0, none⟩) 0 0] 55) = w2 at *
  clear hB
  go_loopw [5] (fun i wr => i = .int .i64 (-1) ∧ Mp wr b 0 (fun _ => none) ∧ Fw w wr 0 b g B) (fun i _ => (intOf i + 1).toNat)
  case atStart => exact ⟨rfl, hM, hF⟩
  case round =>
    obtain ⟨rfl, hM1, hF1⟩ := hrel
    clear hM hF
    obtain ⟨c0, c1, r0, r1⟩ := hF1.cells
    obtain ⟨f0, f1⟩ := hF1.froz
    go_wp2_with fail
    have hpw : Pw ((wr.setCell ⟨w.heap.size, 0, none⟩ (.map (some b))).setCell ⟨w.heap.size, 1, none⟩ (.slice (some ⟨g, 0, none⟩) 0 0)) b g s.data.toList := by
      refine ⟨⟨_, 0, (hM1.setCell (by simp; omega) _).setCell (by simp; omega) _, Pm.start _ _ (by rw [HLEN.out]; omega)⟩, ?_⟩
      rw [HLEN.out, show s.size - 3 = 0 by omega]
      refine hF1.nx.of_block ?_
      rw [heap_setCell_other _ _ _ _ (by simp; omega), heap_setCell_other _ _ _ _ (by simp; omega)]
    exact bodyPost_ret (v := plV b g 0) (by simp [results, Try.results22, go_sem, plV, r0, r1]) rfl ⟨b, g, rfl, hpw, (hF1.bel.setCell (by simp) _).setCell (by simp) _⟩

set_option maxHeartbeats 800000 in
set_option maxRecDepth 100000 in
theorem findPlaces_less (s : ByteArray) (w : World) (h4 : s.size < 3) :
    Calls Try.prog 22 #[.string s] w (Fpd s.data.toList 0 w) := by
  obtain ⟨i0, hi, hz0, hz1, hz2⟩ := info_parts Try.infoInt
  have hmm := @run_makeMap Try.prog
  have hlen := size_list s
  have HLEN := Lib.hid hlen
  clear hlen
  have hw1 : (s.size : Int) - 4 + 1 < 0 := by omega
  have hw2 : ¬ 0 ≤ (s.size : Int) - 4 + 1 := by omega
  have hw3 : ¬ 0 < (s.size : Int) - 4 + 1 := by omega
  go_enter Try.func22, Try.ntmps22
  go_wp2_with (refine wpList_make_full _ rfl _ _ 53 rfl 0 3 i0 (.int .i64 0) 1 Try.underlying53 hi hz0 hz1 .i64 .i64 _ _ 0 rfl rfl rfl rfl (by omega) (Nat.zero_le _) (Nat.zero_le _) ?_)
  intro w1 hown hgr
  clear hmm
  obtain ⟨b, hb⟩ : ∃ b, w.heap.size + 1 = b := ⟨_, rfl⟩
  obtain ⟨g, hg⟩ : ∃ g, b + 1 = g := ⟨_, rfl⟩
  rw [hb, hg] at hown
  obtain ⟨hF, hM⟩ := fw_start hb hg hown hgr
  rw [hb, hg]
  clear hgr hown
  generalize hB : w1.heap.size = B at *
  have ho := hF.ord
  go_wp2_with fail
  generalize w1.alloc (.cells #[.map (some b), .slice (some ⟨g, 0, none⟩) 0 0] 55) = w2 at *
  clear hB
  go_loopw [5] (fun i wr => i = .int .i64 (-1) ∧ Mp wr b 0 (fun _ => none) ∧ Fw w wr 0 b g B) (fun i _ => (intOf i + 1).toNat)
  case atStart => exact ⟨rfl, hM, hF⟩
  case round =>
    obtain ⟨rfl, hM1, hF1⟩ := hrel
    clear hM hF
    obtain ⟨c0, c1, r0, r1⟩ := hF1.cells
    obtain ⟨f0, f1⟩ := hF1.froz
    go_wp2_with fail
    have hpw : Pw ((wr.setCell ⟨w.heap.size, 0, none⟩ (.map (some b))).setCell ⟨w.heap.size, 1, none⟩ (.slice (some ⟨g, 0, none⟩) 0 0)) b g s.data.toList := by
      refine ⟨⟨_, 0, (hM1.setCell (by simp; omega) _).setCell (by simp; omega) _, Pm.start _ _ (by rw [HLEN.out]; omega)⟩, ?_⟩
      rw [HLEN.out, show s.size - 3 = 0 by omega]
      refine hF1.nx.of_block ?_
      rw [heap_setCell_other _ _ _ _ (by simp; omega), heap_setCell_other _ _ _ _ (by simp; omega)]
    exact bodyPost_ret (v := plV b g 0) (by simp [results, Try.results22, go_sem, plV, r0, r1]) rfl ⟨b, g, rfl, hpw, (hF1.bel.setCell (by simp) _).setCell (by simp) _⟩

theorem findPlaces_any (s : ByteArray) (w : World) (hs : s.size ≤ 16777216) :
    Calls Try.prog 22 #[.string s] w (Fpd s.data.toList (s.size - 3) w) := by
  by_cases h4 : 4 ≤ s.size
  · exact findPlaces_big s w hs h4 _ rfl
  · rw [show s.size - 3 = 0 by omega]
    by_cases h3 : s.size = 3
    · exact findPlaces_three s w h3
    · exact findPlaces_less s w (by omega)

end Go.Proofs.Ytoglbmibbdpjcaa
