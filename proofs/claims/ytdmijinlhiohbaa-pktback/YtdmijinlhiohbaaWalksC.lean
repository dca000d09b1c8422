/-
  WALKS OF LAYER 7: rows of lines; few, As, Same (knapsacklaw07).
-/
import Derived.Test.YtdmijinlhiohbaaWalksB
import Derived.Deep.AppendLies
namespace Go.Proofs.Ytdmijinlhiohbaa
open Go.RowKit
set_option linter.unusedVariables false
set_option linter.unusedSimpArgs false
open Pk (Ln)

/-- A slice of lines in memory, of either type. -/
structure LinesAt (w : World) (v : Value) (L : List Ln) : Prop where
  out : (v = .slice none 0 0 ∧ L = []) ∨ ∃ a cap, v = .slice (some a) L.length cap ∧ ∀ i e, L[i]? = some e → w.cell? (a.add (i * 2)) = some (.int .i64 e.kind) ∧ w.cell? ((a.add (i * 2)).add 1) = some (.string e.load)
theorem LinesAt.form {w : World} {v : Value} {L : List Ln} (h : LinesAt w v L) : ∃ ao cap, v = .slice ao L.length cap := by
  rcases h.out with ⟨rfl, rfl⟩ | ⟨a, cap, rfl, _⟩
  · exact ⟨none, 0, rfl⟩
  · exact ⟨some a, cap, rfl⟩
theorem add_block (a : Addr) (n : Nat) : (a.add n).block = a.block := by unfold Addr.add; split <;> rfl
theorem add_add_mid (a : Addr) (n k : Nat) (hk : k ≠ 0) : (a.add n).add k = ⟨a.block, a.off + n + k, none⟩ := by
  unfold Addr.add
  rw [if_neg hk]
  split
  · subst_vars; simp
  · rfl
theorem add_off (a : Addr) (n : Nat) : (a.add n).off = a.off + n := by unfold Addr.add; split <;> simp_all
theorem LinesAt.elem {w : World} {cap : Nat} {ao : Option Addr} {n : Nat} {L : List Ln} (h : LinesAt w (.slice ao n cap) L) (i : Nat) (e : Ln) (hi : L[i]? = some e) :
    ∃ a, ao = some a ∧ w.cell? (a.add (i * 2)) = some (.int .i64 e.kind) ∧ w.cell? ⟨a.block, a.off + i * 2 + 1, none⟩ = some (.string e.load) := by
  rcases h.out with ⟨_, rfl⟩ | ⟨a, cap', hv, hc⟩
  · simp at hi
  · simp only [Value.slice.injEq] at hv
    obtain ⟨h0, h1⟩ := hc i e hi
    rw [add_add_mid _ _ _ (by decide)] at h1
    exact ⟨a, hv.1, h0, h1⟩
theorem LinesAt.below {w w' : World} {v : Value} {L : List Ln} (h : LinesAt w v L) (hb : Below w.heap.size w w') : LinesAt w' v L := by
  refine ⟨?_⟩
  rcases h.out with h0 | ⟨a, cap, hv, hc⟩
  · exact .inl h0
  · refine .inr ⟨a, cap, hv, fun i e hi => ?_⟩
    obtain ⟨h0, h1⟩ := hc i e hi
    exact ⟨by rw [hb.cell (World.block_lt_of_cell? w _ h0)]; exact h0, by rw [hb.cell (World.block_lt_of_cell? w _ h1)]; exact h1⟩

/-- A line's cells. -/
def lnC (p : Ln) : List Value := [.int .i64 p.kind, .string p.load]
theorem lnC_length (p : Ln) : (lnC p).length = 2 := rfl
theorem lnC_one (p : Ln) : ∀ v ∈ lnC p, v.oneCell' = true := by
  intro v hv
  simp only [lnC, List.mem_cons, List.not_mem_nil, or_false] at hv
  rcases hv with rfl | rfl <;> rfl
/-- A row of lines that a call has made, of the type t. -/
def OwnR (t : TypeId) (w : World) (base : Nat) (v : Value) (L : List Ln) : Prop := w.ownsRow base t 2 v L.length (L.flatMap lnC)
theorem own_push {t : TypeId} {w : World} {base : Nat} {v : Value} {L : List Ln} {p : Ln} (h : w.ownsRow base t 2 v (L.length + 1) (L.flatMap lnC ++ lnC p)) : OwnR t w base v (L ++ [p]) := by
  unfold OwnR
  rw [List.flatMap_append, List.length_append]
  simpa using h
theorem own_nil (t : TypeId) (w : World) (base : Nat) : OwnR t w base (.slice none 0 0) [] := World.ownsRow_nil _ _ _ _
theorem own_below {w w' : World} {B e k n : Nat} {v : Value} {xs : List Value} (h : w.ownsRow B e k v n xs) (hb : Below w.heap.size w w') : w'.ownsRow B e k v n xs := by
  refine ⟨h.1, h.2.imp id ?_⟩
  rintro ⟨g, cap, cur, hv, hg, hh, hrest⟩
  have hlt : g < w.heap.size := (Array.getElem?_eq_some_iff.1 hh).1
  exact ⟨g, cap, cur, hv, hg, (hb.block g hlt).trans hh, hrest⟩
theorem flat_get (L : List Ln) : ∀ (i : Nat) (p : Ln), L[i]? = some p → ∀ (j : Nat) (x : Value), (lnC p)[j]? = some x → (L.flatMap lnC)[i * 2 + j]? = some x := by
  induction L with
  | nil => intro i l hi; simp at hi
  | cons a r ih =>
    intro i l hi j x hx
    have ha := lnC_length a
    rw [List.flatMap_cons]
    cases i with
    | zero =>
      simp at hi; subst hi
      have hj : j < 2 := by
        have := (List.getElem?_eq_some_iff.1 hx).1; rw [lnC_length] at this; omega
      rw [Nat.zero_mul, Nat.zero_add, List.getElem?_append_left (by omega)]
      exact hx
    | succ i =>
      simp at hi
      rw [List.getElem?_append_right (by omega), show (i + 1) * 2 + j - (lnC a).length = i * 2 + j by omega]
      exact ih i l hi j x hx
theorem OwnR.rows {t : TypeId} {w : World} {base : Nat} {v : Value} {L : List Ln} (h : OwnR t w base v L) : LinesAt w v L := by
  refine ⟨?_⟩
  rcases h.2 with ⟨rfl, h0⟩ | ⟨g, cap, cur, rfl, hg, hb⟩
  · exact .inl ⟨rfl, by simpa using h0⟩
  · refine .inr ⟨⟨g, 0, none⟩, cap, rfl, fun i p hi => ?_⟩
    have key : ∀ j x, (lnC p)[j]? = some x → w.cell? ⟨g, i * 2 + j, none⟩ = some x := fun j x hx => by
      have := World.ownsRow.cells h (g := g) rfl (i * 2 + j) x (flat_get L i p hi j x hx)
      rw [Addr.add_mid] at this
      simpa using this
    have k0 := key 0 _ rfl
    have k1 := key 1 _ rfl
    refine ⟨?_, ?_⟩
    · rw [Addr.add_mid]; simpa using k0
    · rw [Addr.add_mid, Addr.add_mid]; simpa using k1
theorem news_row {w : World} {g : Nat} {l : List Value} {t : TypeId} (h : w.heap[g]? = some (.cells l.toArray t)) : ∀ j u, l[j]? = some u → w.cell? ((⟨g, 0, none⟩ : Addr).add j) = some u := fun j u hu => by
  rw [Addr.add_mid, Nat.zero_add, cell_of_row _ _ _ _ t (0, 0) h]
  simpa using hu
theorem infoLn : (Try.prog.info? 36).map (fun i => (i.zero, i.size, i.bytes)) = some (some (.agg #[.int .i64 0, .string ⟨#[]⟩]), 2, 24) := by kernel_rfl
theorem infoPk : (Try.prog.info? 33).map (fun i => (i.zero, i.size, i.bytes)) = some (some (.agg #[.int .i64 0, .string ⟨#[]⟩]), 2, 24) := by kernel_rfl
theorem region_tail {P : Program} {id : Nat} {Q : Exit → Act → World → Prop} {a : Act} {w : World} {l : List Oper} (n : Nat) (hm : P.follows .mixedOrders = true) (hB : Region.lexTailB .any l.toArray n = true)
    (h : wpStill P l.toArray w.drew (fun a' => wpList P l.toArray Q (l.drop n) a' w.drew) (l.take n) a) : (Code.region id l.toArray true).wp P Q a w := wp_region_still_tail n hm hB h
theorem region_still {P : Program} {id : Nat} {Q : Exit → Act → World → Prop} {a : Act} {w : World} {l : List Oper} (hm : P.follows .mixedOrders = true) (hB : Region.lexB .any l.toArray = true)
    (h : wpStill P l.toArray w.drew (fun a' => Q .normal a' w.drew) l a) : (Code.region id l.toArray true).wp P Q a w := wp_region_still_lit hm hB h

/-! ### few -/
def FewR (L : List Ln) (r : Ending) : Prop := ∃ b, r = .returned (.bool b) ∧ (b = true → L.length ≤ 30 ∧ ∀ e ∈ L, e.load.size ≤ 1100)
set_option maxHeartbeats 800000 in
set_option maxRecDepth 100000 in
theorem few_any (v : Value) (L : List Ln) (w : World) (hL : LinesAt w v L) (hl : L.length ≤ maxLen) :
    Calls Try.prog 6 #[v] w fun r w' => FewR L r ∧ w = w' := by
  obtain ⟨ao, cap, rfl⟩ := hL.form
  unfold maxLen at hl
  have HL := Lib.hid hL
  clear hL
  go_enter Try.func6, Try.ntmps6
  go_wp2_with fail
  go_loop [3] (fun i => ∃ k : Nat, k ≤ L.length ∧ k ≤ 30 ∧ i = .int .i64 k ∧ Hid (∀ i e, L[i]? = some e → i < k → e.load.size ≤ 1100)) (fun i => 30 - (intOf i).toNat)
  case atStart => exact ⟨0, by omega, by omega, rfl, fun i e _ h => absurd h (by omega)⟩
  case round =>
    obtain ⟨k, hk, hk30, rfl, HO⟩ := hrel
    by_cases hlt : k < L.length
    · have hlt' : (k : Int) < (L.length : Int) := by omega
      by_cases h30 : k < 30
      · have h30' : (k : Int) < 30 := by omega
        have hk0 : (0 : Int) ≤ (k : Int) := by omega
        obtain ⟨e, he⟩ : ∃ e, L[k]? = some e := ⟨L[k], List.getElem?_eq_getElem hlt⟩
        obtain ⟨a, ea, c0, c1⟩ := HL.out.elem k e he
        subst ea
        have hA1 := add_block a (k * 2)
        have hA2 := add_off a (k * 2)
        have HO2 : Hid (e.load.size ≤ 1100 → ∀ i x, L[i]? = some x → i < k + 1 → x.load.size ≤ 1100) := fun hh i x hx hi => by
          by_cases hik : i = k
          · subst hik; rw [he] at hx; cases hx; exact hh
          · exact HO.out i x hx (by omega)
        clear he HO
        generalize e.kind = ek at *
        generalize e.load = el at *
        by_cases q1 : (1100 : Int) < (el.size : Int)
        · go_wp2_with fail
          go_ret
          exact ⟨⟨false, rfl, fun h => by cases h⟩, rfl⟩
        · go_wp2_with fail
          go_round
          case rel => exact ⟨k + 1, by omega, by omega, by go_num, HO2.out (by omega)⟩
          case measure => simp [intOf]; omega
      · have h30' : ¬ (k : Int) < 30 := by omega
        have hl30 : ¬ (L.length : Int) ≤ 30 := by omega
        go_wp2_with fail
        go_ret
        exact ⟨⟨_, rfl, fun h => by simp at h <;> omega⟩, rfl⟩
    · have hlt' : ¬ (k : Int) < (L.length : Int) := by omega
      have HQ := Lib.hid (show L.length ≤ 30 ∧ ∀ e ∈ L, e.load.size ≤ 1100 from ⟨by omega, fun e hm => by
        obtain ⟨i, hi, rfl⟩ := List.getElem_of_mem hm
        exact HO.out i _ (List.getElem?_eq_getElem hi) (by omega)⟩)
      go_wp2_with fail
      go_ret
      exact ⟨⟨_, rfl, fun _ => HQ.out⟩, rfl⟩

/-! ### As -/
theorem take_push (L : List Ln) (k : Nat) (e : Ln) (h : L[k]? = some e) : L.take (k + 1) = L.take k ++ [e] := by
  obtain ⟨hk, rfl⟩ := List.getElem?_eq_some_iff.1 h
  rw [List.take_succ_eq_append_getElem hk]

set_option maxHeartbeats 1600000 in
set_option maxRecDepth 100000 in
theorem as_any (v : Value) (L : List Ln) (w : World) (hL : LinesAt w v L) (hl : L.length ≤ 3000) :
    Calls Try.prog 10 #[v] w fun r w' => ∃ v', r = .returned v' ∧ OwnR 36 w' w.heap.size v' L ∧ Below w.heap.size w w' := by
  obtain ⟨ao, cap, rfl⟩ := hL.form
  have HL := Lib.hid hL
  clear hL
  obtain ⟨i0, hi, hz0, hz1, hz2⟩ := info_parts infoLn
  go_enter Try.func10, Try.ntmps10
  go_wp2_with fail
  go_loopw [3, 4] (fun v i wr => ∃ (k : Nat) (acc : List Ln), k ≤ L.length ∧ i = .int .i64 k ∧ acc.length = k ∧ Hid (acc = L.take k) ∧ OwnR 36 wr w.heap.size v acc ∧ Below w.heap.size w wr) (fun _ i _ => L.length - (intOf i).toNat)
  case atStart => exact ⟨0, [], by omega, rfl, rfl, rfl, own_nil _ _ _, Below.refl _ _⟩
  case round =>
    obtain ⟨k, acc, hk, rfl, hal, HA, hown, hb⟩ := hrel
    by_cases hlt : k < L.length
    · have hlt' : (k : Int) < (L.length : Int) := by omega
      have hk0 : (0 : Int) ≤ (k : Int) := by omega
      obtain ⟨e, he⟩ : ∃ e, L[k]? = some e := ⟨L[k], List.getElem?_eq_getElem hlt⟩
      obtain ⟨a, ea, c0, c1⟩ := (HL.out.below hb).elem k e he
      subst ea
      have hA1 := add_block a (k * 2)
      have hA2 := add_off a (k * 2)
      have HA2 := Lib.hid (show acc ++ [e] = L.take (k + 1) by rw [take_push _ _ _ he, HA.out])
      have HCC := Lib.hid (fun W (q : Below w.heap.size w W) => (by
        obtain ⟨a', e', h'⟩ := (HL.out.below q).elem k e he
        cases e'
        exact ⟨q, h'⟩ : Below w.heap.size w W ∧ W.cell? (a.add (k * 2)) = some (.int .i64 e.kind) ∧ W.cell? ⟨a.block, a.off + k * 2 + 1, none⟩ = some (.string e.load)))
      have HLOW := Lib.hid hown.lt
      have hbs := hb.size
      clear he HA
      obtain ⟨ek, el⟩ := e
      go_wp2_with fail
      go_region_held3 (fun w' => Below w.heap.size w w' ∧ w'.cell? (a.add (k * 2)) = some (.int .i64 ek) ∧ w'.cell? ⟨a.block, a.off + k * 2 + 1, none⟩ = some (.string el))
        (first
          | exact HCC.out _ (below_drewN hb 1)
          | exact HCC.out _ (below_drewN (hb.alloc hb.size _) 1)
          | exact HCC.out _ ((below_drewN (hb.alloc hb.size _) 1).grown hgrow (by simp; omega) (fun k hk => (HLOW.out k hk).1)))
        ((refine step_append_lies _ (by rfl) _ _ _ (by rfl) w.heap.size 36 i0 _ 2 24 Try.underlying30 hi hz0 hz1 hz2 rfl (by omega) u3 acc.length (acc.flatMap lnC) (by rfl) ((hown.alloc _).drew)
            ⟨wr.heap.size, 0, none⟩ 1 1 [.int .i64 ek, .string el] (by rfl) (by rfl) (World.news_of_block (cs := #[.int .i64 ek, .string el]) (t := 36) (fr := (0, 0)) (heap_alloc_new wr _)) (lnC_one ⟨ek, el⟩)
            (by omega) (by unfold maxLen; omega) (by omega) (by simp; omega) (wr.heap.size + 1) (by simp) ?_; intro gg cap' w1 hown1 hgrow hat hlt9))
      rename_i hH
      have HO2 := Lib.hid (own_push (p := ⟨ek, el⟩) hown1)
      clear hown hown1 hgrow
      go_wp2
      go_roundw
      case rel => exact ⟨k + 1, _, by omega, by go_num, by simp; omega, HA2, by simpa [hal] using HO2.out, hH.1⟩
      case measure => simp [intOf]; omega
    · have HT := Lib.hid (show acc = L by rw [HA.out, List.take_of_length_le (by omega)])
      rw [HT.out] at hown
      go_wp2_with fail
      go_ret
      exact ⟨_, rfl, hown, hb⟩

end Go.Proofs.Ytdmijinlhiohbaa
