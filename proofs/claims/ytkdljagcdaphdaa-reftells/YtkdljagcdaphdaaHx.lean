/-
  IDS AS TEXTS (layer 2, as layer 9 needs it): Hex and Unhex, of the program and of the document.
-/
import Derived.Test.YtkdljagcdaphdaaFind
import Derived.Test.YtkdljagcdaphdaaShelf
import Derived.WalkKit
import Derived.WalkSpells
import Derived.WalkLawsBesides
import Derived.Lib.Hide
import Derived.Laws.BitsLemmas
import Derived.Laws.BitsAllLaws
import Derived.Deep.QuietTactic
import Derived.BigQuiet
import Derived.StillTailTactics
import Derived.IntWalk
import Derived.Laws.Rows
import Derived.Deep.WholeRow
import Derived.Laws.CopyOwn
import Derived.Lib.ConvBytes
import Derived.Laws.AppendOwn
import Derived.Laws.IdiomStrings
import Derived.Deep.Cut
import Derived.Deep.CutRange
import Derived.Deep.RegionHeld3
import Derived.ChangeKeysEq
import Derived.Laws.StructEq
namespace Go.Proofs.Ytkdljagcdaphdaa
namespace S2
open Go.RowKit
set_option linter.unusedVariables false
set_option linter.unusedSimpArgs false

theorem held_set {wr : World} {g : Nat} {cs : Array Value} {t : TypeId} (h : wr.heap[g]? = some (.cells cs t)) (i : Nat) (v : Value) : (wr.setCell ⟨g, i, none⟩ v).heap[g]? = some (.cells (cs.setIfInBounds i v) t) := heap_setCell_same wr g i cs t v h
theorem held_apart {wr : World} {k : Nat} {x : Option Obj} (h : wr.heap[k]? = x) (g i : Nat) (v : Value) (hne : k ≠ g) : (wr.setCell ⟨g, i, none⟩ v).heap[k]? = x := (heap_setCell_other wr ⟨g, i, none⟩ k v hne).trans h
theorem len_data (r : ByteArray) : r.data.toList.length = r.size := by simp
def bv (x : UInt8) : Value := .int .u8 (x.toNat : Int)
/-- Thirty-two places, the first of them filled. -/
def idA (l : List UInt8) : Array Value := (l.map bv ++ List.replicate (32 - l.length) (Value.int .u8 0)).toArray
theorem idA_size (l : List UInt8) (h : l.length ≤ 32) : (idA l).size = 32 := by simp [idA]; omega
theorem idA_get (l : List UInt8) (i : Nat) (h : i < l.length) : (idA l)[i]? = some (.int .u8 ((l.getD i 0).toNat : Int)) := by
  simp only [idA, List.getElem?_toArray, List.getD_eq_getElem?_getD]
  rw [List.getElem?_append_left (by simpa using h), List.getElem?_map, List.getElem?_eq_getElem h]
  rfl
theorem idA_rest (l : List UInt8) (i : Nat) (h : l.length ≤ i) (h2 : i < 32) : (idA l)[i]? = some (.int .u8 0) := by
  simp only [idA, List.getElem?_toArray]
  rw [List.getElem?_append_right (by simpa using h), List.getElem?_replicate, if_pos (by simp; omega)]
theorem idA_push (l : List UInt8) (x : UInt8) (h : l.length < 32) : (idA l).setIfInBounds l.length (.int .u8 (x.toNat : Int)) = idA (l ++ [x]) := by
  apply Array.ext_getElem?
  intro i
  simp only [idA, List.setIfInBounds_toArray, List.getElem?_toArray]
  rw [List.set_append_right _ _ (by simp)]
  simp only [List.length_map, Nat.sub_self, List.map_append, List.map_cons, List.map_nil, List.length_append, List.length_cons, List.length_nil, List.append_assoc]
  rw [show 32 - l.length = (32 - (l.length + (0 + 1))) + 1 by omega, List.replicate_succ, List.set_cons_zero]
  rfl
theorem idA_one (l : List UInt8) : (idA l).all (·.oneCell') = true := by
  rw [Array.all_eq_true_iff_forall_mem]
  intro x hx
  simp only [idA, List.mem_toArray, List.mem_append, List.mem_map, List.mem_replicate] at hx
  rcases hx with ⟨y, _, rfl⟩ | ⟨_, rfl⟩ <;> rfl
theorem info24 : (Try.prog.info? 35).map (fun i => (i.zero, i.size)) = some (some (.agg (idA [])), 32) := by kernel_rfl
theorem idsize {l : List UInt8} (h : l.length ≤ 32) : (Try.prog.info? 35).map (·.size) = some (idA l).size := by rw [idA_size l h]; exact (zero_of_info info24).2
theorem range_take (f : Nat → UInt8) (k : Nat) : (List.range (k + 1)).map f = (List.range k).map f ++ [f k] := by rw [List.range_succ, List.map_append]; rfl
/-- An array of zeros, built: its cells stay under a name. -/
theorem wpList_build_zero {P : Program} {ops : Array Oper} {rest : List Oper} {o : Oper} {a : Act} {w : World} {Q : Exit → Act → World → Prop} (hg : o.guard = none) (t : TypeId) (ho : o.op = .build t #[]) (cs : Array Value)
    (hb : P.built t [] = some cs) (h : ∀ zz, Hid (zz = cs) → wpList P ops Q rest (a.put o.dst (.agg zz)) w) : wpList P ops Q (o :: rest) a w := by
  refine wpList_build hg t #[] ho (by simp [hb]) ?_
  exact h _ (by simp [hb, Hid])
/-- 'string([]byte{x})': the row that was just laid, as a string. -/
theorem conv_one (w : World) (b : UInt8) (x : Int) (h : x = (b.toNat : Int)) : (convert 56 9 (.slice (some ⟨w.heap.size, 0, none⟩) 1 1)).run Try.prog (w.alloc (.cells #[.int .u8 x] 5)) = .ok (.string ⟨#[b]⟩) (w.alloc (.cells #[.int .u8 x] 5)) := by
  subst h
  exact run_convert_bytes_back (P := Try.prog) (w.alloc (.cells #[.int .u8 (b.toNat : Int)] 5)) 56 9 5 ⟨w.heap.size, 0, none⟩ 1 [b] Try.underlying56 Try.underlying5 Try.underlying9 (fun j hj => by
    have hj0 : j = 0 := by simpa using hj
    subst hj0
    exact cell_one_new w _ 5 0 _ rfl)
theorem app_data (a : ByteArray) (b : UInt8) : (a ++ ByteArray.mk #[b]).data.toList = a.data.toList ++ [b] := by
  rw [ByteArray.data_append]; simp
def hexd (n : Nat) : UInt8 := if n < 10 then UInt8.ofNat (48 + n) else UInt8.ofNat (87 + n)
def hexL (l : List UInt8) : List UInt8 := l.flatMap fun x => [hexd (x.toNat / 16), hexd (x.toNat % 16)]
theorem hexL_length (l : List UInt8) : (hexL l).length = 2 * l.length := by
  induction l with
  | nil => rfl
  | cons x r ih => simp only [hexL, List.flatMap_cons, List.length_append, List.length_cons] at ih ⊢; simp at ih ⊢; omega
theorem hexL_snoc (l : List UInt8) (x : UInt8) : hexL (l ++ [x]) = hexL l ++ [hexd (x.toNat / 16)] ++ [hexd (x.toNat % 16)] := by simp [hexL]
def figs : ByteArray := ⟨#[48, 49, 50, 51, 52, 53, 54, 55, 56, 57, 97, 98, 99, 100, 101, 102]⟩
theorem figs_get : ∀ k : Fin 16, figs.data.toList.getD k.val 0 = hexd k.val := by decide
theorem fig_lit (k : Nat) (h : k < (ByteArray.mk #[48, 49, 50, 51, 52, 53, 54, 55, 56, 57, 97, 98, 99, 100, 101, 102]).size) : (ByteArray.mk #[48, 49, 50, 51, 52, 53, 54, 55, 56, 57, 97, 98, 99, 100, 101, 102])[k]'h = hexd k := by
  have h16 : k < 16 := h
  have h2 := figs_get ⟨k, h16⟩
  rw [← h2]
  show _ = figs.data.toList.getD k 0
  rw [List.getD_eq_getElem?_getD, List.getElem?_eq_getElem (show k < figs.data.toList.length from h16)]
  rfl
/-- Places of bytes, the first of them filled. -/
def fA (n : Nat) (l : List UInt8) : Array Value := (l.map bv ++ List.replicate (n - l.length) (Value.int .u8 0)).toArray
theorem fA_get (n : Nat) (l : List UInt8) (i : Nat) (h : i < l.length) : (fA n l)[i]? = some (.int .u8 ((l.getD i 0).toNat : Int)) := by
  simp only [fA, List.getElem?_toArray, List.getD_eq_getElem?_getD]
  rw [List.getElem?_append_left (by simpa using h), List.getElem?_map, List.getElem?_eq_getElem h]
  rfl
theorem fA_rest (n : Nat) (l : List UInt8) (i : Nat) (h : l.length ≤ i) (h2 : i < n) : (fA n l)[i]? = some (.int .u8 0) := by
  simp only [fA, List.getElem?_toArray]
  rw [List.getElem?_append_right (by simpa using h), List.getElem?_replicate, if_pos (by simp; omega)]
theorem fA_push (n : Nat) (l : List UInt8) (x : UInt8) (h : l.length < n) : (fA n l).setIfInBounds l.length (.int .u8 (x.toNat : Int)) = fA n (l ++ [x]) := by
  apply Array.ext_getElem?
  intro i
  simp only [fA, List.setIfInBounds_toArray, List.getElem?_toArray]
  rw [List.set_append_right _ _ (by simp)]
  simp only [List.length_map, Nat.sub_self, List.map_append, List.map_cons, List.map_nil, List.length_append, List.length_cons, List.length_nil, List.append_assoc]
  rw [show n - l.length = (n - (l.length + (0 + 1))) + 1 by omega, List.replicate_succ, List.set_cons_zero]
  rfl
theorem index_id (ia : Array Value) (k : Nat) (hk : k < 32) (v : Value) (hv : ia[k]? = some v) (w : World) : (Instr.index 35 (.agg ia) (.int .i64 (k : Int))).run Try.prog w = .ok v w := by
  have h1 : (0 : Int) ≤ (k : Int) ∧ (k : Int) < ((32 : Nat) : Int) := by omega
  simp [Instr.index, asIntOf, run_underlying Try.underlying35, Result.andThen, h1, Try.sizeOf5, part, Try.isAgg5, hv, hk]
set_option maxHeartbeats 800000 in
set_option maxRecDepth 100000 in
theorem hex_any (a : List UInt8) (w : World) (ha : a.length = 32) :
    Calls Try.prog 24 #[.agg (idA a)] w fun r w' => r = .returned (.string ⟨(hexL a).toArray⟩) ∧ Below w.heap.size w w' := by
  have HA := Lib.hid ha
  have CA := Lib.hid (fun (i : Nat) (hi : i < 32) => idA_get a i (by omega))
  have HI := Lib.hid (idsize (l := a) (by omega))
  have HS := Lib.hid (idA_size a (by omega))
  clear ha
  generalize hia : idA a = ia at CA HI HS
  clear hia
  have hu := Lib.hid Try.underlying35
  go_enter Try.func24, Try.ntmps24
  go_wp2_with (refine wpList_load_row rfl 35 _ rfl w.heap.size rfl _ _ _ _ (heap_alloc2_old _ _ _) hu.out rfl HI.out ?_)
  go_loopw [7] (fun v wr => ∃ (k : Nat), k ≤ 32 ∧ v = .int .i64 k ∧ Hid (wr.heap[w.heap.size + 1]? = some (.cells (fA 64 (hexL (a.take k))) 81)) ∧ Below w.heap.size w wr) (fun v _ => 32 - (intOf v).toNat)
  case atStart => exact ⟨0, by omega, rfl, heap_alloc2_new _ _ _, ((Below.refl _ _).alloc (Nat.le_refl _) _).alloc (by simp) _⟩
  case round =>
    obtain ⟨k, hk, rfl, E1, hbr⟩ := hrel
    by_cases hlt : k < 32
    · have c1 := index_id ia k hlt _ (CA.out k hlt) wr
      have HT := Lib.hid (show hexL (a.take (k + 1)) = hexL (a.take k) ++ [hexd ((a.getD k 0).toNat / 16)] ++ [hexd ((a.getD k 0).toNat % 16)] by
        rw [List.take_add_one, List.getElem?_eq_getElem (by rw [HA.out]; exact hlt)]
        simp only [Option.toList_some, hexL_snoc, List.getD_eq_getElem?_getD, List.getElem?_eq_getElem (show k < a.length by rw [HA.out]; exact hlt), Option.getD_some])
      have HL := Lib.hid (show (hexL (a.take k)).length = 2 * k by rw [hexL_length, List.length_take, HA.out, Nat.min_eq_left hk])
      have hx := (a.getD k 0).toNat_lt
      generalize a.getD k 0 = x at c1 HT hx
      have c2 := (cell_of_row wr (w.heap.size + 1) (2 * k) _ _ _ E1.out).trans (fA_rest 64 _ (2 * k) (by rw [HL.out]; omega) (by omega))
      have c3 := (cell_of_row wr (w.heap.size + 1) (2 * k + 1) _ _ _ E1.out).trans (fA_rest 64 _ (2 * k + 1) (by rw [HL.out]; omega) (by omega))
      have f2 := frozen_of_row wr (w.heap.size + 1) (2 * k) _ _ E1.out
      have f3 := frozen_of_row wr (w.heap.size + 1) (2 * k + 1) _ _ E1.out
      have hlt' : (k : Int) < 32 := by omega
      go_wp2
      simp only [fig_lit]
      refine ⟨⟨k + 1, by omega, by go_num, ?_, (hbr.setCell (by simp) _).setCell (by simp) _⟩, by simp [intOf]; omega⟩
      have h1 := held_set E1.out (2 * k) (.int .u8 ((hexd (x.toNat / 16)).toNat : Int))
      have e1 := fA_push 64 (hexL (a.take k)) (hexd (x.toNat / 16)) (by rw [HL.out]; omega)
      rw [HL.out] at e1
      rw [e1] at h1
      have h2 := held_set h1 (2 * k + 1) (.int .u8 ((hexd (x.toNat % 16)).toNat : Int))
      have e2 := fA_push 64 (hexL (a.take k) ++ [hexd (x.toNat / 16)]) (hexd (x.toNat % 16)) (by rw [List.length_append, HL.out]; simp; omega)
      rw [List.length_append, HL.out, List.length_singleton] at e2
      rw [e2] at h2
      rw [HT.out]
      exact h2
    · have HK := Lib.hid (show a.take k = a by rw [show k = 32 by omega, ← HA.out]; exact List.take_length)
      rw [HK.out] at E1
      have hl : (hexL a).length = 64 := by rw [hexL_length, HA.out]
      have hcv := run_convert_bytes_back (P := Try.prog) wr 56 9 5 ⟨w.heap.size + 1, 0, none⟩ 64 (hexL a) Try.underlying56 Try.underlying5 Try.underlying9 (fun j hj => by
        have hadd : (⟨w.heap.size + 1, 0, none⟩ : Addr).add j = ⟨w.heap.size + 1, j, none⟩ := by unfold Addr.add; split <;> simp_all
        rw [hadd, cell_of_row wr _ j _ _ _ E1.out, fA_get 64 _ j hj, List.getD_eq_getElem?_getD, List.getElem?_eq_getElem hj]
        rfl)
      rw [hl] at hcv
      clear hl
      go_wp2
      go_ret
      exact ⟨rfl, hbr⟩
theorem hexd_lo (n : Int) (h0 : 0 ≤ n) (h : n < 10) : 48 + n = ((hexd n.toNat).toNat : Int) := by
  obtain ⟨k, rfl⟩ := Int.eq_ofNat_of_zero_le h0
  have hk : k < 10 := by omega
  simp [hexd, hk, UInt8.toNat_ofNat']; omega
theorem hexd_hi (n : Int) (h0 : 10 ≤ n) (h : n < 16) : 87 + n = ((hexd n.toNat).toNat : Int) := by
  obtain ⟨k, rfl⟩ := Int.eq_ofNat_of_zero_le (show 0 ≤ n by omega)
  have hk : ¬ k < 10 := by omega
  simp [hexd, hk, UInt8.toNat_ofNat']; omega
set_option maxRecDepth 100000 in
theorem digit_any (n : Int) (w : World) (h0 : 0 ≤ n) (h : n < 16) :
    Calls Try.prog 41 #[.int .i64 n] w fun r w' => r = .returned (.string ⟨#[hexd n.toNat]⟩) ∧ Below w.heap.size w w' := by
  by_cases h10 : n < 10
  · have hcv := conv_one w (hexd n.toNat) (48 + n) (hexd_lo n h0 h10)
    go_enter Try.func41, Try.ntmps41
    go_wp2
    go_ret
    exact ⟨rfl, (Below.refl _ _).alloc (Nat.le_refl _) _⟩
  · have hcv := conv_one w (hexd n.toNat) (87 + n) (hexd_hi n (by omega) h)
    go_enter Try.func41, Try.ntmps41
    go_wp2
    go_ret
    exact ⟨rfl, (Below.refl _ _).alloc (Nat.le_refl _) _⟩
set_option maxHeartbeats 1600000 in
set_option maxRecDepth 100000 in
theorem refhex_any (a : List UInt8) (w : World) (ha : a.length = 32) :
    Calls Try.prog 27 #[.agg (idA a)] w fun r w' => r = .returned (.string ⟨(hexL a).toArray⟩) ∧ Below w.heap.size w w' := by
  have HA := Lib.hid ha
  have CA := Lib.hid (fun (i : Nat) (hi : i < 32) => idA_get a i (by omega))
  clear ha
  generalize hia : idA a = ia at CA
  clear hia
  go_enter Try.func27, Try.ntmps27
  go_wp2
  go_loopw [3, 4] (fun v i wr => ∃ (k : Nat) (s : ByteArray), k ≤ 32 ∧ i = .int .i64 k ∧ v = .string s ∧ Hid (s.data.toList = hexL (a.take k)) ∧ Hid (wr.heap[w.heap.size]? = some (.cells ia 35)) ∧ Below w.heap.size w wr ∧ w.heap.size + 1 ≤ wr.heap.size) (fun _ i _ => 32 - (intOf i).toNat)
  case atStart => exact ⟨0, _, by omega, rfl, rfl, rfl, heap_alloc_new _ _, (Below.refl _ _).alloc (Nat.le_refl _) _, by simp⟩
  case round =>
    obtain ⟨k, s, hk, rfl, rfl, HS, E0, hbr, hsz⟩ := hrel
    by_cases hlt : k < 32
    · have k0 := (cell_of_row wr w.heap.size k _ _ _ E0.out).trans (CA.out k hlt)
      have HT := Lib.hid (show hexL (a.take (k + 1)) = hexL (a.take k) ++ [hexd ((a.getD k 0).toNat / 16)] ++ [hexd ((a.getD k 0).toNat % 16)] by
        rw [List.take_add_one, List.getElem?_eq_getElem (by rw [HA.out]; exact hlt)]
        simp only [Option.toList_some, hexL_snoc, List.getD_eq_getElem?_getD, List.getElem?_eq_getElem (show k < a.length by rw [HA.out]; exact hlt), Option.getD_some])
      have hx := (a.getD k 0).toNat_lt
      generalize a.getD k 0 = x at k0 HT hx
      have hlt' : (k : Int) < 32 := by omega
      have hx0 : (0 : Int) ≤ (x.toNat : Int) := by omega
      have hx1 : (x.toNat : Int) < 256 := by omega
      have hd0 : 0 ≤ (x.toNat : Int) / 16 := by omega
      have hd1 : (x.toNat : Int) / 16 < 16 := by omega
      have hd2 : 0 ≤ (x.toNat : Int) % 16 := by omega
      have hd3 : (x.toNat : Int) % 16 < 16 := by omega
      have hw0 : IntKind.i64.wrap (x.toNat : Int) = (x.toNat : Int) := IntWalk.i64_in _ (by omega)
      have hw1 : IntKind.i64.wrap ((x.toNat : Int).tdiv 16) = (x.toNat : Int) / 16 := by rw [Int.tdiv_eq_ediv_of_nonneg hx0]; exact IntWalk.i64_in _ (by omega)
      have hw2 : IntKind.i64.wrap ((x.toNat : Int).tmod 16) = (x.toNat : Int) % 16 := by rw [Int.tmod_eq_emod_of_nonneg hx0]; exact IntWalk.i64_in _ (by omega)
      have hss : s.size ≤ 64 := by rw [← len_data, HS.out, hexL_length, List.length_take]; omega
      have hw3 : IntKind.i64.wrap ((x.toNat : Int) / 16) = (x.toNat : Int) / 16 := IntWalk.i64_in _ (by omega)
      have hw4 : IntKind.i64.wrap ((x.toNat : Int) % 16) = (x.toNat : Int) % 16 := IntWalk.i64_in _ (by omega)
      go_wp2
      have HF := Lib.hid (show (s ++ ByteArray.mk #[hexd (x.toNat / 16)] ++ ByteArray.mk #[hexd (x.toNat % 16)]).data.toList = hexL (a.take (k + 1)) by rw [app_data, app_data, HS.out, HT.out])
      go_region_with (first
        | (go_at_call 41; have hz1 := hb1.size; refine (digit_any _ _ (by assumption) (by assumption)).mono ?_; rintro r w2 ⟨rfl, hb2⟩)
        | (go_at_call 41; refine (digit_any _ _ (by assumption) (by assumption)).mono ?_; rintro r w1 ⟨rfl, hb1⟩; have k1 := (hb1.cell (p := ⟨w.heap.size, k, none⟩) (show w.heap.size < wr.heap.size by omega)).trans k0))
      all_goals
        have hz3 : wr.heap.size ≤ w1.heap.size := hb1.size
        have hz4 : w1.heap.size ≤ w2.heap.size := hb2.size
        have E2 := Lib.hid ((hb2.block w.heap.size (by omega)).trans ((hb1.block w.heap.size (show w.heap.size < wr.heap.size by omega)).trans E0.out))
        have hb3 : Below w.heap.size w w2 := (hbr.drew.trans (hb1.mono (show w.heap.size ≤ wr.heap.size by omega))).trans (hb2.mono (by omega))
        clear hb1 hb2 k0 k1
        go_wp2
        exact ⟨⟨k + 1, _, by omega, by go_num, rfl, HF, E2, hb3, by omega⟩, by simp [intOf]; omega⟩
    · have hs : s = ⟨(hexL a).toArray⟩ := by
        have h := HS.out
        rw [show a.take k = a by rw [show k = 32 by omega, ← HA.out]; exact List.take_length] at h
        cases s with | mk d => cases d; simp at h; rw [h]
      subst hs
      go_wp2
      go_ret
      exact ⟨rfl, hbr⟩
/-- The number of a figure. -/
def unfig (c : UInt8) : Int := Lib.indexByte figs.data.toList c
theorem unfig_all : ∀ c : Fin 256, -1 ≤ unfig (UInt8.ofNat c.val) ∧ unfig (UInt8.ofNat c.val) < 16 ∧ (0 ≤ unfig (UInt8.ofNat c.val) → hexd (unfig (UInt8.ofNat c.val)).toNat = UInt8.ofNat c.val) := by decide +kernel
theorem unfig_hexd : ∀ n : Fin 16, unfig (hexd n.val) = (n.val : Int) := by decide +kernel
theorem unfig_range (c : UInt8) : -1 ≤ unfig c ∧ unfig c < 16 := by
  have h := unfig_all ⟨c.toNat, c.toNat_lt⟩
  rw [show UInt8.ofNat (Fin.mk c.toNat c.toNat_lt).val = c by simp] at h
  exact ⟨h.1, h.2.1⟩
theorem hexd_unfig (c : UInt8) (h0 : 0 ≤ unfig c) : hexd (unfig c).toNat = c := by
  have h := unfig_all ⟨c.toNat, c.toNat_lt⟩
  rw [show UInt8.ofNat (Fin.mk c.toNat c.toNat_lt).val = c by simp] at h
  exact h.2.2 h0
/-- Whether the first n bytes are figures. -/
def goodTo (l : List UInt8) (n : Nat) : Prop := ∀ j, j < n → 0 ≤ unfig (l.getD j 0)
/-- The byte that two figures are. -/
def unpair (l : List UInt8) (i : Nat) : UInt8 := UInt8.ofNat ((unfig (l.getD (2 * i) 0)).toNat * 16 + (unfig (l.getD (2 * i + 1) 0)).toNat)
theorem built24 : Try.prog.built 35 [] = some (idA []) := by kernel_rfl
/-- What is returned: an id out of a block that is known, and a bool. -/
theorem ret_id {fn : Func} {p u : Tmp} (h : fn.results = #[.cell p 35, .tmp u]) (tmps : Array Value) (w : World) (g : Nat) (cs : Array Value) (b : Bool) (hp : tmps.getD p undef = .pointer (some ⟨g, 0, none⟩)) (hu : tmps.getD u undef = .bool b)
    (hg : w.heap[g]? = some (.cells cs 35)) (hi : (Try.prog.info? 35).map (·.size) = some cs.size) : (results fn tmps).run Try.prog w = .ok (.tuple #[.agg cs, .bool b]) w := by
  have hld := run_loadVar_row (P := Try.prog) w g 35 35 cs _ _ hg Try.underlying35 rfl hi
  have hp' : tmps[p]?.getD undef = .pointer (some ⟨g, 0, none⟩) := by simpa using hp
  have hu' : tmps[u]?.getD undef = .bool b := by simpa using hu
  rw [results_cell_tmp h]
  simp [asAddr, Result.andThen, hp', hu', hld]
set_option maxHeartbeats 800000 in
set_option maxRecDepth 100000 in
theorem unhex_len (s : ByteArray) (w : World) (hs : s.size ≤ 9223372036854775807) (h : s.size ≠ 64) :
    Calls Try.prog 43 #[.string s] w fun r w' => r = .returned (.tuple #[.agg (idA []), .bool false]) ∧ Below w.heap.size w w' := by
  have hd : ((s.size : Int) != 64) = true := by rw [bne_iff_ne]; omega
  go_enter Try.func43, Try.ntmps43
  go_upto_region 3 with (fail)
  refine wp_region_list ?_
  refine wpList_build_zero rfl 35 rfl _ built24 ?_
  intro zz HZ
  have HIz : Hid ((Try.prog.info? 35).map (·.size) = some zz.size) := by rw [HZ.out]; exact idsize (by decide)
  have H1z : Hid (zz.all (·.oneCell') = true) := by rw [HZ.out]; exact idA_one []
  have HSz : Hid (zz.size = 32) := by rw [HZ.out]; rfl
  go_wp2_with (refine wpList_store_row rfl 35 _ _ rfl w.heap.size _ rfl rfl _ _ (heap_alloc2_old _ _ _) HIz.out (by rw [HSz.out]; rfl) H1z.out ?_)
  refine bodyPost_ret (v := .tuple #[.agg zz, .bool false]) ?_ rfl ⟨by rw [HZ.out], below_setRow (((Below.refl _ _).alloc (Nat.le_refl _) _).alloc (by simp) _) (Nat.le_refl _) _⟩
  exact ret_id (by rfl) _ _ w.heap.size _ _ (by rfl) (by rfl) (setRow_heap _ _ _ _ _ _ (heap_alloc2_old _ _ _)) HIz.out
theorem idx_any (c : UInt8) (w : World) : Calls Try.prog 48 #[.string ⟨#[48, 49, 50, 51, 52, 53, 54, 55, 56, 57, 97, 98, 99, 100, 101, 102]⟩, .int .u8 (c.toNat : Int)] w fun r w' => r = .returned (.int .i64 (unfig c)) ∧ w = w' := by
  refine (Try.strings_IndexByte figs (c.toNat : Int) w).mono ?_
  rintro r w' ⟨rfl, rfl⟩
  refine ⟨?_, rfl⟩
  have e : ((c.toNat : Int)).toNat.toUInt8 = c := by simp
  rw [e]; rfl
theorem getD_byte (b : ByteArray) (j : Nat) (hj : j < b.size) : b.data.toList.getD j 0 = b[j] := by
  rw [List.getD_eq_getElem?_getD, List.getElem?_eq_getElem (by simpa using hj)]; rfl
/-- What Unhex of 64 bytes answers. -/
def Un (l : List UInt8) (r : Ending) : Prop := (goodTo l 64 ∧ r = .returned (.tuple #[.agg (idA ((List.range 32).map (unpair l))), .bool true])) ∨ (¬ goodTo l 64 ∧ r = .returned (.tuple #[.agg (idA []), .bool false]))
theorem pair_bits (hi lo : Int) (h1 : 0 ≤ hi) (h2 : hi < 16) (h3 : 0 ≤ lo) (h4 : lo < 16) : bits BinOp.or IntKind.i64 (hi * 16) lo % 256 = ((UInt8.ofNat (hi.toNat * 16 + lo.toNat)).toNat : Int) := by
  obtain ⟨a, rfl⟩ := Int.eq_ofNat_of_zero_le h1
  obtain ⟨b, rfl⟩ := Int.eq_ofNat_of_zero_le h3
  have ha : a < 16 := by omega
  have hb : b < 16 := by omega
  have hall : ∀ x y : Fin 16, bits BinOp.or IntKind.i64 (((x.val : Nat) : Int) * 16) ((y.val : Nat) : Int) % 256 = ((UInt8.ofNat (x.val * 16 + y.val)).toNat : Int) := by decide +kernel
  simpa using hall ⟨a, ha⟩ ⟨b, hb⟩
set_option maxHeartbeats 1600000 in
set_option maxRecDepth 100000 in
theorem unhex_64 (s : ByteArray) (w : World) (h : s.size = 64) :
    Calls Try.prog 43 #[.string s] w fun r w' => Un s.data.toList r ∧ Below w.heap.size w w' := by
  have h64 : 64 ≤ s.size := by omega
  have hd : ((s.size : Int) != 64) = false := by simp; omega
  have HS := Lib.hid h
  clear h
  go_enter Try.func43, Try.ntmps43
  go_wp2
  go_loopw [12] (fun i wr => ∃ (k : Nat), k ≤ 32 ∧ i = .int .i64 k ∧ Hid (goodTo s.data.toList (2 * k)) ∧ Hid (wr.heap[w.heap.size]? = some (.cells (idA []) 35)) ∧ Hid (wr.heap[w.heap.size + 1]? = some (.cells (idA ((List.range k).map (unpair s.data.toList))) 35)) ∧ Below w.heap.size w wr) (fun i _ => 32 - (intOf i).toNat)
  case atStart => exact ⟨0, by omega, rfl, fun j hj => absurd hj (by omega), heap_alloc2_old _ _ _, heap_alloc2_new _ _ _, ((Below.refl _ _).alloc (Nat.le_refl _) _).alloc (by simp) _⟩
  case round =>
    obtain ⟨k, hk, rfl, HG, E0, E1, hbr⟩ := hrel
    by_cases hlt : k < 32
    · have hlt' : (k : Int) < 32 := by omega
      have hi1 : 2 * (k : Int) < (s.size : Int) := by omega
      have hi2 : 2 * (k : Int) + 1 < (s.size : Int) := by omega
      have e1 := Lib.hid (getD_byte s (2 * k) (by omega))
      have e2 := Lib.hid (getD_byte s (2 * k + 1) (by omega))
      go_wp2_with fail
      refine (idx_any _ _).mono ?_
      rintro r w1 ⟨rfl, rfl⟩
      go_wp2_with fail
      refine (idx_any _ _).mono ?_
      rintro r w1 ⟨rfl, rfl⟩
      rw [← e1.out, ← e2.out]
      have hr1 := unfig_range (s.data.toList.getD (2 * k) 0)
      have hr2 := unfig_range (s.data.toList.getD (2 * k + 1) 0)
      have HB1 := Lib.hid (fun (h0 : unfig (s.data.toList.getD (2 * k) 0) < 0) => (fun hg => absurd (hg (2 * k) (by omega)) (by omega) : ¬ goodTo s.data.toList 64))
      have HB2 := Lib.hid (fun (h0 : unfig (s.data.toList.getD (2 * k + 1) 0) < 0) => (fun hg => absurd (hg (2 * k + 1) (by omega)) (by omega) : ¬ goodTo s.data.toList 64))
      have HU := Lib.hid (show unpair s.data.toList k = UInt8.ofNat ((unfig (s.data.toList.getD (2 * k) 0)).toNat * 16 + (unfig (s.data.toList.getD (2 * k + 1) 0)).toNat) from rfl)
      have HG2 := Lib.hid (fun (h1 : 0 ≤ unfig (s.data.toList.getD (2 * k) 0)) (h2 : 0 ≤ unfig (s.data.toList.getD (2 * k + 1) 0)) => (fun j hj => by
        rcases Nat.lt_or_ge j (2 * k) with h | h
        · exact HG.out j h
        · rcases (show j = 2 * k ∨ j = 2 * k + 1 by omega) with rfl | rfl
          · exact h1
          · exact h2 : goodTo s.data.toList (2 * (k + 1))))
      generalize unfig (s.data.toList.getD (2 * k) 0) = hi at hr1 HB1 HU HG2 ⊢
      generalize unfig (s.data.toList.getD (2 * k + 1) 0) = lo at hr2 HB2 HU HG2 ⊢
      clear e1 e2
      obtain ⟨hr1, hr1'⟩ := hr1
      obtain ⟨hr2, hr2'⟩ := hr2
      by_cases hb1 : hi < 0
      · have hd1 : decide (hi < 0) = true := by simpa using hb1
        have HNG := Lib.hid (HB1.out hb1)
        clear HB1 HB2 HU HG2
        go_upto_region 10 with (fail)
        refine wp_region_list ?_
        refine wpList_build_zero rfl 35 rfl _ built24 ?_
        intro zz HZ
        have HIz : Hid ((Try.prog.info? 35).map (·.size) = some zz.size) := by rw [HZ.out]; exact idsize (by decide)
        have H1z : Hid (zz.all (·.oneCell') = true) := by rw [HZ.out]; exact idA_one []
        have HSz : Hid ((idA []).size = zz.size) := by rw [HZ.out]; rfl
        go_wp2_with (refine wpList_store_row rfl 35 _ _ rfl w.heap.size _ rfl rfl _ _ E0.out HIz.out HSz.out H1z.out ?_)
        refine bodyPost_ret (v := .tuple #[.agg zz, .bool false]) ?_ rfl ⟨.inr ⟨HNG.out, by rw [HZ.out]⟩, below_setRow hbr (Nat.le_refl _) _⟩
        exact ret_id (by rfl) _ _ w.heap.size _ _ (by rfl) (by rfl) (setRow_heap _ _ _ _ _ _ E0.out) HIz.out
      · have hd1 : decide (hi < 0) = false := by simpa using hb1
        by_cases hb2 : lo < 0
        · have hd2 : decide (lo < 0) = true := by simpa using hb2
          have HNG := Lib.hid (HB2.out hb2)
          clear HB1 HB2 HU HG2
          go_upto_region 10 with (fail)
          refine wp_region_list ?_
          refine wpList_build_zero rfl 35 rfl _ built24 ?_
          intro zz HZ
          have HIz : Hid ((Try.prog.info? 35).map (·.size) = some zz.size) := by rw [HZ.out]; exact idsize (by decide)
          have H1z : Hid (zz.all (·.oneCell') = true) := by rw [HZ.out]; exact idA_one []
          have HSz : Hid ((idA []).size = zz.size) := by rw [HZ.out]; rfl
          go_wp2_with (refine wpList_store_row rfl 35 _ _ rfl w.heap.size _ rfl rfl _ _ E0.out HIz.out HSz.out H1z.out ?_)
          refine bodyPost_ret (v := .tuple #[.agg zz, .bool false]) ?_ rfl ⟨.inr ⟨HNG.out, by rw [HZ.out]⟩, below_setRow hbr (Nat.le_refl _) _⟩
          exact ret_id (by rfl) _ _ w.heap.size _ _ (by rfl) (by rfl) (setRow_heap _ _ _ _ _ _ E0.out) HIz.out
        · have hd2 : decide (lo < 0) = false := by simpa using hb2
          have HG3 := Lib.hid (HG2.out (by omega) (by omega))
          have hpb := pair_bits hi lo (by omega) (by omega) (by omega) (by omega)
          have HPB := Lib.hid hpb
          clear hpb HB1 HB2 HG2 HG
          have c1 := (cell_of_row wr (w.heap.size + 1) k _ _ _ E1.out).trans (idA_rest _ k (by simp) (by omega))
          have f1 := frozen_of_row wr (w.heap.size + 1) k _ _ E1.out
          go_wp2
          rw [HPB.out, ← HU.out]
          refine ⟨⟨k + 1, by omega, by go_num, HG3, held_apart E0.out _ _ _ (by omega), ?_, hbr.setCell (by simp) _⟩, by simp [intOf]; omega⟩
          rw [range_take, ← idA_push _ _ (by simp; omega)]
          have := held_set E1.out k (.int .u8 ((unpair s.data.toList k).toNat : Int))
          simpa [Hid] using this
    · have HG3 := Lib.hid (show goodTo s.data.toList 64 by rw [show 64 = 2 * k by omega]; exact HG.out)
      have HE : Hid (wr.heap[w.heap.size + 1]? = some (.cells (idA ((List.range 32).map (unpair s.data.toList))) 35)) := by rw [show 32 = k by omega]; exact E1.out
      have hl : ((List.range 32).map (unpair s.data.toList)).length ≤ 32 := by simp
      have HI := Lib.hid (idsize hl)
      have H0 := Lib.hid (show (idA []).size = (idA ((List.range 32).map (unpair s.data.toList))).size by rw [idA_size _ hl]; rfl)
      have H1 := Lib.hid (idA_one ((List.range 32).map (unpair s.data.toList)))
      have HR := Lib.hid (show Un s.data.toList (.returned (.tuple #[.agg (idA ((List.range 32).map (unpair s.data.toList))), .bool true])) from .inl ⟨HG3.out, rfl⟩)
      generalize idA ((List.range 32).map (unpair s.data.toList)) = da at HE HI H0 H1 HR
      have hu := Lib.hid Try.underlying35
      clear hl
      go_wp2_with (first | (refine wpList_load_row rfl 35 _ rfl (w.heap.size + 1) rfl _ _ _ _ HE.out hu.out rfl HI.out ?_) | (refine wpList_store_row rfl 35 _ _ rfl w.heap.size _ rfl rfl _ _ E0.out HI.out H0.out H1.out ?_))
      refine bodyPost_ret (v := .tuple #[.agg da, .bool true]) ?_ rfl ⟨HR.out, below_setRow hbr (Nat.le_refl _) _⟩
      exact ret_id (by rfl) _ _ w.heap.size _ _ (by rfl) (by rfl) (setRow_heap _ _ _ _ _ _ E0.out) HI.out
/-- What the inner loop knows of a figure behind d steps. -/
def nval (c : UInt8) (d : Nat) : Int := if 0 ≤ unfig c ∧ unfig c < (d : Int) then unfig c else -1
theorem nval_zero (c : UInt8) : nval c 0 = -1 := by unfold nval; rw [if_neg]; omega
theorem nval_all (c : UInt8) : nval c 16 = unfig c := by
  have := unfig_range c
  unfold nval
  split <;> omega
theorem nval_hit (c : UInt8) (d : Nat) (hd : d < 16) (h : c = hexd d) : nval c (d + 1) = (d : Int) := by
  have e : unfig c = (d : Int) := by rw [h]; exact unfig_hexd ⟨d, hd⟩
  unfold nval; rw [e, if_pos (by omega)]
theorem nval_miss (c : UInt8) (d : Nat) (hd : d < 16) (h : c ≠ hexd d) : nval c (d + 1) = nval c d := by
  have e : unfig c ≠ (d : Int) := fun e => h (by rw [← hexd_unfig c (by omega), e]; simp)
  unfold nval
  by_cases h1 : 0 ≤ unfig c ∧ unfig c < (d : Int)
  · rw [if_pos h1, if_pos (by omega)]
  · rw [if_neg h1, if_neg (by omega)]
/-- The id behind k figures. -/
def nib (l : List UInt8) (k j : Nat) : UInt8 := if 2 * j + 1 < k then unpair l j else if 2 * j < k then UInt8.ofNat (unfig (l.getD (2 * j) 0)).toNat else 0
def idN (l : List UInt8) (k : Nat) : List UInt8 := (List.range 32).map (nib l k)
theorem idN_len (l : List UInt8) (k : Nat) : (idN l k).length = 32 := by simp [idN]
theorem idN_get (l : List UInt8) (k j : Nat) (hj : j < 32) : (idN l k).getD j 0 = nib l k j := by
  simp [idN, List.getD_eq_getElem?_getD, hj]
theorem idN_zero (l : List UInt8) : idA (idN l 0) = idA [] := by
  have : idN l 0 = List.replicate 32 0 := by
    unfold idN
    apply List.ext_getElem (by simp)
    intro i h1 h2
    simp only [List.getElem_map, List.getElem_range, List.getElem_replicate, nib]
    rw [if_neg (by omega), if_neg (by omega)]
  rw [this]; rfl
theorem idN_all (l : List UInt8) : idN l 64 = (List.range 32).map (unpair l) := by
  unfold idN
  apply List.ext_getElem (by simp)
  intro i h1 h2
  have : i < 32 := by simpa using h1
  simp only [List.getElem_map, List.getElem_range, nib]
  rw [if_pos (by omega)]
theorem idA_set (l : List UInt8) (i : Nat) (x : UInt8) (hl : l.length = 32) : (idA l).setIfInBounds i (.int .u8 (x.toNat : Int)) = idA (l.set i x) := by
  simp only [idA, List.setIfInBounds_toArray, hl, List.length_set, Nat.sub_self, List.replicate_zero, List.append_nil, List.map_set]
  rfl
theorem idN_step (l : List UInt8) (k : Nat) (hk : k < 64) (hg : goodTo l (k + 1)) : (idN l k).set (k / 2) (UInt8.ofNat (16 * ((nib l k (k / 2)).toNat % 16) + (unfig (l.getD k 0)).toNat)) = idN l (k + 1) := by
  have h0 := hg k (by omega)
  have hr := unfig_range (l.getD k 0)
  apply List.ext_getElem (by simp [idN])
  intro i h1 h2
  have hi : i < 32 := by simpa [idN] using h1
  rw [List.getElem_set]
  by_cases e : k / 2 = i
  · rw [if_pos e]
    simp only [idN, List.getElem_map, List.getElem_range]
    subst e
    rcases (show k = 2 * (k / 2) ∨ k = 2 * (k / 2) + 1 by omega) with hp | hp
    · have e1 : nib l k (k / 2) = 0 := by unfold nib; rw [if_neg (by omega), if_neg (by omega)]
      have e2 : nib l (k + 1) (k / 2) = UInt8.ofNat (unfig (l.getD k 0)).toNat := by unfold nib; rw [if_neg (by omega), if_pos (by omega), ← hp]
      rw [e1, e2]; simp
    · have hh := hg (2 * (k / 2)) (by omega)
      have hr2 := unfig_range (l.getD (2 * (k / 2)) 0)
      have e1 : nib l k (k / 2) = UInt8.ofNat (unfig (l.getD (2 * (k / 2)) 0)).toNat := by unfold nib; rw [if_neg (by omega), if_pos (by omega)]
      have e2 : nib l (k + 1) (k / 2) = unpair l (k / 2) := by unfold nib; rw [if_pos (by omega)]
      rw [e1, e2, unpair, ← hp]
      congr 1
      rw [UInt8.toNat_ofNat']
      omega
  · rw [if_neg e]
    simp only [idN, List.getElem_map, List.getElem_range, nib]
    by_cases c1 : 2 * i + 1 < k
    · rw [if_pos c1, if_pos (by omega)]
    · rw [if_neg c1, if_neg (show ¬ 2 * i < k by omega), if_neg (show ¬ 2 * i + 1 < k + 1 by omega), if_neg (show ¬ 2 * i < k + 1 by omega)]
theorem nib_val (o zn : Nat) (h : zn < 16) : (16 * ((o : Int) % 16) + (zn : Int)) = ((UInt8.ofNat (16 * (o % 16) + zn)).toNat : Int) := by rw [UInt8.toNat_ofNat']; omega
theorem one_byte (s : ByteArray) (i : Nat) (h : i < s.size) : s.extract i (i + 1) = ⟨#[s[i]]⟩ := by
  have h1 : (s.extract i (i + 1)).data.toList = [s[i]] := by
    simp only [ByteArray.data_extract, Array.toList_extract, List.extract_eq_take_drop]
    rw [Nat.add_sub_cancel_left, List.drop_eq_getElem_cons (show i < s.data.toList.length by simpa using h)]
    rfl
  generalize s.extract i (i + 1) = t at h1
  cases t with | mk d => cases d; simp at h1; rw [h1]
set_option maxHeartbeats 800000 in
set_option maxRecDepth 100000 in
theorem refunhex_len (s : ByteArray) (w : World) (hs : s.size ≤ 9223372036854775807) (h : s.size ≠ 64) :
    Calls Try.prog 30 #[.string s] w fun r w' => r = .returned (.tuple #[.agg (idA []), .bool false]) ∧ Below w.heap.size w w' := by
  have hd : ((s.size : Int) != 64) = true := by rw [bne_iff_ne]; omega
  go_enter Try.func30, Try.ntmps30
  go_upto_region 1 with (fail)
  refine wp_region_list ?_
  refine wpList_build_zero rfl 35 rfl _ built24 ?_
  intro zz HZ
  have HIz : Hid ((Try.prog.info? 35).map (·.size) = some zz.size) := by rw [HZ.out]; exact idsize (by decide)
  have H1z : Hid (zz.all (·.oneCell') = true) := by rw [HZ.out]; exact idA_one []
  have HSz : Hid (zz.size = 32) := by rw [HZ.out]; rfl
  go_upto_region 3 with (refine wpList_store_row rfl 35 _ _ rfl (w.heap.size + 1) _ rfl rfl _ _ (heap_alloc2_new _ _ _) HIz.out (by rw [HSz.out]; rfl) H1z.out ?_)
  have E0 : Hid ((((w.alloc (.cells (idA []) 35)).alloc (.cells (idA []) 35)).setRow (w.heap.size + 1) zz).heap[w.heap.size]? = some (.cells (idA []) 35)) := (setRow_other _ _ _ _ (by omega)).trans (heap_alloc2_old _ _ _)
  have E1 : Hid ((((w.alloc (.cells (idA []) 35)).alloc (.cells (idA []) 35)).setRow (w.heap.size + 1) zz).heap[w.heap.size + 1]? = some (.cells zz 35)) := setRow_heap _ _ _ _ _ _ (heap_alloc2_new _ _ _)
  have hb1 : Below w.heap.size w (((w.alloc (.cells (idA []) 35)).alloc (.cells (idA []) 35)).setRow (w.heap.size + 1) zz) := below_setRow (((Below.refl _ _).alloc (Nat.le_refl _) _).alloc (by simp) _) (by omega) _
  change Code.wp _ _ _ _ (((w.alloc (.cells (idA []) 35)).alloc (.cells (idA []) 35)).setRow (w.heap.size + 1) zz)
  generalize ((w.alloc (.cells (idA []) 35)).alloc (.cells (idA []) 35)).setRow (w.heap.size + 1) zz = w1 at E0 E1 hb1 ⊢
  have hu := Lib.hid Try.underlying35
  have HS0 : Hid ((idA []).size = zz.size) := by rw [HZ.out]; rfl
  go_wp2_with (first | (refine wpList_load_row rfl 35 _ rfl (w.heap.size + 1) rfl _ _ _ _ E1.out hu.out rfl HIz.out ?_) | (refine wpList_store_row rfl 35 _ _ rfl w.heap.size _ rfl rfl _ _ E0.out HIz.out HS0.out H1z.out ?_))
  refine bodyPost_ret (v := .tuple #[.agg zz, .bool false]) ?_ rfl ⟨by rw [HZ.out], below_setRow hb1 (Nat.le_refl _) _⟩
  exact ret_id (by rfl) _ _ w.heap.size _ _ (by rfl) (by rfl) (setRow_heap _ _ _ _ _ _ E0.out) HIz.out
set_option maxHeartbeats 3200000 in
set_option maxRecDepth 100000 in
theorem refunhex_64 (s : ByteArray) (w : World) (h : s.size = 64) :
    Calls Try.prog 30 #[.string s] w fun r w' => Un s.data.toList r ∧ Below w.heap.size w w' := by
  have h64 : 64 ≤ s.size := by omega
  have hd : ((s.size : Int) != 64) = false := by simp; omega
  have HS := Lib.hid h
  clear h
  go_enter Try.func30, Try.ntmps30
  go_upto_region 1 with (fail)
  refine wp_region_list ?_
  refine wpList_build_zero rfl 35 rfl _ built24 ?_
  intro zz HZ
  have HIz : Hid ((Try.prog.info? 35).map (·.size) = some zz.size) := by rw [HZ.out]; exact idsize (by decide)
  have H1z : Hid (zz.all (·.oneCell') = true) := by rw [HZ.out]; exact idA_one []
  have HSz : Hid (zz.size = 32) := by rw [HZ.out]; rfl
  go_upto_region 2 with (refine wpList_store_row rfl 35 _ _ rfl (w.heap.size + 1) _ rfl rfl _ _ (heap_alloc2_new _ _ _) HIz.out (by rw [HSz.out]; rfl) H1z.out ?_)
  have E0 : Hid ((((w.alloc (.cells (idA []) 35)).alloc (.cells (idA []) 35)).setRow (w.heap.size + 1) zz).heap[w.heap.size]? = some (.cells (idA []) 35)) := (setRow_other _ _ _ _ (by omega)).trans (heap_alloc2_old _ _ _)
  have E1 : Hid ((((w.alloc (.cells (idA []) 35)).alloc (.cells (idA []) 35)).setRow (w.heap.size + 1) zz).heap[w.heap.size + 1]? = some (.cells (idA (idN s.data.toList 0)) 35)) := by rw [idN_zero, ← HZ.out]; exact setRow_heap _ _ _ _ _ _ (heap_alloc2_new _ _ _)
  have hb1 : Below w.heap.size w (((w.alloc (.cells (idA []) 35)).alloc (.cells (idA []) 35)).setRow (w.heap.size + 1) zz) := below_setRow (((Below.refl _ _).alloc (Nat.le_refl _) _).alloc (by simp) _) (by omega) _
  have hs1 : w.heap.size + 2 ≤ (((w.alloc (.cells (idA []) 35)).alloc (.cells (idA []) 35)).setRow (w.heap.size + 1) zz).heap.size := by simp
  change Code.wp _ _ _ _ (((w.alloc (.cells (idA []) 35)).alloc (.cells (idA []) 35)).setRow (w.heap.size + 1) zz)
  generalize ((w.alloc (.cells (idA []) 35)).alloc (.cells (idA []) 35)).setRow (w.heap.size + 1) zz = w1 at E0 E1 hb1 hs1 ⊢
  clear HIz H1z HSz
  go_wp2
  go_loopw [5] (fun i wr => ∃ (k : Nat), k ≤ 64 ∧ i = .int .i64 k ∧ Hid (goodTo s.data.toList k) ∧ Hid (wr.heap[w.heap.size]? = some (.cells (idA []) 35)) ∧ Hid (wr.heap[w.heap.size + 1]? = some (.cells (idA (idN s.data.toList k)) 35)) ∧ Below w.heap.size w wr ∧ w.heap.size + 2 ≤ wr.heap.size) (fun i _ => 64 - (intOf i).toNat)
  case atStart => exact ⟨0, by omega, rfl, fun j hj => absurd hj (by omega), E0, E1, hb1, hs1⟩
  case round =>
    clear E0 E1 hb1 hs1
    obtain ⟨k, hk, rfl, HG, E0, E1, hb1, hs1⟩ := hrel
    by_cases hlt : k < 64
    · have hlt' : (k : Int) < 64 := by omega
      obtain ⟨c, hc⟩ : ∃ c, s.data.toList.getD k 0 = c := ⟨_, rfl⟩
      have HC := Lib.hid hc
      clear hc
      have HO := Lib.hid (show s.extract k (k + 1) = ⟨#[c]⟩ by rw [← HC.out, getD_byte s k (by omega)]; exact one_byte s k (by omega))
      go_wp2
      go_loopw [6, 7] (fun n d wr => ∃ (e : Nat), e ≤ 16 ∧ d = .int .i64 e ∧ n = .int .i64 (nval c e) ∧ Hid (wr.heap[w.heap.size]? = some (.cells (idA []) 35)) ∧ Hid (wr.heap[w.heap.size + 1]? = some (.cells (idA (idN s.data.toList k)) 35)) ∧ Below w.heap.size w wr ∧ w.heap.size + 2 ≤ wr.heap.size) (fun _ d _ => 16 - (intOf d).toNat)
      case atStart => exact ⟨0, by omega, rfl, by rw [nval_zero], E0, E1, hb1, hs1⟩
      case round =>
        clear E0 E1 hb1 hs1
        obtain ⟨e, he, rfl, rfl, E0, E1, hb1, hs1⟩ := hrel
        by_cases hlt2 : e < 16
        · have hlt2' : (e : Int) < 16 := by omega
          have hi1 : (k : Int) + 1 ≤ (s.size : Int) := by omega
          have hw1 : IntKind.i64.wrap ((k : Int) + 1) = (k : Int) + 1 := IntWalk.i64_in _ (by omega)
          have hw2 : ((k : Int) + 1).toNat = k + 1 := by omega
          have hw3 : 0 ≤ (k : Int) + 1 := by omega
          have hw4 : (k : Int) ≤ (k : Int) + 1 := by omega
          have he0 : (0 : Int) ≤ (e : Int) := by omega
          have hex := HO.out
          by_cases hcd : c = hexd e
          · have heq : (c == hexd e) = true := by simpa using hcd
            have HN := Lib.hid (nval_hit c e hlt2 hcd)
            clear hcd
            go_wp2
            go_region_with (go_at_call 41; refine (digit_any _ _ he0 hlt2').mono ?_; rintro r w2 ⟨rfl, hb2⟩)
            all_goals
              have hz2 : wr.heap.size ≤ w2.heap.size := hb2.size
              have F0 := Lib.hid ((hb2.block w.heap.size (show w.heap.size < wr.heap.size by omega)).trans E0.out)
              have F1 := Lib.hid ((hb2.block (w.heap.size + 1) (show w.heap.size + 1 < wr.heap.size by omega)).trans E1.out)
              have hb3 : Below w.heap.size w w2 := hb1.drew.trans (hb2.mono (show w.heap.size ≤ wr.heap.size by omega))
              clear hb2 E0 E1 hb1
              go_wp2
              exact ⟨⟨e + 1, by omega, by go_num, by rw [HN.out], F0, F1, hb3, by omega⟩, by simp [intOf]; omega⟩
          · have heq : (c == hexd e) = false := by simpa using hcd
            have HN := Lib.hid (nval_miss c e hlt2 hcd)
            clear hcd
            go_wp2
            go_region_with (go_at_call 41; refine (digit_any _ _ he0 hlt2').mono ?_; rintro r w2 ⟨rfl, hb2⟩)
            all_goals
              have hz2 : wr.heap.size ≤ w2.heap.size := hb2.size
              have F0 := Lib.hid ((hb2.block w.heap.size (show w.heap.size < wr.heap.size by omega)).trans E0.out)
              have F1 := Lib.hid ((hb2.block (w.heap.size + 1) (show w.heap.size + 1 < wr.heap.size by omega)).trans E1.out)
              have hb3 : Below w.heap.size w w2 := hb1.drew.trans (hb2.mono (show w.heap.size ≤ wr.heap.size by omega))
              clear hb2 E0 E1 hb1
              go_wp2
              exact ⟨⟨e + 1, by omega, by go_num, by rw [HN.out], F0, F1, hb3, by omega⟩, by simp [intOf]; omega⟩
        · have HE := Lib.hid (show nval c e = unfig c by rw [show e = 16 by omega, nval_all])
          rw [HE.out]
          have hr := unfig_range c
          obtain ⟨hr1, hr2⟩ := hr
          have hge : ¬ (e : Int) < 16 := by omega
          by_cases hneg : unfig c < 0
          · have HNG : Hid (¬ goodTo s.data.toList 64) := fun hg => absurd (hg k hlt) (by rw [HC.out]; omega)
            generalize unfig c = z at hneg hr1 hr2 ⊢
            go_upto_region 14 with (fail)
            refine wp_region_list ?_
            refine wpList_build_zero rfl 35 rfl _ built24 ?_
            intro zz HZ
            have HIz : Hid ((Try.prog.info? 35).map (·.size) = some zz.size) := by rw [HZ.out]; exact idsize (by decide)
            have H1z : Hid (zz.all (·.oneCell') = true) := by rw [HZ.out]; exact idA_one []
            have HSz : Hid ((idA []).size = zz.size) := by rw [HZ.out]; rfl
            go_wp2_with (refine wpList_store_row rfl 35 _ _ rfl w.heap.size _ rfl rfl _ _ E0.out HIz.out HSz.out H1z.out ?_)
            refine bodyPost_ret (v := .tuple #[.agg zz, .bool false]) ?_ rfl ⟨.inr ⟨HNG.out, by rw [HZ.out]⟩, below_setRow hb1 (Nat.le_refl _) _⟩
            exact ret_id (by rfl) _ _ w.heap.size _ _ (by rfl) (by rfl) (setRow_heap _ _ _ _ _ _ E0.out) HIz.out
          · have HG2 : Hid (goodTo s.data.toList (k + 1)) := fun j hj => by
              rcases Nat.lt_or_ge j k with h | h
              · exact HG.out j h
              · rw [show j = k by omega, HC.out]; omega
            have HST := Lib.hid (idN_step s.data.toList k hlt HG2.out)
            rw [HC.out] at HST
            have c1 := (cell_of_row wr (w.heap.size + 1) (k / 2) _ _ _ E1.out).trans (idA_get _ (k / 2) (by rw [idN_len]; omega))
            rw [idN_get _ _ _ (by omega)] at c1
            have f1 := frozen_of_row wr (w.heap.size + 1) (k / 2) _ _ E1.out
            have HSet := Lib.hid (fun x => idA_set (idN s.data.toList k) (k / 2) x (idN_len _ _))
            generalize unfig c = z at hneg hr1 hr2 HST ⊢
            generalize nib s.data.toList k (k / 2) = o at c1 HST
            have ho := o.toNat_lt
            obtain ⟨zn, rfl⟩ := Int.eq_ofNat_of_zero_le (show 0 ≤ z by omega)
            have HV := Lib.hid (nib_val o.toNat zn (by omega))
            have hk2 : (k : Int) / 2 < 32 := by omega
            have hk3 : ((k : Int) / 2).toNat = k / 2 := by omega
            go_wp2
            rw [HV.out]
            simp only [Int.toNat_natCast] at HST
            have hset := HSet.out (UInt8.ofNat (16 * (o.toNat % 16) + zn))
            rw [HST.out] at hset
            refine ⟨⟨k + 1, by omega, by go_num, HG2, held_apart E0.out _ _ _ (by omega), ?_, hb1.setCell (by simp) _, by simp; omega⟩, by simp [intOf]; omega⟩
            rw [← hset]
            exact held_set E1.out (k / 2) _
    · have HG3 := Lib.hid (show goodTo s.data.toList 64 by rw [show 64 = k by omega]; exact HG.out)
      have HE : Hid (wr.heap[w.heap.size + 1]? = some (.cells (idA ((List.range 32).map (unpair s.data.toList))) 35)) := by rw [← idN_all, show 64 = k by omega]; exact E1.out
      have hl : ((List.range 32).map (unpair s.data.toList)).length ≤ 32 := by simp
      have HI := Lib.hid (idsize hl)
      have H0 := Lib.hid (show (idA []).size = (idA ((List.range 32).map (unpair s.data.toList))).size by rw [idA_size _ hl]; rfl)
      have H1 := Lib.hid (idA_one ((List.range 32).map (unpair s.data.toList)))
      have HR := Lib.hid (show Un s.data.toList (.returned (.tuple #[.agg (idA ((List.range 32).map (unpair s.data.toList))), .bool true])) from .inl ⟨HG3.out, rfl⟩)
      generalize idA ((List.range 32).map (unpair s.data.toList)) = da at HE HI H0 H1 HR
      have hu := Lib.hid Try.underlying35
      clear hl
      go_wp2_with (first | (refine wpList_load_row rfl 35 _ rfl (w.heap.size + 1) rfl _ _ _ _ HE.out hu.out rfl HI.out ?_) | (refine wpList_store_row rfl 35 _ _ rfl w.heap.size _ rfl rfl _ _ E0.out HI.out H0.out H1.out ?_))
      refine bodyPost_ret (v := .tuple #[.agg da, .bool true]) ?_ rfl ⟨HR.out, below_setRow hb1 (Nat.le_refl _) _⟩
      exact ret_id (by rfl) _ _ w.heap.size _ _ (by rfl) (by rfl) (setRow_heap _ _ _ _ _ _ E0.out) HI.out

end S2
end Go.Proofs.Ytkdljagcdaphdaa
