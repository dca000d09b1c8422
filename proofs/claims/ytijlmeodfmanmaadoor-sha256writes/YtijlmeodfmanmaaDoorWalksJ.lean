/-
  WALKS OF LAYER 2: Less, Hex.
-/
import Derived.Test.YtijlmeodfmanmaaDoorWalksE
import Derived.Laws.IdiomStrings
namespace Go.Proofs.YtijlmeodfmanmaaDoor
open Go.RowKit
set_option linter.unusedVariables false
set_option linter.unusedSimpArgs false
open Sh (Wd)

/-- Whether the first byte in which two rows differ is smaller in the first one. -/
def ltB : List UInt8 → List UInt8 → Bool
  | x :: r, y :: q => if x = y then ltB r q else decide (x.toNat < y.toNat)
  | _, _ => false
theorem ltB_step : ∀ (i : Nat) (a b : List UInt8), a.length = b.length → i < a.length → (∀ j, j < i → a.getD j 0 = b.getD j 0) → a.getD i 0 ≠ b.getD i 0 → ltB a b = decide ((a.getD i 0).toNat < (b.getD i 0).toNat)
  | 0, x :: r, y :: q, _, _, _, h => by
    have h' : x ≠ y := by simpa using h
    simp [ltB, h']
  | i + 1, x :: r, y :: q, hl, hi, he, h => by
    have h0 : x = y := by simpa using he 0 (by omega)
    have ih := ltB_step i r q (by simpa using hl) (by simpa using hi) (fun j hj => by simpa using he (j + 1) (by omega)) (by simpa using h)
    simp [ltB, h0]
    simpa using ih
  | _, [], _, _, hi, _, _ => by simp at hi
  | _, _ :: _, [], hl, _, _, _ => by simp at hl
theorem ltB_same : ∀ (a b : List UInt8), a.length = b.length → (∀ j, j < a.length → a.getD j 0 = b.getD j 0) → ltB a b = false
  | [], [], _, _ => rfl
  | x :: r, y :: q, hl, he => by
    have h0 : x = y := by simpa using he 0 (by simp)
    have ih := ltB_same r q (by simpa using hl) (fun j hj => by simpa using he (j + 1) (by simpa using hj))
    simp [ltB, h0, ih]
  | [], _ :: _, hl, _ => by simp at hl
  | _ :: _, [], hl, _ => by simp at hl

set_option maxHeartbeats 800000 in
set_option maxRecDepth 100000 in
theorem less_any (a b : List UInt8) (w : World) (ha : a.length = 32) (hb : b.length = 32) :
    Calls Tryd.prog 13 #[.agg (idA a), .agg (idA b)] w fun r w' => r = .returned (.bool (ltB a b)) ∧ Below w.heap.size w w' := by
  have HA := Lib.hid ha
  have HB := Lib.hid hb
  have CA := Lib.hid (fun (i : Nat) (hi : i < 32) => idA_get a i (by omega))
  have CB := Lib.hid (fun (i : Nat) (hi : i < 32) => idA_get b i (by omega))
  clear ha hb
  generalize hia : idA a = ia at CA
  generalize hib : idA b = ib at CB
  clear hia hib
  generalize hR : ltB a b = R
  have HR := Lib.hid hR
  clear hR
  go_enter Tryd.func13, Tryd.ntmps13
  go_wp2
  go_loopw [6] (fun v wr => ∃ (k : Nat), k ≤ 32 ∧ v = .int .i64 k ∧ Hid (∀ j, j < k → a.getD j 0 = b.getD j 0) ∧ Hid (wr.heap[w.heap.size]? = some (.cells ia 24)) ∧ Hid (wr.heap[w.heap.size + 1]? = some (.cells ib 24)) ∧ Below w.heap.size w wr) (fun v _ => 32 - (intOf v).toNat)
  case atStart => exact ⟨0, by omega, rfl, fun j hj => absurd hj (by omega), heap_alloc2_old _ _ _, heap_alloc2_new _ _ _, ((Below.refl _ _).alloc (Nat.le_refl _) _).alloc (by simp) _⟩
  case round =>
    obtain ⟨k, hk, rfl, HJ, E0, E1, hbr⟩ := hrel
    by_cases hlt : k < 32
    · have c1 := (cell_of_row wr w.heap.size k _ _ _ E0.out).trans (CA.out k hlt)
      have c2 := (cell_of_row wr (w.heap.size + 1) k _ _ _ E1.out).trans (CB.out k hlt)
      have hlt' : (k : Int) < 32 := by omega
      by_cases he : a.getD k 0 = b.getD k 0
      · have HJ2 : Hid (∀ j, j < k + 1 → a.getD j 0 = b.getD j 0) := fun j hj => by
          rcases Nat.lt_or_ge j k with h | h
          · exact HJ.out j h
          · rw [show j = k by omega]; exact he
        rw [he] at c1
        have hne : (((b.getD k 0).toNat : Int) != ((b.getD k 0).toNat : Int)) = false := by simp
        generalize b.getD k 0 = x at c1 c2 hne
        clear he HJ
        go_wp2
        refine region_still (by kernel_rfl) (by kernel_rfl) ?_
        repeat still_step
        refine wpStill_nil ?_
        go_wp2
        go_roundw
        case rel => exact ⟨k + 1, by omega, by go_num, HJ2, E0, E1, hbr.drew⟩
        case measure => simp [intOf]; omega
      · have HS := Lib.hid (ltB_step k a b (by rw [HA.out, HB.out]) (by rw [HA.out]; exact hlt) HJ.out he)
        have hne : (((a.getD k 0).toNat : Int) != ((b.getD k 0).toNat : Int)) = true := by
          rw [bne_iff_ne]; intro h; exact he (UInt8.toNat_inj.1 (by omega))
        generalize a.getD k 0 = x at c1 HS hne
        generalize b.getD k 0 = y at c2 HS hne
        clear he HJ
        go_wp2
        refine region_still (by kernel_rfl) (by kernel_rfl) ?_
        repeat still_step
        refine wpStill_nil ?_
        go_wp2
        refine region_still (by kernel_rfl) (by kernel_rfl) ?_
        repeat still_step
        refine wpStill_nil ?_
        go_wp2
        go_ret
        exact ⟨by rw [← HR.out, HS.out]; rfl, hbr.drew.drew⟩
    · have HS := Lib.hid (ltB_same a b (by rw [HA.out, HB.out]) (fun j hj => HJ.out j (by rw [HA.out] at hj; omega)))
      go_wp2
      go_ret
      exact ⟨by rw [← HR.out, HS.out]; rfl, hbr⟩

set_option maxHeartbeats 800000 in
set_option maxRecDepth 100000 in
theorem refless_any (a b : List UInt8) (w : World) (ha : a.length = 32) (hb : b.length = 32) :
    Calls Tryd.prog 14 #[.agg (idA a), .agg (idA b)] w fun r w' => r = .returned (.bool (ltB a b)) ∧ Below w.heap.size w w' := by
  have HA := Lib.hid ha
  have HB := Lib.hid hb
  have CA := Lib.hid (fun (i : Nat) (hi : i < 32) => idA_get a i (by omega))
  have CB := Lib.hid (fun (i : Nat) (hi : i < 32) => idA_get b i (by omega))
  clear ha hb
  generalize hia : idA a = ia at CA
  generalize hib : idA b = ib at CB
  clear hia hib
  generalize hR : ltB a b = R
  have HR := Lib.hid hR
  clear hR
  go_enter Tryd.func14, Tryd.ntmps14
  go_wp2
  go_loopw [5] (fun v wr => ∃ (k : Nat), k ≤ 32 ∧ v = .int .i64 k ∧ Hid (∀ j, j < k → a.getD j 0 = b.getD j 0) ∧ Hid (wr.heap[w.heap.size]? = some (.cells ia 24)) ∧ Hid (wr.heap[w.heap.size + 1]? = some (.cells ib 24)) ∧ Below w.heap.size w wr) (fun v _ => 32 - (intOf v).toNat)
  case atStart => exact ⟨0, by omega, rfl, fun j hj => absurd hj (by omega), heap_alloc2_old _ _ _, heap_alloc2_new _ _ _, ((Below.refl _ _).alloc (Nat.le_refl _) _).alloc (by simp) _⟩
  case round =>
    obtain ⟨k, hk, rfl, HJ, E0, E1, hbr⟩ := hrel
    by_cases hlt : k < 32
    · have c1 := (cell_of_row wr w.heap.size k _ _ _ E0.out).trans (CA.out k hlt)
      have c2 := (cell_of_row wr (w.heap.size + 1) k _ _ _ E1.out).trans (CB.out k hlt)
      have hlt' : (k : Int) < 32 := by omega
      by_cases he : a.getD k 0 = b.getD k 0
      · have HJ2 : Hid (∀ j, j < k + 1 → a.getD j 0 = b.getD j 0) := fun j hj => by
          rcases Nat.lt_or_ge j k with h | h
          · exact HJ.out j h
          · rw [show j = k by omega]; exact he
        rw [he] at c1
        have hne : (((b.getD k 0).toNat : Int) != ((b.getD k 0).toNat : Int)) = false := by simp
        generalize b.getD k 0 = x at c1 c2 hne
        clear he HJ
        go_wp2
        refine region_still (by kernel_rfl) (by kernel_rfl) ?_
        repeat still_step
        refine wpStill_nil ?_
        go_wp2
        go_roundw
        case rel => exact ⟨k + 1, by omega, by go_num, HJ2, E0, E1, hbr.drew⟩
        case measure => simp [intOf]; omega
      · have HS := Lib.hid (ltB_step k a b (by rw [HA.out, HB.out]) (by rw [HA.out]; exact hlt) HJ.out he)
        have hne : (((a.getD k 0).toNat : Int) != ((b.getD k 0).toNat : Int)) = true := by
          rw [bne_iff_ne]; intro h; exact he (UInt8.toNat_inj.1 (by omega))
        generalize a.getD k 0 = x at c1 HS hne
        generalize b.getD k 0 = y at c2 HS hne
        clear he HJ
        go_wp2
        refine region_still (by kernel_rfl) (by kernel_rfl) ?_
        repeat still_step
        refine wpStill_nil ?_
        go_wp2
        refine region_still (by kernel_rfl) (by kernel_rfl) ?_
        repeat still_step
        refine wpStill_nil ?_
        go_wp2
        go_ret
        exact ⟨by rw [← HR.out, HS.out]; rfl, hbr.drew.drew⟩
    · have HS := Lib.hid (ltB_same a b (by rw [HA.out, HB.out]) (fun j hj => HJ.out j (by rw [HA.out] at hj; omega)))
      go_wp2
      go_ret
      exact ⟨by rw [← HR.out, HS.out]; rfl, hbr⟩

/-! ### Figures -/
def hexd (n : Nat) : UInt8 := if n < 10 then UInt8.ofNat (48 + n) else UInt8.ofNat (87 + n)
def hexL (l : List UInt8) : List UInt8 := l.flatMap fun x => [hexd (x.toNat / 16), hexd (x.toNat % 16)]
theorem hexL_length (l : List UInt8) : (hexL l).length = 2 * l.length := by
  induction l with
  | nil => rfl
  | cons x r ih => simp only [hexL, List.flatMap_cons, List.length_append, List.length_cons] at ih ⊢; simp at ih ⊢; omega
theorem hexL_snoc (l : List UInt8) (x : UInt8) : hexL (l ++ [x]) = hexL l ++ [hexd (x.toNat / 16)] ++ [hexd (x.toNat % 16)] := by simp [hexL]
def figs : ByteArray := ⟨#[48, 49, 50, 51, 52, 53, 54, 55, 56, 57, 97, 98, 99, 100, 101, 102]⟩
theorem figs_get : ∀ k : Fin 16, figs.data.toList.getD k.val 0 = hexd k.val := by decide
theorem fig_lit (k : Nat) (h : k < (ByteArray.mk #[48, 49, 50, 51, 52, 53, 54, 55, 56, 57, 97, 98, 99, 100, 101, 102]).size) : (ByteArray.mk #[48, 49, 50, 51, 52, 53, 54, 55, 56, 57, 97, 98, 99, 100, 101, 102])[k]'h = hexd k := by
  have h16 : k < 16 := h
  have h2 := figs_get ⟨k, h16⟩
  rw [← h2]
  show _ = figs.data.toList.getD k 0
  rw [List.getD_eq_getElem?_getD, List.getElem?_eq_getElem (show k < figs.data.toList.length from h16)]
  rfl

/-- Places of bytes, the first of them filled. -/
def fA (n : Nat) (l : List UInt8) : Array Value := (l.map bv ++ List.replicate (n - l.length) (Value.int .u8 0)).toArray
theorem fA_size (n : Nat) (l : List UInt8) (h : l.length ≤ n) : (fA n l).size = n := by simp [fA]; omega
theorem fA_get (n : Nat) (l : List UInt8) (i : Nat) (h : i < l.length) : (fA n l)[i]? = some (.int .u8 ((l.getD i 0).toNat : Int)) := by
  simp only [fA, List.getElem?_toArray, List.getD_eq_getElem?_getD]
  rw [List.getElem?_append_left (by simpa using h), List.getElem?_map, List.getElem?_eq_getElem h]
  rfl
theorem fA_rest (n : Nat) (l : List UInt8) (i : Nat) (h : l.length ≤ i) (h2 : i < n) : (fA n l)[i]? = some (.int .u8 0) := by
  simp only [fA, List.getElem?_toArray]
  rw [List.getElem?_append_right (by simpa using h), List.getElem?_replicate, if_pos (by simp; omega)]
theorem fA_push (n : Nat) (l : List UInt8) (x : UInt8) (h : l.length < n) : (fA n l).setIfInBounds l.length (.int .u8 (x.toNat : Int)) = fA n (l ++ [x]) := by
  apply Array.ext_getElem?
  intro i
  simp only [fA, List.setIfInBounds_toArray, List.getElem?_toArray]
  rw [List.set_append_right _ _ (by simp)]
  simp only [List.length_map, Nat.sub_self, List.map_append, List.map_cons, List.map_nil, List.length_append, List.length_cons, List.length_nil, List.append_assoc]
  rw [show n - l.length = (n - (l.length + (0 + 1))) + 1 by omega, List.replicate_succ, List.set_cons_zero]
  rfl

theorem index_id (ia : Array Value) (k : Nat) (hk : k < 32) (v : Value) (hv : ia[k]? = some v) (w : World) : (Instr.index 24 (.agg ia) (.int .i64 (k : Int))).run Tryd.prog w = .ok v w := by
  have h1 : (0 : Int) ≤ (k : Int) ∧ (k : Int) < ((32 : Nat) : Int) := by omega
  simp [Instr.index, asIntOf, run_underlying Tryd.underlying24, Result.andThen, h1, Tryd.sizeOf5, part, Tryd.isAgg5, hv, hk]

set_option maxHeartbeats 800000 in
set_option maxRecDepth 100000 in
theorem hex_any (a : List UInt8) (w : World) (ha : a.length = 32) :
    Calls Tryd.prog 11 #[.agg (idA a)] w fun r w' => r = .returned (.string ⟨(hexL a).toArray⟩) ∧ Below w.heap.size w w' := by
  have HA := Lib.hid ha
  have CA := Lib.hid (fun (i : Nat) (hi : i < 32) => idA_get a i (by omega))
  have HI := Lib.hid (idsize (l := a) (by omega))
  have HS := Lib.hid (idA_size a (by omega))
  clear ha
  generalize hia : idA a = ia at CA HI HS
  clear hia
  have hu := Lib.hid Tryd.underlying24
  go_enter Tryd.func11, Tryd.ntmps11
  go_wp2_with (refine wpList_load_row rfl 24 _ rfl w.heap.size rfl _ _ _ _ (heap_alloc2_old _ _ _) hu.out rfl HI.out ?_)
  go_loopw [7] (fun v wr => ∃ (k : Nat), k ≤ 32 ∧ v = .int .i64 k ∧ Hid (wr.heap[w.heap.size + 1]? = some (.cells (fA 64 (hexL (a.take k))) 53)) ∧ Below w.heap.size w wr) (fun v _ => 32 - (intOf v).toNat)
  case atStart => exact ⟨0, by omega, rfl, heap_alloc2_new _ _ _, ((Below.refl _ _).alloc (Nat.le_refl _) _).alloc (by simp) _⟩
  case round =>
    obtain ⟨k, hk, rfl, E1, hbr⟩ := hrel
    by_cases hlt : k < 32
    · have c1 := index_id ia k hlt _ (CA.out k hlt) wr
      have HT := Lib.hid (show hexL (a.take (k + 1)) = hexL (a.take k) ++ [hexd ((a.getD k 0).toNat / 16)] ++ [hexd ((a.getD k 0).toNat % 16)] by
        rw [List.take_add_one, List.getElem?_eq_getElem (by rw [HA.out]; exact hlt)]
        simp only [Option.toList_some, hexL_snoc, List.getD_eq_getElem?_getD, List.getElem?_eq_getElem (show k < a.length by rw [HA.out]; exact hlt), Option.getD_some])
      have HL := Lib.hid (show (hexL (a.take k)).length = 2 * k by rw [hexL_length, List.length_take, HA.out, Nat.min_eq_left hk])
      have hx := (a.getD k 0).toNat_lt
      generalize a.getD k 0 = x at c1 HT hx
      have c2 := (cell_of_row wr (w.heap.size + 1) (2 * k) _ _ _ E1.out).trans (fA_rest 64 _ (2 * k) (by rw [HL.out]; omega) (by omega))
      have c3 := (cell_of_row wr (w.heap.size + 1) (2 * k + 1) _ _ _ E1.out).trans (fA_rest 64 _ (2 * k + 1) (by rw [HL.out]; omega) (by omega))
      have f2 := frozen_of_row wr (w.heap.size + 1) (2 * k) _ _ E1.out
      have f3 := frozen_of_row wr (w.heap.size + 1) (2 * k + 1) _ _ E1.out
      have hlt' : (k : Int) < 32 := by omega
      go_wp2
      simp only [fig_lit]
      refine ⟨⟨k + 1, by omega, by go_num, ?_, (hbr.setCell (by simp) _).setCell (by simp) _⟩, by simp [intOf]; omega⟩
      have h1 := held_set E1.out (2 * k) (.int .u8 ((hexd (x.toNat / 16)).toNat : Int))
      have e1 := fA_push 64 (hexL (a.take k)) (hexd (x.toNat / 16)) (by rw [HL.out]; omega)
      rw [HL.out] at e1
      rw [e1] at h1
      have h2 := held_set h1 (2 * k + 1) (.int .u8 ((hexd (x.toNat % 16)).toNat : Int))
      have e2 := fA_push 64 (hexL (a.take k) ++ [hexd (x.toNat / 16)]) (hexd (x.toNat % 16)) (by rw [List.length_append, HL.out]; simp; omega)
      rw [List.length_append, HL.out, List.length_singleton] at e2
      rw [e2] at h2
      rw [HT.out]
      exact h2
    · have HK := Lib.hid (show a.take k = a by rw [show k = 32 by omega, ← HA.out]; exact List.take_length)
      rw [HK.out] at E1
      have hl : (hexL a).length = 64 := by rw [hexL_length, HA.out]
      have hcv := run_convert_bytes_back (P := Tryd.prog) wr 46 9 5 ⟨w.heap.size + 1, 0, none⟩ 64 (hexL a) Tryd.underlying46 Tryd.underlying5 Tryd.underlying9 (fun j hj => by
        have hadd : (⟨w.heap.size + 1, 0, none⟩ : Addr).add j = ⟨w.heap.size + 1, j, none⟩ := by unfold Addr.add; split <;> simp_all
        rw [hadd, cell_of_row wr _ j _ _ _ E1.out, fA_get 64 _ j hj, List.getD_eq_getElem?_getD, List.getElem?_eq_getElem hj]
        rfl)
      rw [hl] at hcv
      clear hl
      go_wp2
      go_ret
      exact ⟨rfl, hbr⟩

end Go.Proofs.YtijlmeodfmanmaaDoor
