/-
  WALKS OF LAYER 2: digit, Hex (knapsackref02).
-/
import Derived.Test.YtijlmeodfmanmaaDoorWalksJ
import Derived.Test.YtijlmeodfmanmaaDoorWalksI
import Derived.Test.YtijlmeodfmanmaaDoorWalksH
namespace Go.Proofs.YtijlmeodfmanmaaDoor
open Go.RowKit
set_option linter.unusedVariables false
set_option linter.unusedSimpArgs false

theorem hexd_lo (n : Int) (h0 : 0 ≤ n) (h : n < 10) : 48 + n = ((hexd n.toNat).toNat : Int) := by
  obtain ⟨k, rfl⟩ := Int.eq_ofNat_of_zero_le h0
  have hk : k < 10 := by omega
  simp [hexd, hk, UInt8.toNat_ofNat']; omega
theorem hexd_hi (n : Int) (h0 : 10 ≤ n) (h : n < 16) : 87 + n = ((hexd n.toNat).toNat : Int) := by
  obtain ⟨k, rfl⟩ := Int.eq_ofNat_of_zero_le (show 0 ≤ n by omega)
  have hk : ¬ k < 10 := by omega
  simp [hexd, hk, UInt8.toNat_ofNat']; omega

set_option maxRecDepth 100000 in
theorem digit_any (n : Int) (w : World) (h0 : 0 ≤ n) (h : n < 16) :
    Calls Tryd.prog 23 #[.int .i64 n] w fun r w' => r = .returned (.string ⟨#[hexd n.toNat]⟩) ∧ Below w.heap.size w w' := by
  by_cases h10 : n < 10
  · have hcv := conv_one w (hexd n.toNat) (48 + n) (hexd_lo n h0 h10)
    go_enter Tryd.func23, Tryd.ntmps23
    go_wp2
    go_ret
    exact ⟨rfl, (Below.refl _ _).alloc (Nat.le_refl _) _⟩
  · have hcv := conv_one w (hexd n.toNat) (87 + n) (hexd_hi n (by omega) h)
    go_enter Tryd.func23, Tryd.ntmps23
    go_wp2
    go_ret
    exact ⟨rfl, (Below.refl _ _).alloc (Nat.le_refl _) _⟩

set_option maxHeartbeats 1600000 in
set_option maxRecDepth 100000 in
theorem refhex_any (a : List UInt8) (w : World) (ha : a.length = 32) :
    Calls Tryd.prog 12 #[.agg (idA a)] w fun r w' => r = .returned (.string ⟨(hexL a).toArray⟩) ∧ Below w.heap.size w w' := by
  have HA := Lib.hid ha
  have CA := Lib.hid (fun (i : Nat) (hi : i < 32) => idA_get a i (by omega))
  clear ha
  generalize hia : idA a = ia at CA
  clear hia
  go_enter Tryd.func12, Tryd.ntmps12
  go_wp2
  go_loopw [3, 4] (fun v i wr => ∃ (k : Nat) (s : ByteArray), k ≤ 32 ∧ i = .int .i64 k ∧ v = .string s ∧ Hid (s.data.toList = hexL (a.take k)) ∧ Hid (wr.heap[w.heap.size]? = some (.cells ia 24)) ∧ Below w.heap.size w wr ∧ w.heap.size + 1 ≤ wr.heap.size) (fun _ i _ => 32 - (intOf i).toNat)
  case atStart => exact ⟨0, _, by omega, rfl, rfl, rfl, heap_alloc_new _ _, (Below.refl _ _).alloc (Nat.le_refl _) _, by simp⟩
  case round =>
    obtain ⟨k, s, hk, rfl, rfl, HS, E0, hbr, hsz⟩ := hrel
    by_cases hlt : k < 32
    · have k0 := (cell_of_row wr w.heap.size k _ _ _ E0.out).trans (CA.out k hlt)
      have HT := Lib.hid (show hexL (a.take (k + 1)) = hexL (a.take k) ++ [hexd ((a.getD k 0).toNat / 16)] ++ [hexd ((a.getD k 0).toNat % 16)] by
        rw [List.take_add_one, List.getElem?_eq_getElem (by rw [HA.out]; exact hlt)]
        simp only [Option.toList_some, hexL_snoc, List.getD_eq_getElem?_getD, List.getElem?_eq_getElem (show k < a.length by rw [HA.out]; exact hlt), Option.getD_some])
      have hx := (a.getD k 0).toNat_lt
      generalize a.getD k 0 = x at k0 HT hx
      have hlt' : (k : Int) < 32 := by omega
      have hx0 : (0 : Int) ≤ (x.toNat : Int) := by omega
      have hx1 : (x.toNat : Int) < 256 := by omega
      have hd0 : 0 ≤ (x.toNat : Int) / 16 := by omega
      have hd1 : (x.toNat : Int) / 16 < 16 := by omega
      have hd2 : 0 ≤ (x.toNat : Int) % 16 := by omega
      have hd3 : (x.toNat : Int) % 16 < 16 := by omega
      have hw0 : IntKind.i64.wrap (x.toNat : Int) = (x.toNat : Int) := IntWalk.i64_in _ (by omega)
      have hw1 : IntKind.i64.wrap ((x.toNat : Int).tdiv 16) = (x.toNat : Int) / 16 := by rw [Int.tdiv_eq_ediv_of_nonneg hx0]; exact IntWalk.i64_in _ (by omega)
      have hw2 : IntKind.i64.wrap ((x.toNat : Int).tmod 16) = (x.toNat : Int) % 16 := by rw [Int.tmod_eq_emod_of_nonneg hx0]; exact IntWalk.i64_in _ (by omega)
      have hss : s.size ≤ 64 := by rw [← len_data, HS.out, hexL_length, List.length_take]; omega
      have hw3 : IntKind.i64.wrap ((x.toNat : Int) / 16) = (x.toNat : Int) / 16 := IntWalk.i64_in _ (by omega)
      have hw4 : IntKind.i64.wrap ((x.toNat : Int) % 16) = (x.toNat : Int) % 16 := IntWalk.i64_in _ (by omega)
      go_wp2
      have HF := Lib.hid (show (s ++ ByteArray.mk #[hexd (x.toNat / 16)] ++ ByteArray.mk #[hexd (x.toNat % 16)]).data.toList = hexL (a.take (k + 1)) by rw [app_data, app_data, HS.out, HT.out])
      go_region_with (first
        | (go_at_call 23; have hz1 := hb1.size; refine (digit_any _ _ (by assumption) (by assumption)).mono ?_; rintro r w2 ⟨rfl, hb2⟩)
        | (go_at_call 23; refine (digit_any _ _ (by assumption) (by assumption)).mono ?_; rintro r w1 ⟨rfl, hb1⟩; have k1 := (hb1.cell (p := ⟨w.heap.size, k, none⟩) (show w.heap.size < wr.heap.size by omega)).trans k0))
      all_goals
        have hz3 : wr.heap.size ≤ w1.heap.size := hb1.size
        have hz4 : w1.heap.size ≤ w2.heap.size := hb2.size
        have E2 := Lib.hid ((hb2.block w.heap.size (by omega)).trans ((hb1.block w.heap.size (show w.heap.size < wr.heap.size by omega)).trans E0.out))
        have hb3 : Below w.heap.size w w2 := (hbr.drew.trans (hb1.mono (show w.heap.size ≤ wr.heap.size by omega))).trans (hb2.mono (by omega))
        clear hb1 hb2 k0 k1
        go_wp2
        exact ⟨⟨k + 1, _, by omega, by go_num, rfl, HF, E2, hb3, by omega⟩, by simp [intOf]; omega⟩
    · have hs : s = ⟨(hexL a).toArray⟩ := by
        have h := HS.out
        rw [show a.take k = a by rw [show k = 32 by omega, ← HA.out]; exact List.take_length] at h
        cases s with | mk d => cases d; simp at h; rw [h]
      subst hs
      go_wp2
      go_ret
      exact ⟨rfl, hbr⟩

end Go.Proofs.YtijlmeodfmanmaaDoor
