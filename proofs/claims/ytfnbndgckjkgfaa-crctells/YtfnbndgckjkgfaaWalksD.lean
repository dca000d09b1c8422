/-
  WALKS OF LAYER 3: the document's own Sum (knapsackref03.Sum): the long division.
-/
import Derived.Test.YtfnbndgckjkgfaaWalksC
namespace Go.Proofs.Ytfnbndgckjkgfaa
open Go.RowKit
set_option linter.unusedVariables false
set_option linter.unusedSimpArgs false
open Cr (Wd)

theorem held_apart {wr : World} {k : Nat} {x : Option Obj} (h : wr.heap[k]? = x) (g i : Nat) (v : Value) (hne : k ≠ g) : (wr.setCell ⟨g, i, none⟩ v).heap[k]? = x := (heap_setCell_other wr ⟨g, i, none⟩ k v hne).trans h

/-- What has been gathered of the bits: whole bytes, and some bits of the next one. -/
def bitsTo (s : ByteArray) (k j : Nat) : List Bool := Cr.msg (s.data.toList.take k) ++ Cr.bitsUp j (s.data.toList.getD k 0)
theorem bitsTo_length (s : ByteArray) (k j : Nat) (hk : k ≤ s.size) : (bitsTo s k j).length = 8 * k + j := by
  rw [bitsTo, List.length_append, Cr.msg_length, Cr.bitsUp_length, List.length_take, size_list, Nat.min_eq_left hk]
theorem bitsTo_next (s : ByteArray) (k : Nat) (hk : k < s.size) : bitsTo s k 8 = bitsTo s (k + 1) 0 := by
  have e : s.data.toList.getD k 0 = s[k] := by rw [List.getD_eq_getElem?_getD, List.getElem?_eq_getElem (by simpa using hk)]; rfl
  have e0 : ∀ b, Cr.bitsUp 0 b = [] := fun b => rfl
  rw [bitsTo, bitsTo, take_snoc s k hk, Cr.msg_snoc, e, e0, List.append_nil]
  rfl
theorem bitsTo_bit (s : ByteArray) (k j : Nat) (hk : k < s.size) : bitsTo s k (j + 1) = bitsTo s k j ++ [s[k].toNat.testBit j] := by
  have e : s.data.toList.getD k 0 = s[k] := by rw [List.getD_eq_getElem?_getD, List.getElem?_eq_getElem (by simpa using hk)]; rfl
  rw [bitsTo, bitsTo, Cr.bitsUp_succ, e, List.append_assoc]
theorem bitsTo_start (s : ByteArray) : bitsTo s 0 0 = [] := rfl
theorem bitsTo_end (s : ByteArray) (k : Nat) (hk : k = s.size) : bitsTo s k 0 ++ Cr.zeros = Cr.full s.data.toList := by
  have e0 : ∀ b, Cr.bitsUp 0 b = [] := fun b => rfl
  rw [bitsTo, Cr.full, e0, List.append_nil, take_all s k (by omega)]

/-- The row that grows. -/
structure RowG (W wr : World) (v : Value) (B : List Bool) : Prop where
  own : wr.ownsRow W.heap.size 4 1 v B.length (B.map Value.bool)
  bel : Below W.heap.size W wr

theorem row_form {w : World} {base size n : Nat} {e : TypeId} {v : Value} {xs : List Value} (h : w.ownsRow base e size v n xs) (hn : 0 < n) : ∃ g cap, v = .slice (some ⟨g, 0, none⟩) n cap := by
  rcases h.2 with ⟨_, h0⟩ | ⟨g, cap, _, hv, _⟩
  · omega
  · exact ⟨g, cap, hv⟩
theorem bit_of (m j : Nat) : ((((m / 2 ^ j : Nat) : Int) % 2) == 1) = m.testBit j := by
  rw [Nat.testBit_eq_decide_div_mod_eq]
  generalize m / 2 ^ j = y
  by_cases h : y % 2 = 1
  · rw [h]; have : ((y : Int) % 2) = 1 := by omega
    rw [this]; rfl
  · have h0 : y % 2 = 0 := by omega
    have : ((y : Int) % 2) = 0 := by omega
    rw [this, h0]; rfl
theorem half_of (m j : Nat) : m / 2 ^ j / 2 = m / 2 ^ (j + 1) := by rw [Nat.div_div_eq_div_mul, Nat.pow_succ]

set_option maxHeartbeats 2000000 in
set_option maxRecDepth 100000 in
theorem refsum_any (s : ByteArray) (w : World) (hs : s.size ≤ 400) :
    Calls Try.prog 9 #[.string s] w fun r w' => r = .returned (.int .u32 ((Cr.sum s.data.toList).toNat : Int)) ∧ Below w.heap.size w w' := by
  obtain ⟨i0, hi, hz0, hz1, hz2⟩ := info_bool
  have HI := Lib.hid hi
  have HZ0 := Lib.hid hz0
  have HZ1 := Lib.hid hz1
  have HZ2 := Lib.hid hz2
  clear hi hz0 hz1 hz2
  go_enter Try.func9, Try.ntmps9
  go_wp2
  go_loopw [3, 4] (fun b i wr => ∃ k : Nat, k ≤ s.size ∧ i = .int .i64 k ∧ RowG w wr b (bitsTo s k 0)) (fun _ i _ => s.size - (intOf i).toNat)
  case atStart => exact ⟨0, Nat.zero_le _, rfl, ⟨World.ownsRow_nil _ _ _ _, Below.refl _ _⟩⟩
  case round =>
    obtain ⟨k, hk, rfl, hrow⟩ := hrel
    by_cases hlt : k < s.size
    · go_wp2_with fail
      go_loopw [3, 5, 6] (fun b c i wr => ∃ (j m : Nat), j ≤ 8 ∧ i = .int .i64 j ∧ c = .int .u8 m ∧ Hid (m = s[k].toNat / 2 ^ j) ∧ m < 256 ∧ RowG w wr b (bitsTo s k j)) (fun _ _ i _ => 8 - (intOf i).toNat)
      case atStart => exact ⟨0, s[k].toNat, by omega, rfl, rfl, by show _ = _; simp, s[k].toNat_lt, hrow⟩
      case round =>
        clear hrow
        obtain ⟨j, m, hj, rfl, rfl, HM, hm, hrow⟩ := hrel
        by_cases hjl : j < 8
        · have HB := Lib.hid (bitsTo_bit s k j hlt)
          have HL := Lib.hid (bitsTo_length s k j (by omega))
          have hbb : (((m : Int) % 2) == 1) = s[k].toNat.testBit j := by rw [HM.out]; exact bit_of _ _
          have HM2 := Lib.hid (show m / 2 = s[k].toNat / 2 ^ (j + 1) by rw [HM.out]; exact half_of _ _)
          generalize s[k].toNat.testBit j = bb at *
          have hbs := hrow.bel.size
          have hll : (bitsTo s k j).length + 1 ≤ 4000 := by rw [HL.out]; omega
          go_wp2_with (at_builtin; refine wpList_append_own _ rfl _ _ 35 rfl w.heap.size 4 i0 (.bool false) 1 1 Try.underlying35 HI.out HZ0.out HZ1.out HZ2.out rfl (by decide) _ _ _ rfl (hrow.own.alloc _) ⟨wr.heap.size, 0, none⟩ 1 1 [.bool bb] rfl rfl (by exact cell_one_new _ _ _) ?c2 ?c3 ?c4 ?c5 ?_)
          case c2 => intro u hu; simp at hu; subst hu; rfl
          case c3 => unfold maxLen; omega
          case c4 => omega
          case c5 => simp; omega
          intro v' w1 hown' hgrow _
          have hrow' : RowG w w1 v' (bitsTo s k (j + 1)) := by
            refine ⟨?_, (hrow.bel.alloc hbs _).grown hgrow (by simp; omega) (fun q hq => (hrow.own.lt q hq).1)⟩
            rw [HB.out, List.length_append, List.map_append]
            exact hown'
          clear hrow hown' hgrow
          go_wp2_with fail
          exact ⟨⟨j + 1, m / 2, by omega, by go_num, by go_num, HM2.out, by omega, hrow'⟩, by simp [intOf]; omega⟩
        · obtain rfl : j = 8 := by omega
          go_wp2_with fail
          exact ⟨⟨k + 1, by omega, by go_num, by rw [← bitsTo_next s k hlt]; exact hrow⟩, by simp [intOf]; omega⟩
    · have HL := Lib.hid (bitsTo_length s k 0 hk)
      have HE := Lib.hid (bitsTo_end s k (by omega))
      have hll : (bitsTo s k 0).length + 32 ≤ 4000 := by rw [HL.out]; omega
      have hbs := hrow.bel.size
      go_wp2_with (at_builtin; refine wpList_append_zeros _ rfl _ _ 35 3 rfl w.heap.size 4 i0 (.bool false) .i64 .i64 Try.underlying35 Try.underlying3 HI.out HZ0.out HZ1.out HZ2.out rfl rfl _ _ _ rfl hrow.own 32 rfl (by decide) ?d1 ?d2 ?_)
      case d1 => omega
      case d2 => omega
      intro v' w1 hown' hgrow
      have hbel' : Below w.heap.size w w1 := hrow.bel.grown hgrow hbs (fun q hq => (hrow.own.lt q hq).1)
      have hown2 : w1.ownsRow w.heap.size 4 1 v' ((bitsTo s k 0).length + 32) ((Cr.full s.data.toList).map Value.bool) := by
        have e : (Cr.full s.data.toList).map Value.bool = (bitsTo s k 0).map Value.bool ++ List.replicate 32 (.bool false) := by
          rw [← HE.out, List.map_append]; simp [Cr.zeros]
        rw [e]; exact hown'
      clear hown' hgrow hrow
      generalize hN : (bitsTo s k 0).length + 32 = N at hown2 hll
      have HN := Lib.hid (show N = 8 * s.size + 32 by rw [← hN, HL.out]; omega)
      have hN32 : 8 * s.size + 32 ≤ N := by rw [HN.out]; exact Nat.le_refl _
      have hN33 : N ≤ 8 * s.size + 32 := by rw [HN.out]; exact Nat.le_refl _
      clear hN HL HE
      obtain ⟨g, cap, rfl⟩ := row_form hown2 (by omega)
      have hrow : RowN w w1 g N cap (Cr.inv (Cr.full s.data.toList) 0) := ⟨by rw [Cr.inv_zero]; exact hown2, hbel'⟩
      clear hown2 hbel' hk hlt
      go_wp2_with fail
      go_loopw [7] (fun i wr => ∃ j : Nat, j ≤ 32 ∧ i = .int .i64 j ∧ RowN w wr g N cap (Cr.inv (Cr.full s.data.toList) j)) (fun i _ => 32 - (intOf i).toNat)
      case atStart => exact ⟨0, by omega, rfl, hrow⟩
      case round =>
        clear hrow
        obtain ⟨j, hj, rfl, hrow⟩ := hrel
        by_cases hlt : j < 32
        · have HS := Lib.hid (Cr.inv_succ (Cr.full s.data.toList) j (by rw [Cr.full_length, size_list]; omega))
          have c1 := hrow.cell j (by omega)
          have c2 := hrow.frozen j
          have hjN : (j : Int) < (N : Int) := by omega
          have hflip := hrow.flip j _ rfl
          have HF := Lib.hid hflip
          clear hflip
          generalize Cr.at' (Cr.inv (Cr.full s.data.toList) j) j = x at *
          go_wp2_with fail
          exact ⟨⟨j + 1, by omega, by go_num, by rw [HS.out]; exact HF.out⟩, by simp [intOf]; omega⟩
        · obtain rfl : j = 32 := by omega
          have hB := hrow.base
          go_wp2_with fail
          refine (powers_any _).mono ?_
          rintro r w2 ⟨rfl, rfl⟩
          have hP := hrow.alloc (.cells powC 3)
          have HP := Lib.hid (heap_alloc_new wr (.cells powC 3))
          have hgP : g < wr.heap.size := hB.2
          generalize hPn : wr.heap.size = P at *
          generalize wr.alloc (.cells powC 3) = w3 at *
          generalize hB0 : Cr.inv (Cr.full s.data.toList) 32 = B0 at *
          have HB0 := Lib.hid hB0
          clear hB hrow hj hlt hPn hB0
          go_wp2_with fail
          go_loopw [9] (fun i wr => ∃ k : Nat, k ≤ 8 * s.size ∧ i = .int .i64 k ∧ RowN w wr g N cap (Cr.divN B0 k) ∧ Hid (wr.heap[P]? = some (.cells powC 3))) (fun i _ => 8 * s.size - (intOf i).toNat)
          case atStart => exact ⟨0, by omega, rfl, hP, HP⟩
          case round =>
            clear hP HP
            obtain ⟨k, hk, rfl, hrow, HP⟩ := hrel
            by_cases hlt : k < 8 * s.size
            · have HD := Lib.hid (show Cr.divN B0 (k + 1) = if Cr.at' (Cr.divN B0 k) k then Cr.flips (Cr.divN B0 k) k Cr.powers else Cr.divN B0 k from rfl)
              have c1 := hrow.cell k (by omega)
              have hkN : (k : Int) < (N : Int) := by omega
              have hk32 : (k : Int) + 32 < (N : Int) := by omega
              generalize Cr.divN B0 k = B at *
              cases hbit : Cr.at' B k
              · rw [hbit] at c1 HD
                go_wp2_with fail
                refine ⟨⟨k + 1, by omega, by go_num, ?_, HP⟩, by simp [intOf]; omega⟩
                have := HD.out
                rw [if_neg (by simp)] at this
                rw [this]; exact hrow
              · rw [hbit] at c1 HD
                clear hbit
                have HD2 := Lib.hid (HD.out.trans (if_pos rfl))
                clear HD
                go_wp2_with fail
                clear c1
                go_loopw [10] (fun i wr => ∃ j : Nat, j ≤ 14 ∧ i = .int .i64 j ∧ RowN w wr g N cap (Cr.flips B k (Cr.powers.take j)) ∧ Hid (wr.heap[P]? = some (.cells powC 3))) (fun i _ => 14 - (intOf i).toNat)
                case atStart => exact ⟨0, by omega, rfl, hrow, HP⟩
                case round =>
                  clear hrow HP
                  obtain ⟨j, hj, rfl, hrow, HP⟩ := hrel
                  by_cases hjl : j < 14
                  · obtain ⟨p, hp26, hpc, hpt⟩ := powC_get j hjl
                    have HPT := Lib.hid hpt
                    have c1 := (cell_of_row wr P j _ _ _ HP.out).trans hpc
                    clear hpt hpc
                    have c2 := hrow.cell (k + 32 - p) (by omega)
                    have c3 := hrow.frozen (k + 32 - p)
                    have HF := Lib.hid (hrow.flip (k + 32 - p) _ rfl)
                    have HS := Lib.hid (show Cr.flips B k (Cr.powers.take (j + 1)) = Cr.flip (Cr.flips B k (Cr.powers.take j)) (k + 32 - p) by rw [HPT.out]; exact Cr.flips_snoc _ _ _ _)
                    have hi0 : 0 ≤ (k : Int) + 32 - (p : Int) := by omega
                    have hi1 : (k : Int) + 32 - (p : Int) < (N : Int) := by omega
                    have hi2 : ((k : Int) + 32 - (p : Int)).toNat = k + 32 - p := by omega
                    have hi3 : (p : Int) ≤ (k : Int) + 32 := by omega
                    generalize Cr.at' (Cr.flips B k (Cr.powers.take j)) (k + 32 - p) = x at *
                    go_wp2_with fail
                    exact ⟨⟨j + 1, by omega, by go_num, by rw [HS.out]; exact HF.out, held_apart HP.out _ _ _ (by omega)⟩, by simp [intOf]; omega⟩
                  · obtain rfl : j = 14 := by omega
                    go_wp2_with fail
                    refine ⟨⟨k + 1, by omega, by go_num, ?_, HP⟩, by simp [intOf]; omega⟩
                    rw [HD2.out]; exact hrow
            · obtain rfl : k = 8 * s.size := by omega
              have hd : Cr.divN B0 (8 * s.size) = Cr.done s.data.toList := by rw [← HB0.out, Cr.done, size_list]
              rw [hd] at hrow
              have HUP := Lib.hid (Cr.done_up s.data.toList)
              rw [size_list] at HUP
              clear hd HB0 HP
              generalize Cr.done s.data.toList = B at *
              generalize hX : Cr.sum s.data.toList = X at *
              have HX := Lib.hid hX
              clear hX
              have HXL := Lib.hid (w_lt X)
              have hbel := hrow.bel
              go_wp2_with fail
              go_loop [12, 13] (fun n i => ∃ j : Nat, j ≤ 32 ∧ i = .int .i64 j ∧ n = .int .u32 (Cr.up X.toNat j)) (fun _ i => 32 - (intOf i).toNat)
              case atStart => exact ⟨0, by omega, rfl, val_int (by rw [Cr.up_zero]; rfl)⟩
              case round =>
                obtain ⟨j, hj, rfl, rfl⟩ := hrel
                by_cases hjl : j < 32
                · have hbit := HUP.out j hjl
                  rw [← HN.out] at hbit
                  have hup := Cr.up_succ X.toNat j hjl
                  have hul := Cr.up_lt X.toNat HXL.out (j + 1) (by omega)
                  have c1 := hrow.cell (N - 1 - j) (by omega)
                  have hi0 : 0 ≤ (N : Int) - 1 - (j : Int) := by omega
                  have hi1 : (N : Int) - 1 - (j : Int) < (N : Int) := by omega
                  have hi2 : ((N : Int) - 1 - (j : Int)).toNat = N - 1 - j := by omega
                  have hi3 : (j : Int) ≤ (N : Int) - 1 := by omega
                  have hi4 : (1 : Int) ≤ (N : Int) := by omega
                  rw [hbit] at hup
                  cases hx : Cr.at' B (N - 1 - j)
                  · rw [hx] at hup c1
                    simp only [Bool.not_false, Bool.toNat_true] at hup
                    have HU := Lib.hid (show ((Cr.up X.toNat (j + 1) : Nat) : Int) = 2 * (Cr.up X.toNat j : Int) + 1 by rw [hup]; simp)
                    clear hup hul hbit hx
                    generalize Cr.up X.toNat j = q at *
                    go_wp2_with fail
                    refine ⟨⟨j + 1, by omega, by go_num, val_int ?_⟩, by simp [intOf]; omega⟩
                    have h1 := Cr.up_lt X.toNat (w_lt X) (j + 1) (by omega)
                    have h2 := HU.out
                    omega
                  · rw [hx] at hup c1
                    simp only [Bool.not_true, Bool.toNat_false, Nat.add_zero] at hup
                    have HU := Lib.hid (show ((Cr.up X.toNat (j + 1) : Nat) : Int) = 2 * (Cr.up X.toNat j : Int) by rw [hup]; simp)
                    clear hup hul hbit hx
                    generalize Cr.up X.toNat j = q at *
                    go_wp2_with fail
                    refine ⟨⟨j + 1, by omega, by go_num, val_int ?_⟩, by simp [intOf]; omega⟩
                    have h1 := Cr.up_lt X.toNat (w_lt X) (j + 1) (by omega)
                    have h2 := HU.out
                    omega
                · obtain rfl : j = 32 := by omega
                  have HU := Lib.hid (Cr.up_all X.toNat)
                  go_wp2_with fail
                  go_ret
                  exact ⟨ret_u32 (by rw [HU.out, HX.out]), hbel⟩

end Go.Proofs.Ytfnbndgckjkgfaa
