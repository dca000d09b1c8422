/-
  WALKS OF LAYER 6: the document's Delta (knapsackref06.Delta): whatever steps, it answers a string of some size; the law DeltaSteps.
-/
import Derived.Test.YtoglbmibbdpjcaaWalksE
import Derived.Deep.RegionHeld3
import Derived.IntWalk
namespace Go.Proofs.Ytoglbmibbdpjcaa
open Go.RowKit
set_option linter.unusedVariables false
set_option linter.unusedSimpArgs false

/-- A step as the document's type has it. -/
structure Sp where
  pl : Int
  n : Int
  text : ByteArray

/-- A slice of steps in memory. -/
structure StepsAt (w : World) (v : Value) (L : List Sp) : Prop where
  out : (v = .slice none 0 0 ∧ L = []) ∨ ∃ a cap, v = .slice (some a) L.length cap ∧ ∀ i e, L[i]? = some e → w.cell? (a.add (i * 3)) = some (.int .i64 e.pl) ∧ w.cell? ((a.add (i * 3)).add 1) = some (.int .i64 e.n) ∧ w.cell? ((a.add (i * 3)).add 2) = some (.string e.text)

theorem StepsAt.form {w : World} {v : Value} {L : List Sp} (h : StepsAt w v L) : ∃ ao cap, v = .slice ao L.length cap := by
  rcases h.out with ⟨rfl, rfl⟩ | ⟨a, cap, rfl, _⟩
  · exact ⟨none, 0, rfl⟩
  · exact ⟨some a, cap, rfl⟩
theorem add_block (a : Addr) (n : Nat) : (a.add n).block = a.block := by unfold Addr.add; split <;> rfl
theorem add_add_mid (a : Addr) (n k : Nat) (hk : k ≠ 0) : (a.add n).add k = ⟨a.block, a.off + n + k, none⟩ := by
  unfold Addr.add
  rw [if_neg hk]
  split
  · subst_vars; simp
  · rfl
theorem add_off (a : Addr) (n : Nat) : (a.add n).off = a.off + n := by unfold Addr.add; split <;> simp_all
theorem StepsAt.elem {w : World} {cap : Nat} {ao : Option Addr} {n : Nat} {L : List Sp} (h : StepsAt w (.slice ao n cap) L) (i : Nat) (e : Sp) (hi : L[i]? = some e) :
    ∃ a, ao = some a ∧ w.cell? (a.add (i * 3)) = some (.int .i64 e.pl) ∧ w.cell? ⟨a.block, a.off + i * 3 + 1, none⟩ = some (.int .i64 e.n) ∧ w.cell? ⟨a.block, a.off + i * 3 + 2, none⟩ = some (.string e.text) := by
  rcases h.out with ⟨_, rfl⟩ | ⟨a, cap', hv, hc⟩
  · simp at hi
  · simp only [Value.slice.injEq] at hv
    obtain ⟨h0, h1, h2⟩ := hc i e hi
    rw [add_add_mid _ _ _ (by decide)] at h1 h2
    exact ⟨a, hv.1, h0, h1, h2⟩
theorem StepsAt.below {w w' : World} {v : Value} {L : List Sp} (h : StepsAt w v L) (hb : Below w.heap.size w w') : StepsAt w' v L := by
  refine ⟨?_⟩
  rcases h.out with h0 | ⟨a, cap, hv, hc⟩
  · exact .inl h0
  · refine .inr ⟨a, cap, hv, fun i e hi => ?_⟩
    obtain ⟨h0, h1, h2⟩ := hc i e hi
    exact ⟨by rw [hb.cell (World.block_lt_of_cell? w _ h0)]; exact h0, by rw [hb.cell (World.block_lt_of_cell? w _ h1)]; exact h1, by rw [hb.cell (World.block_lt_of_cell? w _ h2)]; exact h2⟩

/-- What is put for a number. -/
def pv (x : Int) : ByteArray := ⟨(Lib.uvarint x.toNat).toArray⟩
theorem pv_size (x : Int) (h1 : x < 18446744073709551616) : (pv x).size ≤ 10 := by
  have := Lib.uvarint_length64 (x := x.toNat) (by omega)
  have e := size_list (pv x)
  have e2 : (pv x).data.toList = Lib.uvarint x.toNat := rfl
  rw [e2] at e; omega
theorem refput_int (x : Int) (w : World) (h0 : 0 ≤ x) (h1 : x < 18446744073709551616) :
    Calls Try.prog 15 #[.int .u64 x] w fun r w' => r = .returned (.string (pv x)) ∧ Below w.heap.size w w' := by
  obtain ⟨n, rfl⟩ := Int.eq_ofNat_of_zero_le h0
  exact refput_any n w (by omega)
theorem wrap64 (x : Int) : 0 ≤ IntKind.u64.wrap x ∧ IntKind.u64.wrap x < 18446744073709551616 := by
  rw [IntKind.wrap_u64]; omega
/-- Whatever the number, wrapped as Go wraps it. -/
theorem refput_wrap (x : Int) (w : World) :
    Calls Try.prog 15 #[.int .u64 (IntKind.u64.wrap x)] w fun r w' => r = .returned (.string (pv (IntKind.u64.wrap x))) ∧ Below w.heap.size w w' := refput_int _ w (wrap64 x).1 (wrap64 x).2

set_option maxHeartbeats 2000000 in
set_option maxRecDepth 100000 in
theorem refdelta_some (x y : Int) (v : Value) (L : List Sp) (w : World) (hL : StepsAt w v L) (hn : L.length ≤ 30) (hok : ∀ e ∈ L, e.text.size ≤ 100 ∧ 0 ≤ e.n) :
    Calls Try.prog 11 #[.int .i64 x, .int .i64 y, v] w fun r w' => ∃ b : ByteArray, r = .returned (.string b) ∧ b.size ≤ 4000 ∧ Below w.heap.size w w' := by
  obtain ⟨ao, cap, rfl⟩ := hL.form
  have HOK := Lib.hid hok
  have HL := Lib.hid hL
  clear hok hL
  have HX := Lib.hid (fun v : World => refput_wrap x v)
  have HY := Lib.hid (fun v : World => refput_wrap y v)
  have hpx := pv_size _ (wrap64 x).2
  have hpy := pv_size _ (wrap64 y).2
  go_enter Try.func11, Try.ntmps11
  go_wp2_with fail
  refine (HX.out _).mono ?_
  rintro e w1 ⟨rfl, hb1⟩
  go_wp2_with fail
  refine (HY.out _).mono ?_
  rintro e w2 ⟨rfl, hb2⟩
  have hs0 : ¬ 9223372036854775807 < (pv (IntKind.u64.wrap x)).size + (pv (IntKind.u64.wrap y)).size := by omega
  generalize pv (IntKind.u64.wrap x) = px at *
  generalize pv (IntKind.u64.wrap y) = py at *
  go_wp2_with fail
  have hbb := below_step hb1 hb2
  clear HX HY hb1 hb2
  go_loopw [7, 8] (fun s i wr => ∃ (k : Nat) (acc : ByteArray), k ≤ L.length ∧ i = .int .i64 k ∧ s = .string acc ∧ acc.size ≤ 20 + 120 * k ∧ Below w.heap.size w wr) (fun _ i _ => L.length - (intOf i).toNat)
  case atStart => exact ⟨0, px ++ py, by omega, rfl, rfl, by rw [ByteArray.size_append]; omega, hbb⟩
  case round =>
    obtain ⟨k, acc, hk, rfl, rfl, ha, hb⟩ := hrel
    clear hbb
    by_cases hlt : k < L.length
    · have hlt' : (k : Int) < (L.length : Int) := by omega
      have hk0 : (0 : Int) ≤ (k : Int) := by omega
      obtain ⟨e, he⟩ : ∃ e, L[k]? = some e := ⟨L[k], List.getElem?_eq_getElem hlt⟩
      obtain ⟨ht, h0⟩ := HOK.out e (List.mem_of_getElem? he)
      obtain ⟨a, ea, _⟩ := HL.out.elem k e he
      subst ea
      have HCC := Lib.hid (fun W (q : Below w.heap.size w W) => (by
        obtain ⟨a', e', h'⟩ := (HL.out.below q).elem k e he
        cases e'
        exact ⟨q, h'⟩ : Below w.heap.size w W ∧ W.cell? (a.add (k * 3)) = some (.int .i64 e.pl) ∧ W.cell? ⟨a.block, a.off + k * 3 + 1, none⟩ = some (.int .i64 e.n) ∧ W.cell? ⟨a.block, a.off + k * 3 + 2, none⟩ = some (.string e.text)))
      obtain ⟨_, c0, c1, c2⟩ := HCC.out wr hb
      have hA1 := add_block a (k * 3)
      have hA2 := add_off a (k * 3)
      clear he
      generalize e.pl = ep at *
      generalize e.n = en at *
      generalize e.text = et at *
      by_cases hf : et = ByteArray.empty
      · subst hf
        have ht1 : en.tmod 100000 = en % 100000 := Int.tmod_eq_emod_of_nonneg h0
        have hp1 := pv_size (2 * (en % 100000) + 1) (by omega)
        have hp2 := pv_size _ (wrap64 ep).2
        have hs1 : ¬ 9223372036854775807 < acc.size + (pv (2 * (en % 100000) + 1)).size := by omega
        have hs2 : ¬ 9223372036854775807 < acc.size + (pv (2 * (en % 100000) + 1)).size + (pv (IntKind.u64.wrap ep)).size := by omega
        have hr1 : 0 ≤ en % 100000 ∧ en % 100000 < 100000 := by omega
        have hw0 : IntKind.i64.wrap (en % 100000) = en % 100000 := IntWalk.i64_in _ (by omega)
        have hw1 : IntKind.i64.wrap (2 * (en % 100000)) = 2 * (en % 100000) := IntWalk.i64_in _ (by omega)
        have hw2 : IntKind.i64.wrap (2 * (en % 100000) + 1) = 2 * (en % 100000) + 1 := IntWalk.i64_in _ (by omega)
        have hw3 : IntKind.u64.wrap (2 * (en % 100000) + 1) = 2 * (en % 100000) + 1 := u64_wrap_id _ (by omega) (by omega)
        have hz1 := wrap64 ep
        go_wp2_with fail
        go_region_held3 (fun w' => Below w.heap.size w w' ∧ w'.cell? (a.add (k * 3)) = some (.int .i64 ep) ∧ w'.cell? ⟨a.block, a.off + k * 3 + 1, none⟩ = some (.int .i64 en) ∧ w'.cell? ⟨a.block, a.off + k * 3 + 2, none⟩ = some (.string ByteArray.empty))
          (first | exact HCC.out _ (below_drewN hb 1) | (refine HCC.out _ (below_step ?_ (by assumption)); exact And.left (by assumption)))
          ((go_at_call 15; refine (refput_int _ _ (by omega) (by omega)).mono ?_; rintro r wx ⟨rfl, hx⟩))
        rename_i hH
        go_wp2
        go_roundw
        case rel => exact ⟨k + 1, _, by omega, by go_num, rfl, by simp only [ByteArray.size_append]; omega, hH.1⟩
        case measure => simp [intOf]; omega
      · have hne := not_empty hf
        have hp := pv_size (2 * (et.size : Int)) (by omega)
        have hs1 : ¬ 9223372036854775807 < acc.size + (pv (2 * (et.size : Int))).size := by omega
        have hs2 : ¬ 9223372036854775807 < acc.size + (pv (2 * (et.size : Int))).size + et.size := by omega
        have hw1 : IntKind.i64.wrap (2 * (et.size : Int)) = 2 * (et.size : Int) := IntWalk.i64_in _ (by omega)
        have hw2 : IntKind.u64.wrap (2 * (et.size : Int)) = 2 * (et.size : Int) := u64_wrap_id _ (by omega) (by omega)
        go_wp2_with fail
        go_region_held3 (fun w' => Below w.heap.size w w' ∧ w'.cell? (a.add (k * 3)) = some (.int .i64 ep) ∧ w'.cell? ⟨a.block, a.off + k * 3 + 1, none⟩ = some (.int .i64 en) ∧ w'.cell? ⟨a.block, a.off + k * 3 + 2, none⟩ = some (.string et))
          (first | exact HCC.out _ (below_drewN hb 1) | (refine HCC.out _ (below_step ?_ (by assumption)); exact And.left (by assumption)))
          ((go_at_call 15; refine (refput_int _ _ (by omega) (by omega)).mono ?_; rintro r wx ⟨rfl, hx⟩))
        rename_i hH
        go_wp2
        go_roundw
        case rel => exact ⟨k + 1, _, by omega, by go_num, rfl, by simp only [ByteArray.size_append]; omega, hH.1⟩
        case measure => simp [intOf]; omega
    · go_wp2_with fail
      go_ret
      exact ⟨acc, rfl, by omega, hb⟩

end Go.Proofs.Ytoglbmibbdpjcaa
