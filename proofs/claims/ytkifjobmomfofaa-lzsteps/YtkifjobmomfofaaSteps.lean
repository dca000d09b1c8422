/-
  WALKS OF LAYER 5: the document's Steps (knapsackref05.Steps): whatever steps, it answers a string of some size.
-/
import Derived.Test.YtkifjobmomfofaaWalksG
import Derived.Deep.RegionHeld3
import Derived.IntWalk
namespace Go.Proofs.Ytkifjobmomfofaa
open Go.RowKit
set_option linter.unusedVariables false
set_option linter.unusedSimpArgs false

/-- A step as the document's type has it. -/
structure Sp where
  n : Int
  far : Int
  text : ByteArray

/-- A slice of steps in memory. -/
structure StepsAt (w : World) (v : Value) (L : List Sp) : Prop where
  out : (v = .slice none 0 0 ∧ L = []) ∨ ∃ a cap, v = .slice (some a) L.length cap ∧ ∀ i e, L[i]? = some e → w.cell? (a.add (i * 3)) = some (.int .i64 e.n) ∧ w.cell? ((a.add (i * 3)).add 1) = some (.int .i64 e.far) ∧ w.cell? ((a.add (i * 3)).add 2) = some (.string e.text)

theorem StepsAt.form {w : World} {v : Value} {L : List Sp} (h : StepsAt w v L) : ∃ ao cap, v = .slice ao L.length cap := by
  rcases h.out with ⟨rfl, rfl⟩ | ⟨a, cap, rfl, _⟩
  · exact ⟨none, 0, rfl⟩
  · exact ⟨some a, cap, rfl⟩
theorem add_block (a : Addr) (n : Nat) : (a.add n).block = a.block := by unfold Addr.add; split <;> rfl
theorem add_add_mid (a : Addr) (n k : Nat) (hk : k ≠ 0) : (a.add n).add k = ⟨a.block, a.off + n + k, none⟩ := by
  unfold Addr.add
  rw [if_neg hk]
  split
  · subst_vars; simp
  · rfl
theorem add_off (a : Addr) (n : Nat) : (a.add n).off = a.off + n := by unfold Addr.add; split <;> simp_all
theorem StepsAt.elem {w : World} {cap : Nat} {ao : Option Addr} {n : Nat} {L : List Sp} (h : StepsAt w (.slice ao n cap) L) (i : Nat) (e : Sp) (hi : L[i]? = some e) :
    ∃ a, ao = some a ∧ w.cell? (a.add (i * 3)) = some (.int .i64 e.n) ∧ w.cell? ⟨a.block, a.off + i * 3 + 1, none⟩ = some (.int .i64 e.far) ∧ w.cell? ⟨a.block, a.off + i * 3 + 2, none⟩ = some (.string e.text) := by
  rcases h.out with ⟨_, rfl⟩ | ⟨a, cap', hv, hc⟩
  · simp at hi
  · simp only [Value.slice.injEq] at hv
    obtain ⟨h0, h1, h2⟩ := hc i e hi
    rw [add_add_mid _ _ _ (by decide)] at h1 h2
    exact ⟨a, hv.1, h0, h1, h2⟩
theorem StepsAt.below {w w' : World} {v : Value} {L : List Sp} (h : StepsAt w v L) (hb : Below w.heap.size w w') : StepsAt w' v L := by
  refine ⟨?_⟩
  rcases h.out with h0 | ⟨a, cap, hv, hc⟩
  · exact .inl h0
  · refine .inr ⟨a, cap, hv, fun i e hi => ?_⟩
    obtain ⟨h0, h1, h2⟩ := hc i e hi
    exact ⟨by rw [hb.cell (World.block_lt_of_cell? w _ h0)]; exact h0, by rw [hb.cell (World.block_lt_of_cell? w _ h1)]; exact h1, by rw [hb.cell (World.block_lt_of_cell? w _ h2)]; exact h2⟩

/-- What is put for a number. -/
def pv (x : Int) : ByteArray := ⟨(Lib.uvarint x.toNat).toArray⟩
theorem pv_size (x : Int) (h1 : x < 18446744073709551616) : (pv x).size ≤ 10 := by
  have := Lib.uvarint_length64 (x := x.toNat) (by omega)
  have e := size_list (pv x)
  have e2 : (pv x).data.toList = Lib.uvarint x.toNat := rfl
  rw [e2] at e; omega
theorem refput_int (x : Int) (w : World) (h0 : 0 ≤ x) (h1 : x < 18446744073709551616) :
    Calls Try.prog 14 #[.int .u64 x] w fun r w' => r = .returned (.string (pv x)) ∧ Below w.heap.size w w' := by
  obtain ⟨n, rfl⟩ := Int.eq_ofNat_of_zero_le h0
  exact refput_any n w (by omega)

set_option maxHeartbeats 2000000 in
set_option maxRecDepth 100000 in
theorem refsteps_some (v : Value) (L : List Sp) (w : World) (hL : StepsAt w v L) (hn : L.length ≤ 30) (hok : ∀ e ∈ L, e.text.size ≤ 100 ∧ 0 ≤ e.n ∧ 0 ≤ e.far) :
    Calls Try.prog 9 #[v] w fun r w' => ∃ b : ByteArray, r = .returned (.string b) ∧ b.size ≤ 4000 ∧ Below w.heap.size w w' := by
  obtain ⟨ao, cap, rfl⟩ := hL.form
  have HOK := Lib.hid hok
  have HL := Lib.hid hL
  clear hok hL
  have hcv := conv_one w 1 1 (by decide)
  go_enter Try.func9, Try.ntmps9
  go_wp2_with fail
  clear hcv
  go_loopw [3, 4] (fun s i wr => ∃ (k : Nat) (acc : ByteArray), k ≤ L.length ∧ i = .int .i64 k ∧ s = .string acc ∧ acc.size ≤ 1 + 120 * k ∧ Below w.heap.size w wr) (fun _ i _ => L.length - (intOf i).toNat)
  case atStart => exact ⟨0, ⟨#[1]⟩, by omega, rfl, rfl, by decide, (Below.refl _ _).alloc (Nat.le_refl _) _⟩
  case round =>
    obtain ⟨k, acc, hk, rfl, rfl, ha, hb⟩ := hrel
    by_cases hlt : k < L.length
    · have hlt' : (k : Int) < (L.length : Int) := by omega
      have hk0 : (0 : Int) ≤ (k : Int) := by omega
      obtain ⟨e, he⟩ : ∃ e, L[k]? = some e := ⟨L[k], List.getElem?_eq_getElem hlt⟩
      obtain ⟨ht, h0, h1⟩ := HOK.out e (List.mem_of_getElem? he)
      obtain ⟨a, ea, _⟩ := HL.out.elem k e he
      subst ea
      have HCC := Lib.hid (fun W (q : Below w.heap.size w W) => (by
        obtain ⟨a', e', h'⟩ := (HL.out.below q).elem k e he
        cases e'
        exact ⟨q, h'⟩ : Below w.heap.size w W ∧ W.cell? (a.add (k * 3)) = some (.int .i64 e.n) ∧ W.cell? ⟨a.block, a.off + k * 3 + 1, none⟩ = some (.int .i64 e.far) ∧ W.cell? ⟨a.block, a.off + k * 3 + 2, none⟩ = some (.string e.text)))
      obtain ⟨_, c0, c1, c2⟩ := HCC.out wr hb
      have hA1 := add_block a (k * 3)
      have hA2 := add_off a (k * 3)
      clear he
      generalize e.n = en at *
      generalize e.far = ef at *
      generalize e.text = et at *
      by_cases hf : ef = 0
      · subst hf
        have hp := pv_size (2 * (et.size : Int)) (by omega)
        have hs1 : ¬ 9223372036854775807 < acc.size + (pv (2 * (et.size : Int))).size := by omega
        have hs2 : ¬ 9223372036854775807 < acc.size + (pv (2 * (et.size : Int))).size + et.size := by omega
        have hw1 : IntKind.i64.wrap (2 * (et.size : Int)) = 2 * (et.size : Int) := IntWalk.i64_in _ (by omega)
        have hw2 : IntKind.u64.wrap (2 * (et.size : Int)) = 2 * (et.size : Int) := u64_wrap_id _ (by omega) (by omega)
        go_wp2_with fail
        go_region_held3 (fun w' => Below w.heap.size w w' ∧ w'.cell? (a.add (k * 3)) = some (.int .i64 en) ∧ w'.cell? ⟨a.block, a.off + k * 3 + 1, none⟩ = some (.int .i64 0) ∧ w'.cell? ⟨a.block, a.off + k * 3 + 2, none⟩ = some (.string et))
          (first | exact HCC.out _ (below_drewN hb 1) | (refine HCC.out _ (below_step ?_ (by assumption)); exact And.left (by assumption)))
          ((go_at_call 14; refine (refput_int _ _ (by omega) (by omega)).mono ?_; rintro r wx ⟨rfl, hx⟩))
        rename_i hH
        go_wp2
        go_roundw
        case rel => exact ⟨k + 1, _, by omega, by go_num, rfl, by simp only [ByteArray.size_append]; omega, hH.1⟩
        case measure => simp [intOf]; omega
      · have hf0 : (ef == 0) = false := by simpa using hf
        have ht1 : en.tmod 4096 = en % 4096 := Int.tmod_eq_emod_of_nonneg h0
        have ht2 : ef.tmod 70000 = ef % 70000 := Int.tmod_eq_emod_of_nonneg h1
        have hp1 := pv_size (2 * (en % 4096) + 1) (by omega)
        have hp2 := pv_size (ef % 70000) (by omega)
        have hs1 : ¬ 9223372036854775807 < acc.size + (pv (2 * (en % 4096) + 1)).size := by omega
        have hs2 : ¬ 9223372036854775807 < acc.size + (pv (2 * (en % 4096) + 1)).size + (pv (ef % 70000)).size := by omega
        have hr1 : 0 ≤ en % 4096 ∧ en % 4096 < 4096 := by omega
        have hr2 : 0 ≤ ef % 70000 ∧ ef % 70000 < 70000 := by omega
        have hw0 : IntKind.i64.wrap (en % 4096) = en % 4096 := IntWalk.i64_in _ (by omega)
        have hw1 : IntKind.i64.wrap (2 * (en % 4096)) = 2 * (en % 4096) := IntWalk.i64_in _ (by omega)
        have hw2 : IntKind.i64.wrap (2 * (en % 4096) + 1) = 2 * (en % 4096) + 1 := IntWalk.i64_in _ (by omega)
        have hw3 : IntKind.u64.wrap (2 * (en % 4096) + 1) = 2 * (en % 4096) + 1 := u64_wrap_id _ (by omega) (by omega)
        have hw4 : IntKind.i64.wrap (ef % 70000) = ef % 70000 := IntWalk.i64_in _ (by omega)
        have hw5 : IntKind.u64.wrap (ef % 70000) = ef % 70000 := u64_wrap_id _ (by omega) (by omega)
        go_wp2_with fail
        go_region_held3 (fun w' => Below w.heap.size w w' ∧ w'.cell? (a.add (k * 3)) = some (.int .i64 en) ∧ w'.cell? ⟨a.block, a.off + k * 3 + 1, none⟩ = some (.int .i64 ef) ∧ w'.cell? ⟨a.block, a.off + k * 3 + 2, none⟩ = some (.string et))
          (first | exact HCC.out _ (below_drewN hb 1) | (refine HCC.out _ (below_step ?_ (by assumption)); exact And.left (by assumption)))
          ((go_at_call 14; refine (refput_int _ _ (by omega) (by omega)).mono ?_; rintro r wx ⟨rfl, hx⟩))
        rename_i hH
        go_wp2
        go_roundw
        case rel => exact ⟨k + 1, _, by omega, by go_num, rfl, by simp only [ByteArray.size_append]; omega, hH.1⟩
        case measure => simp [intOf]; omega
    · go_wp2_with fail
      go_ret
      exact ⟨acc, rfl, by omega, hb⟩

end Go.Proofs.Ytkifjobmomfofaa
