/-
  WALKS OF LAYER 9: few, short (the law), Same (the document).
-/
import Derived.Test.YtkdljagcdaphdaaWalksA
namespace Go.Proofs.Ytkdljagcdaphdaa
open Go.RowKit
set_option linter.unusedVariables false
set_option linter.unusedSimpArgs false

theorem RefsAt.name {w : World} {ao : Option Addr} {n cap : Nat} {L : List Rf.R} (h : RefsAt w (.slice ao n cap) L) (i : Nat) (r : Rf.R) (hi : L[i]? = some r) : ∃ a, ao = some a ∧ w.cell? (a.add (i * 33)) = some (.string r.name) := by
  obtain ⟨a, h1, _, h3⟩ := h.elem i r hi
  exact ⟨a, h1, rf_name h3⟩
theorem UpsAt.elem {w : World} {ao : Option Addr} {n cap : Nat} {L : List Rf.U} (h : UpsAt w (.slice ao n cap) L) (i : Nat) (r : Rf.U) (hi : L[i]? = some r) :
    ∃ a, ao = some a ∧ r.old.length + r.new.length = 64 ∧ ∀ j x, (upC r)[j]? = some x → w.cell? ((a.add (i * 65)).add j) = some x := by
  obtain ⟨a, h1, h2, h3⟩ := RowsAt.elem h i (upC r) (by simp [hi])
  rw [upC_length] at h2
  exact ⟨a, h1, by omega, h3⟩
theorem UpsAt.name {w : World} {ao : Option Addr} {n cap : Nat} {L : List Rf.U} (h : UpsAt w (.slice ao n cap) L) (i : Nat) (r : Rf.U) (hi : L[i]? = some r) : ∃ a, ao = some a ∧ w.cell? (a.add (i * 65)) = some (.string r.name) := by
  obtain ⟨a, h1, _, h3⟩ := h.elem i r hi
  have := h3 0 _ rfl
  exact ⟨a, h1, by simpa [Addr.add] using this⟩

/-- What few tells. -/
def FewR (L : List Rf.R) (r : Ending) : Prop := ∃ b : Bool, r = .returned (.bool b) ∧ (b = true → L.length ≤ 70 ∧ ∀ e ∈ L, e.name.size ≤ 100)
def ShortR (L : List Rf.U) (r : Ending) : Prop := ∃ b : Bool, r = .returned (.bool b) ∧ (b = true → L.length ≤ 30 ∧ ∀ e ∈ L, e.name.size ≤ 100)

set_option maxHeartbeats 400000 in
set_option maxRecDepth 100000 in
theorem few_any (v : Value) (L : List Rf.R) (w : World) (hL : RefsAt w v L) (hl : L.length ≤ maxLen) :
    Calls Try.prog 7 #[v] w fun r w' => FewR L r ∧ w = w' := by
  obtain ⟨ao, cap, rfl⟩ := hL.form
  unfold maxLen at hl
  have HL := Lib.hid hL
  clear hL
  go_enter Try.func7, Try.ntmps7
  go_wp2_with fail
  go_loop [3] (fun i => ∃ k : Nat, k ≤ L.length ∧ k ≤ 70 ∧ i = .int .i64 k ∧ Hid (∀ i e, L[i]? = some e → i < k → e.name.size ≤ 100)) (fun i => 70 - (intOf i).toNat)
  case atStart => exact ⟨0, by omega, by omega, rfl, fun i e _ h => absurd h (by omega)⟩
  case round =>
    obtain ⟨k, hk, hk30, rfl, HO⟩ := hrel
    by_cases hlt : k < L.length
    · have hlt' : (k : Int) < (L.length : Int) := by omega
      by_cases h30 : k < 70
      · have h30' : (k : Int) < 70 := by omega
        have hk0 : (0 : Int) ≤ (k : Int) := by omega
        obtain ⟨e, he⟩ : ∃ e, L[k]? = some e := ⟨L[k], List.getElem?_eq_getElem hlt⟩
        obtain ⟨a, ea, c0⟩ := HL.out.name k e he
        subst ea
        have HO2 : Hid (e.name.size ≤ 100 → ∀ i x, L[i]? = some x → i < k + 1 → x.name.size ≤ 100) := fun hh i x hx hi => by
          by_cases hik : i = k
          · subst hik; rw [he] at hx; cases hx; exact hh
          · exact HO.out i x hx (by omega)
        clear he HO
        generalize e.name = el at *
        by_cases q1 : (100 : Int) < (el.size : Int)
        · go_wp2_with fail
          go_ret
          exact ⟨⟨false, rfl, fun h => by cases h⟩, rfl⟩
        · go_wp2_with fail
          go_round
          case rel => exact ⟨k + 1, by omega, by omega, by go_num, HO2.out (by omega)⟩
          case measure => simp [intOf]; omega
      · have h30' : ¬ (k : Int) < 70 := by omega
        have hl30 : ¬ (L.length : Int) ≤ 70 := by omega
        go_wp2_with fail
        go_ret
        exact ⟨⟨false, rfl, fun h => by cases h⟩, rfl⟩
    · have hlt' : ¬ (k : Int) < (L.length : Int) := by omega
      have hl30 : (L.length : Int) ≤ 70 := by omega
      go_wp2_with fail
      go_ret
      exact ⟨⟨true, rfl, fun _ => ⟨by omega, fun e he => by
        obtain ⟨i, hi⟩ := List.getElem?_of_mem he
        exact HO.out i e hi (by have := (List.getElem?_eq_some_iff.1 hi).1; omega)⟩⟩, rfl⟩

set_option maxHeartbeats 400000 in
set_option maxRecDepth 100000 in
theorem short_any (v : Value) (L : List Rf.U) (w : World) (hL : UpsAt w v L) (hl : L.length ≤ maxLen) :
    Calls Try.prog 20 #[v] w fun r w' => ShortR L r ∧ w = w' := by
  obtain ⟨ao, cap, rfl⟩ := hL.form
  unfold maxLen at hl
  have HL := Lib.hid hL
  clear hL
  go_enter Try.func20, Try.ntmps20
  go_wp2_with fail
  go_loop [3] (fun i => ∃ k : Nat, k ≤ L.length ∧ k ≤ 30 ∧ i = .int .i64 k ∧ Hid (∀ i e, L[i]? = some e → i < k → e.name.size ≤ 100)) (fun i => 30 - (intOf i).toNat)
  case atStart => exact ⟨0, by omega, by omega, rfl, fun i e _ h => absurd h (by omega)⟩
  case round =>
    obtain ⟨k, hk, hk30, rfl, HO⟩ := hrel
    by_cases hlt : k < L.length
    · have hlt' : (k : Int) < (L.length : Int) := by omega
      by_cases h30 : k < 30
      · have h30' : (k : Int) < 30 := by omega
        have hk0 : (0 : Int) ≤ (k : Int) := by omega
        obtain ⟨e, he⟩ : ∃ e, L[k]? = some e := ⟨L[k], List.getElem?_eq_getElem hlt⟩
        obtain ⟨a, ea, c0⟩ := HL.out.name k e he
        subst ea
        have HO2 : Hid (e.name.size ≤ 100 → ∀ i x, L[i]? = some x → i < k + 1 → x.name.size ≤ 100) := fun hh i x hx hi => by
          by_cases hik : i = k
          · subst hik; rw [he] at hx; cases hx; exact hh
          · exact HO.out i x hx (by omega)
        clear he HO
        generalize e.name = el at *
        by_cases q1 : (100 : Int) < (el.size : Int)
        · go_wp2_with fail
          go_ret
          exact ⟨⟨false, rfl, fun h => by cases h⟩, rfl⟩
        · go_wp2_with fail
          go_round
          case rel => exact ⟨k + 1, by omega, by omega, by go_num, HO2.out (by omega)⟩
          case measure => simp [intOf]; omega
      · have h30' : ¬ (k : Int) < 30 := by omega
        have hl30 : ¬ (L.length : Int) ≤ 30 := by omega
        go_wp2_with fail
        go_ret
        exact ⟨⟨false, rfl, fun h => by cases h⟩, rfl⟩
    · have hlt' : ¬ (k : Int) < (L.length : Int) := by omega
      have hl30 : (L.length : Int) ≤ 30 := by omega
      go_wp2_with fail
      go_ret
      exact ⟨⟨true, rfl, fun _ => ⟨by omega, fun e he => by
        obtain ⟨i, hi⟩ := List.getElem?_of_mem he
        exact HO.out i e hi (by have := (List.getElem?_eq_some_iff.1 hi).1; omega)⟩⟩, rfl⟩

set_option maxHeartbeats 800000 in
set_option maxRecDepth 100000 in
theorem same_any (L : List Rf.R) (va vb : Value) (w : World) (hA : RefsAt w va L) (hB : RefsAt w vb L) (hl : L.length ≤ 3000) :
    Calls Try.prog 15 #[va, vb] w fun r w' => r = .returned (.bool true) ∧ Below w.heap.size w w' := by
  obtain ⟨ao, ca, rfl⟩ := hA.form
  obtain ⟨bo, cb, rfl⟩ := hB.form
  have HA := Lib.hid hA
  have HB := Lib.hid hB
  clear hA hB
  have HU := Lib.hid underRf
  go_enter Try.func15, Try.ntmps15
  go_wp2_with fail
  go_loopw [5] (fun i wr => ∃ (k : Nat), k ≤ L.length ∧ i = .int .i64 k ∧ Below w.heap.size w wr) (fun i _ => L.length - (intOf i).toNat)
  case atStart => exact ⟨0, by omega, rfl, Below.refl _ _⟩
  case round =>
    obtain ⟨k, hk, rfl, hb⟩ := hrel
    by_cases hlt : k < L.length
    · have hlt' : (k : Int) < (L.length : Int) := by omega
      have hk0 : (0 : Int) ≤ (k : Int) := by omega
      obtain ⟨e, he⟩ : ∃ e, L[k]? = some e := ⟨L[k], List.getElem?_eq_getElem hlt⟩
      obtain ⟨a, rfl, hid, a1⟩ := (HA.out.below hb.drew).elem k e he
      obtain ⟨b, rfl, _, b1⟩ := (HB.out.below hb.drew).elem k e he
      have HC := Lib.hid a1
      have HE := Lib.hid b1
      have HI := Lib.hid (rfsize hid)
      have hq := fun W => eq_rf e hid W
      clear he a1 b1 hid
      go_wp2_with fail
      refine region_still (by kernel_rfl) (by kernel_rfl) ?_
      repeat still_step
      (with_reducible apply still_ld (hc := HC.out) (hu := HU.out) (hi := HI.out))
      rfl
      rfl
      rfl
      rfl
      repeat still_step
      (with_reducible apply still_ld (hc := HE.out) (hu := HU.out) (hi := HI.out))
      rfl
      rfl
      rfl
      rfl
      repeat still_step
      refine wpStill_nil ?_
      go_wp2
      go_roundw
      case rel => exact ⟨k + 1, by omega, by go_num, hb.drew⟩
      case measure => simp [intOf]; omega
    · go_wp2
      go_ret
      exact ⟨rfl, hb⟩

end Go.Proofs.Ytkdljagcdaphdaa
