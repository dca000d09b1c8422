/-
  WALKS OF LAYER 5: the document's Unpack whole, the rows of the document's examples (knows), and the law LzUnpacks.
-/
import Derived.Test.YtkifjobmomfofaaWalksF
namespace Go.Proofs.Ytkifjobmomfofaa
open Go.RowKit
set_option linter.unusedVariables false

set_option maxHeartbeats 800000 in
set_option maxRecDepth 100000 in
theorem refunpack_any (s : ByteArray) (most : Int) (w : World) (hs : s.size ≤ maxLen) (hm : most ≤ 2147483647) :
    Calls Try.prog 8 #[.string s, .int .i64 most] w (Unp w (Lz.unp s.data.toList most)) := by
  unfold Lz.unp
  by_cases h0 : most < 0
  · rw [if_pos h0]
    go_enter Try.func8, Try.ntmps8
    go_wp2_with fail
    go_ret2
    exact ⟨rfl, Below.refl _ _⟩
  · rw [if_neg h0]
    by_cases hx : s = ByteArray.empty
    · subst hx
      go_enter Try.func8, Try.ntmps8
      go_wp2_with fail
      go_ret2
      exact ⟨rfl, Below.refl _ _⟩
    · have hz := size_ne hx
      have hse : s.toList.isEmpty = false := by have := not_empty hx; simpa using this
      have hsz := hs
      unfold maxLen at hsz
      have hrl := extract_rest s 1
      have hdl : (s.data.toList.drop 1).length = s.size - 1 := by rw [List.length_drop, size_list]
      rw [list_cons s hz]
      show Calls _ _ _ _ (Unp w (if (s[0]).toNat = 0 then (if most < ((s.data.toList.drop 1).length : Int) then (3, []) else (0, s.data.toList.drop 1)) else if (s[0]).toNat = 1 then Lz.runF most.toNat (s.data.toList.drop 1).length (s.data.toList.drop 1) [] else (2, [])))
      rw [hdl]
      clear hdl
      by_cases hb0 : (s[0]).toNat = 0
      · rw [if_pos hb0]
        have hb0' : ((s[0].toNat : Int) == 0) = true := by rw [beq_iff_eq]; omega
        have hb1' : ¬ (1 : Int) < (s[0].toNat : Int) := by omega
        rw [← hrl]
        generalize hre : s.extract 1 s.size = rest at *
        have HR := Lib.hid hre
        clear hb0 hrl hre
        by_cases hq : most < ((s.size - 1 : Nat) : Int)
        · rw [if_pos hq]
          have hq' : most < (s.size : Int) - 1 := by omega
          clear hq
          go_enter Try.func8, Try.ntmps8
          go_wp2_with fail
          go_ret2
          exact ⟨rfl, Below.refl _ _⟩
        · rw [if_neg hq]
          have hq' : ¬ most < (s.size : Int) - 1 := by omega
          clear hq
          go_enter Try.func8, Try.ntmps8
          go_wp2_with fail
          go_ret2
          exact ⟨ret_tuple2 (val_str HR.out) rfl, Below.refl _ _⟩
      · rw [if_neg hb0]
        by_cases hb1 : (s[0]).toNat = 1
        · rw [if_pos hb1]
          obtain ⟨m, rfl⟩ := Int.eq_ofNat_of_zero_le (show 0 ≤ most by omega)
          rw [Int.toNat_natCast]
          exact refsteps_any s m w hs (by omega) hz hb1 _ rfl
        · rw [if_neg hb1]
          have hb1' : (1 : Int) < (s[0].toNat : Int) := by omega
          clear hb0 hb1 hrl
          go_enter Try.func8, Try.ntmps8
          go_wp2_with fail
          go_ret2
          exact ⟨rfl, Below.refl _ _⟩

theorem unp_a : Lz.unp [1, 2, 97, 11, 1] 9 = (0, [97, 97, 97, 97, 97, 97]) := by decide +kernel
theorem unp_b : Lz.unp [] 9 = (2, []) := by decide +kernel
theorem unp_c : Lz.unp [0, 97] 0 = (3, []) := by decide +kernel

theorem knows_a (w : World) : Calls Try.prog 7 #[.string ⟨#[1, 2, 97, 11, 1]⟩, .int .i64 9] w fun r w' => r = .returned (.tuple #[.string ⟨#[97, 97, 97, 97, 97, 97]⟩, .int .i64 0]) ∧ Below w.heap.size w w' :=
  (unpack_any ⟨#[1, 2, 97, 11, 1]⟩ 9 w (by decide) (by decide)).mono fun e w' h => by
    have h' : Unp w (Lz.unp [1, 2, 97, 11, 1] 9) e w' := h
    rw [unp_a] at h'; exact h'
theorem knows_b (w : World) : Calls Try.prog 7 #[.string ⟨#[]⟩, .int .i64 9] w fun r w' => r = .returned (.tuple #[.string ⟨#[]⟩, .int .i64 2]) ∧ Below w.heap.size w w' :=
  (unpack_any ⟨#[]⟩ 9 w (by decide) (by decide)).mono fun e w' h => by
    have h' : Unp w (Lz.unp [] 9) e w' := h
    rw [unp_b] at h'; exact h'
theorem knows_c (w : World) : Calls Try.prog 7 #[.string ⟨#[0, 97]⟩, .int .i64 0] w fun r w' => r = .returned (.tuple #[.string ⟨#[]⟩, .int .i64 3]) ∧ Below w.heap.size w w' :=
  (unpack_any ⟨#[0, 97]⟩ 0 w (by decide) (by decide)).mono fun e w' h => by
    have h' : Unp w (Lz.unp [0, 97] 0) e w' := h
    rw [unp_c] at h'; exact h'

set_option maxHeartbeats 800000 in
set_option maxRecDepth 100000 in
theorem knows_true (w : World) : Calls Try.prog 6 #[] w fun r w' => r = .returned (.bool true) ∧ Below w.heap.size w w' := by
  go_enter Try.func6, Try.ntmps6
  go_wp2_with fail
  refine (knows_a _).mono ?_
  rintro e w1 ⟨rfl, hb1⟩
  go_wp2_with fail
  refine (knows_b _).mono ?_
  rintro e w2 ⟨rfl, hb2⟩
  go_wp2_with fail
  refine (knows_c _).mono ?_
  rintro e w3 ⟨rfl, hb3⟩
  go_wp2_with fail
  go_ret
  exact ⟨rfl, below_step (below_step hb1 hb2) hb3⟩

set_option maxHeartbeats 800000 in
set_option maxRecDepth 100000 in
theorem unpacks_any (s : ByteArray) (most : Int) (w : World) (hs : s.size ≤ maxLen) :
    Calls Try.prog 3 #[.string s, .int .i64 most] w fun r w' => r = .returned (.bool true) ∧ Below w.heap.size w w' := by
  have hsz := hs
  unfold maxLen at hsz
  by_cases h1 : (400 : Int) < (s.size : Int)
  · go_enter Try.func3, Try.ntmps3
    go_wp2_with fail
    refine (knows_true _).mono ?_
    rintro e w1 ⟨rfl, hb1⟩
    go_wp2_with fail
    go_ret
    exact ⟨rfl, hb1⟩
  · by_cases h2 : (20000 : Int) < most
    · go_enter Try.func3, Try.ntmps3
      go_wp2_with fail
      refine (knows_true _).mono ?_
      rintro e w1 ⟨rfl, hb1⟩
      go_wp2_with fail
      go_ret
      exact ⟨rfl, hb1⟩
    · have HA := Lib.hid (unpack_any s most w hs (by omega))
      have HB := Lib.hid (fun v : World => refunpack_any s most v hs (by omega))
      generalize Lz.unp s.data.toList most = q at *
      obtain ⟨q1, q2⟩ := q
      go_enter Try.func3, Try.ntmps3
      go_wp2_with fail
      refine HA.out.mono ?_
      rintro e w1 ⟨rfl, hb1⟩
      go_wp2_with fail
      refine (HB.out _).mono ?_
      rintro e w2 ⟨rfl, hb2⟩
      go_wp2_with fail
      refine (knows_true _).mono ?_
      rintro e w3 ⟨rfl, hb3⟩
      go_wp2_with fail
      go_ret
      exact ⟨rfl, below_step (below_step hb1 hb2) hb3⟩

end Go.Proofs.Ytkifjobmomfofaa
