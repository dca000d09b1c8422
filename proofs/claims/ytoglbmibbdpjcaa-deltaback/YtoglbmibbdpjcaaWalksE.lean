/-
  WALKS OF LAYER 6: the document's Apply whole, the rows of the document's examples (knows), and the law DeltaApplies.
-/
import Derived.Test.YtoglbmibbdpjcaaWalksD
namespace Go.Proofs.Ytoglbmibbdpjcaa
open Go.RowKit
set_option linter.unusedVariables false

set_option maxHeartbeats 800000 in
set_option maxRecDepth 100000 in
theorem refapply_any (base d : ByteArray) (most : Int) (w : World) (hbs : base.size ≤ 2000) (hs : d.size ≤ 5000) (hm : most ≤ 9223372036854775807) :
    Calls Try.prog 8 #[.string base, .string d, .int .i64 most] w (Apd w (Dl.app base.data.toList d.data.toList most)) := by
  have hsm : d.size ≤ maxLen := by unfold maxLen; omega
  unfold Dl.app
  by_cases h0 : most < 0
  · rw [if_pos h0]
    go_enter Try.func8, Try.ntmps8
    go_wp2_with fail
    go_ret2
    exact ⟨rfl, Below.refl _ _⟩
  · rw [if_neg h0]
    obtain ⟨mo, rfl⟩ := Int.eq_ofNat_of_zero_le (show 0 ≤ most by omega)
    rw [Int.toNat_natCast]
    unfold Dl.hd
    cases hv : Lz.vget d.data.toList with
    | none =>
      have HV := Lib.hid hv
      clear hv
      go_enter Try.func8, Try.ntmps8
      go_wp2_with fail
      refine (rget_nil _ _ hsm HV.out).mono ?_
      rintro e w2 ⟨rfl, rfl⟩
      go_wp2_with fail
      go_ret2
      exact ⟨rfl, Below.refl _ _⟩
    | some p =>
      obtain ⟨b, k0⟩ := p
      have hbd0 := Lz.vget_bd hv
      rw [size_list] at hbd0
      have hrs0 : (d.extract k0 d.size).size ≤ maxLen := by simp; omega
      have hk0 : ((k0 : Int) == 0) = false := beq_eq_false_iff_ne.2 (by omega)
      simp only
      cases hv2 : Lz.vget (d.data.toList.drop k0) with
      | none =>
        rw [← extract_rest d k0] at hv2
        have HV := Lib.hid hv
        have HV2 := Lib.hid hv2
        clear hv hv2
        go_enter Try.func8, Try.ntmps8
        go_wp2_with fail
        refine (rget_some _ _ hsm b k0 HV.out).mono ?_
        rintro e w2 ⟨rfl, rfl⟩
        go_wp2_with fail
        refine (rget_nil _ _ hrs0 HV2.out).mono ?_
        rintro e w2 ⟨rfl, rfl⟩
        go_wp2_with fail
        go_ret2
        exact ⟨rfl, Below.refl _ _⟩
      | some p =>
        obtain ⟨t, m0⟩ := p
        have hbd1 := Lz.vget_bd hv2
        rw [List.length_drop, size_list] at hbd1
        have hm0 : ((m0 : Int) == 0) = false := beq_eq_false_iff_ne.2 (by omega)
        have hw3 : IntKind.u64.wrap (base.size : Int) = (base.size : Int) := u64_wrap_id _ (by omega) (by omega)
        have hw4 : IntKind.u64.wrap (mo : Int) = (mo : Int) := u64_wrap_id _ (by omega) (by omega)
        simp only
        rw [size_list base, size_list d]
        by_cases hbq : b = base.size
        · rw [if_neg (by simpa using hbq)]
          by_cases hmt : mo < t
          · rw [if_pos hmt]
            have hbq' : ((b : Int) != (base.size : Int)) = false := by rw [hbq]; simp
            have hmt' : (mo : Int) < (t : Int) := by omega
            rw [← extract_rest d k0] at hv2
            have HV := Lib.hid hv
            have HV2 := Lib.hid hv2
            clear hbq hv hv2
            go_enter Try.func8, Try.ntmps8
            go_wp2_with fail
            refine (rget_some _ _ hsm b k0 HV.out).mono ?_
            rintro e w2 ⟨rfl, rfl⟩
            go_wp2_with fail
            refine (rget_some _ _ hrs0 t m0 HV2.out).mono ?_
            rintro e w2 ⟨rfl, rfl⟩
            go_wp2_with fail
            go_ret2
            exact ⟨rfl, Below.refl _ _⟩
          · rw [if_neg hmt]
            subst hbq
            exact refsteps_any base d mo t k0 m0 w hbs hs (by omega) hv hv2 (by omega) _ rfl
        · rw [if_pos (by simpa using hbq)]
          have hbq' : ((b : Int) != (base.size : Int)) = true := by rw [bne_iff_ne]; omega
          rw [← extract_rest d k0] at hv2
          have HV := Lib.hid hv
          have HV2 := Lib.hid hv2
          clear hbq hv hv2
          go_enter Try.func8, Try.ntmps8
          go_wp2_with fail
          refine (rget_some _ _ hsm b k0 HV.out).mono ?_
          rintro e w2 ⟨rfl, rfl⟩
          go_wp2_with fail
          refine (rget_some _ _ hrs0 t m0 HV2.out).mono ?_
          rintro e w2 ⟨rfl, rfl⟩
          go_wp2_with fail
          go_ret2
          exact ⟨rfl, Below.refl _ _⟩

theorem apply_eq (base d : ByteArray) (most : Int) (R : Nat) (t : ByteArray) (w : World) (hbs : base.size ≤ 2000) (hs : d.size ≤ 5000) (hm : most ≤ 9223372036854775807) (h : Dl.app base.data.toList d.data.toList most = (R, t.data.toList)) :
    Calls Try.prog 7 #[.string base, .string d, .int .i64 most] w fun r w' => r = .returned (.tuple #[.string t, .int .i64 R]) ∧ Below w.heap.size w w' :=
  (apply_any base d most w hbs hs hm).mono fun e w' hu => by
    rw [h] at hu
    obtain ⟨h1, h2⟩ := hu
    exact ⟨by rw [h1], h2⟩
theorem refapply_eq (base d : ByteArray) (most : Int) (R : Nat) (t : ByteArray) (w : World) (hbs : base.size ≤ 2000) (hs : d.size ≤ 5000) (hm : most ≤ 9223372036854775807) (h : Dl.app base.data.toList d.data.toList most = (R, t.data.toList)) :
    Calls Try.prog 8 #[.string base, .string d, .int .i64 most] w fun r w' => r = .returned (.tuple #[.string t, .int .i64 R]) ∧ Below w.heap.size w w' :=
  (refapply_any base d most w hbs hs hm).mono fun e w' hu => by
    rw [h] at hu
    obtain ⟨h1, h2⟩ := hu
    exact ⟨by rw [h1], h2⟩
theorem size_eq (d : ByteArray) (a b : Nat) (w : World) (hs : d.size ≤ maxLen) (h : Dl.siz d.data.toList = (a, b)) :
    Calls Try.prog 9 #[.string d] w fun r w' => r = .returned (.tuple #[.int .i64 b, .int .i64 a]) ∧ Below w.heap.size w w' :=
  (size_any d w hs).mono fun e w' hu => by rw [h] at hu; exact hu

theorem app_a : Dl.app [97, 98, 99, 100, 101, 102] [6, 5, 7, 1, 4, 120, 121] 9 = (0, [98, 99, 100, 120, 121]) := by decide +kernel
theorem app_b : Dl.app [97, 98, 99] [6, 5, 7, 1, 4, 120, 121] 9 = (6, []) := by decide +kernel
theorem app_c : Dl.app [97, 98, 99, 100, 101, 102] [6, 5, 7, 1, 4, 120, 121] 4 = (3, []) := by decide +kernel
theorem siz_a : Dl.siz [6, 5, 7, 1, 4, 120, 121] = (0, 5) := by decide +kernel

set_option maxHeartbeats 800000 in
set_option maxRecDepth 100000 in
theorem knows_true (w : World) : Calls Try.prog 6 #[] w fun r w' => r = .returned (.bool true) ∧ Below w.heap.size w w' := by
  go_enter Try.func6, Try.ntmps6
  go_wp2_with fail
  refine (apply_eq ⟨#[97, 98, 99, 100, 101, 102]⟩ ⟨#[6, 5, 7, 1, 4, 120, 121]⟩ 9 0 ⟨#[98, 99, 100, 120, 121]⟩ _ (by decide) (by decide) (by decide) app_a).mono ?_
  rintro e w1 ⟨rfl, hb1⟩
  go_wp2_with fail
  refine (apply_eq ⟨#[97, 98, 99]⟩ ⟨#[6, 5, 7, 1, 4, 120, 121]⟩ 9 6 ⟨#[]⟩ _ (by decide) (by decide) (by decide) app_b).mono ?_
  rintro e w2 ⟨rfl, hb2⟩
  go_wp2_with fail
  refine (apply_eq ⟨#[97, 98, 99, 100, 101, 102]⟩ ⟨#[6, 5, 7, 1, 4, 120, 121]⟩ 4 3 ⟨#[]⟩ _ (by decide) (by decide) (by decide) app_c).mono ?_
  rintro e w3 ⟨rfl, hb3⟩
  go_wp2_with fail
  refine (size_eq ⟨#[6, 5, 7, 1, 4, 120, 121]⟩ 0 5 _ (by decide) siz_a).mono ?_
  rintro e w4 ⟨rfl, hb4⟩
  go_wp2_with fail
  go_ret
  exact ⟨rfl, below_step (below_step (below_step hb1 hb2) hb3) hb4⟩

theorem siz_none1 {l : List UInt8} (h : Lz.vget l = none) : Dl.siz l = (2, 0) := by unfold Dl.siz Dl.hd; rw [h]
theorem siz_none2 {l : List UInt8} {b k : Nat} (h : Lz.vget l = some (b, k)) (h2 : Lz.vget (l.drop k) = none) : Dl.siz l = (2, 0) := by
  unfold Dl.siz Dl.hd; rw [h]; simp only; rw [h2]
theorem siz_some {l : List UInt8} {b k t m : Nat} (h : Lz.vget l = some (b, k)) (h2 : Lz.vget (l.drop k) = some (t, m)) : Dl.siz l = if 2147483647 < t then (2, 0) else (0, t) := by
  unfold Dl.siz Dl.hd; rw [h]; simp only; rw [h2]

set_option maxHeartbeats 800000 in
set_option maxRecDepth 100000 in
theorem applies_long (base d : ByteArray) (most : Int) (w : World) (hbs : base.size ≤ maxLen) (hs : d.size ≤ maxLen) (h : 400 < base.size ∨ 400 < d.size) :
    Calls Try.prog 3 #[.string base, .string d, .int .i64 most] w fun r w' => r = .returned (.bool true) ∧ Below w.heap.size w w' := by
  unfold maxLen at hbs hs
  by_cases h1 : (400 : Int) < (base.size : Int)
  · clear h
    go_enter Try.func3, Try.ntmps3
    go_wp2_with fail
    refine (knows_true _).mono ?_
    rintro e w1 ⟨rfl, hb1⟩
    go_wp2_with fail
    go_ret
    exact ⟨rfl, hb1⟩
  · have h2 : (400 : Int) < (d.size : Int) := by omega
    clear h
    go_enter Try.func3, Try.ntmps3
    go_wp2_with fail
    refine (knows_true _).mono ?_
    rintro e w1 ⟨rfl, hb1⟩
    go_wp2_with fail
    go_ret
    exact ⟨rfl, hb1⟩

set_option maxHeartbeats 2000000 in
set_option maxRecDepth 100000 in
theorem applies_any (base d : ByteArray) (most : Int) (w : World) (hbs : base.size ≤ maxLen) (hs : d.size ≤ maxLen) (hm : most ≤ 9223372036854775807) :
    Calls Try.prog 3 #[.string base, .string d, .int .i64 most] w fun r w' => r = .returned (.bool true) ∧ Below w.heap.size w w' := by
  by_cases hlong : 400 < base.size ∨ 400 < d.size
  · exact applies_long base d most w hbs hs hlong
  have h1 : ¬ (400 : Int) < (base.size : Int) := by omega
  have h2 : ¬ (400 : Int) < (d.size : Int) := by omega
  have HA := Lib.hid (fun v : World => apply_any base d most v (by omega) (by omega) hm)
  have HB := Lib.hid (fun v : World => refapply_any base d most v (by omega) (by omega) hm)
  generalize Dl.app base.data.toList d.data.toList most = q at *
  obtain ⟨q1, q2⟩ := q
  clear hlong
  cases hv : Lz.vget d.data.toList with
  | none =>
    have HZ := Lib.hid (siz_none1 hv)
    have HV := Lib.hid hv
    have hrs0 : (d.extract 0 d.size).size ≤ maxLen := by simp; omega
    have hv2 : Lz.vget (d.extract 0 d.size).data.toList = none := by rw [extract_rest]; simpa using hv
    have HV2 := Lib.hid hv2
    have he0 : d.extract 0 d.size = d := by simp
    clear hv hv2
    go_enter Try.func3, Try.ntmps3
    go_wp2_with fail
    refine (HA.out _).mono ?_
    rintro e w1 ⟨rfl, hb1⟩
    go_wp2_with fail
    refine (HB.out _).mono ?_
    rintro e w2 ⟨rfl, hb2⟩
    go_wp2_with fail
    refine (size_eq d 2 0 _ hs HZ.out).mono ?_
    rintro e w3 ⟨rfl, hb3⟩
    go_wp2_with fail
    refine (rget_nil _ _ hs HV.out).mono ?_
    rintro e w4 ⟨rfl, rfl⟩
    go_wp2_with fail
    first | rw [he0] | skip
    refine (rget_nil _ _ hs HV.out).mono ?_
    rintro e w4 ⟨rfl, rfl⟩
    go_wp2_with fail
    refine (knows_true _).mono ?_
    rintro e w5 ⟨rfl, hb5⟩
    go_wp2_with fail
    go_ret
    exact ⟨rfl, below_step (below_step (below_step hb1 hb2) hb3) hb5⟩
  | some p =>
    obtain ⟨b, k0⟩ := p
    have hbd0 := Lz.vget_bd hv
    rw [size_list] at hbd0
    have hrs0 : (d.extract k0 d.size).size ≤ maxLen := by simp; omega
    have hk0 : ((k0 : Int) == 0) = false := beq_eq_false_iff_ne.2 (by omega)
    have HV := Lib.hid hv
    cases hv2 : Lz.vget (d.data.toList.drop k0) with
    | none =>
      have HZ := Lib.hid (siz_none2 hv hv2)
      rw [← extract_rest d k0] at hv2
      have HV2 := Lib.hid hv2
      clear hv hv2
      go_enter Try.func3, Try.ntmps3
      go_wp2_with fail
      refine (HA.out _).mono ?_
      rintro e w1 ⟨rfl, hb1⟩
      go_wp2_with fail
      refine (HB.out _).mono ?_
      rintro e w2 ⟨rfl, hb2⟩
      go_wp2_with fail
      refine (size_eq d 2 0 _ hs HZ.out).mono ?_
      rintro e w3 ⟨rfl, hb3⟩
      go_wp2_with fail
      refine (rget_some _ _ hs b k0 HV.out).mono ?_
      rintro e w4 ⟨rfl, rfl⟩
      go_wp2_with fail
      refine (rget_nil _ _ hrs0 HV2.out).mono ?_
      rintro e w4 ⟨rfl, rfl⟩
      go_wp2_with fail
      refine (knows_true _).mono ?_
      rintro e w5 ⟨rfl, hb5⟩
      go_wp2_with fail
      go_ret
      exact ⟨rfl, below_step (below_step (below_step hb1 hb2) hb3) hb5⟩
    | some p =>
      obtain ⟨t, m0⟩ := p
      have hbd1 := Lz.vget_bd hv2
      rw [List.length_drop, size_list] at hbd1
      have hm0 : ((m0 : Int) == 0) = false := beq_eq_false_iff_ne.2 (by omega)
      have hz := siz_some hv hv2
      rw [← extract_rest d k0] at hv2
      have HV2 := Lib.hid hv2
      clear hv hv2
      by_cases ht : 2147483647 < t
      · rw [if_pos ht] at hz
        have HZ := Lib.hid hz
        have ht' : (2147483647 : Int) < (t : Int) := by omega
        clear hz ht
        go_enter Try.func3, Try.ntmps3
        go_wp2_with fail
        refine (HA.out _).mono ?_
        rintro e w1 ⟨rfl, hb1⟩
        go_wp2_with fail
        refine (HB.out _).mono ?_
        rintro e w2 ⟨rfl, hb2⟩
        go_wp2_with fail
        refine (size_eq d 2 0 _ hs HZ.out).mono ?_
        rintro e w3 ⟨rfl, hb3⟩
        go_wp2_with fail
        refine (rget_some _ _ hs b k0 HV.out).mono ?_
        rintro e w4 ⟨rfl, rfl⟩
        go_wp2_with fail
        refine (rget_some _ _ hrs0 t m0 HV2.out).mono ?_
        rintro e w4 ⟨rfl, rfl⟩
        go_wp2_with fail
        refine (knows_true _).mono ?_
        rintro e w5 ⟨rfl, hb5⟩
        go_wp2_with fail
        go_ret
        exact ⟨rfl, below_step (below_step (below_step hb1 hb2) hb3) hb5⟩
      · rw [if_neg ht] at hz
        have HZ := Lib.hid hz
        have ht' : ¬ (2147483647 : Int) < (t : Int) := by omega
        have hw5 : IntKind.i64.wrap (t : Int) = (t : Int) := IntWalk.i64_in _ (by omega)
        clear hz ht
        go_enter Try.func3, Try.ntmps3
        go_wp2_with fail
        refine (HA.out _).mono ?_
        rintro e w1 ⟨rfl, hb1⟩
        go_wp2_with fail
        refine (HB.out _).mono ?_
        rintro e w2 ⟨rfl, hb2⟩
        go_wp2_with fail
        refine (size_eq d 0 t _ hs HZ.out).mono ?_
        rintro e w3 ⟨rfl, hb3⟩
        go_wp2_with fail
        refine (rget_some _ _ hs b k0 HV.out).mono ?_
        rintro e w4 ⟨rfl, rfl⟩
        go_wp2_with fail
        refine (rget_some _ _ hrs0 t m0 HV2.out).mono ?_
        rintro e w4 ⟨rfl, rfl⟩
        go_wp2_with fail
        refine (knows_true _).mono ?_
        rintro e w5 ⟨rfl, hb5⟩
        go_wp2_with fail
        go_ret
        exact ⟨rfl, below_step (below_step (below_step hb1 hb2) hb3) hb5⟩

end Go.Proofs.Ytoglbmibbdpjcaa
