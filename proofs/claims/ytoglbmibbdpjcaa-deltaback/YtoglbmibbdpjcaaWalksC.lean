/-
  WALKS OF LAYER 6: follow, Apply.
-/
import Derived.Test.YtoglbmibbdpjcaaWalksB
namespace Go.Proofs.Ytoglbmibbdpjcaa
open Go.RowKit
set_option linter.unusedVariables false

/-- The end of an Apply: the error's number, and the text. -/
def Apd (w : World) (R : Nat × List UInt8) (r : Ending) (w' : World) : Prop := r = .returned (.tuple #[.string ⟨R.2.toArray⟩, .int .i64 R.1]) ∧ Below w.heap.size w w'

set_option maxHeartbeats 800000 in
set_option maxRecDepth 100000 in
theorem follow_any (base s : ByteArray) (t : Nat) (w : World) (hbs : base.size ≤ 2000) (hs : s.size ≤ 5000) (ht : t ≤ 9223372036854775807) :
    Calls Try.prog 14 #[.string base, .string s, .int .i64 t] w (Apd w (Dl.ofRun (Dl.runF base.data.toList t s.size s.data.toList []))) := by
  have hsp := Dl.run_split base.data.toList t s.size s.data.toList [] (by rw [size_list]; exact Nat.le_refl _) (Nat.zero_le _)
  rw [show t - ([] : List UInt8).length = t by simp] at hsp
  have hbm : base.size ≤ maxLen := by unfold maxLen; omega
  have hsm : s.size ≤ maxLen := by unfold maxLen; omega
  rcases hsp with ⟨h1, h2, h3⟩ | ⟨h1, h2⟩
  · rw [h2]
    have hle := Dl.mes_le base.data.toList s.size s.data.toList t (by rw [size_list]; exact Nat.le_refl _) h1
    rw [size_list, size_list] at hle
    have hle2 : s.size * (base.size + 1) ≤ 5000 * 2001 := Nat.mul_le_mul hs (by omega)
    have ht2 : ¬ (2147483647 : Int) < (t : Int) := by omega
    have HQ := Lib.hid h1
    clear h1 h2 h3 hle hle2
    generalize hp : Dl.proF base.data.toList s.size s.data.toList [] = p at *
    have HP := Lib.hid hp
    clear hp
    go_enter Try.func14, Try.ntmps14
    go_wp2_with fail
    refine (measures_any base s t _ hbm hsm ht true HQ.out).mono ?_
    rintro e w1 ⟨rfl, hb1⟩
    go_wp2_with fail
    refine (produce_any base s t _ hbm hsm (by omega) p HQ.out HP.out).mono ?_
    rintro e w2 ⟨rfl, hb2⟩
    go_wp2_with fail
    go_ret2
    exact ⟨rfl, below_step hb1 hb2⟩
  · rw [h2]
    have HQ := Lib.hid h1
    clear h1 h2
    go_enter Try.func14, Try.ntmps14
    go_wp2_with fail
    refine (measures_any base s t _ hbm hsm ht false HQ.out).mono ?_
    rintro e w1 ⟨rfl, hb1⟩
    go_wp2_with fail
    go_ret2
    exact ⟨rfl, hb1⟩

set_option maxHeartbeats 800000 in
set_option maxRecDepth 100000 in
theorem apply_any (base d : ByteArray) (most : Int) (w : World) (hbs : base.size ≤ 2000) (hs : d.size ≤ 5000) (hm : most ≤ 9223372036854775807) :
    Calls Try.prog 7 #[.string base, .string d, .int .i64 most] w (Apd w (Dl.app base.data.toList d.data.toList most)) := by
  have hbm : base.size ≤ maxLen := by unfold maxLen; omega
  have hsm : d.size ≤ maxLen := by unfold maxLen; omega
  unfold Dl.app
  by_cases h0 : most < 0
  · rw [if_pos h0]
    go_enter Try.func7, Try.ntmps7
    go_wp2_with fail
    go_ret2
    exact ⟨rfl, Below.refl _ _⟩
  · rw [if_neg h0]
    obtain ⟨mo, rfl⟩ := Int.eq_ofNat_of_zero_le (show 0 ≤ most by omega)
    rw [Int.toNat_natCast]
    cases h : Dl.hd d.data.toList with
    | none =>
      have H := Lib.hid h
      clear h
      go_enter Try.func7, Try.ntmps7
      go_wp2_with fail
      refine (takeHead_none d _ hsm H.out).mono ?_
      rintro e w1 ⟨rfl, hb⟩
      unfold hdV
      go_wp2_with fail
      go_ret2
      exact ⟨rfl, hb.alloc hb.size _⟩
    | some p =>
      obtain ⟨b, t, k⟩ := p
      have hbd := Dl.hd_bd h
      have H := Lib.hid h
      clear h
      simp only
      have hw3 : IntKind.u64.wrap (base.size : Int) = (base.size : Int) := u64_wrap_id _ (by omega) (by omega)
      have hw4 : IntKind.u64.wrap (mo : Int) = (mo : Int) := u64_wrap_id _ (by omega) (by omega)
      rw [size_list base, size_list d]
      by_cases hbq : b = base.size
      · rw [if_neg (by simpa using hbq)]
        have hbq' : ((b : Int) != (base.size : Int)) = false := by rw [hbq]; simp
        by_cases hmt : mo < t
        · rw [if_pos hmt]
          have hmt' : (mo : Int) < (t : Int) := by omega
          clear hbq
          go_enter Try.func7, Try.ntmps7
          go_wp2_with fail
          refine (takeHead_some d _ hsm b t k H.out).mono ?_
          rintro e w1 ⟨⟨a, ha, rfl⟩, hb⟩
          unfold hdV
          go_wp2_with fail
          go_ret2
          exact ⟨rfl, hb.alloc hb.size _⟩
        · rw [if_neg hmt]
          have hmt' : ¬ (mo : Int) < (t : Int) := by omega
          have hw5 : IntKind.i64.wrap (t : Int) = (t : Int) := IntWalk.i64_in _ (by omega)
          clear hbq
          go_enter Try.func7, Try.ntmps7
          go_wp2_with fail
          refine (takeHead_some d _ hsm b t k H.out).mono ?_
          rintro e w1 ⟨⟨a, ha, rfl⟩, hb⟩
          unfold hdV
          have has := size_list a
          rw [ha, List.length_drop] at has
          rw [size_list] at has
          have hfo := fun v : World => follow_any base a t v hbs (by omega) (by omega)
          rw [ha, ← has] at hfo
          generalize Dl.ofRun (Dl.runF base.data.toList t (d.size - k) (d.data.toList.drop k) []) = q at *
          have HFO := Lib.hid hfo
          clear hfo ha has
          go_wp2_with fail
          refine (HFO.out _).mono ?_
          rintro e w2 ⟨rfl, hb2⟩
          go_wp2_with fail
          go_ret2
          exact ⟨rfl, (hb.alloc hb.size _).trans (hb2.mono (by simp; have := hb.size; omega))⟩
      · rw [if_pos (by simpa using hbq)]
        have hbq' : ((b : Int) != (base.size : Int)) = true := by rw [bne_iff_ne]; omega
        clear hbq
        go_enter Try.func7, Try.ntmps7
        go_wp2_with fail
        refine (takeHead_some d _ hsm b t k H.out).mono ?_
        rintro e w1 ⟨⟨a, ha, rfl⟩, hb⟩
        unfold hdV
        go_wp2_with fail
        go_ret2
        exact ⟨rfl, hb.alloc hb.size _⟩

end Go.Proofs.Ytoglbmibbdpjcaa
