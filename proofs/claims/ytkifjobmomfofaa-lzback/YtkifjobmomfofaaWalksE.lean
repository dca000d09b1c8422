/-
  WALKS OF LAYER 5: unpackStored, unpackSteps, Unpack.
-/
import Derived.Test.YtkifjobmomfofaaWalksD
namespace Go.Proofs.Ytkifjobmomfofaa
open Go.RowKit
set_option linter.unusedVariables false

/-- The end of an Unpack: the error's number, and the text. -/
def Unp (w : World) (R : Nat × List UInt8) (r : Ending) (w' : World) : Prop := r = .returned (.tuple #[.string ⟨R.2.toArray⟩, .int .i64 R.1]) ∧ Below w.heap.size w w'

set_option maxHeartbeats 800000 in
set_option maxRecDepth 100000 in
theorem unpackStored_any (s : ByteArray) (most : Int) (w : World) (hs : s.size ≤ maxLen) :
    Calls Try.prog 11 #[.string s, .int .i64 most] w (Unp w (if most < (s.size : Int) then (3, []) else (0, s.data.toList))) := by
  unfold maxLen at hs
  by_cases h : most < (s.size : Int)
  · rw [if_pos h]
    go_enter Try.func11, Try.ntmps11
    go_wp2_with fail
    go_ret2
    exact ⟨rfl, Below.refl _ _⟩
  · rw [if_neg h]
    go_enter Try.func11, Try.ntmps11
    go_wp2_with fail
    go_ret2
    exact ⟨rfl, Below.refl _ _⟩

set_option maxHeartbeats 800000 in
set_option maxRecDepth 100000 in
theorem unpackSteps_any (s : ByteArray) (most : Nat) (w : World) (hs : s.size ≤ maxLen) (hm : most ≤ 2147483647) :
    Calls Try.prog 12 #[.string s, .int .i64 most] w (Unp w (Lz.runF most s.size s.data.toList [])) := by
  have hsp := Lz.run_split most s.size s.data.toList [] (by rw [size_list]; exact Nat.le_refl _)
  have hle := (Lz.mes_le most s.size s.data.toList 0 (Nat.zero_le _)).1
  have HM : Hid (Lz.mesF most s.size s.data.toList 0 = Lz.mesF most s.size s.data.toList 0) := rfl
  rcases hsp with ⟨h1, h2, h3⟩ | ⟨h1, h2⟩
  · rw [h2]
    clear h3
    rw [show ([] : List UInt8).length = 0 from rfl] at h1
    generalize hq : Lz.mesF most s.size s.data.toList 0 = q at *
    obtain ⟨q1, t⟩ := q
    have h1' : q1 = 0 := h1
    subst h1'
    have hle' : t ≤ most := hle
    have HQ := Lib.hid hq
    clear h1 hq h2 hle HM
    generalize hp : Lz.proF s.size s.data.toList [] = p at *
    have HP := Lib.hid hp
    clear hp
    go_enter Try.func12, Try.ntmps12
    go_wp2_with fail
    refine (measure_any s most _ hs (by omega) (0, t) HQ.out).mono ?_
    rintro e w1 ⟨rfl, hb1⟩
    go_wp2_with fail
    refine (produce_any s most t _ hs (by omega) p HQ.out HP.out).mono ?_
    rintro e w2 ⟨rfl, hb2⟩
    go_wp2_with fail
    go_ret2
    exact ⟨rfl, below_step hb1 hb2⟩
  · rw [h2]
    rw [show ([] : List UInt8).length = 0 from rfl] at *
    generalize hq : Lz.mesF most s.size s.data.toList 0 = q at *
    obtain ⟨q1, t⟩ := q
    have HQ := Lib.hid hq
    have h1' : ((q1 : Int) != 0) = true := by rw [bne_iff_ne]; intro e; exact h1 (by show q1 = 0; omega)
    clear h1 hq h2 hle HM
    go_enter Try.func12, Try.ntmps12
    go_wp2_with fail
    refine (measure_any s most _ hs (by omega) (q1, t) HQ.out).mono ?_
    rintro e w1 ⟨rfl, hb1⟩
    go_wp2_with fail
    go_ret2
    exact ⟨rfl, hb1⟩

theorem list_cons (s : ByteArray) (h : 0 < s.size) : s.data.toList = s[0] :: s.data.toList.drop 1 := by
  have hl : 0 < s.data.toList.length := by rw [size_list]; exact h
  have := List.drop_eq_getElem_cons hl
  rw [List.drop_zero] at this
  exact this

set_option maxHeartbeats 800000 in
set_option maxRecDepth 100000 in
theorem unpack_any (s : ByteArray) (most : Int) (w : World) (hs : s.size ≤ maxLen) (hm : most ≤ 2147483647) :
    Calls Try.prog 7 #[.string s, .int .i64 most] w (Unp w (Lz.unp s.data.toList most)) := by
  unfold Lz.unp
  by_cases h0 : most < 0
  · rw [if_pos h0]
    go_enter Try.func7, Try.ntmps7
    go_wp2_with fail
    go_ret2
    exact ⟨rfl, Below.refl _ _⟩
  · rw [if_neg h0]
    by_cases hx : s = ByteArray.empty
    · subst hx
      go_enter Try.func7, Try.ntmps7
      go_wp2_with fail
      go_ret2
      exact ⟨rfl, Below.refl _ _⟩
    · have hz := size_ne hx
      have hse : s.toList.isEmpty = false := by have := not_empty hx; simpa using this
      have hsz := hs
      unfold maxLen at hsz
      have hrs : (s.extract 1 s.size).size = s.size - 1 := by simp
      have hrl := extract_rest s 1
      rw [list_cons s hz]
      show Calls _ _ _ _ (Unp w (if (s[0]).toNat = 0 then (if most < ((s.data.toList.drop 1).length : Int) then (3, []) else (0, s.data.toList.drop 1)) else if (s[0]).toNat = 1 then Lz.runF most.toNat (s.data.toList.drop 1).length (s.data.toList.drop 1) [] else (2, [])))
      rw [← hrl]
      generalize hre : s.extract 1 s.size = rest at *
      have HR := Lib.hid hre
      have hrm : rest.size ≤ maxLen := by omega
      have hsl := size_list rest
      rw [hsl]
      clear hre hrl hsl hrs
      by_cases hb0 : (s[0]).toNat = 0
      · rw [if_pos hb0]
        have hb0' : ((s[0].toNat : Int) == 0) = true := by rw [beq_iff_eq]; omega
        clear hb0
        have hst := unpackStored_any rest most w hrm
        generalize (if most < (rest.size : Int) then ((3, []) : Nat × List UInt8) else (0, rest.data.toList)) = q at *
        have HST := Lib.hid hst
        clear hst
        go_enter Try.func7, Try.ntmps7
        go_wp2_with fail
        rw [HR.out]
        refine HST.out.mono ?_
        rintro e w1 ⟨rfl, hb1⟩
        go_wp2_with fail
        go_ret2
        exact ⟨rfl, hb1⟩
      · rw [if_neg hb0]
        have hb0' : ((s[0].toNat : Int) == 0) = false := by rw [beq_eq_false_iff_ne]; omega
        by_cases hb1 : (s[0]).toNat = 1
        · rw [if_pos hb1]
          have hb1' : ((s[0].toNat : Int) == 1) = true := by rw [beq_iff_eq]; omega
          clear hb0 hb1
          obtain ⟨m, rfl⟩ := Int.eq_ofNat_of_zero_le (show 0 ≤ most by omega)
          rw [Int.toNat_natCast]
          go_enter Try.func7, Try.ntmps7
          go_wp2_with fail
          rw [HR.out]
          refine (unpackSteps_any rest m _ hrm (by omega)).mono ?_
          rintro e w1 ⟨rfl, hb1⟩
          go_wp2_with fail
          go_ret2
          exact ⟨rfl, hb1⟩
        · rw [if_neg hb1]
          have hb1' : ((s[0].toNat : Int) == 1) = false := by rw [beq_eq_false_iff_ne]; omega
          clear hb0 hb1
          go_enter Try.func7, Try.ntmps7
          go_wp2_with fail
          go_ret2
          exact ⟨rfl, Below.refl _ _⟩

end Go.Proofs.Ytkifjobmomfofaa
