/-
  WALKS OF LAYER 8: Get (knapsackref08).
-/
import Derived.Test.YtaaemdmeicjnbaaStrs
namespace Go.Proofs.Ytaaemdmeicjnbaa
open Go.RowKit
set_option linter.unusedVariables false
set_option linter.unusedSimpArgs false
open Pk (Ln)

/-- What Get finds: both streams and the error's number. -/
def found (L : List Ln) : ByteArray × ByteArray × Int := if L.all Pk.okl = true then (if L.any (fun p => decide (Pk.ch p = 3)) = true then (⟨#[]⟩, ⟨#[]⟩, 13) else (⟨(Pk.strm 1 L).toArray⟩, ⟨(Pk.strm 2 L).toArray⟩, 0)) else (⟨#[]⟩, ⟨#[]⟩, 2)
def foundV (L : List Ln) : Value := .tuple #[.string (found L).1, .string (found L).2.1, .int .i64 (found L).2.2]
theorem found_bad {L : List Ln} {p : Ln} (h : p ∈ L) (hp : Pk.okl p = false) : foundV L = .tuple #[.string ⟨#[]⟩, .string ⟨#[]⟩, .int .i64 2] := by
  have : L.all Pk.okl = false := by rw [List.all_eq_false]; exact ⟨p, h, by simp [hp]⟩
  unfold foundV found; rw [this]; rfl
theorem found_no {L : List Ln} {p : Ln} (ha : ∀ q ∈ L, Pk.okl q = true) (h : p ∈ L) (hp : Pk.ch p = 3) : foundV L = .tuple #[.string ⟨#[]⟩, .string ⟨#[]⟩, .int .i64 13] := by
  have h1 : L.all Pk.okl = true := by rw [List.all_eq_true]; exact ha
  have h2 : L.any (fun p => decide (Pk.ch p = 3)) = true := by rw [List.any_eq_true]; exact ⟨p, h, by simp [hp]⟩
  unfold foundV found; rw [if_pos h1, if_pos h2]
theorem found_yes {L : List Ln} (ha : ∀ q ∈ L, Pk.okl q = true) (hn : ∀ q ∈ L, Pk.ch q ≠ 3) : foundV L = .tuple #[.string ⟨(Pk.strm 1 L).toArray⟩, .string ⟨(Pk.strm 2 L).toArray⟩, .int .i64 0] := by
  have h1 : L.all Pk.okl = true := by rw [List.all_eq_true]; exact ha
  have h2 : ¬ L.any (fun p => decide (Pk.ch p = 3)) = true := by
    rw [List.any_eq_true]; rintro ⟨p, h, hp⟩; exact hn p h (by simpa using hp)
  unfold foundV found; rw [if_pos h1, if_neg h2]

set_option maxHeartbeats 2000000 in
set_option maxRecDepth 100000 in
theorem refget_any (v : Value) (L : List Ln) (w : World) (hL : LinesAt w v L) (hl : L.length ≤ 3000) (hm : ∀ e ∈ L, e.load.size ≤ 3000) :
    Calls Try.prog 12 #[v] w fun r w' => r = .returned (foundV L) ∧ w = w' := by
  obtain ⟨ao, cap, rfl⟩ := hL.form
  have HL := Lib.hid hL
  have HM := Lib.hid hm
  clear hL hm
  go_enter Try.func12, Try.ntmps12
  go_wp2_with fail
  go_loop [5] (fun i => ∃ k : Nat, k ≤ L.length ∧ i = .int .i64 k ∧ Hid (∀ q ∈ L.take k, Pk.okl q = true)) (fun i => L.length - (intOf i).toNat)
  case atStart => exact ⟨0, by omega, rfl, fun q hq => by simp at hq⟩
  case round =>
    obtain ⟨k, hk, rfl, HO⟩ := hrel
    by_cases hlt : k < L.length
    · have hlt' : (k : Int) < (L.length : Int) := by omega
      have hk0 : (0 : Int) ≤ (k : Int) := by omega
      obtain ⟨e, he⟩ : ∃ e, L[k]? = some e := ⟨L[k], List.getElem?_eq_getElem hlt⟩
      obtain ⟨a, ea, c0, c1⟩ := HL.out.elem k e he
      subst ea
      have hA1 := add_block a (k * 2)
      have hA2 := add_off a (k * 2)
      have hmem := List.mem_of_getElem? he
      have hsz := HM.out e hmem
      have HO2 := Lib.hid (show Pk.okl e = true → ∀ q ∈ L.take (k + 1), Pk.okl q = true from fun h q hq => by
        rw [take_push _ _ _ he] at hq
        rcases List.mem_append.1 hq with h1 | h1
        · exact HO.out q h1
        · simp at h1; subst h1; exact h)
      have HBAD := Lib.hid (show Pk.okl e = false → foundV L = .tuple #[.string ⟨#[]⟩, .string ⟨#[]⟩, .int .i64 2] from found_bad hmem)
      by_cases q1 : e.kind = 0
      · by_cases q2 : e.load.size < 2
        · have HQ := Lib.hid (HBAD.out (by rw [Bool.eq_false_iff, ne_eq, Pk.okl_iff]; omega))
          have q2' : (e.load.size : Int) < 2 := by omega
          clear q2 he hmem HO HO2 HBAD
          generalize e.kind = ek at *
          generalize e.load = el at *
          subst q1
          go_wp2_with fail
          go_ret3
          exact ⟨by rw [HQ.out]; rfl, rfl⟩
        · have q2' : ¬ (e.load.size : Int) < 2 := by omega
          by_cases q3 : 1000 < e.load.size
          · have HQ := Lib.hid (HBAD.out (by rw [Bool.eq_false_iff, ne_eq, Pk.okl_iff]; omega))
            have q3' : 1000 < (e.load.size : Int) := by omega
            clear q2 q3 he hmem HO HO2 HBAD
            generalize e.kind = ek at *
            generalize e.load = el at *
            subst q1
            go_wp2_with fail
            go_ret3
            exact ⟨by rw [HQ.out]; rfl, rfl⟩
          · have q3' : ¬ 1000 < (e.load.size : Int) := by omega
            have q0 : 0 < e.load.size := by omega
            have q0' : (0 : Int) < (e.load.size : Int) := by omega
            have hch := ch_at e q0
            by_cases q4 : e.load[0].toNat < 1
            · have HQ := Lib.hid (HBAD.out (by rw [Bool.eq_false_iff, ne_eq, Pk.okl_iff, hch]; omega))
              have q4' : (e.load[0].toNat : Int) < 1 := by omega
              clear q2 q3 q4 hch he hmem HO HO2 HBAD
              generalize e.kind = ek at *
              generalize e.load = el at *
              subst q1
              go_wp2_with fail
              go_ret3
              exact ⟨by rw [HQ.out]; rfl, rfl⟩
            · have q4' : ¬ (e.load[0].toNat : Int) < 1 := by omega
              by_cases q5 : 3 < e.load[0].toNat
              · have HQ := Lib.hid (HBAD.out (by rw [Bool.eq_false_iff, ne_eq, Pk.okl_iff, hch]; omega))
                have q5' : 3 < (e.load[0].toNat : Int) := by omega
                clear q2 q3 q4 q5 hch he hmem HO HO2 HBAD
                generalize e.kind = ek at *
                generalize e.load = el at *
                subst q1
                go_wp2_with fail
                go_ret3
                exact ⟨by rw [HQ.out]; rfl, rfl⟩
              · have q5' : ¬ 3 < (e.load[0].toNat : Int) := by omega
                have HO3 := Lib.hid (HO2.out (by rw [Pk.okl_iff, hch]; omega))
                clear q2 q3 q4 q5 hch he hmem HO HO2 HBAD
                generalize e.kind = ek at *
                generalize e.load = el at *
                subst q1
                go_wp2_with fail
                go_round
                case rel => exact ⟨k + 1, by omega, by go_num, HO3.out⟩
                case measure => simp [intOf]; omega
      · have HQ := Lib.hid (HBAD.out (by rw [Bool.eq_false_iff, ne_eq, Pk.okl_iff]; omega))
        have q1' : (e.kind == 0) = false := beq_eq_false_iff_ne.2 q1
        clear he hmem HO HO2 HBAD
        generalize e.kind = ek at *
        generalize e.load = el at *
        go_wp2_with fail
        go_ret3
        exact ⟨by rw [HQ.out]; rfl, rfl⟩
    · have HA := Lib.hid (show ∀ q ∈ L, Pk.okl q = true from fun q hq => HO.out q (by rw [List.take_of_length_le (by omega)]; exact hq))
      clear HO
      go_wp2_with fail
      go_loop [6, 7, 8] (fun x y i => ∃ (k : Nat) (a b : ByteArray), k ≤ L.length ∧ i = .int .i64 k ∧ x = .string a ∧ y = .string b ∧ a.size ≤ 1000 * k ∧ b.size ≤ 1000 * k ∧ Hid (a.data.toList = Pk.strm 1 (L.take k)) ∧ Hid (b.data.toList = Pk.strm 2 (L.take k)) ∧ Hid (∀ q ∈ L.take k, Pk.ch q ≠ 3)) (fun _ _ i => L.length - (intOf i).toNat)
      case atStart => exact ⟨0, ⟨#[]⟩, ⟨#[]⟩, by omega, rfl, rfl, rfl, by decide, by decide, rfl, rfl, fun q hq => by simp at hq⟩
      case round =>
        obtain ⟨k, a, b, hk, rfl, rfl, rfl, ha, hb, HX, HY, HN⟩ := hrel
        by_cases hlt : k < L.length
        · have hlt' : (k : Int) < (L.length : Int) := by omega
          have hk0 : (0 : Int) ≤ (k : Int) := by omega
          obtain ⟨e, he⟩ : ∃ e, L[k]? = some e := ⟨L[k], List.getElem?_eq_getElem hlt⟩
          obtain ⟨A, ea, c0, c1⟩ := HL.out.elem k e he
          subst ea
          have hA1 := add_block A (k * 2)
          have hA2 := add_off A (k * 2)
          have hmem := List.mem_of_getElem? he
          obtain ⟨o1, o2, o3, o4, o5⟩ := (Pk.okl_iff e).1 (HA.out e hmem)
          have q0 : 0 < e.load.size := by omega
          have q0' : (0 : Int) < (e.load.size : Int) := by omega
          have q1' : (1 : Int) ≤ (e.load.size : Int) := by omega
          have hch := ch_at e q0
          have htl := Pk.tl_extract e
          have hts := Pk.extract_size e.load 1 e.load.size (Nat.le_refl _)
          have HE1 := Lib.hid (show ∀ d, Pk.strm d (L.take (k + 1)) = Pk.strm d (L.take k) ++ (if Pk.ch e = d then Pk.tl e else []) from fun d => by rw [take_push _ _ _ he, Pk.strm_append, Pk.strm_one])
          have HN2 := Lib.hid (show Pk.ch e ≠ 3 → ∀ q ∈ L.take (k + 1), Pk.ch q ≠ 3 from fun h q hq => by
            rw [take_push _ _ _ he] at hq
            rcases List.mem_append.1 hq with h1 | h1
            · exact HN.out q h1
            · simp at h1; subst h1; exact h)
          by_cases r1 : Pk.ch e = 1
          · have r1' : e.load[0].toNat = 1 := by rw [← hch]; exact r1
            have HX2 := Lib.hid (show (a ++ e.load.extract 1 e.load.size).data.toList = Pk.strm 1 (L.take (k + 1)) by rw [HE1.out, if_pos r1, data_append, HX.out, htl])
            have HY2 := Lib.hid (show b.data.toList = Pk.strm 2 (L.take (k + 1)) by rw [HE1.out, if_neg (by omega), List.append_nil, HY.out])
            have HN3 := Lib.hid (HN2.out (by omega))
            have hss : ¬ 9223372036854775807 < a.size + (e.load.size - 1) := by omega
            have hs2 : (a ++ e.load.extract 1 e.load.size).size ≤ 1000 * (k + 1) := by rw [ByteArray.size_append, hts]; omega
            clear he hmem o4 o5 hch htl hts HE1 HN2 HX HY HN r1 o1
            generalize e.kind = ek at *
            generalize e.load = el at *
            go_wp2_with fail
            go_round
            case rel => exact ⟨k + 1, _, _, by omega, by go_num, rfl, rfl, hs2, by omega, HX2.out, HY2.out, HN3.out⟩
            case measure => simp [intOf]; omega
          · by_cases r2 : Pk.ch e = 2
            · have r1' : e.load[0].toNat = 2 := by rw [← hch]; exact r2
              have HX2 := Lib.hid (show a.data.toList = Pk.strm 1 (L.take (k + 1)) by rw [HE1.out, if_neg (by omega), List.append_nil, HX.out])
              have HY2 := Lib.hid (show (b ++ e.load.extract 1 e.load.size).data.toList = Pk.strm 2 (L.take (k + 1)) by rw [HE1.out, if_pos r2, data_append, HY.out, htl])
              have HN3 := Lib.hid (HN2.out (by omega))
              have hss : ¬ 9223372036854775807 < b.size + (e.load.size - 1) := by omega
              have hs2 : (b ++ e.load.extract 1 e.load.size).size ≤ 1000 * (k + 1) := by rw [ByteArray.size_append, hts]; omega
              clear he hmem o4 o5 hch htl hts HE1 HN2 HX HY HN r1 r2 o1
              generalize e.kind = ek at *
              generalize e.load = el at *
              go_wp2_with fail
              go_round
              case rel => exact ⟨k + 1, _, _, by omega, by go_num, rfl, rfl, by omega, hs2, HX2.out, HY2.out, HN3.out⟩
              case measure => simp [intOf]; omega
            · have r1' : e.load[0].toNat = 3 := by omega
              have HQ := Lib.hid (found_no HA.out hmem (by omega))
              clear he hmem o4 o5 hch htl hts HE1 HN2 HX HY HN r1 r2 o1
              generalize e.kind = ek at *
              generalize e.load = el at *
              go_wp2_with fail
              go_ret3
              exact ⟨by rw [HQ.out]; rfl, rfl⟩
        · have HT := Lib.hid (show L.take k = L from List.take_of_length_le (by omega))
          have HQ := Lib.hid (show foundV L = .tuple #[.string a, .string b, .int .i64 0] by
            rw [found_yes HA.out (by have := HN.out; rw [HT.out] at this; exact this)]
            have h1 := HX.out
            have h2 := HY.out
            rw [HT.out] at h1 h2
            rw [← h1, ← h2])
          clear HX HY HN HT
          go_wp2_with fail
          go_ret3
          exact ⟨by rw [HQ.out]; rfl, rfl⟩

end Go.Proofs.Ytaaemdmeicjnbaa
