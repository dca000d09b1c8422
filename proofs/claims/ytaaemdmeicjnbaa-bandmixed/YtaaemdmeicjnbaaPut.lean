/-
  WALKS OF LAYER 8: Put (band), Put (knapsackref08).
-/
import Derived.Test.YtaaemdmeicjnbaaBase
namespace Go.Proofs.Ytaaemdmeicjnbaa
open Go.RowKit
set_option linter.unusedVariables false
set_option linter.unusedSimpArgs false
open Pk (Ln)

def strSize : Value → Nat
  | .string x => x.size
  | _ => 0

set_option maxRecDepth 100000 in
theorem put_bad (c n : Int) (s : ByteArray) (w : World) (h : ¬ (1 ≤ c ∧ c ≤ 3 ∧ 1 ≤ n ∧ n ≤ 999)) :
    Calls Try.prog 7 #[.int .i64 c, .string s, .int .i64 n] w fun r w' => r = .returned (.tuple #[.slice none 0 0, .int .i64 1]) ∧ w = w' := by
  by_cases q1 : c < 1
  · clear h
    go_enter Try.func7, Try.ntmps7
    go_wp2_with fail
    go_ret2
    exact ⟨rfl, rfl⟩
  · by_cases q2 : 3 < c
    · clear h
      go_enter Try.func7, Try.ntmps7
      go_wp2_with fail
      go_ret2
      exact ⟨rfl, rfl⟩
    · by_cases q3 : n < 1
      · clear h
        go_enter Try.func7, Try.ntmps7
        go_wp2_with fail
        go_ret2
        exact ⟨rfl, rfl⟩
      · have q4 : 999 < n := by omega
        clear h
        go_enter Try.func7, Try.ntmps7
        go_wp2_with fail
        go_ret2
        exact ⟨rfl, rfl⟩
set_option maxRecDepth 100000 in
theorem refput_bad (c n : Int) (s : ByteArray) (w : World) (h : ¬ (1 ≤ c ∧ c ≤ 3 ∧ 1 ≤ n ∧ n ≤ 999)) :
    Calls Try.prog 8 #[.int .i64 c, .string s, .int .i64 n] w fun r w' => r = .returned (.tuple #[.slice none 0 0, .bool false]) ∧ w = w' := by
  by_cases q1 : c < 1
  · clear h
    go_enter Try.func8, Try.ntmps8
    go_wp2_with fail
    go_ret2
    exact ⟨rfl, rfl⟩
  · by_cases q2 : 3 < c
    · clear h
      go_enter Try.func8, Try.ntmps8
      go_wp2_with fail
      go_ret2
      exact ⟨rfl, rfl⟩
    · by_cases q3 : n < 1
      · clear h
        go_enter Try.func8, Try.ntmps8
        go_wp2_with fail
        go_ret2
        exact ⟨rfl, rfl⟩
      · have q4 : 999 < n := by omega
        clear h
        go_enter Try.func8, Try.ntmps8
        go_wp2_with fail
        go_ret2
        exact ⟨rfl, rfl⟩

theorem wrap_u8 (c : UInt8) : IntKind.u8.wrap (c.toNat : Int) = (c.toNat : Int) := by
  have h : ∀ k : Fin 256, IntKind.u8.wrap ((k.val : Nat) : Int) = ((k.val : Nat) : Int) := by decide +kernel
  exact h ⟨c.toNat, c.toNat_lt⟩

set_option maxHeartbeats 1600000 in
set_option maxRecDepth 100000 in
theorem put_ok (c : UInt8) (m : Nat) (s : ByteArray) (w : World) (hc : 1 ≤ c.toNat ∧ c.toNat ≤ 3) (hm : 1 ≤ m ∧ m ≤ 999) (hs : s.size ≤ 3000) :
    Calls Try.prog 7 #[.int .i64 (c.toNat : Int), .string s, .int .i64 (m : Int)] w fun r w' => ∃ v, r = .returned (.tuple #[v, .int .i64 0]) ∧ OwnR 34 w' w.heap.size v (Pk.put c m s) ∧ Below w.heap.size w w' := by
  obtain ⟨i0, hi, hz0, hz1, hz2⟩ := info_parts infoPk
  have hcv := conv_one w c (c.toNat : Int) rfl
  have hwr := wrap_u8 c
  obtain ⟨hc1, hc2⟩ := hc
  obtain ⟨hm1, hm2⟩ := hm
  have HM1 := Lib.hid hm1
  have HM2 := Lib.hid hm2
  have k1 : ¬ (c.toNat : Int) < 1 := by omega
  have k2 : ¬ 3 < (c.toNat : Int) := by omega
  have k3 : ¬ (m : Int) < 1 := by omega
  have k4 : ¬ 999 < (m : Int) := by omega
  have HB := Lib.hid (below_new w (.cells #[.int .u8 (c.toNat : Int)] 5))
  go_enter Try.func7, Try.ntmps7
  go_wp2_with fail
  go_loopw [1, 9] (fun d v wr => ∃ (x : ByteArray) (acc : List Ln) (k : Nat), d = .string x ∧ x.size ≤ k ∧ Hid (Pk.put c m s = acc ++ Pk.cut c m k x) ∧ acc.length + x.size ≤ s.size ∧ OwnR 34 wr w.heap.size v acc ∧ Below w.heap.size w wr) (fun d _ _ => strSize d)
  case atStart => exact ⟨s, [], s.size, rfl, Nat.le_refl _, rfl, by simp, own_nil _ _ _, HB.out⟩
  case round =>
    obtain ⟨x, acc, k, rfl, hk, HS, hal, hown, hb⟩ := hrel
    by_cases hx : x = ByteArray.empty
    · subst hx
      have HQ := Lib.hid (show Pk.put c m s = acc by rw [HS.out, Pk.cut_nil rfl, List.append_nil])
      clear HS
      go_wp2_with fail
      go_ret2
      exact ⟨_, rfl, by rw [HQ.out]; exact hown, hb⟩
    · have hx0 := size_ne hx
      have hxe := not_empty hx
      obtain ⟨k, rfl⟩ : ∃ k', k = k' + 1 := ⟨k - 1, by omega⟩
      have hb0s := hb.size
      have HS1 := HS.out
      rw [Pk.cut_step hx0] at HS1
      by_cases hle : m ≤ x.size
      · rw [Nat.min_eq_left hle] at HS1
        have HS2 := Lib.hid (show Pk.put c m s = (acc ++ [Pk.ln c (x.extract 0 m)]) ++ Pk.cut c m k (x.extract m x.size) by rw [HS1]; simp)
        have hrs := Pk.rest_size x m hle
        have hpl := Pk.extract_size x 0 m hle
        have hss : ¬ 9223372036854775807 < (⟨#[c]⟩ : ByteArray).size + (x.extract 0 m).size := by rw [hpl]; show ¬ _ < 1 + _; omega
        have hle' : (m : Int) ≤ (x.size : Int) := by omega
        have hm0 : (0 : Int) ≤ (m : Int) := by omega
        clear HS HS1 hcv
        go_wp2_with (at_builtin; refine wpList_append_own _ rfl _ _ 23 rfl w.heap.size 34 i0 (.agg #[.int .i64 0, .string ⟨#[]⟩]) 2 24 Try.underlying23 hi hz0 hz1 hz2 rfl (by decide) _ _ _ rfl (World.ownsRow.alloc hown _) ⟨_, 0, none⟩ 1 1 [.int .i64 0, .string ((⟨#[c]⟩ : ByteArray) ++ x.extract 0 m)] rfl ?a1 ?a2 ?a3 ?a4 ?a5 ?a6 ?_)
        case a1 => rfl
        case a2 => exact news_row (l := [.int .i64 0, .string ((⟨#[c]⟩ : ByteArray) ++ x.extract 0 m)]) (heap_alloc_new _ _)
        case a3 => exact lnC_one (Pk.ln c (x.extract 0 m))
        case a4 => unfold maxLen; omega
        case a5 => omega
        case a6 => simp; omega
        intro v' w2 hown2 hgrow _
        have hb' : Below w.heap.size w w2 := ((hb.alloc hb.size _).grown hgrow (by simp; omega) (fun k hk => (hown.lt k hk).1))
        have HO2 := Lib.hid (own_push (p := Pk.ln c (x.extract 0 m)) hown2)
        clear hown hgrow hown2
        go_wp2_with fail
        exact ⟨⟨x.extract m x.size, acc ++ [Pk.ln c (x.extract 0 m)], k, rfl, by omega, HS2, by rw [List.length_append, hrs]; simp; omega, HO2.out, hb'⟩, by simp only [strSize]; rw [hrs]; omega⟩
      · rw [Nat.min_eq_right (by omega)] at HS1
        rw [Pk.all_extract, Pk.extract_nil] at HS1
        have HS2 := Lib.hid (show Pk.put c m s = (acc ++ [Pk.ln c x]) ++ Pk.cut c m k ByteArray.empty by rw [HS1]; simp)
        have hss : ¬ 9223372036854775807 < (⟨#[c]⟩ : ByteArray).size + x.size := by show ¬ _ < 1 + _; omega
        have hle' : ¬ (m : Int) ≤ (x.size : Int) := by omega
        have hm0 : (0 : Int) ≤ (x.size : Int) := by omega
        clear HS HS1 hcv
        go_wp2_with (at_builtin; refine wpList_append_own _ rfl _ _ 23 rfl w.heap.size 34 i0 (.agg #[.int .i64 0, .string ⟨#[]⟩]) 2 24 Try.underlying23 hi hz0 hz1 hz2 rfl (by decide) _ _ _ rfl (World.ownsRow.alloc hown _) ⟨_, 0, none⟩ 1 1 [.int .i64 0, .string ((⟨#[c]⟩ : ByteArray) ++ x)] rfl ?b1 ?b2 ?b3 ?b4 ?b5 ?b6 ?_)
        case b3 => exact ⟨rfl, rfl⟩
        case b4 => unfold maxLen; omega
        case b5 => omega
        case b6 => omega
        intro v' w2 hown2 hgrow _
        have hb' : Below w.heap.size w w2 := ((hb.alloc hb.size _).grown hgrow (by simp; omega) (fun k hk => (hown.lt k hk).1))
        have HO2 := Lib.hid (own_push (p := Pk.ln c x) hown2)
        clear hown hgrow hown2
        go_wp2_with fail
        exact ⟨⟨ByteArray.empty, acc ++ [Pk.ln c x], k, rfl, Nat.zero_le _, HS2, by rw [List.length_append]; show _ + 1 + 0 ≤ _; omega, HO2.out, hb'⟩, hx0⟩

theorem push_size (P : ByteArray) (s : ByteArray) (q : Nat) (h : q < s.size) : (P ++ s.extract q (q + 1)).size = P.size + 1 := by
  rw [ByteArray.size_append, Pk.extract_size _ _ _ (by omega)]; omega
set_option maxHeartbeats 1600000 in
set_option maxRecDepth 100000 in
theorem refput_ok (c : UInt8) (m : Nat) (s : ByteArray) (w : World) (hc : 1 ≤ c.toNat ∧ c.toNat ≤ 3) (hm : 1 ≤ m ∧ m ≤ 999) (hs : s.size ≤ 3000) :
    Calls Try.prog 8 #[.int .i64 (c.toNat : Int), .string s, .int .i64 (m : Int)] w fun r w' => ∃ v, r = .returned (.tuple #[v, .bool true]) ∧ OwnR 45 w' w.heap.size v (Pk.put c m s) ∧ Below w.heap.size w w' := by
  obtain ⟨i0, hi, hz0, hz1, hz2⟩ := info_parts infoLn
  have hcv := conv_one w c (c.toNat : Int) rfl
  have hwr := wrap_u8 c
  obtain ⟨hc1, hc2⟩ := hc
  obtain ⟨hm1, hm2⟩ := hm
  have HM1 := Lib.hid hm1
  have HM2 := Lib.hid hm2
  have k1 : ¬ (c.toNat : Int) < 1 := by omega
  have k2 : ¬ 3 < (c.toNat : Int) := by omega
  have k3 : ¬ (m : Int) < 1 := by omega
  have k4 : ¬ 999 < (m : Int) := by omega
  have HB := Lib.hid (below_new w (.cells #[.int .u8 (c.toNat : Int)] 5))
  go_enter Try.func8, Try.ntmps8
  go_wp2_with fail
  go_loopw [8, 9, 10] (fun v d i wr => ∃ (P : ByteArray) (acc : List Ln) (j q k : Nat), i = .int .i64 q ∧ q ≤ s.size ∧ j ≤ q ∧ q - j < m ∧ (q = s.size → j = q) ∧ d = .string P ∧ Hid (P = ⟨#[c]⟩ ++ s.extract j q) ∧ Hid (P.size = 1 + (q - j)) ∧ s.size ≤ j + k ∧ Hid (Pk.put c m s = acc ++ Pk.cut c m k (s.extract j s.size)) ∧ acc.length ≤ j ∧ OwnR 45 wr w.heap.size v acc ∧ Below w.heap.size w wr) (fun _ _ i _ => s.size - (intOf i).toNat)
  case atStart => exact ⟨_, [], 0, 0, s.size, rfl, Nat.zero_le _, Nat.zero_le _, by omega, fun h => rfl, rfl, by show _ = _; rw [Pk.extract_nil]; rfl, rfl, by omega, by show _ = _; rw [Pk.all_extract]; rfl, Nat.zero_le _, own_nil _ _ _, HB.out⟩
  case round =>
    obtain ⟨P, acc, j, q, k, rfl, hq, hj, hjm, hlast, rfl, HP, HZ, hk, HS, hal, hown, hb⟩ := hrel
    by_cases hlt : q < s.size
    · have hlt' : (q : Int) < (s.size : Int) := by omega
      have hq0 : (0 : Int) ≤ (q : Int) := by omega
      have HP2 := Lib.hid (show P ++ s.extract q (q + 1) = ⟨#[c]⟩ ++ s.extract j (q + 1) by rw [HP.out, ByteArray.append_assoc, Pk.extract_push s j q hj hlt])
      have HZ2 := Lib.hid (push_size P s q hlt)
      have hz := HZ.out
      have hss : ¬ 9223372036854775807 < P.size + (s.extract q (q + 1)).size := by rw [Pk.extract_size _ _ _ (by omega)]; omega
      have hmn : min (q + 1) s.size - q = 1 := by omega
      have hb0s := hb.size
      clear hss
      have hss : ¬ 9223372036854775807 < P.size + 1 := by omega
      have hP3 : P.size < 4000 := by omega
      obtain ⟨k, rfl⟩ : ∃ k', k = k' + 1 := ⟨k - 1, by omega⟩
      by_cases hfull : q + 1 - j = m
      · have HS2 := Lib.hid (show Pk.put c m s = (acc ++ [(⟨0, P ++ s.extract q (q + 1)⟩ : Ln)]) ++ Pk.cut c m k (s.extract (q + 1) s.size) by
          rw [HS.out, Pk.cut_at (i := q + 1) (by omega) (by omega) (by omega), HP2.out]; simp [Pk.ln])
        have e1 : ((P.size : Int) + 1 == 1 + (m : Int)) = true := by rw [beq_iff_eq]; omega
        clear hz HS HP HZ HZ2 HP2 hlast hcv
        go_wp2_with (at_builtin; refine wpList_append_own _ rfl _ _ 27 rfl w.heap.size 45 i0 (.agg #[.int .i64 0, .string ⟨#[]⟩]) 2 24 Try.underlying27 hi hz0 hz1 hz2 rfl (by decide) _ _ _ rfl (World.ownsRow.alloc hown _) ⟨_, 0, none⟩ 1 1 [.int .i64 0, .string (P ++ s.extract q (q + 1))] rfl ?f1 ?f2 ?f3 ?f4 ?f5 ?f6 ?_)
        case f1 => rfl
        case f2 => exact news_row (l := [.int .i64 0, .string (P ++ s.extract q (q + 1))]) (heap_alloc_new _ _)
        case f3 => exact lnC_one ⟨0, P ++ s.extract q (q + 1)⟩
        case f4 => unfold maxLen; omega
        case f5 => omega
        case f6 => simp; omega
        intro v' w2 hown2 hgrow _
        have hb' : Below w.heap.size w w2 := ((hb.alloc hb.size _).grown hgrow (by simp; omega) (fun k hk => (hown.lt k hk).1))
        have HO2 := Lib.hid (own_push (p := ⟨0, P ++ s.extract q (q + 1)⟩) hown2)
        have hcv := conv_one w2 c (c.toNat : Int) rfl
        have HB2 := Lib.hid (hb'.alloc hb'.size (.cells #[.int .u8 (c.toNat : Int)] 5))
        clear hown hgrow hown2
        go_wp2_with fail
        exact ⟨⟨⟨#[c]⟩, acc ++ [(⟨0, P ++ s.extract q (q + 1)⟩ : Ln)], q + 1, q + 1, k, by go_num, by omega, by omega, by omega, fun _ => rfl, rfl, by show _ = _; rw [Pk.extract_nil]; rfl, by show _ = _; rw [Nat.sub_self]; rfl, by omega, HS2, by rw [List.length_append]; simp; omega, World.ownsRow.alloc HO2.out _, HB2.out⟩, by simp [intOf]; omega⟩
      · by_cases hend : q + 1 = s.size
        · have HS2 := Lib.hid (show Pk.put c m s = (acc ++ [(⟨0, P ++ s.extract q (q + 1)⟩ : Ln)]) ++ Pk.cut c m k (s.extract (q + 1) s.size) by
            rw [HS.out, Pk.cut_at (i := q + 1) (by omega) (by omega) (by omega), HP2.out]; simp [Pk.ln])
          have e1 : ((P.size : Int) + 1 == 1 + (m : Int)) = false := beq_eq_false_iff_ne.2 (by omega)
          have e2 : ((q : Int) == (s.size : Int) - 1) = true := by rw [beq_iff_eq]; omega
          clear hz HS HP HZ HZ2 HP2 hlast hcv hend
          go_wp2_with (at_builtin; refine wpList_append_own _ rfl _ _ 27 rfl w.heap.size 45 i0 (.agg #[.int .i64 0, .string ⟨#[]⟩]) 2 24 Try.underlying27 hi hz0 hz1 hz2 rfl (by decide) _ _ _ rfl (World.ownsRow.alloc hown _) ⟨_, 0, none⟩ 1 1 [.int .i64 0, .string (P ++ s.extract q (q + 1))] rfl ?g1 ?g2 ?g3 ?g4 ?g5 ?g6 ?_)
          case g1 => rfl
          case g2 => exact news_row (l := [.int .i64 0, .string (P ++ s.extract q (q + 1))]) (heap_alloc_new _ _)
          case g3 => exact lnC_one ⟨0, P ++ s.extract q (q + 1)⟩
          case g4 => unfold maxLen; omega
          case g5 => omega
          case g6 => simp; omega
          intro v' w2 hown2 hgrow _
          have hb' : Below w.heap.size w w2 := ((hb.alloc hb.size _).grown hgrow (by simp; omega) (fun k hk => (hown.lt k hk).1))
          have HO2 := Lib.hid (own_push (p := ⟨0, P ++ s.extract q (q + 1)⟩) hown2)
          have hcv := conv_one w2 c (c.toNat : Int) rfl
          have HB2 := Lib.hid (hb'.alloc hb'.size (.cells #[.int .u8 (c.toNat : Int)] 5))
          clear hown hgrow hown2
          go_wp2_with fail
          exact ⟨⟨⟨#[c]⟩, acc ++ [(⟨0, P ++ s.extract q (q + 1)⟩ : Ln)], q + 1, q + 1, k, by go_num, by omega, by omega, by omega, fun _ => rfl, rfl, by show _ = _; rw [Pk.extract_nil]; rfl, by show _ = _; rw [Nat.sub_self]; rfl, by omega, HS2, by rw [List.length_append]; simp; omega, World.ownsRow.alloc HO2.out _, HB2.out⟩, by simp [intOf]; omega⟩
        · have e1 : ((P.size : Int) + 1 == 1 + (m : Int)) = false := beq_eq_false_iff_ne.2 (by omega)
          have e2 : ((q : Int) == (s.size : Int) - 1) = false := beq_eq_false_iff_ne.2 (by omega)
          have HZ3 := Lib.hid (show (P ++ s.extract q (q + 1)).size = 1 + (q + 1 - j) by rw [HZ2.out, hz]; omega)
          clear hz HP HZ HZ2 hlast hcv
          go_wp2_with fail
          exact ⟨⟨_, acc, j, q + 1, k + 1, by go_num, by omega, by omega, by omega, fun h => absurd h hend, rfl, HP2, HZ3, by omega, HS, hal, hown, hb⟩, by simp [intOf]; omega⟩
    · have HQ := Lib.hid (show Pk.put c m s = acc by
        have e1 := hlast (by omega)
        rw [HS.out, Pk.cut_nil (by rw [Pk.extract_size _ _ _ (Nat.le_refl _)]; omega), List.append_nil])
      clear HS HP HZ
      go_wp2_with fail
      go_ret2
      exact ⟨_, rfl, by rw [HQ.out]; exact hown, hb⟩

end Go.Proofs.Ytaaemdmeicjnbaa
