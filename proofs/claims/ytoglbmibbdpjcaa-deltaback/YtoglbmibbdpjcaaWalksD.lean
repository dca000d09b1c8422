/-
  WALKS OF LAYER 6: the document's own Apply (knapsackref06.Apply).
-/
import Derived.Test.YtoglbmibbdpjcaaWalksC
namespace Go.Proofs.Ytoglbmibbdpjcaa
open Go.RowKit
set_option linter.unusedVariables false

namespace Dl
open Lz (vget)
theorem stp_none {base l : List UInt8} (h : stp base l = none) : vget l = none ∨ (∃ n k, vget l = some (n, k) ∧ n < 2) ∨ (∃ n k, vget l = some (n, k) ∧ 2 ≤ n ∧ n % 2 = 0 ∧ l.length - k < n / 2) ∨
    (∃ n k, vget l = some (n, k) ∧ 2 ≤ n ∧ n % 2 = 1 ∧ vget (l.drop k) = none) ∨ (∃ n k p m, vget l = some (n, k) ∧ 2 ≤ n ∧ n % 2 = 1 ∧ vget (l.drop k) = some (p, m) ∧ (base.length < p ∨ base.length - p < n / 2)) := by
  unfold stp at h
  split at h
  · rename_i hv; exact .inl hv
  · rename_i n k hv
    by_cases hn : n < 2
    · exact .inr (.inl ⟨n, k, hv, hn⟩)
    split at h
    · rename_i he
      split at h
      · rename_i hb; exact .inr (.inr (.inl ⟨n, k, hv, by omega, he, by omega⟩))
      · cases h
    · rename_i he
      split at h
      · rename_i hv2; exact .inr (.inr (.inr (.inl ⟨n, k, hv, by omega, by omega, hv2⟩)))
      · rename_i f m hv2
        split at h
        · rename_i hb; exact .inr (.inr (.inr (.inr ⟨n, k, f, m, hv, by omega, by omega, hv2, by omega⟩)))
        · cases h

theorem stp_some {base l x : List UInt8} {q : Nat} (h : stp base l = some (x, q)) : (∃ n k, vget l = some (n, k) ∧ 2 ≤ n ∧ n % 2 = 0 ∧ n / 2 ≤ l.length - k ∧ x = (l.drop k).take (n / 2) ∧ q = k + n / 2) ∨
    (∃ n k p m, vget l = some (n, k) ∧ 2 ≤ n ∧ n % 2 = 1 ∧ vget (l.drop k) = some (p, m) ∧ p ≤ base.length ∧ n / 2 ≤ base.length - p ∧ x = (base.drop p).take (n / 2) ∧ q = k + m) := by
  unfold stp at h
  split at h
  · cases h
  · rename_i n k hv
    split at h
    · rename_i he
      split at h
      · cases h
      · simp only [Option.some.injEq, Prod.mk.injEq] at h
        obtain ⟨rfl, rfl⟩ := h
        exact .inl ⟨n, k, hv, by omega, he, by omega, rfl, rfl⟩
    · rename_i he
      split at h
      · cases h
      · rename_i f' m hv2
        split at h
        · cases h
        · simp only [Option.some.injEq, Prod.mk.injEq] at h
          obtain ⟨rfl, rfl⟩ := h
          exact .inr ⟨n, k, f', m, hv, by omega, by omega, hv2, by omega, by omega, rfl, rfl⟩
end Dl

theorem mk_append (acc x : List UInt8) (b : ByteArray) (h : b.data.toList = x) : (ByteArray.mk acc.toArray ++ b) = ByteArray.mk (acc ++ x).toArray := by
  subst h
  have := ByteArray.mk_append_mk acc b.data.toList
  rw [← this]

set_option maxHeartbeats 4000000 in
set_option maxRecDepth 100000 in
theorem refsteps_any (base d : ByteArray) (mo t k0 m0 : Nat) (w : World) (hbs : base.size ≤ 2000) (hs : d.size ≤ 5000) (hmo : mo ≤ 9223372036854775807) (hv0 : Lz.vget d.data.toList = some (base.size, k0)) (hv1 : Lz.vget (d.data.toList.drop k0) = some (t, m0)) (hmt : t ≤ mo) (R : Option (List UInt8)) (hR : Dl.runF base.data.toList t (d.size - (k0 + m0)) (d.data.toList.drop (k0 + m0)) [] = R) :
    Calls Try.prog 8 #[.string base, .string d, .int .i64 mo] w (Apd w (Dl.ofRun R)) := by
  have hsm : d.size ≤ maxLen := by unfold maxLen; omega
  have hbd0 := Lz.vget_bd hv0
  have hbd1 := Lz.vget_bd hv1
  rw [size_list] at hbd0
  rw [List.length_drop, size_list] at hbd1
  have hrs0 : (d.extract k0 d.size).size ≤ maxLen := by simp; omega
  have HV0 := Lib.hid hv0
  rw [← extract_rest d k0] at hv1
  have HV1 := Lib.hid hv1
  have HR := Lib.hid hR
  have hk0 : ((k0 : Int) == 0) = false := beq_eq_false_iff_ne.2 (by omega)
  have hm0 : ((m0 : Int) == 0) = false := beq_eq_false_iff_ne.2 (by omega)
  have hw3 : IntKind.u64.wrap (base.size : Int) = (base.size : Int) := u64_wrap_id _ (by omega) (by omega)
  have hw4 : IntKind.u64.wrap (mo : Int) = (mo : Int) := u64_wrap_id _ (by omega) (by omega)
  have hmt' : ¬ (mo : Int) < (t : Int) := by omega
  clear hv0 hv1 hR
  go_enter Try.func8, Try.ntmps8
  go_wp2_with fail
  refine (rget_some d _ hsm _ k0 HV0.out).mono ?_
  rintro e w2 ⟨rfl, rfl⟩
  go_wp2_with fail
  refine (rget_some _ _ hrs0 t m0 HV1.out).mono ?_
  rintro e w2 ⟨rfl, rfl⟩
  go_wp2_with fail
  rw [show decide (mo < t) = false from decide_eq_false (by omega)]
  clear HV0 HV1 hk0 hm0 hrs0 hmt'
  go_loopw [12, 13] (fun o i wr => ∃ (j k : Nat) (acc : List UInt8), i = .int .i64 j ∧ o = .string ⟨acc.toArray⟩ ∧ j ≤ d.size ∧ d.size - j ≤ k ∧ acc.length ≤ t ∧ acc.length ≤ 2001 * j ∧ Hid (Dl.runF base.data.toList t k (d.data.toList.drop j) acc = R) ∧ wr = w) (fun _ i _ => d.size - (intOf i).toNat)
  case atStart => exact ⟨k0 + m0, d.size - (k0 + m0), [], by go_num, rfl, by omega, Nat.le_refl _, Nat.zero_le _, Nat.zero_le _, HR, rfl⟩
  case round =>
    obtain ⟨j, k, acc, rfl, rfl, hj, hk, hal, ha2, HX, rfl⟩ := hrel
    clear HR
    have hasz : (ByteArray.mk acc.toArray).size = acc.length := by rw [← size_list]
    by_cases hlt : j < d.size
    · have hll : (d.data.toList.drop j).length ≤ k := by rw [List.length_drop, size_list]; exact hk
      have hln : d.data.toList.drop j ≠ [] := by intro e; have := congrArg List.length e; rw [List.length_drop, size_list] at this; simp at this; omega
      have hrl := extract_rest d j
      have hrs : (d.extract j d.size).size ≤ maxLen := by simp; omega
      have HAS := Lib.hid hasz
      have HMA := Lib.hid (mk_append acc)
      generalize hab : ByteArray.mk acc.toArray = ab at *
      have HAB := Lib.hid hab
      clear hab
      have hab1 : ab.size ≤ 2001 * j := by omega
      have hab2 : ab.size ≤ t := by omega
      have hw5 : IntKind.u64.wrap (ab.size : Int) = (ab.size : Int) := u64_wrap_id _ (by omega) (by omega)
      have hw6 : IntKind.u64.wrap ((t : Int) - (ab.size : Int)) = (t : Int) - (ab.size : Int) := u64_wrap_id _ (by omega) (by omega)
      clear hasz
      cases hst : Dl.stp base.data.toList (d.data.toList.drop j) with
      | none =>
        have hr := HX.out
        rw [Dl.runF_bad hln hll hst] at hr
        subst hr
        rcases Dl.stp_none hst with hv | ⟨n, k1, hv, hn2⟩ | ⟨n, k1, hv, hn2, he, hbad⟩ | ⟨n, k1, hv, hn2, he, hv2⟩ | ⟨n, k1, p, m, hv, hn2, he, hv2, hbad⟩
        · rw [← hrl] at hv
          have HV := Lib.hid hv
          clear hst HX hln hll hrl hv hk
          go_wp2_with fail
          refine (rget_nil _ _ hrs HV.out).mono ?_
          rintro e w2 ⟨rfl, rfl⟩
          go_wp2_with fail
          go_ret2
          exact ⟨rfl, Below.refl _ _⟩
        · have hvb := Lz.vget_bd hv
          rw [List.length_drop, size_list] at hvb
          rw [← hrl] at hv
          have HV := Lib.hid hv
          have hk0 : ((k1 : Int) == 0) = false := beq_eq_false_iff_ne.2 (by omega)
          have hn2' : (n : Int) < 2 := by omega
          clear hst HX hln hll hrl hv hk
          go_wp2_with fail
          refine (rget_some _ _ hrs n k1 HV.out).mono ?_
          rintro e w2 ⟨rfl, rfl⟩
          go_wp2_with fail
          go_ret2
          exact ⟨rfl, Below.refl _ _⟩
        · have hvb := Lz.vget_bd hv
          rw [List.length_drop, size_list] at hvb hbad
          rw [← hrl] at hv
          have HV := Lib.hid hv
          have hk0 : ((k1 : Int) == 0) = false := beq_eq_false_iff_ne.2 (by omega)
          have hn2' : ¬ (n : Int) < 2 := by omega
          have he' : ((n : Int) % 2 == 0) = true := by rw [beq_iff_eq]; omega
          have hfs : (d.extract (j + k1) d.size).size = d.size - (j + k1) := by simp
          have hw7 : IntKind.u64.wrap ((d.size : Int) - ((j : Int) + (k1 : Int))) = (d.size : Int) - ((j : Int) + (k1 : Int)) := u64_wrap_id _ (by omega) (by omega)
          have hc2 : (d.size : Int) - ((j : Int) + (k1 : Int)) < (n : Int) / 2 := by omega
          have hc3 : ¬ (d.size : Int) - ((j : Int) + (k1 : Int)) < 0 := by omega
          clear hst HX hln hll hrl hv hk hbad he
          go_wp2_with fail
          refine (rget_some _ _ hrs n k1 HV.out).mono ?_
          rintro e w2 ⟨rfl, rfl⟩
          go_wp2_with fail
          go_ret2
          exact ⟨rfl, Below.refl _ _⟩
        · have hvb := Lz.vget_bd hv
          rw [List.length_drop, size_list] at hvb
          rw [List.drop_drop] at hv2
          rw [← hrl] at hv
          rw [← extract_rest d (j + k1)] at hv2
          have HV := Lib.hid hv
          have HV2 := Lib.hid hv2
          have hk0 : ((k1 : Int) == 0) = false := beq_eq_false_iff_ne.2 (by omega)
          have hn2' : ¬ (n : Int) < 2 := by omega
          have he' : ((n : Int) % 2 == 0) = false := by rw [beq_eq_false_iff_ne]; omega
          have hrs2 : (d.extract (j + k1) d.size).size ≤ maxLen := by simp; omega
          clear hst HX hln hll hrl hv hk hv2 he
          go_wp2_with fail
          refine (rget_some _ _ hrs n k1 HV.out).mono ?_
          rintro e w2 ⟨rfl, rfl⟩
          go_wp2_with fail
          refine (rget_nil _ _ hrs2 HV2.out).mono ?_
          rintro e w2 ⟨rfl, rfl⟩
          go_wp2_with fail
          go_ret2
          exact ⟨rfl, Below.refl _ _⟩
        · have hvb := Lz.vget_bd hv
          have hvb2 := Lz.vget_bd hv2
          rw [List.length_drop, size_list] at hvb
          rw [List.length_drop, List.length_drop, size_list] at hvb2
          rw [size_list] at hbad
          rw [List.drop_drop] at hv2
          rw [← hrl] at hv
          rw [← extract_rest d (j + k1)] at hv2
          have HV := Lib.hid hv
          have HV2 := Lib.hid hv2
          have hk0 : ((k1 : Int) == 0) = false := beq_eq_false_iff_ne.2 (by omega)
          have hm0 : ((m : Int) == 0) = false := beq_eq_false_iff_ne.2 (by omega)
          have hn2' : ¬ (n : Int) < 2 := by omega
          have he' : ((n : Int) % 2 == 0) = false := by rw [beq_eq_false_iff_ne]; omega
          have hrs2 : (d.extract (j + k1) d.size).size ≤ maxLen := by simp; omega
          by_cases c1 : (base.size : Int) < (p : Int)
          · clear hst HX hln hll hrl hv hk hv2 he hbad
            go_wp2_with fail
            refine (rget_some _ _ hrs n k1 HV.out).mono ?_
            rintro e w2 ⟨rfl, rfl⟩
            go_wp2_with fail
            refine (rget_some _ _ hrs2 p m HV2.out).mono ?_
            rintro e w2 ⟨rfl, rfl⟩
            go_wp2_with fail
            go_ret2
            exact ⟨rfl, Below.refl _ _⟩
          · have c2 : (base.size : Int) - (p : Int) < (n : Int) / 2 := by omega
            have hw7 : IntKind.u64.wrap ((base.size : Int) - (p : Int)) = (base.size : Int) - (p : Int) := u64_wrap_id _ (by omega) (by omega)
            clear hst HX hln hll hrl hv hk hv2 he hbad
            go_wp2_with fail
            refine (rget_some _ _ hrs n k1 HV.out).mono ?_
            rintro e w2 ⟨rfl, rfl⟩
            go_wp2_with fail
            refine (rget_some _ _ hrs2 p m HV2.out).mono ?_
            rintro e w2 ⟨rfl, rfl⟩
            go_wp2_with fail
            go_ret2
            exact ⟨rfl, Below.refl _ _⟩
      | some q =>
        obtain ⟨x, q⟩ := q
        have hsb := Dl.stp_bd hst
        have hd0 := Dl.drop_lt hst
        rw [List.length_drop, size_list, size_list] at hsb
        by_cases hmost : t < acc.length + x.length
        · have hr := HX.out
          rw [Dl.runF_most hln hll hst hmost] at hr
          subst hr
          rcases Dl.stp_some hst with ⟨n, k1, hv, hn2, he, hok, hx, hq⟩ | ⟨n, k1, p, m, hv, hn2, he, hv2, hok, hok2, hx, hq⟩
          · have hvb := Lz.vget_bd hv
            have hxl : x.length = n / 2 := by rw [hx, List.length_take, List.length_drop]; omega
            rw [List.length_drop, size_list] at hvb hok
            rw [← hrl] at hv
            have HV := Lib.hid hv
            have hk0 : ((k1 : Int) == 0) = false := beq_eq_false_iff_ne.2 (by omega)
            have hn2' : ¬ (n : Int) < 2 := by omega
            have he' : ((n : Int) % 2 == 0) = true := by rw [beq_iff_eq]; omega
            have hfs : (d.extract (j + k1) d.size).size = d.size - (j + k1) := by simp
            have hw7 : IntKind.u64.wrap ((d.size : Int) - ((j : Int) + (k1 : Int))) = (d.size : Int) - ((j : Int) + (k1 : Int)) := u64_wrap_id _ (by omega) (by omega)
            have hc2 : ¬ (d.size : Int) - ((j : Int) + (k1 : Int)) < (n : Int) / 2 := by omega
            have hc3 : ¬ (d.size : Int) - ((j : Int) + (k1 : Int)) < 0 := by omega
            have has := HAS.out
            have hc4 : (t : Int) - (ab.size : Int) < (n : Int) / 2 := by omega
            clear hst HX hln hll hrl hv hk he hd0 hx hmost has hxl
            go_wp2_with fail
            refine (rget_some _ _ hrs n k1 HV.out).mono ?_
            rintro e w2 ⟨rfl, rfl⟩
            go_wp2_with fail
            go_ret2
            exact ⟨rfl, Below.refl _ _⟩
          · have hvb := Lz.vget_bd hv
            have hvb2 := Lz.vget_bd hv2
            have hxl : x.length = n / 2 := by rw [hx, List.length_take, List.length_drop]; omega
            rw [List.length_drop, size_list] at hvb
            rw [List.length_drop, List.length_drop, size_list] at hvb2
            rw [size_list] at hok hok2
            rw [List.drop_drop] at hv2
            rw [← hrl] at hv
            rw [← extract_rest d (j + k1)] at hv2
            have HV := Lib.hid hv
            have HV2 := Lib.hid hv2
            have hk0 : ((k1 : Int) == 0) = false := beq_eq_false_iff_ne.2 (by omega)
            have hm0 : ((m : Int) == 0) = false := beq_eq_false_iff_ne.2 (by omega)
            have hn2' : ¬ (n : Int) < 2 := by omega
            have he' : ((n : Int) % 2 == 0) = false := by rw [beq_eq_false_iff_ne]; omega
            have hrs2 : (d.extract (j + k1) d.size).size ≤ maxLen := by simp; omega
            have c1 : ¬ (base.size : Int) < (p : Int) := by omega
            have c2 : ¬ (base.size : Int) - (p : Int) < (n : Int) / 2 := by omega
            have hw7 : IntKind.u64.wrap ((base.size : Int) - (p : Int)) = (base.size : Int) - (p : Int) := u64_wrap_id _ (by omega) (by omega)
            have has := HAS.out
            have hc4 : (t : Int) - (ab.size : Int) < (n : Int) / 2 := by omega
            clear hst HX hln hll hrl hv hk hv2 he hd0 hx hmost has hxl
            go_wp2_with fail
            refine (rget_some _ _ hrs n k1 HV.out).mono ?_
            rintro e w2 ⟨rfl, rfl⟩
            go_wp2_with fail
            refine (rget_some _ _ hrs2 p m HV2.out).mono ?_
            rintro e w2 ⟨rfl, rfl⟩
            go_wp2_with fail
            go_ret2
            exact ⟨rfl, Below.refl _ _⟩
        · obtain ⟨k, rfl⟩ : ∃ k', k = k' + 1 := ⟨k - 1, by omega⟩
          have hr := HX.out
          rw [Dl.runF_step hln hst hmost, List.drop_drop] at hr
          have HX2 := Lib.hid hr
          rcases Dl.stp_some hst with ⟨n, k1, hv, hn2, he, hok, hx, hq⟩ | ⟨n, k1, p, m, hv, hn2, he, hv2, hok, hok2, hx, hq⟩
          · have hvb := Lz.vget_bd hv
            have hxl : x.length = n / 2 := by rw [hx, List.length_take, List.length_drop]; omega
            rw [List.length_drop, size_list] at hvb hok
            rw [← hrl] at hv
            have HV := Lib.hid hv
            have hk0 : ((k1 : Int) == 0) = false := beq_eq_false_iff_ne.2 (by omega)
            have hn2' : ¬ (n : Int) < 2 := by omega
            have he' : ((n : Int) % 2 == 0) = true := by rw [beq_iff_eq]; omega
            have hfs : (d.extract (j + k1) d.size).size = d.size - (j + k1) := by simp
            have hw7 : IntKind.u64.wrap ((d.size : Int) - ((j : Int) + (k1 : Int))) = (d.size : Int) - ((j : Int) + (k1 : Int)) := u64_wrap_id _ (by omega) (by omega)
            have hc2 : ¬ (d.size : Int) - ((j : Int) + (k1 : Int)) < (n : Int) / 2 := by omega
            have hc3 : ¬ (d.size : Int) - ((j : Int) + (k1 : Int)) < 0 := by omega
            have has := HAS.out
            have hc4 : ¬ (t : Int) - (ab.size : Int) < (n : Int) / 2 := by omega
            have hw8 : IntKind.u64.wrap ((n : Int) / 2) = (n : Int) / 2 := u64_wrap_id _ (by omega) (by omega)
            have hw9 : IntKind.i64.wrap ((n : Int) / 2) = (n : Int) / 2 := IntWalk.i64_in _ (by omega)
            have t1 : ((n : Int) / 2).toNat = n / 2 := by omega
            have g1 : (0 : Int) ≤ (n : Int) / 2 := by omega
            have g2 : (n : Int) / 2 ≤ (d.size : Int) - ((j : Int) + (k1 : Int)) := by omega
            have hxx : ((d.extract (j + k1) d.size).extract 0 (n / 2)).data.toList = x := by rw [hx, extract_list, extract_rest, List.drop_drop]; simp
            have hxs := size_list ((d.extract (j + k1) d.size).extract 0 (n / 2))
            rw [hxx] at hxs
            have HXX := Lib.hid (HMA.out x _ hxx)
            have hs1 : ¬ 9223372036854775807 < ab.size + ((d.extract (j + k1) d.size).extract 0 (n / 2)).size := by omega
            clear hst HX hln hll hrl hv he hd0 hx hmost has hr hxx hxs
            go_wp2_with fail
            refine (rget_some _ _ hrs n k1 HV.out).mono ?_
            rintro e w2 ⟨rfl, rfl⟩
            go_wp2_with fail
            go_roundw
            case rel => exact ⟨j + q, k, acc ++ x, by subst hq; go_num, val_str HXX.out, by omega, by omega, by rw [List.length_append]; have := HAS.out; omega, by rw [List.length_append]; omega, HX2.out, trivial⟩
            case measure => simp [intOf]; omega
          · have hvb := Lz.vget_bd hv
            have hvb2 := Lz.vget_bd hv2
            have hxl : x.length = n / 2 := by rw [hx, List.length_take, List.length_drop]; omega
            rw [List.length_drop, size_list] at hvb
            rw [List.length_drop, List.length_drop, size_list] at hvb2
            rw [size_list] at hok hok2
            rw [List.drop_drop] at hv2
            rw [← hrl] at hv
            rw [← extract_rest d (j + k1)] at hv2
            have HV := Lib.hid hv
            have HV2 := Lib.hid hv2
            have hk0 : ((k1 : Int) == 0) = false := beq_eq_false_iff_ne.2 (by omega)
            have hm0 : ((m : Int) == 0) = false := beq_eq_false_iff_ne.2 (by omega)
            have hn2' : ¬ (n : Int) < 2 := by omega
            have he' : ((n : Int) % 2 == 0) = false := by rw [beq_eq_false_iff_ne]; omega
            have hrs2 : (d.extract (j + k1) d.size).size ≤ maxLen := by simp; omega
            have c1 : ¬ (base.size : Int) < (p : Int) := by omega
            have c2 : ¬ (base.size : Int) - (p : Int) < (n : Int) / 2 := by omega
            have hw7 : IntKind.u64.wrap ((base.size : Int) - (p : Int)) = (base.size : Int) - (p : Int) := u64_wrap_id _ (by omega) (by omega)
            have has := HAS.out
            have hc4 : ¬ (t : Int) - (ab.size : Int) < (n : Int) / 2 := by omega
            have hw8 : IntKind.u64.wrap ((p : Int) + (n : Int) / 2) = (p : Int) + (n : Int) / 2 := u64_wrap_id _ (by omega) (by omega)
            have t1 : ((p : Int) + (n : Int) / 2).toNat = p + n / 2 := by omega
            have g1 : (p : Int) ≤ (p : Int) + (n : Int) / 2 := by omega
            have g2 : (p : Int) + (n : Int) / 2 ≤ (base.size : Int) := by omega
            have hxx : (base.extract p (p + n / 2)).data.toList = x := by rw [hx, extract_list, show p + n / 2 - p = n / 2 by omega]
            have hxs := size_list (base.extract p (p + n / 2))
            rw [hxx] at hxs
            have HXX := Lib.hid (HMA.out x _ hxx)
            have hs1 : ¬ 9223372036854775807 < ab.size + (base.extract p (p + n / 2)).size := by omega
            clear hst HX hln hll hrl hv hv2 he hd0 hx hmost has hr hxx hxs
            go_wp2_with fail
            refine (rget_some _ _ hrs n k1 HV.out).mono ?_
            rintro e w2 ⟨rfl, rfl⟩
            go_wp2_with fail
            refine (rget_some _ _ hrs2 p m HV2.out).mono ?_
            rintro e w2 ⟨rfl, rfl⟩
            go_wp2_with fail
            go_roundw
            case rel => exact ⟨j + q, k, acc ++ x, by subst hq; go_num, val_str HXX.out, by omega, by omega, by rw [List.length_append]; have := HAS.out; omega, by rw [List.length_append]; omega, HX2.out, trivial⟩
            case measure => simp [intOf]; omega
    · have hjs : j = d.size := by omega
      have hr := HX.out
      rw [List.drop_of_length_le (by rw [size_list]; omega), Dl.runF_nil] at hr
      have hw5 : IntKind.u64.wrap (acc.length : Int) = (acc.length : Int) := u64_wrap_id _ (by omega) (by omega)
      by_cases hat : acc.length = t
      · rw [if_pos hat] at hr
        subst hr
        have hat' : ((acc.length : Int) != (t : Int)) = false := by rw [hat]; simp
        clear HX hjs hat
        go_wp2_with fail
        go_ret2
        exact ⟨rfl, Below.refl _ _⟩
      · rw [if_neg hat] at hr
        subst hr
        have hat' : ((acc.length : Int) != (t : Int)) = true := by rw [bne_iff_ne]; omega
        clear HX hjs hat
        go_wp2_with fail
        go_ret2
        exact ⟨rfl, Below.refl _ _⟩

end Go.Proofs.Ytoglbmibbdpjcaa
