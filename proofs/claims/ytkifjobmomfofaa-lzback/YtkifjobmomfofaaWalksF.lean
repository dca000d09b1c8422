/-
  WALKS OF LAYER 5: the document's own Unpack (knapsackref05.Unpack).
-/
import Derived.Test.YtkifjobmomfofaaWalksE
namespace Go.Proofs.Ytkifjobmomfofaa
open Go.RowKit
set_option linter.unusedVariables false

namespace Lz
theorem stp_none {l : List UInt8} {t : Nat} (h : stp l t = none) : vget l = none ∨ (∃ n k, vget l = some (n, k) ∧ n % 2 = 0 ∧ (n / 2 < 1 ∨ l.length - k < n / 2)) ∨
    (∃ n k, vget l = some (n, k) ∧ n % 2 = 1 ∧ vget (l.drop k) = none) ∨ (∃ n k f m, vget l = some (n, k) ∧ n % 2 = 1 ∧ vget (l.drop k) = some (f, m) ∧ (n / 2 < 4 ∨ f < 1 ∨ 65535 < f ∨ t < f)) := by
  unfold stp at h
  split at h
  · rename_i hv; exact .inl hv
  · rename_i n k hv
    split at h
    · rename_i he
      split at h
      · rename_i hb; exact .inr (.inl ⟨n, k, hv, he, hb⟩)
      · cases h
    · rename_i he
      split at h
      · rename_i hv2; exact .inr (.inr (.inl ⟨n, k, hv, by omega, hv2⟩))
      · rename_i f m hv2
        split at h
        · rename_i hb; exact .inr (.inr (.inr ⟨n, k, f, m, hv, by omega, hv2, hb⟩))
        · cases h

theorem stp_some {l : List UInt8} {t c f h : Nat} (hst : stp l t = some (c, f, h)) : (∃ n, vget l = some (n, h) ∧ n % 2 = 0 ∧ 1 ≤ n / 2 ∧ n / 2 ≤ l.length - h ∧ c = n / 2 ∧ f = 0) ∨
    (∃ n k m, vget l = some (n, k) ∧ n % 2 = 1 ∧ vget (l.drop k) = some (f, m) ∧ 4 ≤ n / 2 ∧ 1 ≤ f ∧ f ≤ 65535 ∧ f ≤ t ∧ c = n / 2 ∧ h = k + m) := by
  unfold stp at hst
  split at hst
  · cases hst
  · rename_i n k hv
    split at hst
    · rename_i he
      split at hst
      · cases hst
      · simp only [Option.some.injEq, Prod.mk.injEq] at hst
        obtain ⟨rfl, rfl, rfl⟩ := hst
        exact .inl ⟨n, hv, he, by omega, by omega, rfl, rfl⟩
    · rename_i he
      split at hst
      · cases hst
      · rename_i f' m hv2
        split at hst
        · cases hst
        · simp only [Option.some.injEq, Prod.mk.injEq] at hst
          obtain ⟨rfl, rfl, rfl⟩ := hst
          exact .inr ⟨n, k, m, hv, by omega, hv2, by omega, by omega, by omega, by omega, rfl, rfl⟩
end Lz

theorem take_more (l : List UInt8) (i : Nat) (h : i < l.length) : l.take (i + 1) = l.take i ++ [l[i]] := List.take_succ_eq_append_getElem h

set_option maxHeartbeats 2000000 in
set_option maxRecDepth 100000 in
theorem refsteps_any (s : ByteArray) (most : Nat) (w : World) (hs : s.size ≤ maxLen) (hm : most ≤ 2147483647) (hz : 0 < s.size) (h1 : (s[0]).toNat = 1) (R : Nat × List UInt8) (hR : Lz.runF most (s.size - 1) (s.data.toList.drop 1) [] = R) :
    Calls Try.prog 8 #[.string s, .int .i64 most] w (Unp w R) := by
  obtain ⟨i0, hi, hz0, hz1, hz2⟩ := info_parts Try.infoByte
  have hsz := hs
  unfold maxLen at hsz
  have hx : ¬ s = ByteArray.empty := by intro e; subst e; exact absurd hz (by decide)
  have hse : s.toList.isEmpty = false := by have := not_empty hx; simpa using this
  have hb0 : ((s[0].toNat : Int) == 0) = false := by rw [beq_eq_false_iff_ne]; omega
  have hb1 : ¬ (1 : Int) < (s[0].toNat : Int) := by omega
  have HR := Lib.hid hR
  clear hR h1
  go_enter Try.func8, Try.ntmps8
  go_wp2_with fail
  go_loopw [6, 7] (fun o i wr => ∃ (j k : Nat) (acc : List UInt8), i = .int .i64 j ∧ j ≤ s.size ∧ s.size - j ≤ k ∧ acc.length ≤ most ∧ Hid (Lz.runF most k (s.data.toList.drop j) acc = R) ∧ wr.ownsRow w.heap.size 5 1 o acc.length (cellsOf acc) ∧ Below w.heap.size w wr) (fun _ i _ => s.size - (intOf i).toNat)
  case atStart => exact ⟨1, s.size - 1, [], rfl, by omega, Nat.le_refl _, Nat.zero_le _, HR, World.ownsRow_nil _ _ _ _, Below.refl _ _⟩
  case round =>
    obtain ⟨j, k, acc, rfl, hj, hk, hal, HX, hown, hb⟩ := hrel
    clear HR
    have hbs := hb.size
    obtain ⟨pa, cap, rfl⟩ := own_slice hown
    by_cases hlt : j < s.size
    · have hll : (s.data.toList.drop j).length ≤ k := by rw [List.length_drop, size_list]; exact hk
      have hln : s.data.toList.drop j ≠ [] := by intro e; have := congrArg List.length e; rw [List.length_drop, size_list] at this; simp at this; omega
      have hrl := extract_rest s j
      have hrs : (s.extract j s.size).size ≤ maxLen := by simp; omega
      cases hst : Lz.stp (s.data.toList.drop j) acc.length with
      | none =>
        have hr := HX.out
        rw [Lz.runF_bad hln hll hst] at hr
        subst hr
        rcases Lz.stp_none hst with hv | ⟨n, k1, hv, he, hbad⟩ | ⟨n, k1, hv, he, hv2⟩ | ⟨n, k1, f, m, hv, he, hv2, hbad⟩
        · rw [← hrl] at hv
          have HV := Lib.hid hv
          clear hst HX hln hll hrl hv hk
          go_wp2_with fail
          refine (rget_nil _ _ hrs HV.out).mono ?_
          rintro e w2 ⟨rfl, rfl⟩
          go_wp2_with fail
          go_ret2
          exact ⟨rfl, hb⟩
        · have hvb := Lz.vget_bd hv
          rw [List.length_drop, size_list] at hvb hbad
          rw [← hrl] at hv
          have HV := Lib.hid hv
          have hk0 : ((k1 : Int) == 0) = false := beq_eq_false_iff_ne.2 (by omega)
          have he' : ((n : Int) % 2 == 1) = false := by rw [beq_eq_false_iff_ne]; omega
          have hw3 : IntKind.u64.wrap ((s.size : Int) - ((j : Int) + (k1 : Int))) = (s.size : Int) - ((j : Int) + (k1 : Int)) := u64_wrap_id _ (by omega) (by omega)
          by_cases hc1 : (n : Int) / 2 < 1
          · clear hst HX hln hll hrl hv hk hbad he
            go_wp2_with fail
            refine (rget_some _ _ hrs n k1 HV.out).mono ?_
            rintro e w2 ⟨rfl, rfl⟩
            go_wp2_with fail
            go_ret2
            exact ⟨rfl, hb⟩
          · have hc2 : (s.size : Int) - ((j : Int) + (k1 : Int)) < (n : Int) / 2 := by omega
            clear hst HX hln hll hrl hv hk hbad he
            go_wp2_with fail
            refine (rget_some _ _ hrs n k1 HV.out).mono ?_
            rintro e w2 ⟨rfl, rfl⟩
            go_wp2_with fail
            go_ret2
            exact ⟨rfl, hb⟩
        · have hvb := Lz.vget_bd hv
          rw [List.length_drop, size_list] at hvb
          rw [List.drop_drop] at hv2
          rw [← hrl] at hv
          rw [← extract_rest s (j + k1)] at hv2
          have HV := Lib.hid hv
          have HV2 := Lib.hid hv2
          have hk0 : ((k1 : Int) == 0) = false := beq_eq_false_iff_ne.2 (by omega)
          have he' : ((n : Int) % 2 == 1) = true := by rw [beq_iff_eq]; omega
          have hrs2 : (s.extract (j + k1) s.size).size ≤ maxLen := by simp; omega
          clear hst HX hln hll hrl hv hk hv2 he
          go_wp2_with fail
          refine (rget_some _ _ hrs n k1 HV.out).mono ?_
          rintro e w2 ⟨rfl, rfl⟩
          go_wp2_with fail
          refine (rget_nil _ _ hrs2 HV2.out).mono ?_
          rintro e w2 ⟨rfl, rfl⟩
          go_wp2_with fail
          go_ret2
          exact ⟨rfl, hb⟩
        · have hvb := Lz.vget_bd hv
          have hvb2 := Lz.vget_bd hv2
          rw [List.length_drop, size_list] at hvb
          rw [List.length_drop, List.length_drop, size_list] at hvb2
          rw [List.drop_drop] at hv2
          rw [← hrl] at hv
          rw [← extract_rest s (j + k1)] at hv2
          have HV := Lib.hid hv
          have HV2 := Lib.hid hv2
          have hk0 : ((k1 : Int) == 0) = false := beq_eq_false_iff_ne.2 (by omega)
          have hm0 : ((m : Int) == 0) = false := beq_eq_false_iff_ne.2 (by omega)
          have he' : ((n : Int) % 2 == 1) = true := by rw [beq_iff_eq]; clear hbad; omega
          have hrs2 : (s.extract (j + k1) s.size).size ≤ maxLen := by simp; omega
          have hw3 : IntKind.u64.wrap (acc.length : Int) = (acc.length : Int) := u64_wrap_id _ (by omega) (by omega)
          have HBAD := Lib.hid hbad
          clear hst HX hln hll hrl hv hk hv2 he hbad
          go_wp2_with fail
          refine (rget_some _ _ hrs n k1 HV.out).mono ?_
          rintro e w2 ⟨rfl, rfl⟩
          go_wp2_with fail
          refine (rget_some _ _ hrs2 f m HV2.out).mono ?_
          rintro e w2 ⟨rfl, rfl⟩
          have hbad := HBAD.out
          by_cases c1 : (n : Int) / 2 < 4
          · clear hbad
            go_wp2_with fail
            go_ret2
            exact ⟨rfl, hb⟩
          · by_cases c2 : (f : Int) < 1
            · clear hbad
              go_wp2_with fail
              go_ret2
              exact ⟨rfl, hb⟩
            · by_cases c3 : (65535 : Int) < (f : Int)
              · clear hbad
                go_wp2_with fail
                go_ret2
                exact ⟨rfl, hb⟩
              · have c4 : (acc.length : Int) < (f : Int) := by omega
                clear hbad
                go_wp2_with fail
                go_ret2
                exact ⟨rfl, hb⟩
      | some p =>
        obtain ⟨c, f, h⟩ := p
        by_cases hmo : most < acc.length + c
        · have hr := HX.out
          rw [Lz.runF_most hln hll hst hmo] at hr
          subst hr
          have hsb := Lz.stp_bd hst
          rcases Lz.stp_some hst with ⟨n, hv, he, g1, g2, rfl, rfl⟩ | ⟨n, k1, m, hv, he, hv2, g1, g2, g3, g4, rfl, rfl⟩
          · have hvb := Lz.vget_bd hv
            rw [List.length_drop, size_list] at hvb g2
            rw [← hrl] at hv
            have HV := Lib.hid hv
            have hk0 : ((h : Int) == 0) = false := beq_eq_false_iff_ne.2 (by omega)
            have he' : ((n : Int) % 2 == 1) = false := by rw [beq_eq_false_iff_ne]; omega
            have hw3 : IntKind.u64.wrap ((s.size : Int) - ((j : Int) + (h : Int))) = (s.size : Int) - ((j : Int) + (h : Int)) := u64_wrap_id _ (by omega) (by omega)
            have hw4 : IntKind.u64.wrap (most : Int) = (most : Int) := u64_wrap_id _ (by omega) (by omega)
            have hc1 : ¬ (n : Int) / 2 < 1 := by omega
            have hc2 : ¬ (s.size : Int) - ((j : Int) + (h : Int)) < (n : Int) / 2 := by omega
            by_cases hc3 : (most : Int) < (n : Int) / 2
            · clear hst HX hln hll hrl hv hk he hsb
              go_wp2_with fail
              refine (rget_some _ _ hrs n h HV.out).mono ?_
              rintro e w2 ⟨rfl, rfl⟩
              go_wp2_with fail
              go_ret2
              exact ⟨rfl, hb⟩
            · have hc4 : (most : Int) - (n : Int) / 2 < (acc.length : Int) := by omega
              clear hst HX hln hll hrl hv hk he hsb
              go_wp2_with fail
              refine (rget_some _ _ hrs n h HV.out).mono ?_
              rintro e w2 ⟨rfl, rfl⟩
              go_wp2_with fail
              go_ret2
              exact ⟨rfl, hb⟩
          · have hvb := Lz.vget_bd hv
            have hvb2 := Lz.vget_bd hv2
            rw [List.length_drop, size_list] at hvb
            rw [List.length_drop, List.length_drop, size_list] at hvb2
            rw [List.drop_drop] at hv2
            rw [← hrl] at hv
            rw [← extract_rest s (j + k1)] at hv2
            have HV := Lib.hid hv
            have HV2 := Lib.hid hv2
            have hk0 : ((k1 : Int) == 0) = false := beq_eq_false_iff_ne.2 (by omega)
            have hm0 : ((m : Int) == 0) = false := beq_eq_false_iff_ne.2 (by omega)
            have he' : ((n : Int) % 2 == 1) = true := by rw [beq_iff_eq]; omega
            have hrs2 : (s.extract (j + k1) s.size).size ≤ maxLen := by simp; omega
            have hw3 : IntKind.u64.wrap (acc.length : Int) = (acc.length : Int) := u64_wrap_id _ (by omega) (by omega)
            have hw4 : IntKind.u64.wrap (most : Int) = (most : Int) := u64_wrap_id _ (by omega) (by omega)
            have c1 : ¬ (n : Int) / 2 < 4 := by omega
            have c2 : ¬ (f : Int) < 1 := by omega
            have c3 : ¬ (65535 : Int) < (f : Int) := by omega
            have c4 : ¬ (acc.length : Int) < (f : Int) := by omega
            by_cases hc3 : (most : Int) < (n : Int) / 2
            · clear hst HX hln hll hrl hv hk hv2 he hsb
              go_wp2_with fail
              refine (rget_some _ _ hrs n k1 HV.out).mono ?_
              rintro e w2 ⟨rfl, rfl⟩
              go_wp2_with fail
              refine (rget_some _ _ hrs2 f m HV2.out).mono ?_
              rintro e w2 ⟨rfl, rfl⟩
              go_wp2_with fail
              go_ret2
              exact ⟨rfl, hb⟩
            · have hc4 : (most : Int) - (n : Int) / 2 < (acc.length : Int) := by omega
              clear hst HX hln hll hrl hv hk hv2 he hsb
              go_wp2_with fail
              refine (rget_some _ _ hrs n k1 HV.out).mono ?_
              rintro e w2 ⟨rfl, rfl⟩
              go_wp2_with fail
              refine (rget_some _ _ hrs2 f m HV2.out).mono ?_
              rintro e w2 ⟨rfl, rfl⟩
              go_wp2_with fail
              go_ret2
              exact ⟨rfl, hb⟩
        · obtain ⟨k, rfl⟩ : ∃ k', k = k' + 1 := ⟨k - 1, by omega⟩
          have hr := HX.out
          rw [Lz.runF_step hln hst hmo, List.drop_drop] at hr
          have hsb := Lz.stp_bd hst
          rw [List.length_drop, size_list] at hsb
          rcases Lz.stp_some hst with ⟨n, hv, he, g1, g2, rfl, rfl⟩ | ⟨n, k1, m, hv, he, hv2, g1, g2, g3, g4, rfl, rfl⟩
          · rw [show Lz.used (n / 2) 0 h = h + n / 2 from rfl, show Lz.emit (s.data.toList.drop j) acc (n / 2) 0 h = acc ++ ((s.data.toList.drop j).drop h).take (n / 2) from rfl, List.drop_drop] at hr
            have HX2 := Lib.hid hr
            have hvb := Lz.vget_bd hv
            rw [List.length_drop, size_list] at hvb g2
            rw [← hrl] at hv
            have HV := Lib.hid hv
            have hk0 : ((h : Int) == 0) = false := beq_eq_false_iff_ne.2 (by omega)
            have he' : ((n : Int) % 2 == 1) = false := by rw [beq_eq_false_iff_ne]; omega
            have hw3 : IntKind.u64.wrap ((s.size : Int) - ((j : Int) + (h : Int))) = (s.size : Int) - ((j : Int) + (h : Int)) := u64_wrap_id _ (by omega) (by omega)
            have hw4 : IntKind.u64.wrap (most : Int) = (most : Int) := u64_wrap_id _ (by omega) (by omega)
            have hc1 : ¬ (n : Int) / 2 < 1 := by omega
            have hc2 : ¬ (s.size : Int) - ((j : Int) + (h : Int)) < (n : Int) / 2 := by omega
            have hc3 : ¬ (most : Int) < (n : Int) / 2 := by omega
            have hc4 : ¬ (most : Int) - (n : Int) / 2 < (acc.length : Int) := by omega
            clear hst HX hln hll hrl hv he hsb hr
            go_wp2_with fail
            refine (rget_some _ _ hrs n h HV.out).mono ?_
            rintro e w2 ⟨rfl, rfl⟩
            go_wp2_with fail
            go_loopw [6, 7, 14] (fun o i7 i wq => ∃ (i' : Nat), i' ≤ n / 2 ∧ i = .int .i64 i' ∧ i7 = .int .i64 ((j : Int) + (h : Int) + (i' : Int)) ∧ wq.ownsRow w.heap.size 5 1 o (acc ++ (s.data.toList.drop (j + h)).take i').length (cellsOf (acc ++ (s.data.toList.drop (j + h)).take i')) ∧ Below w.heap.size w wq) (fun _ _ i _ => n / 2 - (intOf i).toNat)
            case atStart => exact ⟨0, Nat.zero_le _, rfl, by simp, by simpa using hown, hb⟩
            case round =>
              obtain ⟨i', hi', rfl, rfl, hown2, hb2⟩ := hrel
              clear hown hb
              have hbs2 := hb2.size
              by_cases hil : i' < n / 2
              · have hdl : i' < (s.data.toList.drop (j + h)).length := by rw [List.length_drop, size_list]; omega
                have htm := take_more (s.data.toList.drop (j + h)) i' hdl
                rw [List.getElem_drop, ← at_list s (j + h + i') (by omega)] at htm
                have hlen : ((s.data.toList.drop (j + h)).take i').length = i' := by rw [List.length_take]; omega
                have HT := Lib.hid htm
                clear htm hdl
                generalize (s.data.toList.drop (j + h)).take i' = tk at *
                have hal2 : (acc ++ tk).length ≤ acc.length + i' := by rw [List.length_append]; omega
                have hal3 : acc.length + i' ≤ (acc ++ tk).length := by rw [List.length_append]; omega
                have hin1 : (j : Int) + (h : Int) + (i' : Int) < (s.size : Int) := by omega
                have hin2 : (0 : Int) ≤ (j : Int) + (h : Int) + (i' : Int) := by omega
                clear hlen
                generalize hg : acc ++ tk = acc1 at *
                have HG := Lib.hid hg
                clear hg
                have HLOW := Lib.hid hown2.lt
                have hsi : j + h + i' < s.size := by omega
                go_wp2_with (at_builtin; refine wpList_append_own _ rfl _ _ 36 rfl w.heap.size 5 i0 (.int .u8 0) 1 1 Try.underlying36 hi hz0 hz1 hz2 rfl (by decide) _ _ _ rfl (hown2.alloc _) ⟨wr.heap.size, 0, none⟩ 1 1 [.int .u8 (s[j + h + i'].toNat : Int)] rfl rfl ?c1 ?c2 ?c3 ?c4 ?c5 ?_)
                case c1 => exact cell_one_new _ _ _
                case c2 => intro u hu; simp at hu; subst hu; rfl
                case c3 => unfold maxLen; omega
                case c4 => omega
                case c5 => simp; omega
                intro v' w3 hown' hgrow _
                rw [cellsOf_snoc acc1 _ _ rfl] at hown'
                have hb' : Below w.heap.size w w3 := (hb2.alloc (by omega) _).grown hgrow (by simp; omega) (fun k hk => (HLOW.out k hk).1)
                have hfin : acc1 ++ [s[j + h + i']] = acc ++ List.take (i' + 1) (s.data.toList.drop (j + h)) := by rw [HT.out, ← HG.out, List.append_assoc]
                have HFIN := Lib.hid hfin
                clear hown2 hgrow hfin
                go_wp2_with fail
                exact ⟨⟨i' + 1, by omega, by go_num, by go_num, by rw [← HFIN.out]; simpa using hown', hb'⟩, by simp [intOf]; omega⟩
              · obtain rfl : i' = n / 2 := by omega
                have hlen : (acc ++ List.take (n / 2) (s.data.toList.drop (j + h))).length = acc.length + n / 2 := by
                  rw [List.length_append, List.length_take, List.length_drop, size_list]; omega
                have HLEN := Lib.hid hlen
                clear hlen
                have hge : ¬ (((n / 2 : Nat) : Int) < (n : Int) / 2) := by omega
                go_wp2_with fail
                have hlen := HLEN.out
                exact ⟨⟨j + (h + n / 2), k, acc ++ List.take (n / 2) (s.data.toList.drop (j + h)), by go_num, by omega, by omega, by omega, HX2.out, hown2, hb2⟩, by simp [intOf]; omega⟩
          · have hfn : f ≠ 0 := by omega
            rw [show Lz.used (n / 2) f (k1 + m) = k1 + m by simp [Lz.used, hfn], show Lz.emit (s.data.toList.drop j) acc (n / 2) f (k1 + m) = Lz.copy f (n / 2) acc by simp [Lz.emit, hfn]] at hr
            have HX2 := Lib.hid hr
            have hvb := Lz.vget_bd hv
            have hvb2 := Lz.vget_bd hv2
            rw [List.length_drop, size_list] at hvb
            rw [List.length_drop, List.length_drop, size_list] at hvb2
            rw [List.drop_drop] at hv2
            rw [← hrl] at hv
            rw [← extract_rest s (j + k1)] at hv2
            have HV := Lib.hid hv
            have HV2 := Lib.hid hv2
            have hk0 : ((k1 : Int) == 0) = false := beq_eq_false_iff_ne.2 (by omega)
            have hm0 : ((m : Int) == 0) = false := beq_eq_false_iff_ne.2 (by omega)
            have hf0 : ((f : Int) == 0) = false := beq_eq_false_iff_ne.2 (by omega)
            have he' : ((n : Int) % 2 == 1) = true := by rw [beq_iff_eq]; omega
            have hrs2 : (s.extract (j + k1) s.size).size ≤ maxLen := by simp; omega
            have hw3 : IntKind.u64.wrap (acc.length : Int) = (acc.length : Int) := u64_wrap_id _ (by omega) (by omega)
            have hw4 : IntKind.u64.wrap (most : Int) = (most : Int) := u64_wrap_id _ (by omega) (by omega)
            have c1 : ¬ (n : Int) / 2 < 4 := by omega
            have c2 : ¬ (f : Int) < 1 := by omega
            have c3 : ¬ (65535 : Int) < (f : Int) := by omega
            have c4 : ¬ (acc.length : Int) < (f : Int) := by omega
            have hc3 : ¬ (most : Int) < (n : Int) / 2 := by omega
            have hc4 : ¬ (most : Int) - (n : Int) / 2 < (acc.length : Int) := by omega
            clear hst HX hln hll hrl hv hv2 he hsb hr hfn
            go_wp2_with fail
            refine (rget_some _ _ hrs n k1 HV.out).mono ?_
            rintro e w2 ⟨rfl, rfl⟩
            go_wp2_with fail
            refine (rget_some _ _ hrs2 f m HV2.out).mono ?_
            rintro e w2 ⟨rfl, rfl⟩
            go_wp2_with fail
            go_loopw [6, 7, 14] (fun o i7 i wq => ∃ (i' : Nat) (acc1 : List UInt8), i' ≤ n / 2 ∧ i = .int .i64 i' ∧ i7 = .int .i64 ((j : Int) + (k1 : Int) + (m : Int)) ∧ acc1.length ≤ acc.length + i' ∧ acc.length + i' ≤ acc1.length ∧ Hid (Lz.copy f (n / 2) acc = Lz.copy f (n / 2 - i') acc1) ∧ wq.ownsRow w.heap.size 5 1 o acc1.length (cellsOf acc1) ∧ Below w.heap.size w wq) (fun _ _ i _ => n / 2 - (intOf i).toNat)
            case atStart => exact ⟨0, acc, Nat.zero_le _, rfl, rfl, Nat.le_refl _, Nat.le_refl _, rfl, hown, hb⟩
            case round =>
              obtain ⟨i', acc1, hi', rfl, rfl, hl1, hl2, HC, hown2, hb2⟩ := hrel
              clear hown hb
              have hbs2 := hb2.size
              by_cases hil : i' < n / 2
              · obtain ⟨g, cap3, rfl, hnl, hg, hcells⟩ := own_bytes hown2 (by omega)
                have hidx : acc1.length - f < acc1.length := by omega
                have hcell := hcells (acc1.length - f) hidx
                rw [show ((⟨g, 0, none⟩ : Addr).add (acc1.length - f)) = ⟨g, acc1.length - f, none⟩ by simp [Addr.add]; omega] at hcell
                have hgd := Lz.getD_at acc1 (acc1.length - f) hidx
                rw [← hgd] at hcell
                have HC1 := Lib.hid (HC.out.trans (copy_back f (n / 2) i' acc1 hil))
                generalize hbb : acc1.getD (acc1.length - f) 0 = b at *
                have HLOW := Lib.hid hown2.lt
                clear hnl hcells hgd hbb hidx HC
                go_wp2_with (at_builtin; refine wpList_append_own _ rfl _ _ 36 rfl w.heap.size 5 i0 (.int .u8 0) 1 1 Try.underlying36 hi hz0 hz1 hz2 rfl (by decide) _ _ _ rfl (hown2.alloc _) ⟨wr.heap.size, 0, none⟩ 1 1 [.int .u8 (b.toNat : Int)] rfl rfl ?d1 ?d2 ?d3 ?d4 ?d5 ?_)
                case d1 => exact cell_one_new _ _ _
                case d2 => intro u hu; simp at hu; subst hu; rfl
                case d3 => unfold maxLen; omega
                case d4 => omega
                case d5 => simp; omega
                intro v' w3 hown' hgrow _
                rw [cellsOf_snoc acc1 _ _ rfl] at hown'
                have hb' : Below w.heap.size w w3 := (hb2.alloc (by omega) _).grown hgrow (by simp; omega) (fun k hk => (HLOW.out k hk).1)
                clear hown2 hgrow hcell
                go_wp2_with fail
                exact ⟨⟨i' + 1, acc1 ++ [b], by omega, by go_num, rfl, by simp; omega, by simp; omega, HC1.out, by simpa using hown', hb'⟩, by simp [intOf]; omega⟩
              · obtain rfl : i' = n / 2 := by omega
                have e := HC.out
                rw [Nat.sub_self] at e
                have e2 : Lz.copy f (n / 2) acc = acc1 := e
                have HE := Lib.hid e2
                clear e e2 HC
                have hge : ¬ (((n / 2 : Nat) : Int) < (n : Int) / 2) := by omega
                go_wp2_with fail
                exact ⟨⟨j + (k1 + m), k, acc1, by go_num, by omega, by omega, by omega, by rw [← HE.out]; exact HX2.out, hown2, hb2⟩, by simp [intOf]; omega⟩
    · have hjs : j = s.size := by omega
      have hr := HX.out
      rw [List.drop_of_length_le (by rw [size_list]; omega), Lz.runF_nil] at hr
      subst hr
      have hcv := ret_bytes hown
      clear HX hjs
      go_wp2_with fail
      go_ret2
      exact ⟨rfl, hb⟩

end Go.Proofs.Ytkifjobmomfofaa
