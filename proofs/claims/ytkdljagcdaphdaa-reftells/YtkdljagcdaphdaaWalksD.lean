/-
  WALKS OF LAYER 9: the document's Fine; slices.IndexFunc of refs.
-/
import Derived.Test.YtkdljagcdaphdaaWalksC
namespace Go.Proofs.Ytkdljagcdaphdaa
open Go.RowKit
set_option linter.unusedVariables false
set_option linter.unusedSimpArgs false

set_option maxHeartbeats 1000000 in
set_option maxRecDepth 100000 in
theorem reffine_any (v : Value) (L : List Rf.R) (w : World) (hL : RefsAt w v L) (hn : ∀ r ∈ L, r.name.size ≤ maxLen) (hl : L.length ≤ maxLen) :
    Calls Try.prog 9 #[v] w fun r w' => r = .returned (.bool (Rf.fine L)) ∧ Below w.heap.size w w' := by
  obtain ⟨ao, cap, rfl⟩ := hL.form
  unfold maxLen at hl
  have HL := Lib.hid hL
  have HN := Lib.hid hn
  clear hL hn
  by_cases h64 : L.length ≤ 64
  · have h64' : ¬ (64 : Int) < (L.length : Int) := by omega
    have HZ := Lib.hid (show Rf.fine L = Rf.fineF none L by unfold Rf.fine; simp [h64])
    generalize Rf.fine L = z at HZ
    go_enter Try.func9, Try.ntmps9
    go_wp2_with fail
    go_loopw [3] (fun i wr => ∃ (k : Nat), k ≤ L.length ∧ i = .int .i64 k ∧ Hid (z = Rf.fineF (lastN L k) (L.drop k)) ∧ Below w.heap.size w wr) (fun i _ => L.length - (intOf i).toNat)
    case atStart => exact ⟨0, by omega, rfl, HZ.out, Below.refl _ _⟩
    case round =>
      obtain ⟨k, hk, rfl, HE, hb⟩ := hrel
      by_cases hlt : k < L.length
      · have hlt' : (k : Int) < (L.length : Int) := by omega
        have hk0 : (0 : Int) ≤ (k : Int) := by omega
        obtain ⟨e, he⟩ : ∃ e, L[k]? = some e := ⟨L[k], List.getElem?_eq_getElem hlt⟩
        obtain ⟨a, rfl, hid, hc⟩ := (HL.out.below hb).elem k e he
        have HD := Lib.hid hid
        have HS := Lib.hid (HE.out.trans (fine_step he))
        have c0 := rf_name hc
        have hA1 := add_block a (k * 33)
        have hA2 := add_off a (k * 33)
        have HNM := Lib.hid (fun W => refname_any e.name W (HN.out e (List.mem_of_getElem? he)))
        have HR1 := Lib.hid (mid_rid hc)
        have hq := fun W => eq_id e.id Rf.zid hid rfl W
        have HOK := Lib.hid (show Rf.okr e = (Rf.nameOk e.name && !decide (e.id = Rf.zid)) from rfl)
        clear hc hid
        cases hnm : Rf.nameOk e.name with
        | false =>
          rw [hnm] at HNM HOK
          have HZ2 := Lib.hid (show z = false by rw [HS.out, HOK.out]; rfl)
          clear hnm HS HOK he
          go_wp2_with (go_at_call 19; ((with_reducible refine (HNM.out _).mono ?_); rintro r wx ⟨rfl, rfl⟩))
          go_ret
          exact ⟨ret_bool HZ2.out.symm, hb⟩
        | true =>
          rw [hnm] at HNM HOK
          generalize decide (e.id = Rf.zid) = dz at hq HOK
          cases dz with
          | true =>
            have HZ2 := Lib.hid (show z = false by rw [HS.out, HOK.out]; rfl)
            clear hnm HS HOK he
            go_wp2_with (first
              | (go_at_call 19; ((with_reducible refine (HNM.out _).mono ?_); rintro r wx ⟨rfl, rfl⟩))
              | ((fail_if_success (fail_if_success go_guarded)); (with_reducible refine ldg_idm (x := .tmp 26) (b := a.block) (o := a.off + k * 33 + 1) ?_ ?_ ?_ HR1.out HD.out ?_); rfl; rfl; kernel_rfl)
              | ((fail_if_success (fail_if_success go_guarded)); (with_reducible refine bdg_zid ?_ ?_ ?_); rfl; kernel_rfl))
            go_ret
            exact ⟨ret_bool HZ2.out.symm, hb⟩
          | false =>
            clear hnm
            rcases Nat.eq_zero_or_pos k with hkz | hkp
            · have HS2 := Lib.hid (show z = Rf.fineF (lastN L (k + 1)) (L.drop (k + 1)) by rw [HS.out, HOK.out, hkz]; rfl)
              have g1 : decide ((0 : Int) < (k : Int)) = false := by simp; omega
              have g2 : decide (0 < k) = false := by simp; omega
              have g3 : ¬ (0 : Int) < (k : Int) := by omega
              clear HS he hkz
              go_wp2_with (first
                | (go_at_call 19; ((with_reducible refine (HNM.out _).mono ?_); rintro r wx ⟨rfl, rfl⟩))
                | ((fail_if_success (fail_if_success go_guarded)); (with_reducible refine ldg_idm (x := .tmp 26) (b := a.block) (o := a.off + k * 33 + 1) ?_ ?_ ?_ HR1.out HD.out ?_); rfl; rfl; kernel_rfl)
                | ((fail_if_success (fail_if_success go_guarded)); (with_reducible refine bdg_zid ?_ ?_ ?_); rfl; kernel_rfl))
              go_quiet (fail)
              go_wp2_with fail
              go_roundw
              case rel => exact ⟨k + 1, by omega, by go_num, HS2, below_drewN hb _⟩
              case measure => simp [intOf]; omega
            · obtain ⟨j, hj⟩ : ∃ j, k = j + 1 := ⟨k - 1, by omega⟩
              obtain ⟨p, hp⟩ : ∃ p, L[j]? = some p := ⟨L[j], List.getElem?_eq_getElem (by omega)⟩
              have HS2 := Lib.hid (show z = (Op.bytesLess p.name.toList e.name.toList && Rf.fineF (lastN L (k + 1)) (L.drop (k + 1))) by
                have hla : lastN L k = some p.name := by rw [hj]; simp [lastN, hp]
                rw [HS.out, HOK.out, hla]; rfl)
              obtain ⟨a', e', c1⟩ := (HL.out.below hb).name j p hp
              cases e'
              have g1 : decide ((0 : Int) < (k : Int)) = true := by simp; omega
              have g2 : decide (0 < k) = true := by simp; omega
              have g3 : (0 : Int) < (k : Int) := by omega
              have g4 : (0 : Int) ≤ (j : Int) := by omega
              have g5 : (j : Int) < (L.length : Int) := by omega
              have HJ := Lib.hid (show (k : Int) - 1 = (j : Int) by omega)
              have HLE := Lib.hid (show (Op.bytesLess e.name.toList p.name.toList || e.name.toList == p.name.toList) = !Op.bytesLess p.name.toList e.name.toList from Rf.leq_iff _ _)
              clear HS he hp hj
              go_wp2_with (first
                | (go_at_call 19; ((with_reducible refine (HNM.out _).mono ?_); rintro r wx ⟨rfl, rfl⟩))
                | ((fail_if_success (fail_if_success go_guarded)); (with_reducible refine ldg_idm (x := .tmp 26) (b := a.block) (o := a.off + k * 33 + 1) ?_ ?_ ?_ HR1.out HD.out ?_); rfl; rfl; kernel_rfl)
                | ((fail_if_success (fail_if_success go_guarded)); (with_reducible refine bdg_zid ?_ ?_ ?_); rfl; kernel_rfl))
              have g6 := HJ.out
              have g7 : IntKind.i64.wrap ((k : Int) - 1) = (j : Int) := by rw [g6]; exact IntWalk.i64_in _ (by omega)
              cases hbl : Op.bytesLess p.name.toList e.name.toList with
              | true =>
                have HS3 := Lib.hid (show z = Rf.fineF (lastN L (k + 1)) (L.drop (k + 1)) by rw [HS2.out, hbl]; rfl)
                rw [hbl] at HLE
                have hle : (Op.bytesLess e.name.toList p.name.toList || e.name.toList == p.name.toList) = false := HLE.out
                obtain ⟨hl1, hl2⟩ := Bool.or_eq_false_iff.1 hle
                go_quiet (fail)
                go_wp2_with fail
                go_roundw
                case rel => exact ⟨k + 1, by omega, by go_num, HS3, below_drewN hb _⟩
                case measure => simp [intOf]; omega
              | false =>
                have HS3 := Lib.hid (show z = false by rw [HS2.out, hbl]; rfl)
                rw [hbl] at HLE
                have hle : (Op.bytesLess e.name.toList p.name.toList || e.name.toList == p.name.toList) = true := HLE.out
                go_quiet (fail)
                go_wp2_with fail
                go_ret
                exact ⟨ret_bool HS3.out.symm, below_drewN hb _⟩
      · have HS := Lib.hid (show z = true by rw [HE.out, List.drop_of_length_le (by omega)]; rfl)
        go_wp2_with fail
        go_ret
        exact ⟨ret_bool HS.out.symm, hb⟩
  · have h64' : (64 : Int) < (L.length : Int) := by omega
    have HS := Lib.hid (show Rf.fine L = false by unfold Rf.fine; simp [h64])
    generalize Rf.fine L = z at HS
    go_enter Try.func9, Try.ntmps9
    go_wp2_with fail
    go_ret
    exact ⟨ret_bool HS.out.symm, Below.refl _ _⟩

end Go.Proofs.Ytkdljagcdaphdaa
