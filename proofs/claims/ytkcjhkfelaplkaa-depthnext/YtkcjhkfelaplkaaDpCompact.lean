/-
  WALKS OF LAYER 13: slices.Compact of a row of ids of one's own.
-/
import Derived.Test.YtkcjhkfelaplkaaDpComp
namespace Go.Proofs.Ytkcjhkfelaplkaa
open Go.RowKit Go.Sort
set_option linter.unusedVariables false
set_option linter.unusedSimpArgs false

theorem OwnI.at_ {w : World} {base g n cap : Nat} {C : List (List UInt8)} (h : OwnI w base (.slice (some ⟨g, 0, none⟩) n cap) C) (k : Nat) (x : List UInt8) (hk : C[k]? = some x) : ∀ j u, (idC x)[j]? = some u → w.cell? ((⟨g, k * 32, none⟩ : Addr).add j) = some u := by
  obtain ⟨a, e, _, hc⟩ := RowsAt.elem h.rows k (idC x) (by rw [List.getElem?_map, hk]; rfl)
  injection e with e
  subst e
  intro q v hv
  have := hc q v hv
  rwa [Addr.add_mid, Nat.zero_add] at this
theorem OwnI.room {w : World} {base g n cap : Nat} {C : List (List UInt8)} (h : OwnI w base (.slice (some ⟨g, 0, none⟩) n cap) C) : n = C.length ∧ n ≤ cap ∧ cap ≤ maxLen := by
  rcases h.own.2 with ⟨hv, h0⟩ | ⟨g', c', cur, hv, hb, hh, h1, h2, h3, h4⟩
  · cases hv
  · simp only [Value.slice.injEq, Option.some.injEq, Addr.mk.injEq, and_true] at hv
    obtain ⟨rfl, rfl, rfl⟩ := hv
    exact ⟨rfl, h1, h2⟩
theorem own_drewN {w : World} {base : Nat} {v : Value} {C : List (List UInt8)} (h : OwnI w base v C) (q : Nat) : OwnI (w.drewN q) base v C := h.below ⟨rfl, rfl, rfl, Nat.le_refl _, fun _ _ => rfl⟩
/-- An id put into a row of one's own. -/
theorem st_own {ops : Array Oper} {rest : List Oper} {op : Oper} {a : Act} {w : World} {Q : Exit → Act → World → Prop} {x y : Operand} {base g n cap i : Nat} {C : List (List UInt8)} {u : List UInt8} (ho : op.op = .store 28 x y) (hx : a.eval x = .pointer (some ⟨g, i * 32, none⟩)) (hy : a.eval y = .agg (idC u).toArray) (hg : op.guard = none)
    (h : OwnI w base (.slice (some ⟨g, 0, none⟩) n cap) C) (hi : i < C.length) (hul : u.length = 32)
    (hK : ∀ w', Hid (OwnI w' base (.slice (some ⟨g, 0, none⟩) n cap) (C.set i u)) → Hid (w.grownBy w' (some g)) → wpList Try.prog ops Q rest (a.put op.dst undef) w') : wpList Try.prog ops Q (op :: rest) a w := by
  have hfl : ((C.map idC).flatten).length = C.length * 32 := by rw [flatK_len _ (ids_len h.len)]; simp
  obtain ⟨hn, _, _⟩ := h.room
  subst hn
  have hsz : (idC u).toArray.size = 32 := by rw [List.size_toArray, idC_length, hul]
  refine wpList_store_mid hg 28 x y ho g (i * 32) (idC u).toArray hx hy ?_ ?_ (all_oneCell_toArray (idC_one u)) ?_
  · rw [hsz]
    intro q hq
    exact ⟨by rw [h.own.cellAt (i * 32 + q) (by omega), List.getElem?_eq_getElem (by omega)]; rfl, h.own.frozenAt _⟩
  · rw [List.size_toArray]; exact idsize hul
  · have := h.set u hul hi
    exact hK _ (Lib.hid (by simpa using this)) (Lib.hid (grown_setCells g _ (i * 32) w))
set_option maxHeartbeats 2000000 in
set_option maxRecDepth 100000 in
theorem compact_few (w : World) (a : Option Addr) (n cap : Nat) (hn : n < 2) :
    Calls Try.prog 15 #[.slice a n cap] w fun r w' => r = .returned (.slice a n cap) ∧ w' = w := by
  have hlt : (n : Int) < 2 := by omega
  go_enter Try.func15, Try.ntmps15
  go_wp2_with fail
  go_ret
  exact ⟨rfl, rfl⟩
set_option maxHeartbeats 4000000 in
set_option maxRecDepth 100000 in
theorem compact_own (w : World) (base g cap : Nat) (I : List (List UInt8)) (h : OwnI w base (.slice (some ⟨g, 0, none⟩) I.length cap) I) (hn : I.length ≤ 100000) (h2 : 2 ≤ I.length) :
    Calls Try.prog 15 #[.slice (some ⟨g, 0, none⟩) I.length cap] w fun r w' =>
      r = .returned (.slice (some ⟨g, 0, none⟩) (Lib.compact I).length cap) ∧ OwnI w' base (.slice (some ⟨g, 0, none⟩) (Lib.compact I).length cap) (Lib.compact I) ∧ w.grownBy w' (some g) := by
  obtain ⟨_, hcap, hcm⟩ := h.room
  have HH := Lib.hid h
  have hcm' : cap ≤ 9223372036854775807 := by unfold maxLen at hcm; omega
  clear hcm h
  have hlt2 : ¬ (I.length : Int) < 2 := by omega
  have HI := Lib.hid (show ∀ j, j < I.length → I[j]? = some I.toArray[j]! from fun j hj => by rw [getElem!_pos I.toArray j (by simpa using hj)]; simp [hj])
  go_enter Try.func15, Try.ntmps15
  go_wp2_with fail
  go_loopw [3] (fun i wr => ∃ (k q : Nat), 1 ≤ k ∧ k ≤ I.length ∧ i = .int .i64 k ∧ wr = w.drewN q ∧ Hid (∀ j, j < k → Lib.keeps I.toArray j = true)) (fun i _ => I.length - (intOf i).toNat)
  case atStart => exact ⟨1, 0, by omega, by omega, rfl, rfl, Lib.keeps_lt_one _⟩
  case round =>
    obtain ⟨k, q, hk1, hk, rfl, rfl, HK⟩ := hrel
    by_cases hlt : k < I.length
    · obtain ⟨m, rfl⟩ : ∃ m, k = m + 1 := ⟨k - 1, by omega⟩
      have hlt' : (((m + 1 : Nat)) : Int) < (I.length : Int) := by omega
      have hk0 : (0 : Int) ≤ ((m + 1 : Nat) : Int) := by omega
      have hm0 : (0 : Int) ≤ (m : Int) := by omega
      have hk6 : (m : Int) + 1 < (I.length : Int) := by omega
      have hk7 : (0 : Int) ≤ (m : Int) + 1 := by omega
      have hk8 : ((m : Int) + 1).toNat = m + 1 := by omega
      have hm1 : (m : Int) < (I.length : Int) := by omega
      have hw0 : IntKind.i64.wrap ((m : Int) + 1 - 1) = (m : Int) := by rw [show (m : Int) + 1 - 1 = m by omega]; exact IntWalk.i64_in _ (by omega)
      have hw1 : IntKind.i64.wrap (((m + 1 : Nat) : Int) - 1) = (m : Int) := by rw [show ((m + 1 : Nat) : Int) - 1 = m by omega]; exact IntWalk.i64_in _ (by omega)
      have hw2 : IntKind.i64.wrap (m : Int) = (m : Int) := IntWalk.i64_in _ (by omega)
      have hx := HI.out (m + 1) hlt
      have hy := HI.out m (by omega)
      generalize hX : I.toArray[m + 1]! = x at hx
      generalize hY : I.toArray[m]! = y at hy
      have HXY := Lib.hid (show I.toArray[m + 1]! = x ∧ I.toArray[m]! = y from ⟨hX, hY⟩)
      clear hX hY
      have HXL := Lib.hid (HH.out.len x (List.mem_of_getElem? hx))
      have HYL := Lib.hid (HH.out.len y (List.mem_of_getElem? hy))
      have HCX := Lib.hid (OwnI.at_ (w := (w.drewN q).drew) (own_drewN HH.out (q + 1)) (m + 1) x hx)
      have HCY := Lib.hid (OwnI.at_ (w := (w.drewN q).drew) (own_drewN HH.out (q + 1)) m y hy)
      have HEQ := Lib.hid (fun W => eq_id x y HXL.out HYL.out W)
      clear hx hy
      by_cases hdup : x = y
      · subst hdup
        have heq : ∀ W, (Op.equalIn 10000 28 (.agg (idC x).toArray) (.agg (idC x).toArray)).run Try.prog W = .ok true W := fun W => by rw [HEQ.out W, decide_eq_true rfl]
        have HNEG := Lib.hid (Lib.keeps_neg (d := I.toArray) (m := m + 1) (by omega) (by rw [HXY.out.1, Nat.add_sub_cancel, HXY.out.2]))
        go_wp2_with fail
        refine rgn_still (by kernel_rfl) (by kernel_rfl) ?_
        repeat still_step
        (with_reducible apply still_id (hc := HCX.out) (hl := HXL.out))
        rfl
        rfl
        rfl
        repeat still_step
        (with_reducible apply still_id (hc := HCY.out) (hl := HYL.out))
        rfl
        rfl
        rfl
        repeat still_step
        refine wpStill_nil ?_
        clear heq HCX HCY hw0 hw1 hw2
        go_wp2_with fail
        have HO1 := Lib.hid (show OwnI (w.drewN (q + 1)) base (.slice (some ⟨g, 0, none⟩) I.length cap) I from own_drewN HH.out (q + 1))
        have HG1 := Lib.hid (show w.grownBy (w.drewN (q + 1)) (some g) from ⟨rfl, rfl, rfl, Nat.le_refl _, fun _ _ _ => rfl⟩)
        have HST := Lib.hid (Lib.CompInv.start HK.out HNEG.out)
        have HR := Lib.hid (show I.length = m + 1 + (I.length - (m + 1)) by omega)
        have HC2 := Lib.hid (show I.length - (m + 1) ≤ cap - (m + 1) by omega)
        have hr1 : 0 < I.length - (m + 1) := by omega
        have hrb : I.length - (m + 1) ≤ 100000 := by omega
        clear HXY HXL HYL HEQ HNEG hlt hlt' hk6 hk8 hm1 hlt2 h2 HK hk1 hk HH
        generalize I.length - (m + 1) = r at *
        generalize cap - (m + 1) = c2 at *
        generalize w.drewN (q + 1) = w1 at *
        go_loopw [3, 5] (fun s3 s5 wr => ∃ (kk p : Nat) (dk : List (List UInt8)), s3 = .int .i64 kk ∧ s5 = .int .i64 ((p + 1 : Nat) : Int) ∧ p + 1 ≤ r ∧ Hid (Lib.CompInv I.toArray (m + 1 + (p + 1)) kk dk.toArray) ∧ Hid (OwnI wr base (.slice (some ⟨g, 0, none⟩) I.length cap) dk) ∧ Hid (w.grownBy wr (some g))) (fun _ s5 _ => r - (intOf s5).toNat)
        case atStart => exact ⟨m + 1, 0, I, by go_num, by go_num, by omega, HST.out, HO1.out, HG1.out⟩
        case round =>
          obtain ⟨kk, p, dk, rfl, rfl, hp, HCI, HO, HG⟩ := hrel
          have hkk : kk < m + 1 + (p + 1) := HCI.out.lt
          have hds : dk.length = I.length := by simpa using HCI.out.size
          have HDS := Lib.hid hds
          clear hds
          by_cases hlt2 : p + 1 < r
          · have HP := Lib.hid hlt2
            have hp1 : (p : Int) + 1 < (r : Int) := by omega
            have hp0 : (0 : Int) ≤ (p : Int) + 1 := by omega
            have hp5 : ((p + 1 : Nat) : Int) < (r : Int) := by omega
            have hp6 : (0 : Int) ≤ ((p + 1 : Nat) : Int) := by omega
            have hw1 : IntKind.i64.wrap (((p + 1 : Nat) : Int) - 1) = (p : Int) := by rw [show ((p + 1 : Nat) : Int) - 1 = p by omega]; exact IntWalk.i64_in _ (by omega)
            have hp2 : (0 : Int) ≤ (p : Int) := by omega
            have hp3 : (p : Int) < (r : Int) := by omega
            have hp4 : ((p : Int) + 1).toNat = p + 1 := by omega
            have hr5 := HR.out
            have hw0 : IntKind.i64.wrap ((p : Int) + 1 - 1) = (p : Int) := by rw [show (p : Int) + 1 - 1 = p by omega]; exact IntWalk.i64_in _ (by omega)
            have hw2 : IntKind.i64.wrap (p : Int) = (p : Int) := IntWalk.i64_in _ (by omega)
            have hkb : (kk : Int) < (I.length : Int) := by omega
            have hkb0 : (0 : Int) ≤ (kk : Int) := by omega
            have HKB := Lib.hid (show kk < dk.length by rw [HDS.out]; omega)
            obtain ⟨u, hu⟩ : ∃ u, dk[m + 1 + (p + 1)]? = some u := ⟨_, List.getElem?_eq_getElem (by rw [HDS.out]; omega)⟩
            obtain ⟨v, hv⟩ : ∃ v, dk[m + 1 + p]? = some v := ⟨_, List.getElem?_eq_getElem (by rw [HDS.out]; omega)⟩
            have HU := Lib.hid (show I.toArray[m + 1 + (p + 1)]! = u from by
              have := HCI.out.high (m + 1 + (p + 1)) (by omega)
              rw [← this, getElem!_pos dk.toArray _ (by simpa using (List.getElem?_eq_some_iff.1 hu).1)]
              simpa using (List.getElem?_eq_some_iff.1 hu).2)
            have HV := Lib.hid (show I.toArray[m + 1 + p]! = v from by
              have := HCI.out.high (m + 1 + p) (by omega)
              rw [← this, getElem!_pos dk.toArray _ (by simpa using (List.getElem?_eq_some_iff.1 hv).1)]
              simpa using (List.getElem?_eq_some_iff.1 hv).2)
            have HUL := Lib.hid (HO.out.len u (List.mem_of_getElem? hu))
            have HVL := Lib.hid (HO.out.len v (List.mem_of_getElem? hv))
            have HOD := Lib.hid (HO.out.below (Below.refl _ wr).drew)
            have HCU := Lib.hid (show ∀ j z, (idC u)[j]? = some z → wr.drew.cell? ((⟨g, (m + 1) * 32 + (p + 1) * 32, none⟩ : Addr).add j) = some z from by
              rw [← Nat.add_mul]; exact HOD.out.at_ _ u hu)
            have HCV := Lib.hid (show ∀ j z, (idC v)[j]? = some z → wr.drew.cell? ((⟨g, (m + 1) * 32 + p * 32, none⟩ : Addr).add j) = some z from by
              rw [← Nat.add_mul]; exact HOD.out.at_ _ v hv)
            have HEQ := Lib.hid (fun W => eq_id u v HUL.out HVL.out W)
            clear hu hv hr5 HO
            by_cases huv : u = v
            · subst huv
              have heq : ∀ W, (Op.equalIn 10000 28 (.agg (idC u).toArray) (.agg (idC u).toArray)).run Try.prog W = .ok true W := fun W => by rw [HEQ.out W, decide_eq_true rfl]
              have HNEG := Lib.hid (Lib.keeps_neg (d := I.toArray) (m := m + 1 + (p + 1)) (by omega) (by rw [HU.out, show m + 1 + (p + 1) - 1 = m + 1 + p by omega, HV.out]))
              go_wp2_with fail
              refine rgn_still (by kernel_rfl) (by kernel_rfl) ?_
              repeat still_step
              (with_reducible apply still_id (hc := HCU.out) (hl := HUL.out))
              rfl
              rfl
              rfl
              repeat still_step
              (with_reducible apply still_id (hc := HCV.out) (hl := HVL.out))
              rfl
              rfl
              rfl
              repeat still_step
              refine wpStill_nil ?_
              clear heq HCU HCV hw0 hw1 hw2
              go_wp2_with fail
              go_roundw
              case rel => exact ⟨kk, p + 1, dk, rfl, by go_num, by have := HP.out; omega, HCI.out.skip HNEG.out, HOD.out, HG.out.trans ⟨rfl, rfl, rfl, Nat.le_refl _, fun _ _ _ => rfl⟩⟩
              case measure => have := HP.out; simp [intOf]; omega
            · have heq : ∀ W, (Op.equalIn 10000 28 (.agg (idC u).toArray) (.agg (idC v).toArray)).run Try.prog W = .ok false W := fun W => by rw [HEQ.out W, decide_eq_false huv]
              have HPOS := Lib.hid (Lib.keeps_pos (d := I.toArray) (m := m + 1 + (p + 1)) (by rw [HU.out, show m + 1 + (p + 1) - 1 = m + 1 + p by omega, HV.out]; exact huv))
              have HML := Lib.hid (show m + 1 + (p + 1) < I.toArray.size by have := HR.out; simp; omega)
              go_wp2_with fail
              refine rgn_still (by kernel_rfl) (by kernel_rfl) ?_
              repeat still_step
              (with_reducible apply still_id (hc := HCU.out) (hl := HUL.out))
              rfl
              rfl
              rfl
              repeat still_step
              (with_reducible apply still_id (hc := HCV.out) (hl := HVL.out))
              rfl
              rfl
              rfl
              repeat still_step
              refine wpStill_nil ?_
              clear heq hw0 hw1 hw2
              go_wp2_with (first
                | ((with_reducible refine ld_id (l := u) (x := .tmp 49) ?_ ?_ ?_ HCU.out HUL.out ?_); rfl; rfl; rfl)
                | ((with_reducible refine st_own (x := .tmp 51) (y := .tmp 50) ?_ ?_ ?_ ?_ HOD.out HKB.out HUL.out (fun w3 HO3 HG3 => ?_)); rfl; rfl; rfl; rfl))
              go_roundw
              case rel =>
                refine ⟨kk + 1, p + 1, dk.set kk u, by go_num, by go_num, by have := HP.out; omega, Lib.hid ?_, HO3.out, HG.out.trans (World.grownBy.trans (b := wr.drew) ⟨rfl, rfl, rfl, Nat.le_refl _, fun _ _ _ => rfl⟩ HG3.out)⟩
                have := HCI.out.keep HML.out HPOS.out
                rw [HU.out] at this
                rw [show m + 1 + (p + 1 + 1) = m + 1 + (p + 1) + 1 by omega]
                simpa using this
              case measure => have := HP.out; simp [intOf]; omega
          · have hpe : p + 1 = r := by omega
            have hkr := HR.out
            have hlt3 : ¬ (p : Int) + 1 < (r : Int) := by omega
            have hlt4 : ¬ ((p + 1 : Nat) : Int) < (r : Int) := by omega
            have hkc0 : (0 : Int) ≤ (kk : Int) := by omega
            have hkc1 : (kk : Int) ≤ (I.length : Int) := by omega
            have hkc2 : (kk : Int) ≤ (cap : Int) := by omega
            have hkc3 : ¬ cap = kk := by omega
            rw [← HDS.out] at HO
            obtain ⟨w2, hcl, hO2, hG2⟩ := clear_ids (w := wr) HO.out (k := kk) (by rw [HDS.out]; omega) (cap - kk)
            rw [HDS.out] at hcl
            have HO2 := Lib.hid hO2
            have HG2 := Lib.hid (HG.out.trans hG2)
            have HDONE := Lib.hid (show Lib.compact I = dk.take kk ∧ (Lib.compact I).length = kk from by
              have hI := HCI.out
              rw [show m + 1 + (p + 1) = I.toArray.size by simp; omega] at hI
              have hl := hI.len
              refine ⟨?_, by unfold Lib.compact; simpa using hl⟩
              unfold Lib.compact
              apply List.ext_getElem?
              intro j
              have hl2 : (Lib.compactUpTo I.toArray I.length).length = kk := by simpa using hl
              by_cases hj : j < kk
              · have h6 := hI.low j hj
                have h7 : j < dk.length := by rw [HDS.out]; omega
                rw [List.getElem?_take_of_lt hj, List.getElem?_eq_getElem h7]
                have h8 : dk.toArray[j]! = dk[j] := by rw [getElem!_pos dk.toArray j (by simpa using h7)]; simp
                rw [h8] at h6
                simpa using h6
              · rw [List.getElem?_take_eq_none (by omega), List.getElem?_eq_none (by omega)])
            clear hO2 hG2 HCI HO HG hpe hkr
            go_wp2_with fail
            go_ret
            rw [HDONE.out.2, HDONE.out.1]
            exact ⟨rfl, HO2.out, HG2.out⟩
      · have heq : ∀ W, (Op.equalIn 10000 28 (.agg (idC x).toArray) (.agg (idC y).toArray)).run Try.prog W = .ok false W := fun W => by rw [HEQ.out W, decide_eq_false hdup]
        have HPOS := Lib.hid (Lib.keeps_pos (d := I.toArray) (m := m + 1) (by rw [HXY.out.1, Nat.add_sub_cancel, HXY.out.2]; exact hdup))
        go_wp2_with fail
        refine rgn_still (by kernel_rfl) (by kernel_rfl) ?_
        repeat still_step
        (with_reducible apply still_id (hc := HCX.out) (hl := HXL.out))
        rfl
        rfl
        rfl
        repeat still_step
        (with_reducible apply still_id (hc := HCY.out) (hl := HYL.out))
        rfl
        rfl
        rfl
        repeat still_step
        refine wpStill_nil ?_
        clear heq HCX HCY hw0 hw1 hw2
        go_wp2_with fail
        go_roundw
        case rel =>
          refine ⟨m + 1 + 1, q + 1, by omega, by omega, by go_num, rfl, fun j hj => ?_⟩
          by_cases e : j = m + 1
          · subst e; exact HPOS.out
          · exact HK.out j (by omega)
        case measure => simp [intOf]; omega
    · have hlt' : ¬ (k : Int) < (I.length : Int) := by omega
      have hke : k = I.length := by omega
      subst hke
      have HEC := Lib.hid (show Lib.compact I = I from Lib.compact_all I HK.out)
      go_wp2_with fail
      go_ret
      rw [HEC.out]
      exact ⟨rfl, own_drewN HH.out q, ⟨rfl, rfl, rfl, Nat.le_refl _, fun _ _ _ => rfl⟩⟩
end Go.Proofs.Ytkcjhkfelaplkaa
