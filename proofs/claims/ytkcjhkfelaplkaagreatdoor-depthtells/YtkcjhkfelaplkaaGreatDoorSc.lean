/-
  WALKS OF LAYER 13: slices.Compact of a row of ids of one's own.
-/
import Derived.Test.YtkcjhkfelaplkaaGreatDoorSb
import Derived.Test.YtkcjhkfelaplkaaGreatDoorQt
import Derived.Test.YtkcjhkfelaplkaaGreatDoorQa
set_option linter.unusedVariables false
set_option linter.unusedSimpArgs false
set_option maxHeartbeats 8000000
set_option maxRecDepth 100000
section
namespace Go.Proofs.YtkcjhkfelaplkaaGreatDoor
open Go.RowKit Go.Sort
theorem OwnI.at_ {w : World} {base g n cap : Nat} {C : List (List UInt8)} (h : OwnI w base (.slice (some ⟨g, 0, none⟩) n cap) C) (k : Nat) (x : List UInt8) (hk : C[k]? = some x) : ∀ j u, (idC x)[j]? = some u → w.cell? ((⟨g, k * 32, none⟩ : Addr).add j) = some u := by
 obtain ⟨a, e, _, hc⟩ := RowsAt.elem h.rows k (idC x) (by rw [List.getElem?_map, hk]; rfl)
 injection e with e
 subst e
 intro q v hv
 have := hc q v hv
 rwa [Addr.add_mid, Nat.zero_add] at this
theorem OwnI.room {w : World} {base g n cap : Nat} {C : List (List UInt8)} (h : OwnI w base (.slice (some ⟨g, 0, none⟩) n cap) C) : n = C.length ∧ n ≤ cap ∧ cap ≤ maxLen := by
 rcases h.own.2 with ⟨hv, h0⟩ | ⟨g', c', cur, hv, hb, hh, h1, h2, h3, h4⟩
 · cases hv
 ·
  simp only [Value.slice.injEq, Option.some.injEq, Addr.mk.injEq, and_true] at hv
  obtain ⟨rfl, rfl, rfl⟩ := hv
  exact ⟨rfl, h1, h2⟩
theorem own_drewN {w : World} {base : Nat} {v : Value} {C : List (List UInt8)} (h : OwnI w base v C) (q : Nat) : OwnI (w.drewN q) base v C := h.below ⟨rfl, rfl, rfl, Nat.le_refl _, fun _ _ => rfl⟩
theorem st_own {ops : Array Oper} {rest : List Oper} {op : Oper} {a : Act} {w : World} {Q : Exit → Act → World → Prop} {x y : Operand} {base g n cap i : Nat} {C : List (List UInt8)} {u : List UInt8} (ho : op.op = .store 46 x y) (hx : a.eval x = .pointer (some ⟨g, i * 32, none⟩)) (hy : a.eval y = .agg (idC u).toArray) (hg : op.guard = none)
  (h : OwnI w base (.slice (some ⟨g, 0, none⟩) n cap) C) (hi : i < C.length) (hul : u.length = 32)
  (hK : ∀ w', Hid (OwnI w' base (.slice (some ⟨g, 0, none⟩) n cap) (C.set i u)) → Hid (w.grownBy w' (some g)) → wpList Tryz.prog ops Q rest (a.put op.dst undef) w') : wpList Tryz.prog ops Q (op :: rest) a w := by
 have hfl : ((C.map idC).flatten).length = C.length * 32 := by rw [flatK_len _ (ids_len h.len)]; simp
 obtain ⟨hn, _, _⟩ := h.room
 subst hn
 have hsz : (idC u).toArray.size = 32 := by rw [List.size_toArray, idC_length, hul]
 refine wpList_store_mid hg 46 x y ho g (i * 32) (idC u).toArray hx hy ?_ ?_ (all_oneCell_toArray (idC_one u)) ?_
 ·
  rw [hsz]
  intro q hq
  exact ⟨by rw [h.own.cellAt (i * 32 + q) (by omega), List.getElem?_eq_getElem (by omega)]; rfl, h.own.frozenAt _⟩
 · rw [List.size_toArray]; exact idsize hul
 ·
  have := h.set u hul hi
  exact hK _ (Lib.hid (by simpa using this)) (Lib.hid (grown_setCells g _ (i * 32) w))
theorem compact_few (w : World) (a : Option Addr) (n cap : Nat) (hn : n < 2) :
  Calls Tryz.prog 74 #[.slice a n cap] w fun r w' => r = .returned (.slice a n cap) ∧ w' = w := by
 have hlt : (n : Int) < 2 := by omega
 go_enter Tryz.func74, Tryz.ntmps74
 go_wp2_with fail
 go_ret
 exact ⟨rfl, rfl⟩
theorem compact_own (w : World) (base g cap : Nat) (I : List (List UInt8)) (h : OwnI w base (.slice (some ⟨g, 0, none⟩) I.length cap) I) (hn : I.length ≤ 100000) (h2 : 2 ≤ I.length) :
  Calls Tryz.prog 74 #[.slice (some ⟨g, 0, none⟩) I.length cap] w fun r w' =>
   r = .returned (.slice (some ⟨g, 0, none⟩) (Lib.compact I).length cap) ∧ OwnI w' base (.slice (some ⟨g, 0, none⟩) (Lib.compact I).length cap) (Lib.compact I) ∧ w.grownBy w' (some g) := by
 obtain ⟨_, hcap, hcm⟩ := h.room
 have HH := Lib.hid h
 have hcm' : cap ≤ 9223372036854775807 := by unfold maxLen at hcm; omega
 clear hcm h
 have hlt2 : ¬ (I.length : Int) < 2 := by omega
 have HI := Lib.hid (show ∀ j, j < I.length → I[j]? = some I.toArray[j]! from fun j hj => by rw [getElem!_pos I.toArray j (by simpa using hj)]; simp [hj])
 go_enter Tryz.func74, Tryz.ntmps74
 go_wp2_with fail
 go_loopw [3] (fun i wr => ∃ (k q : Nat), 1 ≤ k ∧ k ≤ I.length ∧ i = .int .i64 k ∧ wr = w.drewN q ∧ Hid (∀ j, j < k → Lib.keeps I.toArray j = true)) (fun i _ => I.length - (intOf i).toNat)
 case atStart => exact ⟨1, 0, by omega, by omega, rfl, rfl, Lib.keeps_lt_one _⟩
 case round =>
  obtain ⟨k, q, hk1, hk, rfl, rfl, HK⟩ := hrel
  by_cases hlt : k < I.length
  ·
   obtain ⟨m, rfl⟩ : ∃ m, k = m + 1 := ⟨k - 1, by omega⟩
   have hlt' : (((m + 1 : Nat)) : Int) < (I.length : Int) := by omega
   have hk0 : (0 : Int) ≤ ((m + 1 : Nat) : Int) := by omega
   have hm0 : (0 : Int) ≤ (m : Int) := by omega
   have hk6 : (m : Int) + 1 < (I.length : Int) := by omega
   have hk7 : (0 : Int) ≤ (m : Int) + 1 := by omega
   have hk8 : ((m : Int) + 1).toNat = m + 1 := by omega
   have hm1 : (m : Int) < (I.length : Int) := by omega
   have hw0 : IntKind.i64.wrap ((m : Int) + 1 - 1) = (m : Int) := by rw [show (m : Int) + 1 - 1 = m by omega]; exact IntWalk.i64_in _ (by omega)
   have hw1 : IntKind.i64.wrap (((m + 1 : Nat) : Int) - 1) = (m : Int) := by rw [show ((m + 1 : Nat) : Int) - 1 = m by omega]; exact IntWalk.i64_in _ (by omega)
   have hw2 : IntKind.i64.wrap (m : Int) = (m : Int) := IntWalk.i64_in _ (by omega)
   have hx := HI.out (m + 1) hlt
   have hy := HI.out m (by omega)
   generalize hX : I.toArray[m + 1]! = x at hx
   generalize hY : I.toArray[m]! = y at hy
   have HXY := Lib.hid (show I.toArray[m + 1]! = x ∧ I.toArray[m]! = y from ⟨hX, hY⟩)
   clear hX hY
   have HXL := Lib.hid (HH.out.len x (List.mem_of_getElem? hx))
   have HYL := Lib.hid (HH.out.len y (List.mem_of_getElem? hy))
   have HCX := Lib.hid (OwnI.at_ (w := (w.drewN q).drew) (own_drewN HH.out (q + 1)) (m + 1) x hx)
   have HCY := Lib.hid (OwnI.at_ (w := (w.drewN q).drew) (own_drewN HH.out (q + 1)) m y hy)
   have HEQ := Lib.hid (fun W => eq_id x y HXL.out HYL.out W)
   clear hx hy
   by_cases hdup : x = y
   ·
    subst hdup
    have heq : ∀ W, (Op.equalIn 10000 46 (.agg (idC x).toArray) (.agg (idC x).toArray)).run Tryz.prog W = .ok true W := fun W => by rw [HEQ.out W, decide_eq_true rfl]
    have HNEG := Lib.hid (Lib.keeps_neg (d := I.toArray) (m := m + 1) (by omega) (by rw [HXY.out.1, Nat.add_sub_cancel, HXY.out.2]))
    go_wp2_with fail
    refine rgn_still (by kernel_rfl) (by kernel_rfl) ?_
    repeat still_step
    (with_reducible apply still_id (hc := HCX.out) (hl := HXL.out))
    rfl
    rfl
    rfl
    repeat still_step
    (with_reducible apply still_id (hc := HCY.out) (hl := HYL.out))
    rfl
    rfl
    rfl
    repeat still_step
    refine wpStill_nil ?_
    clear heq HCX HCY hw0 hw1 hw2
    go_wp2_with fail
    have HO1 := Lib.hid (show OwnI (w.drewN (q + 1)) base (.slice (some ⟨g, 0, none⟩) I.length cap) I from own_drewN HH.out (q + 1))
    have HG1 := Lib.hid (show w.grownBy (w.drewN (q + 1)) (some g) from ⟨rfl, rfl, rfl, Nat.le_refl _, fun _ _ _ => rfl⟩)
    have HST := Lib.hid (Lib.CompInv.start HK.out HNEG.out)
    have HR := Lib.hid (show I.length = m + 1 + (I.length - (m + 1)) by omega)
    have HC2 := Lib.hid (show I.length - (m + 1) ≤ cap - (m + 1) by omega)
    have hr1 : 0 < I.length - (m + 1) := by omega
    have hrb : I.length - (m + 1) ≤ 100000 := by omega
    clear HXY HXL HYL HEQ HNEG hlt hlt' hk6 hk8 hm1 hlt2 h2 HK hk1 hk HH
    generalize I.length - (m + 1) = r at *
    generalize cap - (m + 1) = c2 at *
    generalize w.drewN (q + 1) = w1 at *
    go_loopw [3, 5] (fun s3 s5 wr => ∃ (kk p : Nat) (dk : List (List UInt8)), s3 = .int .i64 kk ∧ s5 = .int .i64 ((p + 1 : Nat) : Int) ∧ p + 1 ≤ r ∧ Hid (Lib.CompInv I.toArray (m + 1 + (p + 1)) kk dk.toArray) ∧ Hid (OwnI wr base (.slice (some ⟨g, 0, none⟩) I.length cap) dk) ∧ Hid (w.grownBy wr (some g))) (fun _ s5 _ => r - (intOf s5).toNat)
    case atStart => exact ⟨m + 1, 0, I, by go_num, by go_num, by omega, HST.out, HO1.out, HG1.out⟩
    case round =>
     obtain ⟨kk, p, dk, rfl, rfl, hp, HCI, HO, HG⟩ := hrel
     have hkk : kk < m + 1 + (p + 1) := HCI.out.lt
     have hds : dk.length = I.length := by simpa using HCI.out.size
     have HDS := Lib.hid hds
     clear hds
     by_cases hlt2 : p + 1 < r
     ·
      have HP := Lib.hid hlt2
      have hp1 : (p : Int) + 1 < (r : Int) := by omega
      have hp0 : (0 : Int) ≤ (p : Int) + 1 := by omega
      have hp5 : ((p + 1 : Nat) : Int) < (r : Int) := by omega
      have hp6 : (0 : Int) ≤ ((p + 1 : Nat) : Int) := by omega
      have hw1 : IntKind.i64.wrap (((p + 1 : Nat) : Int) - 1) = (p : Int) := by rw [show ((p + 1 : Nat) : Int) - 1 = p by omega]; exact IntWalk.i64_in _ (by omega)
      have hp2 : (0 : Int) ≤ (p : Int) := by omega
      have hp3 : (p : Int) < (r : Int) := by omega
      have hp4 : ((p : Int) + 1).toNat = p + 1 := by omega
      have hr5 := HR.out
      have hw0 : IntKind.i64.wrap ((p : Int) + 1 - 1) = (p : Int) := by rw [show (p : Int) + 1 - 1 = p by omega]; exact IntWalk.i64_in _ (by omega)
      have hw2 : IntKind.i64.wrap (p : Int) = (p : Int) := IntWalk.i64_in _ (by omega)
      have hkb : (kk : Int) < (I.length : Int) := by omega
      have hkb0 : (0 : Int) ≤ (kk : Int) := by omega
      have HKB := Lib.hid (show kk < dk.length by rw [HDS.out]; omega)
      obtain ⟨u, hu⟩ : ∃ u, dk[m + 1 + (p + 1)]? = some u := ⟨_, List.getElem?_eq_getElem (by rw [HDS.out]; omega)⟩
      obtain ⟨v, hv⟩ : ∃ v, dk[m + 1 + p]? = some v := ⟨_, List.getElem?_eq_getElem (by rw [HDS.out]; omega)⟩
      have HU := Lib.hid (show I.toArray[m + 1 + (p + 1)]! = u from by
       have := HCI.out.high (m + 1 + (p + 1)) (by omega)
       rw [← this, getElem!_pos dk.toArray _ (by simpa using (List.getElem?_eq_some_iff.1 hu).1)]
       simpa using (List.getElem?_eq_some_iff.1 hu).2)
      have HV := Lib.hid (show I.toArray[m + 1 + p]! = v from by
       have := HCI.out.high (m + 1 + p) (by omega)
       rw [← this, getElem!_pos dk.toArray _ (by simpa using (List.getElem?_eq_some_iff.1 hv).1)]
       simpa using (List.getElem?_eq_some_iff.1 hv).2)
      have HUL := Lib.hid (HO.out.len u (List.mem_of_getElem? hu))
      have HVL := Lib.hid (HO.out.len v (List.mem_of_getElem? hv))
      have HOD := Lib.hid (HO.out.below (Below.refl _ wr).drew)
      have HCU := Lib.hid (show ∀ j z, (idC u)[j]? = some z → wr.drew.cell? ((⟨g, (m + 1) * 32 + (p + 1) * 32, none⟩ : Addr).add j) = some z from by
       rw [← Nat.add_mul]; exact HOD.out.at_ _ u hu)
      have HCV := Lib.hid (show ∀ j z, (idC v)[j]? = some z → wr.drew.cell? ((⟨g, (m + 1) * 32 + p * 32, none⟩ : Addr).add j) = some z from by
       rw [← Nat.add_mul]; exact HOD.out.at_ _ v hv)
      have HEQ := Lib.hid (fun W => eq_id u v HUL.out HVL.out W)
      clear hu hv hr5 HO
      by_cases huv : u = v
      ·
       subst huv
       have heq : ∀ W, (Op.equalIn 10000 46 (.agg (idC u).toArray) (.agg (idC u).toArray)).run Tryz.prog W = .ok true W := fun W => by rw [HEQ.out W, decide_eq_true rfl]
       have HNEG := Lib.hid (Lib.keeps_neg (d := I.toArray) (m := m + 1 + (p + 1)) (by omega) (by rw [HU.out, show m + 1 + (p + 1) - 1 = m + 1 + p by omega, HV.out]))
       go_wp2_with fail
       refine rgn_still (by kernel_rfl) (by kernel_rfl) ?_
       repeat still_step
       (with_reducible apply still_id (hc := HCU.out) (hl := HUL.out))
       rfl
       rfl
       rfl
       repeat still_step
       (with_reducible apply still_id (hc := HCV.out) (hl := HVL.out))
       rfl
       rfl
       rfl
       repeat still_step
       refine wpStill_nil ?_
       clear heq HCU HCV hw0 hw1 hw2
       go_wp2_with fail
       go_roundw
       case rel => exact ⟨kk, p + 1, dk, rfl, by go_num, by have := HP.out; omega, HCI.out.skip HNEG.out, HOD.out, HG.out.trans ⟨rfl, rfl, rfl, Nat.le_refl _, fun _ _ _ => rfl⟩⟩
       case measure => have := HP.out; simp [intOf]; omega
      ·
       have heq : ∀ W, (Op.equalIn 10000 46 (.agg (idC u).toArray) (.agg (idC v).toArray)).run Tryz.prog W = .ok false W := fun W => by rw [HEQ.out W, decide_eq_false huv]
       have HPOS := Lib.hid (Lib.keeps_pos (d := I.toArray) (m := m + 1 + (p + 1)) (by rw [HU.out, show m + 1 + (p + 1) - 1 = m + 1 + p by omega, HV.out]; exact huv))
       have HML := Lib.hid (show m + 1 + (p + 1) < I.toArray.size by have := HR.out; simp; omega)
       go_wp2_with fail
       refine rgn_still (by kernel_rfl) (by kernel_rfl) ?_
       repeat still_step
       (with_reducible apply still_id (hc := HCU.out) (hl := HUL.out))
       rfl
       rfl
       rfl
       repeat still_step
       (with_reducible apply still_id (hc := HCV.out) (hl := HVL.out))
       rfl
       rfl
       rfl
       repeat still_step
       refine wpStill_nil ?_
       clear heq hw0 hw1 hw2
       go_wp2_with (first
        | ((with_reducible refine ld_id (l := u) (x := .tmp 49) ?_ ?_ ?_ HCU.out HUL.out ?_); rfl; rfl; rfl)
        | ((with_reducible refine st_own (x := .tmp 51) (y := .tmp 50) ?_ ?_ ?_ ?_ HOD.out HKB.out HUL.out (fun w3 HO3 HG3 => ?_)); rfl; rfl; rfl; rfl))
       go_roundw
       case rel =>
        refine ⟨kk + 1, p + 1, dk.set kk u, by go_num, by go_num, by have := HP.out; omega, Lib.hid ?_, HO3.out, HG.out.trans (World.grownBy.trans (b := wr.drew) ⟨rfl, rfl, rfl, Nat.le_refl _, fun _ _ _ => rfl⟩ HG3.out)⟩
        have := HCI.out.keep HML.out HPOS.out
        rw [HU.out] at this
        rw [show m + 1 + (p + 1 + 1) = m + 1 + (p + 1) + 1 by omega]
        simpa using this
       case measure => have := HP.out; simp [intOf]; omega
     ·
      have hpe : p + 1 = r := by omega
      have hkr := HR.out
      have hlt3 : ¬ (p : Int) + 1 < (r : Int) := by omega
      have hlt4 : ¬ ((p + 1 : Nat) : Int) < (r : Int) := by omega
      have hkc0 : (0 : Int) ≤ (kk : Int) := by omega
      have hkc1 : (kk : Int) ≤ (I.length : Int) := by omega
      have hkc2 : (kk : Int) ≤ (cap : Int) := by omega
      have hkc3 : ¬ cap = kk := by omega
      rw [← HDS.out] at HO
      obtain ⟨w2, hcl, hO2, hG2⟩ := clear_ids (w := wr) HO.out (k := kk) (by rw [HDS.out]; omega) (cap - kk)
      rw [HDS.out] at hcl
      have HO2 := Lib.hid hO2
      have HG2 := Lib.hid (HG.out.trans hG2)
      have HDONE := Lib.hid (show Lib.compact I = dk.take kk ∧ (Lib.compact I).length = kk from by
       have hI := HCI.out
       rw [show m + 1 + (p + 1) = I.toArray.size by simp; omega] at hI
       have hl := hI.len
       refine ⟨?_, by unfold Lib.compact; simpa using hl⟩
       unfold Lib.compact
       apply List.ext_getElem?
       intro j
       have hl2 : (Lib.compactUpTo I.toArray I.length).length = kk := by simpa using hl
       by_cases hj : j < kk
       ·
        have h6 := hI.low j hj
        have h7 : j < dk.length := by rw [HDS.out]; omega
        rw [List.getElem?_take_of_lt hj, List.getElem?_eq_getElem h7]
        have h8 : dk.toArray[j]! = dk[j] := by rw [getElem!_pos dk.toArray j (by simpa using h7)]; simp
        rw [h8] at h6
        simpa using h6
       · rw [List.getElem?_take_eq_none (by omega), List.getElem?_eq_none (by omega)])
      clear hO2 hG2 HCI HO HG hpe hkr
      go_wp2_with fail
      go_ret
      rw [HDONE.out.2, HDONE.out.1]
      exact ⟨rfl, HO2.out, HG2.out⟩
   ·
    have heq : ∀ W, (Op.equalIn 10000 46 (.agg (idC x).toArray) (.agg (idC y).toArray)).run Tryz.prog W = .ok false W := fun W => by rw [HEQ.out W, decide_eq_false hdup]
    have HPOS := Lib.hid (Lib.keeps_pos (d := I.toArray) (m := m + 1) (by rw [HXY.out.1, Nat.add_sub_cancel, HXY.out.2]; exact hdup))
    go_wp2_with fail
    refine rgn_still (by kernel_rfl) (by kernel_rfl) ?_
    repeat still_step
    (with_reducible apply still_id (hc := HCX.out) (hl := HXL.out))
    rfl
    rfl
    rfl
    repeat still_step
    (with_reducible apply still_id (hc := HCY.out) (hl := HYL.out))
    rfl
    rfl
    rfl
    repeat still_step
    refine wpStill_nil ?_
    clear heq HCX HCY hw0 hw1 hw2
    go_wp2_with fail
    go_roundw
    case rel =>
     refine ⟨m + 1 + 1, q + 1, by omega, by omega, by go_num, rfl, fun j hj => ?_⟩
     by_cases e : j = m + 1
     · subst e; exact HPOS.out
     · exact HK.out j (by omega)
    case measure => simp [intOf]; omega
  ·
   have hlt' : ¬ (k : Int) < (I.length : Int) := by omega
   have hke : k = I.length := by omega
   subst hke
   have HEC := Lib.hid (show Lib.compact I = I from Lib.compact_all I HK.out)
   go_wp2_with fail
   go_ret
   rw [HEC.out]
   exact ⟨rfl, own_drewN HH.out q, ⟨rfl, rfl, rfl, Nat.le_refl _, fun _ _ _ => rfl⟩⟩
end Go.Proofs.YtkcjhkfelaplkaaGreatDoor
end
section
namespace Go.Proofs.YtkcjhkfelaplkaaGreatDoor
open Go.RowKit
theorem dpcompact_any (w : World) (base : Nat) (v : Value) (I : List (List UInt8)) (h : OwnI w base v I) (hn : I.length ≤ 100000) :
  Calls Tryz.prog 74 #[v] w fun r w' => ∃ v', r = .returned v' ∧ OwnI w' base v' (Lib.compact I) ∧ w.grownBy w' v.ownBlock := by
 by_cases h2 : I.length < 2
 ·
  have he : Lib.compact I = I := Lib.compact_all I fun j hj => by
   have : j = 0 := by omega
   subst this
   exact Lib.keeps_lt_one _ 0 (by omega)
  obtain ⟨ao, cap, rfl⟩ := h.rows.form
  refine (compact_few w ao _ cap (by simpa using h2)).mono ?_
  rintro r w' ⟨rfl, rfl⟩
  exact ⟨_, rfl, by rw [he]; exact h, World.grownBy.refl _ _⟩
 ·
  obtain ⟨g, cap, rfl, hb, hlt⟩ := h.own.form (by omega)
  refine (compact_own w base g cap I h hn (by omega)).mono ?_
  rintro r w' ⟨rfl, h1, h3⟩
  exact ⟨_, rfl, h1, h3⟩
def NextP (O S D : List (List UInt8)) (w : World) (r : Ending) (w' : World) : Prop :=
 ∃ v' R, r = .returned v' ∧ IdsAt w' v' R ∧ Gr.Up R ∧ (∀ x, x ∈ R ↔ x ∈ S ∨ (x ∈ O ∧ x ∉ D)) ∧ (∀ x ∈ R, x.length = 32) ∧ R.length ≤ S.length + O.length ∧ Below w.heap.size w w'
theorem compact_len (I : List (List UInt8)) : (Lib.compact I).length ≤ I.length := by
 unfold Lib.compact Lib.compactUpTo
 rw [List.length_map]
 refine Nat.le_trans (List.length_filter_le _ _) ?_
 simp
theorem dpnext_any (w : World) (ov sv dv : Value) (O S D : List (List UInt8)) (hO : IdsAt w ov O) (hS : IdsAt w sv S) (hD : IdsAt w dv D) (lO : ∀ i ∈ O, i.length = 32) (lS : ∀ i ∈ S, i.length = 32) (lD : ∀ i ∈ D, i.length = 32)
  (nO : O.length ≤ 500) (nS : S.length ≤ 500) (nD : D.length ≤ 500) :
  Calls Tryz.prog 37 #[ov, sv, dv] w (NextP O S D w) := by
 unfold NextP
 obtain ⟨oo, oc, rfl⟩ : ∃ ao cap, ov = .slice ao O.length cap := by simpa using RowsAt.form hO
 have HO := Lib.hid hO
 have HS := Lib.hid hS
 have HOL := Lib.hid lO
 have HSL := Lib.hid lS
 have HSET := Lib.hid (dpset_any w dv D hD lD (by omega))
 clear hO hS hD lO lS lD
 go_enter Tryz.func37, Tryz.ntmps37
 go_wp2_with fail
 with_reducible refine HSET.out.mono ?_
 rintro r w1 ⟨b, n, SD, rfl, hI1, hm1, hb1, hn1, hB1⟩
 have HI1 := Lib.hid hI1
 have HM1 := Lib.hid hm1
 have HB1 := Lib.hid hB1
 have hsz1 := hB1.size
 have hbl := hI1.lt
 have HCL := Lib.hid (cloneI_any sv S w1 (HS.out.below hB1) HSL.out (by omega))
 clear hI1 hm1 hB1 HSET
 go_wp2_with fail
 with_reducible refine HCL.out.mono ?_
 rintro r w2 ⟨nv, rfl, hO2, hB2⟩
 have HO2 := Lib.hid hO2
 have HI2 := Lib.hid (HI1.out.below hB2)
 have HB2 := Lib.hid (HB1.out.trans (hB2.mono hsz1))
 have HWK := Lib.hid (show w1.heap.size ≤ w2.heap.size from hB2.size)
 have HBL := Lib.hid hbl
 have HWS := Lib.hid hsz1
 clear hO2 hB2 HCL HI1
 clear hsz1 hbl
 generalize w1.heap.size = wk at *
 go_wp2_with fail
 go_loopw [8, 17] (fun nv i wr => ∃ (k : Nat) (N : List (List UInt8)), k ≤ O.length ∧ i = .int .i64 k ∧ Hid (N.length ≤ S.length + k) ∧ Hid (∀ x, x ∈ N ↔ x ∈ S ∨ (x ∈ O.take k ∧ x ∉ D)) ∧ Hid (OwnI wr wk nv N) ∧ Hid (Ids wr b n SD) ∧ Hid (wk ≤ wr.heap.size) ∧ Hid (Below w.heap.size w wr)) (fun _ i _ => O.length - (intOf i).toNat)
 case atStart => exact ⟨0, S, by omega, rfl, Nat.le_refl _, fun x => by simp, HO2.out, HI2.out, HWK, HB2.out⟩
 case round =>
  obtain ⟨k, N, hk, rfl, HNL, HNM, HON, HIS, HWR, HB⟩ := hrel
  by_cases hlt : k < O.length
  ·
   have hlt' : (k : Int) < (O.length : Int) := by omega
   have hk0 : (0 : Int) ≤ (k : Int) := by omega
   obtain ⟨id, hi⟩ : ∃ id, O[k]? = some id := ⟨O[k], List.getElem?_eq_getElem hlt⟩
   have HID := Lib.hid (HOL.out id (List.mem_of_getElem? hi))
   obtain ⟨a, rfl, _, hc⟩ := (HO.out.below HB.out).elem k (idC id) (by rw [List.getElem?_map, hi]; rfl)
   have HC := Lib.hid hc
   have HTK := Lib.hid (show O.take (k + 1) = O.take k ++ [id] by rw [List.take_succ_eq_append_getElem hlt]; rw [List.getElem?_eq_getElem hlt] at hi; injection hi with e; rw [e])
   have HR := Lib.hid (row_news (heap_alloc_new wr (.cells (idC id).toArray 46)))
   have HHS := Lib.hid (dphas_any (wr.alloc (.cells (idC id).toArray 46)) b n SD id (HIS.out.alloc _) HID.out)
   have HBA := Lib.hid (below_new wr (.cells (idC id).toArray 46))
   have hrs := HB.out.size
   clear hc hi
   by_cases hin : id ∈ SD
   ·
    rw [decide_eq_true hin] at HHS
    have hind : id ∈ D := (HM1.out id).1 hin
    have HND := Lib.hid hind
    clear hin hind
    go_wp2_with (first
     | ((with_reducible refine ld_id (x := .tmp 19) ?_ ?_ ?_ HC.out HID.out ?_); rfl; rfl; rfl)
     | ((with_reducible apply st_id (hl := HID.out)); rfl; rfl; rfl; rfl; rfl)
     | ((with_reducible refine ld_id (x := .tmp 10) (p := ⟨wr.heap.size, 0, none⟩) ?_ ?_ ?_ HR.out HID.out ?_); rfl; rfl; rfl))
    with_reducible refine HHS.out.mono ?_
    rintro r w3 ⟨rfl, hb3⟩
    have hbb : Below wr.heap.size wr w3 := HBA.out.trans (hb3.mono HBA.out.size)
    have HON3 := Lib.hid (HON.out.below hbb)
    have HIS3 := Lib.hid (HIS.out.below hbb)
    have HB3 := Lib.hid (HB.out.trans (hbb.mono hrs))
    have HWR3 := Lib.hid (Nat.le_trans HWR.out hbb.size)
    clear hb3 hbb HHS
    go_wp2_with fail
    go_roundw
    case rel =>
     refine ⟨k + 1, N, by omega, by go_num, by have := HNL.out; exact Lib.hid (by omega), Lib.hid fun x => ?_, HON3, HIS3, HWR3, HB3⟩
     rw [HTK.out, List.mem_append, List.mem_singleton, HNM.out x]
     constructor
     ·
      rintro (h | ⟨h1, h2⟩)
      · exact .inl h
      · exact .inr ⟨.inl h1, h2⟩
     ·
      rintro (h | ⟨h1 | h1, h2⟩)
      · exact .inl h
      · exact .inr ⟨h1, h2⟩
      · subst h1; exact absurd HND.out h2
    case measure => simp [intOf]; omega
   ·
    rw [decide_eq_false hin] at HHS
    have hind : id ∉ D := fun h => hin ((HM1.out id).2 h)
    have HND := Lib.hid hind
    clear hin hind
    go_wp2_with (first
     | ((with_reducible refine ld_id (x := .tmp 19) ?_ ?_ ?_ HC.out HID.out ?_); rfl; rfl; rfl)
     | ((with_reducible apply st_id (hl := HID.out)); rfl; rfl; rfl; rfl; rfl)
     | ((with_reducible refine ld_id (x := .tmp 10) (p := ⟨wr.heap.size, 0, none⟩) ?_ ?_ ?_ HR.out HID.out ?_); rfl; rfl; rfl))
    with_reducible refine HHS.out.mono ?_
    rintro r w3 ⟨rfl, hb3⟩
    have hbb : Below wr.heap.size wr w3 := HBA.out.trans (hb3.mono HBA.out.size)
    have HR3 := Lib.hid (show ∀ j u, (idC id)[j]? = some u → w3.cell? ((⟨wr.heap.size, 0, none⟩ : Addr).add j) = some u from fun j u hu => by
     have h1 := HR.out j u hu
     rw [hb3.cell (World.block_lt_of_cell? _ _ h1)]; exact h1)
    have HON3 := Lib.hid (HON.out.below hbb)
    have HIS3 := Lib.hid (HIS.out.below hbb)
    have HB3 := Lib.hid (HB.out.trans (hbb.mono hrs))
    have hwk3 : wk ≤ w3.heap.size := Nat.le_trans HWR.out hbb.size
    clear hb3 hbb HHS
    have hlen : N.length ≤ 2000 := by have := HNL.out; omega
    go_wp2_with (first
     | ((with_reducible refine ld_id (l := id) (x := .tmp 10) (p := ⟨wr.heap.size, 0, none⟩) ?_ ?_ ?_ HR3.out HID.out ?_); rfl; rfl; rfl)
     | ((with_reducible refine bs_id2 (l := id) (x := .tmp 26) ?_ ?_ ?_ HID.out ?_); rfl; rfl; rfl)
     | ((with_reducible refine ap_id (id := id) (.tmp 25) (.tmp 27) ?_ ?_ ?_ ?_ HON3.out hwk3 HID.out hlen ?_); rfl; rfl; rfl; rfl; intro v5 w5 HO5 HG5))
    have HIS5 := Lib.hid ((HIS3.out.alloc _).kept HG5.out (fun e => by have h1 := (HON3.out.own.lt b e.symm).1; have h2 := HBL.out; omega))
    have HB5 := Lib.hid ((HB3.out.alloc (by have := HWS.out; omega) _).grown HG5.out (by have := HWS.out; simp; omega) (fun q hq => by have h1 := (HON3.out.own.lt q hq).1; have := HWS.out; omega))
    have HWR5 := Lib.hid (show wk ≤ w5.heap.size from by have := HG5.out.size; simp at this; omega)
    clear hwk3 hlen HG5
    go_roundw
    case rel =>
     refine ⟨k + 1, N ++ [id], by omega, by go_num, by have := HNL.out; exact Lib.hid (by simp; omega), Lib.hid fun x => ?_, HO5, HIS5, HWR5, HB5⟩
     rw [HTK.out, List.mem_append, List.mem_append, List.mem_singleton, HNM.out x]
     constructor
     ·
      rintro ((h | ⟨h1, h2⟩) | h)
      · exact .inl h
      · exact .inr ⟨.inl h1, h2⟩
      · subst h; exact .inr ⟨.inr rfl, HND.out⟩
     ·
      rintro (h | ⟨h1 | h1, h2⟩)
      · exact .inl (.inl h)
      · exact .inl (.inr ⟨h1, h2⟩)
      · exact .inr h1
    case measure => simp [intOf]; omega
  ·
   have hlt' : ¬ (k : Int) < (O.length : Int) := by omega
   have hke : k = O.length := by omega
   subst hke
   have HSO := Lib.hid (dpsort_any wr wk _ N HON.out (by have := HNL.out; omega))
   go_wp2_with fail
   with_reducible refine HSO.out.mono ?_
   rintro r w3 ⟨rfl, N', hperm, hsorted, hO3, hg3⟩
   have HPE := Lib.hid hperm
   have HST := Lib.hid hsorted
   have HO3 := Lib.hid hO3
   have HB3 := Lib.hid (HB.out.grown hg3 (by have h1 := HWR.out; have := HWS.out; omega) (fun q hq => by have h1 := (HON.out.own.lt q hq).1; have := HWS.out; omega))
   have hz3 := hg3.size
   have HCO := Lib.hid (dpcompact_any w3 wk _ N' hO3 (by rw [hperm.length_eq]; have := HNL.out; omega))
   clear hperm hsorted hO3 hg3 HSO
   go_wp2_with fail
   with_reducible refine HCO.out.mono ?_
   rintro r w4 ⟨v', rfl, hO4, hg4⟩
   have HO4 := Lib.hid hO4
   have HB4 := Lib.hid (HB3.out.grown hg4 (by have h1 := HWR.out; have := HWS.out; omega) (fun q hq => by have h1 := (HO3.out.own.lt q hq).1; have := HWS.out; omega))
   clear hO4 hg4 HCO
   go_wp2_with fail
   go_ret
   obtain ⟨hup, hmem⟩ := dp_compact N' HO3.out.len HST.out
   refine ⟨_, _, rfl, HO4.out.rows, hup, fun x => ?_, HO4.out.len, ?_, HB4.out⟩
   · rw [hmem x, HPE.out.mem_iff, HNM.out x, List.take_length]
   ·
    have h1 := compact_len N'
    rw [HPE.out.length_eq] at h1
    have := HNL.out
    omega
end Go.Proofs.YtkcjhkfelaplkaaGreatDoor
end
