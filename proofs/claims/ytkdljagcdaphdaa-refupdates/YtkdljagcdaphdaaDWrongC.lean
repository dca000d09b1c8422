/-
  WALKS OF LAYER 9: the document's Wrong, an update that makes a ref.
-/
import Derived.Test.YtkdljagcdaphdaaDWrong
namespace Go.Proofs.Ytkdljagcdaphdaa
open Go.RowKit
set_option linter.unusedVariables false
set_option linter.unusedSimpArgs false

set_option maxHeartbeats 1000000 in
set_option maxRecDepth 100000 in
theorem refwrong_c (v uv : Value) (L : List Rf.R) (us : List Rf.U) (i : Nat) (u : Rf.U) (w : World) (hi : us[i]? = some u) (hL : RefsAt w v L) (hs : Rf.Srt L) (hl : L.length ≤ 64) (hU : UpsAt w uv us) (hul : us.length ≤ 64) (hui : ∀ u ∈ us, u.old.length = 32 ∧ u.new.length = 32 ∧ u.name.size ≤ 1000) (hnm : Rf.nameOk u.name = true) (ho0 : decide (u.old = Rf.zid) = true) (hn0 : decide (u.new = Rf.zid) = false) :
    Calls Try.prog 38 #[v, uv, .int .i64 i] w fun r w' => r = .returned (.int .i64 (Rf.wrong L (namesOf us i) u : Nat)) ∧ Below w.heap.size w w' := by
  obtain ⟨ao, cap, rfl⟩ := hL.form
  obtain ⟨uo, ucap, rfl⟩ := hU.form
  obtain ⟨hu1, hu2, hu3⟩ := hui u (List.mem_of_getElem? hi)
  have hil : i < us.length := (List.getElem?_eq_some_iff.1 hi).1
  have hil' : (i : Int) < (us.length : Int) := by omega
  have hi0 : (0 : Int) ≤ (i : Int) := by omega
  obtain ⟨a, rfl, _, hc⟩ := hU.elem i u hi
  have HB1 := Lib.hid (below_new w (.cells (idC Rf.zid).toArray 35))
  have HG1 := Lib.hid (row_cells (heap_alloc_new w (.cells (idC Rf.zid).toArray 35)))
  have HUE := Lib.hid (show ∀ W, Below w.heap.size w W → ∀ k x, us[k]? = some x → ∀ j y, (upC x)[j]? = some y → W.cell? ((a.add (k * 65)).add j) = some y from fun W hb k x hx => by
    obtain ⟨a', e', _, h'⟩ := (hU.below hb).elem k x hx
    cases e'
    exact h')
  have c0 := up_nm (HUE.out _ HB1.out i u hi)
  have HI := Lib.hid hi
  have HL := Lib.hid hL
  have HS := Lib.hid hs
  have HID := Lib.hid hL.len
  have H1 := Lib.hid hu1
  have H2 := Lib.hid hu2
  have HZL := Lib.hid (show Rf.zid.length = 32 from rfl)
  have HNM := Lib.hid (fun W => refname_any u.name W (by unfold maxLen; omega))
  have HUI := Lib.hid (show Try.prog.underlying 35 = _ from Try.underlying35)
  have HIO := Lib.hid (idsize hu1)
  have HIN := Lib.hid (idsize hu2)
  have HIZ := Lib.hid (idsize (l := Rf.zid) rfl)
  have hA1 := add_block a (i * 65)
  have hA2 := add_off a (i * 65)
  have HWR := Lib.hid (show Rf.wrong L (namesOf us i) u = if (Rf.nameOk u.name = false ∨ (u.old = Rf.zid ∧ u.new = Rf.zid)) ∨ Rf.hasN (namesOf us i) u.name = true then 8 else if (Rf.find L u.name).getD Rf.zid ≠ u.old then 10 else if Rf.find L u.name = none ∧ L.length = 64 then 3 else 0 from rfl)
  generalize Rf.wrong L (namesOf us i) u = Z at HWR
  have hq1 := fun W => eq_id u.old Rf.zid hu1 rfl W
  have hq2 := fun W => eq_id u.new Rf.zid hu2 rfl W
  have HD1 := Lib.hid (show decide (u.old = Rf.zid) = true from ho0)
  have HD2 := Lib.hid (show decide (u.new = Rf.zid) = false from hn0)
  rw [ho0] at hq1
  rw [hn0] at hq2
  clear hc hL hU hui hi hs hu1 hu2 ho0 hn0
  rw [hnm] at HNM HWR
  have HNZ := Lib.hid (show ¬ (u.old = Rf.zid ∧ u.new = Rf.zid) from fun ⟨e1, e2⟩ => by
    have d2 := HD2.out
    rw [e2] at d2
    simp at d2)
  have HWR2 := Lib.hid (show Z = if Rf.hasN (namesOf us i) u.name = true then 8 else if (Rf.find L u.name).getD Rf.zid ≠ u.old then 10 else if Rf.find L u.name = none ∧ L.length = 64 then 3 else 0 by
    rw [HWR.out, wrong_rest (by rintro (h | h); cases h; exact HNZ.out h)])
  clear hnm HWR
  go_enter Try.func38, Try.ntmps38
  go_wp2_with (first
    | ((with_reducible refine bd_zid ?_ ?_ ?_); rfl; rfl)
    | ((with_reducible apply st_id (l := Rf.zid) (hl := HZL.out)); rfl; rfl; rfl; rfl; rfl))
  refine (HNM.out _).mono ?_
  rintro r wx ⟨rfl, rfl⟩
  have HO := Lib.hid (up_mid (HUE.out _ HB1.out.drew i u HI.out) H1.out)
  have HO1 := Lib.hid HO.out.1
  have HO2 := Lib.hid HO.out.2
  have HZC := Lib.hid (show ∀ j x, (idC Rf.zid)[j]? = some x → (w.alloc (.cells (idC Rf.zid).toArray 35)).drew.cell? ((⟨w.heap.size, 0, none⟩ : Addr).add j) = some x from HG1.out)
  clear HO
  go_wp2_with fail
  refine region_still (by kernel_rfl) (by kernel_rfl) ?_
  repeat still_step
  (with_reducible apply still_ldg (hc := HO1.out) (hu := HUI.out) (hi := HIO.out))
  rfl
  rfl
  kernel_rfl
  rfl
  (with_reducible apply still_ldg (hc := HZC.out) (hu := HUI.out) (hi := HIZ.out))
  rfl
  rfl
  kernel_rfl
  rfl
  repeat still_step
  (with_reducible apply still_ldg (hc := HO2.out) (hu := HUI.out) (hi := HIN.out))
  rfl
  rfl
  kernel_rfl
  rfl
  (with_reducible apply still_ldg (hc := HZC.out) (hu := HUI.out) (hi := HIZ.out))
  rfl
  rfl
  kernel_rfl
  rfl
  repeat still_step
  refine wpStill_nil ?_
  clear HO1 HO2 HZC hq1 hq2 c0
  go_wp2_with fail
  go_loopw [9] (fun k wr => ∃ n : Nat, n ≤ i ∧ k = .int .i64 n ∧ Hid (Rf.hasN (namesOf us n) u.name = false) ∧ Below w.heap.size w wr) (fun k _ => i - (intOf k).toNat)
  case atStart => exact ⟨0, by omega, rfl, rfl, HB1.out.drew⟩
  case round =>
    obtain ⟨k, hk, rfl, HH, hb⟩ := hrel
    have c2 := up_nm (HUE.out _ hb i u HI.out)
    by_cases hlt : k < i
    · have hlt' : (k : Int) < (i : Int) := by omega
      have hk0 : (0 : Int) ≤ (k : Int) := by omega
      have hkl : (k : Int) < (us.length : Int) := by omega
      obtain ⟨x, hx⟩ : ∃ x, us[k]? = some x := ⟨us[k], List.getElem?_eq_getElem (by omega)⟩
      have c1 := up_nm (HUE.out _ hb k x hx)
      have HQ := Lib.hid (Rf.beq_iff x.name u.name)
      have HST := Lib.hid (has_step hx u.name)
      have HUPP := Lib.hid (has_up hx hlt)
      clear hx
      by_cases hn : x.name = u.name
      · have HZ := Lib.hid (show Z = 8 by rw [HWR2.out, if_pos (by rw [← hn]; exact HUPP.out)])
        have hq : (x.name.toList == u.name.toList) = true := by rw [HQ.out]; simpa using hn
        clear hn
        go_wp2_with fail
        go_quiet (fail)
        go_wp2_with fail
        go_ret
        exact ⟨by rw [HZ.out]; rfl, bel_drewN hb _⟩
      · have HH2 := Lib.hid (show Rf.hasN (namesOf us (k + 1)) u.name = false by rw [HST.out, HH.out]; simpa using hn)
        have hq : (x.name.toList == u.name.toList) = false := by rw [HQ.out]; simpa using hn
        clear hn
        go_wp2_with fail
        go_quiet (fail)
        go_wp2_with fail
        go_roundw
        case rel => exact ⟨k + 1, by omega, by go_num, HH2, bel_drewN hb _⟩
        case measure => simp [intOf]; omega
    · obtain rfl : i = k := by omega
      have HWR3 := Lib.hid (show Z = if (Rf.find L u.name).getD Rf.zid ≠ u.old then 10 else if Rf.find L u.name = none ∧ L.length = 64 then 3 else 0 by rw [HWR2.out, if_neg (by rw [HH.out]; simp)])
      have HFD := Lib.hid (reffind_any _ L u.name wr (HL.out.below hb) (by unfold maxLen; omega))
      rw [findV_eq] at HFD
      have HFL := Lib.hid (find_len (n := u.name) HID.out)
      have HLN := Lib.hid (fun hf => wrong_len (u := u) HS.out hl HNZ.out hf)
      generalize (Rf.find L u.name).getD Rf.zid = fid at HWR3 HFD HFL HLN
      have hlt2 : ¬ (i : Int) < (i : Int) := by omega
      clear HWR2 HH
      go_wp2_with fail
      refine HFD.out.mono ?_
      rintro r w2 ⟨rfl, hb2⟩
      have hb02 := below_step hb hb2
      clear HFD hb2 hb c2
      have HB3 := Lib.hid (below_step hb02 (below_new w2 (.cells (idC fid).toArray 35)))
      have HG3 := Lib.hid (row_cells (heap_alloc_new w2 (.cells (idC fid).toArray 35)))
      go_wp2_with ((with_reducible apply st_id (l := fid) (hl := HFL.out)); rfl; rfl; rfl; rfl; rfl)
      have HF3 := Lib.hid (show ∀ j x, (idC fid)[j]? = some x → (w2.alloc (.cells (idC fid).toArray 35)).drew.cell? ((⟨w2.heap.size, 0, none⟩ : Addr).add j) = some x from HG3.out)
      have HU3 := Lib.hid (up_mid (HUE.out _ HB3.out.drew i u HI.out) H1.out).1
      have HIF := Lib.hid (idsize HFL.out)
      have hq3 := fun W => eq_id fid u.old HFL.out H1.out W
      generalize hd3 : decide (fid = u.old) = b3 at hq3
      have HD3 := Lib.hid hd3
      clear hd3 HG3
      refine region_still (by kernel_rfl) (by kernel_rfl) ?_
      (with_reducible apply still_ld (hc := HF3.out) (hu := HUI.out) (hi := HIF.out))
      rfl
      rfl
      rfl
      rfl
      repeat still_step
      (with_reducible apply still_ld (hc := HU3.out) (hu := HUI.out) (hi := HIO.out))
      rfl
      rfl
      rfl
      rfl
      repeat still_step
      refine wpStill_nil ?_
      cases b3 with
      | false =>
        have HZ := Lib.hid (show Z = 10 by rw [HWR3.out, if_pos (by simpa using HD3.out)])
        go_wp2_with fail
        go_ret
        exact ⟨by rw [HZ.out]; rfl, HB3.out.drew⟩
      | true =>
        have HEQ := Lib.hid (show fid = u.old by simpa using HD3.out)
        have HLN2 := Lib.hid (HLN.out HEQ.out)
        have HWR4 := Lib.hid (show Z = if Rf.find L u.name = none ∧ L.length = 64 then 3 else 0 by rw [HWR3.out, if_neg (by simpa using HEQ.out)])
        clear HLN HWR3
        have HB4 := Lib.hid HB3.out.drew
        clear HF3 HU3 HB3
        generalize (w2.alloc (.cells (idC fid).toArray 35)).drew = w4 at *
        have c4 := up_nm (HUE.out _ HB4.out.drew i u HI.out)
        have HU4 := Lib.hid (up_mid (HUE.out _ HB4.out.drew i u HI.out) H1.out).2
        have HST := Lib.hid (refset_any _ L u.name u.new w4.drew (HL.out.below HB4.out.drew) (by omega) H2.out)
        go_wp2_with fail
        refine region_tail 11 (by kernel_rfl) (by kernel_rfl) ?_
        simp only [List.take_succ_cons, List.take_zero, List.drop_succ_cons, List.drop_zero]
        repeat still_step
        (with_reducible apply still_ld (hc := HU4.out) (hu := HUI.out) (hi := HIN.out))
        rfl
        rfl
        rfl
        rfl
        refine wpStill_nil ?_
        go_wp2_with fail
        refine HST.out.mono ?_
        rintro r w5 ⟨v5, rfl, _, hr5, hb5⟩
        obtain ⟨ao5, cap5, rfl⟩ := hr5.form
        have hb05 := below_step HB4.out.drew hb5
        clear hr5 hb5 HST
        generalize (Rf.setD (decide (u.new = Rf.zid)) L u.name u.new).length = M at HLN2 ⊢
        by_cases h64 : 64 < M
        · have g1 : (64 : Int) < (M : Int) := by omega
          have HZ := Lib.hid (show Z = 3 by rw [HWR4.out, if_pos (HLN2.out.1 h64)])
          clear h64
          go_wp2_with fail
          go_ret
          exact ⟨by rw [HZ.out]; rfl, hb05⟩
        · have g1 : ¬ (64 : Int) < (M : Int) := by omega
          have HZ := Lib.hid (show Z = 0 by rw [HWR4.out, if_neg (fun h => h64 (HLN2.out.2 h))])
          clear h64
          go_wp2_with fail
          go_ret
          exact ⟨by rw [HZ.out]; rfl, hb05⟩

end Go.Proofs.Ytkdljagcdaphdaa
