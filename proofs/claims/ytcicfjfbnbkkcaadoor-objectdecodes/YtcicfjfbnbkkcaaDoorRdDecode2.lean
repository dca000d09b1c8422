/-
  WALKS OF LAYER 4: Decode, its second half.
-/
import Derived.Test.YtcicfjfbnbkkcaaDoorRdDecode
namespace Go.Proofs.YtcicfjfbnbkkcaaDoor
open Go.RowKit
set_option linter.unusedVariables false
set_option linter.unusedSimpArgs false

set_option maxHeartbeats 1000000 in
set_option maxRecDepth 100000 in
theorem decode_A (fn : Nat) (hfn : fn = 28 ∨ fn = 29 ∨ fn = 30 ∨ fn = 31) (s : ByteArray) (w : World) (hs : s.size ≤ 4096) (h : Rm.bdR s.data.toList = ([], false))
    (hm : ∀ W, Calls Tryd.prog 14 #[.int .i64 (Rm.kindV s.data.toList)] W fun r w' => r = .returned (.func (.func fn) #[] #[]) ∧ W = w')
    (hb : ∀ W g, Rl W g (Rm.bdV s.data.toList, false) → Calls Tryd.prog fn #[.pointer (some ⟨g, 0, none⟩)] W (Bdy g (Rm.bodyF (Rm.kindV s.data.toList) (Rm.bdV s.data.toList)) W)) (hok : Rm.okB s.data.toList = false) :
    Calls Tryd.prog 5 #[.string s] w (NoDec w) := by
  have HS := Lib.hid noF.size
  have HO := Lib.hid noF.one
  have hz28 := (zero_of_info zero28).1
  have HBN := Lib.hid built_none
  unfold NoDec
  generalize (obC noOb nilV nilV).toArray = z at HS HO hz28 HBN ⊢
  have h' : ¬ (4096 : Int) < (s.size : Int) := by omega
  have hsl := size_list s
  have hsm : (⟨s.data.toList.toArray⟩ : ByteArray) = s := by simp
  generalize hl : s.data.toList = l at *
  have hll : l.length ≤ 4096 := by omega
  have HSM := Lib.hid hsm
  have HA := Lib.hid h
  have HM := Lib.hid hm
  have HBD := Lib.hid hb
  have HOK := Lib.hid hok
  have HFN := Lib.hid hfn
  clear hfn hl hsl hsm h hm hb hok
  go_enter Tryd.func5, Tryd.ntmps5
  go_wp2_with fail
  have R0 : Rl ((w.alloc (.cells z 29)).alloc (.cells #[.string s, .bool false] 41)) (w.heap.size + 1) (l, false) := by
    unfold Rl; rw [HSM.out]; exact heap_alloc2_new _ _ _
  have E0 := Lib.hid (heap_alloc2_old w (.cells z 29) (.cells #[.string s, .bool false] 41))
  have hB0 := ((Below.refl w.heap.size w).alloc (Nat.le_refl _) (.cells z 29)).alloc (by simp) (.cells #[.string s, .bool false] 41)
  have hk1 := kindR_len false l
  refine (kind_l (w.heap.size + 1) l false _ R0 (by omega)).mono ?_
  rintro r w1 ⟨rfl, R1, g1⟩
  have E1 := Lib.hid (held_grown E0.out g1 (by omega))
  have hB1 := below_own hB0 g1 (by omega)
  have S1 : w.heap.size + 2 ≤ w1.heap.size := by have := g1.size; simp at this; omega
  clear R0 E0 hB0 g1
  go_wp2_with fail
  refine (text_l (w.heap.size + 1) (Rm.kindR false l).1 (Rm.kindR false l).2 _ R1 (by omega)).mono ?_
  rintro r w2 ⟨rfl, R2, g2⟩
  have E2 := Lib.hid (held_grown E1.out g2 (by omega))
  have hB2 := below_own hB1 g2 (by omega)
  have S2 := Nat.le_trans S1 g2.size
  have hkb := kindV_bd l
  have hd : decide (Rm.textR (Rm.kindR false l).2 (Rm.kindR false l).1 = ([], false)) = true := decide_eq_true HA.out
  have HD := Lib.hid hd
  have hqf := bin_fn
  clear R1 E1 hB1 g2 hd S1
  go_wp2_with fail
  refine (HM.out _).mono ?_
  rintro r w3 ⟨rfl, rfl⟩
  go_wp2_with fail
  refine (ended_l (w.heap.size + 1) _ _ R2).mono ?_
  rintro r w3 ⟨rfl, rfl⟩
  rw [HD.out]
  rw [show Rm.textV (Rm.kindR false l).1 = Rm.bdV l from rfl]
  have R3 : Rl (w2.alloc (.cells #[.string ⟨(Rm.bdV l).toArray⟩, .bool false] 41)) w2.heap.size (Rm.bdV l, false) := heap_alloc_last _ _
  have E3 := Lib.hid (held_alloc (o := .cells #[.string ⟨(Rm.bdV l).toArray⟩, .bool false] 41) E2.out)
  have hB3 := hB2.alloc hB2.size (.cells #[.string ⟨(Rm.bdV l).toArray⟩, .bool false] 41)
  clear R2 E2 hB2
  rcases HFN.out with rfl | rfl | rfl | rfl
  all_goals
    go_wp2_with fail
    refine (HBD.out _ w2.heap.size R3).mono ?_
    rintro r w4 ⟨cs, ao, bo, ca, cb, rfl, hO, R4, g4, hnew⟩
    have E4 := Lib.hid (held_grown E3.out g4 (by omega))
    have hB4 := below_own hB3 g4 (by omega)
    have S4 : w2.heap.size + 1 ≤ w4.heap.size := by have := g4.size; simpa using this
    have HCS := Lib.hid hO.F.size
    have HCO := Lib.hid hO.F.one
    have R5 := R4.alloc (.cells cs 29)
    have E5 := Lib.hid (held_alloc (o := .cells cs 29) E4.out)
    have hB5 := hB4.alloc hB4.size (.cells cs 29)
    have K5 := Kp.box w4 cs 29
    have hO5 := hO.below ((Below.refl w4.heap.size w4).alloc (Nat.le_refl _) (.cells cs 29))
    have HFV := Lib.hid (fun W (hW : Below w4.heap.size w4 W) => fieldsValid_any cs _ ao bo ca cb W (hO.below hW))
    clear R3 E3 hB3 g4 R4 E4 hB4
    by_cases hend : (Rm.bodyF (Rm.kindV l) (Rm.bdV l)).2 = ([], false)
    · have hv : validB (Rm.bodyF (Rm.kindV l) (Rm.bdV l)).1 = false := by
        have := HOK.out
        unfold Rm.okB at this
        rw [decide_eq_true hend] at this
        simpa using this
      have HD2 := Lib.hid (decide_eq_true hend)
      rw [hv] at HFV
      clear hend hv
      go_wp2_with (first
        | ((with_reducible apply st_ob (hs := HCS.out) (h1 := HCO.out)); rfl; rfl; rfl; rfl; exact HS.out)
        | (go_at_call 15; refine (ended_l w2.heap.size _ _ R5).mono ?_; rintro r w6 ⟨rfl, rfl⟩; rw [HD2.out])
        | ((fail_if_success (fail_if_success go_guarded)); (with_reducible refine load_ob_g (x := .tmp 9) ?_ ?_ ?_ K5 HCS.out ?_); rfl; rfl; kernel_rfl)
        | (go_at_call 16; refine (HFV.out _ ((Below.refl w4.heap.size w4).alloc (Nat.le_refl _) (.cells cs 29))).mono ?_; rintro r w7 ⟨rfl, hx7⟩; have E7 := Lib.hid ((hx7.block w.heap.size (by simp; omega)).trans E5.out); have K7 := K5.step hx7)
        | ((with_reducible refine bd_obz ?_ ?_ HBN.out ?_); rfl; rfl)
        | ((with_reducible refine st_obr (x := .tmp 2) (y := .tmp 38) ?_ ?_ ?_ ?_ E7.out HS.out HS.out HO.out ?_); rfl; rfl; rfl; rfl))
      refine bodyPost_ret (results_cell_tmp (fn := Tryd.f5) (p := 2) (q := 3) (by rfl) _ _ w.heap.size _ _ _ _ (by rfl) (setRow_heap _ _ _ _ _ _ E7.out) Tryd.underlying29 rfl (obsize HS.out)) rfl ⟨rfl, below_setRow (hB5.trans (hx7.mono hB5.size)) (Nat.le_refl _) _⟩
    · have HD2 := Lib.hid (decide_eq_false hend)
      clear hend
      go_wp2_with (first
        | ((with_reducible apply st_ob (hs := HCS.out) (h1 := HCO.out)); rfl; rfl; rfl; rfl; exact HS.out)
        | (go_at_call 15; refine (ended_l w2.heap.size _ _ R5).mono ?_; rintro r w6 ⟨rfl, rfl⟩; rw [HD2.out])
        | ((with_reducible refine bd_obz ?_ ?_ HBN.out ?_); rfl; rfl)
        | ((with_reducible refine st_obr (x := .tmp 2) (y := .tmp 38) ?_ ?_ ?_ ?_ E5.out HS.out HS.out HO.out ?_); rfl; rfl; rfl; rfl))
      refine bodyPost_ret (results_cell_tmp (fn := Tryd.f5) (p := 2) (q := 3) (by rfl) _ _ w.heap.size _ _ _ _ (by rfl) (setRow_heap _ _ _ _ _ _ E5.out) Tryd.underlying29 rfl (obsize HS.out)) rfl ⟨rfl, below_setRow hB5 (Nat.le_refl _) _⟩

set_option maxHeartbeats 1000000 in
set_option maxRecDepth 100000 in
theorem decode_B (fn : Nat) (hfn : fn = 28 ∨ fn = 29 ∨ fn = 30 ∨ fn = 31) (s : ByteArray) (w : World) (hs : s.size ≤ 4096) (h : Rm.bdR s.data.toList = ([], false))
    (hm : ∀ W, Calls Tryd.prog 14 #[.int .i64 (Rm.kindV s.data.toList)] W fun r w' => r = .returned (.func (.func fn) #[] #[]) ∧ W = w')
    (hb : ∀ W g, Rl W g (Rm.bdV s.data.toList, false) → Calls Tryd.prog fn #[.pointer (some ⟨g, 0, none⟩)] W (Bdy g (Rm.bodyF (Rm.kindV s.data.toList) (Rm.bdV s.data.toList)) W)) (hok : Rm.okB s.data.toList = true) :
    Calls Tryd.prog 5 #[.string s] w (ADec (Rm.bodyF (Rm.kindV s.data.toList) (Rm.bdV s.data.toList)).1 w) := by
  have HS := Lib.hid noF.size
  have HO := Lib.hid noF.one
  have hz28 := (zero_of_info zero28).1
  have HBN := Lib.hid built_none
  generalize (obC noOb nilV nilV).toArray = z at HS HO hz28 HBN
  have h' : ¬ (4096 : Int) < (s.size : Int) := by omega
  have hsl := size_list s
  have hsm : (⟨s.data.toList.toArray⟩ : ByteArray) = s := by simp
  generalize hl : s.data.toList = l at *
  have hll : l.length ≤ 4096 := by omega
  have HSM := Lib.hid hsm
  have HA := Lib.hid h
  have HM := Lib.hid hm
  have HBD := Lib.hid hb
  have HOK := Lib.hid hok
  have HFN := Lib.hid hfn
  clear hfn hl hsl hsm h hm hb hok
  go_enter Tryd.func5, Tryd.ntmps5
  go_wp2_with fail
  have R0 : Rl ((w.alloc (.cells z 29)).alloc (.cells #[.string s, .bool false] 41)) (w.heap.size + 1) (l, false) := by
    unfold Rl; rw [HSM.out]; exact heap_alloc2_new _ _ _
  have E0 := Lib.hid (heap_alloc2_old w (.cells z 29) (.cells #[.string s, .bool false] 41))
  have hB0 := ((Below.refl w.heap.size w).alloc (Nat.le_refl _) (.cells z 29)).alloc (by simp) (.cells #[.string s, .bool false] 41)
  have hk1 := kindR_len false l
  refine (kind_l (w.heap.size + 1) l false _ R0 (by omega)).mono ?_
  rintro r w1 ⟨rfl, R1, g1⟩
  have E1 := Lib.hid (held_grown E0.out g1 (by omega))
  have hB1 := below_own hB0 g1 (by omega)
  have S1 : w.heap.size + 2 ≤ w1.heap.size := by have := g1.size; simp at this; omega
  clear R0 E0 hB0 g1
  go_wp2_with fail
  refine (text_l (w.heap.size + 1) (Rm.kindR false l).1 (Rm.kindR false l).2 _ R1 (by omega)).mono ?_
  rintro r w2 ⟨rfl, R2, g2⟩
  have E2 := Lib.hid (held_grown E1.out g2 (by omega))
  have hB2 := below_own hB1 g2 (by omega)
  have S2 := Nat.le_trans S1 g2.size
  have hkb := kindV_bd l
  have hd : decide (Rm.textR (Rm.kindR false l).2 (Rm.kindR false l).1 = ([], false)) = true := decide_eq_true HA.out
  have HD := Lib.hid hd
  have hqf := bin_fn
  clear R1 E1 hB1 g2 hd S1
  go_wp2_with fail
  refine (HM.out _).mono ?_
  rintro r w3 ⟨rfl, rfl⟩
  go_wp2_with fail
  refine (ended_l (w.heap.size + 1) _ _ R2).mono ?_
  rintro r w3 ⟨rfl, rfl⟩
  rw [HD.out]
  rw [show Rm.textV (Rm.kindR false l).1 = Rm.bdV l from rfl]
  have R3 : Rl (w2.alloc (.cells #[.string ⟨(Rm.bdV l).toArray⟩, .bool false] 41)) w2.heap.size (Rm.bdV l, false) := heap_alloc_last _ _
  have E3 := Lib.hid (held_alloc (o := .cells #[.string ⟨(Rm.bdV l).toArray⟩, .bool false] 41) E2.out)
  have hB3 := hB2.alloc hB2.size (.cells #[.string ⟨(Rm.bdV l).toArray⟩, .bool false] 41)
  clear R2 E2 hB2
  rcases HFN.out with rfl | rfl | rfl | rfl
  all_goals
    go_wp2_with fail
    refine (HBD.out _ w2.heap.size R3).mono ?_
    rintro r w4 ⟨cs, ao, bo, ca, cb, rfl, hO, R4, g4, hnew⟩
    have E4 := Lib.hid (held_grown E3.out g4 (by omega))
    have hB4 := below_own hB3 g4 (by omega)
    have S4 : w2.heap.size + 1 ≤ w4.heap.size := by have := g4.size; simpa using this
    have HCS := Lib.hid hO.F.size
    have HCO := Lib.hid hO.F.one
    have R5 := R4.alloc (.cells cs 29)
    have E5 := Lib.hid (held_alloc (o := .cells cs 29) E4.out)
    have hB5 := hB4.alloc hB4.size (.cells cs 29)
    have K5 := Kp.box w4 cs 29
    have hO5 := hO.below ((Below.refl w4.heap.size w4).alloc (Nat.le_refl _) (.cells cs 29))
    have HFV := Lib.hid (fun W (hW : Below w4.heap.size w4 W) => fieldsValid_any cs _ ao bo ca cb W (hO.below hW))
    clear R3 E3 hB3 g4 R4 E4 hB4
    have hok2 := HOK.out
    unfold Rm.okB at hok2
    rw [Bool.and_eq_true, decide_eq_true_eq] at hok2
    obtain ⟨hend, hv⟩ := hok2
    have HD2 := Lib.hid (decide_eq_true hend)
    rw [hv] at HFV
    clear hend hv
    go_wp2_with (first
      | ((with_reducible apply st_ob (hs := HCS.out) (h1 := HCO.out)); rfl; rfl; rfl; rfl; exact HS.out)
      | (go_at_call 15; refine (ended_l w2.heap.size _ _ R5).mono ?_; rintro r w6 ⟨rfl, rfl⟩; rw [HD2.out])
      | ((fail_if_success (fail_if_success go_guarded)); (with_reducible refine load_ob_g (x := .tmp 9) ?_ ?_ ?_ K5 HCS.out ?_); rfl; rfl; kernel_rfl)
      | (go_at_call 16; refine (HFV.out _ ((Below.refl w4.heap.size w4).alloc (Nat.le_refl _) (.cells cs 29))).mono ?_; rintro r w7 ⟨rfl, hx7⟩; have E7 := Lib.hid ((hx7.block w.heap.size (by simp; omega)).trans E5.out); have K7 := K5.step hx7)
      | ((with_reducible refine load_ob (x := .tmp 9) ?_ ?_ ?_ K7 HCS.out ?_); rfl; rfl; rfl)
      | ((with_reducible refine st_obr (x := .tmp 2) (y := .tmp 39) ?_ ?_ ?_ ?_ E7.out HS.out HCS.out HCO.out ?_); rfl; rfl; rfl; rfl))
    have hB7 := hB5.trans (hx7.mono hB5.size)
    refine bodyPost_ret (results_cell_tmp (fn := Tryd.f5) (p := 2) (q := 3) (by rfl) _ _ w.heap.size _ _ _ _ (by rfl) (setRow_heap _ _ _ _ _ _ E7.out) Tryd.underlying29 rfl (obsize HCS.out)) rfl ⟨cs, ao, bo, ca, cb, rfl, ?_, below_setRow hB7 (Nat.le_refl _) _⟩
    exact (hO5.below hx7).setRow (fun a ha => by have := hnew a ha; simp at this; omega)

/-- A body read by the method of its kind. -/
theorem blob_l (g : Nat) (t : List UInt8) (w : World) (h : Rl w g (t, false)) (hl : t.length ≤ 100000) :
    Calls Tryd.prog 28 #[.pointer (some ⟨g, 0, none⟩)] w (Bdy g (Rm.blobF t) w) := by
  refine (blob_any g ⟨t.toArray⟩ false w h).mono fun e w' ⟨h1, h2, h3⟩ => ⟨_, none, none, 0, 0, h1, ?_, h2, h3, fun a ha => by rcases ha with ha | ha <;> cases ha⟩
  exact ⟨obC_F { noOb with kind := 1, data := ⟨t.toArray⟩ } nilV nilV rfl rfl rfl rfl, RowsAt.nil _ _, RowsAt.nil _ _, (fun e he => by cases he), (fun e he => by cases he), (fun e he => by cases he), (show (0 : Nat) ≤ maxLen from Nat.zero_le _), (show (0 : Nat) ≤ maxLen from Nat.zero_le _), (show (0 : Nat) ≤ maxLen from Nat.zero_le _), (show (0 : Nat) < 4294967296 by decide)⟩

theorem bdV_len (l : List UInt8) (h : l.length ≤ 4096) : (Rm.bdV l).length ≤ 100000 := by
  have h1 := textV_len (Rm.kindR false l).1
  have h2 := kindR_len false l
  show (Rm.textV (Rm.kindR false l).1).length ≤ 100000
  omega

/-- Decode, whole. -/
def Dcd (l : List UInt8) (w : World) (r : Ending) (w' : World) : Prop := match Rm.dec l with
  | none => NoDec w r w'
  | some o => ADec o w r w'

theorem decode_any (s : ByteArray) (w : World) (hs : s.size ≤ maxLen) : Calls Tryd.prog 5 #[.string s] w (Dcd s.data.toList w) := by
  have hsl := size_list s
  unfold Dcd
  by_cases h4 : 4096 < s.size
  · have : Rm.dec s.data.toList = none := by unfold Rm.dec; rw [if_neg (by omega)]
    rw [this]
    exact decode_long s w hs h4
  cases hA : Rm.okA s.data.toList with
  | false =>
    have : Rm.dec s.data.toList = none := by unfold Rm.dec; rw [if_neg (by rw [hA]; simp)]
    rw [this]
    exact decode_noA s w (by omega) hA
  | true =>
    have hA' := hA
    unfold Rm.okA at hA'
    rw [Bool.and_eq_true, decide_eq_true_eq, decide_eq_true_eq] at hA'
    obtain ⟨hR, hk1, hk2⟩ := hA'
    have hbl := bdV_len s.data.toList (by omega)
    have key : ∃ fn, (fn = 28 ∨ fn = 29 ∨ fn = 30 ∨ fn = 31) ∧ (∀ W, Calls Tryd.prog 14 #[.int .i64 (Rm.kindV s.data.toList)] W fun r w' => r = .returned (.func (.func fn) #[] #[]) ∧ W = w') ∧
        (∀ W g, Rl W g (Rm.bdV s.data.toList, false) → Calls Tryd.prog fn #[.pointer (some ⟨g, 0, none⟩)] W (Bdy g (Rm.bodyF (Rm.kindV s.data.toList) (Rm.bdV s.data.toList)) W)) := by
      unfold Rm.bodyF
      rcases (by omega : Rm.kindV s.data.toList = 1 ∨ Rm.kindV s.data.toList = 2 ∨ Rm.kindV s.data.toList = 3 ∨ Rm.kindV s.data.toList = 4) with e | e | e | e
      · rw [e]
        exact ⟨_, .inl rfl, fun W => method_any 1 W, fun W g hr => blob_l g _ W hr hbl⟩
      · rw [e]
        exact ⟨_, .inr (.inl rfl), fun W => method_any 2 W, fun W g hr => tree_any g _ W hr hbl⟩
      · rw [e]
        exact ⟨_, .inr (.inr (.inl rfl)), fun W => method_any 3 W, fun W g hr => commit_any g _ W hr hbl⟩
      · rw [e]
        exact ⟨_, .inr (.inr (.inr rfl)), fun W => method_any 4 W, fun W g hr => tag_any g _ W hr hbl⟩
    obtain ⟨fn, hfn, hm, hb⟩ := key
    cases hB : Rm.okB s.data.toList with
    | false =>
      have : Rm.dec s.data.toList = none := by unfold Rm.dec; rw [if_neg (by rw [hB]; simp)]
      rw [this]
      exact decode_A fn hfn s w (by omega) hR hm hb hB
    | true =>
      have : Rm.dec s.data.toList = some (Rm.bodyF (Rm.kindV s.data.toList) (Rm.bdV s.data.toList)).1 := by unfold Rm.dec; rw [if_pos ⟨by omega, hA, hB⟩]
      rw [this]
      exact decode_B fn hfn s w (by omega) hR hm hb hB

end Go.Proofs.YtcicfjfbnbkkcaaDoor
