/-
  THE WALK OF THE LAW RefOrder: whatever the refs and the updates, it answers true.
-/
import Derived.Test.YtjpjcenijhdacaaKn
import Derived.Test.YtjpjcenijhdacaaOrdMath
namespace Go.Proofs.Ytjpjcenijhdacaa
open Go.RowKit
set_option linter.unusedVariables false
set_option linter.unusedSimpArgs false

/-- A row of updates that a call has made. -/
def OwnU (w : World) (base : Nat) (v : Value) (us : List Rf.U) : Prop := w.ownsRow base 51 65 v us.length (us.flatMap upC)
theorem flatU_get (L : List Rf.U) : (∀ r ∈ L, (upC r).length = 65) → ∀ (i : Nat) (p : Rf.U), L[i]? = some p → ∀ (j : Nat) (x : Value), (upC p)[j]? = some x → (L.flatMap upC)[i * 65 + j]? = some x := by
  induction L with
  | nil => intro _ i l hi; simp at hi
  | cons a r ih =>
    intro h i l hi j x hx
    have ha := h a (by simp)
    rw [List.flatMap_cons]
    cases i with
    | zero =>
      simp at hi; subst hi
      have hj : j < 65 := by
        have := (List.getElem?_eq_some_iff.1 hx).1; omega
      rw [Nat.zero_mul, Nat.zero_add, List.getElem?_append_left (by omega)]
      exact hx
    | succ i =>
      simp at hi
      rw [List.getElem?_append_right (by omega), show (i + 1) * 65 + j - (upC a).length = i * 65 + j by omega]
      exact ih (fun x hx => h x (by simp [hx])) i l hi j x hx
theorem OwnU.rows {w : World} {base : Nat} {v : Value} {us : List Rf.U} (h : OwnU w base v us) (hid : ∀ u ∈ us, (upC u).length = 65) : UpsAt w v us := by
  refine ⟨?_⟩
  rcases h.2 with ⟨rfl, h0⟩ | ⟨g, cap, cur, rfl, hg, hb⟩
  · have : us = [] := by simpa using h0
    exact .inl ⟨rfl, by simp [this]⟩
  · refine .inr ⟨⟨g, 0, none⟩, cap, by simp, fun i cs hi => ?_⟩
    rw [List.getElem?_map] at hi
    cases hq : us[i]? with
    | none => simp [hq] at hi
    | some r =>
      simp [hq] at hi; subst hi
      refine ⟨hid r (List.mem_of_getElem? hq), fun j x hx => ?_⟩
      have := World.ownsRow.cells h (g := g) rfl (i * 65 + j) x (flatU_get us hid i r hq j x hx)
      rw [Addr.add_mid] at this
      rw [Addr.add_mid, Addr.add_mid]
      simpa [Nat.add_assoc] using this
theorem ownU_push {w : World} {base : Nat} {v : Value} {us : List Rf.U} {p : Rf.U} (h : w.ownsRow base 51 65 v (us.length + 1) (us.flatMap upC ++ upC p)) : OwnU w base v (us ++ [p]) := by
  unfold OwnU
  rw [List.flatMap_append, List.length_append]
  simpa using h
theorem rev_step {us : List Rf.U} {q : Nat} {u : Rf.U} (h : us[q]? = some u) : (us.drop (q + 1)).reverse ++ [u] = (us.drop q).reverse := by
  obtain ⟨hk, rfl⟩ := List.getElem?_eq_some_iff.1 h
  rw [List.drop_eq_getElem_cons hk, List.reverse_cons]
theorem max64 {n : Nat} (h : n ≤ 64) : n ≤ maxLen := by unfold maxLen; omega
theorem max100 {n : Nat} (h : n ≤ 100) : n ≤ maxLen := by unfold maxLen; omega

set_option maxHeartbeats 4000000 in
set_option maxRecDepth 100000 in
theorem order_any (v uv : Value) (L : List Rf.R) (us : List Rf.U) (w : World) (hL : RefsAt w v L) (hU : UpsAt w uv us) (hl : L.length ≤ maxLen) (hul : us.length ≤ maxLen) (hui : ∀ u ∈ us, u.old.length = 32 ∧ u.new.length = 32) :
    Calls Try.prog 6 #[v, uv] w fun r w' => r = .returned (.bool true) ∧ Below w.heap.size w w' := by
  have HFW := Lib.hid (few_any v L w hL hl)
  have HSH := Lib.hid (short_any uv us w hU hul)
  have HL := Lib.hid hL
  have HU := Lib.hid hU
  have HUI := Lib.hid hui
  obtain ⟨ao, ca, rfl⟩ := hL.form
  obtain ⟨bo, cb, rfl⟩ := hU.form
  clear hL hU hui
  unfold maxLen at hl hul
  go_enter Try.func6, Try.ntmps6
  go_wp2_with fail
  refine HFW.out.mono ?_
  rintro r wx ⟨⟨b1, rfl, h1⟩, rfl⟩
  have H1 := Lib.hid h1
  clear h1 HFW
  go_wp2_with fail
  refine HSH.out.mono ?_
  rintro r wx ⟨⟨b2, rfl, h2⟩, rfl⟩
  have H2 := Lib.hid h2
  clear h2 HSH
  have KN := Lib.hid (knows_true w)
  cases b1 with
  | false =>
    go_wp2_with fail
    refine KN.out.mono ?_
    rintro r w1 ⟨rfl, hb⟩
    go_wp2_with fail
    go_ret
    exact ⟨rfl, hb⟩
  | true =>
    cases b2 with
    | false =>
      go_wp2_with fail
      refine KN.out.mono ?_
      rintro r w1 ⟨rfl, hb⟩
      go_wp2_with fail
      go_ret
      exact ⟨rfl, hb⟩
    | true =>
      obtain ⟨h3, h4⟩ := H1.out rfl
      obtain ⟨h5, h6⟩ := H2.out rfl
      by_cases h7 : 64 < L.length + us.length
      · have h7' : 64 < (L.length : Int) + (us.length : Int) := by omega
        clear h4 h6 H1 H2 h7
        go_wp2_with fail
        refine KN.out.mono ?_
        rintro r w1 ⟨rfl, hb⟩
        go_wp2_with fail
        go_ret
        exact ⟨rfl, hb⟩
      · have h7' : ¬ 64 < (L.length : Int) + (us.length : Int) := by omega
        have hl64 : L.length ≤ 64 := by omega
        have hu64 : us.length ≤ 64 := by omega
        have HNL := Lib.hid (show ∀ r ∈ L, r.name.size ≤ maxLen from fun r hr => max100 (h4 r hr))
        have HUN := Lib.hid (show ∀ u ∈ us, u.old.length = 32 ∧ u.new.length = 32 ∧ u.name.size ≤ 1000 from fun u hu => ⟨(HUI.out u hu).1, (HUI.out u hu).2, by have := h6 u hu; omega⟩)
        have HSUM := Lib.hid (show L.length + us.length ≤ 64 by omega)
        clear h4 h6 H1 H2 h7 h3 h5 hl hul
        cases hf : Rf.fine L with
        | false =>
          have HUB := Lib.hid (update_bad _ (.slice bo us.length cb) true L w HL.out HNL.out (max64 hl64) hf)
          have HFN := Lib.hid (fun W hb => fine_any _ L W (HL.out.below hb) HNL.out (max64 hl64))
          rw [hf] at HFN
          clear hf
          go_wp2_with fail
          refine HUB.out.mono ?_
          rintro r w1 ⟨rfl, hb1⟩
          have KN1 := Lib.hid (knows_true w1)
          clear HUB
          go_wp2_with fail
          refine KN1.out.mono ?_
          rintro r w2 ⟨rfl, hb2⟩
          have hb02 := below_step hb1 hb2
          go_wp2_with fail
          refine (HFN.out w2 hb02).mono ?_
          rintro r w3 ⟨rfl, hb3⟩
          go_wp2_with fail
          go_ret
          exact ⟨rfl, below_step hb02 hb3⟩
        | true =>
          have HUB := Lib.hid (update_ok _ (.slice bo us.length cb) true L us w HL.out HNL.out hf HU.out hu64 HUN.out)
          have HFM := Lib.hid (Rf.upd_fine (us := us) (all := true) hf)
          have HF := Lib.hid hf
          clear hf
          go_wp2_with fail
          refine HUB.out.mono ?_
          rintro r w1 ⟨v1, g1, rfl, hr1, he1, hb1⟩
          have HR1 := Lib.hid hr1
          have HE1 := Lib.hid he1
          have HLN := Lib.hid (Rf.upd_len L us true)
          have HML := Lib.hid ((Rf.fine_iff _).1 HFM.out)
          have HNM := Lib.hid (show ∀ r ∈ (Rf.upd L us true).1, r.name.size ≤ maxLen from fun r hr => by
            have := HML.out.2.1 r hr
            unfold Rf.okr Rf.nameOk at this
            simp at this
            exact max64 (by omega))
          clear hr1 he1 HUB
          have hb01 := hb1
          obtain ⟨mo, mc, rfl⟩ := HR1.out.form
          have HFC := Lib.hid (fine_any _ (Rf.upd L us true).1 w1 HR1.out HNM.out (max64 HML.out.1))
          rw [HFM.out] at HFC
          have HMS := Lib.hid HML.out.1
          cases hq : Rf.errs (Rf.run L [] us).2 with
          | true =>
            obtain ⟨q1, q2, q3⟩ := Rf.upd_errs hq
            have HQ1 := Lib.hid q1
            have HQ2 := Lib.hid q2
            clear hq q1 q2
            generalize (Rf.upd L us true).1 = M at *
            generalize (Rf.upd L us true).2 = ES at *
            go_wp2_with fail
            go_loop [10, 11] (fun n i => ∃ k : Nat, k ≤ us.length ∧ n = .int .i64 k ∧ i = .int .i64 k) (fun _ i => us.length - (intOf i).toNat)
            case atStart => exact ⟨0, by omega, rfl, rfl⟩
            case round =>
              obtain ⟨k, hk, rfl, rfl⟩ := hrel
              by_cases hlt : k < us.length
              · have hlt' : (k : Int) < (us.length : Int) := by omega
                have hk0 : (0 : Int) ≤ (k : Int) := by omega
                obtain ⟨e, he⟩ : ∃ e, ES[k]? = some e := ⟨ES[k]'(by rw [HLN.out]; exact hlt), List.getElem?_eq_getElem _⟩
                have c0 := HE1.out.cell k e he
                have hne : ((e : Int) != 0) = true := by
                  rw [bne_iff_ne]
                  have := HQ2.out e (List.mem_of_getElem? he)
                  omega
                clear he
                go_wp2_with fail
                go_round
                case rel => exact ⟨k + 1, by omega, by go_num, by go_num⟩
                case measure => simp [intOf]; omega
              · have k1 : ((k : Int) != 0) = true := by rw [bne_iff_ne]; omega
                have k2 : ((k : Int) != (us.length : Int)) = false := by rw [bne_eq_false_iff_eq]; omega
                have k3 : (0 : Int) < (k : Int) := by omega
                have k4 : ¬ (k : Int) < (us.length : Int) := by omega
                have k5 : ((us.length : Int) != (us.length : Int)) = false := by simp
                go_wp2_with fail
                refine HFC.out.mono ?_
                rintro r w2 ⟨rfl, hb2⟩
                have HLS := Lib.hid (show RefsAt w2 (.slice ao L.length ca) L from HL.out.below (below_step hb01 hb2))
                have HMSA := Lib.hid (show RefsAt w2 (.slice mo M.length mc) L by have := HR1.out.below hb2; rw [HQ1.out] at this ⊢; exact this)
                have hb02 := below_step hb01 hb2
                clear hb2 hb1 HFC
                go_wp2_with fail
                refine (same_any L _ _ w2 HMSA.out HLS.out (by omega)).mono ?_
                rintro r w3 ⟨rfl, hb3⟩
                have hb03 := below_step hb02 hb3
                have KN3 := Lib.hid (knows_true w3)
                go_wp2_with fail
                refine KN3.out.mono ?_
                rintro r w4 ⟨rfl, hb4⟩
                go_wp2_with fail
                go_ret
                exact ⟨rfl, below_step hb03 hb4⟩
          | false =>
            have HQ2 := Lib.hid (Rf.upd_none hq)
            have HREV := Lib.hid (Rf.upd_rev HF.out HSUM.out hq)
            have HUR := Lib.hid (fun W vb (hb : Below w.heap.size w W) (hu : UpsAt W vb us.reverse) => update_ok (.slice ao L.length ca) vb true L us.reverse W (HL.out.below hb) HNL.out HF.out hu (by simpa using hu64) (fun u hu => HUN.out u (by simpa using hu)))
            obtain ⟨i0, hi0, hz0, hz1, hz2⟩ := info_parts infoUq
            clear hq
            generalize (Rf.upd L us true).1 = M at *
            generalize (Rf.upd L us true).2 = ES at *
            go_wp2_with fail
            go_loop [10, 11] (fun n i => ∃ k : Nat, k ≤ us.length ∧ n = .int .i64 0 ∧ i = .int .i64 k) (fun _ i => us.length - (intOf i).toNat)
            case atStart => exact ⟨0, by omega, rfl, rfl⟩
            case round =>
              obtain ⟨k, hk, rfl, rfl⟩ := hrel
              by_cases hlt : k < us.length
              · have hlt' : (k : Int) < (us.length : Int) := by omega
                have hk0 : (0 : Int) ≤ (k : Int) := by omega
                obtain ⟨e, he⟩ : ∃ e, ES[k]? = some e := ⟨ES[k]'(by rw [HLN.out]; exact hlt), List.getElem?_eq_getElem _⟩
                have c0 := HE1.out.cell k e he
                obtain rfl : e = 0 := HQ2.out e (List.mem_of_getElem? he)
                clear he
                go_wp2_with fail
                go_round
                case rel => exact ⟨k + 1, by omega, rfl, by go_num⟩
                case measure => simp [intOf]; omega
              · have k4 : ¬ (k : Int) < (us.length : Int) := by omega
                have k5 : ((us.length : Int) != (us.length : Int)) = false := by simp
                go_wp2_with fail
                refine HFC.out.mono ?_
                rintro r w2 ⟨rfl, hb2⟩
                have hb02 := below_step hb01 hb2
                have HM2 := Lib.hid (HR1.out.below hb2)
                clear hb2 hb1 HFC
                go_wp2_with fail
                go_loopw [13, 14] (fun v i wr => ∃ (j : Nat) (x : Int) (acc : List Rf.U), j ≤ us.length ∧ i = .int .i64 x ∧ Hid (x = (j : Int) - 1) ∧ Hid (acc = (us.drop j).reverse) ∧ Hid (acc.length = us.length - j) ∧ OwnU wr w2.heap.size v acc ∧ Below w2.heap.size w2 wr) (fun _ i _ => (intOf i + 1).toNat)
                case atStart => exact ⟨us.length, _, [], Nat.le_refl _, rfl, rfl, by simp [Hid], by simp [Hid], World.ownsRow_nil _ _ _ _, Below.refl _ _⟩
                case round =>
                  obtain ⟨j, x, acc, hj, rfl, HX, HA, HAL, hown, hb⟩ := hrel
                  have hal : acc.length ≤ 64 := by have := HAL.out; omega
                  rcases Nat.eq_zero_or_pos j with hj0 | hj0
                  · have HAA := Lib.hid (show acc = us.reverse by rw [HA.out, hj0]; rfl)
                    obtain rfl : x = -1 := by have := HX.out; omega
                    rw [HAA.out] at hown
                    have HOWN := Lib.hid hown
                    have hb0r := below_step hb02 hb
                    have HUP := Lib.hid (HOWN.out.rows (fun u hu => by
                      have := HUI.out u (by simpa using hu)
                      rw [upC_length, this.1, this.2]))
                    clear HA HAA hown
                    go_wp2_with fail
                    refine (HUR.out wr _ hb0r HUP.out).mono ?_
                    rintro r w4 ⟨v4, g4, rfl, hr4, he4, hb4⟩
                    rw [HREV.out] at hr4
                    have HR4 := Lib.hid hr4
                    have HM4 := Lib.hid ((HM2.out.below hb).below hb4)
                    have hb04 := below_step hb0r hb4
                    clear hr4 he4
                    go_wp2_with fail
                    refine (same_any M _ _ w4 HM4.out HR4.out (by have := HMS.out; omega)).mono ?_
                    rintro r w5 ⟨rfl, hb5⟩
                    have hb05 := below_step hb04 hb5
                    have KN5 := Lib.hid (knows_true w5)
                    go_wp2_with fail
                    refine KN5.out.mono ?_
                    rintro r w6 ⟨rfl, hb6⟩
                    go_wp2_with fail
                    go_ret
                    exact ⟨rfl, below_step hb05 hb6⟩
                  · obtain ⟨q, rfl⟩ : ∃ q, j = q + 1 := ⟨j - 1, by omega⟩
                    obtain rfl : x = (q : Int) := by have := HX.out; omega
                    have hlt' : (q : Int) < (us.length : Int) := by omega
                    have hq0 : (0 : Int) ≤ (q : Int) := by omega
                    obtain ⟨u, hu⟩ : ∃ u, us[q]? = some u := ⟨us[q], List.getElem?_eq_getElem (by omega)⟩
                    obtain ⟨a, rfl, _, hc⟩ := (HU.out.below (below_step hb02 hb)).elem q u hu
                    have HC := Lib.hid hc
                    obtain ⟨hu1, hu2⟩ := HUI.out u (List.mem_of_getElem? hu)
                    have HU1 := Lib.hid hu1
                    have HU2 := Lib.hid hu2
                    have HUL := Lib.hid (show (upC u).length = 1 * 65 by rw [upC_length, hu1, hu2])
                    have HA2 := Lib.hid (show acc ++ [u] = (us.drop q).reverse by rw [HA.out]; exact rev_step hu)
                    have hbs := hb.size
                    clear hc hu hu1 hu2 HX HA
                    go_wp2_with (first
                      | ((with_reducible refine ld_up (x := .tmp 105) (p := a.add (q * 65)) ?_ ?_ ?_ HC.out HU1.out HU2.out ?_); rfl; rfl; rfl)
                      | ((with_reducible refine bs_up (u := u) (x := .tmp 106) ?_ ?_ ?_ HU1.out HU2.out ?_); rfl; rfl; rfl)
                      | (at_builtin; refine wpList_append_own _ rfl _ _ 41 rfl w2.heap.size 51 i0 _ 65 80 Try.underlying41 hi0 hz0 hz1 hz2 rfl (by decide) _ _ _ rfl (World.ownsRow.alloc hown _) ⟨_, 0, none⟩ 1 1 (upC u) rfl HUL.out (news_row (heap_alloc_new _ _)) (upC_one u) (by unfold maxLen; omega) (by omega) (by simp; omega) ?_))
                    intro v' w3 hown2 hgrow _
                    have hb' : Below w2.heap.size w2 w3 := ((hb.alloc hb.size _).grown hgrow (by simp; omega) (fun k hk => (hown.lt k hk).1))
                    have HO2 := Lib.hid (ownU_push (us := acc) (p := u) hown2)
                    clear hown hgrow hown2
                    go_wp2_with fail
                    go_roundw
                    case rel => exact ⟨q, _, acc ++ [u], by omega, rfl, rfl, HA2, by have := HAL.out; show (acc ++ [u]).length = _; rw [List.length_append, this]; simp; omega, HO2.out, hb'⟩
                    case measure => simp [intOf] <;> omega

end Go.Proofs.Ytjpjcenijhdacaa
