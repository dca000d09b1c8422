/-
  WALKS OF LAYER 9: the document's Update.
-/
import Derived.Test.YtkdljagcdaphdaaDWrongD
import Derived.Laws.AppendOwnNone
import Derived.Deep.AppendLies
namespace Go.Proofs.Ytkdljagcdaphdaa
open Go.RowKit
set_option linter.unusedVariables false
set_option linter.unusedSimpArgs false

theorem refwrong_any (v uv : Value) (L : List Rf.R) (us : List Rf.U) (i : Nat) (u : Rf.U) (w : World) (hi : us[i]? = some u) (hL : RefsAt w v L) (hs : Rf.Srt L) (hl : L.length ≤ 64) (hU : UpsAt w uv us) (hul : us.length ≤ 64) (hui : ∀ u ∈ us, u.old.length = 32 ∧ u.new.length = 32 ∧ u.name.size ≤ 1000) :
    Calls Try.prog 38 #[v, uv, .int .i64 i] w fun r w' => r = .returned (.int .i64 (Rf.wrong L (namesOf us i) u : Nat)) ∧ Below w.heap.size w w' := by
  cases hnm : Rf.nameOk u.name with
  | false => exact refwrong_a v uv L us i u w hi hL hs hl hU hul hui hnm _ _ rfl rfl
  | true =>
    cases ho : decide (u.old = Rf.zid) with
    | false => exact refwrong_d v uv L us i u w hi hL hs hl hU hul hui hnm _ ho rfl
    | true =>
      cases hn : decide (u.new = Rf.zid) with
      | false => exact refwrong_c v uv L us i u w hi hL hs hl hU hul hui hnm ho hn
      | true => exact refwrong_b v uv L us i u w hi hL hs hl hU hul hui hnm ho hn

/-- A row of numbers of the call's own. -/
def OwnI (w : World) (B : Nat) (v : Value) (n : Nat) (es : List Nat) : Prop := w.ownsRow B 3 1 v n (errC es)
theorem OwnI.len {w : World} {B n : Nat} {v : Value} {es : List Nat} (h : OwnI w B v n es) : es.length = n := by have := h.1; simpa [errC] using this
theorem own_apart {w : World} {b e k n b' e' k' n' : Nat} {v v' : Value} {xs xs' : List Value} (h1 : w.ownsRow b e k v n xs) (h2 : w.ownsRow b' e' k' v' n' xs') (hne : e ≠ e') : v.ownBlock = none ∨ v.ownBlock ≠ v'.ownBlock := by
  rcases h1.2 with ⟨rfl, _⟩ | ⟨g, cap, cur, rfl, _, hg, _⟩
  · exact .inl rfl
  · refine .inr ?_
    rcases h2.2 with ⟨rfl, _⟩ | ⟨g', cap', cur', rfl, _, hg', _⟩
    · simp [Value.ownBlock]
    · intro e1
      simp only [Value.ownBlock, Option.some.injEq] at e1
      subst e1
      rw [hg] at hg'
      simp at hg'
      exact hne hg'.2
theorem tyne : (54 : Nat) ≠ 3 := by decide
/-- Where the document's Update stands in memory. -/
structure Du (w wr : World) (vn vt : Value) (n : Nat) (M : List Rf.R) (es : List Nat) : Prop where
  now : OwnF wr w.heap.size vn M
  told : OwnI wr w.heap.size vt n es
  bel : Below w.heap.size w wr
theorem Du.below {w wr w' : World} {vn vt : Value} {n : Nat} {M : List Rf.R} {es : List Nat} (h : Du w wr vn vt n M es) (hb : Below wr.heap.size wr w') : Du w w' vn vt n M es :=
  ⟨own_below h.now hb, own_below h.told hb, below_step h.bel hb⟩
theorem infoInt : (Try.prog.info? 3).map (fun i => (i.zero, i.size, i.bytes)) = some (some (.int .i64 0), 1, 8) := by kernel_rfl
theorem one_cell {w : World} {g : Nat} {x : Value} {t : TypeId} (h : w.heap[g]? = some (.cells #[x] t)) : ∀ j u, [x][j]? = some u → w.cell? ((⟨g, 0, none⟩ : Addr).add j) = some u := news_row (l := [x]) h
section
variable {ops : Array Oper} {rest : List Oper} {op : Oper} {a : Act} {Q : Exit → Act → World → Prop} {w wr : World}
theorem ap_told {vn vt : Value} {n : Nat} {M : List Rf.R} {es : List Nat} {c : Int} {e : Nat} (s x : Operand)
    (ho : op.op = .call { callee := .builtin .append, args := #[s, x], argTypes := #[46, 46] }) (hg : op.guard = none) (hs : a.eval s = vt) (hx : a.eval x = .slice (some ⟨wr.heap.size, 0, none⟩) 1 1)
    (h : Du w wr vn vt n M es) (hn : n ≤ 1000) (hc : c = (e : Int))
    (hK : ∀ v' w', Hid (Du w w' vn v' (n + 1) M (es ++ [e])) → wpList Try.prog ops Q rest (a.put op.dst v') w') : wpList Try.prog ops Q (op :: rest) a (wr.alloc (.cells #[.int .i64 c] 3)) := by
  obtain ⟨i0, hi, hz0, hz1, hz2⟩ := info_parts infoInt
  have hsz := h.bel.size
  refine wpList_append_own _ hg s x 46 ho w.heap.size 3 i0 _ 1 8 Try.underlying46 hi hz0 hz1 hz2 rfl (by decide) vt n (errC es) hs (World.ownsRow.alloc h.told _) ⟨wr.heap.size, 0, none⟩ 1 1 [.int .i64 c] hx rfl (one_cell (heap_alloc_new _ _)) (by intro u hu; simp at hu; subst hu; rfl) (by unfold maxLen; omega) (by omega) (by simp; omega) ?_
  intro v' w' h1 h2 _
  have h3 : (wr.alloc (.cells #[.int .i64 c] 3)).ownsRow w.heap.size 54 33 vn M.length (M.flatMap rfC) := World.ownsRow.alloc h.now _
  refine hK v' w' ⟨World.ownsRow.kept h3 h2 (own_apart h.now h.told tyne), ?_, ((h.bel.alloc h.bel.size _).grown h2 (by simp; omega) (fun k hk => (World.ownsRow.lt h.told k hk).1))⟩
  unfold OwnI errC
  rw [List.map_append]
  subst hc
  exact h1
theorem ap_copy {v : Value} {L : List Rf.R} (s x : Operand)
    (ho : op.op = .call { callee := .builtin .append, args := #[s, x], argTypes := #[22, 22] }) (hg : op.guard = none) (hs : a.eval s = .slice (some ⟨wr.heap.size, 0, none⟩) 0 0) (hx : a.eval x = v)
    (hL : RefsAt wr v L) (hl : L.length ≤ 64)
    (hK : ∀ v' w', Hid (OwnF w' wr.heap.size v' L) → Hid (Below wr.heap.size wr w') → wpList Try.prog ops Q rest (a.put op.dst v') w') : wpList Try.prog ops Q (op :: rest) a (wr.alloc (.cells #[] 54)) := by
  obtain ⟨i0, hi, hz0, hz1, hz2⟩ := info_parts infoRf
  have hlen := flat_len L hL.len
  have hmade : (wr.alloc (.cells #[] 54)).ownsRow wr.heap.size 54 33 (.slice (some ⟨wr.heap.size, 0, none⟩) 0 0) 0 [] := by simpa using World.ownsRow_made wr #[] 0 (Nat.le_refl _) (Nat.zero_le _) rfl
  rcases hL.out with ⟨rfl, h0⟩ | ⟨ad, cap, rfl, _⟩
  · have hn : L = [] := by simpa using h0
    refine wpList_append_own_none hg s x 22 ho wr.heap.size 54 i0 33 Try.underlying22 hi _ 0 [] hs hmade hx ?_
    exact hK _ _ (by rw [hn]; exact hmade) (below_new _ _)
  · have hlm : (L.map rfC).length = L.length := by simp
    rw [hlm] at hx hL
    refine wpList_append_own _ hg s x 22 ho wr.heap.size 54 i0 _ 33 48 Try.underlying22 hi hz0 hz1 hz2 (by simp [Value.cells, idC, Rf.zid]) (by decide) _ 0 [] hs hmade ad L.length cap (L.flatMap rfC) hx hlen ((hL.below (below_new wr _)).cells) (flat_one L) (by unfold maxLen; omega) (by omega) (by simp) ?_
    intro v' w' h1 h2 _
    refine hK v' w' (by show OwnF _ _ _ _; unfold OwnF; simpa using h1) ((below_new wr _).grown h2 (by simp) (by intro k hk; simp [Value.ownBlock] at hk; omega))
end

/-- What the document's Update leaves. -/
def DuP (L : List Rf.R) (us : List Rf.U) (all : Bool) (w : World) (e : Ending) (w' : World) : Prop :=
  ∃ v' vt, e = .returned (.tuple #[v', vt]) ∧ RefsAt w' v' (Rf.upd L us all).1 ∧ OwnI w' w.heap.size vt us.length (Rf.upd L us all).2 ∧ Below w.heap.size w w'
theorem names_step {us : List Rf.U} {k : Nat} {u : Rf.U} (h : us[k]? = some u) : namesOf us (k + 1) = namesOf us k ++ [u.name] := by
  obtain ⟨hk, rfl⟩ := List.getElem?_eq_some_iff.1 h
  unfold namesOf
  rw [List.take_succ_eq_append_getElem hk, List.map_append]; rfl
theorem errs_push (es : List Nat) (x : Nat) : Rf.errs (es ++ [x]) = (Rf.errs es || !decide (x = 0)) := by simp [Rf.errs]
theorem fine_len {L : List Rf.R} (h : Rf.fine L = true) : L.length ≤ 64 := ((Rf.fine_iff L).1 h).1
theorem fine_srt {L : List Rf.R} (h : Rf.fine L = true) : Rf.Srt L := ((Rf.fine_iff L).1 h).2.2

set_option maxHeartbeats 2000000 in
set_option maxRecDepth 100000 in
theorem refupdate_any (v uv : Value) (all : Bool) (L : List Rf.R) (us : List Rf.U) (w : World) (hL : RefsAt w v L) (hf : Rf.fine L = true) (hU : UpsAt w uv us) (hul : us.length ≤ 64) (hui : ∀ u ∈ us, u.old.length = 32 ∧ u.new.length = 32 ∧ u.name.size ≤ 1000) :
    Calls Try.prog 22 #[v, uv, .bool all] w (DuP L us all w) := by
  obtain ⟨uo, ucap, rfl⟩ := hU.form
  have hl := fine_len hf
  have HL := Lib.hid hL
  have HU := Lib.hid hU
  have HUN := Lib.hid hui
  have HF := Lib.hid hf
  have HID := Lib.hid hL.len
  have HRF := Lib.hid (run_ids us L [] hL.len (fun u hx => (hui u hx).2.1))
  have HUP := Lib.hid (show Rf.upd L us all = if all && Rf.errs (Rf.run L [] us).2 then (L, (Rf.run L [] us).2.map Rf.mark) else Rf.run L [] us from rfl)
  have HP := Lib.hid (show ∀ v' vt w', RefsAt w' v' (Rf.upd L us all).1 → OwnI w' w.heap.size vt us.length (Rf.upd L us all).2 → Below w.heap.size w w' → DuP L us all w (.returned (.tuple #[v', vt])) w' from fun v' vt w' h1 h2 h3 => ⟨v', vt, rfl, h1, h2, h3⟩)
  generalize Rf.upd L us all = UP at HUP HP
  generalize hrun : Rf.run L [] us = RN at HUP HRF
  have HRN := Lib.hid hrun
  clear hL hU hui hf hrun
  go_enter Try.func22, Try.ntmps22
  go_wp2_with (at_builtin; refine ap_copy (.tmp 14) (.tmp 15) rfl rfl rfl rfl HL.out hl ?_; intro v1 w1 HO1 HB1)
  have HD1 := Lib.hid (show Du w w1 v1 (.slice none 0 0) 0 L [] from ⟨HO1.out, World.ownsRow_nil _ _ _ _, HB1.out⟩)
  clear HO1 HB1
  go_loopw [8, 9, 10, 11] (fun vn vt m i wr => ∃ (k c : Nat) (M : List Rf.R) (es : List Nat), k ≤ us.length ∧ i = .int .i64 k ∧ m = .int .i64 c ∧ c ≤ k ∧ Hid (decide (c = 0) = !Rf.errs es) ∧ Hid (RN = ((Rf.run M (namesOf us k) (us.drop k)).1, es ++ (Rf.run M (namesOf us k) (us.drop k)).2)) ∧ Hid (Rf.fine M = true) ∧ Hid (∀ r ∈ M, r.id.length = 32) ∧ Hid (Du w wr vn vt k M es)) (fun _ _ _ i _ => us.length - (intOf i).toNat)
  case atStart => exact ⟨0, 0, L, [], by omega, rfl, rfl, by omega, rfl, HRN.out.symm, HF.out, HID.out, HD1.out⟩
  case round =>
    obtain ⟨k, c, M, es, hk, rfl, rfl, hck, HC, HE, HFM, HIM, HD⟩ := hrel
    by_cases hlt : k < us.length
    · have hlt' : (k : Int) < (us.length : Int) := by omega
      have hk0 : (0 : Int) ≤ (k : Int) := by omega
      obtain ⟨u, hu⟩ : ∃ u, us[k]? = some u := ⟨us[k], List.getElem?_eq_getElem hlt⟩
      obtain ⟨hu1, hu2, hu3⟩ := HUN.out u (List.mem_of_getElem? hu)
      have H1 := Lib.hid hu1
      have H2 := Lib.hid hu2
      have HWG := Lib.hid (refwrong_any _ (.slice uo us.length ucap) M us k u wr hu (HD.out.now.rows HIM.out) (fine_srt HFM.out) (fine_len HFM.out) (HU.out.below HD.out.bel) hul HUN.out)
      have HE2 := Lib.hid (show RN = ((Rf.run (Rf.nxt M (namesOf us k) u) (namesOf us (k + 1)) (us.drop (k + 1))).1, (es ++ [Rf.wrong M (namesOf us k) u]) ++ (Rf.run (Rf.nxt M (namesOf us k) u) (namesOf us (k + 1)) (us.drop (k + 1))).2) by
        rw [HE.out, run_step hu, names_step hu]; simp)
      have HNX := Lib.hid (show Rf.nxt M (namesOf us k) u = if Rf.wrong M (namesOf us k) u = 0 then Rf.put M u.name u.new else M from rfl)
      have HFN := Lib.hid (Rf.nxt_fine (seen := namesOf us k) (u := u) HFM.out)
      have HIN := Lib.hid (nxt_ids (S := namesOf us k) (u := u) HIM.out hu2)
      have HSP := Lib.hid (Rf.setD_put M u.name u.new (fine_srt HFM.out))
      have HUE := Lib.hid (show ∃ a, uo = some a ∧ ∀ W, Below w.heap.size w W → ∀ j y, (upC u)[j]? = some y → W.cell? ((a.add (k * 65)).add j) = some y by
        obtain ⟨a, e, _, _⟩ := HU.out.elem k u hu
        refine ⟨a, e, fun W hb => ?_⟩
        obtain ⟨a', e', _, h'⟩ := (HU.out.below hb).elem k u hu
        rw [e] at e'
        cases e'
        exact h')
      obtain ⟨a, rfl, hue⟩ := HUE.out
      have HUE2 := Lib.hid hue
      have hml := fine_len HFM.out
      generalize Rf.wrong M (namesOf us k) u = x at HWG HE2 HNX
      generalize Rf.nxt M (namesOf us k) u = M' at HE2 HNX HFN HIN
      clear hu hu1 hu2 hu3 HE hue HUE
      by_cases hx : x = 0
      · subst hx
        have HM' := Lib.hid (show Rf.setD (decide (u.new = Rf.zid)) M u.name u.new = M' by rw [HSP.out, HNX.out, if_pos rfl])
        have HC2 := Lib.hid (show decide (c = 0) = !Rf.errs (es ++ [0]) by rw [HC.out, errs_push]; simp)
        have HWG2 : Hid (Calls Try.prog 38 #[_, .slice (some a) us.length ucap, .int .i64 k] wr fun r w' => r = .returned (.int .i64 0) ∧ Below wr.heap.size wr w') := HWG.out
        clear HWG HC
        go_wp2_with fail
        refine HWG2.out.mono ?_
        rintro r w2 ⟨rfl, hb2⟩
        have HD2 := Lib.hid (HD.out.below hb2)
        clear HD HWG2 hb2
        go_wp2_with (at_builtin; refine ap_told (e := 0) (.tmp 27) (.tmp 29) rfl rfl rfl rfl HD2.out (by omega) rfl ?_; intro v3 w3 HD3)
        have c4 := up_nm (HUE2.out _ HD3.out.bel.drew)
        have HU4 := Lib.hid (up_mid (HUE2.out _ HD3.out.bel.drew) H1.out).2
        have HUI := Lib.hid (show Try.prog.underlying 35 = _ from Try.underlying35)
        have HINS := Lib.hid (idsize H2.out)
        have hA1 := add_block a (k * 65)
        have hA2 := add_off a (k * 65)
        have HST := Lib.hid (refset_any _ M u.name u.new w3.drew ((HD3.out.now.rows HIM.out).below (Below.refl _ _).drew) (by omega) H2.out)
        refine region_tail 11 (by kernel_rfl) (by kernel_rfl) ?_
        simp only [List.take_succ_cons, List.take_zero, List.drop_succ_cons, List.drop_zero]
        repeat still_step
        (with_reducible apply still_ld (hc := HU4.out) (hu := HUI.out) (hi := HINS.out))
        rfl
        rfl
        rfl
        rfl
        refine wpStill_nil ?_
        go_wp2_with fail
        refine HST.out.mono ?_
        rintro r w5 ⟨v5, rfl, ho5, hr5, hb5⟩
        rw [HM'.out] at ho5
        have hsz := HD3.out.bel.size
        have HD5 := Lib.hid (show Du w w5 v5 v3 (k + 1) M' (es ++ [0]) from ⟨own_base ho5 hsz, own_below (HD3.out.below (Below.refl _ _).drew).told hb5, below_step HD3.out.bel.drew hb5⟩)
        clear ho5 hr5 hb5 HST hsz
        go_wp2_with fail
        go_roundw
        case rel => exact ⟨k + 1, c, M', es ++ [0], by omega, by go_num, rfl, by omega, HC2, HE2, HFN, HIN, HD5⟩
        case measure => simp [intOf]; omega
      · have HM' := Lib.hid (show M' = M by rw [HNX.out, if_neg hx])
        have HC2 := Lib.hid (show decide (c + 1 = 0) = !Rf.errs (es ++ [x]) by rw [errs_push]; simp [hx])
        have hx1 : ((x : Int) == 0) = false := beq_eq_false_iff_ne.2 (by omega)
        rw [HM'.out] at HE2
        clear hx HC HNX HFN HIN
        go_wp2_with fail
        refine HWG.out.mono ?_
        rintro r w2 ⟨rfl, hb2⟩
        have HD2 := Lib.hid (HD.out.below hb2)
        clear HD HWG hb2
        go_wp2_with (at_builtin; refine ap_told (e := x) (.tmp 27) (.tmp 29) rfl rfl rfl rfl HD2.out (by omega) rfl ?_; intro v3 w3 HD3)
        go_roundw
        case rel => exact ⟨k + 1, c + 1, M, es ++ [x], by omega, by go_num, by go_num, by omega, HC2, HE2, HFM, HIM, HD3⟩
        case measure => simp [intOf]; omega
    · obtain rfl : k = us.length := by omega
      have HE2 := Lib.hid (show RN = (M, es) by rw [HE.out, List.drop_of_length_le (Nat.le_refl _)]; simp [Rf.run])
      have hlt2 : ¬ (us.length : Int) < (us.length : Int) := by omega
      clear hlt HE
      cases all with
      | false =>
        have HQ := Lib.hid (HP.out _ _ wr (by rw [HUP.out]; simp only [Bool.false_and, Bool.false_eq_true, if_false]; rw [HE2.out]; exact HD.out.now.rows HIM.out) (by rw [HUP.out]; simp only [Bool.false_and, Bool.false_eq_true, if_false]; rw [HE2.out]; exact HD.out.told) HD.out.bel)
        go_wp2_with fail
        go_ret2
        exact HQ.out
      | true =>
        by_cases hc : c = 0
        · subst hc
          have HER := Lib.hid (show Rf.errs es = false by have := HC.out; simpa using this)
          have HQ := Lib.hid (HP.out _ _ wr (by rw [HUP.out, HE2.out]; simp only [HER.out, Bool.and_false, Bool.false_eq_true, if_false]; exact HD.out.now.rows HIM.out) (by rw [HUP.out, HE2.out]; simp only [HER.out, Bool.and_false, Bool.false_eq_true, if_false]; exact HD.out.told) HD.out.bel)
          go_wp2_with fail
          go_ret2
          exact HQ.out
        · have HER := Lib.hid (show Rf.errs es = true by have := HC.out; simpa [hc] using this)
          have hc1 : ((c : Int) == 0) = false := beq_eq_false_iff_ne.2 (by omega)
          have HUP2 := Lib.hid (show UP = (L, es.map Rf.mark) by rw [HUP.out, HE2.out]; simp only [HER.out, Bool.and_true, if_true])
          obtain ⟨g, cap, hv, hgb, _⟩ := World.ownsRow.form HD.out.told (by omega)
          subst hv
          have HT := Lib.hid HD.out.told
          have HB := Lib.hid HD.out.bel
          have HLN := Lib.hid HD.out.told.len
          clear hc HC HER HD HUP HE2
          go_wp2_with fail
          go_loopw [13] (fun i wr => ∃ (k : Nat), k ≤ us.length ∧ i = .int .i64 k ∧ Hid (OwnI wr w.heap.size (.slice (some ⟨g, 0, none⟩) us.length cap) us.length ((es.take k).map Rf.mark ++ es.drop k)) ∧ Below w.heap.size w wr) (fun i _ => us.length - (intOf i).toNat)
          case atStart => exact ⟨0, by omega, rfl, HT.out, HB.out⟩
          case round =>
            obtain ⟨k, hk, rfl, HA, hb⟩ := hrel
            by_cases hlt : k < us.length
            · have hlt' : (k : Int) < (us.length : Int) := by omega
              have hk0 : (0 : Int) ≤ (k : Int) := by omega
              obtain ⟨e, he⟩ : ∃ e, es[k]? = some e := ⟨es[k]'(by rw [HLN.out]; exact hlt), List.getElem?_eq_getElem _⟩
              have c0 : wr.cell? ⟨g, k, none⟩ = some (.int .i64 (e : Int)) := by
                rw [World.ownsRow.cellAt HA.out k (by omega)]; simp only [errC, List.getElem?_map, mark_get he]; rfl
              have f0 := World.ownsRow.frozenAt HA.out k
              have HM := Lib.hid (mark_step he)
              by_cases h0 : e = 0
              · subst h0
                have HA2 := Lib.hid (World.ownsRow.stored HA.out k (.int .i64 ((12 : Nat) : Int))).1
                have HA3 := Lib.hid (show OwnI (wr.setCell ⟨g, k, none⟩ (.int .i64 ((12 : Nat) : Int))) w.heap.size (.slice (some ⟨g, 0, none⟩) us.length cap) us.length ((es.take (k + 1)).map Rf.mark ++ es.drop (k + 1)) by rw [HM.out]; unfold OwnI errC; rw [List.map_set]; exact HA2.out)
                have hb2 : Below w.heap.size w (wr.setCell ⟨g, k, none⟩ (.int .i64 ((12 : Nat) : Int))) := hb.setCell hgb _
                clear he HM HA HA2
                go_wp2_with fail
                go_roundw
                case rel => exact ⟨k + 1, by omega, by go_num, HA3, hb2⟩
                case measure => simp [intOf]; omega
              · have HM2 := Lib.hid (show (es.take (k + 1)).map Rf.mark ++ es.drop (k + 1) = (es.take k).map Rf.mark ++ es.drop k by
                  rw [HM.out]
                  have hm : Rf.mark e = e := by unfold Rf.mark; rw [if_neg h0]
                  rw [hm]
                  apply List.ext_getElem?
                  intro j
                  rw [List.getElem?_set]
                  split
                  · rename_i hj; subst hj
                    split
                    · exact (mark_get he).symm
                    · rename_i hx; exact absurd (List.getElem?_eq_some_iff.1 (mark_get he)).1 hx
                  · rfl)
                have h1 : ((e : Int) == 0) = false := beq_eq_false_iff_ne.2 (by omega)
                clear he HM h0
                go_wp2_with fail
                go_roundw
                case rel => exact ⟨k + 1, by omega, by go_num, by show OwnI _ _ _ _ _; rw [HM2.out]; exact HA.out, hb⟩
                case measure => simp [intOf]; omega
            · have HF2 := Lib.hid (show (es.take k).map Rf.mark ++ es.drop k = es.map Rf.mark by
                rw [List.take_of_length_le (by rw [HLN.out]; omega), List.drop_of_length_le (by rw [HLN.out]; omega), List.append_nil])
              rw [HF2.out] at HA
              have HLR := Lib.hid (HL.out.below hb)
              clear HF2
              go_wp2_with (at_builtin; refine ap_copy (.tmp 69) (.tmp 70) rfl rfl rfl rfl HLR.out hl ?_; intro v1 w1 HO1 HB1)
              have HQ := Lib.hid (HP.out v1 _ w1 (by rw [HUP2.out]; exact HO1.out.rows HID.out) (by rw [HUP2.out]; exact own_below HA.out HB1.out) (below_step hb HB1.out))
              go_ret2
              exact HQ.out

end Go.Proofs.Ytkdljagcdaphdaa
