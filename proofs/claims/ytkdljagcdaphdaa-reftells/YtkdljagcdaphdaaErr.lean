/-
  WALKS OF LAYER 9: rows of errors: ContainsFunc, markOthers.
-/
import Derived.Test.YtkdljagcdaphdaaSet
namespace Go.Proofs.Ytkdljagcdaphdaa
open Go.RowKit
set_option linter.unusedVariables false
set_option linter.unusedSimpArgs false

def errC (es : List Nat) : List Value := es.map (fun (e : Nat) => Value.int .i64 ((e : Nat) : Int))
/-- Block g is a row of errors of the call's own. -/
def Errs (w : World) (g n : Nat) (es : List Nat) : Prop := w.ownsRow 0 25 1 (.slice (some ⟨g, 0, none⟩) n n) n (errC es)
theorem Errs.len {w : World} {g n : Nat} {es : List Nat} (h : Errs w g n es) : es.length = n := by have := h.1; simpa [errC] using this
theorem Errs.cell {w : World} {g n : Nat} {es : List Nat} (h : Errs w g n es) (j e : Nat) (hj : es[j]? = some e) : w.cell? ⟨g, j, none⟩ = some (.int .i64 (e : Int)) := by
  rw [h.cellAt j (by have := (List.getElem?_eq_some_iff.1 hj).1; have := h.len; omega)]; simp [errC, hj]
theorem Errs.frozen {w : World} {g n : Nat} {es : List Nat} (h : Errs w g n es) (j : Nat) : w.frozen? ⟨g, j, none⟩ = false := h.frozenAt j
theorem Errs.set {w : World} {g n : Nat} {es : List Nat} (h : Errs w g n es) (j x : Nat) : Errs (w.setCell ⟨g, j, none⟩ (.int .i64 (x : Int))) g n (es.set j x) := by
  have := (h.stored j (.int .i64 (x : Int))).1
  unfold Errs errC
  rw [List.map_set]
  exact this
theorem Errs.lt {w : World} {g n : Nat} {es : List Nat} (h : Errs w g n es) : g < w.heap.size := (World.ownsRow.lt h g rfl).2
theorem Errs.kept {w w' : World} {g n : Nat} {es : List Nat} {row : Option Nat} (h : Errs w g n es) (hg : w.grownBy w' row) (hne : some g ≠ row) : Errs w' g n es := World.ownsRow.kept h hg (.inr hne)

theorem errs_take {es : List Nat} {k e : Nat} (h : es[k]? = some e) : Rf.errs (es.drop k) = (!decide (e = 0) || Rf.errs (es.drop (k + 1))) := by
  obtain ⟨hk, rfl⟩ := List.getElem?_eq_some_iff.1 h
  rw [List.drop_eq_getElem_cons hk]; rfl
set_option maxRecDepth 100000 in
theorem upd1_any (e : Nat) (w : World) : Calls Try.prog 36 #[.int .i64 (e : Int)] w fun r w' => r = .returned (.bool (!decide (e = 0))) ∧ w = w' := by
  by_cases h : e = 0
  · subst h
    go_enter Try.func36, Try.ntmps36
    go_wp2_with fail
    go_ret
    exact ⟨rfl, rfl⟩
  · have h1 : ((e : Int) != 0) = true := by rw [bne_iff_ne]; omega
    have HZ := Lib.hid (show (!decide (e = 0)) = true by simp [h])
    generalize (!decide (e = 0)) = z at HZ
    clear h
    go_enter Try.func36, Try.ntmps36
    go_wp2_with fail
    go_ret
    exact ⟨ret_bool (by rw [HZ.out]), rfl⟩
set_option maxHeartbeats 1000000 in
set_option maxRecDepth 100000 in
theorem eindex_any (g n : Nat) (es : List Nat) (w : World) (h : Errs w g n es) (hn : n ≤ 1000) :
    Calls Try.prog 45 #[.slice (some ⟨g, 0, none⟩) n n, .func (.func 36) #[] #[]] w fun r w' => ∃ x : Int, r = .returned (.int .i64 x) ∧ decide (0 ≤ x) = Rf.errs es ∧ w = w' := by
  have HL := Lib.hid h.len
  have HE := Lib.hid h
  clear h
  generalize hz : Rf.errs es = z
  have HZ := Lib.hid hz
  clear hz
  go_enter Try.func45, Try.ntmps45
  go_wp2_with fail
  go_loop [8] (fun i => ∃ (k : Nat), k ≤ n ∧ i = .int .i64 k ∧ Hid (Rf.errs (es.drop k) = z)) (fun i => n - (intOf i).toNat)
  case atStart => exact ⟨0, by omega, rfl, HZ.out⟩
  case round =>
    obtain ⟨k, hk, rfl, HA⟩ := hrel
    by_cases hlt : k < n
    · have hlt' : (k : Int) < (n : Int) := by omega
      have hk0 : (0 : Int) ≤ (k : Int) := by omega
      obtain ⟨e, he⟩ : ∃ e, es[k]? = some e := ⟨es[k]'(by rw [HL.out]; exact hlt), List.getElem?_eq_getElem _⟩
      have c0 := HE.out.cell k e he
      have HS := Lib.hid (HA.out.symm.trans (errs_take he))
      have HC := Lib.hid (fun W => upd1_any e W)
      clear he
      cases hq : decide (e = 0) with
      | true =>
        rw [hq] at HC HS
        have HS2 := Lib.hid (show Rf.errs (es.drop (k + 1)) = z by rw [HS.out]; rfl)
        clear hq
        go_wp2_with (refine (HC.out _).mono ?_; rintro r wx ⟨rfl, rfl⟩)
        go_round
        case rel => exact ⟨k + 1, by omega, by go_num, HS2⟩
        case measure => simp [intOf]; omega
      | false =>
        rw [hq] at HC HS
        have HS2 := Lib.hid (show z = true by rw [HS.out]; rfl)
        clear hq
        go_wp2_with (refine (HC.out _).mono ?_; rintro r wx ⟨rfl, rfl⟩)
        go_ret
        exact ⟨_, rfl, by rw [HS2.out]; simp, rfl⟩
    · have HS2 := Lib.hid (show z = false by rw [← HA.out, List.drop_of_length_le (by rw [HL.out]; omega)]; rfl)
      go_wp2_with fail
      go_ret
      exact ⟨_, rfl, by rw [HS2.out]; rfl, rfl⟩
set_option maxRecDepth 100000 in
theorem contains_any (g n : Nat) (es : List Nat) (w : World) (h : Errs w g n es) (hn : n ≤ 1000) :
    Calls Try.prog 35 #[.slice (some ⟨g, 0, none⟩) n n, .func (.func 36) #[] #[]] w fun r w' => r = .returned (.bool (Rf.errs es)) ∧ w = w' := by
  have HI := Lib.hid (eindex_any g n es w h hn)
  generalize Rf.errs es = z at HI
  clear h
  go_enter Try.func35, Try.ntmps35
  go_wp2_with fail
  refine HI.out.mono ?_
  rintro r wx ⟨x, rfl, hx, rfl⟩
  have HX := Lib.hid hx
  clear hx HI
  go_wp2_with fail
  go_ret
  exact ⟨ret_bool HX.out, rfl⟩
theorem mark_step {es : List Nat} {k e : Nat} (h : es[k]? = some e) : (es.take (k + 1)).map Rf.mark ++ es.drop (k + 1) = ((es.take k).map Rf.mark ++ es.drop k).set k (Rf.mark e) := by
  obtain ⟨hk, rfl⟩ := List.getElem?_eq_some_iff.1 h
  have hl : ((es.take k).map Rf.mark).length = k := by rw [List.length_map, List.length_take]; omega
  rw [List.set_append_right _ _ (by omega), hl, Nat.sub_self, List.drop_eq_getElem_cons hk, List.set_cons_zero, List.take_succ_eq_append_getElem hk, List.map_append, List.append_assoc]
  rfl
theorem mark_get {es : List Nat} {k e : Nat} (h : es[k]? = some e) : ((es.take k).map Rf.mark ++ es.drop k)[k]? = some e := by
  obtain ⟨hk, rfl⟩ := List.getElem?_eq_some_iff.1 h
  rw [List.getElem?_append_right (by simp; omega)]
  simp [Nat.min_eq_left (Nat.le_of_lt hk), List.getElem?_eq_getElem hk]
set_option maxHeartbeats 1000000 in
set_option maxRecDepth 100000 in
theorem mark_any (g n : Nat) (es : List Nat) (w : World) (h : Errs w g n es) (hn : n ≤ 1000) :
    Calls Try.prog 37 #[.slice (some ⟨g, 0, none⟩) n n] w fun r w' => r = .returned (.tuple #[]) ∧ Errs w' g n (es.map Rf.mark) ∧ w.grownBy w' (some g) := by
  have HL := Lib.hid h.len
  have HE := Lib.hid h
  clear h
  go_enter Try.func37, Try.ntmps37
  go_wp2_with fail
  go_loopw [6] (fun i wr => ∃ (k : Nat), k ≤ n ∧ i = .int .i64 k ∧ Hid (Errs wr g n ((es.take k).map Rf.mark ++ es.drop k)) ∧ Hid (w.grownBy wr (some g))) (fun i _ => n - (intOf i).toNat)
  case atStart => exact ⟨0, by omega, rfl, HE.out, grown_refl _ _⟩
  case round =>
    obtain ⟨k, hk, rfl, HA, HG⟩ := hrel
    by_cases hlt : k < n
    · have hlt' : (k : Int) < (n : Int) := by omega
      have hk0 : (0 : Int) ≤ (k : Int) := by omega
      obtain ⟨e, he⟩ : ∃ e, es[k]? = some e := ⟨es[k]'(by rw [HL.out]; exact hlt), List.getElem?_eq_getElem _⟩
      have c0 := HA.out.cell k e (mark_get he)
      have f0 := HA.out.frozen k
      have HM := Lib.hid (mark_step he)
      by_cases h0 : e = 0
      · subst h0
        have HA2 := Lib.hid (HA.out.set k 12)
        have HM2 := Lib.hid (show (es.take (k + 1)).map Rf.mark ++ es.drop (k + 1) = ((es.take k).map Rf.mark ++ es.drop k).set k 12 from HM.out)
        have HG2 := Lib.hid (HG.out.trans (grown_setCell wr ⟨g, k, none⟩ (.int .i64 ((12 : Nat) : Int))))
        clear he HM HA
        go_wp2_with fail
        go_roundw
        case rel => exact ⟨k + 1, by omega, by go_num, by show Errs _ _ _ _; rw [HM2.out]; exact HA2.out, HG2.out⟩
        case measure => simp [intOf]; omega
      · have HM2 := Lib.hid (show (es.take (k + 1)).map Rf.mark ++ es.drop (k + 1) = (es.take k).map Rf.mark ++ es.drop k by
          rw [HM.out]
          have hm : Rf.mark e = e := by unfold Rf.mark; rw [if_neg h0]
          rw [hm]
          apply List.ext_getElem?
          intro j
          rw [List.getElem?_set]
          split
          · rename_i hj; subst hj
            split
            · exact (mark_get he).symm
            · rename_i hx; exact absurd (List.getElem?_eq_some_iff.1 (mark_get he)).1 hx
          · rfl)
        have h1 : ((e : Int) == 0) = false := beq_eq_false_iff_ne.2 (by omega)
        clear he HM h0
        go_wp2_with fail
        go_roundw
        case rel => exact ⟨k + 1, by omega, by go_num, by show Errs _ _ _ _; rw [HM2.out]; exact HA.out, HG⟩
        case measure => simp [intOf]; omega
    · have HF := Lib.hid (show (es.take k).map Rf.mark ++ es.drop k = es.map Rf.mark by
        rw [List.take_of_length_le (by rw [HL.out]; omega), List.drop_of_length_le (by rw [HL.out]; omega), List.append_nil])
      rw [HF.out] at HA
      go_wp2_with fail
      refine bodyPost_end (results_none rfl _ _ _) rfl ?_
      exact ⟨rfl, HA.out, HG.out⟩

end Go.Proofs.Ytkdljagcdaphdaa
