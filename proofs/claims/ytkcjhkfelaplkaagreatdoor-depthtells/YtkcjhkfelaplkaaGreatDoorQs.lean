/-
  WALKS OF LAYER 12: the document's Grow once more, over the store whose objects lie whole (layer 11's walks).
-/
import Derived.Test.YtkcjhkfelaplkaaGreatDoorQr
import Derived.Test.YtkcjhkfelaplkaaGreatDoorQc
import Derived.Test.YtkcjhkfelaplkaaGreatDoorQj
import Derived.Test.YtkcjhkfelaplkaaGreatDoorQa
set_option linter.unusedVariables false
set_option linter.unusedSimpArgs false
set_option maxHeartbeats 8000000
set_option maxRecDepth 100000
section
namespace Go.Proofs.YtkcjhkfelaplkaaGreatDoor
open Go.RowKit
def goodG (S : List Sd) : Prop := S.length ≤ 24 ∧ ∀ s ∈ S, s.ok
instance (S : List Sd) : Decidable (goodG S) := by unfold goodG; infer_instance
theorem few_g (w : World) (v : Value) (S : List Sd) (h : SdsAt w v S) (hl : S.length ≤ maxLen) :
  Calls Tryz.prog 34 #[v, .int .i64 24] w fun r w' => r = .returned (.bool (decide (goodG S))) ∧ Below w.heap.size w w' := by
 unfold maxLen at hl
 obtain ⟨ao, cap, rfl⟩ := h.form
 have HH := Lib.hid h
 generalize hz : decide (goodG S) = z
 have HZ := Lib.hid hz
 clear h hz
 go_enter Tryz.func34, Tryz.ntmps34
 go_wp2_with fail
 go_loopw [5] (fun i wr => ∃ (k : Nat), k ≤ S.length ∧ k ≤ 24 ∧ i = .int .i64 k ∧ Hid (∀ (j : Nat) (s : Sd), j < k → S[j]? = some s → s.ok) ∧ Hid (w = wr)) (fun i _ => 24 - (intOf i).toNat)
 case atStart => exact ⟨0, by omega, by omega, rfl, fun j s hj => absurd hj (by omega), rfl⟩
 case round =>
  obtain ⟨k, hkS, hk24, rfl, HA, hw⟩ := hrel
  have hw' : w = wr := hw.out
  subst hw'
  by_cases hlt : k < S.length
  ·
   have h1' : (k : Int) < (S.length : Int) := by omega
   have hk0' : (0 : Int) ≤ (k : Int) := by omega
   by_cases h24 : k < 24
   ·
    have h2' : (k : Int) < 24 := by omega
    obtain ⟨s, hs⟩ : ∃ s, S[k]? = some s := ⟨S[k], List.getElem?_eq_getElem hlt⟩
    obtain ⟨a, rv, rfl, hR, hc⟩ := HH.out.elem k s hs
    obtain ⟨ro, rc, rfl⟩ := hR.form
    have hb := HH.out.k s (List.mem_of_getElem? hs)
    have e1 := hc 1 (.slice ro s.refs.length rc) rfl
    have e3 := hc 3 (.string s.x) rfl
    rw [add_two a (k * 4) 1 (by decide)] at e1
    rw [add_two a (k * 4) 3 (by decide)] at e3
    have hA1 := add_block a (k * 4)
    have hA2 : (a.add (k * 4)).off = a.off + k * 4 := by unfold Addr.add; split <;> simp_all
    have hb3 := hb.2.2.1
    have hb4 := hb.2.2.2
    unfold maxLen at hb3 hb4
    by_cases hok : s.ok
    ·
     have HA2 := Lib.hid (show ∀ (j : Nat) (y : Sd), j < k + 1 → S[j]? = some y → y.ok from fun j y hj hy => by
      by_cases e : j = k
      · subst e; rw [hs] at hy; cases hy; exact hok
      · exact HA.out j y (by omega) hy)
     have q1 : ¬ (10 : Int) < (s.refs.length : Int) := by have := hok.1; omega
     have q2 : ¬ (300 : Int) < (s.x.size : Int) := by have := hok.2; omega
     clear hs hR hc hok hb
     go_wp2_with fail
     go_roundw
     case rel => exact ⟨k + 1, by omega, by omega, by go_num, HA2, trivial⟩
     case measure => simp [intOf]; omega
    ·
     have HF := Lib.hid (show z = false by
      rw [← HZ.out]
      exact decide_eq_false (fun hg => hok (hg.2 s (List.mem_of_getElem? hs))))
     by_cases q : 10 < s.refs.length
     ·
      have q1 : (10 : Int) < (s.refs.length : Int) := by omega
      clear hs hR hc hok hb
      go_wp2_with fail
      go_ret
      exact ⟨ret_bool HF.out.symm, Below.refl _ _⟩
     ·
      have q1 : ¬ (10 : Int) < (s.refs.length : Int) := by omega
      have q2 : (300 : Int) < (s.x.size : Int) := by
       have : ¬ (s.refs.length ≤ 10 ∧ s.x.size ≤ 300) := hok
       omega
      clear hs hR hc hok hb
      go_wp2_with fail
      go_ret
      exact ⟨ret_bool HF.out.symm, Below.refl _ _⟩
   ·
    have h2' : ¬ (k : Int) < 24 := by omega
    have HF := Lib.hid (show z = false by
     rw [← HZ.out]
     exact decide_eq_false (fun hg => by have := hg.1; omega))
    have h3' : ¬ (S.length : Int) ≤ 24 := by omega
    go_wp2_with fail
    go_ret
    exact ⟨ret_bool (by rw [HF.out]), Below.refl _ _⟩
  ·
   have h1' : ¬ (k : Int) < (S.length : Int) := by omega
   have HF := Lib.hid (show z = true by
    rw [← HZ.out]
    refine decide_eq_true ⟨by omega, fun s hs => ?_⟩
    obtain ⟨i, hi⟩ := List.getElem?_of_mem hs
    have := (List.getElem?_eq_some_iff.1 hi).1
    exact HA.out i s (by omega) hi)
   have h3' : (S.length : Int) ≤ 24 := by omega
   go_wp2_with fail
   go_ret
   exact ⟨ret_bool (by rw [HF.out]), Below.refl _ _⟩
namespace R
theorem grow_any (w : World) (v : Value) (S : List Sd) (h : SdsAt w v S) (hg : goodG S) :
  Calls Tryz.prog 35 #[v] w fun r w' => ∃ sv iv L I kk, r = .returned (.tuple #[.agg #[sv], iv]) ∧ DSt w.heap.size kk w' sv L ∧ L.length ≤ 24 ∧ IdsAt w' iv I ∧ (∀ i ∈ I, i.length = 32) ∧ I.length ≤ 24 ∧ Below w.heap.size w w' := by
 obtain ⟨ao, cap, rfl⟩ := h.form
 have hS24 := hg.1
 have HG := Lib.hid hg.2
 have HH := Lib.hid h
 have HN0 := Lib.hid (heap_alloc_new w (.cells #[.slice none 0 0] 28))
 have HB2 := Lib.hid (below2 w (.cells #[.slice none 0 0] 28) (.cells #[.slice none 0 0] 28))
 have HX2 := Lib.hid (((below_new (w.alloc (.cells #[.slice none 0 0] 28)) (.cells #[.slice none 0 0] 28)).block w.heap.size (by simp)).trans HN0.out)
 have HN2 := Lib.hid (new2 w (.cells #[.slice none 0 0] 28) (.cells #[.slice none 0 0] 28))
 have HZ2 := Lib.hid (show ((w.alloc (.cells #[.slice none 0 0] 28)).alloc (.cells #[.slice none 0 0] 28)).heap.size = w.heap.size + 2 by simp)
 clear h hg HN0
 go_enter Tryz.func35, Tryz.ntmps35
 go_wp2_with fail
 change Code.wp _ _ _ _ ((w.alloc (.cells #[.slice none 0 0] 28)).alloc (.cells #[.slice none 0 0] 28))
 generalize (w.alloc (.cells #[.slice none 0 0] 28)).alloc (.cells #[.slice none 0 0] 28) = W1 at *
 go_loopw [5, 6] (fun iv i wr => ∃ (k : Nat) (sv : Value) (L : List St.It) (I : List (List UInt8)) (kk : Nat), k ≤ S.length ∧ i = .int .i64 k ∧ L.length ≤ k ∧ I.length ≤ k ∧ Hid (OwnI wr (w.heap.size + 2) iv I) ∧ Hid (DSt (w.heap.size + 2) kk wr sv L) ∧ Hid (kk < wr.heap.size ∧ ∀ g, iv.ownBlock = some g → g = kk) ∧ Hid (wr.heap[w.heap.size]? = some (.cells #[.slice none 0 0] 28)) ∧ Hid (wr.heap[w.heap.size + 1]? = some (.cells #[sv] 28)) ∧ Hid (Below w.heap.size w wr)) (fun _ i _ => S.length - (intOf i).toNat)
 case atStart => exact ⟨0, _, [], [], 0, by omega, rfl, by simp, by simp, OwnI.nil _ _, DSt.nil _ _ _, ⟨by have := HZ2.out; omega, fun g hg => by simp [Value.ownBlock] at hg⟩, HX2.out, HN2.out, HB2.out⟩
 case round =>
  obtain ⟨k, sv, L, I, kk, hk, rfl, hLk, hIk, HO, HD, HK, H0, H1, HB⟩ := hrel
  have hkk := HK.out.1
  have hwz := HB.out.size
  obtain ⟨so, sc, hform⟩ := HD.out.form
  subst hform
  have hlt1 := (Array.getElem?_eq_some_iff.1 H1.out).1
  have c1 : wr.cell? ⟨w.heap.size + 1, 0, none⟩ = some (.slice so L.length sc) := by rw [cell_of_row _ _ 0 _ _ _ H1.out]; rfl
  have c1' : wr.drew.cell? ⟨w.heap.size + 1, 0, none⟩ = some (.slice so L.length sc) := c1
  by_cases hlt : k < S.length
  ·
   have hlt' : (k : Int) < (S.length : Int) := by omega
   have hk0 : (0 : Int) ≤ (k : Int) := by omega
   obtain ⟨s, hs⟩ : ∃ s, S[k]? = some s := ⟨S[k], List.getElem?_eq_getElem hlt⟩
   have hok := HG.out s (List.mem_of_getElem? hs)
   have hsk := HH.out.k s (List.mem_of_getElem? hs)
   obtain ⟨a, rv, rfl, hR, hc⟩ := (HH.out.below HB.out).elem k s hs
   have HC := Lib.hid (show ∀ j u, (sdC s.k rv s.t s.x).toList[j]? = some u → wr.drew.cell? ((a.add (k * 4)).add j) = some u from fun j u hu => hc j u (by simpa using hu))
   have HCW := Lib.hid (show ∀ W', Below wr.heap.size wr.drew W' → ∀ j u, (sdC s.k rv s.t s.x).toList[j]? = some u → W'.cell? ((a.add (k * 4)).add j) = some u from fun W' hb j u hu => by
    have h0 := HC.out j u hu
    rw [hb.cell (World.block_lt_of_cell? _ _ h0)]; exact h0)
   have HSF := Lib.hid (show ∀ W', Below wr.heap.size wr.drew W' → W'.cell? ⟨w.heap.size + 1, 0, none⟩ = some (.slice so L.length sc) from fun W' hb => (hb.cell (p := ⟨w.heap.size + 1, 0, none⟩) hlt1).trans c1')
   have HSZ := Lib.hid (show (Tryz.prog.info? 134).map (·.size) = some (sdC s.k rv s.t s.x).toList.length from seed_size)
   have HSU := Lib.hid underSeed
   have HMK := Lib.hid (make_any wr.drew (.slice so L.length sc) _ rv L I s.k s.t s.x s.refs (HD.out.old.below (Below.refl _ _).drew) (RowsAt.below HO.out.rows (Below.refl _ _).drew) HO.out.len (by omega) (hR.below (Below.refl _ _).drew) hok.1 hsk.1 hsk.2.1 hok.2)
   clear hs hR hc hok hsk
   go_wp2_with fail
   refine wp_region_noPanic ?_
   refine wp_region_held_drew (S := (fun w' => Below wr.heap.size wr.drew w')) (by kernel_rfl) (Below.refl _ _) (fun hH => ?_)
   refine tk (i := 0) (v := ?_) ?_ ?_
   rotate_left
   · intro w' hSw; have q0 := HSF.out _ hSw; go_simp; try rfl
   try simp only [q0]
   refine tk (i := 1) (v := ?_) ?_ ?_
   rotate_left
   · intro w' hSw; go_simp; try rfl
   try simp only [q0]
   refine tk (i := 2) (v := ?_) ?_ ?_
   rotate_left
   · intro w' hSw; go_simp; try rfl
   try simp only [q0]
   refine tk (i := 3) (v := ?_) ?_ ?_
   rotate_left
   · intro w' hSw; go_simp; try rfl
   try simp only [q0]
   refine tk (i := 4) (v := ?_) ?_ ?_
   rotate_left
   · intro w' hSw; go_simp; try rfl
   try simp only [q0]
   refine wpAnyH_take (i := 5) rfl (by kernel_rfl) (by kernel_rfl) (by kernel_rfl) (fun _ _ _ h => h) (yields_at (p := a.add (k * 4)) (cs := (sdC s.k rv s.t s.x).toList) (by rfl) rfl rfl HCW.out HSU.out rfl HSZ.out) (by assumption) ?_
   try simp only [q0]
   refine wpAnyH_ready (rs := [6]) (by kernel_rfl) (by simp) ?_
   refine AllReadyH.cons rfl (fun K hK => ?_) AllReadyH.nil
   go_simp
   with_reducible refine HMK.out.mono ?_
   rintro r w2 ⟨cs, o, eo, bo, ca, cb, rfl, hO, hd5, ht5, hb2⟩
   have HB2' := Lib.hid ((Below.refl wr.heap.size wr).drew.trans hb2)
   have HEN := Lib.hid (refencode_any cs o eo bo ca cb w2 hO hd5 ht5)
   have hd2 : Below wr.heap.size wr.drew w2 := hb2
   clear HMK hO
   go_wp2_with fail
   refine hK.out _ _ hd2 (fun hH2 => ?_)
   clear hK K
   try simp only [q0]
   refine wpAnyH_ready (rs := [7]) (by kernel_rfl) (by simp) ?_
   refine AllReadyH.cons rfl (fun K hK => ?_) AllReadyH.nil
   go_simp
   with_reducible refine HEN.out.mono ?_
   rintro r w3 ⟨hr, hb3⟩
   have HB3 := Lib.hid (HB2'.out.trans (hb3.mono HB2'.out.size))
   have hd3 : Below wr.heap.size wr.drew w3 := hd2.trans (hb3.mono HB2'.out.size)
   cases hq : encOk o with
   | false =>
     rw [hq] at hr
     obtain rfl := (show r = .returned (.tuple #[.string ⟨#[]⟩, .bool false]) from hr)
     have HB3Z := Lib.hid HB3.out.size
     have HO3 := Lib.hid (HO.out.below HB3.out)
     have HD3 := Lib.hid (HD.out.below HB3.out)
     have H03 := Lib.hid ((HB3.out.block _ (by omega)).trans H0.out)
     have H13 := Lib.hid ((HB3.out.block _ hlt1).trans H1.out)
     have HBB := Lib.hid (HB.out.trans (HB3.out.mono HB.out.size))
     go_wp2_with fail
     refine hK.out _ _ hd3 (fun hH3 => ?_)
     clear hK K
     try simp only [q0]
     refine tk (i := 8) (v := ?_) ?_ ?_
     rotate_left
     · intro w' hSw; go_simp; try rfl
     try simp only [q0]
     refine tk (i := 9) (v := ?_) ?_ ?_
     rotate_left
     · intro w' hSw; go_simp; try rfl
     try simp only [q0]
     refine tk (i := 10) (v := ?_) ?_ ?_
     rotate_left
     · intro w' hSw; go_simp; try rfl
     try simp only [q0]
     refine tk (i := 11) (v := ?_) ?_ ?_
     rotate_left
     · intro w' hSw; go_simp; try rfl
     try simp only [q0]
     refine tk (i := 12) (v := ?_) ?_ ?_
     rotate_left
     · intro w' hSw; go_simp; try rfl
     try simp only [q0]
     refine wpAnyH_done (by kernel_rfl) ?_ _
     refine NoPanic.normal ?_
     clear hb2 hb3 HB3 HB2' HEN HO HD H0 H1 HB c1 c1' hq hr hH hH2 hH3 hd2 hd3
     go_wp2_with fail
     go_roundw
     case rel => exact ⟨k + 1, _, L, I, kk, by omega, by go_num, by omega, by omega, HO3.out, HD3.out, ⟨by have := HB3Z.out; omega, HK.out.2⟩, H03.out, H13.out, HBB.out⟩
     case measure => simp [intOf]; omega
   | true =>
     rw [hq] at hr
     obtain rfl := (show r = .returned (.tuple #[.string (encS o), .bool true]) from hr)
     have hsz : (encS o).size ≤ 4096 := by
      unfold encOk at hq
      rw [Bool.and_eq_true, decide_eq_true_eq] at hq
      exact hq.2
     have HO3 := Lib.hid (HO.out.below HB3.out)
     have HD3 := Lib.hid (HD.out.below HB3.out)
     have H03 := Lib.hid ((HB3.out.block _ (by omega)).trans H0.out)
     have H13 := Lib.hid ((HB3.out.block _ hlt1).trans H1.out)
     have HBB := Lib.hid (HB.out.trans (HB3.out.mono HB.out.size))
     have c13 : w3.cell? ⟨w.heap.size + 1, 0, none⟩ = some (.slice so L.length sc) := by rw [cell_of_row _ _ 0 _ _ _ H13.out]; rfl
     have hlt3 : w.heap.size + 1 < w3.heap.size := by have := HB3.out.size; omega
     have HB3Z := Lib.hid HB3.out.size
     generalize encS o = es at *
     go_wp2_with fail
     refine hK.out _ _ hd3 (fun hH3 => ?_)
     clear hK K
     try simp only [q0]
     refine tk (i := 8) (v := ?_) ?_ ?_
     rotate_left
     · intro w' hSw; go_simp; try rfl
     try simp only [q0]
     refine tk (i := 9) (v := ?_) ?_ ?_
     rotate_left
     · intro w' hSw; go_simp; try rfl
     try simp only [q0]
     refine tk (i := 10) (v := ?_) ?_ ?_
     rotate_left
     · intro w' hSw; go_simp; try rfl
     try simp only [q0]
     refine tk (i := 11) (v := ?_) ?_ ?_
     rotate_left
     · intro w' hSw; go_simp; try rfl
     try simp only [q0]
     refine tk (i := 12) (v := ?_) ?_ ?_
     rotate_left
     · intro w' hSw; go_simp; try rfl
     try simp only [q0]
     refine wpAnyH_done (by kernel_rfl) ?_ _
     refine NoPanic.normal ?_
     clear hb2 hb3 HB3 HB2' HEN HO HD H0 H1 HB c1 c1' hq hr hH hH2 hH3 hd2 hd3
     have HWI := Lib.hid (with_any (w.heap.size + 2) kk w3 (.slice so L.length sc) L es HD3.out (by omega) (by omega) (by have := HB3Z.out; omega) (by omega))
     go_wp2_with fail
     refine HWI.out.mono ?_
     rintro r w4 (⟨_, rfl, hb4⟩ | ⟨_, v4, rfl, hd4, hb4⟩)
     all_goals have hb4z := hb4.size
     all_goals have hb3z := HB3Z.out
     ·
      have HO4 := Lib.hid (HO3.out.below hb4)
      have HD4 := Lib.hid (HD3.out.below hb4)
      have H04 := Lib.hid ((hb4.block _ (by omega)).trans H03.out)
      have H14 := Lib.hid ((hb4.block _ hlt3).trans H13.out)
      have HB4 := Lib.hid (HBB.out.trans (hb4.mono HBB.out.size))
      have hz4 : (w4.alloc (.cells #[.slice so L.length sc] 28)).heap.size = w4.heap.size + 1 := by simp
      have HZ4 := Lib.hid hz4.symm
      clear hb4 HWI HO3 HD3 H03 H13 HBB hz4
      go_wp2_with ((with_reducible refine st_id2 (l := zId) (x := .tmp 10) (y := .tmp 36) (g := w4.heap.size + 1) ?_ ?_ ?_ ?_ ?_ HZ4.out ?_ ?_); rfl; rfl; rfl; rfl; rfl; rfl)
      go_roundw
      case rel => exact ⟨k + 1, _, L, I, kk, by omega, by go_num, by omega, by omega, HO4.out.below (below2 w4 _ _), HD4.out.below (below2 w4 _ _), ⟨by have := (below2 w4 (.cells #[.slice so L.length sc] 28) (.cells (idC zId).toArray 46)).size; simp; omega, HK.out.2⟩, ((below2 w4 _ _).block _ (by have := (Array.getElem?_eq_some_iff.1 H04.out).1; omega)).trans H04.out, ((below2 w4 _ _).block _ (by have := (Array.getElem?_eq_some_iff.1 H14.out).1; omega)).trans H14.out, HB4.out.trans ((below2 w4 _ _).mono HB4.out.size)⟩
      case measure => simp [intOf]; omega
     ·
      obtain ⟨vo, vc, rfl⟩ := hd4.form
      have hlen := St.put_length L ⟨shaI es, es⟩
      have HSL := Lib.hid (shaI_len es)
      generalize St.put L ⟨shaI es, es⟩ = L' at *
      generalize shaI es = sid at *
      have HO4 := Lib.hid (HO3.out.below hb4)
      have HD4 := Lib.hid hd4
      have H04 := Lib.hid ((hb4.block _ (by omega)).trans H03.out)
      have H14 := Lib.hid ((hb4.block _ hlt3).trans H13.out)
      have HB4 := Lib.hid (HBB.out.trans (hb4.mono HBB.out.size))
      have hlt4 := (Array.getElem?_eq_some_iff.1 H14.out).1
      have hz4 : (w4.alloc (.cells #[.slice vo L'.length vc] 28)).heap.size = w4.heap.size + 1 := by simp
      have HZ4 := Lib.hid hz4.symm
      have HB2 := Lib.hid (below2 w4 (.cells #[.slice vo L'.length vc] 28) (.cells (idC sid).toArray 46))
      have HX2 := Lib.hid (((below_new (w4.alloc (.cells #[.slice vo L'.length vc] 28)) (.cells (idC sid).toArray 46)).block w4.heap.size (by simp)).trans (heap_alloc_new w4 (.cells #[.slice vo L'.length vc] 28)))
      have HN2 := Lib.hid (new2 w4 (.cells #[.slice vo L'.length vc] 28) (.cells (idC sid).toArray 46))
      have HZ2' := Lib.hid (show ((w4.alloc (.cells #[.slice vo L'.length vc] 28)).alloc (.cells (idC sid).toArray 46)).heap.size = w4.heap.size + 2 by simp)
      clear hb4 hd4 HWI HO3 HD3 H03 H13 HBB hz4 hlt3 c13
      go_upto_region 10 with ((with_reducible refine st_id2 (l := sid) (x := .tmp 10) (y := .tmp 36) (g := w4.heap.size + 1) ?_ ?_ ?_ ?_ ?_ HZ4.out HSL.out ?_); rfl; rfl; rfl; rfl; rfl)
      generalize (w4.alloc (.cells #[.slice vo L'.length vc] 28)).alloc (.cells (idC sid).toArray 46) = W2 at *
      have HS4 := Lib.hid ((HB2.out.block _ hlt4).trans H14.out)
      have c9 : W2.cell? ⟨w4.heap.size, 0, none⟩ = some (.slice vo L'.length vc) := by rw [cell_of_row _ _ 0 _ _ _ HX2.out]; rfl
      have HD5 := Lib.hid ((HD4.out.below HB2.out).box HS4.out (by omega) #[.slice vo L'.length vc])
      have HO5 := Lib.hid ((HO4.out.below HB2.out).box HS4.out #[.slice vo L'.length vc])
      have H05 := Lib.hid ((setRow_other W2 (w.heap.size + 1) w.heap.size #[.slice vo L'.length vc] (by omega)).trans ((HB2.out.block _ (by omega)).trans H04.out))
      have H15 := Lib.hid (setRow_heap W2 (w.heap.size + 1) _ #[.slice vo L'.length vc] _ _ HS4.out)
      have HI5 := Lib.hid (row_news ((setRow_other W2 (w.heap.size + 1) (w4.heap.size + 1) #[.slice vo L'.length vc] (by omega)).trans HN2.out))
      have HB5 := Lib.hid (below_setRow (HB4.out.trans (HB2.out.mono HB4.out.size)) (show w.heap.size ≤ w.heap.size + 1 by omega) #[.slice vo L'.length vc])
      have HZ5 := Lib.hid ((setRow_size W2 (w.heap.size + 1) #[.slice vo L'.length vc]).trans HZ2'.out)
      clear HB2 HX2 HN2 HZ4 HO4 HD4 H04 H14 HB4
      go_upto_region 11 with ((with_reducible refine st_st (x := .tmp 4) (y := .tmp 39) (g := w.heap.size + 1) (v := .slice vo L'.length vc) (c := #[.slice so L.length sc]) ?_ ?_ ?_ ?_ HS4.out rfl rfl ?_); rfl; rfl; rfl; rfl)
      clear HS4 HZ2' c9
      generalize W2.setRow (w.heap.size + 1) #[.slice vo L'.length vc] = W3 at *
      go_wp2_with (first
       | ((with_reducible refine ld_id (l := sid) (x := .tmp 10) (p := ⟨w4.heap.size + 1, 0, none⟩) ?_ ?_ ?_ HI5.out HSL.out ?_); rfl; rfl; rfl)
       | ((with_reducible refine bs_id2 (l := sid) (x := .tmp 41) ?_ ?_ ?_ HSL.out ?_); rfl; rfl; rfl)
       | ((with_reducible refine ap_id_at (.tmp 40) (.tmp 42) ?_ ?_ ?_ ?_ HO5.out (by have := HZ5.out; omega) HSL.out (by omega) (fun v' w' h1 h2 h3 => ?_)); rfl; rfl; rfl; rfl))
      go_roundw
      case rel => 
       have hw3 := HZ5.out
       have hgs := h2.out.size
       have hg1 : (W3.alloc (.cells (idC sid).toArray 46)).heap.size = W3.heap.size + 1 := by simp
       have hD := HD5.out.grown HO5.out (fun g hg => .inl (HK.out.2 g hg)) h2.out
       have hfin : ∃ kk', DSt (w.heap.size + 2) kk' w' (.slice vo L'.length vc) L' ∧ kk' < w'.heap.size ∧ ∀ g, v'.ownBlock = some g → g = kk' := by
        rcases h3.out with e | e
        · exact ⟨kk, hD, by omega, fun g hg => HK.out.2 g (by rw [← e]; exact hg)⟩
        ·
         refine ⟨W3.heap.size + 1, ?_, (h1.out.own.lt _ e).2, fun g hg => by rw [e] at hg; injection hg with h; exact h.symm⟩
         exact HD5.out.grownTo HO5.out (fun g hg => .inl (HK.out.2 g hg)) h2.out (by omega)
       obtain ⟨kk', hD', hk1, hk2⟩ := hfin
       exact ⟨k + 1, _, L', I ++ [sid], kk', by omega, by go_num, by omega, by simp; omega, h1.out, hD', ⟨hk1, hk2⟩, box_grown HO5.out H05.out h2.out, box_grown HO5.out H15.out h2.out, (HB5.out.alloc HB5.out.size _).grown h2.out (by have := HZ5.out; simp; omega) (fun k hk => by have := (HO5.out.own.lt k hk).1; omega)⟩
      case measure => simp [intOf]; omega
  ·
   have hlt' : ¬ (k : Int) < (S.length : Int) := by omega
   have HD6 := Lib.hid (HD.out.box H0.out (by omega) #[.slice so L.length sc])
   have HO6 := Lib.hid (HO.out.box H0.out #[.slice so L.length sc])
   have HB6 := Lib.hid (below_setRow HB.out (Nat.le_refl _) #[.slice so L.length sc])
   go_wp2_with ((with_reducible refine st_st (x := .tmp 2) (y := .tmp 44) (g := w.heap.size) (v := .slice so L.length sc) (c := #[.slice none 0 0]) ?_ ?_ ?_ ?_ H0.out rfl rfl ?_); rfl; rfl; rfl; rfl)
   refine bodyPost_ret (results_cell_tmp (fn := Tryz.f35) (p := 2) (q := 3) (by rfl) _ _ w.heap.size _ _ _ _ (by rfl) (setRow_heap _ _ _ _ _ _ H0.out) underSt rfl sizeSt) rfl ?_
   exact ⟨.slice so L.length sc, _, rfl, L, ⟨kk, HD6.out.le (by omega)⟩, by omega, I, HO6.out.rows, HO6.out.len, by omega, HB6.out⟩
end R
end Go.Proofs.YtkcjhkfelaplkaaGreatDoor
end
section
namespace Go.Proofs.YtkcjhkfelaplkaaGreatDoor
open Go.RowKit
def ADecN (o : Ob) (w : World) (r : Ending) (w' : World) : Prop :=
 ∃ (cs : Array Value) (ao bo : Option Addr) (ca cb : Nat), r = .returned (.tuple #[.agg cs, .int .i64 0]) ∧ ObAt w' cs o ao bo ca cb ∧ (∀ a, ao = some a ∨ bo = some a → w.heap.size ≤ a.block) ∧ Below w.heap.size w w'
theorem decode_BN (fn : Nat) (hfn : fn = 146 ∨ fn = 147 ∨ fn = 148 ∨ fn = 149) (s : ByteArray) (w : World) (hs : s.size ≤ 4096) (h : Rm.bdR s.data.toList = ([], false))
  (hm : ∀ W, Calls Tryz.prog 108 #[.int .i64 (Rm.kindV s.data.toList)] W fun r w' => r = .returned (.func (.func fn) #[] #[]) ∧ W = w')
  (hb : ∀ W g, Rl W g (Rm.bdV s.data.toList, false) → Calls Tryz.prog fn #[.pointer (some ⟨g, 0, none⟩)] W (Bdy g (Rm.bodyF (Rm.kindV s.data.toList) (Rm.bdV s.data.toList)) W)) (hok : Rm.okB s.data.toList = true) :
  Calls Tryz.prog 75 #[.string s] w (ADecN (Rm.bodyF (Rm.kindV s.data.toList) (Rm.bdV s.data.toList)).1 w) := by
 have HS := Lib.hid noF.size
 have HO := Lib.hid noF.one
 have hz28 := (zero_of_info zero28).1
 have HBN := Lib.hid built_none
 generalize (obC noOb nilV nilV).toArray = z at HS HO hz28 HBN
 have h' : ¬ (4096 : Int) < (s.size : Int) := by omega
 have hsl := size_list s
 have hsm : (⟨s.data.toList.toArray⟩ : ByteArray) = s := by simp
 generalize hl : s.data.toList = l at *
 have hll : l.length ≤ 4096 := by omega
 have HSM := Lib.hid hsm
 have HA := Lib.hid h
 have HM := Lib.hid hm
 have HBD := Lib.hid hb
 have HOK := Lib.hid hok
 have HFN := Lib.hid hfn
 unfold ADecN
 clear hfn hl hsl hsm h hm hb hok
 go_enter Tryz.func75, Tryz.ntmps75
 go_wp2_with fail
 have R0 : Rl ((w.alloc (.cells z 59)).alloc (.cells #[.string s, .bool false] 181)) (w.heap.size + 1) (l, false) := by
  unfold Rl; rw [HSM.out]; exact heap_alloc2_new _ _ _
 have E0 := Lib.hid (heap_alloc2_old w (.cells z 59) (.cells #[.string s, .bool false] 181))
 have hB0 := ((Below.refl w.heap.size w).alloc (Nat.le_refl _) (.cells z 59)).alloc (by simp) (.cells #[.string s, .bool false] 181)
 have hk1 := kindR_len false l
 refine (kind_l (w.heap.size + 1) l false _ R0 (by omega)).mono ?_
 rintro r w1 ⟨rfl, R1, g1⟩
 have E1 := Lib.hid (held_grown E0.out g1 (by omega))
 have hB1 := below_own hB0 g1 (by omega)
 have S1 : w.heap.size + 2 ≤ w1.heap.size := by have := g1.size; simp at this; omega
 clear R0 E0 hB0 g1
 go_wp2_with fail
 refine (text_l (w.heap.size + 1) (Rm.kindR false l).1 (Rm.kindR false l).2 _ R1 (by omega)).mono ?_
 rintro r w2 ⟨rfl, R2, g2⟩
 have E2 := Lib.hid (held_grown E1.out g2 (by omega))
 have hB2 := below_own hB1 g2 (by omega)
 have S2 := Nat.le_trans S1 g2.size
 have hkb := kindV_bd l
 have hd : decide (Rm.textR (Rm.kindR false l).2 (Rm.kindR false l).1 = ([], false)) = true := decide_eq_true HA.out
 have HD := Lib.hid hd
 have hqf := bin_fn
 clear R1 E1 hB1 g2 hd S1
 go_wp2_with fail
 refine (HM.out _).mono ?_
 rintro r w3 ⟨rfl, rfl⟩
 go_wp2_with fail
 refine (ended_l (w.heap.size + 1) _ _ R2).mono ?_
 rintro r w3 ⟨rfl, rfl⟩
 rw [HD.out]
 rw [show Rm.textV (Rm.kindR false l).1 = Rm.bdV l from rfl]
 have R3 : Rl (w2.alloc (.cells #[.string ⟨(Rm.bdV l).toArray⟩, .bool false] 181)) w2.heap.size (Rm.bdV l, false) := heap_alloc_last _ _
 have E3 := Lib.hid (held_alloc (o := .cells #[.string ⟨(Rm.bdV l).toArray⟩, .bool false] 181) E2.out)
 have hB3 := hB2.alloc hB2.size (.cells #[.string ⟨(Rm.bdV l).toArray⟩, .bool false] 181)
 clear R2 E2 hB2
 rcases HFN.out with rfl | rfl | rfl | rfl
 all_goals
  go_wp2_with fail
  refine (HBD.out _ w2.heap.size R3).mono ?_
  rintro r w4 ⟨cs, ao, bo, ca, cb, rfl, hO, R4, g4, hnew⟩
  have E4 := Lib.hid (held_grown E3.out g4 (by omega))
  have hB4 := below_own hB3 g4 (by omega)
  have S4 : w2.heap.size + 1 ≤ w4.heap.size := by have := g4.size; simpa using this
  have HCS := Lib.hid hO.F.size
  have HCO := Lib.hid hO.F.one
  have R5 := R4.alloc (.cells cs 59)
  have E5 := Lib.hid (held_alloc (o := .cells cs 59) E4.out)
  have hB5 := hB4.alloc hB4.size (.cells cs 59)
  have K5 := Kp.box w4 cs 59
  have hO5 := hO.below ((Below.refl w4.heap.size w4).alloc (Nat.le_refl _) (.cells cs 59))
  have HFV := Lib.hid (fun W (hW : Below w4.heap.size w4 W) => fieldsValid_any cs _ ao bo ca cb W (hO.below hW))
  clear R3 E3 hB3 g4 R4 E4 hB4
  have hok2 := HOK.out
  unfold Rm.okB at hok2
  rw [Bool.and_eq_true, decide_eq_true_eq] at hok2
  obtain ⟨hend, hv⟩ := hok2
  have HD2 := Lib.hid (decide_eq_true hend)
  rw [hv] at HFV
  clear hend hv
  go_wp2_with (first
   | ((with_reducible apply st_ob (hs := HCS.out) (h1 := HCO.out)); rfl; rfl; rfl; rfl; exact HS.out)
   | (go_at_call 109; refine (ended_l w2.heap.size _ _ R5).mono ?_; rintro r w6 ⟨rfl, rfl⟩; rw [HD2.out])
   | ((fail_if_success (fail_if_success go_guarded)); (with_reducible refine load_ob_g (x := .tmp 9) ?_ ?_ ?_ K5 HCS.out ?_); rfl; rfl; kernel_rfl)
   | (go_at_call 110; refine (HFV.out _ ((Below.refl w4.heap.size w4).alloc (Nat.le_refl _) (.cells cs 59))).mono ?_; rintro r w7 ⟨rfl, hx7⟩; have E7 := Lib.hid ((hx7.block w.heap.size (by simp; omega)).trans E5.out); have K7 := K5.step hx7)
   | ((with_reducible refine load_ob (x := .tmp 9) ?_ ?_ ?_ K7 HCS.out ?_); rfl; rfl; rfl)
   | ((with_reducible refine st_obr (x := .tmp 2) (y := .tmp 39) ?_ ?_ ?_ ?_ E7.out HS.out HCS.out HCO.out ?_); rfl; rfl; rfl; rfl))
  have hB7 := hB5.trans (hx7.mono hB5.size)
  refine bodyPost_ret (results_cell_tmp (fn := Tryz.f75) (p := 2) (q := 3) (by rfl) _ _ w.heap.size _ _ _ _ (by rfl) (setRow_heap _ _ _ _ _ _ E7.out) Tryz.underlying59 rfl (obsize HCS.out)) rfl ⟨cs, ao, bo, ca, cb, rfl, ?_, ?_, below_setRow hB7 (Nat.le_refl _) _⟩
  · exact (hO5.below hx7).setRow (fun a ha => by have := hnew a ha; simp at this; omega)
  · exact fun a ha => by have := hnew a ha; simp at this; omega
theorem decode_obj (s : ByteArray) (o : Ob) (w : World) (hd : Rm.dec s.data.toList = some o) : Calls Tryz.prog 75 #[.string s] w (ADecN o w) := by
 have hsl := size_list s
 by_cases h4 : 4096 < s.size
 ·
  have : Rm.dec s.data.toList = none := by unfold Rm.dec; rw [if_neg (by omega)]
  rw [this] at hd; cases hd
 cases hA : Rm.okA s.data.toList with
 | false =>
   have : Rm.dec s.data.toList = none := by unfold Rm.dec; rw [if_neg (by rw [hA]; simp)]
   rw [this] at hd; cases hd
 | true =>
   have hA' := hA
   unfold Rm.okA at hA'
   rw [Bool.and_eq_true, decide_eq_true_eq, decide_eq_true_eq] at hA'
   obtain ⟨hR, hk1, hk2⟩ := hA'
   have hbl := bdV_len s.data.toList (by omega)
   have key : ∃ fn, (fn = 146 ∨ fn = 147 ∨ fn = 148 ∨ fn = 149) ∧ (∀ W, Calls Tryz.prog 108 #[.int .i64 (Rm.kindV s.data.toList)] W fun r w' => r = .returned (.func (.func fn) #[] #[]) ∧ W = w') ∧
     (∀ W g, Rl W g (Rm.bdV s.data.toList, false) → Calls Tryz.prog fn #[.pointer (some ⟨g, 0, none⟩)] W (Bdy g (Rm.bodyF (Rm.kindV s.data.toList) (Rm.bdV s.data.toList)) W)) := by
    unfold Rm.bodyF
    rcases (by omega : Rm.kindV s.data.toList = 1 ∨ Rm.kindV s.data.toList = 2 ∨ Rm.kindV s.data.toList = 3 ∨ Rm.kindV s.data.toList = 4) with e | e | e | e
    ·
     rw [e]
     exact ⟨_, .inl rfl, fun W => method_any 1 W, fun W g hr => blob_l g _ W hr hbl⟩
    ·
     rw [e]
     exact ⟨_, .inr (.inl rfl), fun W => method_any 2 W, fun W g hr => tree_any g _ W hr hbl⟩
    ·
     rw [e]
     exact ⟨_, .inr (.inr (.inl rfl)), fun W => method_any 3 W, fun W g hr => commit_any g _ W hr hbl⟩
    ·
     rw [e]
     exact ⟨_, .inr (.inr (.inr rfl)), fun W => method_any 4 W, fun W g hr => tag_any g _ W hr hbl⟩
   obtain ⟨fn, hfn, hm, hb⟩ := key
   cases hB : Rm.okB s.data.toList with
   | false =>
     have : Rm.dec s.data.toList = none := by unfold Rm.dec; rw [if_neg (by rw [hB]; simp)]
     rw [this] at hd; cases hd
   | true =>
     have : Rm.dec s.data.toList = some (Rm.bodyF (Rm.kindV s.data.toList) (Rm.bdV s.data.toList)).1 := by unfold Rm.dec; rw [if_pos ⟨by omega, hA, hB⟩]
     rw [this] at hd
     injection hd with e
     rw [← e]
     exact decode_BN fn hfn s w (by omega) hR hm hb hB
end Go.Proofs.YtkcjhkfelaplkaaGreatDoor
end
section
namespace Go.Proofs.YtkcjhkfelaplkaaGreatDoor
open Go.RowKit
theorem get_no (w : World) (base b : Nat) (v : Value) (L : List St.It) (id : List UInt8) (h : PSt w base b v L) (hil : id.length = 32) (hh : St.has L id = false) :
  Calls Tryz.prog 95 #[.pointer (some ⟨b, 0, none⟩), .agg (idC id).toArray] w fun e w' => e = .returned (.tuple #[.string .empty, .bool false]) ∧ Below w.heap.size w w' := by
 have HB := Lib.hid (below_new w (.cells (idC id).toArray 46))
 have HR := Lib.hid (row_news (heap_alloc_new w (.cells (idC id).toArray 46)))
 have HL := Lib.hid hil
 have HP := Lib.hid (place_any _ base b v L id (h.below HB.out) hil)
 rw [hh] at HP
 clear h hil hh
 go_enter Tryz.func95, Tryz.ntmps95
 go_wp2_with ((with_reducible refine ld_id (x := .tmp 3) (p := ⟨w.heap.size, 0, none⟩) ?_ ?_ ?_ HR.out HL.out ?_); rfl; rfl; rfl)
 refine HP.out.mono ?_
 rintro e w1 ⟨rfl, hb1⟩
 have hB := HB.out.trans (hb1.mono (show w.heap.size ≤ _ by simp))
 clear hb1 HP
 go_wp2_with fail
 go_ret2
 exact ⟨rfl, hB⟩
def NoOb (w : World) (r : Ending) (w' : World) : Prop := ∃ cs, r = .returned (.tuple #[.agg cs, .bool false]) ∧ cs.size = 72 ∧ cs.all (·.oneCell') = true ∧ Below w.heap.size w w'
theorem object_none (w : World) (base b : Nat) (v : Value) (L : List St.It) (id : List UInt8) (h : PSt w base b v L) (hil : id.length = 32) (hh : St.has L id = false) :
  Calls Tryz.prog 78 #[.pointer (some ⟨b, 0, none⟩), .agg (idC id).toArray] w (NoOb w) := by
 unfold NoOb
 have hz28 := (zero_of_info zero28).1
 have HS0 := Lib.hid noF.size
 have HN0 := Lib.hid noF.one
 have HBN := Lib.hid built_none
 have HL := Lib.hid hil
 have HP := Lib.hid (fun W (hb : Below w.heap.size w W) => get_no W base b v L id (h.below hb) hil hh)
 generalize (obC noOb nilV nilV).toArray = z at *
 have HR := Lib.hid (row_news (heap_alloc_new w (.cells (idC id).toArray 46)))
 have HR2 := Lib.hid (fun j u hu => ((below_new _ (.cells z 59)).cell (World.block_lt_of_cell? _ _ (HR.out j u hu))).trans (HR.out j u hu))
 have HE2 := Lib.hid (heap_alloc_new (w.alloc (.cells (idC id).toArray 46)) (.cells z 59))
 have HB2 := Lib.hid (below2 w (.cells (idC id).toArray 46) (.cells z 59))
 rw [show (w.alloc (.cells (idC id).toArray 46)).heap.size = w.heap.size + 1 by simp] at HE2
 clear hil h hh
 go_enter Tryz.func78, Tryz.ntmps78
 go_wp2_with ((with_reducible refine ld_id (x := .tmp 3) (p := ⟨w.heap.size, 0, none⟩) ?_ ?_ ?_ HR2.out HL.out ?_); rfl; rfl; rfl)
 refine (HP.out _ HB2.out).mono ?_
 rintro r w1 ⟨rfl, hb1⟩
 have hB := HB2.out.trans (hb1.mono (by simp; omega))
 have E1 := Lib.hid ((hb1.block (w.heap.size + 1) (by simp)).trans HE2.out)
 clear hb1 HR HR2 HE2 HB2 HP
 go_wp2_with (first
  | ((with_reducible refine bd_obz ?_ ?_ HBN.out ?_); rfl; rfl)
  | ((with_reducible refine st_obr (x := .tmp 4) (y := .tmp 18) ?_ ?_ ?_ ?_ E1.out HS0.out HS0.out HN0.out ?_); rfl; rfl; rfl; rfl))
 refine bodyPost_ret (results_cell_tmp (fn := Tryz.f78) (p := 4) (q := 5) (by rfl) _ _ (w.heap.size + 1) _ _ _ _ (by rfl) (setRow_heap _ _ _ _ _ _ E1.out) Tryz.underlying59 rfl (obsize HS0.out)) rfl ⟨_, rfl, HS0.out, HN0.out, below_setRow hB (by omega) _⟩
def AOb (o : Ob) (w : World) (r : Ending) (w' : World) : Prop :=
 ∃ (cs : Array Value) (ao bo : Option Addr) (ca cb : Nat), r = .returned (.tuple #[.agg cs, .bool true]) ∧ ObAt w' cs o ao bo ca cb ∧ (∀ a, ao = some a ∨ bo = some a → w.heap.size ≤ a.block) ∧ Below w.heap.size w w'
theorem object_at (w : World) (base b : Nat) (v : Value) (L : List St.It) (k : Nat) (r : St.It) (o : Ob) (h : PSt w base b v L) (hr : L[k]? = some r) (hd : Rm.dec r.text.data.toList = some o) :
  Calls Tryz.prog 78 #[.pointer (some ⟨b, 0, none⟩), .agg (idC r.id).toArray] w (AOb o w) := by
 unfold AOb
 have hrl := h.len r (List.mem_of_getElem? hr)
 have hz28 := (zero_of_info zero28).1
 have HS0 := Lib.hid noF.size
 have HN0 := Lib.hid noF.one
 have HL := Lib.hid hrl
 have HP := Lib.hid (fun W (hb : Below w.heap.size w W) => get_at W base b v L k r (h.below hb) hr)
 have HD := Lib.hid (fun W => decode_obj r.text o W hd)
 generalize (obC noOb nilV nilV).toArray = z at *
 generalize r.id = id at *
 generalize r.text = text at *
 have HR := Lib.hid (row_news (heap_alloc_new w (.cells (idC id).toArray 46)))
 have HR2 := Lib.hid (fun j u hu => ((below_new _ (.cells z 59)).cell (World.block_lt_of_cell? _ _ (HR.out j u hu))).trans (HR.out j u hu))
 have HE2 := Lib.hid (heap_alloc_new (w.alloc (.cells (idC id).toArray 46)) (.cells z 59))
 have HB2 := Lib.hid (below2 w (.cells (idC id).toArray 46) (.cells z 59))
 rw [show (w.alloc (.cells (idC id).toArray 46)).heap.size = w.heap.size + 1 by simp] at HE2
 clear hrl h hr hd
 go_enter Tryz.func78, Tryz.ntmps78
 go_wp2_with ((with_reducible refine ld_id (x := .tmp 3) (p := ⟨w.heap.size, 0, none⟩) ?_ ?_ ?_ HR2.out HL.out ?_); rfl; rfl; rfl)
 refine (HP.out _ HB2.out).mono ?_
 rintro e w1 ⟨rfl, hb1⟩
 have hB := HB2.out.trans (hb1.mono (by simp; omega))
 have E1 := Lib.hid ((hb1.block (w.heap.size + 1) (by simp)).trans HE2.out)
 have S1 : w.heap.size + 2 ≤ w1.heap.size := by have := hb1.size; simpa using this
 clear hb1 HR HR2 HE2 HB2 HP
 go_wp2_with fail
 refine (HD.out _).mono ?_
 rintro e w2 ⟨cs, ao, bo, ca, cb, rfl, hO, hnew, hb2⟩
 have hB2 := hB.trans (hb2.mono hB.size)
 have HCS := Lib.hid hO.F.size
 have HCO := Lib.hid hO.F.one
 have HN := Lib.hid (heap_alloc_last w2 (.cells cs 59))
 have hO3 := hO.below ((Below.refl w2.heap.size w2).alloc (Nat.le_refl _) (.cells cs 59))
 have E3 := Lib.hid (held_alloc (o := .cells cs 59) ((hb2.block (w.heap.size + 1) (by omega)).trans E1.out))
 have hB3 := hB2.alloc hB2.size (.cells cs 59)
 clear HD hb2 E1
 go_wp2_with (first
  | ((with_reducible refine st_ob2 (x := .tmp 8) (y := .tmp 22) (g := w2.heap.size) ?_ ?_ ?_ ?_ ?_ ?_ HCS.out HCO.out ?_); rfl; rfl; rfl; rfl; exact HS0.out; rfl)
  | ((with_reducible refine ld_obr (x := .tmp 8) ?_ ?_ ?_ HN.out HCS.out ?_); rfl; rfl; rfl)
  | ((with_reducible refine st_obr (x := .tmp 4) (y := .tmp 24) ?_ ?_ ?_ ?_ E3.out HS0.out HCS.out HCO.out ?_); rfl; rfl; rfl; rfl))
 refine bodyPost_ret (results_cell_tmp (fn := Tryz.f78) (p := 4) (q := 5) (by rfl) _ _ (w.heap.size + 1) _ _ _ _ (by rfl) (setRow_heap _ _ _ _ _ _ E3.out) Tryz.underlying59 rfl (obsize HCS.out)) rfl ⟨cs, ao, bo, ca, cb, rfl, hO3.setRow (fun a ha => by have := hnew a ha; omega), (fun a ha => by have := hnew a ha; omega), below_setRow hB3 (by omega) _⟩
end Go.Proofs.YtkcjhkfelaplkaaGreatDoor
end
