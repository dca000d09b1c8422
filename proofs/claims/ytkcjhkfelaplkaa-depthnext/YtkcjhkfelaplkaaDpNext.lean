/-
  WALKS OF LAYER 13: Next.
-/
import Derived.Test.YtkcjhkfelaplkaaDpSort
import Derived.Test.YtkcjhkfelaplkaaDpSet
import Derived.Test.YtkcjhkfelaplkaaDpCompact
import Derived.Test.YtkcjhkfelaplkaaBase
namespace Go.Proofs.Ytkcjhkfelaplkaa
open Go.RowKit
set_option linter.unusedVariables false
set_option linter.unusedSimpArgs false

theorem dpcompact_any (w : World) (base : Nat) (v : Value) (I : List (List UInt8)) (h : OwnI w base v I) (hn : I.length ≤ 100000) :
    Calls Try.prog 15 #[v] w fun r w' => ∃ v', r = .returned v' ∧ OwnI w' base v' (Lib.compact I) ∧ w.grownBy w' v.ownBlock := by
  by_cases h2 : I.length < 2
  · have he : Lib.compact I = I := Lib.compact_all I fun j hj => by
      have : j = 0 := by omega
      subst this
      exact Lib.keeps_lt_one _ 0 (by omega)
    obtain ⟨ao, cap, rfl⟩ := h.rows.form
    refine (compact_few w ao _ cap (by simpa using h2)).mono ?_
    rintro r w' ⟨rfl, rfl⟩
    exact ⟨_, rfl, by rw [he]; exact h, World.grownBy.refl _ _⟩
  · obtain ⟨g, cap, rfl, hb, hlt⟩ := h.own.form (by omega)
    refine (compact_own w base g cap I h hn (by omega)).mono ?_
    rintro r w' ⟨rfl, h1, h3⟩
    exact ⟨_, rfl, h1, h3⟩
/-- What Next answers. -/
def NextP (O S D : List (List UInt8)) (w : World) (r : Ending) (w' : World) : Prop :=
  ∃ v' R, r = .returned v' ∧ IdsAt w' v' R ∧ Gr.Up R ∧ (∀ x, x ∈ R ↔ x ∈ S ∨ (x ∈ O ∧ x ∉ D)) ∧ (∀ x ∈ R, x.length = 32) ∧ R.length ≤ S.length + O.length ∧ Below w.heap.size w w'
theorem compact_len (I : List (List UInt8)) : (Lib.compact I).length ≤ I.length := by
  unfold Lib.compact Lib.compactUpTo
  rw [List.length_map]
  refine Nat.le_trans (List.length_filter_le _ _) ?_
  simp
set_option maxHeartbeats 4000000 in
set_option maxRecDepth 100000 in
theorem dpnext_any (w : World) (ov sv dv : Value) (O S D : List (List UInt8)) (hO : IdsAt w ov O) (hS : IdsAt w sv S) (hD : IdsAt w dv D) (lO : ∀ i ∈ O, i.length = 32) (lS : ∀ i ∈ S, i.length = 32) (lD : ∀ i ∈ D, i.length = 32)
    (nO : O.length ≤ 500) (nS : S.length ≤ 500) (nD : D.length ≤ 500) :
    Calls Try.prog 6 #[ov, sv, dv] w (NextP O S D w) := by
  unfold NextP
  obtain ⟨oo, oc, rfl⟩ : ∃ ao cap, ov = .slice ao O.length cap := by simpa using RowsAt.form hO
  have HO := Lib.hid hO
  have HS := Lib.hid hS
  have HOL := Lib.hid lO
  have HSL := Lib.hid lS
  have HSET := Lib.hid (dpset_any w dv D hD lD (by omega))
  clear hO hS hD lO lS lD
  go_enter Try.func6, Try.ntmps6
  go_wp2_with fail
  with_reducible refine HSET.out.mono ?_
  rintro r w1 ⟨b, n, SD, rfl, hI1, hm1, hb1, hn1, hB1⟩
  have HI1 := Lib.hid hI1
  have HM1 := Lib.hid hm1
  have HB1 := Lib.hid hB1
  have hsz1 := hB1.size
  have hbl := hI1.lt
  have HCL := Lib.hid (cloneI_any sv S w1 (HS.out.below hB1) HSL.out (by omega))
  clear hI1 hm1 hB1 HSET
  go_wp2_with fail
  with_reducible refine HCL.out.mono ?_
  rintro r w2 ⟨nv, rfl, hO2, hB2⟩
  have HO2 := Lib.hid hO2
  have HI2 := Lib.hid (HI1.out.below hB2)
  have HB2 := Lib.hid (HB1.out.trans (hB2.mono hsz1))
  have HWK := Lib.hid (show w1.heap.size ≤ w2.heap.size from hB2.size)
  have HBL := Lib.hid hbl
  have HWS := Lib.hid hsz1
  clear hO2 hB2 HCL HI1
  clear hsz1 hbl
  generalize w1.heap.size = wk at *
  go_wp2_with fail
  go_loopw [8, 17] (fun nv i wr => ∃ (k : Nat) (N : List (List UInt8)), k ≤ O.length ∧ i = .int .i64 k ∧ Hid (N.length ≤ S.length + k) ∧ Hid (∀ x, x ∈ N ↔ x ∈ S ∨ (x ∈ O.take k ∧ x ∉ D)) ∧ Hid (OwnI wr wk nv N) ∧ Hid (Ids wr b n SD) ∧ Hid (wk ≤ wr.heap.size) ∧ Hid (Below w.heap.size w wr)) (fun _ i _ => O.length - (intOf i).toNat)
  case atStart => exact ⟨0, S, by omega, rfl, Nat.le_refl _, fun x => by simp, HO2.out, HI2.out, HWK, HB2.out⟩
  case round =>
    obtain ⟨k, N, hk, rfl, HNL, HNM, HON, HIS, HWR, HB⟩ := hrel
    by_cases hlt : k < O.length
    · have hlt' : (k : Int) < (O.length : Int) := by omega
      have hk0 : (0 : Int) ≤ (k : Int) := by omega
      obtain ⟨id, hi⟩ : ∃ id, O[k]? = some id := ⟨O[k], List.getElem?_eq_getElem hlt⟩
      have HID := Lib.hid (HOL.out id (List.mem_of_getElem? hi))
      obtain ⟨a, rfl, _, hc⟩ := (HO.out.below HB.out).elem k (idC id) (by rw [List.getElem?_map, hi]; rfl)
      have HC := Lib.hid hc
      have HTK := Lib.hid (show O.take (k + 1) = O.take k ++ [id] by rw [List.take_succ_eq_append_getElem hlt]; rw [List.getElem?_eq_getElem hlt] at hi; injection hi with e; rw [e])
      have HR := Lib.hid (row_news (heap_alloc_new wr (.cells (idC id).toArray 28)))
      have HHS := Lib.hid (dphas_any (wr.alloc (.cells (idC id).toArray 28)) b n SD id (HIS.out.alloc _) HID.out)
      have HBA := Lib.hid (below_new wr (.cells (idC id).toArray 28))
      have hrs := HB.out.size
      clear hc hi
      by_cases hin : id ∈ SD
      · rw [decide_eq_true hin] at HHS
        have hind : id ∈ D := (HM1.out id).1 hin
        have HND := Lib.hid hind
        clear hin hind
        go_wp2_with (first
          | ((with_reducible refine ld_id (x := .tmp 19) ?_ ?_ ?_ HC.out HID.out ?_); rfl; rfl; rfl)
          | ((with_reducible apply st_id (hl := HID.out)); rfl; rfl; rfl; rfl; rfl)
          | ((with_reducible refine ld_id (x := .tmp 10) (p := ⟨wr.heap.size, 0, none⟩) ?_ ?_ ?_ HR.out HID.out ?_); rfl; rfl; rfl))
        with_reducible refine HHS.out.mono ?_
        rintro r w3 ⟨rfl, hb3⟩
        have hbb : Below wr.heap.size wr w3 := HBA.out.trans (hb3.mono HBA.out.size)
        have HON3 := Lib.hid (HON.out.below hbb)
        have HIS3 := Lib.hid (HIS.out.below hbb)
        have HB3 := Lib.hid (HB.out.trans (hbb.mono hrs))
        have HWR3 := Lib.hid (Nat.le_trans HWR.out hbb.size)
        clear hb3 hbb HHS
        go_wp2_with fail
        go_roundw
        case rel =>
          refine ⟨k + 1, N, by omega, by go_num, by have := HNL.out; exact Lib.hid (by omega), Lib.hid fun x => ?_, HON3, HIS3, HWR3, HB3⟩
          rw [HTK.out, List.mem_append, List.mem_singleton, HNM.out x]
          constructor
          · rintro (h | ⟨h1, h2⟩)
            · exact .inl h
            · exact .inr ⟨.inl h1, h2⟩
          · rintro (h | ⟨h1 | h1, h2⟩)
            · exact .inl h
            · exact .inr ⟨h1, h2⟩
            · subst h1; exact absurd HND.out h2
        case measure => simp [intOf]; omega
      · rw [decide_eq_false hin] at HHS
        have hind : id ∉ D := fun h => hin ((HM1.out id).2 h)
        have HND := Lib.hid hind
        clear hin hind
        go_wp2_with (first
          | ((with_reducible refine ld_id (x := .tmp 19) ?_ ?_ ?_ HC.out HID.out ?_); rfl; rfl; rfl)
          | ((with_reducible apply st_id (hl := HID.out)); rfl; rfl; rfl; rfl; rfl)
          | ((with_reducible refine ld_id (x := .tmp 10) (p := ⟨wr.heap.size, 0, none⟩) ?_ ?_ ?_ HR.out HID.out ?_); rfl; rfl; rfl))
        with_reducible refine HHS.out.mono ?_
        rintro r w3 ⟨rfl, hb3⟩
        have hbb : Below wr.heap.size wr w3 := HBA.out.trans (hb3.mono HBA.out.size)
        have HR3 := Lib.hid (show ∀ j u, (idC id)[j]? = some u → w3.cell? ((⟨wr.heap.size, 0, none⟩ : Addr).add j) = some u from fun j u hu => by
          have h1 := HR.out j u hu
          rw [hb3.cell (World.block_lt_of_cell? _ _ h1)]; exact h1)
        have HON3 := Lib.hid (HON.out.below hbb)
        have HIS3 := Lib.hid (HIS.out.below hbb)
        have HB3 := Lib.hid (HB.out.trans (hbb.mono hrs))
        have hwk3 : wk ≤ w3.heap.size := Nat.le_trans HWR.out hbb.size
        clear hb3 hbb HHS
        have hlen : N.length ≤ 2000 := by have := HNL.out; omega
        go_wp2_with (first
          | ((with_reducible refine ld_id (l := id) (x := .tmp 10) (p := ⟨wr.heap.size, 0, none⟩) ?_ ?_ ?_ HR3.out HID.out ?_); rfl; rfl; rfl)
          | ((with_reducible refine bs_id2 (l := id) (x := .tmp 26) ?_ ?_ ?_ HID.out ?_); rfl; rfl; rfl)
          | ((with_reducible refine ap_id (id := id) (.tmp 25) (.tmp 27) ?_ ?_ ?_ ?_ HON3.out hwk3 HID.out hlen ?_); rfl; rfl; rfl; rfl; intro v5 w5 HO5 HG5))
        have HIS5 := Lib.hid ((HIS3.out.alloc _).kept HG5.out (fun e => by have h1 := (HON3.out.own.lt b e.symm).1; have h2 := HBL.out; omega))
        have HB5 := Lib.hid ((HB3.out.alloc (by have := HWS.out; omega) _).grown HG5.out (by have := HWS.out; simp; omega) (fun q hq => by have h1 := (HON3.out.own.lt q hq).1; have := HWS.out; omega))
        have HWR5 := Lib.hid (show wk ≤ w5.heap.size from by have := HG5.out.size; simp at this; omega)
        clear hwk3 hlen HG5
        go_roundw
        case rel =>
          refine ⟨k + 1, N ++ [id], by omega, by go_num, by have := HNL.out; exact Lib.hid (by simp; omega), Lib.hid fun x => ?_, HO5, HIS5, HWR5, HB5⟩
          rw [HTK.out, List.mem_append, List.mem_append, List.mem_singleton, HNM.out x]
          constructor
          · rintro ((h | ⟨h1, h2⟩) | h)
            · exact .inl h
            · exact .inr ⟨.inl h1, h2⟩
            · subst h; exact .inr ⟨.inr rfl, HND.out⟩
          · rintro (h | ⟨h1 | h1, h2⟩)
            · exact .inl (.inl h)
            · exact .inl (.inr ⟨h1, h2⟩)
            · exact .inr h1
        case measure => simp [intOf]; omega
    · have hlt' : ¬ (k : Int) < (O.length : Int) := by omega
      have hke : k = O.length := by omega
      subst hke
      have HSO := Lib.hid (dpsort_any wr wk _ N HON.out (by have := HNL.out; omega))
      go_wp2_with fail
      with_reducible refine HSO.out.mono ?_
      rintro r w3 ⟨rfl, N', hperm, hsorted, hO3, hg3⟩
      have HPE := Lib.hid hperm
      have HST := Lib.hid hsorted
      have HO3 := Lib.hid hO3
      have HB3 := Lib.hid (HB.out.grown hg3 (by have h1 := HWR.out; have := HWS.out; omega) (fun q hq => by have h1 := (HON.out.own.lt q hq).1; have := HWS.out; omega))
      have hz3 := hg3.size
      have HCO := Lib.hid (dpcompact_any w3 wk _ N' hO3 (by rw [hperm.length_eq]; have := HNL.out; omega))
      clear hperm hsorted hO3 hg3 HSO
      go_wp2_with fail
      with_reducible refine HCO.out.mono ?_
      rintro r w4 ⟨v', rfl, hO4, hg4⟩
      have HO4 := Lib.hid hO4
      have HB4 := Lib.hid (HB3.out.grown hg4 (by have h1 := HWR.out; have := HWS.out; omega) (fun q hq => by have h1 := (HO3.out.own.lt q hq).1; have := HWS.out; omega))
      clear hO4 hg4 HCO
      go_wp2_with fail
      go_ret
      obtain ⟨hup, hmem⟩ := dp_compact N' HO3.out.len HST.out
      refine ⟨_, _, rfl, HO4.out.rows, hup, fun x => ?_, HO4.out.len, ?_, HB4.out⟩
      · rw [hmem x, HPE.out.mem_iff, HNM.out x, List.take_length]
      · have h1 := compact_len N'
        rw [HPE.out.length_eq] at h1
        have := HNL.out
        omega
end Go.Proofs.Ytkcjhkfelaplkaa
