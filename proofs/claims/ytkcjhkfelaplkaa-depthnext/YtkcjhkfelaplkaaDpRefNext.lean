/-
  WALKS OF LAYER 13: the document's Next.
-/
import Derived.Test.YtkcjhkfelaplkaaDpKit
import Derived.Test.YtkcjhkfelaplkaaDpNext
import Derived.Test.YtkcjhkfelaplkaaBase
namespace Go.Proofs.Ytkcjhkfelaplkaa
open Go.RowKit
set_option linter.unusedVariables false
set_option linter.unusedSimpArgs false

set_option maxHeartbeats 4000000 in
set_option maxRecDepth 100000 in
theorem refnext_any (w : World) (ov sv dv : Value) (O S D : List (List UInt8)) (hO : IdsAt w ov O) (hS : IdsAt w sv S) (hD : IdsAt w dv D) (lO : ∀ i ∈ O, i.length = 32) (lS : ∀ i ∈ S, i.length = 32) (lD : ∀ i ∈ D, i.length = 32)
    (nO : O.length ≤ 500) (nS : S.length ≤ 500) (nD : D.length ≤ 500) :
    Calls Try.prog 7 #[ov, sv, dv] w fun r w' => ∃ v' R, r = .returned v' ∧ IdsAt w' v' R ∧ Gr.Up R ∧ (∀ x, x ∈ R ↔ x ∈ S ∨ (x ∈ O ∧ x ∉ D)) ∧ Below w.heap.size w w' := by
  obtain ⟨oo, oc, rfl⟩ : ∃ ao cap, ov = .slice ao O.length cap := by simpa using RowsAt.form hO
  have HO := Lib.hid hO
  have HS := Lib.hid hS
  have HD := Lib.hid hD
  have HOL := Lib.hid lO
  have HSL := Lib.hid lS
  have HDL := Lib.hid lD
  have hbs0 := dprun_bs0
  have HB0 := Lib.hid (below_new w (.cells #[] 28))
  have HJ0 := Lib.hid (show IdsAt (w.alloc (.cells #[] 28)) sv S from RowsAt.below hS HB0.out)
  have HO0 := Lib.hid (dpown_bs0 w w.heap.size (Nat.le_refl _))
  have hz0 : w.heap.size ≤ (w.alloc (.cells #[] 28)).heap.size := HB0.out.size
  clear hO hS hD lO lS lD
  go_enter Try.func7, Try.ntmps7
  go_wp2_with ((with_reducible refine dpapI_at (.tmp 10) (.tmp 11) ?_ ?_ ?_ ?_ HO0.out HJ0.out HSL.out hz0 (by simp; omega) (fun v2 w2 HO2 HB2 => ?_)); rfl; rfl; rfl; rfl)
  rw [List.nil_append] at HO2
  have HB2' := Lib.hid (HB0.out.trans HB2.out)
  clear HB2 HB0 HJ0 HO0 hz0 hbs0
  go_loopw [7, 8] (fun nv i wr => ∃ (k : Nat) (N : List (List UInt8)), k ≤ O.length ∧ i = .int .i64 k ∧ Hid (N.length ≤ S.length + k) ∧ Hid (∀ x, x ∈ N ↔ x ∈ S ∨ (x ∈ O.take k ∧ x ∉ D)) ∧ Hid (OwnI wr w.heap.size nv N) ∧ Hid (Below w.heap.size w wr)) (fun _ i _ => O.length - (intOf i).toNat)
  case atStart => exact ⟨0, S, by omega, rfl, Nat.le_refl _, fun x => by simp, HO2.out, HB2'.out⟩
  case round =>
    obtain ⟨k, N, hk, rfl, HNL, HNM, HON, HB⟩ := hrel
    by_cases hlt : k < O.length
    · have hlt' : (k : Int) < (O.length : Int) := by omega
      have hk0 : (0 : Int) ≤ (k : Int) := by omega
      obtain ⟨id, hi⟩ : ∃ id, O[k]? = some id := ⟨O[k], List.getElem?_eq_getElem hlt⟩
      have HID := Lib.hid (HOL.out id (List.mem_of_getElem? hi))
      obtain ⟨a, rfl, _, hc⟩ := (HO.out.below HB.out).elem k (idC id) (by rw [List.getElem?_map, hi]; rfl)
      have HC := Lib.hid hc
      have HTK := Lib.hid (show O.take (k + 1) = O.take k ++ [id] by rw [List.take_succ_eq_append_getElem hlt]; rw [List.getElem?_eq_getElem hlt] at hi; injection hi with e; rw [e])
      have HIN := Lib.hid (in_any wr dv D id (HD.out.below HB.out) HDL.out HID.out (by omega))
      have hrs := HB.out.size
      clear hc hi
      by_cases hin : id ∈ D
      · rw [decide_eq_true hin] at HIN
        have HND := Lib.hid hin
        clear hin
        go_wp2_with ((with_reducible refine ld_id (l := id) (x := .tmp 22) ?_ ?_ ?_ HC.out HID.out ?_); rfl; rfl; rfl)
        with_reducible refine HIN.out.mono ?_
        rintro r w3 ⟨rfl, hb3⟩
        have HON3 := Lib.hid (HON.out.below hb3)
        have HB3 := Lib.hid (HB.out.trans (hb3.mono hrs))
        clear hb3 HIN
        go_wp2_with fail
        go_roundw
        case rel =>
          refine ⟨k + 1, N, by omega, by go_num, by have := HNL.out; exact Lib.hid (by omega), Lib.hid fun x => ?_, HON3, HB3⟩
          rw [HTK.out, List.mem_append, List.mem_singleton, HNM.out x]
          constructor
          · rintro (h | ⟨h1, h2⟩)
            · exact .inl h
            · exact .inr ⟨.inl h1, h2⟩
          · rintro (h | ⟨h1 | h1, h2⟩)
            · exact .inl h
            · exact .inr ⟨h1, h2⟩
            · subst h1; exact absurd HND.out h2
        case measure => simp [intOf]; omega
      · rw [decide_eq_false hin] at HIN
        have HND := Lib.hid hin
        clear hin
        go_wp2_with ((with_reducible refine ld_id (l := id) (x := .tmp 22) ?_ ?_ ?_ HC.out HID.out ?_); rfl; rfl; rfl)
        with_reducible refine HIN.out.mono ?_
        rintro r w3 ⟨rfl, hb3⟩
        have HON3 := Lib.hid (HON.out.below hb3)
        have HB3 := Lib.hid (HB.out.trans (hb3.mono hrs))
        have HC3 := Lib.hid (show ∀ j u, (idC id)[j]? = some u → w3.cell? ((a.add (k * 32)).add j) = some u from fun j u hu => by
          have h1 := HC.out j u hu
          rw [hb3.cell (World.block_lt_of_cell? _ _ h1)]; exact h1)
        have hw3 : w.heap.size ≤ w3.heap.size := Nat.le_trans hrs hb3.size
        clear hb3 HIN
        have hlen : N.length ≤ 2000 := by have := HNL.out; omega
        go_wp2_with (first
          | ((with_reducible refine ld_id (l := id) (x := .tmp 30) ?_ ?_ ?_ HC3.out HID.out ?_); rfl; rfl; rfl)
          | ((with_reducible refine bs_id2 (l := id) (x := .tmp 31) ?_ ?_ ?_ HID.out ?_); rfl; rfl; rfl)
          | ((with_reducible refine ap_id (id := id) (.tmp 27) (.tmp 32) ?_ ?_ ?_ ?_ HON3.out hw3 HID.out hlen ?_); rfl; rfl; rfl; rfl; intro v5 w5 HO5 HG5))
        have HB5 := Lib.hid ((HB3.out.alloc hw3 _).grown HG5.out (by simp; omega) (fun q hq => (HON3.out.own.lt q hq).1))
        clear hw3 hlen HG5
        go_roundw
        case rel =>
          refine ⟨k + 1, N ++ [id], by omega, by go_num, by have := HNL.out; exact Lib.hid (by simp; omega), Lib.hid fun x => ?_, HO5, HB5⟩
          rw [HTK.out, List.mem_append, List.mem_append, List.mem_singleton, HNM.out x]
          constructor
          · rintro ((h | ⟨h1, h2⟩) | h)
            · exact .inl h
            · exact .inr ⟨.inl h1, h2⟩
            · subst h; exact .inr ⟨.inr rfl, HND.out⟩
          · rintro (h | ⟨h1 | h1, h2⟩)
            · exact .inl (.inl h)
            · exact .inl (.inr ⟨h1, h2⟩)
            · exact .inr h1
        case measure => simp [intOf]; omega
    · have hlt' : ¬ (k : Int) < (O.length : Int) := by omega
      have hke : k = O.length := by omega
      subst hke
      have HSO := Lib.hid (sorted_any wr _ N HON.out.rows HON.out.len (by have := HNL.out; omega))
      unfold SortedP at HSO
      have hrs := HB.out.size
      go_wp2_with fail
      with_reducible refine HSO.out.mono ?_
      rintro r w3 ⟨v', R, rfl, h1, h2, h3, h4⟩
      have H1 := Lib.hid h1
      have H2 := Lib.hid h2
      have H3 := Lib.hid h3
      have HB3 := Lib.hid (HB.out.trans (h4.mono hrs))
      clear h1 h2 h3 h4 HSO
      go_wp2_with fail
      go_ret
      exact ⟨_, R, rfl, H1.out, H2.out, fun x => by rw [H3.out x, HNM.out x, List.take_length], HB3.out⟩
end Go.Proofs.Ytkcjhkfelaplkaa
