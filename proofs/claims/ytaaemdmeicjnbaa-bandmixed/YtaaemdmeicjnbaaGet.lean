/-
  WALKS OF LAYER 8: Get (band).
-/
import Derived.Test.YtaaemdmeicjnbaaRefGet
namespace Go.Proofs.Ytaaemdmeicjnbaa
open Go.RowKit
set_option linter.unusedVariables false
set_option linter.unusedSimpArgs false
open Pk (Ln)

theorem strs_start (w : World) : Strs (w.alloc (.cells #[.slice none 0 0, .slice none 0 0, .slice none 0 0, .slice none 0 0] 46)) w.heap.size w.heap.size (fun _ => .slice none 0 0) (fun _ => []) :=
  ⟨heap_alloc_new _ _, fun i hi => World.ownsRow_nil _ _ _ _, fun i j _ _ _ b h => by simp [Value.ownBlock] at h⟩

theorem Strs.drew {w : World} {base g : Nat} {v : Nat → Value} {X : Nat → List UInt8} (h : Strs w base g v X) : Strs w.drew base g v X := ⟨h.at_, h.own, h.far⟩
/-- Behind the append the array's cell may be written. -/
theorem Strs.open_ {w w1 : World} {base g : Nat} {v : Nat → Value} {X : Nat → List UInt8} (h : Strs w base g v X) (c : Nat) (hc : c < 4) (hgrow : w.grownBy w1 (v c).ownBlock) : w1.cell? ⟨g, c, none⟩ = some (v c) ∧ w1.frozen? ⟨g, c, none⟩ = false := by
  have h1 := h.stands c hc hgrow
  refine ⟨?_, frozen_of_row _ _ c _ _ h1⟩
  rw [cell_of_row _ _ c _ _ _ h1]
  match c, hc with
  | 0, _ => rfl
  | 1, _ => rfl
  | 2, _ => rfl
  | 3, _ => rfl
theorem Strs.pushed {w w1 : World} {base g : Nat} {v : Nat → Value} {X : Nat → List UInt8} (h : Strs w base g v X) (c : Nat) (hc : c < 4) (s : ByteArray) (v' : Value)
    (hown : w1.ownsRow base 5 1 v' ((X c).length + s.size) (cellsOf (X c) ++ Lib.strCells s)) (hgrow : w.grownBy w1 (v c).ownBlock) (hat : v'.ownBlock = (v c).ownBlock ∨ v'.ownBlock = some w.heap.size) :
    Strs (w1.setCell ⟨g, c, none⟩ v') base g (upd v c v') (upd X c (X c ++ s.data.toList)) := by
  refine h.push c hc s.data.toList v' ?_ hgrow hat
  rw [List.length_append, size_list, ← cellsOf_append, ← strCells_list]
  exact hown

set_option maxHeartbeats 2000000 in
set_option maxRecDepth 100000 in
theorem get_any (v : Value) (L : List Ln) (w : World) (hL : LinesAt w v L) (hl : L.length ≤ 4000) (hm : ∀ e ∈ L, e.load.size ≤ 3000) :
    Calls Try.prog 11 #[v] w fun r w' => r = .returned (foundV L) ∧ Below w.heap.size w w' := by
  obtain ⟨ao, cap, rfl⟩ := hL.form
  have HL := Lib.hid hL
  have HM := Lib.hid hm
  clear hL hm
  obtain ⟨i0, hi, hz0, hz1, hz2⟩ := info_parts Try.infoByte
  have HI := Lib.hid infoPkt
  have HST := Lib.hid (strs_start w)
  have HB0 := Lib.hid (below_new w (.cells #[.slice none 0 0, .slice none 0 0, .slice none 0 0, .slice none 0 0] 46))
  go_enter Try.func11, Try.ntmps11
  go_wp2_with fail
  go_loopw [11] (fun i wr => ∃ (k : Nat) (vs : Nat → Value), k ≤ L.length ∧ i = .int .i64 k ∧ Hid (∀ q ∈ L.take k, Pk.okl q = true) ∧ Hid (Strs wr w.heap.size w.heap.size vs (fun d => Pk.strm d (L.take k))) ∧ Below w.heap.size w wr) (fun i _ => L.length - (intOf i).toNat)
  case atStart => exact ⟨0, _, by omega, rfl, fun q hq => by simp at hq, HST.out, HB0.out⟩
  case round =>
    obtain ⟨k, vs, hk, rfl, HO, HS, hb⟩ := hrel
    by_cases hlt : k < L.length
    · have hlt' : (k : Int) < (L.length : Int) := by omega
      have hk0 : (0 : Int) ≤ (k : Int) := by omega
      obtain ⟨e, he⟩ : ∃ e, L[k]? = some e := ⟨L[k], List.getElem?_eq_getElem hlt⟩
      obtain ⟨a, ea, c0, c1⟩ := (HL.out.below hb).elem k e he
      subst ea
      have HC := Lib.hid (elem_cells c0 c1)
      have hmem := List.mem_of_getElem? he
      have hsz := HM.out e hmem
      have HV := Lib.hid (fun W => valid_any e W hsz)
      have HX := Lib.hid (fun W (hW : Below (wr.alloc (.cells #[.int .i64 e.kind, .string e.load] 34)).heap.size (wr.alloc (.cells #[.int .i64 e.kind, .string e.load] 34)) W) => (hW.block wr.heap.size (by simp)).trans (heap_alloc_new wr (.cells #[.int .i64 e.kind, .string e.load] 34)))
      have HBA := Lib.hid (hb.alloc hb.size (.cells #[.int .i64 e.kind, .string e.load] 34))
      have HSA := Lib.hid (HS.out.alloc (.cells #[.int .i64 e.kind, .string e.load] 34))
      cases hf : Pk.okl e with
      | false =>
        rw [hf] at HV
        have HP := Lib.hid (found_bad hmem hf)
        clear he hf c0 c1 HO HS HSA hmem
        unfold lnV at HV
        go_wp2_with ((with_reducible apply ld_at (hc := HC.out) (hi := HI.out)); rfl; rfl; rfl; rfl; rfl)
        refine (HV.out _).mono ?_
        rintro r w1 ⟨rfl, hb1⟩
        go_wp2_with fail
        go_ret3
        exact ⟨by rw [HP.out]; rfl, HBA.out.trans (hb1.mono HBA.out.size)⟩
      | true =>
        rw [hf] at HV
        obtain ⟨o1, o2, o3, o4, o5⟩ := (Pk.okl_iff e).1 hf
        have q0 : 0 < e.load.size := by omega
        have q0' : (0 : Int) < (e.load.size : Int) := by omega
        have q1' : (1 : Int) ≤ (e.load.size : Int) := by omega
        have hch := ch_at e q0
        have HO2 := Lib.hid (show ∀ q ∈ L.take (k + 1), Pk.okl q = true from fun q hq => by
          rw [take_push _ _ _ he] at hq
          rcases List.mem_append.1 hq with h1 | h1
          · exact HO.out q h1
          · simp at h1; subst h1; exact hf)
        have HLN := Lib.hid (show ∀ d, (Pk.strm d (L.take k)).length ≤ 4000000 from fun d => by
          have := Pk.strm_len d (L.take k) (fun p hp => ((Pk.okl_iff p).1 (HO.out p hp)).2.2.1)
          have h2 : (L.take k).length ≤ k := by rw [List.length_take]; omega
          have : 1000 * (L.take k).length ≤ 1000 * 4000 := Nat.mul_le_mul_left _ (by omega)
          omega)
        have htl := Pk.tl_extract e
        have hts := Pk.extract_size e.load 1 e.load.size (Nat.le_refl _)
        have HE1 := Lib.hid (show (fun d => Pk.strm d (L.take (k + 1))) = upd (fun d => Pk.strm d (L.take k)) (Pk.ch e) (Pk.strm (Pk.ch e) (L.take k) ++ (e.load.extract 1 e.load.size).data.toList) from funext fun d => by
          show Pk.strm d (L.take (k + 1)) = _
          rw [take_push _ _ _ he, Pk.strm_append, Pk.strm_one, htl]
          by_cases hd : d = Pk.ch e
          · rw [hd, upd_same, if_pos rfl]
          · rw [upd_other _ _ _ hd, if_neg (fun h => hd h.symm), List.append_nil])
        have HCH := Lib.hid hch
        have HTS := Lib.hid hts
        clear he hf c0 c1 HO hmem o1 htl hch hts
        unfold lnV at HV
        go_wp2_with ((with_reducible apply ld_at (hc := HC.out) (hi := HI.out)); rfl; rfl; rfl; rfl; rfl)
        refine (HV.out _).mono ?_
        rintro r w1 ⟨rfl, hb1⟩
        have ⟨d0, d1⟩ := cells2 (HX.out w1 hb1)
        have HS1 := Lib.hid (HSA.out.below hb1)
        have hb01 := HBA.out.trans (hb1.mono HBA.out.size)
        have hs1 := hb01.size
        clear HC HV HX HSA HS hb1
        rcases (show Pk.ch e = 1 ∨ Pk.ch e = 2 ∨ Pk.ch e = 3 by omega) with hc | hc | hc
        · have r1 : e.load[0].toNat = 1 := by rw [← HCH.out]; exact hc
          have c3 := HS1.out.cell 1 (by decide)
          have HOW := Lib.hid (HS1.out.drew.own 1 (by decide))
          have HPU := Lib.hid (fun W u => HS1.out.drew.pushed (w1 := W) 1 (by decide) (e.load.extract 1 e.load.size) u)
          have HOP := Lib.hid (fun W => HS1.out.drew.open_ (w1 := W) 1 (by decide))
          have HLT := Lib.hid (HOW.out.lt)
          have HN1 := Lib.hid (show 0 < (e.load.extract 1 e.load.size).size by rw [HTS.out]; omega)
          have HN2 := Lib.hid (show (Pk.strm 1 (L.take k)).length + (e.load.extract 1 e.load.size).size ≤ maxLen by have := HLN.out 1; rw [HTS.out]; unfold maxLen; omega)
          have HN3 := Lib.hid (show (Pk.strm 1 (L.take k)).length + (e.load.extract 1 e.load.size).size ≤ 140737488355328 by have := HLN.out 1; rw [HTS.out]; omega)
          have HN4 := Lib.hid (show 0 < (Pk.strm 1 (L.take k)).length + (e.load.extract 1 e.load.size).size by have := HN1.out; omega)
          have HBD := Lib.hid (below_drewN hb01 1)
          rw [hc] at HE1
          clear HLN HCH hc HS1
          go_wp2_with fail
          go_region_law ((refine step_append_str _ (by rfl) (.tmp 24) (.tmp 27) 44 9 (by rfl) w.heap.size 5 i0 Try.underlying44 Try.underlying9 hi hz0 hz1 hz2 (vs 1) _ _ (by rfl) HOW.out (e.load.extract 1 e.load.size) (by rfl) HN1.out HN2.out HN3.out hs1 ?_
                          intro v' w2 hown2 hgrow2 hat2
                          have ⟨z1, z2⟩ := HOP.out w2 hgrow2
                          obtain ⟨gg, cap', ev, _, _⟩ := hown2.form HN4.out
                          subst ev))
          all_goals
            have HS2 := Lib.hid (HPU.out w2 _ hown2 hgrow2 hat2)
            rw [HTS.out] at HS2
            have HB2 := Lib.hid (fun u => (HBD.out.grown hgrow2 (by simpa using hs1) (fun k hk => (HLT.out k hk).1)).setCell (p := ⟨w.heap.size, 1, none⟩) (Nat.le_refl _) u)
            clear hown2 hgrow2 hat2 z1 z2
            go_wp2_with fail
            go_roundw
            case rel => exact ⟨k + 1, _, by omega, by go_num, HO2.out, by rw [HE1.out]; exact HS2.out, HB2.out _⟩
            case measure => simp [intOf]; omega
        · have r1 : e.load[0].toNat = 2 := by rw [← HCH.out]; exact hc
          have c3 := HS1.out.cell 2 (by decide)
          have HOW := Lib.hid (HS1.out.drew.own 2 (by decide))
          have HPU := Lib.hid (fun W u => HS1.out.drew.pushed (w1 := W) 2 (by decide) (e.load.extract 1 e.load.size) u)
          have HOP := Lib.hid (fun W => HS1.out.drew.open_ (w1 := W) 2 (by decide))
          have HLT := Lib.hid (HOW.out.lt)
          have HN1 := Lib.hid (show 0 < (e.load.extract 1 e.load.size).size by rw [HTS.out]; omega)
          have HN2 := Lib.hid (show (Pk.strm 2 (L.take k)).length + (e.load.extract 1 e.load.size).size ≤ maxLen by have := HLN.out 2; rw [HTS.out]; unfold maxLen; omega)
          have HN3 := Lib.hid (show (Pk.strm 2 (L.take k)).length + (e.load.extract 1 e.load.size).size ≤ 140737488355328 by have := HLN.out 2; rw [HTS.out]; omega)
          have HN4 := Lib.hid (show 0 < (Pk.strm 2 (L.take k)).length + (e.load.extract 1 e.load.size).size by have := HN1.out; omega)
          have HBD := Lib.hid (below_drewN hb01 1)
          rw [hc] at HE1
          clear HLN HCH hc HS1
          go_wp2_with fail
          go_region_law ((refine step_append_str _ (by rfl) (.tmp 24) (.tmp 27) 44 9 (by rfl) w.heap.size 5 i0 Try.underlying44 Try.underlying9 hi hz0 hz1 hz2 (vs 2) _ _ (by rfl) HOW.out (e.load.extract 1 e.load.size) (by rfl) HN1.out HN2.out HN3.out hs1 ?_
                          intro v' w2 hown2 hgrow2 hat2
                          have ⟨z1, z2⟩ := HOP.out w2 hgrow2
                          obtain ⟨gg, cap', ev, _, _⟩ := hown2.form HN4.out
                          subst ev))
          all_goals
            have HS2 := Lib.hid (HPU.out w2 _ hown2 hgrow2 hat2)
            rw [HTS.out] at HS2
            have HB2 := Lib.hid (fun u => (HBD.out.grown hgrow2 (by simpa using hs1) (fun k hk => (HLT.out k hk).1)).setCell (p := ⟨w.heap.size, 2, none⟩) (Nat.le_refl _) u)
            clear hown2 hgrow2 hat2 z1 z2
            go_wp2_with fail
            go_roundw
            case rel => exact ⟨k + 1, _, by omega, by go_num, HO2.out, by rw [HE1.out]; exact HS2.out, HB2.out _⟩
            case measure => simp [intOf]; omega
        · have r1 : e.load[0].toNat = 3 := by rw [← HCH.out]; exact hc
          have c3 := HS1.out.cell 3 (by decide)
          have HOW := Lib.hid (HS1.out.drew.own 3 (by decide))
          have HPU := Lib.hid (fun W u => HS1.out.drew.pushed (w1 := W) 3 (by decide) (e.load.extract 1 e.load.size) u)
          have HOP := Lib.hid (fun W => HS1.out.drew.open_ (w1 := W) 3 (by decide))
          have HLT := Lib.hid (HOW.out.lt)
          have HN1 := Lib.hid (show 0 < (e.load.extract 1 e.load.size).size by rw [HTS.out]; omega)
          have HN2 := Lib.hid (show (Pk.strm 3 (L.take k)).length + (e.load.extract 1 e.load.size).size ≤ maxLen by have := HLN.out 3; rw [HTS.out]; unfold maxLen; omega)
          have HN3 := Lib.hid (show (Pk.strm 3 (L.take k)).length + (e.load.extract 1 e.load.size).size ≤ 140737488355328 by have := HLN.out 3; rw [HTS.out]; omega)
          have HN4 := Lib.hid (show 0 < (Pk.strm 3 (L.take k)).length + (e.load.extract 1 e.load.size).size by have := HN1.out; omega)
          have HBD := Lib.hid (below_drewN hb01 1)
          rw [hc] at HE1
          clear HLN HCH hc HS1
          go_wp2_with fail
          go_region_law ((refine step_append_str _ (by rfl) (.tmp 24) (.tmp 27) 44 9 (by rfl) w.heap.size 5 i0 Try.underlying44 Try.underlying9 hi hz0 hz1 hz2 (vs 3) _ _ (by rfl) HOW.out (e.load.extract 1 e.load.size) (by rfl) HN1.out HN2.out HN3.out hs1 ?_
                          intro v' w2 hown2 hgrow2 hat2
                          have ⟨z1, z2⟩ := HOP.out w2 hgrow2
                          obtain ⟨gg, cap', ev, _, _⟩ := hown2.form HN4.out
                          subst ev))
          all_goals
            have HS2 := Lib.hid (HPU.out w2 _ hown2 hgrow2 hat2)
            rw [HTS.out] at HS2
            have HB2 := Lib.hid (fun u => (HBD.out.grown hgrow2 (by simpa using hs1) (fun k hk => (HLT.out k hk).1)).setCell (p := ⟨w.heap.size, 3, none⟩) (Nat.le_refl _) u)
            clear hown2 hgrow2 hat2 z1 z2
            go_wp2_with fail
            go_roundw
            case rel => exact ⟨k + 1, _, by omega, by go_num, HO2.out, by rw [HE1.out]; exact HS2.out, HB2.out _⟩
            case measure => simp [intOf]; omega
    · have HA := Lib.hid (show ∀ q ∈ L, Pk.okl q = true from fun q hq => HO.out q (by rw [List.take_of_length_le (by omega)]; exact hq))
      have HT := Lib.hid (show L.take k = L from List.take_of_length_le (by omega))
      rw [HT.out] at HS
      have c1 := HS.out.cell 1 (by decide)
      have c2 := HS.out.cell 2 (by decide)
      have c3 := HS.out.cell 3 (by decide)
      have v1 := ret_bytes (HS.out.drew.own 1 (by decide))
      have v2 := ret_bytes (HS.out.drew.own 2 (by decide))
      obtain ⟨a3, n3, e3⟩ : ∃ a3 n3, vs 3 = .slice a3 (Pk.strm 3 L).length n3 := by
        rcases (HS.out.own 3 (by decide)).2 with ⟨h1, h2⟩ | ⟨g, cap, cur, h1, _⟩
        · exact ⟨none, 0, by rw [h1, h2]⟩
        · exact ⟨_, _, h1⟩
      rw [e3] at c3
      clear HS HO HT e3
      by_cases h3 : ∃ p ∈ L, Pk.ch p = 3
      · obtain ⟨p, hp, hc3⟩ := h3
        have HP := Lib.hid (found_no HA.out hp hc3)
        have h0 : 0 < (Pk.strm 3 L).length := List.length_pos_iff.2 (Pk.strm_ne hp hc3 (HA.out p hp))
        have h0' : 0 < ((Pk.strm 3 L).length : Int) := by omega
        clear hp hc3 v1 v2 HA
        generalize (Pk.strm 3 L).length = m3 at *
        go_wp2_with fail
        go_ret3
        exact ⟨by rw [HP.out]; rfl, hb⟩
      · have HNO := Lib.hid (show ∀ q ∈ L, Pk.ch q ≠ 3 from fun q hq h => h3 ⟨q, hq, h⟩)
        have HP := Lib.hid (found_yes HA.out HNO.out)
        have h0 : Pk.strm 3 L = [] := Pk.strm_empty HNO.out
        rw [h0] at c3
        clear HA HNO h0 h3
        generalize (⟨(Pk.strm 1 L).toArray⟩ : ByteArray) = s1 at *
        generalize (⟨(Pk.strm 2 L).toArray⟩ : ByteArray) = s2 at *
        go_wp2_with fail
        go_region
        all_goals
          go_wp2_with fail
          go_ret3
          exact ⟨by rw [HP.out]; rfl, hb.drew⟩

end Go.Proofs.Ytaaemdmeicjnbaa
