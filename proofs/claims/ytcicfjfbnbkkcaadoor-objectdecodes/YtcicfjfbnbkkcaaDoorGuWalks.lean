/-
  WALKS OF LAYER 4: what the document's guess leans on: behind, id; Get and Take of layer 1, over lists.
-/
import Derived.Test.YtcicfjfbnbkkcaaDoorRdCommit
import Derived.Test.YtcicfjfbnbkkcaaDoorGuMath
import Derived.Test.YtcicfjfbnbkkcaaDoorViRef
namespace Go.Proofs.YtcicfjfbnbkkcaaDoor
open Go.RowKit
set_option linter.unusedVariables false
set_option linter.unusedSimpArgs false

theorem reget_l (l : List UInt8) (w : World) (hl : l.length ≤ 1000000) :
    Calls Tryd.prog 38 #[.string ⟨l.toArray⟩] w fun r w' => r = .returned (.tuple #[.int .u64 (Rm.getG l).1, .int .i64 (Rm.getG l).2]) ∧ w = w' := by
  have hs : (ByteArray.mk l.toArray).size = l.length := Rm.mk_size l
  have hm : (ByteArray.mk l.toArray).size ≤ maxLen := by rw [hs]; unfold maxLen; omega
  have hd : (ByteArray.mk l.toArray).data.toList = l := by simp
  unfold Rm.getG
  cases hv : Rm.vget l with
  | none => exact refget_none _ w hm (by rw [hd]; exact Rm.vget_none hv)
  | some p =>
    obtain ⟨n, k⟩ := p
    obtain ⟨e, he, rfl, rfl⟩ := Rm.vget_some hv
    have := refget_ok ⟨l.toArray⟩ w hm e (by rw [hd]; exact he)
    rw [hd] at this
    exact this
theorem retake_l (l : List UInt8) (w : World) (hl : l.length ≤ 1000000) :
    Calls Tryd.prog 35 #[.string ⟨l.toArray⟩] w fun r w' => r = .returned (.tuple #[.string ⟨(Rm.takeG l).1.toArray⟩, .int .i64 (Rm.takeG l).2]) ∧ w = w' := by
  have hs : (ByteArray.mk l.toArray).size = l.length := Rm.mk_size l
  have hm : (ByteArray.mk l.toArray).size ≤ maxLen := by rw [hs]; unfold maxLen; omega
  have hd : (ByteArray.mk l.toArray).data.toList = l := by simp
  unfold Rm.takeG
  cases hv : Rm.vget l with
  | none => exact reftake_none _ w hm (by rw [hd]; exact Rm.vget_none hv)
  | some p =>
    obtain ⟨n, k⟩ := p
    have hbd := Rm.vget_bd hv
    obtain ⟨e, he, rfl, rfl⟩ := Rm.vget_some hv
    simp only
    have he' : Vi.Ok (ByteArray.mk l.toArray).data.toList e := by rw [hd]; exact he
    by_cases hlt : l.length - (e + 1) < Vi.val (l.take (e + 1))
    · rw [if_pos hlt]
      exact reftake_short _ w hm e he' (by rw [hs, hd]; exact hlt)
    · rw [if_neg hlt]
      refine (reftake_ok ⟨l.toArray⟩ w hm e he' (by rw [hs, hd]; omega)).mono fun r w' ⟨h1, h2⟩ => ⟨?_, h2⟩
      rw [h1, hd]
      refine ret_tuple2 (congrArg Value.string (bytes_ext ?_)) (val_int (by omega))
      rw [extract_l, hd, Nat.add_sub_cancel_left]

set_option maxRecDepth 100000 in
theorem behind_l (l : List UInt8) (n : Nat) (w : World) (hl : l.length ≤ 1000000) (hn : n ≤ 1000000) :
    Calls Tryd.prog 36 #[.string ⟨l.toArray⟩, .int .i64 n] w fun r w' => r = .returned (.string ⟨(l.drop n).toArray⟩) ∧ w = w' := by
  have hs : (ByteArray.mk l.toArray).size = l.length := Rm.mk_size l
  have hd : (ByteArray.mk l.toArray).data.toList = l := by simp
  have he := extract_r ⟨l.toArray⟩ n
  rw [hd] at he
  have HE := Lib.hid (show (ByteArray.mk l.toArray).extract n (ByteArray.mk l.toArray).size = ⟨(l.drop n).toArray⟩ from bytes_ext (by rw [he]))
  by_cases h : l.length ≤ n
  · have hnil : l.drop n = [] := List.drop_of_length_le h
    rw [hnil]
    generalize ByteArray.mk l.toArray = s at hs hd
    have h' : (s.size : Int) ≤ (n : Int) := by omega
    clear hs hd he HE hnil
    go_enter Tryd.func36, Tryd.ntmps36
    go_wp2
    go_ret
    exact ⟨rfl, rfl⟩
  · generalize (⟨(l.drop n).toArray⟩ : ByteArray) = t at HE ⊢
    generalize ByteArray.mk l.toArray = s at hs hd he HE ⊢
    have h' : ¬ (s.size : Int) ≤ (n : Int) := by omega
    have h2 : (n : Int) ≤ (s.size : Int) := by omega
    have h3 : s.size ≤ 1000000 := by omega
    clear hs hd he
    go_enter Tryd.func36, Tryd.ntmps36
    go_wp2
    go_ret
    exact ⟨congrArg (fun x => Ending.returned (.string x)) HE.out, rfl⟩

/-- An id filled as far as k. -/
def partI (l : List UInt8) (k : Nat) : List UInt8 := l.take k ++ List.replicate (32 - k) 0
theorem part_len (l : List UInt8) (k : Nat) (h : k ≤ l.length) (h32 : k ≤ 32) : (partI l k).length = 32 := by unfold partI; simp; omega
theorem part_step (l : List UInt8) (k : Nat) (h : k < l.length) (h32 : k < 32) : (idC (partI l k)).toArray.setIfInBounds k (.int .u8 ((l[k]).toNat : Int)) = (idC (partI l (k + 1))).toArray := by
  have hlt : (l.take k).length = k := by rw [List.length_take]; omega
  have e1 : partI l k = l.take k ++ (0 :: List.replicate (32 - (k + 1)) 0) := by
    unfold partI
    rw [show 32 - k = (32 - (k + 1)) + 1 by omega, List.replicate_succ]
  have e2 : partI l (k + 1) = l.take k ++ (l[k] :: List.replicate (32 - (k + 1)) 0) := by
    unfold partI
    rw [List.take_succ_eq_append_getElem h, List.append_assoc]; rfl
  rw [e1, e2]
  simp only [idC, List.map_append, List.map_cons, List.setIfInBounds_toArray]
  have hm : (List.map bv (l.take k)).length = k := by rw [List.length_map, hlt]
  rw [List.set_append_right _ _ (by omega), hm, Nat.sub_self]
  rfl
theorem part_end (l : List UInt8) : partI l (min 32 l.length) = Rm.idG l := by
  unfold partI Rm.idG
  congr 1
  · by_cases h : 32 ≤ l.length
    · rw [Nat.min_eq_left h]
    · rw [Nat.min_eq_right (by omega), List.take_length, List.take_of_length_le (by omega)]
  · congr 1; omega

set_option maxHeartbeats 1000000 in
set_option maxRecDepth 100000 in
theorem refid_s (s : ByteArray) (w : World) (hl : s.size ≤ 1000000) :
    Calls Tryd.prog 37 #[.string s] w fun r w' => r = .returned (.agg (idC (Rm.idG s.data.toList)).toArray) ∧ Below w.heap.size w w' := by
  have hz24 := (zero_of_info zero24).1
  have HZ := Lib.hid zsize
  have HO := Lib.hid (show zId.length = 32 from rfl)
  have HSL := Lib.hid (size_list s)
  have E1 := Lib.hid (heap_alloc2_old w (.cells (idC zId).toArray 25) (.cells (idC zId).toArray 25))
  have I1 := Lib.hid (heap_alloc2_new w (.cells (idC zId).toArray 25) (.cells (idC zId).toArray 25))
  have hB := ((Below.refl w.heap.size w).alloc (Nat.le_refl _) (.cells (idC zId).toArray 25)).alloc (by simp) (.cells (idC zId).toArray 25)
  go_enter Tryd.func37, Tryd.ntmps37
  go_wp2_with (first
    | ((with_reducible refine bd_zid ?_ ?_ ?_); rfl; rfl)
    | ((with_reducible refine st_id2 (x := .tmp 3) (y := .tmp 5) (g := w.heap.size + 1) ?_ ?_ ?_ ?_ ?_ ?_ HO.out ?_); rfl; rfl; rfl; rfl; rfl; simp))
  go_loopw [4] (fun i wr => ∃ k : Nat, k ≤ 32 ∧ k ≤ s.size ∧ i = .int .i64 k ∧ Hid (wr.heap[w.heap.size + 1]? = some (.cells (idC (partI s.data.toList k)).toArray 25)) ∧ Hid (wr.heap[w.heap.size]? = some (.cells (idC zId).toArray 25)) ∧ Below w.heap.size w wr) (fun i _ => 32 - (intOf i).toNat)
  case atStart => exact ⟨0, by omega, by omega, rfl, I1, E1, hB⟩
  case round =>
    obtain ⟨k, hk, hks, rfl, HI, HE, hb⟩ := hrel
    clear E1 I1 hB
    by_cases h32 : (k : Int) < 32
    · by_cases hlt : (k : Int) < (s.size : Int)
      · have hks2 : k < s.size := by omega
        have hkl : k < s.data.toList.length := by rw [HSL.out]; exact hks2
        have hps := part_len s.data.toList k (by omega) (by omega)
        have hc : wr.cell? ⟨w.heap.size + 1, k, none⟩ = some (.int .u8 (((partI s.data.toList k).getD k 0).toNat : Int)) := by
          rw [cell_of_row _ _ _ _ _ (0, 0) HI.out]
          exact idC_get _ _ (by omega)
        have hf := frozen_of_row wr (w.heap.size + 1) k _ _ HI.out
        have HI2 := Lib.hid (show (wr.setCell ⟨w.heap.size + 1, k, none⟩ (.int .u8 (s[k].toNat : Int))).heap[w.heap.size + 1]? = some (.cells (idC (partI s.data.toList (k + 1))).toArray 25) by
          rw [heap_setCell_same _ _ _ _ _ _ HI.out, at_list s k hks2, part_step _ _ hkl (by omega)])
        have HE2 := Lib.hid ((heap_setCell_other wr ⟨w.heap.size + 1, k, none⟩ w.heap.size (.int .u8 (s[k].toNat : Int)) (by simp)).trans HE.out)
        generalize ((partI s.data.toList k).getD k 0) = ob at hc
        clear hps HI HE
        go_wp2_with fail
        go_roundw
        case rel => exact ⟨k + 1, by omega, by omega, by go_num, HI2, HE2, hb.setCell (by simp) _⟩
        case measure => simp [intOf]; omega
      · have HP := Lib.hid (show partI s.data.toList k = Rm.idG s.data.toList by rw [← part_end, HSL.out, show min 32 s.size = k by omega])
        rw [HP.out] at HI
        have HIL := Lib.hid (Rm.idG_len s.data.toList)
        generalize hq : Rm.idG s.data.toList = q at HI HIL
        have HQ := Lib.hid hq
        have RI := Lib.hid (id_rid HI.out)
        clear HP hq
        go_wp2_with (first
          | ((with_reducible refine ld_idm (x := .tmp 3) ?_ ?_ ?_ RI.out HIL.out ?_); rfl; rfl; rfl)
          | ((with_reducible refine st_idr (x := .tmp 2) (y := .tmp 21) ?_ ?_ ?_ ?_ HE.out HZ.out HIL.out ?_); rfl; rfl; rfl; rfl))
        refine bodyPost_ret (results_cell_row (fn := Tryd.f37) (p := 2) (by rfl) _ _ w.heap.size _ _ _ _ (by rfl) (setRow_heap _ _ _ _ _ _ HE.out) Tryd.underlying25 rfl (by rw [List.size_toArray]; exact idsize HIL.out)) rfl ⟨by rw [HQ.out], below_setRow hb (Nat.le_refl _) _⟩
    · have HP := Lib.hid (show partI s.data.toList k = Rm.idG s.data.toList by rw [← part_end, HSL.out, show min 32 s.size = k by omega])
      rw [HP.out] at HI
      have HIL := Lib.hid (Rm.idG_len s.data.toList)
      generalize hq : Rm.idG s.data.toList = q at HI HIL
      have HQ := Lib.hid hq
      have RI := Lib.hid (id_rid HI.out)
      clear HP hq
      go_wp2_with (first
        | ((with_reducible refine ld_idm (x := .tmp 3) ?_ ?_ ?_ RI.out HIL.out ?_); rfl; rfl; rfl)
        | ((with_reducible refine st_idr (x := .tmp 2) (y := .tmp 21) ?_ ?_ ?_ ?_ HE.out HZ.out HIL.out ?_); rfl; rfl; rfl; rfl))
      refine bodyPost_ret (results_cell_row (fn := Tryd.f37) (p := 2) (by rfl) _ _ w.heap.size _ _ _ _ (by rfl) (setRow_heap _ _ _ _ _ _ HE.out) Tryd.underlying25 rfl (by rw [List.size_toArray]; exact idsize HIL.out)) rfl ⟨by rw [HQ.out], below_setRow hb (Nat.le_refl _) _⟩

theorem refid_l (l : List UInt8) (w : World) (hl : l.length ≤ 1000000) :
    Calls Tryd.prog 37 #[.string ⟨l.toArray⟩] w fun r w' => r = .returned (.agg (idC (Rm.idG l)).toArray) ∧ Below w.heap.size w w' :=
  refid_s ⟨l.toArray⟩ w (by rw [Rm.mk_size]; exact hl)

end Go.Proofs.YtcicfjfbnbkkcaaDoor
