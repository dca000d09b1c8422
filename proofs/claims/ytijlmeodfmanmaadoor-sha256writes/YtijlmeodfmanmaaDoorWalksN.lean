/-
  WALKS OF LAYER 2: Unhex (knapsackref02).
-/
import Derived.Test.YtijlmeodfmanmaaDoorWalksM
import Derived.Test.YtijlmeodfmanmaaDoorWalksL
namespace Go.Proofs.YtijlmeodfmanmaaDoor
open Go.RowKit
set_option linter.unusedVariables false
set_option linter.unusedSimpArgs false

/-- What the inner loop knows of a figure behind d steps. -/
def nval (c : UInt8) (d : Nat) : Int := if 0 ≤ unfig c ∧ unfig c < (d : Int) then unfig c else -1
theorem nval_zero (c : UInt8) : nval c 0 = -1 := by unfold nval; rw [if_neg]; omega
theorem nval_all (c : UInt8) : nval c 16 = unfig c := by
  have := unfig_range c
  unfold nval
  split <;> omega
theorem nval_hit (c : UInt8) (d : Nat) (hd : d < 16) (h : c = hexd d) : nval c (d + 1) = (d : Int) := by
  have e : unfig c = (d : Int) := by rw [h]; exact unfig_hexd ⟨d, hd⟩
  unfold nval; rw [e, if_pos (by omega)]
theorem nval_miss (c : UInt8) (d : Nat) (hd : d < 16) (h : c ≠ hexd d) : nval c (d + 1) = nval c d := by
  have e : unfig c ≠ (d : Int) := fun e => h (by rw [← hexd_unfig c (by omega), e]; simp)
  unfold nval
  by_cases h1 : 0 ≤ unfig c ∧ unfig c < (d : Int)
  · rw [if_pos h1, if_pos (by omega)]
  · rw [if_neg h1, if_neg (by omega)]

/-- The id behind k figures. -/
def nib (l : List UInt8) (k j : Nat) : UInt8 := if 2 * j + 1 < k then unpair l j else if 2 * j < k then UInt8.ofNat (unfig (l.getD (2 * j) 0)).toNat else 0
def idN (l : List UInt8) (k : Nat) : List UInt8 := (List.range 32).map (nib l k)
theorem idN_len (l : List UInt8) (k : Nat) : (idN l k).length = 32 := by simp [idN]
theorem idN_get (l : List UInt8) (k j : Nat) (hj : j < 32) : (idN l k).getD j 0 = nib l k j := by
  simp [idN, List.getD_eq_getElem?_getD, hj]
theorem idN_zero (l : List UInt8) : idA (idN l 0) = idA [] := by
  have : idN l 0 = List.replicate 32 0 := by
    unfold idN
    apply List.ext_getElem (by simp)
    intro i h1 h2
    simp only [List.getElem_map, List.getElem_range, List.getElem_replicate, nib]
    rw [if_neg (by omega), if_neg (by omega)]
  rw [this]; rfl
theorem idN_all (l : List UInt8) : idN l 64 = (List.range 32).map (unpair l) := by
  unfold idN
  apply List.ext_getElem (by simp)
  intro i h1 h2
  have : i < 32 := by simpa using h1
  simp only [List.getElem_map, List.getElem_range, nib]
  rw [if_pos (by omega)]
theorem idA_set (l : List UInt8) (i : Nat) (x : UInt8) (hl : l.length = 32) : (idA l).setIfInBounds i (.int .u8 (x.toNat : Int)) = idA (l.set i x) := by
  simp only [idA, List.setIfInBounds_toArray, hl, List.length_set, Nat.sub_self, List.replicate_zero, List.append_nil, List.map_set]
  rfl
theorem idN_step (l : List UInt8) (k : Nat) (hk : k < 64) (hg : goodTo l (k + 1)) : (idN l k).set (k / 2) (UInt8.ofNat (16 * ((nib l k (k / 2)).toNat % 16) + (unfig (l.getD k 0)).toNat)) = idN l (k + 1) := by
  have h0 := hg k (by omega)
  have hr := unfig_range (l.getD k 0)
  apply List.ext_getElem (by simp [idN])
  intro i h1 h2
  have hi : i < 32 := by simpa [idN] using h1
  rw [List.getElem_set]
  by_cases e : k / 2 = i
  · rw [if_pos e]
    simp only [idN, List.getElem_map, List.getElem_range]
    subst e
    rcases (show k = 2 * (k / 2) ∨ k = 2 * (k / 2) + 1 by omega) with hp | hp
    · have e1 : nib l k (k / 2) = 0 := by unfold nib; rw [if_neg (by omega), if_neg (by omega)]
      have e2 : nib l (k + 1) (k / 2) = UInt8.ofNat (unfig (l.getD k 0)).toNat := by unfold nib; rw [if_neg (by omega), if_pos (by omega), ← hp]
      rw [e1, e2]; simp
    · have hh := hg (2 * (k / 2)) (by omega)
      have hr2 := unfig_range (l.getD (2 * (k / 2)) 0)
      have e1 : nib l k (k / 2) = UInt8.ofNat (unfig (l.getD (2 * (k / 2)) 0)).toNat := by unfold nib; rw [if_neg (by omega), if_pos (by omega)]
      have e2 : nib l (k + 1) (k / 2) = unpair l (k / 2) := by unfold nib; rw [if_pos (by omega)]
      rw [e1, e2, unpair, ← hp]
      congr 1
      rw [UInt8.toNat_ofNat']
      omega
  · rw [if_neg e]
    simp only [idN, List.getElem_map, List.getElem_range, nib]
    by_cases c1 : 2 * i + 1 < k
    · rw [if_pos c1, if_pos (by omega)]
    · rw [if_neg c1, if_neg (show ¬ 2 * i < k by omega), if_neg (show ¬ 2 * i + 1 < k + 1 by omega), if_neg (show ¬ 2 * i < k + 1 by omega)]

theorem nib_val (o zn : Nat) (h : zn < 16) : (16 * ((o : Int) % 16) + (zn : Int)) = ((UInt8.ofNat (16 * (o % 16) + zn)).toNat : Int) := by rw [UInt8.toNat_ofNat']; omega
theorem one_byte (s : ByteArray) (i : Nat) (h : i < s.size) : s.extract i (i + 1) = ⟨#[s[i]]⟩ := by
  have h1 : (s.extract i (i + 1)).data.toList = [s[i]] := by
    simp only [ByteArray.data_extract, Array.toList_extract, List.extract_eq_take_drop]
    rw [Nat.add_sub_cancel_left, List.drop_eq_getElem_cons (show i < s.data.toList.length by simpa using h)]
    rfl
  generalize s.extract i (i + 1) = t at h1
  cases t with | mk d => cases d; simp at h1; rw [h1]
theorem eq_one (a b : UInt8) : ((ByteArray.mk #[a]) == (ByteArray.mk #[b])) = decide (a = b) := by
  show ((#[a] : Array UInt8) == #[b]) = decide (a = b)
  by_cases h : a = b
  · subst h; simp
  · simp [h]

set_option maxHeartbeats 800000 in
set_option maxRecDepth 100000 in
theorem refunhex_len (s : ByteArray) (w : World) (hs : s.size ≤ 9223372036854775807) (h : s.size ≠ 64) :
    Calls Tryd.prog 10 #[.string s] w fun r w' => r = .returned (.tuple #[.agg (idA []), .bool false]) ∧ Below w.heap.size w w' := by
  have hd : ((s.size : Int) != 64) = true := by rw [bne_iff_ne]; omega
  go_enter Tryd.func10, Tryd.ntmps10
  go_upto_region 1 with (fail)
  refine wp_region_list ?_
  refine wpList_build_zero rfl 24 rfl _ built24 ?_
  intro zz HZ
  have HIz : Hid ((Tryd.prog.info? 24).map (·.size) = some zz.size) := by rw [HZ.out]; exact idsize (by decide)
  have H1z : Hid (zz.all (·.oneCell') = true) := by rw [HZ.out]; exact idA_one []
  have HSz : Hid (zz.size = 32) := by rw [HZ.out]; rfl
  go_upto_region 3 with (refine wpList_store_row rfl 24 _ _ rfl (w.heap.size + 1) _ rfl rfl _ _ (heap_alloc2_new _ _ _) HIz.out (by rw [HSz.out]; rfl) H1z.out ?_)
  have E0 : Hid ((((w.alloc (.cells (idA []) 24)).alloc (.cells (idA []) 24)).setRow (w.heap.size + 1) zz).heap[w.heap.size]? = some (.cells (idA []) 24)) := (setRow_other _ _ _ _ (by omega)).trans (heap_alloc2_old _ _ _)
  have E1 : Hid ((((w.alloc (.cells (idA []) 24)).alloc (.cells (idA []) 24)).setRow (w.heap.size + 1) zz).heap[w.heap.size + 1]? = some (.cells zz 24)) := setRow_heap _ _ _ _ _ _ (heap_alloc2_new _ _ _)
  have hb1 : Below w.heap.size w (((w.alloc (.cells (idA []) 24)).alloc (.cells (idA []) 24)).setRow (w.heap.size + 1) zz) := below_setRow (((Below.refl _ _).alloc (Nat.le_refl _) _).alloc (by simp) _) (by omega) _
  change Code.wp _ _ _ _ (((w.alloc (.cells (idA []) 24)).alloc (.cells (idA []) 24)).setRow (w.heap.size + 1) zz)
  generalize ((w.alloc (.cells (idA []) 24)).alloc (.cells (idA []) 24)).setRow (w.heap.size + 1) zz = w1 at E0 E1 hb1 ⊢
  have hu := Lib.hid Tryd.underlying24
  have HS0 : Hid ((idA []).size = zz.size) := by rw [HZ.out]; rfl
  go_wp2_with (first | (refine wpList_load_row rfl 24 _ rfl (w.heap.size + 1) rfl _ _ _ _ E1.out hu.out rfl HIz.out ?_) | (refine wpList_store_row rfl 24 _ _ rfl w.heap.size _ rfl rfl _ _ E0.out HIz.out HS0.out H1z.out ?_))
  refine bodyPost_ret (v := .tuple #[.agg zz, .bool false]) ?_ rfl ⟨by rw [HZ.out], below_setRow hb1 (Nat.le_refl _) _⟩
  exact ret_id (by rfl) _ _ w.heap.size _ _ (by rfl) (by rfl) (setRow_heap _ _ _ _ _ _ E0.out) HIz.out

set_option maxHeartbeats 3200000 in
set_option maxRecDepth 100000 in
theorem refunhex_64 (s : ByteArray) (w : World) (h : s.size = 64) :
    Calls Tryd.prog 10 #[.string s] w fun r w' => Un s.data.toList r ∧ Below w.heap.size w w' := by
  have h64 : 64 ≤ s.size := by omega
  have hd : ((s.size : Int) != 64) = false := by simp; omega
  have HS := Lib.hid h
  clear h
  go_enter Tryd.func10, Tryd.ntmps10
  go_upto_region 1 with (fail)
  refine wp_region_list ?_
  refine wpList_build_zero rfl 24 rfl _ built24 ?_
  intro zz HZ
  have HIz : Hid ((Tryd.prog.info? 24).map (·.size) = some zz.size) := by rw [HZ.out]; exact idsize (by decide)
  have H1z : Hid (zz.all (·.oneCell') = true) := by rw [HZ.out]; exact idA_one []
  have HSz : Hid (zz.size = 32) := by rw [HZ.out]; rfl
  go_upto_region 2 with (refine wpList_store_row rfl 24 _ _ rfl (w.heap.size + 1) _ rfl rfl _ _ (heap_alloc2_new _ _ _) HIz.out (by rw [HSz.out]; rfl) H1z.out ?_)
  have E0 : Hid ((((w.alloc (.cells (idA []) 24)).alloc (.cells (idA []) 24)).setRow (w.heap.size + 1) zz).heap[w.heap.size]? = some (.cells (idA []) 24)) := (setRow_other _ _ _ _ (by omega)).trans (heap_alloc2_old _ _ _)
  have E1 : Hid ((((w.alloc (.cells (idA []) 24)).alloc (.cells (idA []) 24)).setRow (w.heap.size + 1) zz).heap[w.heap.size + 1]? = some (.cells (idA (idN s.data.toList 0)) 24)) := by rw [idN_zero, ← HZ.out]; exact setRow_heap _ _ _ _ _ _ (heap_alloc2_new _ _ _)
  have hb1 : Below w.heap.size w (((w.alloc (.cells (idA []) 24)).alloc (.cells (idA []) 24)).setRow (w.heap.size + 1) zz) := below_setRow (((Below.refl _ _).alloc (Nat.le_refl _) _).alloc (by simp) _) (by omega) _
  have hs1 : w.heap.size + 2 ≤ (((w.alloc (.cells (idA []) 24)).alloc (.cells (idA []) 24)).setRow (w.heap.size + 1) zz).heap.size := by simp
  change Code.wp _ _ _ _ (((w.alloc (.cells (idA []) 24)).alloc (.cells (idA []) 24)).setRow (w.heap.size + 1) zz)
  generalize ((w.alloc (.cells (idA []) 24)).alloc (.cells (idA []) 24)).setRow (w.heap.size + 1) zz = w1 at E0 E1 hb1 hs1 ⊢
  clear HIz H1z HSz
  go_wp2
  go_loopw [5] (fun i wr => ∃ (k : Nat), k ≤ 64 ∧ i = .int .i64 k ∧ Hid (goodTo s.data.toList k) ∧ Hid (wr.heap[w.heap.size]? = some (.cells (idA []) 24)) ∧ Hid (wr.heap[w.heap.size + 1]? = some (.cells (idA (idN s.data.toList k)) 24)) ∧ Below w.heap.size w wr ∧ w.heap.size + 2 ≤ wr.heap.size) (fun i _ => 64 - (intOf i).toNat)
  case atStart => exact ⟨0, by omega, rfl, fun j hj => absurd hj (by omega), E0, E1, hb1, hs1⟩
  case round =>
    clear E0 E1 hb1 hs1
    obtain ⟨k, hk, rfl, HG, E0, E1, hb1, hs1⟩ := hrel
    by_cases hlt : k < 64
    · have hlt' : (k : Int) < 64 := by omega
      obtain ⟨c, hc⟩ : ∃ c, s.data.toList.getD k 0 = c := ⟨_, rfl⟩
      have HC := Lib.hid hc
      clear hc
      have HO := Lib.hid (show s.extract k (k + 1) = ⟨#[c]⟩ by rw [← HC.out, getD_byte s k (by omega)]; exact one_byte s k (by omega))
      go_wp2
      go_loopw [6, 7] (fun n d wr => ∃ (e : Nat), e ≤ 16 ∧ d = .int .i64 e ∧ n = .int .i64 (nval c e) ∧ Hid (wr.heap[w.heap.size]? = some (.cells (idA []) 24)) ∧ Hid (wr.heap[w.heap.size + 1]? = some (.cells (idA (idN s.data.toList k)) 24)) ∧ Below w.heap.size w wr ∧ w.heap.size + 2 ≤ wr.heap.size) (fun _ d _ => 16 - (intOf d).toNat)
      case atStart => exact ⟨0, by omega, rfl, by rw [nval_zero], E0, E1, hb1, hs1⟩
      case round =>
        clear E0 E1 hb1 hs1
        obtain ⟨e, he, rfl, rfl, E0, E1, hb1, hs1⟩ := hrel
        by_cases hlt2 : e < 16
        · have hlt2' : (e : Int) < 16 := by omega
          have hi1 : (k : Int) + 1 ≤ (s.size : Int) := by omega
          have hw1 : IntKind.i64.wrap ((k : Int) + 1) = (k : Int) + 1 := IntWalk.i64_in _ (by omega)
          have hw2 : ((k : Int) + 1).toNat = k + 1 := by omega
          have hw3 : 0 ≤ (k : Int) + 1 := by omega
          have hw4 : (k : Int) ≤ (k : Int) + 1 := by omega
          have he0 : (0 : Int) ≤ (e : Int) := by omega
          have hex := HO.out
          by_cases hcd : c = hexd e
          · have heq : (c == hexd e) = true := by simpa using hcd
            have HN := Lib.hid (nval_hit c e hlt2 hcd)
            clear hcd
            go_wp2
            go_region_with (go_at_call 23; refine (digit_any _ _ he0 hlt2').mono ?_; rintro r w2 ⟨rfl, hb2⟩)
            all_goals
              have hz2 : wr.heap.size ≤ w2.heap.size := hb2.size
              have F0 := Lib.hid ((hb2.block w.heap.size (show w.heap.size < wr.heap.size by omega)).trans E0.out)
              have F1 := Lib.hid ((hb2.block (w.heap.size + 1) (show w.heap.size + 1 < wr.heap.size by omega)).trans E1.out)
              have hb3 : Below w.heap.size w w2 := hb1.drew.trans (hb2.mono (show w.heap.size ≤ wr.heap.size by omega))
              clear hb2 E0 E1 hb1
              go_wp2
              exact ⟨⟨e + 1, by omega, by go_num, by rw [HN.out], F0, F1, hb3, by omega⟩, by simp [intOf]; omega⟩
          · have heq : (c == hexd e) = false := by simpa using hcd
            have HN := Lib.hid (nval_miss c e hlt2 hcd)
            clear hcd
            go_wp2
            go_region_with (go_at_call 23; refine (digit_any _ _ he0 hlt2').mono ?_; rintro r w2 ⟨rfl, hb2⟩)
            all_goals
              have hz2 : wr.heap.size ≤ w2.heap.size := hb2.size
              have F0 := Lib.hid ((hb2.block w.heap.size (show w.heap.size < wr.heap.size by omega)).trans E0.out)
              have F1 := Lib.hid ((hb2.block (w.heap.size + 1) (show w.heap.size + 1 < wr.heap.size by omega)).trans E1.out)
              have hb3 : Below w.heap.size w w2 := hb1.drew.trans (hb2.mono (show w.heap.size ≤ wr.heap.size by omega))
              clear hb2 E0 E1 hb1
              go_wp2
              exact ⟨⟨e + 1, by omega, by go_num, by rw [HN.out], F0, F1, hb3, by omega⟩, by simp [intOf]; omega⟩
        · have HE := Lib.hid (show nval c e = unfig c by rw [show e = 16 by omega, nval_all])
          rw [HE.out]
          have hr := unfig_range c
          obtain ⟨hr1, hr2⟩ := hr
          have hge : ¬ (e : Int) < 16 := by omega
          by_cases hneg : unfig c < 0
          · have HNG : Hid (¬ goodTo s.data.toList 64) := fun hg => absurd (hg k hlt) (by rw [HC.out]; omega)
            generalize unfig c = z at hneg hr1 hr2 ⊢
            go_upto_region 14 with (fail)
            refine wp_region_list ?_
            refine wpList_build_zero rfl 24 rfl _ built24 ?_
            intro zz HZ
            have HIz : Hid ((Tryd.prog.info? 24).map (·.size) = some zz.size) := by rw [HZ.out]; exact idsize (by decide)
            have H1z : Hid (zz.all (·.oneCell') = true) := by rw [HZ.out]; exact idA_one []
            have HSz : Hid ((idA []).size = zz.size) := by rw [HZ.out]; rfl
            go_wp2_with (refine wpList_store_row rfl 24 _ _ rfl w.heap.size _ rfl rfl _ _ E0.out HIz.out HSz.out H1z.out ?_)
            refine bodyPost_ret (v := .tuple #[.agg zz, .bool false]) ?_ rfl ⟨.inr ⟨HNG.out, by rw [HZ.out]⟩, below_setRow hb1 (Nat.le_refl _) _⟩
            exact ret_id (by rfl) _ _ w.heap.size _ _ (by rfl) (by rfl) (setRow_heap _ _ _ _ _ _ E0.out) HIz.out
          · have HG2 : Hid (goodTo s.data.toList (k + 1)) := fun j hj => by
              rcases Nat.lt_or_ge j k with h | h
              · exact HG.out j h
              · rw [show j = k by omega, HC.out]; omega
            have HST := Lib.hid (idN_step s.data.toList k hlt HG2.out)
            rw [HC.out] at HST
            have c1 := (cell_of_row wr (w.heap.size + 1) (k / 2) _ _ _ E1.out).trans (idA_get _ (k / 2) (by rw [idN_len]; omega))
            rw [idN_get _ _ _ (by omega)] at c1
            have f1 := frozen_of_row wr (w.heap.size + 1) (k / 2) _ _ E1.out
            have HSet := Lib.hid (fun x => idA_set (idN s.data.toList k) (k / 2) x (idN_len _ _))
            generalize unfig c = z at hneg hr1 hr2 HST ⊢
            generalize nib s.data.toList k (k / 2) = o at c1 HST
            have ho := o.toNat_lt
            obtain ⟨zn, rfl⟩ := Int.eq_ofNat_of_zero_le (show 0 ≤ z by omega)
            have HV := Lib.hid (nib_val o.toNat zn (by omega))
            have hk2 : (k : Int) / 2 < 32 := by omega
            have hk3 : ((k : Int) / 2).toNat = k / 2 := by omega
            go_wp2
            rw [HV.out]
            simp only [Int.toNat_natCast] at HST
            have hset := HSet.out (UInt8.ofNat (16 * (o.toNat % 16) + zn))
            rw [HST.out] at hset
            refine ⟨⟨k + 1, by omega, by go_num, HG2, held_apart E0.out _ _ _ (by omega), ?_, hb1.setCell (by simp) _, by simp; omega⟩, by simp [intOf]; omega⟩
            rw [← hset]
            exact held_set E1.out (k / 2) _
    · have HG3 := Lib.hid (show goodTo s.data.toList 64 by rw [show 64 = k by omega]; exact HG.out)
      have HE : Hid (wr.heap[w.heap.size + 1]? = some (.cells (idA ((List.range 32).map (unpair s.data.toList))) 24)) := by rw [← idN_all, show 64 = k by omega]; exact E1.out
      have hl : ((List.range 32).map (unpair s.data.toList)).length ≤ 32 := by simp
      have HI := Lib.hid (idsize hl)
      have H0 := Lib.hid (show (idA []).size = (idA ((List.range 32).map (unpair s.data.toList))).size by rw [idA_size _ hl]; rfl)
      have H1 := Lib.hid (idA_one ((List.range 32).map (unpair s.data.toList)))
      have HR := Lib.hid (show Un s.data.toList (.returned (.tuple #[.agg (idA ((List.range 32).map (unpair s.data.toList))), .bool true])) from .inl ⟨HG3.out, rfl⟩)
      generalize idA ((List.range 32).map (unpair s.data.toList)) = da at HE HI H0 H1 HR
      have hu := Lib.hid Tryd.underlying24
      clear hl
      go_wp2_with (first | (refine wpList_load_row rfl 24 _ rfl (w.heap.size + 1) rfl _ _ _ _ HE.out hu.out rfl HI.out ?_) | (refine wpList_store_row rfl 24 _ _ rfl w.heap.size _ rfl rfl _ _ E0.out HI.out H0.out H1.out ?_))
      refine bodyPost_ret (v := .tuple #[.agg da, .bool true]) ?_ rfl ⟨HR.out, below_setRow hb1 (Nat.le_refl _) _⟩
      exact ret_id (by rfl) _ _ w.heap.size _ _ (by rfl) (by rfl) (setRow_heap _ _ _ _ _ _ E0.out) HI.out

end Go.Proofs.YtijlmeodfmanmaaDoor
