/-
  WALKS OF LAYER 2: Unhex.
-/
import Derived.Test.YtijlmeodfmanmaaDoorWalksJ
import Derived.Test.YtijlmeodfmanmaaDoorWalksG
import Derived.Test.YtijlmeodfmanmaaDoorShelf
namespace Go.Proofs.YtijlmeodfmanmaaDoor
open Go.RowKit
set_option linter.unusedVariables false
set_option linter.unusedSimpArgs false

/-- The number of a figure. -/
def unfig (c : UInt8) : Int := Lib.indexByte figs.data.toList c
theorem unfig_all : ∀ c : Fin 256, -1 ≤ unfig (UInt8.ofNat c.val) ∧ unfig (UInt8.ofNat c.val) < 16 ∧ (0 ≤ unfig (UInt8.ofNat c.val) → hexd (unfig (UInt8.ofNat c.val)).toNat = UInt8.ofNat c.val) := by decide +kernel
theorem unfig_hexd : ∀ n : Fin 16, unfig (hexd n.val) = (n.val : Int) := by decide +kernel
theorem unfig_range (c : UInt8) : -1 ≤ unfig c ∧ unfig c < 16 := by
  have h := unfig_all ⟨c.toNat, c.toNat_lt⟩
  rw [show UInt8.ofNat (Fin.mk c.toNat c.toNat_lt).val = c by simp] at h
  exact ⟨h.1, h.2.1⟩
theorem hexd_unfig (c : UInt8) (h0 : 0 ≤ unfig c) : hexd (unfig c).toNat = c := by
  have h := unfig_all ⟨c.toNat, c.toNat_lt⟩
  rw [show UInt8.ofNat (Fin.mk c.toNat c.toNat_lt).val = c by simp] at h
  exact h.2.2 h0

/-- Whether the first n bytes are figures. -/
def goodTo (l : List UInt8) (n : Nat) : Prop := ∀ j, j < n → 0 ≤ unfig (l.getD j 0)
/-- The byte that two figures are. -/
def unpair (l : List UInt8) (i : Nat) : UInt8 := UInt8.ofNat ((unfig (l.getD (2 * i) 0)).toNat * 16 + (unfig (l.getD (2 * i + 1) 0)).toNat)
theorem built24 : Tryd.prog.built 24 [] = some (idA []) := by kernel_rfl
/-- What is returned: an id out of a block that is known, and a bool. -/
theorem ret_id {fn : Func} {p u : Tmp} (h : fn.results = #[.cell p 24, .tmp u]) (tmps : Array Value) (w : World) (g : Nat) (cs : Array Value) (b : Bool) (hp : tmps.getD p undef = .pointer (some ⟨g, 0, none⟩)) (hu : tmps.getD u undef = .bool b)
    (hg : w.heap[g]? = some (.cells cs 24)) (hi : (Tryd.prog.info? 24).map (·.size) = some cs.size) : (results fn tmps).run Tryd.prog w = .ok (.tuple #[.agg cs, .bool b]) w := by
  have hld := run_loadVar_row (P := Tryd.prog) w g 24 24 cs _ _ hg Tryd.underlying24 rfl hi
  have hp' : tmps[p]?.getD undef = .pointer (some ⟨g, 0, none⟩) := by simpa using hp
  have hu' : tmps[u]?.getD undef = .bool b := by simpa using hu
  rw [results_cell_tmp h]
  simp [asAddr, Result.andThen, hp', hu', hld]

set_option maxHeartbeats 800000 in
set_option maxRecDepth 100000 in
theorem unhex_len (s : ByteArray) (w : World) (hs : s.size ≤ 9223372036854775807) (h : s.size ≠ 64) :
    Calls Tryd.prog 9 #[.string s] w fun r w' => r = .returned (.tuple #[.agg (idA []), .bool false]) ∧ Below w.heap.size w w' := by
  have hd : ((s.size : Int) != 64) = true := by rw [bne_iff_ne]; omega
  go_enter Tryd.func9, Tryd.ntmps9
  go_upto_region 3 with (fail)
  refine wp_region_list ?_
  refine wpList_build_zero rfl 24 rfl _ built24 ?_
  intro zz HZ
  have HIz : Hid ((Tryd.prog.info? 24).map (·.size) = some zz.size) := by rw [HZ.out]; exact idsize (by decide)
  have H1z : Hid (zz.all (·.oneCell') = true) := by rw [HZ.out]; exact idA_one []
  have HSz : Hid (zz.size = 32) := by rw [HZ.out]; rfl
  go_wp2_with (refine wpList_store_row rfl 24 _ _ rfl w.heap.size _ rfl rfl _ _ (heap_alloc2_old _ _ _) HIz.out (by rw [HSz.out]; rfl) H1z.out ?_)
  refine bodyPost_ret (v := .tuple #[.agg zz, .bool false]) ?_ rfl ⟨by rw [HZ.out], below_setRow (((Below.refl _ _).alloc (Nat.le_refl _) _).alloc (by simp) _) (Nat.le_refl _) _⟩
  exact ret_id (by rfl) _ _ w.heap.size _ _ (by rfl) (by rfl) (setRow_heap _ _ _ _ _ _ (heap_alloc2_old _ _ _)) HIz.out

theorem idx_any (c : UInt8) (w : World) : Calls Tryd.prog 22 #[.string ⟨#[48, 49, 50, 51, 52, 53, 54, 55, 56, 57, 97, 98, 99, 100, 101, 102]⟩, .int .u8 (c.toNat : Int)] w fun r w' => r = .returned (.int .i64 (unfig c)) ∧ w = w' := by
  refine (Tryd.strings_IndexByte figs (c.toNat : Int) w).mono ?_
  rintro r w' ⟨rfl, rfl⟩
  refine ⟨?_, rfl⟩
  have e : ((c.toNat : Int)).toNat.toUInt8 = c := by simp
  rw [e]; rfl
theorem getD_byte (b : ByteArray) (j : Nat) (hj : j < b.size) : b.data.toList.getD j 0 = b[j] := by
  rw [List.getD_eq_getElem?_getD, List.getElem?_eq_getElem (by simpa using hj)]; rfl
/-- What Unhex of 64 bytes answers. -/
def Un (l : List UInt8) (r : Ending) : Prop := (goodTo l 64 ∧ r = .returned (.tuple #[.agg (idA ((List.range 32).map (unpair l))), .bool true])) ∨ (¬ goodTo l 64 ∧ r = .returned (.tuple #[.agg (idA []), .bool false]))
theorem pair_bits (hi lo : Int) (h1 : 0 ≤ hi) (h2 : hi < 16) (h3 : 0 ≤ lo) (h4 : lo < 16) : bits BinOp.or IntKind.i64 (hi * 16) lo % 256 = ((UInt8.ofNat (hi.toNat * 16 + lo.toNat)).toNat : Int) := by
  obtain ⟨a, rfl⟩ := Int.eq_ofNat_of_zero_le h1
  obtain ⟨b, rfl⟩ := Int.eq_ofNat_of_zero_le h3
  have ha : a < 16 := by omega
  have hb : b < 16 := by omega
  have hall : ∀ x y : Fin 16, bits BinOp.or IntKind.i64 (((x.val : Nat) : Int) * 16) ((y.val : Nat) : Int) % 256 = ((UInt8.ofNat (x.val * 16 + y.val)).toNat : Int) := by decide +kernel
  simpa using hall ⟨a, ha⟩ ⟨b, hb⟩

set_option maxHeartbeats 1600000 in
set_option maxRecDepth 100000 in
theorem unhex_64 (s : ByteArray) (w : World) (h : s.size = 64) :
    Calls Tryd.prog 9 #[.string s] w fun r w' => Un s.data.toList r ∧ Below w.heap.size w w' := by
  have h64 : 64 ≤ s.size := by omega
  have hd : ((s.size : Int) != 64) = false := by simp; omega
  have HS := Lib.hid h
  clear h
  go_enter Tryd.func9, Tryd.ntmps9
  go_wp2
  go_loopw [12] (fun i wr => ∃ (k : Nat), k ≤ 32 ∧ i = .int .i64 k ∧ Hid (goodTo s.data.toList (2 * k)) ∧ Hid (wr.heap[w.heap.size]? = some (.cells (idA []) 24)) ∧ Hid (wr.heap[w.heap.size + 1]? = some (.cells (idA ((List.range k).map (unpair s.data.toList))) 24)) ∧ Below w.heap.size w wr) (fun i _ => 32 - (intOf i).toNat)
  case atStart => exact ⟨0, by omega, rfl, fun j hj => absurd hj (by omega), heap_alloc2_old _ _ _, heap_alloc2_new _ _ _, ((Below.refl _ _).alloc (Nat.le_refl _) _).alloc (by simp) _⟩
  case round =>
    obtain ⟨k, hk, rfl, HG, E0, E1, hbr⟩ := hrel
    by_cases hlt : k < 32
    · have hlt' : (k : Int) < 32 := by omega
      have hi1 : 2 * (k : Int) < (s.size : Int) := by omega
      have hi2 : 2 * (k : Int) + 1 < (s.size : Int) := by omega
      have e1 := Lib.hid (getD_byte s (2 * k) (by omega))
      have e2 := Lib.hid (getD_byte s (2 * k + 1) (by omega))
      go_wp2_with fail
      refine (idx_any _ _).mono ?_
      rintro r w1 ⟨rfl, rfl⟩
      go_wp2_with fail
      refine (idx_any _ _).mono ?_
      rintro r w1 ⟨rfl, rfl⟩
      rw [← e1.out, ← e2.out]
      have hr1 := unfig_range (s.data.toList.getD (2 * k) 0)
      have hr2 := unfig_range (s.data.toList.getD (2 * k + 1) 0)
      have HB1 := Lib.hid (fun (h0 : unfig (s.data.toList.getD (2 * k) 0) < 0) => (fun hg => absurd (hg (2 * k) (by omega)) (by omega) : ¬ goodTo s.data.toList 64))
      have HB2 := Lib.hid (fun (h0 : unfig (s.data.toList.getD (2 * k + 1) 0) < 0) => (fun hg => absurd (hg (2 * k + 1) (by omega)) (by omega) : ¬ goodTo s.data.toList 64))
      have HU := Lib.hid (show unpair s.data.toList k = UInt8.ofNat ((unfig (s.data.toList.getD (2 * k) 0)).toNat * 16 + (unfig (s.data.toList.getD (2 * k + 1) 0)).toNat) from rfl)
      have HG2 := Lib.hid (fun (h1 : 0 ≤ unfig (s.data.toList.getD (2 * k) 0)) (h2 : 0 ≤ unfig (s.data.toList.getD (2 * k + 1) 0)) => (fun j hj => by
        rcases Nat.lt_or_ge j (2 * k) with h | h
        · exact HG.out j h
        · rcases (show j = 2 * k ∨ j = 2 * k + 1 by omega) with rfl | rfl
          · exact h1
          · exact h2 : goodTo s.data.toList (2 * (k + 1))))
      generalize unfig (s.data.toList.getD (2 * k) 0) = hi at hr1 HB1 HU HG2 ⊢
      generalize unfig (s.data.toList.getD (2 * k + 1) 0) = lo at hr2 HB2 HU HG2 ⊢
      clear e1 e2
      obtain ⟨hr1, hr1'⟩ := hr1
      obtain ⟨hr2, hr2'⟩ := hr2
      by_cases hb1 : hi < 0
      · have hd1 : decide (hi < 0) = true := by simpa using hb1
        have HNG := Lib.hid (HB1.out hb1)
        clear HB1 HB2 HU HG2
        go_upto_region 10 with (fail)
        refine wp_region_list ?_
        refine wpList_build_zero rfl 24 rfl _ built24 ?_
        intro zz HZ
        have HIz : Hid ((Tryd.prog.info? 24).map (·.size) = some zz.size) := by rw [HZ.out]; exact idsize (by decide)
        have H1z : Hid (zz.all (·.oneCell') = true) := by rw [HZ.out]; exact idA_one []
        have HSz : Hid ((idA []).size = zz.size) := by rw [HZ.out]; rfl
        go_wp2_with (refine wpList_store_row rfl 24 _ _ rfl w.heap.size _ rfl rfl _ _ E0.out HIz.out HSz.out H1z.out ?_)
        refine bodyPost_ret (v := .tuple #[.agg zz, .bool false]) ?_ rfl ⟨.inr ⟨HNG.out, by rw [HZ.out]⟩, below_setRow hbr (Nat.le_refl _) _⟩
        exact ret_id (by rfl) _ _ w.heap.size _ _ (by rfl) (by rfl) (setRow_heap _ _ _ _ _ _ E0.out) HIz.out
      · have hd1 : decide (hi < 0) = false := by simpa using hb1
        by_cases hb2 : lo < 0
        · have hd2 : decide (lo < 0) = true := by simpa using hb2
          have HNG := Lib.hid (HB2.out hb2)
          clear HB1 HB2 HU HG2
          go_upto_region 10 with (fail)
          refine wp_region_list ?_
          refine wpList_build_zero rfl 24 rfl _ built24 ?_
          intro zz HZ
          have HIz : Hid ((Tryd.prog.info? 24).map (·.size) = some zz.size) := by rw [HZ.out]; exact idsize (by decide)
          have H1z : Hid (zz.all (·.oneCell') = true) := by rw [HZ.out]; exact idA_one []
          have HSz : Hid ((idA []).size = zz.size) := by rw [HZ.out]; rfl
          go_wp2_with (refine wpList_store_row rfl 24 _ _ rfl w.heap.size _ rfl rfl _ _ E0.out HIz.out HSz.out H1z.out ?_)
          refine bodyPost_ret (v := .tuple #[.agg zz, .bool false]) ?_ rfl ⟨.inr ⟨HNG.out, by rw [HZ.out]⟩, below_setRow hbr (Nat.le_refl _) _⟩
          exact ret_id (by rfl) _ _ w.heap.size _ _ (by rfl) (by rfl) (setRow_heap _ _ _ _ _ _ E0.out) HIz.out
        · have hd2 : decide (lo < 0) = false := by simpa using hb2
          have HG3 := Lib.hid (HG2.out (by omega) (by omega))
          have hpb := pair_bits hi lo (by omega) (by omega) (by omega) (by omega)
          have HPB := Lib.hid hpb
          clear hpb HB1 HB2 HG2 HG
          have c1 := (cell_of_row wr (w.heap.size + 1) k _ _ _ E1.out).trans (idA_rest _ k (by simp) (by omega))
          have f1 := frozen_of_row wr (w.heap.size + 1) k _ _ E1.out
          go_wp2
          rw [HPB.out, ← HU.out]
          refine ⟨⟨k + 1, by omega, by go_num, HG3, held_apart E0.out _ _ _ (by omega), ?_, hbr.setCell (by simp) _⟩, by simp [intOf]; omega⟩
          rw [range_take, ← idA_push _ _ (by simp; omega)]
          have := held_set E1.out k (.int .u8 ((unpair s.data.toList k).toNat : Int))
          simpa [Hid] using this
    · have HG3 := Lib.hid (show goodTo s.data.toList 64 by rw [show 64 = 2 * k by omega]; exact HG.out)
      have HE : Hid (wr.heap[w.heap.size + 1]? = some (.cells (idA ((List.range 32).map (unpair s.data.toList))) 24)) := by rw [show 32 = k by omega]; exact E1.out
      have hl : ((List.range 32).map (unpair s.data.toList)).length ≤ 32 := by simp
      have HI := Lib.hid (idsize hl)
      have H0 := Lib.hid (show (idA []).size = (idA ((List.range 32).map (unpair s.data.toList))).size by rw [idA_size _ hl]; rfl)
      have H1 := Lib.hid (idA_one ((List.range 32).map (unpair s.data.toList)))
      have HR := Lib.hid (show Un s.data.toList (.returned (.tuple #[.agg (idA ((List.range 32).map (unpair s.data.toList))), .bool true])) from .inl ⟨HG3.out, rfl⟩)
      generalize idA ((List.range 32).map (unpair s.data.toList)) = da at HE HI H0 H1 HR
      have hu := Lib.hid Tryd.underlying24
      clear hl
      go_wp2_with (first | (refine wpList_load_row rfl 24 _ rfl (w.heap.size + 1) rfl _ _ _ _ HE.out hu.out rfl HI.out ?_) | (refine wpList_store_row rfl 24 _ _ rfl w.heap.size _ rfl rfl _ _ E0.out HI.out H0.out H1.out ?_))
      refine bodyPost_ret (v := .tuple #[.agg da, .bool true]) ?_ rfl ⟨HR.out, below_setRow hbr (Nat.le_refl _) _⟩
      exact ret_id (by rfl) _ _ w.heap.size _ _ (by rfl) (by rfl) (setRow_heap _ _ _ _ _ _ E0.out) HI.out

end Go.Proofs.YtijlmeodfmanmaaDoor
