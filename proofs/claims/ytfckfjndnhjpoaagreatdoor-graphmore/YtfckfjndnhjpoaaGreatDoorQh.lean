/-
  THE WALK OF THE LAW ObjectDecodes: whatever the string, the law answers true.
-/
import Derived.Test.YtfckfjndnhjpoaaGreatDoorQe
import Derived.Test.YtfckfjndnhjpoaaGreatDoorQc
import Derived.Test.YtfckfjndnhjpoaaGreatDoorQb
import Derived.Test.YtfckfjndnhjpoaaGreatDoorQg
import Derived.Shelf.SlGeneric
import Derived.Shelf.SlSortCmp.WholeK
import Derived.Ground.SlsfProg
import Derived.Test.YtfckfjndnhjpoaaGreatDoorProg
import Derived.Test.YtfckfjndnhjpoaaGreatDoorQa
set_option linter.unusedVariables false
set_option linter.unusedSimpArgs false
set_option maxHeartbeats 8000000
set_option maxRecDepth 100000
section
namespace Go.Proofs.YtfckfjndnhjpoaaGreatDoor
open Go.RowKit
theorem short_ob {o : Ob} (hv : validB o = true) (hs : (encS o).size ≤ 4096) : o.data.size ≤ 5000 ∧ o.text.size ≤ 5000 ∧ o.name.size ≤ 100 ∧ 0 < (encS o).size := by
 have e : (encS o).data.toList = byteK o.kind :: (textOf ⟨(bodyL o).toArray⟩).data.toList := by
  unfold encS
  rw [ByteArray.data_append, Array.toList_append]; rfl
 have h1 := congrArg List.length e
 have hl : (bodyL o).length ≤ 4096 := by
  rw [size_list, Rm.textOf_list, List.length_cons, List.length_append] at h1
  omega
 have hv2 := hv
 unfold validB foreignZ at hv2
 simp only [Bool.and_eq_true, Bool.or_eq_true, beq_iff_eq, blobZ, treeZ, commitZ, tagZ, decide_eq_true_eq, List.isEmpty_iff] at hv2
 obtain ⟨⟨⟨⟨z1, z2⟩, z3⟩, z4⟩, zz⟩ := hv2
 have hd : o.data.size ≤ 5000 := by
  by_cases e1 : o.kind = 1
  ·
   have : bodyL o = o.data.data.toList := by simp [bodyL, e1]
   rw [this, size_list] at hl; omega
  · rw [Rm.empty_of (z1.resolve_left e1)]; decide
 have ht : o.text.size ≤ 5000 := by
  by_cases e3 : o.kind = 3
  ·
   have : bodyL o = commitL o := by simp [bodyL, e3]
   rw [this] at hl
   unfold commitL textOf at hl
   rw [put_list] at hl
   simp only [List.length_append, size_list] at hl
   omega
  · rw [Rm.empty_of (z3.resolve_left e3).2]; decide
 have hn : o.name.size ≤ 100 := by
  by_cases e4 : o.kind = 4
  ·
   rw [if_neg (by omega), if_neg (by omega), if_neg (by omega), if_pos e4] at zz
   rw [Bool.and_eq_true] at zz
   have := nameOk_size zz.2
   omega
  · rw [Rm.empty_of (z4.resolve_left e4).2]; decide
 refine ⟨hd, ht, hn, ?_⟩
 rw [size_list, List.length_cons] at h1; omega
theorem no_at (w : World) : ObAt w (obC noOb nilV nilV).toArray noOb none none 0 0 :=
 ⟨noF, RowsAt.nil _ _, RowsAt.nil _ _, (fun e he => by cases he), (fun e he => by cases he), (fun e he => by cases he), Nat.zero_le _, Nat.zero_le _, (show (0 : Nat) ≤ maxLen from Nat.zero_le _), (show (0 : Nat) < 4294967296 by decide)⟩
theorem dec_yes (s : ByteArray) (o : Ob) (w : World) (hs : s.size ≤ maxLen) (h : Rm.dec s.data.toList = some o) : Calls Tryz.prog 74 #[.string s] w (ADec o w) := by
 have := decode_any s w hs
 unfold Dcd at this
 rw [h] at this
 exact this
theorem refdec_no (s : ByteArray) (w : World) (hs : s.size ≤ 5000) (h : Rm.dec s.data.toList = none) : Calls Tryz.prog 95 #[.string s] w (NoR w) := by
 by_cases h0 : 0 < s.size
 ·
  cases hok : encOk (Rm.guessF s.data.toList) with
  | false => exact refdec_bad s w h0 hs hok
  | true =>
    by_cases hd : encS (Rm.guessF s.data.toList) = s
    ·
     refine (refdec_good s w h0 hs hok hd).mono ?_
     rintro r w' ⟨cs, ao, bo, ca, cb, _, hO, _⟩
     exfalso
     have hok2 := hok
     unfold encOk at hok2
     rw [Bool.and_eq_true, decide_eq_true_eq] at hok2
     obtain ⟨h1, h2, h3, _⟩ := short_ob hok2.1 hok2.2
     have hf := Rm.dec_fwd hok2.1 (fit_of hok2.1 h1 h2 h3) hO.eid hO.pid hO.F.trl hO.F.tal hO.ti hok2.2
     rw [hd, h] at hf
     cases hf
    · exact refdec_diff s w h0 hs hok hd
 ·
  have he : s = ByteArray.empty := bytes_ext (by
   have := size_list s
   have h1 : s.data.toList.length = 0 := by omega
   rw [List.eq_nil_of_length_eq_zero h1]; rfl)
  rw [he]
  exact refdec_empty w
theorem id_any (s : ByteArray) (w : World) (hk : S2.KIn w) (hl : s.size ≤ 70368744177664) :
  Calls Tryz.prog 75 #[.string s] w fun r w' => r = .returned (.agg (S2.idA (S2.Sh.idOf (S2.Sh.sha s.data.toList)))) ∧ Below w.heap.size w w' := by
 have hsum := S2.sum_one s (w.alloc (.cells (S2.idA []) 42)) (hk.more _) hl
 rw [show (w.alloc (.cells (S2.idA []) 42)).heap.size = w.heap.size + 1 by simp] at hsum
 have hil := S2.Sh.idOf_length (S2.Sh.sha s.data.toList)
 generalize S2.Sh.idOf (S2.Sh.sha s.data.toList) = M at *
 have HSUM := Lib.hid hsum
 have hM : M.length ≤ 32 := by omega
 have HI := Lib.hid (S2.idsize hM)
 have H0 := Lib.hid (show (S2.idA []).size = (S2.idA M).size by rw [S2.idA_size M hM]; rfl)
 have H1 := Lib.hid (S2.idA_one M)
 clear hsum hil hM hk
 generalize S2.idA M = da at *
 go_enter Tryz.func75, Tryz.ntmps75
 go_wp2_with fail
 refine HSUM.out.mono ?_
 rintro r w2 ⟨rfl, hb2⟩
 have E0 : Hid (w2.heap[w.heap.size]? = some (.cells (S2.idA []) 42)) := (hb2.block w.heap.size (by omega)).trans ((Below.heap_alloc _ _ _ (by simp)).trans (heap_alloc_last w _))
 have hb8 : Below w.heap.size w w2 := (((Below.refl _ _).alloc (Nat.le_refl _) _).alloc (by simp) _).trans (hb2.mono (by omega))
 clear hb2 HSUM
 go_wp2_with (refine wpList_store_row rfl 42 _ _ rfl w.heap.size _ rfl rfl _ _ E0.out HI.out H0.out H1.out ?_)
 refine bodyPost_ret (v := .agg da) ?_ rfl ⟨rfl, below_setRow hb8 (Nat.le_refl _) _⟩
 exact results_cell_row (by rfl) _ _ w.heap.size _ _ _ _ (by rfl) (setRow_heap _ _ _ _ _ _ E0.out) Tryz.underlying42 rfl HI.out
end Go.Proofs.YtfckfjndnhjpoaaGreatDoor
end
section
namespace Go.Proofs
open Go.Shelf
def Tryz.sortId_ren : Go.Shelf.Ren := ⟨fun | 6 => 46 | 15 => 81 | 14 => 80 | 28 => 116 | 29 => 117 | 20 => 108 | 21 => 109 | 22 => 110 | 23 => 111 | 24 => 112 | 25 => 113 | 26 => 114 | 27 => 115 | 46 => 150 | 47 => 151 | 48 => 152 | 49 => 153 | 50 => 154 | 57 => 175 | n => n, fun | 22 => 34 | 24 => 42 | 25 => 99 | 3 => 3 | 39 => 134 | 0 => 0 | 53 => 52 | 55 => 133 | 4 => 4 | 46 => 183 | 45 => 182 | 50 => 178 | 5 => 5 | 9 => 9 | 66 => 216 | 70 => 220 | 76 => 242 | 77 => 243 | n => n, fun | n => n⟩
theorem Tryz.sortId : Go.Proofs.SlLaysF0.n6 Tryz.prog Tryz.sortId_ren := {
 mixed := by kernel_rfl
 f6 := ⟨Tryz.f46.name, by decide, Tryz.func46.trans (congrArg some (by kernel_rfl))⟩
 f14 := ⟨Tryz.f80.name, by decide, Tryz.func80.trans (congrArg some (by kernel_rfl))⟩
 f15 := Tryz.func81.trans (congrArg some (by kernel_rfl))
 f20 := ⟨Tryz.f108.name, by decide, Tryz.func108.trans (congrArg some (by kernel_rfl))⟩
 f21 := ⟨Tryz.f109.name, by decide, Tryz.func109.trans (congrArg some (by kernel_rfl))⟩
 f22 := ⟨Tryz.f110.name, by decide, Tryz.func110.trans (congrArg some (by kernel_rfl))⟩
 f23 := ⟨Tryz.f111.name, by decide, Tryz.func111.trans (congrArg some (by kernel_rfl))⟩
 f24 := ⟨Tryz.f112.name, by decide, Tryz.func112.trans (congrArg some (by kernel_rfl))⟩
 f25 := ⟨Tryz.f113.name, by decide, Tryz.func113.trans (congrArg some (by kernel_rfl))⟩
 f26 := ⟨Tryz.f114.name, by decide, Tryz.func114.trans (congrArg some (by kernel_rfl))⟩
 f27 := ⟨Tryz.f115.name, by decide, Tryz.func115.trans (congrArg some (by kernel_rfl))⟩
 f28 := Tryz.func116.trans (congrArg some (by kernel_rfl))
 f29 := Tryz.func117.trans (congrArg some (by kernel_rfl))
 f46 := ⟨Tryz.f150.name, by decide, Tryz.func150.trans (congrArg some (by kernel_rfl))⟩
 f47 := Tryz.func151.trans (congrArg some (by kernel_rfl))
 f48 := Tryz.func152.trans (congrArg some (by kernel_rfl))
 f49 := ⟨Tryz.f153.name, by decide, Tryz.func153.trans (congrArg some (by kernel_rfl))⟩
 f50 := ⟨Tryz.f154.name, by decide, Tryz.func154.trans (congrArg some (by kernel_rfl))⟩
 f57 := ⟨Tryz.f175.name, by decide, Tryz.func175.trans (congrArg some (by kernel_rfl))⟩
 t0 := Tryz.underlying0
 a0 := Tryz.isAgg0
 z0 := Tryz.sizeOf0
 v0 := Tryz.zeroValue0
 t3 := Tryz.underlying3
 a3 := Tryz.isAgg3
 z3 := Tryz.sizeOf3
 v3 := Tryz.zeroValue3
 t4 := Tryz.underlying4
 a4 := Tryz.isAgg4
 z4 := Tryz.sizeOf4
 v4 := Tryz.zeroValue4
 t5 := Tryz.underlying5
 a5 := Tryz.isAgg5
 z5 := Tryz.sizeOf5
 v5 := Tryz.zeroValue5
 t9 := Tryz.underlying9
 a9 := Tryz.isAgg9
 z9 := Tryz.sizeOf9
 v9 := Tryz.zeroValue9
 t22 := Tryz.underlying34
 a22 := Tryz.isAgg34
 z22 := Tryz.sizeOf34
 v22 := Tryz.zeroValue34
 t25 := Tryz.underlying99
 a25 := Tryz.isAgg99
 z25 := Tryz.sizeOf99
 v25 := Tryz.zeroValue99
 t39 := Tryz.underlying134
 a39 := Tryz.isAgg134
 z39 := Tryz.sizeOf134
 v39 := Tryz.zeroValue134
 t45 := Tryz.underlying182
 a45 := Tryz.isAgg182
 z45 := Tryz.sizeOf182
 v45 := Tryz.zeroValue182
 t46 := Tryz.underlying183
 a46 := Tryz.isAgg183
 z46 := Tryz.sizeOf183
 v46 := Tryz.zeroValue183
 t50 := Tryz.underlying178
 a50 := Tryz.isAgg178
 z50 := Tryz.sizeOf178
 v50 := Tryz.zeroValue178
 t53 := Tryz.underlying52
 a53 := Tryz.isAgg52
 z53 := Tryz.sizeOf52
 v53 := Tryz.zeroValue52
 t55 := Tryz.underlying133
 a55 := Tryz.isAgg133
 z55 := Tryz.sizeOf133
 v55 := Tryz.zeroValue133
 t66 := Tryz.underlying216
 a66 := Tryz.isAgg216
 z66 := Tryz.sizeOf216
 v66 := Tryz.zeroValue216
 t70 := Tryz.underlying220
 a70 := Tryz.isAgg220
 z70 := Tryz.sizeOf220
 v70 := Tryz.zeroValue220
 t76 := Tryz.underlying242
 a76 := Tryz.isAgg242
 z76 := Tryz.sizeOf242
 v76 := Tryz.zeroValue242
 t77 := Tryz.underlying243
 a77 := Tryz.isAgg243
 z77 := Tryz.sizeOf243
 v77 := Tryz.zeroValue243 }
end Go.Proofs
end
