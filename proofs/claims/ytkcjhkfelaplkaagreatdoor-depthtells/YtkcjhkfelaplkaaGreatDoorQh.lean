/-
  THE WALK OF THE LAW ObjectDecodes: whatever the string, the law answers true.
-/
import Derived.Test.YtkcjhkfelaplkaaGreatDoorQe
import Derived.Test.YtkcjhkfelaplkaaGreatDoorQc
import Derived.Test.YtkcjhkfelaplkaaGreatDoorQb
import Derived.Test.YtkcjhkfelaplkaaGreatDoorQg
import Derived.Shelf.SlGeneric
import Derived.Shelf.SlSortCmp.WholeK
import Derived.Ground.SlsfProg
import Derived.Test.YtkcjhkfelaplkaaGreatDoorProg
import Derived.Test.YtkcjhkfelaplkaaGreatDoorQa
set_option linter.unusedVariables false
set_option linter.unusedSimpArgs false
set_option maxHeartbeats 8000000
set_option maxRecDepth 100000
section
namespace Go.Proofs.YtkcjhkfelaplkaaGreatDoor
open Go.RowKit
theorem short_ob {o : Ob} (hv : validB o = true) (hs : (encS o).size ≤ 4096) : o.data.size ≤ 5000 ∧ o.text.size ≤ 5000 ∧ o.name.size ≤ 100 ∧ 0 < (encS o).size := by
 have e : (encS o).data.toList = byteK o.kind :: (textOf ⟨(bodyL o).toArray⟩).data.toList := by
  unfold encS
  rw [ByteArray.data_append, Array.toList_append]; rfl
 have h1 := congrArg List.length e
 have hl : (bodyL o).length ≤ 4096 := by
  rw [size_list, Rm.textOf_list, List.length_cons, List.length_append] at h1
  omega
 have hv2 := hv
 unfold validB foreignZ at hv2
 simp only [Bool.and_eq_true, Bool.or_eq_true, beq_iff_eq, blobZ, treeZ, commitZ, tagZ, decide_eq_true_eq, List.isEmpty_iff] at hv2
 obtain ⟨⟨⟨⟨z1, z2⟩, z3⟩, z4⟩, zz⟩ := hv2
 have hd : o.data.size ≤ 5000 := by
  by_cases e1 : o.kind = 1
  ·
   have : bodyL o = o.data.data.toList := by simp [bodyL, e1]
   rw [this, size_list] at hl; omega
  · rw [Rm.empty_of (z1.resolve_left e1)]; decide
 have ht : o.text.size ≤ 5000 := by
  by_cases e3 : o.kind = 3
  ·
   have : bodyL o = commitL o := by simp [bodyL, e3]
   rw [this] at hl
   unfold commitL textOf at hl
   rw [put_list] at hl
   simp only [List.length_append, size_list] at hl
   omega
  · rw [Rm.empty_of (z3.resolve_left e3).2]; decide
 have hn : o.name.size ≤ 100 := by
  by_cases e4 : o.kind = 4
  ·
   rw [if_neg (by omega), if_neg (by omega), if_neg (by omega), if_pos e4] at zz
   rw [Bool.and_eq_true] at zz
   have := nameOk_size zz.2
   omega
  · rw [Rm.empty_of (z4.resolve_left e4).2]; decide
 refine ⟨hd, ht, hn, ?_⟩
 rw [size_list, List.length_cons] at h1; omega
theorem no_at (w : World) : ObAt w (obC noOb nilV nilV).toArray noOb none none 0 0 :=
 ⟨noF, RowsAt.nil _ _, RowsAt.nil _ _, (fun e he => by cases he), (fun e he => by cases he), (fun e he => by cases he), Nat.zero_le _, Nat.zero_le _, (show (0 : Nat) ≤ maxLen from Nat.zero_le _), (show (0 : Nat) < 4294967296 by decide)⟩
theorem dec_yes (s : ByteArray) (o : Ob) (w : World) (hs : s.size ≤ maxLen) (h : Rm.dec s.data.toList = some o) : Calls Tryz.prog 75 #[.string s] w (ADec o w) := by
 have := decode_any s w hs
 unfold Dcd at this
 rw [h] at this
 exact this
theorem refdec_no (s : ByteArray) (w : World) (hs : s.size ≤ 5000) (h : Rm.dec s.data.toList = none) : Calls Tryz.prog 97 #[.string s] w (NoR w) := by
 by_cases h0 : 0 < s.size
 ·
  cases hok : encOk (Rm.guessF s.data.toList) with
  | false => exact refdec_bad s w h0 hs hok
  | true =>
    by_cases hd : encS (Rm.guessF s.data.toList) = s
    ·
     refine (refdec_good s w h0 hs hok hd).mono ?_
     rintro r w' ⟨cs, ao, bo, ca, cb, _, hO, _⟩
     exfalso
     have hok2 := hok
     unfold encOk at hok2
     rw [Bool.and_eq_true, decide_eq_true_eq] at hok2
     obtain ⟨h1, h2, h3, _⟩ := short_ob hok2.1 hok2.2
     have hf := Rm.dec_fwd hok2.1 (fit_of hok2.1 h1 h2 h3) hO.eid hO.pid hO.F.trl hO.F.tal hO.ti hok2.2
     rw [hd, h] at hf
     cases hf
    · exact refdec_diff s w h0 hs hok hd
 ·
  have he : s = ByteArray.empty := bytes_ext (by
   have := size_list s
   have h1 : s.data.toList.length = 0 := by omega
   rw [List.eq_nil_of_length_eq_zero h1]; rfl)
  rw [he]
  exact refdec_empty w
theorem id_any (s : ByteArray) (w : World) (hk : S2.KIn w) (hl : s.size ≤ 70368744177664) :
  Calls Tryz.prog 76 #[.string s] w fun r w' => r = .returned (.agg (S2.idA (S2.Sh.idOf (S2.Sh.sha s.data.toList)))) ∧ Below w.heap.size w w' := by
 have hsum := S2.sum_one s (w.alloc (.cells (S2.idA []) 46)) (hk.more _) hl
 rw [show (w.alloc (.cells (S2.idA []) 46)).heap.size = w.heap.size + 1 by simp] at hsum
 have hil := S2.Sh.idOf_length (S2.Sh.sha s.data.toList)
 generalize S2.Sh.idOf (S2.Sh.sha s.data.toList) = M at *
 have HSUM := Lib.hid hsum
 have hM : M.length ≤ 32 := by omega
 have HI := Lib.hid (S2.idsize hM)
 have H0 := Lib.hid (show (S2.idA []).size = (S2.idA M).size by rw [S2.idA_size M hM]; rfl)
 have H1 := Lib.hid (S2.idA_one M)
 clear hsum hil hM hk
 generalize S2.idA M = da at *
 go_enter Tryz.func76, Tryz.ntmps76
 go_wp2_with fail
 refine HSUM.out.mono ?_
 rintro r w2 ⟨rfl, hb2⟩
 have E0 : Hid (w2.heap[w.heap.size]? = some (.cells (S2.idA []) 46)) := (hb2.block w.heap.size (by omega)).trans ((Below.heap_alloc _ _ _ (by simp)).trans (heap_alloc_last w _))
 have hb8 : Below w.heap.size w w2 := (((Below.refl _ _).alloc (Nat.le_refl _) _).alloc (by simp) _).trans (hb2.mono (by omega))
 clear hb2 HSUM
 go_wp2_with (refine wpList_store_row rfl 46 _ _ rfl w.heap.size _ rfl rfl _ _ E0.out HI.out H0.out H1.out ?_)
 refine bodyPost_ret (v := .agg da) ?_ rfl ⟨rfl, below_setRow hb8 (Nat.le_refl _) _⟩
 exact results_cell_row (by rfl) _ _ w.heap.size _ _ _ _ (by rfl) (setRow_heap _ _ _ _ _ _ E0.out) Tryz.underlying46 rfl HI.out
end Go.Proofs.YtkcjhkfelaplkaaGreatDoor
end
section
namespace Go.Proofs
open Go.Shelf
def Tryz.sortId_ren : Go.Shelf.Ren := ⟨fun | 6 => 73 | 15 => 82 | 14 => 105 | 28 => 122 | 29 => 123 | 20 => 136 | 21 => 137 | 22 => 138 | 23 => 139 | 24 => 140 | 25 => 141 | 26 => 142 | 27 => 143 | 46 => 173 | 47 => 164 | 48 => 165 | 49 => 174 | 50 => 175 | 57 => 190 | n => n, fun | 22 => 34 | 24 => 46 | 25 => 106 | 3 => 3 | 39 => 154 | 0 => 0 | 53 => 57 | 55 => 199 | 4 => 4 | 46 => 192 | 45 => 191 | 50 => 187 | 5 => 5 | 9 => 9 | 66 => 234 | 70 => 238 | 76 => 261 | 77 => 262 | n => n, fun | n => n⟩
theorem Tryz.sortId : Go.Proofs.SlLaysF0.n6 Tryz.prog Tryz.sortId_ren := {
 mixed := by kernel_rfl
 f6 := ⟨Tryz.f73.name, by decide, Tryz.func73.trans (congrArg some (by kernel_rfl))⟩
 f14 := ⟨Tryz.f105.name, by decide, Tryz.func105.trans (congrArg some (by kernel_rfl))⟩
 f15 := Tryz.func82.trans (congrArg some (by kernel_rfl))
 f20 := ⟨Tryz.f136.name, by decide, Tryz.func136.trans (congrArg some (by kernel_rfl))⟩
 f21 := ⟨Tryz.f137.name, by decide, Tryz.func137.trans (congrArg some (by kernel_rfl))⟩
 f22 := ⟨Tryz.f138.name, by decide, Tryz.func138.trans (congrArg some (by kernel_rfl))⟩
 f23 := ⟨Tryz.f139.name, by decide, Tryz.func139.trans (congrArg some (by kernel_rfl))⟩
 f24 := ⟨Tryz.f140.name, by decide, Tryz.func140.trans (congrArg some (by kernel_rfl))⟩
 f25 := ⟨Tryz.f141.name, by decide, Tryz.func141.trans (congrArg some (by kernel_rfl))⟩
 f26 := ⟨Tryz.f142.name, by decide, Tryz.func142.trans (congrArg some (by kernel_rfl))⟩
 f27 := ⟨Tryz.f143.name, by decide, Tryz.func143.trans (congrArg some (by kernel_rfl))⟩
 f28 := Tryz.func122.trans (congrArg some (by kernel_rfl))
 f29 := Tryz.func123.trans (congrArg some (by kernel_rfl))
 f46 := ⟨Tryz.f173.name, by decide, Tryz.func173.trans (congrArg some (by kernel_rfl))⟩
 f47 := Tryz.func164.trans (congrArg some (by kernel_rfl))
 f48 := Tryz.func165.trans (congrArg some (by kernel_rfl))
 f49 := ⟨Tryz.f174.name, by decide, Tryz.func174.trans (congrArg some (by kernel_rfl))⟩
 f50 := ⟨Tryz.f175.name, by decide, Tryz.func175.trans (congrArg some (by kernel_rfl))⟩
 f57 := ⟨Tryz.f190.name, by decide, Tryz.func190.trans (congrArg some (by kernel_rfl))⟩
 t0 := Tryz.underlying0
 a0 := Tryz.isAgg0
 z0 := Tryz.sizeOf0
 v0 := Tryz.zeroValue0
 t3 := Tryz.underlying3
 a3 := Tryz.isAgg3
 z3 := Tryz.sizeOf3
 v3 := Tryz.zeroValue3
 t4 := Tryz.underlying4
 a4 := Tryz.isAgg4
 z4 := Tryz.sizeOf4
 v4 := Tryz.zeroValue4
 t5 := Tryz.underlying5
 a5 := Tryz.isAgg5
 z5 := Tryz.sizeOf5
 v5 := Tryz.zeroValue5
 t9 := Tryz.underlying9
 a9 := Tryz.isAgg9
 z9 := Tryz.sizeOf9
 v9 := Tryz.zeroValue9
 t22 := Tryz.underlying34
 a22 := Tryz.isAgg34
 z22 := Tryz.sizeOf34
 v22 := Tryz.zeroValue34
 t25 := Tryz.underlying106
 a25 := Tryz.isAgg106
 z25 := Tryz.sizeOf106
 v25 := Tryz.zeroValue106
 t39 := Tryz.underlying154
 a39 := Tryz.isAgg154
 z39 := Tryz.sizeOf154
 v39 := Tryz.zeroValue154
 t45 := Tryz.underlying191
 a45 := Tryz.isAgg191
 z45 := Tryz.sizeOf191
 v45 := Tryz.zeroValue191
 t46 := Tryz.underlying192
 a46 := Tryz.isAgg192
 z46 := Tryz.sizeOf192
 v46 := Tryz.zeroValue192
 t50 := Tryz.underlying187
 a50 := Tryz.isAgg187
 z50 := Tryz.sizeOf187
 v50 := Tryz.zeroValue187
 t53 := Tryz.underlying57
 a53 := Tryz.isAgg57
 z53 := Tryz.sizeOf57
 v53 := Tryz.zeroValue57
 t55 := Tryz.underlying199
 a55 := Tryz.isAgg199
 z55 := Tryz.sizeOf199
 v55 := Tryz.zeroValue199
 t66 := Tryz.underlying234
 a66 := Tryz.isAgg234
 z66 := Tryz.sizeOf234
 v66 := Tryz.zeroValue234
 t70 := Tryz.underlying238
 a70 := Tryz.isAgg238
 z70 := Tryz.sizeOf238
 v70 := Tryz.zeroValue238
 t76 := Tryz.underlying261
 a76 := Tryz.isAgg261
 z76 := Tryz.sizeOf261
 v76 := Tryz.zeroValue261
 t77 := Tryz.underlying262
 a77 := Tryz.isAgg262
 z77 := Tryz.sizeOf262
 v77 := Tryz.zeroValue262 }
end Go.Proofs
end
