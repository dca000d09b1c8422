/-
  WALKS OF LAYER 2: block (knapsackref02).
-/
import Derived.Test.YtkcjhkfelaplkaaGreatDoorQf
import Derived.Deep.Cut
import Derived.Test.YtkcjhkfelaplkaaGreatDoorQa
import Derived.Deep.CutRange
import Derived.Deep.RegionHeld3
import Derived.Laws.IdiomStrings
import Derived.ChangeKeysEq
import Derived.Laws.StructEq
import Derived.Test.YtkcjhkfelaplkaaGreatDoorRows
import Derived.ProofKit
import Derived.OpenShut
import Derived.SizedLaws
import Derived.LaidMore
import Derived.LaidLaws
import Derived.Lib.LaidTab
import Derived.Stop.Joined
set_option linter.unusedVariables false
set_option linter.unusedSimpArgs false
set_option maxHeartbeats 8000000
set_option maxRecDepth 100000
section
namespace Go.Proofs.YtkcjhkfelaplkaaGreatDoor.S2
open Go.RowKit
open Sh (Wd)
theorem add_rc (a b c d : Wd) : a + b + c + d = a + c + b + d := by rw [BitVec.add_assoc a b c, BitVec.add_comm b c, ← BitVec.add_assoc]
theorem be4_shift (a b c d : UInt8) : (Sh.bw a <<< 24) + (Sh.bw b <<< 16) + (Sh.bw c <<< 8) + Sh.bw d = Sh.be4 a b c d := by
 have e : ∀ (x : UInt8) (n : Nat) (k : Wd), k.toNat = 2 ^ n → Sh.bw x <<< n = Sh.bw x * k := fun x n k hk => by
  apply BitVec.eq_of_toNat_eq
  rw [BitVec.toNat_shiftLeft, BitVec.toNat_mul, hk, Nat.shiftLeft_eq]
 rw [e a 24 16777216 (by decide), e b 16 65536 (by decide), e c 8 256 (by decide)]
 exact Sh.be4_mul a b c d
theorem b4_sum (x y z v : UInt8) : IntKind.u32.wrap (IntKind.u32.wrap (IntKind.u32.wrap (IntKind.u32.wrap (IntKind.u32.wrap (x.toNat : Int) * 16777216) + IntKind.u32.wrap (IntKind.u32.wrap (y.toNat : Int) * 65536)) + IntKind.u32.wrap (IntKind.u32.wrap (z.toNat : Int) * 256)) + IntKind.u32.wrap (v.toNat : Int)) = ((Sh.be4 x y z v).toNat : Int) := by
 simp only [wrap_bw]
 rw [w_shl (Sh.bw x) 24 |> fun h => (show IntKind.u32.wrap (((Sh.bw x).toNat : Int) * (16777216 : Int)) = _ from h), (show IntKind.u32.wrap (((Sh.bw y).toNat : Int) * (65536 : Int)) = _ from w_shl (Sh.bw y) 16), (show IntKind.u32.wrap (((Sh.bw z).toNat : Int) * (256 : Int)) = _ from w_shl (Sh.bw z) 8)]
 simp only [w_add, be4_shift]
theorem info39 : (Tryz.prog.info? 210).map (·.size) = some 8 := by kernel_rfl
theorem heap4 (w : World) (A B C D : Obj) : ((((w.alloc A).alloc B).alloc C).alloc D).heap[w.heap.size]? = some A ∧ ((((w.alloc A).alloc B).alloc C).alloc D).heap[w.heap.size + 1]? = some B ∧ ((((w.alloc A).alloc B).alloc C).alloc D).heap[w.heap.size + 1 + 1]? = some C ∧ ((((w.alloc A).alloc B).alloc C).alloc D).heap[w.heap.size + 1 + 1 + 1]? = some D := by
 have h3 := heap_alloc_new ((w.alloc A).alloc B) C
 rw [show ((w.alloc A).alloc B).heap.size = w.heap.size + 1 + 1 by simp] at h3
 have h4 := heap_alloc_new (((w.alloc A).alloc B).alloc C) D
 rw [show (((w.alloc A).alloc B).alloc C).heap.size = w.heap.size + 1 + 1 + 1 by simp] at h4
 refine ⟨?_, ?_, ?_, h4⟩
 · exact (Below.heap_alloc _ _ _ (by simp; omega)).trans ((Below.heap_alloc _ _ _ (by simp; omega)).trans (heap_alloc2_old _ _ _))
 · exact (Below.heap_alloc _ _ _ (by simp)).trans ((Below.heap_alloc _ _ _ (by simp)).trans (heap_alloc2_new _ _ _))
 · exact (Below.heap_alloc _ _ _ (by simp)).trans h3
theorem wpList_build_zero {P : Program} {ops : Array Oper} {rest : List Oper} {o : Oper} {a : Act} {w : World} {Q : Exit → Act → World → Prop} (hg : o.guard = none) (t : TypeId) (ho : o.op = .build t #[]) (cs : Array Value)
  (hb : P.built t [] = some cs) (h : ∀ zz, Hid (zz = cs) → wpList P ops Q rest (a.put o.dst (.agg zz)) w) : wpList P ops Q (o :: rest) a w := by
 refine wpList_build hg t #[] ho (by simp [hb]) ?_
 exact h _ (by simp [hb, Hid])
theorem built48 : Tryz.prog.built 211 [] = some (arr []) := by kernel_rfl
theorem after_four {w : World} {A B C D : Obj} {ds zz : Array Value} {t : TypeId} (hD : D = .cells ds t) : ∃ w1, w1 = ((((w.alloc A).alloc B).alloc C).alloc D).setRow (w.heap.size + 1 + 1 + 1) zz ∧
  w1.heap[w.heap.size]? = some A ∧ w1.heap[w.heap.size + 1]? = some B ∧ w1.heap[w.heap.size + 1 + 1]? = some C ∧ w1.heap[w.heap.size + 1 + 1 + 1]? = some (.cells zz t) ∧ Below w.heap.size w w1 ∧ w1.heap.size = w.heap.size + 1 + 1 + 1 + 1 := by
 obtain ⟨h1, h2, h3, h4⟩ := heap4 w A B C D
 subst hD
 refine ⟨_, rfl, ?_, ?_, ?_, setRow_heap _ _ _ _ _ _ h4, ?_, by simp⟩
 · rw [setRow_other _ _ _ _ (by omega)]; exact h1
 · rw [setRow_other _ _ _ _ (by omega)]; exact h2
 · rw [setRow_other _ _ _ _ (by omega)]; exact h3
 · exact below_setRow (((((Below.refl _ _).alloc (Nat.le_refl _) _).alloc (by simp) _).alloc (by simp; omega) _).alloc (by simp; omega) _) (by omega) _
def mixA (h s : Sh.St) (i : Nat) : Array Value := ((List.range 8).map fun j => Value.int .u32 ((if j < i then (Sh.plus h s).list.getD j 0 else s.list.getD j 0).toNat : Int)).toArray
theorem mixA_zero (h s : Sh.St) : mixA h s 0 = stA s := rfl
theorem mixA_all (h s : Sh.St) : mixA h s 8 = stA (Sh.plus h s) := rfl
theorem mixA_get (h s : Sh.St) (i : Nat) (hi : i < 8) : (mixA h s i)[i]? = some (.int .u32 ((s.list.getD i 0).toNat : Int)) := by
 rcases i with _ | _ | _ | _ | _ | _ | _ | _ | i
 all_goals first | rfl | omega
theorem mixA_set (h s : Sh.St) (i : Nat) (hi : i < 8) : (mixA h s i).setIfInBounds i (.int .u32 ((s.list.getD i 0 + h.list.getD i 0).toNat : Int)) = mixA h s (i + 1) := by
 have e : s.list.getD i 0 + h.list.getD i 0 = (Sh.plus h s).list.getD i 0 := by
  rw [BitVec.add_comm]
  rcases i with _ | _ | _ | _ | _ | _ | _ | _ | i
  all_goals first | rfl | omega
 rw [e]
 rcases i with _ | _ | _ | _ | _ | _ | _ | _ | i
 all_goals first | rfl | omega
theorem set8_held2 {w : World} {g : Nat} {t : TypeId} {z0 z1 z2 z3 z4 z5 z6 z7 : Value} (h : w.heap[g]? = some (.cells #[z0, z1, z2, z3, z4, z5, z6, z7] t)) (v0 v1 v2 v3 v4 v5 v6 v7 : Value) :
  (set8 w g v0 v1 v2 v3 v4 v5 v6 v7).drew.drew.heap[g]? = some (.cells #[v0, v1, v2, v3, v4, v5, v6, v7] t) := by
 rw [heap_drew, heap_drew]; exact set8_held h v0 v1 v2 v3 v4 v5 v6 v7
theorem set8_apart2 {w : World} {k g : Nat} {x : Option Obj} (h : w.heap[k]? = x) (hne : k ≠ g) (v0 v1 v2 v3 v4 v5 v6 v7 : Value) : (set8 w g v0 v1 v2 v3 v4 v5 v6 v7).drew.drew.heap[k]? = x := by
 rw [heap_drew, heap_drew]; exact set8_apart h hne v0 v1 v2 v3 v4 v5 v6 v7
theorem refblock_any (s : Sh.St) (b : ByteArray) (w : World) (hb : b.size = 64) :
  Calls Tryz.prog 132 #[.agg (stA s), .string b, .agg (arr Sh.K)] w fun r w' => r = .returned (.agg (stA (Sh.mix s b.data.toList))) ∧ Below w.heap.size w w' := by
 have hb64 : 64 ≤ b.size := by omega
 have HB := Lib.hid hb
 clear hb
 have HKC := Lib.hid (fun (t : Nat) (ht : t < 64) => arr_get Sh.K t (by rw [K_len]; omega))
 have H1 := Lib.hid (arr_one Sh.K)
 have hs := arr_size Sh.K (by decide)
 have HS := Lib.hid hs
 have HI : Hid ((Tryz.prog.info? 211).map (·.size) = some (arr Sh.K).size) := by rw [hs]; exact (zero_of_info info48).2
 clear hs
 generalize hka : arr Sh.K = ka at HKC H1 HS HI ⊢
 clear hka
 generalize hM : Sh.mix s b.data.toList = M
 have HM := Lib.hid hM
 clear hM
 obtain ⟨a0, b0, c0, d0, e0, f0, g0, h0⟩ := s
 have hi0 : (Tryz.prog.info? 211).map (·.size) = some (arr []).size := (zero_of_info info48).2
 have HI0 := Lib.hid hi0
 clear hi0
 unfold stA
 go_enter Tryz.func132, Tryz.ntmps132
 go_upto_region 1 with (fail)
 refine wp_region_list ?_
 refine wpList_build_zero rfl 211 rfl _ built48 ?_
 intro zz HZ
 have HIz : Hid ((Tryz.prog.info? 211).map (·.size) = some zz.size) := by rw [HZ.out]; exact HI0.out
 have H1z : Hid (zz.all (·.oneCell') = true) := by rw [HZ.out]; exact arr_one []
 have HSz : Hid (zz.size = 64) := by rw [HZ.out]; rfl
 go_wp2_with (refine wpList_store_row rfl 211 _ _ rfl (w.heap.size + 1 + 1 + 1) _ rfl rfl _ _ (heap4 w _ _ _ _).2.2.2 HIz.out (by rw [HSz.out]; rfl) H1z.out ?_)
 obtain ⟨w1, hw1, F0, F1, F2, F3, hb1, hz1⟩ := after_four (w := w) (zz := zz) rfl
 rw [← hw1]
 rw [HZ.out] at F3
 have E0 := Lib.hid F0
 have E1 := Lib.hid F1
 have E2 := Lib.hid F2
 have E3 := Lib.hid F3
 have hz2 : w.heap.size + 1 + 1 + 1 + 1 ≤ w1.heap.size := by omega
 clear hw1 F0 F1 F2 F3 hz1 HIz H1z HSz
 go_loopw [8] (fun i wr => ∃ t : Nat, t ≤ 16 ∧ i = .int .i64 t ∧ Hid (wr.heap[w.heap.size + 1 + 1 + 1]? = some (.cells (arr (Sh.wd b.data.toList t)) 211)) ∧ Hid (wr.heap[w.heap.size]? = w1.heap[w.heap.size]?) ∧ Hid (wr.heap[w.heap.size + 1]? = w1.heap[w.heap.size + 1]?) ∧ Hid (wr.heap[w.heap.size + 1 + 1]? = w1.heap[w.heap.size + 1 + 1]?) ∧ Below w.heap.size w wr ∧ Hid (wr.heap.size = w1.heap.size)) (fun i _ => 16 - (intOf i).toNat)
 case atStart => exact ⟨0, by omega, rfl, E3, rfl, rfl, rfl, hb1, rfl⟩
 case round =>
  obtain ⟨t, ht, rfl, HN, HR0, HR1, HR2, hbl, HZ2⟩ := hrel
  by_cases hlt : t < 16
  ·
   have hc := (cell_of_row wr (w.heap.size + 1 + 1 + 1) t _ _ _ HN.out).trans (arr_rest _ t (by rw [Sh.wd_length]; omega) (by omega))
   have hf := frozen_of_row wr (w.heap.size + 1 + 1 + 1) t _ _ HN.out
   have hi1 : (4 * (t : Int)) < (b.size : Int) := by omega
   have hi2 : (4 * (t : Int) + 1) < (b.size : Int) := by omega
   have hi3 : (4 * (t : Int) + 2) < (b.size : Int) := by omega
   have hi4 : (4 * (t : Int) + 3) < (b.size : Int) := by omega
   have hw0 : IntKind.i64.wrap (4 * (t : Int)) = 4 * (t : Int) := IntWalk.i64_in _ (by omega)
   have hw1 : IntKind.i64.wrap (4 * (t : Int) + 1) = 4 * (t : Int) + 1 := IntWalk.i64_in _ (by omega)
   have hw2 : IntKind.i64.wrap (4 * (t : Int) + 2) = 4 * (t : Int) + 2 := IntWalk.i64_in _ (by omega)
   have hw3 : IntKind.i64.wrap (4 * (t : Int) + 3) = 4 * (t : Int) + 3 := IntWalk.i64_in _ (by omega)
   have hn0 : 0 ≤ 4 * (t : Int) := by omega
   have hn1 : 0 ≤ 4 * (t : Int) + 1 := by omega
   have hn2 : 0 ≤ 4 * (t : Int) + 2 := by omega
   have hn3 : 0 ≤ 4 * (t : Int) + 3 := by omega
   have ht0 : (4 * (t : Int)).toNat = 4 * t := by omega
   have ht1 : (4 * (t : Int) + 1).toNat = 4 * t + 1 := by omega
   have ht2 : (4 * (t : Int) + 2).toNat = 4 * t + 2 := by omega
   have ht3 : (4 * (t : Int) + 3).toNat = 4 * t + 3 := by omega
   have hlt' : (t : Int) < 16 := by omega
   have hlt2 : (t : Int) < 64 := by omega
   go_wp2
   refine region_tail 31 (by kernel_rfl) (by kernel_rfl) ?_
   simp only [List.take_succ_cons, List.take_zero, List.drop_succ_cons, List.drop_zero]
   repeat still_step
   refine wpStill_nil ?_
   rw [b4_sum]
   rw [← blk_eq b t (by omega)]
   have HV := Lib.hid (show Sh.wd b.data.toList (t + 1) = Sh.wd b.data.toList t ++ [Sh.blk b.data.toList t] by rw [Sh.wd, Sh.newW, if_pos hlt])
   generalize Sh.blk b.data.toList t = x at *
   go_wp2
   go_roundw
   case rel =>
    refine ⟨t + 1, by omega, by go_num, ?_, held_apart HR0.out _ _ _ (by omega), held_apart HR1.out _ _ _ (by omega), held_apart HR2.out _ _ _ (by omega), hbl.drew.setCell (by simp; omega) _, by have := HZ2.out; simpa [Hid] using this⟩
    rw [HV.out, ← arr_push _ _ (by rw [Sh.wd_length]; omega), Sh.wd_length]; exact held_set (wr := wr.drew) HN.out t _
   case measure => simp [intOf]; omega
  ·
   have HT := Lib.hid (show t = 16 by omega)
   go_wp2
   go_loopw [9] (fun i wr => ∃ t : Nat, 16 ≤ t ∧ t ≤ 64 ∧ i = .int .i64 t ∧ Hid (wr.heap[w.heap.size + 1 + 1 + 1]? = some (.cells (arr (Sh.wd b.data.toList t)) 211)) ∧ Hid (wr.heap[w.heap.size]? = w1.heap[w.heap.size]?) ∧ Hid (wr.heap[w.heap.size + 1]? = w1.heap[w.heap.size + 1]?) ∧ Hid (wr.heap[w.heap.size + 1 + 1]? = w1.heap[w.heap.size + 1 + 1]?) ∧ Below w.heap.size w wr ∧ Hid (wr.heap.size = w1.heap.size)) (fun i _ => 64 - (intOf i).toNat)
   case atStart => exact ⟨16, by omega, by omega, rfl, by rw [HT.out] at HN; exact HN, HR0, HR1, HR2, hbl, HZ2⟩
   case round =>
    clear HN HR0 HR1 HR2 hbl HZ2 hlt ht HT
    obtain ⟨t, ht16, ht, rfl, HN, HR0, HR1, HR2, hbl, HZ2⟩ := hrel
    by_cases hlt : t < 64
    ·
     have hl := Sh.wd_length b.data.toList t
     have hc := (cell_of_row wr (w.heap.size + 1 + 1 + 1) t _ _ _ HN.out).trans (arr_rest _ t (by rw [Sh.wd_length]; omega) (by omega))
     have hf := frozen_of_row wr (w.heap.size + 1 + 1 + 1) t _ _ HN.out
     have c15 := (cell_of_row wr (w.heap.size + 1 + 1 + 1) (t - 15) _ _ _ HN.out).trans (arr_get _ (t - 15) (by omega))
     have c2 := (cell_of_row wr (w.heap.size + 1 + 1 + 1) (t - 2) _ _ _ HN.out).trans (arr_get _ (t - 2) (by omega))
     have c16 := (cell_of_row wr (w.heap.size + 1 + 1 + 1) (t - 16) _ _ _ HN.out).trans (arr_get _ (t - 16) (by omega))
     have c7 := (cell_of_row wr (w.heap.size + 1 + 1 + 1) (t - 7) _ _ _ HN.out).trans (arr_get _ (t - 7) (by omega))
     have HV := Lib.hid (wd_next b.data.toList t ht16)
     have HX := Lib.hid (show Sh.nextW (Sh.wd b.data.toList t) t = (Sh.wd b.data.toList t).getD (t - 16) 0 + Sh.s0 ((Sh.wd b.data.toList t).getD (t - 15) 0) + (Sh.wd b.data.toList t).getD (t - 7) 0 + Sh.s1 ((Sh.wd b.data.toList t).getD (t - 2) 0) by rw [Sh.nextW, add_rc])
     clear hl
     generalize (Sh.wd b.data.toList t).getD (t - 16) 0 = x16 at c16 HX
     generalize (Sh.wd b.data.toList t).getD (t - 15) 0 = x15 at c15 HX
     generalize (Sh.wd b.data.toList t).getD (t - 7) 0 = x7 at c7 HX
     generalize (Sh.wd b.data.toList t).getD (t - 2) 0 = x2 at c2 HX
     generalize Sh.nextW (Sh.wd b.data.toList t) t = xn at HV HX
     have hw0 : IntKind.i64.wrap ((t : Int) - 16) = (t : Int) - 16 := IntWalk.i64_in _ (by omega)
     have hw1 : IntKind.i64.wrap ((t : Int) - 15) = (t : Int) - 15 := IntWalk.i64_in _ (by omega)
     have hw2 : IntKind.i64.wrap ((t : Int) - 7) = (t : Int) - 7 := IntWalk.i64_in _ (by omega)
     have hw3 : IntKind.i64.wrap ((t : Int) - 2) = (t : Int) - 2 := IntWalk.i64_in _ (by omega)
     have hn0 : 0 ≤ (t : Int) - 16 := by omega
     have hn1 : 0 ≤ (t : Int) - 15 := by omega
     have hn2 : 0 ≤ (t : Int) - 7 := by omega
     have hn3 : 0 ≤ (t : Int) - 2 := by omega
     have hm0 : (t : Int) - 16 < 64 := by omega
     have hm1 : (t : Int) - 15 < 64 := by omega
     have hm2 : (t : Int) - 7 < 64 := by omega
     have hm3 : (t : Int) - 2 < 64 := by omega
     have ht0 : ((t : Int) - 16).toNat = t - 16 := by omega
     have ht1 : ((t : Int) - 15).toNat = t - 15 := by omega
     have ht2 : ((t : Int) - 7).toNat = t - 7 := by omega
     have ht3 : ((t : Int) - 2).toNat = t - 2 := by omega
     have hlt' : (t : Int) < 64 := by omega
     have hq0 : (16 : Int) ≤ (t : Int) := by omega
     have hq1 : (15 : Int) ≤ (t : Int) := by omega
     have hq2 : (7 : Int) ≤ (t : Int) := by omega
     have hq3 : (2 : Int) ≤ (t : Int) := by omega
     go_wp2
     refine region_still (by kernel_rfl) (by kernel_rfl) ?_
     repeat still_step
     still_call (still_of (turn_any _ 7 _ (by decide) (by decide)))
     repeat still_step
     still_call (still_of (turn_any _ 18 _ (by decide) (by decide)))
     repeat still_step
     refine wpStill_nil ?_
     simp only [sh_r3, w_xor]
     rw [show (Sh.rr x15 7 ^^^ Sh.rr x15 18) ^^^ x15 >>> 3 = Sh.s0 x15 from rfl]
     generalize Sh.s0 x15 = y15 at HX ⊢
     go_wp2
     refine region_still (by kernel_rfl) (by kernel_rfl) ?_
     repeat still_step
     still_call (still_of (turn_any _ 17 _ (by decide) (by decide)))
     repeat still_step
     still_call (still_of (turn_any _ 19 _ (by decide) (by decide)))
     repeat still_step
     refine wpStill_nil ?_
     simp only [sh_r10, w_xor]
     rw [show (Sh.rr x2 17 ^^^ Sh.rr x2 19) ^^^ x2 >>> 10 = Sh.s1 x2 from rfl]
     generalize Sh.s1 x2 = y2 at HX ⊢
     go_wp2
     refine region_tail 15 (by kernel_rfl) (by kernel_rfl) ?_
     simp only [List.take_succ_cons, List.take_zero, List.drop_succ_cons, List.drop_zero]
     repeat still_step
     refine wpStill_nil ?_
     simp only [w_add, w_add']
     rw [← HX.out]
     go_wp2
     go_roundw
     case rel =>
      refine ⟨t + 1, by omega, by omega, by go_num, ?_, held_apart HR0.out _ _ _ (by omega), held_apart HR1.out _ _ _ (by omega), held_apart HR2.out _ _ _ (by omega), hbl.drew.drew.drew.setCell (by simp; omega) _, by have := HZ2.out; simpa [Hid] using this⟩
      rw [HV.out, ← arr_push _ _ (by rw [Sh.wd_length]; omega), Sh.wd_length]; exact held_set (wr := wr.drew.drew.drew) HN.out t _
     case measure => simp [intOf]; omega
    ·
     have HT := Lib.hid (show t = 64 by omega)
     have hA : w.heap.size + 1 + 1 + 1 + 1 ≤ wr.heap.size := by rw [HZ2.out]; exact hz2
     have G0 := Lib.hid (HR0.out.trans E0.out)
     have G1 := Lib.hid (HR1.out.trans E1.out)
     have G2 := Lib.hid (HR2.out.trans E2.out)
     have G3 := Lib.hid (show wr.heap[w.heap.size + 1 + 1 + 1]? = some (.cells (arr (Sh.wd b.data.toList 64)) 211) by rw [← HT.out]; exact HN.out)
     have k0 := cell_of_row wr w.heap.size 0 _ _ _ G0.out
     have k1 := cell_of_row wr w.heap.size 1 _ _ _ G0.out
     have k2 := cell_of_row wr w.heap.size 2 _ _ _ G0.out
     have k3 := cell_of_row wr w.heap.size 3 _ _ _ G0.out
     have k4 := cell_of_row wr w.heap.size 4 _ _ _ G0.out
     have k5 := cell_of_row wr w.heap.size 5 _ _ _ G0.out
     have k6 := cell_of_row wr w.heap.size 6 _ _ _ G0.out
     have k7 := cell_of_row wr w.heap.size 7 _ _ _ G0.out
     clear HN HR0 HR1 HR2 HZ2 E0 E1 E2 E3 hz2 hb1
     go_wp2
     clear hlt ht ht16 HT k0 k1 k2 k3 k4 k5 k6 k7
     have GA := Lib.hid (heap_alloc_new wr (.cells (stA ⟨a0, b0, c0, d0, e0, f0, g0, h0⟩) 210))
     have I0 := Lib.hid ((Below.heap_alloc wr (.cells (stA ⟨a0, b0, c0, d0, e0, f0, g0, h0⟩) 210) _ (by omega)).trans G0.out)
     have I1 := Lib.hid ((Below.heap_alloc wr (.cells (stA ⟨a0, b0, c0, d0, e0, f0, g0, h0⟩) 210) _ (by omega)).trans G1.out)
     have I2 := Lib.hid ((Below.heap_alloc wr (.cells (stA ⟨a0, b0, c0, d0, e0, f0, g0, h0⟩) 210) _ (by omega)).trans G2.out)
     have I3 := Lib.hid ((Below.heap_alloc wr (.cells (stA ⟨a0, b0, c0, d0, e0, f0, g0, h0⟩) 210) _ (by omega)).trans G3.out)
     have hb2 : Below w.heap.size w (wr.alloc (.cells (stA ⟨a0, b0, c0, d0, e0, f0, g0, h0⟩) 210)) := hbl.alloc hbl.size _
     change Code.wp _ _ _ _ (wr.alloc (.cells (stA ⟨a0, b0, c0, d0, e0, f0, g0, h0⟩) 210))
     generalize wr.alloc (.cells (stA ⟨a0, b0, c0, d0, e0, f0, g0, h0⟩) 210) = w2 at GA I0 I1 I2 I3 hb2 ⊢
     generalize wr.heap.size = A at GA hA ⊢
     clear G0 G1 G2 G3 hbl
     go_loopw [13] (fun i wr => ∃ (t : Nat) (s : Sh.St), t ≤ 64 ∧ i = .int .i64 t ∧ Hid (Sh.rounds b.data.toList ⟨a0, b0, c0, d0, e0, f0, g0, h0⟩ t = s) ∧ Hid (wr.heap[A]? = some (.cells (stA s) 210)) ∧ Hid (wr.heap[w.heap.size]? = w2.heap[w.heap.size]?) ∧ Hid (wr.heap[w.heap.size + 1]? = w2.heap[w.heap.size + 1]?) ∧ Hid (wr.heap[w.heap.size + 1 + 1]? = w2.heap[w.heap.size + 1 + 1]?) ∧ Hid (wr.heap[w.heap.size + 1 + 1 + 1]? = w2.heap[w.heap.size + 1 + 1 + 1]?) ∧ Below w.heap.size w wr) (fun i _ => 64 - (intOf i).toNat)
     case atStart => exact ⟨0, _, by omega, rfl, rfl, GA, rfl, rfl, rfl, rfl, hb2⟩
     case round =>
      clear GA hb2
      obtain ⟨t, s, ht, rfl, HR, HA, J0, J1, J2, J3, hbr⟩ := hrel
      by_cases hlt : t < 64
      ·
       have hck := (cell_of_row wr (w.heap.size + 1) t _ _ _ (J1.out.trans I1.out)).trans (HKC.out t hlt)
       have hcw := (cell_of_row wr (w.heap.size + 1 + 1 + 1) t _ _ _ (J3.out.trans I3.out)).trans (arr_get _ t (by rw [Sh.wd_length]; omega))
       have HN := Lib.hid (show Sh.rounds b.data.toList ⟨a0, b0, c0, d0, e0, f0, g0, h0⟩ (t + 1) = Sh.rnd s (Sh.K.getD t 0) ((Sh.wd b.data.toList 64).getD t 0) by rw [Sh.rounds, HR.out])
       generalize Sh.K.getD t 0 = kt at hck HN
       generalize (Sh.wd b.data.toList 64).getD t 0 = wt at hcw HN
       clear HR
       obtain ⟨a, b', c, d, e, f, g, h⟩ := s
       have k0 := cell_of_row wr A 0 _ _ _ HA.out
       have k1 := cell_of_row wr A 1 _ _ _ HA.out
       have k2 := cell_of_row wr A 2 _ _ _ HA.out
       have k3 := cell_of_row wr A 3 _ _ _ HA.out
       have k4 := cell_of_row wr A 4 _ _ _ HA.out
       have k5 := cell_of_row wr A 5 _ _ _ HA.out
       have k6 := cell_of_row wr A 6 _ _ _ HA.out
       have k7 := cell_of_row wr A 7 _ _ _ HA.out
       simp only [stA, List.getElem?_toArray, List.getElem?_cons_zero, List.getElem?_cons_succ] at k0 k1 k2 k3 k4 k5 k6 k7
       have y0 := frozen_of_row wr A 0 _ _ HA.out
       have y1 := frozen_of_row wr A 1 _ _ HA.out
       have y2 := frozen_of_row wr A 2 _ _ HA.out
       have y3 := frozen_of_row wr A 3 _ _ HA.out
       have y4 := frozen_of_row wr A 4 _ _ HA.out
       have y5 := frozen_of_row wr A 5 _ _ HA.out
       have y6 := frozen_of_row wr A 6 _ _ HA.out
       have y7 := frozen_of_row wr A 7 _ _ HA.out
       have hlt' : (t : Int) < 64 := by omega
       go_wp2
       refine region_still (by kernel_rfl) (by kernel_rfl) ?_
       repeat still_step
       still_call (still_of (turn_any _ 6 _ (by decide) (by decide)))
       repeat still_step
       still_call (still_of (turn_any _ 11 _ (by decide) (by decide)))
       repeat still_step
       still_call (still_of (turn_any _ 25 _ (by decide) (by decide)))
       repeat still_step
       refine wpStill_nil ?_
       simp only [w_xor, w_and, w_not, w_not', w_not2, w_add, w_add']
       rw [show h + (Sh.rr e 6 ^^^ Sh.rr e 11 ^^^ Sh.rr e 25) + (e &&& f ^^^ ~~~e &&& g) + kt + wt = Sh.xs ⟨a, b', c, d, e, f, g, h⟩ kt wt from rfl]
       have HNa := Lib.hid (show Sh.rnd ⟨a, b', c, d, e, f, g, h⟩ kt wt = ⟨Sh.xs ⟨a, b', c, d, e, f, g, h⟩ kt wt + Sh.ys ⟨a, b', c, d, e, f, g, h⟩, a, b', c, d + Sh.xs ⟨a, b', c, d, e, f, g, h⟩ kt wt, e, f, g⟩ from rfl)
       generalize Sh.xs ⟨a, b', c, d, e, f, g, h⟩ kt wt = x at HNa ⊢
       go_wp2
       refine region_still (by kernel_rfl) (by kernel_rfl) ?_
       repeat still_step
       still_call (still_of (turn_any _ 2 _ (by decide) (by decide)))
       repeat still_step
       still_call (still_of (turn_any _ 13 _ (by decide) (by decide)))
       repeat still_step
       still_call (still_of (turn_any _ 22 _ (by decide) (by decide)))
       repeat still_step
       refine wpStill_nil ?_
       simp only [w_xor, w_and, w_add, w_add']
       rw [show (Sh.rr a 2 ^^^ Sh.rr a 13 ^^^ Sh.rr a 22) + (a &&& b' ^^^ a &&& c ^^^ b' &&& c) = Sh.ys ⟨a, b', c, d, e, f, g, h⟩ from rfl]
       generalize Sh.ys ⟨a, b', c, d, e, f, g, h⟩ = y at HNa ⊢
       have HN2 := Lib.hid (HN.out.trans HNa.out)
       clear HN HNa
       go_wp2
       simp only [w_add']
       go_roundw
       case rel =>
        refine ⟨t + 1, ⟨x + y, a, b', c, d + x, e, f, g⟩, by omega, by go_num, HN2, ?_, ?_, ?_, ?_, ?_, ?_⟩
        · exact set8_held2 HA.out _ _ _ _ _ _ _ _
        · exact set8_apart2 J0.out (by omega) _ _ _ _ _ _ _ _
        · exact set8_apart2 J1.out (by omega) _ _ _ _ _ _ _ _
        · exact set8_apart2 J2.out (by omega) _ _ _ _ _ _ _ _
        · exact set8_apart2 J3.out (by omega) _ _ _ _ _ _ _ _
        · exact (set8_below hbr (by omega) _ _ _ _ _ _ _ _).drew.drew
       case measure => simp [intOf]; omega
      ·
       have HT := Lib.hid (show t = 64 by omega)
       have HP := Lib.hid (show Sh.plus ⟨a0, b0, c0, d0, e0, f0, g0, h0⟩ s = M by rw [← HM.out, Sh.mix, ← HR.out, HT.out])
       go_wp2
       rw [← mixA_zero ⟨a0, b0, c0, d0, e0, f0, g0, h0⟩ s] at HA
       have HSo := Lib.hid (show some (Obj.cells (stA ⟨a0, b0, c0, d0, e0, f0, g0, h0⟩) 210) = w2.heap[w.heap.size]? from I0.out.symm)
       go_loopw [16] (fun i wr => ∃ (j : Nat), j ≤ 8 ∧ i = .int .i64 j ∧ Hid (wr.heap[A]? = some (.cells (mixA ⟨a0, b0, c0, d0, e0, f0, g0, h0⟩ s j) 210)) ∧ Hid (wr.heap[w.heap.size]? = w2.heap[w.heap.size]?) ∧ Hid (wr.heap[w.heap.size + 1 + 1]? = w2.heap[w.heap.size + 1 + 1]?) ∧ Below w.heap.size w wr) (fun i _ => 8 - (intOf i).toNat)
       case atStart => exact ⟨0, by omega, rfl, HA, J0, J2, hbr⟩
       case round =>
        clear HA J0 J1 J2 J3 hbr hlt ht HT
        obtain ⟨j, hj, rfl, HA, J0, J2, hbr⟩ := hrel
        by_cases hlt : j < 8
        ·
         have ca := (cell_of_row wr A j _ _ _ HA.out).trans (mixA_get _ _ j hlt)
         have ch := (cell_of_row wr w.heap.size j _ _ _ (J0.out.trans I0.out)).trans (stA_get ⟨a0, b0, c0, d0, e0, f0, g0, h0⟩ j hlt)
         have cf := frozen_of_row wr A j _ _ HA.out
         have HV := Lib.hid (mixA_set ⟨a0, b0, c0, d0, e0, f0, g0, h0⟩ s j hlt)
         generalize s.list.getD j 0 = sx at ca HV
         generalize (Sh.St.list ⟨a0, b0, c0, d0, e0, f0, g0, h0⟩).getD j 0 = hx at ch HV
         have hlt' : (j : Int) < 8 := by omega
         go_wp2
         refine region_tail 9 (by kernel_rfl) (by kernel_rfl) ?_
         simp only [List.take_succ_cons, List.take_zero, List.drop_succ_cons, List.drop_zero]
         repeat still_step
         refine wpStill_nil ?_
         simp only [w_add, w_add']
         generalize hsh : sx + hx = z at HV ⊢
         clear hsh
         go_wp2
         go_roundw
         case rel =>
          refine ⟨j + 1, by omega, by go_num, ?_, held_apart J0.out _ _ _ (by omega), held_apart J2.out _ _ _ (by omega), hbr.drew.setCell (by simp; omega) _⟩
          rw [← HV.out]; exact held_set (wr := wr.drew) HA.out j _
         case measure => simp [intOf]; omega
        ·
         have HTT := Lib.hid (show j = 8 by omega)
         rw [HTT.out, mixA_all, HP.out] at HA
         have K2 := Lib.hid (J2.out.trans I2.out)
         have k0 := cell_of_row wr A 0 _ _ _ HA.out
         have k1 := cell_of_row wr A 1 _ _ _ HA.out
         have k2 := cell_of_row wr A 2 _ _ _ HA.out
         have k3 := cell_of_row wr A 3 _ _ _ HA.out
         have k4 := cell_of_row wr A 4 _ _ _ HA.out
         have k5 := cell_of_row wr A 5 _ _ _ HA.out
         have k6 := cell_of_row wr A 6 _ _ _ HA.out
         have k7 := cell_of_row wr A 7 _ _ _ HA.out
         simp only [stA, List.getElem?_toArray, List.getElem?_cons_zero, List.getElem?_cons_succ] at k0 k1 k2 k3 k4 k5 k6 k7
         have z0 := cell_of_row wr (w.heap.size + 1 + 1) 0 _ _ _ K2.out
         have z1 := cell_of_row wr (w.heap.size + 1 + 1) 1 _ _ _ K2.out
         have z2 := cell_of_row wr (w.heap.size + 1 + 1) 2 _ _ _ K2.out
         have z3 := cell_of_row wr (w.heap.size + 1 + 1) 3 _ _ _ K2.out
         have z4 := cell_of_row wr (w.heap.size + 1 + 1) 4 _ _ _ K2.out
         have z5 := cell_of_row wr (w.heap.size + 1 + 1) 5 _ _ _ K2.out
         have z6 := cell_of_row wr (w.heap.size + 1 + 1) 6 _ _ _ K2.out
         have z7 := cell_of_row wr (w.heap.size + 1 + 1) 7 _ _ _ K2.out
         have y0 := frozen_of_row wr (w.heap.size + 1 + 1) 0 _ _ K2.out
         have y1 := frozen_of_row wr (w.heap.size + 1 + 1) 1 _ _ K2.out
         have y2 := frozen_of_row wr (w.heap.size + 1 + 1) 2 _ _ K2.out
         have y3 := frozen_of_row wr (w.heap.size + 1 + 1) 3 _ _ K2.out
         have y4 := frozen_of_row wr (w.heap.size + 1 + 1) 4 _ _ K2.out
         have y5 := frozen_of_row wr (w.heap.size + 1 + 1) 5 _ _ K2.out
         have y6 := frozen_of_row wr (w.heap.size + 1 + 1) 6 _ _ K2.out
         have y7 := frozen_of_row wr (w.heap.size + 1 + 1) 7 _ _ K2.out
         go_wp2
         refine bodyPost_ret (v := .agg (stA M)) ?_ rfl ⟨rfl, set8_below hbr (by omega) _ _ _ _ _ _ _ _⟩
         exact results_cell_row (by rfl) _ _ (w.heap.size + 1 + 1) _ _ _ _ (by rfl) (set8_held K2.out _ _ _ _ _ _ _ _) Tryz.underlying210 rfl info39
end Go.Proofs.YtkcjhkfelaplkaaGreatDoor.S2
end
section
section
namespace Go.Proofs.YtkcjhkfelaplkaaGreatDoor.S2
open Go.RowKit
open Sh (Wd)
theorem bcell {W w1 : World} (hb : Below W.heap.size W w1) : (∀ b o, b < W.heap.size → w1.cell? ⟨b, o, none⟩ = W.cell? ⟨b, o, none⟩) ∧ (∀ b o, b < W.heap.size → w1.frozen? ⟨b, o, none⟩ = W.frozen? ⟨b, o, none⟩) :=
 ⟨fun b o h => hb.cell (p := ⟨b, o, none⟩) h, fun b o h => hb.frozen (p := ⟨b, o, none⟩) h⟩
theorem KIn.step {w w' : World} (h : KIn w) (hb : Below w.heap.size w w') : KIn w' := h.below hb h.pos
theorem KIn.more {w : World} (h : KIn w) (o : Obj) : KIn (w.alloc o) := ⟨by have := h.1; simp; omega, fun t ht => (World.cell?_alloc_lt w o ⟨1, t, none⟩ h.1).trans (h.2 t ht)⟩
theorem KIn.drawn {w : World} (h : KIn w) : KIn w.drew := h
def flat (Xs : List ByteArray) : List UInt8 := (Xs.map (·.data.toList)).flatten
theorem join_flat (Xs : List ByteArray) : Lib.join (Xs.map (·.data.toList)) (ByteArray.mk #[]).data.toList = flat Xs := by
 unfold flat
 cases Xs with
 | nil => rfl
 | cons x r =>
   rw [List.map_cons, Lib.join_cons, List.flatten_cons]
   have e : (r.map (·.data.toList)).map ((ByteArray.mk #[]).data.toList ++ ·) = r.map (·.data.toList) := by rw [List.map_map]; rfl
   rw [Lib.joinTail, e]
theorem sha_split (l : List UInt8) (b : ByteArray) (hb : b.data.toList = l) :
  Sh.proc ((Sh.ending (b.data.toList.drop (l.length - l.length % 64)) l.length).length / 64) (Sh.proc ((l.take (l.length - l.length % 64)).length / 64) Sh.start (l.take (l.length - l.length % 64))) (Sh.ending (l.drop (l.length - l.length % 64)) l.length) = Sh.sha l := by
 rw [hb, Sh.ending_length, ← Sh.sha_parts l]
 have h1 : (l.drop (l.length - l.length % 64)).length = l.length % 64 := by rw [List.length_drop]; omega
 have h2 : (l.take (l.length - l.length % 64)).length / 64 = l.length / 64 := by rw [List.length_take]; omega
 rw [h1, h2]
structure Laid (w : World) (X : Obj) (S : Sh.St) (P : Nat) (wc : World) : Prop where
 from_ : w.heap.size + 1 ≤ P
 lt : P < wc.heap.size
 at_ : wc.heap[P]? = some (.cells (stA S) 226)
 res : wc.heap[w.heap.size]? = some X
 below : Below w.heap.size w wc
theorem laid_last {w w1 w2 w3 : World} {X : Obj} (S : Sh.St) (E0 : w1.heap[w.heap.size]? = some X) (hs : w.heap.size + 1 ≤ w1.heap.size) (hb : Below w.heap.size w w1) (hb2 : Below w1.drew.heap.size w1.drew w2) (hb3 : Below w2.heap.size w2 w3) :
  Laid w X S w3.heap.size (w3.alloc (.cells (stA S) 226)) := by
 have h2 : w1.heap.size ≤ w2.heap.size := hb2.size
 have h3 := hb3.size
 refine ⟨by omega, by simp, heap_alloc_new _ _, ?_, ((hb.drew.trans (hb2.mono (by simp; omega))).trans (hb3.mono (by omega))).alloc (by omega) _⟩
 rw [Below.heap_alloc _ _ _ (by omega), hb3.block _ (by omega), hb2.block _ (by simp; omega)]
 exact E0
theorem laid_mid {w w1 w2 w3 : World} {X : Obj} (S : Sh.St) {z0 z1 z2 z3 z4 z5 z6 z7 : Value} (E0 : w1.heap[w.heap.size]? = some X) (hs : w.heap.size + 1 ≤ w1.heap.size) (hb : Below w.heap.size w w1) (hb2 : Below w1.drew.heap.size w1.drew w2)
  (hb3 : Below (w2.alloc (.cells #[z0, z1, z2, z3, z4, z5, z6, z7] 226)).heap.size (w2.alloc (.cells #[z0, z1, z2, z3, z4, z5, z6, z7] 226)) w3) :
  Laid w X S w2.heap.size (set8 w3 w2.heap.size (.int .u32 (S.a.toNat : Int)) (.int .u32 (S.b.toNat : Int)) (.int .u32 (S.c.toNat : Int)) (.int .u32 (S.d.toNat : Int)) (.int .u32 (S.e.toNat : Int)) (.int .u32 (S.f.toNat : Int)) (.int .u32 (S.g.toNat : Int)) (.int .u32 (S.h.toNat : Int))) := by
 have h2 : w1.heap.size ≤ w2.heap.size := hb2.size
 have h3 : w2.heap.size + 1 ≤ w3.heap.size := by have := hb3.size; simpa using this
 have hz : w3.heap[w2.heap.size]? = some (.cells #[z0, z1, z2, z3, z4, z5, z6, z7] 226) := (hb3.block _ (by simp)).trans (heap_alloc_new _ _)
 refine ⟨by omega, by simp [set8]; omega, set8_held hz _ _ _ _ _ _ _ _, set8_apart ?_ (by omega) _ _ _ _ _ _ _ _, set8_below (((hb.drew.trans (hb2.mono (by simp; omega))).alloc (by omega) _).trans (hb3.mono (by simp; omega))) (by omega) _ _ _ _ _ _ _ _⟩
 rw [hb3.block _ (by simp; omega), Below.heap_alloc _ _ _ (by omega), hb2.block _ (by simp; omega)]
 exact E0
theorem laid_first {w w1 w2 w3 : World} {X : Obj} (S : Sh.St) {z0 z1 z2 z3 z4 z5 z6 z7 : Value} (E0 : w1.heap[w.heap.size]? = some X) (hs : w.heap.size + 1 ≤ w1.heap.size) (hb : Below w.heap.size w w1)
  (hb2 : Below (w1.alloc (.cells #[z0, z1, z2, z3, z4, z5, z6, z7] 226)).drew.heap.size (w1.alloc (.cells #[z0, z1, z2, z3, z4, z5, z6, z7] 226)).drew w2) (hb3 : Below w2.heap.size w2 w3) :
  Laid w X S w1.heap.size (set8 w3 w1.heap.size (.int .u32 (S.a.toNat : Int)) (.int .u32 (S.b.toNat : Int)) (.int .u32 (S.c.toNat : Int)) (.int .u32 (S.d.toNat : Int)) (.int .u32 (S.e.toNat : Int)) (.int .u32 (S.f.toNat : Int)) (.int .u32 (S.g.toNat : Int)) (.int .u32 (S.h.toNat : Int))) := by
 have h2 : w1.heap.size + 1 ≤ w2.heap.size := by have := hb2.size; simpa using this
 have h3 := hb3.size
 have hz : w3.heap[w1.heap.size]? = some (.cells #[z0, z1, z2, z3, z4, z5, z6, z7] 226) := (hb3.block _ (by omega)).trans ((hb2.block _ (by simp)).trans (heap_alloc_new w1 _))
 refine ⟨by omega, by simp [set8]; omega, set8_held hz _ _ _ _ _ _ _ _, set8_apart ?_ (by omega) _ _ _ _ _ _ _ _, set8_below (((hb.alloc (by omega) _).drew.trans (hb2.mono (by simp; omega))).trans (hb3.mono (by omega))) (by omega) _ _ _ _ _ _ _ _⟩
 rw [hb3.block _ (by omega), hb2.block _ (by simp; omega), heap_drew, Below.heap_alloc w1 _ _ (by omega)]
 exact E0
theorem laid_last' {w w1 w2 w3 : World} {X : Obj} (S : Sh.St) (E0 : w1.heap[w.heap.size]? = some X) (hs : w.heap.size + 1 ≤ w1.heap.size) (hb : Below w.heap.size w w1) (hb2 : Below w1.drew.heap.size w1.drew w2) (hb3 : Below w2.heap.size w2 w3) :
  Laid w X S w3.heap.size (w3.alloc (.cells #[.int .u32 (S.a.toNat : Int), .int .u32 (S.b.toNat : Int), .int .u32 (S.c.toNat : Int), .int .u32 (S.d.toNat : Int), .int .u32 (S.e.toNat : Int), .int .u32 (S.f.toNat : Int), .int .u32 (S.g.toNat : Int), .int .u32 (S.h.toNat : Int)] 226)) := laid_last S E0 hs hb hb2 hb3
theorem laid_mid' {w w1 w2 w3 : World} {X : Obj} (S : Sh.St) {z0 z1 z2 z3 z4 z5 z6 z7 : Value} (E0 : w1.heap[w.heap.size]? = some X) (hs : w.heap.size + 1 ≤ w1.heap.size) (hb : Below w.heap.size w w1) (hb2 : Below w1.drew.heap.size w1.drew w2)
  (hb3 : Below (w2.alloc (.cells #[z0, z1, z2, z3, z4, z5, z6, z7] 226)).heap.size (w2.alloc (.cells #[z0, z1, z2, z3, z4, z5, z6, z7] 226)) w3) : Laid w X S w2.heap.size ((((((((w3.setCell ⟨w2.heap.size, 0, none⟩ (.int .u32 (S.a.toNat : Int))).setCell ⟨w2.heap.size, 1, none⟩ (.int .u32 (S.b.toNat : Int))).setCell ⟨w2.heap.size, 2, none⟩ (.int .u32 (S.c.toNat : Int))).setCell ⟨w2.heap.size, 3, none⟩ (.int .u32 (S.d.toNat : Int))).setCell ⟨w2.heap.size, 4, none⟩ (.int .u32 (S.e.toNat : Int))).setCell ⟨w2.heap.size, 5, none⟩ (.int .u32 (S.f.toNat : Int))).setCell ⟨w2.heap.size, 6, none⟩ (.int .u32 (S.g.toNat : Int))).setCell ⟨w2.heap.size, 7, none⟩ (.int .u32 (S.h.toNat : Int))) := laid_mid S E0 hs hb hb2 hb3
theorem laid_first' {w w1 w2 w3 : World} {X : Obj} (S : Sh.St) {z0 z1 z2 z3 z4 z5 z6 z7 : Value} (E0 : w1.heap[w.heap.size]? = some X) (hs : w.heap.size + 1 ≤ w1.heap.size) (hb : Below w.heap.size w w1)
  (hb2 : Below (w1.alloc (.cells #[z0, z1, z2, z3, z4, z5, z6, z7] 226)).drew.heap.size (w1.alloc (.cells #[z0, z1, z2, z3, z4, z5, z6, z7] 226)).drew w2) (hb3 : Below w2.heap.size w2 w3) : Laid w X S w1.heap.size ((((((((w3.setCell ⟨w1.heap.size, 0, none⟩ (.int .u32 (S.a.toNat : Int))).setCell ⟨w1.heap.size, 1, none⟩ (.int .u32 (S.b.toNat : Int))).setCell ⟨w1.heap.size, 2, none⟩ (.int .u32 (S.c.toNat : Int))).setCell ⟨w1.heap.size, 3, none⟩ (.int .u32 (S.d.toNat : Int))).setCell ⟨w1.heap.size, 4, none⟩ (.int .u32 (S.e.toNat : Int))).setCell ⟨w1.heap.size, 5, none⟩ (.int .u32 (S.f.toNat : Int))).setCell ⟨w1.heap.size, 6, none⟩ (.int .u32 (S.g.toNat : Int))).setCell ⟨w1.heap.size, 7, none⟩ (.int .u32 (S.h.toNat : Int))) := laid_first S E0 hs hb hb2 hb3
theorem sum_any (Xs : List ByteArray) (bk o c : Nat) (w : World) (hcells : ∀ (j : Nat) x, Xs[j]? = some x → w.cell? ⟨bk, o + j, none⟩ = some (.string x)) (hbk : bk < w.heap.size) (hN : Xs.length ≤ 140737488355328) (hcap : Xs.length ≤ c)
  (hlen : (flat Xs).length ≤ 70368744177664) (hk : KIn w) :
  Calls Tryz.prog 111 #[.slice (some ⟨bk, o, none⟩) Xs.length c] w fun r w' => r = .returned (.agg (idA (Sh.idOf (Sh.sha (flat Xs))))) ∧ Below w.heap.size w w' := by
 have HK := Lib.hid hk
 have hp := hk.pos
 clear hk
 have hj := fun wz (hz : ∀ (j : Nat) x, Xs[j]? = some x → wz.cell? ⟨bk, o + j, none⟩ = some (.string x)) (hbz : bk < wz.heap.size) => Tryz.strings_Join bk o c Xs ⟨#[]⟩ wz hz hbz hN hcap (by rw [join_flat]; omega)
 rw [join_flat] at hj
 have HJ := Lib.hid hj
 have HC := Lib.hid hcells
 clear hj hcells
 have hml : (⟨(flat Xs).toArray⟩ : ByteArray).data.toList = flat Xs := rfl
 generalize hm : (⟨(flat Xs).toArray⟩ : ByteArray) = m at HJ hml
 clear hm
 generalize flat Xs = l at HJ hml hlen
 have hms : m.size = l.length := by rw [← len_data, hml]
 generalize hM : Sh.idOf (Sh.sha l) = M
 have HM := Lib.hid hM
 clear hM
 have HML := Lib.hid hml
 have HMS := Lib.hid hms
 have hm1 : m.size ≤ 70368744177664 := by omega
 clear hml hms
 go_enter Tryz.func111, Tryz.ntmps111
 go_wp2_with fail
 refine (HJ.out _ (fun j x hx => by rw [World.cell?_alloc_lt _ _ _ hbk]; exact HC.out j x hx) (by simp; omega)).mono ?_
 rintro r w1 ⟨rfl, hb1⟩
 have E0 : Hid (w1.heap[w.heap.size]? = some (.cells (idA []) 46)) := (hb1.block w.heap.size (by simp)).trans (heap_alloc_new w _)
 have hs1 : w.heap.size + 1 ≤ w1.heap.size := by have := hb1.size; simpa using this
 have hbw : Below w.heap.size w w1 := ((Below.refl _ _).alloc (Nat.le_refl _) _).trans (hb1.mono (by simp))
 have HK1 := Lib.hid (HK.out.step hbw)
 clear hb1
 go_upto_region 3 with (fail)
 rw [show (m.size : Int) - (m.size : Int) % 64 = ((m.size - m.size % 64 : Nat) : Int) by omega]
 have hqm : m.size - m.size % 64 ≤ m.size := by omega
 generalize hq : m.size - m.size % 64 = q at hqm ⊢
 have HQ := Lib.hid hq
 clear hq
 have hqi : (q : Int) ≤ (m.size : Int) := by omega
 have HS1 := Lib.hid (show (m.extract 0 (q)).size ≤ 9223372036854775807 by simp; omega)
 go_cut [5] from 14 to 29 (fun v wc => ∃ P, v = .pointer (some ⟨P, 0, none⟩) ∧ Laid w (.cells (idA []) 46) (Sh.proc ((m.extract 0 (q)).size / 64) Sh.start (m.extract 0 (q)).data.toList) P wc)
 case first =>
  generalize hS : Sh.proc ((m.extract 0 (q)).size / 64) Sh.start (m.extract 0 (q)).data.toList = S1
  have HS := Lib.hid hS
  clear hS
  go_region_with (first
   | (go_at_call 156; refine (start_any _).mono ?_; rintro r w2 ⟨rfl, hb2⟩; obtain ⟨hc2, hf2⟩ := bcell hb2; have hz2 := hb2.size; (try simp at hz2); (try have hz2x := Nat.lt_of_succ_le hz2))
   | (go_at_call 155; refine (process_any Sh.start (m.extract 0 (q)) _ HS1.out (by first | exact (HK1.out.drawn).step hb2 | exact ((HK1.out.drawn).more _).step hb2 | exact ((HK1.out.drawn).step hb2).more _)).mono ?_; rw [HS.out]; rintro r w3 ⟨rfl, hb3⟩; simp only [stA]; obtain ⟨hc3, hf3⟩ := bcell hb3; have hz3 := hb3.size; (try simp at hz3); (try have hz3x := Nat.lt_of_succ_le hz3)))
  all_goals
   go_wp2_with fail
   go_meet
   refine ⟨_, rfl, ?_⟩
   rw [HS.out]
   first | (with_reducible exact laid_last' S1 E0.out hs1 hbw hb2 hb3) | (with_reducible exact laid_mid' S1 E0.out hs1 hbw hb2 hb3) | (with_reducible exact laid_first' S1 E0.out hs1 hbw hb2 hb3)
 case rest =>
  obtain ⟨P, rfl, hL⟩ := hcut
  generalize hS : Sh.proc ((m.extract 0 (q)).size / 64) Sh.start (m.extract 0 (q)).data.toList = S1 at hL
  have HS := Lib.hid hS
  clear hS
  have hP1 := hL.from_
  have hP2 := hL.lt
  have EP := Lib.hid hL.at_
  have ER := Lib.hid hL.res
  have hbc := hL.below
  clear hL E0 hs1 hbw
  have k0 := cell_of_row wc P 0 _ _ _ EP.out
  have k1 := cell_of_row wc P 1 _ _ _ EP.out
  have k2 := cell_of_row wc P 2 _ _ _ EP.out
  have k3 := cell_of_row wc P 3 _ _ _ EP.out
  have k4 := cell_of_row wc P 4 _ _ _ EP.out
  have k5 := cell_of_row wc P 5 _ _ _ EP.out
  have k6 := cell_of_row wc P 6 _ _ _ EP.out
  have k7 := cell_of_row wc P 7 _ _ _ EP.out
  simp only [stA, List.getElem?_toArray, List.getElem?_cons_zero, List.getElem?_cons_succ] at k0 k1 k2 k3 k4 k5 k6 k7
  have y0 := frozen_of_row wc P 0 _ _ EP.out
  have y1 := frozen_of_row wc P 1 _ _ EP.out
  have y2 := frozen_of_row wc P 2 _ _ EP.out
  have y3 := frozen_of_row wc P 3 _ _ EP.out
  have y4 := frozen_of_row wc P 4 _ _ EP.out
  have y5 := frozen_of_row wc P 5 _ _ EP.out
  have y6 := frozen_of_row wc P 6 _ _ EP.out
  have y7 := frozen_of_row wc P 7 _ _ EP.out
  have hel : (Sh.ending (m.extract (q) m.size).data.toList m.size).length ≤ 200 := by
   rw [Sh.ending_length, drop_of_extract, List.length_drop, len_data]
   have := gap_lt (m.size - q + 1)
   have := HQ.out
   omega
  have HFin := Lib.hid (show Sh.proc ((⟨(Sh.ending (m.extract (q) m.size).data.toList m.size).toArray⟩ : ByteArray).size / 64) S1 (⟨(Sh.ending (m.extract (q) m.size).data.toList m.size).toArray⟩ : ByteArray).data.toList = Sh.sha l by
   have h := sha_split l m HML.out
   rw [← HS.out, take_of_extract, drop_of_extract, ← HQ.out, HML.out, HMS.out]
   rw [HML.out] at h
   rw [← h]
   congr 2
   rw [← len_data, take_of_extract, HML.out])
  have hes : (⟨(Sh.ending (m.extract (q) m.size).data.toList m.size).toArray⟩ : ByteArray).size ≤ 9223372036854775807 := by
   show (Sh.ending (m.extract (q) m.size).data.toList m.size).toArray.size ≤ _
   simp only [List.size_toArray]; omega
  have HEnd := Lib.hid (fun wz => ending_any (m.extract (q) m.size) m.size wz (by simp; omega) (by omega))
  generalize (⟨(Sh.ending (m.extract (q) m.size).data.toList m.size).toArray⟩ : ByteArray) = E at HFin hes HEnd
  have HES := Lib.hid hes
  clear hes hel
  have HK3 := Lib.hid (HK.out.step hbc)
  generalize Sh.sha l = S2 at HFin HM
  have hwu : IntKind.u64.wrap (m.size : Int) = (m.size : Int) := by
   simp [IntKind.wrap, IntKind.bits, IntKind.signed]; omega
  go_wp2_with fail
  go_region_with (first
   | (go_at_call 157; (with_reducible refine (HEnd.out _).mono ?_); rintro r w4 ⟨rfl, hb4⟩; obtain ⟨hc4, hf4⟩ := bcell hb4; have hz4 := hb4.size; (try simp at hz4); have hp4 := Nat.lt_of_lt_of_le hP2 hz4; have q0 := (hc4 P 0 hP2).trans k0; have g0 := (hf4 P 0 hP2).trans y0; have q1 := (hc4 P 1 hP2).trans k1; have g1 := (hf4 P 1 hP2).trans y1; have q2 := (hc4 P 2 hP2).trans k2; have g2 := (hf4 P 2 hP2).trans y2; have q3 := (hc4 P 3 hP2).trans k3; have g3 := (hf4 P 3 hP2).trans y3; have q4 := (hc4 P 4 hP2).trans k4; have g4 := (hf4 P 4 hP2).trans y4; have q5 := (hc4 P 5 hP2).trans k5; have g5 := (hf4 P 5 hP2).trans y5; have q6 := (hc4 P 6 hP2).trans k6; have g6 := (hf4 P 6 hP2).trans y6; have q7 := (hc4 P 7 hP2).trans k7; have g7 := (hf4 P 7 hP2).trans y7; clear hc4 hf4)
   | (go_at_call 155; refine (process_any S1 E _ HES.out (HK3.out.drawn.step hb4)).mono ?_; rw [HFin.out]; rintro r w5 ⟨rfl, hb5⟩; simp only [stA]; obtain ⟨hc5, hf5⟩ := bcell hb5; have hz5 := hb5.size; have hp5 := Nat.lt_of_lt_of_le hp4 hz5; have p0 := (hc5 P 0 hp4).trans q0; have f0 := (hf5 P 0 hp4).trans g0; have p1 := (hc5 P 1 hp4).trans q1; have f1 := (hf5 P 1 hp4).trans g1; have p2 := (hc5 P 2 hp4).trans q2; have f2 := (hf5 P 2 hp4).trans g2; have p3 := (hc5 P 3 hp4).trans q3; have f3 := (hf5 P 3 hp4).trans g3; have p4 := (hc5 P 4 hp4).trans q4; have f4 := (hf5 P 4 hp4).trans g4; have p5 := (hc5 P 5 hp4).trans q5; have f5 := (hf5 P 5 hp4).trans g5; have p6 := (hc5 P 6 hp4).trans q6; have f6 := (hf5 P 6 hp4).trans g6; have p7 := (hc5 P 7 hp4).trans q7; have f7 := (hf5 P 7 hp4).trans g7; clear hc5 hf5))
  all_goals
   have EP5 : w5.heap[P]? = some (.cells (stA S1) 226) := (hb5.block P hp4).trans ((hb4.block P (by simpa using hP2)).trans EP.out)
   have ER5 : w5.heap[w.heap.size]? = some (.cells (idA []) 46) := (hb5.block _ (by omega)).trans ((hb4.block _ (by simp; omega)).trans ER.out)
   have hbd : Below w.heap.size w w5 := (hbc.drew.trans (hb4.mono (by simp; omega))).trans (hb5.mono (by omega))
   have F6 := set8_held EP5 (.int .u32 (S2.a.toNat : Int)) (.int .u32 (S2.b.toNat : Int)) (.int .u32 (S2.c.toNat : Int)) (.int .u32 (S2.d.toNat : Int)) (.int .u32 (S2.e.toNat : Int)) (.int .u32 (S2.f.toNat : Int)) (.int .u32 (S2.g.toNat : Int)) (.int .u32 (S2.h.toNat : Int))
   have F7 := set8_apart ER5 (show w.heap.size ≠ P by omega) (.int .u32 (S2.a.toNat : Int)) (.int .u32 (S2.b.toNat : Int)) (.int .u32 (S2.c.toNat : Int)) (.int .u32 (S2.d.toNat : Int)) (.int .u32 (S2.e.toNat : Int)) (.int .u32 (S2.f.toNat : Int)) (.int .u32 (S2.g.toNat : Int)) (.int .u32 (S2.h.toNat : Int))
   have F8 := set8_below hbd (show w.heap.size ≤ P by omega) (.int .u32 (S2.a.toNat : Int)) (.int .u32 (S2.b.toNat : Int)) (.int .u32 (S2.c.toNat : Int)) (.int .u32 (S2.d.toNat : Int)) (.int .u32 (S2.e.toNat : Int)) (.int .u32 (S2.f.toNat : Int)) (.int .u32 (S2.g.toNat : Int)) (.int .u32 (S2.h.toNat : Int))
   change Exit.then _ _ _ _ (set8 w5 P (.int .u32 (S2.a.toNat : Int)) (.int .u32 (S2.b.toNat : Int)) (.int .u32 (S2.c.toNat : Int)) (.int .u32 (S2.d.toNat : Int)) (.int .u32 (S2.e.toNat : Int)) (.int .u32 (S2.f.toNat : Int)) (.int .u32 (S2.g.toNat : Int)) (.int .u32 (S2.h.toNat : Int)))
   generalize set8 w5 P (.int .u32 (S2.a.toNat : Int)) (.int .u32 (S2.b.toNat : Int)) (.int .u32 (S2.c.toNat : Int)) (.int .u32 (S2.d.toNat : Int)) (.int .u32 (S2.e.toNat : Int)) (.int .u32 (S2.f.toNat : Int)) (.int .u32 (S2.g.toNat : Int)) (.int .u32 (S2.h.toNat : Int)) = w6 at F6 F7 F8 ⊢
   clear EP5 ER5 hbd hb4 hb5 p0 p1 p2 p3 p4 p5 p6 p7 f0 f1 f2 f3 f4 f5 f6 f7 q0 q1 q2 q3 q4 q5 q6 q7 g0 g1 g2 g3 g4 g5 g6 g7 k0 k1 k2 k3 k4 k5 k6 k7 y0 y1 y2 y3 y4 y5 y6 y7 hz4 hz5 hp4 hp5
   have EP6 : Hid (w6.heap[P]? = some (.cells (stA S2) 226)) := F6
   have E7 := Lib.hid F7
   clear F6 F7
   have k0 := cell_of_row w6 P 0 _ _ _ EP6.out
   have k1 := cell_of_row w6 P 1 _ _ _ EP6.out
   have k2 := cell_of_row w6 P 2 _ _ _ EP6.out
   have k3 := cell_of_row w6 P 3 _ _ _ EP6.out
   have k4 := cell_of_row w6 P 4 _ _ _ EP6.out
   have k5 := cell_of_row w6 P 5 _ _ _ EP6.out
   have k6 := cell_of_row w6 P 6 _ _ _ EP6.out
   have k7 := cell_of_row w6 P 7 _ _ _ EP6.out
   simp only [stA, List.getElem?_toArray, List.getElem?_cons_zero, List.getElem?_cons_succ] at k0 k1 k2 k3 k4 k5 k6 k7
   go_wp2_with fail
   refine (idOf_any S2 _).mono ?_
   rw [HM.out]
   rintro r w7 ⟨rfl, hb7⟩
   have hl : M.length ≤ 32 := by rw [← HM.out, Sh.idOf_length]; omega
   have hz7 := hb7.size
   have h60 : w.heap.size < w6.heap.size := by
    rcases Nat.lt_or_ge w.heap.size w6.heap.size with h | h
    · exact h
    · rw [Array.getElem?_eq_none h] at E7; exact absurd E7.out (by simp)
   have E8 := Lib.hid ((hb7.block _ h60).trans E7.out)
   have hb8 := F8.trans (hb7.mono (by omega))
   have HI := Lib.hid (idsize hl)
   have H0 := Lib.hid (show (idA []).size = (idA M).size by rw [idA_size M hl]; rfl)
   have hu := Lib.hid Tryz.underlying46
   clear hz7 h60 hb7 k0 k1 k2 k3 k4 k5 k6 k7
   go_wp2_with (refine wpList_store_row rfl 46 _ _ rfl w.heap.size _ rfl rfl _ _ E8.out HI.out H0.out (idA_one _) ?_)
   refine bodyPost_ret (v := .agg (idA M)) ?_ rfl ⟨rfl, below_setRow hb8 (Nat.le_refl _) _⟩
   exact results_cell_row (by rfl) _ _ w.heap.size _ _ _ _ (by rfl) (setRow_heap _ _ _ _ _ _ E8.out) hu.out rfl HI.out
end Go.Proofs.YtkcjhkfelaplkaaGreatDoor.S2
end
section
namespace Go.Proofs.YtkcjhkfelaplkaaGreatDoor.S2
open Go.RowKit
open Sh (Wd)
theorem wpList_build_as {P : Program} {ops : Array Oper} {rest : List Oper} {o : Oper} {a : Act} {w : World} {Q : Exit → Act → World → Prop} (hg : o.guard = none) (t : TypeId) (parts : Array (Nat × Operand)) (ho : o.op = .build t parts) (cs : Array Value)
  (hb : P.built t (parts.map fun (i, x) => (i, a.eval x)).toList = some cs) (h : wpList P ops Q rest (a.put o.dst (.agg cs)) w) : wpList P ops Q (o :: rest) a w := by
 refine wpList_build hg t parts ho (by rw [hb]; rfl) ?_
 rw [hb]
 exact h
theorem refk_any (w : World) : Calls Tryz.prog 131 #[] w fun r w' => r = .returned (.agg (arr Sh.K)) ∧ Below w.heap.size w w' := by
 have HK1 := Lib.hid (arr_one Sh.K)
 have HI : Hid ((Tryz.prog.info? 211).map (·.size) = some (arr Sh.K).size) := by rw [arr_size Sh.K (by decide)]; exact (zero_of_info info48).2
 have HS := Lib.hid (arr_size Sh.K (by decide))
 go_enter Tryz.func131, Tryz.ntmps131
 go_upto_region 1 with (fail)
 refine wp_region_list ?_
 refine wpList_build_as rfl 211 _ rfl (arr Sh.K) (by kernel_rfl) ?_
 generalize hka : arr Sh.K = ka at HK1 HI HS ⊢
 have HKA := Lib.hid hka
 clear hka
 go_wp2_with (refine wpList_store_row rfl 211 _ _ rfl w.heap.size _ rfl rfl _ _ (heap_alloc_new _ _) HI.out (by rw [HS.out]; rfl) HK1.out ?_)
 refine bodyPost_ret (v := .agg ka) ?_ rfl ⟨by rw [HKA.out], below_setRow ((Below.refl _ _).alloc (Nat.le_refl _) _) (Nat.le_refl _) _⟩
 exact results_cell_row (by rfl) _ _ w.heap.size _ _ _ _ (by rfl) (setRow_heap _ _ _ _ _ _ (heap_alloc_new _ _)) Tryz.underlying211 rfl HI.out
theorem conv_one (w : World) (b : UInt8) (x : Int) (h : x = (b.toNat : Int)) : (convert 23 9 (.slice (some ⟨w.heap.size, 0, none⟩) 1 1)).run Tryz.prog (w.alloc (.cells #[.int .u8 x] 5)) = .ok (.string ⟨#[b]⟩) (w.alloc (.cells #[.int .u8 x] 5)) := by
 subst h
 exact run_convert_bytes_back (P := Tryz.prog) (w.alloc (.cells #[.int .u8 (b.toNat : Int)] 5)) 23 9 5 ⟨w.heap.size, 0, none⟩ 1 [b] Tryz.underlying23 Tryz.underlying5 Tryz.underlying9 (fun j hj => by
  have hj0 : j = 0 := by simpa using hj
  subst hj0
  exact cell_one_new w _ 5 0 _ rfl)
theorem app_data (a : ByteArray) (b : UInt8) : (a ++ ByteArray.mk #[b]).data.toList = a.data.toList ++ [b] := by
 rw [ByteArray.data_append]; simp
theorem be8_down (n j : Nat) (hj : j < 8) : ((n : Int) / 2 ^ (8 * (7 - j))) % 256 = ((Sh.be8 n j).toNat : Int) := by
 rw [show 8 * (7 - j) = 56 - 8 * j by omega]; exact be8_eq n j hj
theorem extract_mid (a : ByteArray) (i : Nat) (h : i + 64 ≤ a.size) : (a.extract i (i + 64)).data.toList = (a.data.toList.drop i).take 64 := by
 simp only [ByteArray.data_extract, Array.toList_extract, List.extract_eq_take_drop]
 rw [Nat.add_sub_cancel_left]
theorem loadAt_row {P : Program} (w : World) (g : Nat) (t ty : TypeId) (cs : Array Value) (d : TypeDesc) (hg : w.heap[g]? = some (.cells cs t))
  (hu : P.underlying ty = some d) (hd : (match d with | .struct _ | .array _ _ => true | _ => false) = true) (hi : (P.info? ty).map (·.size) = some cs.size) :
  (Instr.loadAt ty (.pointer (some ⟨g, 0, none⟩))).run P w = .ok (.agg cs) w := by
 simp only [Instr.loadAt, Instr.sureAddr, Sem.run_bind, Sem.run_pure, Result.andThen]
 exact run_loadVar_row w g t ty cs _ d hg hu hd hi
theorem wpStill_load_row {P : Program} {ops : Array Oper} {w : World} {Q : Act → Prop} {a : Act} {o : Oper} {rest : List Oper} {cs : Array Value} (hw : Region.wanted o (yielded ops a.tmps) = true) (ty : TypeId) (x : Operand) (ho : o.op = .load ty x)
  (g : Nat) (hx : a.eval x = .pointer (some ⟨g, 0, none⟩)) (hld : (Instr.loadAt ty (.pointer (some ⟨g, 0, none⟩))).run P w = .ok (.agg cs) w) (h : wpStill P ops w Q rest (a.put o.dst (.agg cs))) : wpStill P ops w Q (o :: rest) a := by
 refine wpStill_step fun K hK => ?_
 rw [if_pos hw]
 unfold Oper.still execOp
 simp only [ho, hx, Sem.run_bind, hld, Result.andThen_ok, Sem.run_pure]
 exact ⟨rfl, hK _ h⟩
theorem refsum_any (text : ByteArray) (w : World) (hl : text.size ≤ 70368744177664) :
  Calls Tryz.prog 98 #[.string text] w fun r w' => r = .returned (.agg (idA (Sh.idOf (Sh.sha text.data.toList)))) ∧ Below w.heap.size w w' := by
 generalize hM : Sh.idOf (Sh.sha text.data.toList) = M
 have HM := Lib.hid hM
 clear hM
 have HL := Lib.hid (len_data text)
 have hwu : IntKind.u64.wrap (text.size : Int) = (text.size : Int) := by
  simp [IntKind.wrap, IntKind.bits, IntKind.signed]; omega
 have hwu8 : IntKind.u64.wrap ((text.size : Int) * 8) = (text.size : Int) * 8 := by
  simp [IntKind.wrap, IntKind.bits, IntKind.signed]; omega
 go_enter Tryz.func98, Tryz.ntmps98
 go_upto_region 2 with (fail)
 change Code.wp _ _ _ _ (w.alloc (.cells (idA []) 46))
 have E0 := Lib.hid (heap_alloc_new w (.cells (idA []) 46))
 have hb1 : Below w.heap.size w (w.alloc (.cells (idA []) 46)) := (Below.refl _ _).alloc (Nat.le_refl _) _
 have hs1 : w.heap.size + 1 ≤ (w.alloc (.cells (idA []) 46)).heap.size := by simp
 generalize w.alloc (.cells (idA []) 46) = w1 at E0 hb1 hs1 ⊢
 have hcv0 := conv_one w1 128 128 rfl
 have HZ0 := Lib.hid (show (text ++ ByteArray.mk #[128]).data.toList = zs text.data.toList 0 by rw [app_data, zs_zero])
 go_wp2
 clear hcv0
 have F0 := Lib.hid ((Below.heap_alloc w1 (.cells #[.int .u8 128] 5) w.heap.size (by omega)).trans E0.out)
 have hb2 := hb1.alloc (by omega) (.cells #[.int .u8 128] 5)
 have hs2 : w.heap.size + 1 ≤ (w1.alloc (.cells #[.int .u8 128] 5)).heap.size := by simp; omega
 generalize w1.alloc (.cells #[.int .u8 128] 5) = w2 at F0 hb2 hs2 ⊢
 clear E0 hb1 hs1
 generalize text ++ ByteArray.mk #[128] = a0 at HZ0 ⊢
 generalize hll : text.data.toList = l at HZ0 HM HL
 clear hll
 have hgl := gap_lt (l.length + 1)
 have HLL := Lib.hid (show l.length = text.size from HL.out)
 have hl2 : l.length ≤ 70368744177664 := by rw [HL.out]; exact hl
 go_loopw [4] (fun v wr => ∃ (k : Nat) (a : ByteArray), v = .string a ∧ Hid (a.data.toList = zs l k) ∧ k ≤ Sh.gap (l.length + 1) ∧ Hid (wr.heap[w.heap.size]? = some (.cells (idA []) 46)) ∧ Below w.heap.size w wr ∧ w.heap.size + 1 ≤ wr.heap.size) (fun v _ => l.length + 1 + 64 - strLen v)
 case atStart => exact ⟨0, a0, rfl, HZ0, Nat.zero_le _, F0, hb2, hs2⟩
 case round =>
  clear HZ0 F0 hb2 hs2
  obtain ⟨k, a, rfl, HA, hk, F0, hb2, hs2⟩ := hrel
  have hsz : a.size = l.length + 1 + k := by rw [← len_data, HA.out, zs_len]
  have HSZ := Lib.hid hsz
  have hs3 : a.size ≤ 140737488355328 := by omega
  by_cases h56 : (l.length + 1 + k) % 64 = 56
  ·
   have hk' := gap_end _ _ hk h56
   have hd : ((a.size : Int) % 64 != 56) = false := by simp; omega
   have HE := Lib.hid (show a.data.toList = es l (8 * text.size) 0 by rw [HA.out, es_zero, hk'])
   clear hk' h56 hsz HA HSZ
   go_wp2
   go_loopw [4, 5] (fun v i wr => ∃ (j : Nat) (a : ByteArray), v = .string a ∧ i = .int .i64 (7 - (j : Int)) ∧ Hid (a.data.toList = es l (8 * text.size) j) ∧ j ≤ 8 ∧ Hid (wr.heap[w.heap.size]? = some (.cells (idA []) 46)) ∧ Below w.heap.size w wr ∧ w.heap.size + 1 ≤ wr.heap.size) (fun _ i _ => (intOf i + 1).toNat)
   case atStart => exact ⟨0, a, rfl, rfl, HE, by omega, F0, hb2, hs2⟩
   case round =>
    clear HE F0 hb2 hs2 hs3 hd
    obtain ⟨j, a, rfl, rfl, HE, hj, F0, hb2, hs2⟩ := hrel
    have hsz : a.size = l.length + 1 + Sh.gap (l.length + 1) + j := by rw [← len_data, HE.out, es_len]
    have hs3 : a.size ≤ 140737488355328 := by omega
    by_cases hlt : j < 8
    ·
     have hb8 : (text.size : Int) * 8 / 2 ^ (8 * (7 - j)) % 256 = ((Sh.be8 (8 * text.size) j).toNat : Int) := by
      have := be8_down (8 * text.size) j hlt
      rw [← this, Int.mul_comm]; simp
     have hcv := conv_one wr (Sh.be8 (8 * text.size) j) _ hb8
     have HB8 := Lib.hid hb8
     clear hb8
     have HA2 := Lib.hid (show (a ++ ByteArray.mk #[Sh.be8 (8 * text.size) j]).data.toList = es l (8 * text.size) (j + 1) by rw [app_data, HE.out, es_succ])
     generalize Sh.be8 (8 * text.size) j = bj at hcv HA2 HB8
     have hq0 : 0 ≤ 7 - (j : Int) := by omega
     have hq1 : IntKind.u64.wrap (8 * (7 - (j : Int))) = ((8 * (7 - j) : Nat) : Int) := by
      simp [IntKind.wrap, IntKind.bits, IntKind.signed]; omega
     clear hsz
     go_wp2
     refine ⟨⟨j + 1, a ++ ByteArray.mk #[bj], rfl, ?_, HA2, by omega, (Below.heap_alloc _ _ _ (by omega)).trans F0.out, hb2.alloc (by omega) _, by simp; omega⟩, by simp [intOf]; omega⟩
     rw [show (7 : Int) - (j : Int) - 1 = 7 - ((j + 1 : Nat) : Int) by omega]
    ·
     have hj8 : j = 8 := by omega
     have HMsg := Lib.hid (show a.data.toList = Sh.ending l l.length by rw [HE.out, hj8, HL.out, es_all])
     have HSz := Lib.hid (show a.size = 64 * Sh.blocks l.length by rw [Sh.blocks_mul, hsz, hj8]; omega)
     have hneg : 7 - (j : Int) < 0 := by omega
     clear hsz hj8 HE
     have hkk := fun wz => refk_any wz
     have HKK := Lib.hid hkk
     have HKC := Lib.hid (fun (t : Nat) (ht : t < 64) => arr_get Sh.K t (by rw [K_len]; omega))
     have HK1 := Lib.hid (arr_one Sh.K)
     have HI : Hid ((Tryz.prog.info? 211).map (·.size) = some (arr Sh.K).size) := by rw [arr_size Sh.K (by decide)]; exact (zero_of_info info48).2
     have HSK := Lib.hid (arr_size Sh.K (by decide))
     have HBL := Lib.hid (fun s b wz hb => refblock_any s b wz hb)
     generalize arr Sh.K = ka at HKK HKC HK1 HI HSK HBL
     clear hkk
     go_wp2_with fail
     refine (HKK.out _).mono ?_
     rintro r w3 ⟨rfl, hb3⟩
     go_wp2_with (refine wpList_store_row rfl 211 _ _ rfl w3.heap.size _ rfl rfl _ _ (heap_alloc_new _ _) HI.out (by rw [HSK.out]; rfl) HK1.out ?_)
     rw [World.setRow_alloc_new]
     have hs3 : wr.heap.size + 1 ≤ w3.heap.size := by have := hb3.size; simpa using this
     have G1 : Hid ((w3.alloc (.cells ka 211)).heap[wr.heap.size]? = some (.cells (stA Sh.start) 210)) := by
      rw [stA_start]; exact (Below.heap_alloc _ _ _ (by omega)).trans ((hb3.block _ (by simp)).trans (heap_alloc_new _ _))
     have G2 := Lib.hid (heap_alloc_new w3 (.cells ka 211))
     have G3 : Hid ((w3.alloc (.cells ka 211)).heap[w.heap.size]? = some (.cells (idA []) 46)) :=
      (Below.heap_alloc _ _ _ (by omega)).trans ((hb3.block _ (by simp; omega)).trans ((Below.heap_alloc _ _ _ (by omega)).trans F0.out))
     have hb4 : Below w.heap.size w (w3.alloc (.cells ka 211)) := ((hb2.alloc (by omega) _).trans (hb3.mono (by simp; omega))).alloc (by omega) _
     have hs4 : w3.heap.size + 1 ≤ (w3.alloc (.cells ka 211)).heap.size := by simp
     generalize w3.alloc (.cells ka 211) = w4 at G1 G2 G3 hb4 hs4 ⊢
     clear hb3
     generalize w3.heap.size = C at G2 hs3 hs4 ⊢
     generalize hH : wr.heap.size = H at G1 hs2 hs3 ⊢
     clear hH hb2 F0 HKK HK1
     go_loopw [8] (fun i wr => ∃ (k i0 : Nat) (s : Sh.St), i = .int .i64 (i0 : Int) ∧ Hid (i0 = 64 * k) ∧ k ≤ Sh.blocks l.length ∧ Hid (Sh.proc k Sh.start a.data.toList = s) ∧ Hid (wr.heap[H]? = some (.cells (stA s) 210)) ∧ Hid (wr.heap[C]? = some (.cells ka 211)) ∧ Hid (wr.heap[w.heap.size]? = some (.cells (idA []) 46)) ∧ Below w.heap.size w wr ∧ C + 1 ≤ wr.heap.size) (fun i _ => 64 * Sh.blocks l.length - (intOf i).toNat)
     case atStart => exact ⟨0, 0, _, rfl, rfl, Nat.zero_le _, rfl, G1, G2, G3, hb4, hs4⟩
     case round =>
      clear G1 G2 G3 hb4 hs4
      obtain ⟨k, i0, s, rfl, HI0, hk, HP, G1, G2, G3, hb4, hs4⟩ := hrel
      by_cases hlt : k < Sh.blocks l.length
      ·
       have hi1 : i0 + 64 ≤ a.size := by rw [HI0.out, HSz.out]; omega
       have hi2 : (i0 : Int) + 64 ≤ (a.size : Int) := by omega
       have hi3 : a.size ≤ 140737488355328 + 64 := by omega
       have hw1 : IntKind.i64.wrap ((i0 : Int) + 64) = (i0 : Int) + 64 := IntWalk.i64_in _ (by omega)
       have hw2 : ((i0 : Int) + 64).toNat = i0 + 64 := by omega
       have hw3 : 0 ≤ (i0 : Int) + 64 := by omega
       have hw4 : (i0 : Int) ≤ (i0 : Int) + 64 := by omega
       have HLD := Lib.hid <| loadAt_row (P := Tryz.prog) wr.drew C 211 211 ka _ G2.out Tryz.underlying211 rfl HI.out
       have k0 := cell_of_row wr H 0 _ _ _ G1.out
       have k1 := cell_of_row wr H 1 _ _ _ G1.out
       have k2 := cell_of_row wr H 2 _ _ _ G1.out
       have k3 := cell_of_row wr H 3 _ _ _ G1.out
       have k4 := cell_of_row wr H 4 _ _ _ G1.out
       have k5 := cell_of_row wr H 5 _ _ _ G1.out
       have k6 := cell_of_row wr H 6 _ _ _ G1.out
       have k7 := cell_of_row wr H 7 _ _ _ G1.out
       simp only [stA, List.getElem?_toArray, List.getElem?_cons_zero, List.getElem?_cons_succ] at k0 k1 k2 k3 k4 k5 k6 k7
       go_wp2
       refine region_tail 7 (by kernel_rfl) (by kernel_rfl) ?_
       simp only [List.take_succ_cons, List.take_zero, List.drop_succ_cons, List.drop_zero]
       repeat still_step
       refine wpStill_load_row (by rfl) _ _ (by rfl) C (by rfl) HLD.out ?_
       refine wpStill_nil ?_
       clear HLD
       go_wp2_with fail
       refine (HBL.out s (a.extract i0 (i0 + 64)) wr.drew (by simp; omega)).mono ?_
       have hx : (a.extract i0 (i0 + 64)).data.toList = (a.data.toList.drop (64 * k)).take 64 := by rw [extract_mid a i0 hi1, HI0.out]
       rw [hx]
       clear hx
       have HP2 := Lib.hid (show Sh.proc (k + 1) Sh.start a.data.toList = Sh.mix s ((a.data.toList.drop (64 * k)).take 64) by rw [Sh.proc_succ, HP.out])
       generalize Sh.mix s ((a.data.toList.drop (64 * k)).take 64) = s' at HP2 ⊢
       rintro r w6 ⟨rfl, hb6⟩
       have hs6 : wr.heap.size ≤ w6.heap.size := hb6.size
       have G6 := Lib.hid ((hb6.block H (by simp; omega)).trans G1.out)
       have G7 := Lib.hid ((hb6.block C (by simp; omega)).trans G2.out)
       have G8 := Lib.hid ((hb6.block w.heap.size (by simp; omega)).trans G3.out)
       have hb7 : Below w.heap.size w w6 := hb4.drew.trans (hb6.mono (by simp; omega))
       clear hb6 k0 k1 k2 k3 k4 k5 k6 k7
       simp only [stA]
       have z0 := cell_of_row w6 H 0 _ _ _ G6.out
       have z1 := cell_of_row w6 H 1 _ _ _ G6.out
       have z2 := cell_of_row w6 H 2 _ _ _ G6.out
       have z3 := cell_of_row w6 H 3 _ _ _ G6.out
       have z4 := cell_of_row w6 H 4 _ _ _ G6.out
       have z5 := cell_of_row w6 H 5 _ _ _ G6.out
       have z6 := cell_of_row w6 H 6 _ _ _ G6.out
       have z7 := cell_of_row w6 H 7 _ _ _ G6.out
       have y0 := frozen_of_row w6 H 0 _ _ G6.out
       have y1 := frozen_of_row w6 H 1 _ _ G6.out
       have y2 := frozen_of_row w6 H 2 _ _ G6.out
       have y3 := frozen_of_row w6 H 3 _ _ G6.out
       have y4 := frozen_of_row w6 H 4 _ _ G6.out
       have y5 := frozen_of_row w6 H 5 _ _ G6.out
       have y6 := frozen_of_row w6 H 6 _ _ G6.out
       have y7 := frozen_of_row w6 H 7 _ _ G6.out
       simp only [stA, List.getElem?_toArray, List.getElem?_cons_zero, List.getElem?_cons_succ] at z0 z1 z2 z3 z4 z5 z6 z7
       go_wp2
       go_roundw
       case rel => exact ⟨k + 1, i0 + 64, s', by go_num, by rw [HI0.out]; exact (Nat.mul_succ 64 k).symm, by omega, HP2, set8_held G6.out _ _ _ _ _ _ _ _, set8_apart G7.out (by omega) _ _ _ _ _ _ _ _, set8_apart G8.out (by omega) _ _ _ _ _ _ _ _, set8_below hb7 (by omega) _ _ _ _ _ _ _ _, by simp; omega⟩
       case measure =>
        have := HI0.out
        simp [intOf]; omega
      ·
       have HT := Lib.hid (show k = Sh.blocks l.length by omega)
       have hi2 : ¬ ((i0 : Int) + 64 ≤ (a.size : Int)) := by have h1 := HI0.out; have h2 := HSz.out; have h3 := HT.out; omega
       have hi3 : i0 ≤ 140737488355328 + 64 := by have h1 := HI0.out; have h2 := HSz.out; have h3 := HT.out; omega
       have HF := Lib.hid (show Sh.idOf s = M by rw [← HM.out, Sh.sha, ← HP.out, HT.out, HMsg.out])
       go_upto_region 15 with (fail)
       refine wp_region_list ?_
       refine wpList_build_zero rfl 46 rfl (idA []) (by kernel_rfl) ?_
       intro zz HZ
       have HIz : Hid ((Tryz.prog.info? 46).map (·.size) = some zz.size) := by rw [HZ.out]; exact idsize (by decide)
       have H1z : Hid (zz.all (·.oneCell') = true) := by rw [HZ.out]; exact idA_one []
       have HSz2 : Hid (zz.size = 32) := by rw [HZ.out]; rfl
       go_wp2_with (refine wpList_store_row rfl 46 _ _ rfl wr.heap.size _ rfl rfl _ _ (heap_alloc_new _ _) HIz.out (by rw [HSz2.out]; rfl) H1z.out ?_)
       rw [World.setRow_alloc_new, HZ.out]
       have K1 := Lib.hid ((Below.heap_alloc wr (.cells (idA []) 46) H (by omega)).trans G1.out)
       have K2 := Lib.hid ((Below.heap_alloc wr (.cells (idA []) 46) w.heap.size (by omega)).trans G3.out)
       have K3 := Lib.hid (heap_alloc_new wr (.cells (idA []) 46))
       have hb9 := hb4.alloc (by omega) (.cells (idA []) 46)
       generalize wr.alloc (.cells (idA []) 46) = w9 at K1 K2 K3 hb9 ⊢
       have hO : C + 1 ≤ wr.heap.size := hs4
       generalize wr.heap.size = O at K3 hO ⊢
       clear G1 G2 G3 hb4 hs4 HIz H1z HSz2 hi2 hi3 hlt hk HT HMsg HP
       go_loopw [10] (fun v wr => ∃ (k : Nat), k ≤ 32 ∧ v = .int .i64 k ∧ Hid (wr.heap[H]? = some (.cells (stA s) 210)) ∧ Hid (wr.heap[w.heap.size]? = some (.cells (idA []) 46)) ∧ Hid (wr.heap[O]? = some (.cells (idA ((List.range k).map (Sh.byteOf s))) 46)) ∧ Below w.heap.size w wr) (fun v _ => 32 - (intOf v).toNat)
       case atStart => exact ⟨0, by omega, rfl, K1, K2, K3, hb9⟩
       case round =>
        clear K1 K2 K3 hb9
        obtain ⟨k, hk, rfl, K1, K2, K3, hb9⟩ := hrel
        by_cases hlt : k < 32
        ·
         have c1 := (cell_of_row wr H (k / 4) _ _ _ K1.out).trans (stA_get s (k / 4) (by omega))
         have c2 := (cell_of_row wr O k _ _ _ K3.out).trans (idA_rest _ k (by simp) (by omega))
         have c3 := frozen_of_row wr O k _ _ K3.out
         have HB := Lib.hid (byteOf_eq s k)
         generalize s.list.getD (k / 4) 0 = x at c1 HB
         have hd : IntKind.u64.wrap (24 - 8 * ((k : Int) % 4)) = ((24 - 8 * (k % 4) : Nat) : Int) := by
          simp [IntKind.wrap, IntKind.bits, IntKind.signed]; omega
         have hd0 : 0 ≤ 24 - 8 * ((k : Int) % 4) := by omega
         have hk4 : (k : Int) / 4 < 8 := by omega
         have hk5 : ((k : Int) / 4).toNat = k / 4 := by omega
         have hlt' : (k : Int) < 32 := by omega
         go_wp2
         rw [← HB.out]
         refine ⟨⟨k + 1, by omega, by go_num, held_apart K1.out _ _ _ (by omega), held_apart K2.out _ _ _ (by omega), ?_, hb9.setCell (by simp; omega) _⟩, by simp [intOf]; omega⟩
         rw [range_take, ← idA_push _ _ (by simp; omega)]
         have := held_set K3.out k (.int .u8 ((Sh.byteOf s k).toNat : Int))
         simpa [Hid] using this
        ·
         have HT := Lib.hid (show (List.range k).map (Sh.byteOf s) = M by rw [← HF.out, show k = 32 by omega]; rfl)
         have hl : M.length ≤ 32 := by rw [← HT.out]; simp; omega
         rw [HT.out] at K3
         have HI := Lib.hid (idsize hl)
         have H0 := Lib.hid (show (idA []).size = (idA M).size by rw [idA_size M hl]; rfl)
         have hu := Lib.hid Tryz.underlying46
         go_wp2_with (first | (refine wpList_load_row rfl 46 _ rfl O rfl _ _ _ _ K3.out hu.out rfl HI.out ?_) | (refine wpList_store_row rfl 46 _ _ rfl w.heap.size _ rfl rfl _ _ K2.out HI.out H0.out (idA_one _) ?_))
         refine bodyPost_ret (v := .agg (idA M)) ?_ rfl ⟨rfl, below_setRow hb9 (Nat.le_refl _) _⟩
         exact results_cell_row (by rfl) _ _ w.heap.size _ _ _ _ (by rfl) (setRow_heap _ _ _ _ _ _ K2.out) hu.out rfl HI.out
  ·
   have hk' := gap_more _ _ hk h56
   have hd : ((a.size : Int) % 64 != 56) = true := by rw [bne_iff_ne]; omega
   have hcv := conv_one wr 0 0 rfl
   have HA2 := Lib.hid (show (a ++ ByteArray.mk #[0]).data.toList = zs l (k + 1) by rw [app_data, HA.out, zs_succ])
   have hsz2 : (a ++ ByteArray.mk #[0]).size = l.length + 1 + (k + 1) := by rw [← len_data, HA2.out, zs_len]
   have HSZ2 := Lib.hid hsz2
   clear hsz hsz2
   go_wp2
   refine ⟨⟨k + 1, a ++ ByteArray.mk #[0], rfl, HA2, by omega, (Below.heap_alloc _ _ _ (by omega)).trans F0.out, hb2.alloc (by omega) _, by simp; omega⟩, ?_⟩
   have h1 := HSZ.out
   have h2 := HSZ2.out
   simp only [strLen]
   omega
end Go.Proofs.YtkcjhkfelaplkaaGreatDoor.S2
end
section
namespace Go.Proofs.YtkcjhkfelaplkaaGreatDoor.S2
open Go.RowKit
open Sh (Wd)
def ltB : List UInt8 → List UInt8 → Bool
 | x :: r, y :: q => if x = y then ltB r q else decide (x.toNat < y.toNat)
 | _, _ => false
theorem ltB_step : ∀ (i : Nat) (a b : List UInt8), a.length = b.length → i < a.length → (∀ j, j < i → a.getD j 0 = b.getD j 0) → a.getD i 0 ≠ b.getD i 0 → ltB a b = decide ((a.getD i 0).toNat < (b.getD i 0).toNat)
 | 0, x :: r, y :: q, _, _, _, h => by
   have h' : x ≠ y := by simpa using h
   simp [ltB, h']
 | i + 1, x :: r, y :: q, hl, hi, he, h => by
   have h0 : x = y := by simpa using he 0 (by omega)
   have ih := ltB_step i r q (by simpa using hl) (by simpa using hi) (fun j hj => by simpa using he (j + 1) (by omega)) (by simpa using h)
   simp [ltB, h0]
   simpa using ih
 | _, [], _, _, hi, _, _ => by simp at hi
 | _, _ :: _, [], hl, _, _, _ => by simp at hl
theorem ltB_same : ∀ (a b : List UInt8), a.length = b.length → (∀ j, j < a.length → a.getD j 0 = b.getD j 0) → ltB a b = false
 | [], [], _, _ => rfl
 | x :: r, y :: q, hl, he => by
   have h0 : x = y := by simpa using he 0 (by simp)
   have ih := ltB_same r q (by simpa using hl) (fun j hj => by simpa using he (j + 1) (by simpa using hj))
   simp [ltB, h0, ih]
 | [], _ :: _, hl, _ => by simp at hl
 | _ :: _, [], hl, _ => by simp at hl
theorem less_any (a b : List UInt8) (w : World) (ha : a.length = 32) (hb : b.length = 32) :
  Calls Tryz.prog 94 #[.agg (idA a), .agg (idA b)] w fun r w' => r = .returned (.bool (ltB a b)) ∧ Below w.heap.size w w' := by
 have HA := Lib.hid ha
 have HB := Lib.hid hb
 have CA := Lib.hid (fun (i : Nat) (hi : i < 32) => idA_get a i (by omega))
 have CB := Lib.hid (fun (i : Nat) (hi : i < 32) => idA_get b i (by omega))
 clear ha hb
 generalize hia : idA a = ia at CA
 generalize hib : idA b = ib at CB
 clear hia hib
 generalize hR : ltB a b = R
 have HR := Lib.hid hR
 clear hR
 go_enter Tryz.func94, Tryz.ntmps94
 go_wp2
 go_loopw [6] (fun v wr => ∃ (k : Nat), k ≤ 32 ∧ v = .int .i64 k ∧ Hid (∀ j, j < k → a.getD j 0 = b.getD j 0) ∧ Hid (wr.heap[w.heap.size]? = some (.cells ia 46)) ∧ Hid (wr.heap[w.heap.size + 1]? = some (.cells ib 46)) ∧ Below w.heap.size w wr) (fun v _ => 32 - (intOf v).toNat)
 case atStart => exact ⟨0, by omega, rfl, fun j hj => absurd hj (by omega), heap_alloc2_old _ _ _, heap_alloc2_new _ _ _, ((Below.refl _ _).alloc (Nat.le_refl _) _).alloc (by simp) _⟩
 case round =>
  obtain ⟨k, hk, rfl, HJ, E0, E1, hbr⟩ := hrel
  by_cases hlt : k < 32
  ·
   have c1 := (cell_of_row wr w.heap.size k _ _ _ E0.out).trans (CA.out k hlt)
   have c2 := (cell_of_row wr (w.heap.size + 1) k _ _ _ E1.out).trans (CB.out k hlt)
   have hlt' : (k : Int) < 32 := by omega
   by_cases he : a.getD k 0 = b.getD k 0
   ·
    have HJ2 : Hid (∀ j, j < k + 1 → a.getD j 0 = b.getD j 0) := fun j hj => by
     rcases Nat.lt_or_ge j k with h | h
     · exact HJ.out j h
     · rw [show j = k by omega]; exact he
    rw [he] at c1
    have hne : (((b.getD k 0).toNat : Int) != ((b.getD k 0).toNat : Int)) = false := by simp
    generalize b.getD k 0 = x at c1 c2 hne
    clear he HJ
    go_wp2
    refine region_still (by kernel_rfl) (by kernel_rfl) ?_
    repeat still_step
    refine wpStill_nil ?_
    go_wp2
    go_roundw
    case rel => exact ⟨k + 1, by omega, by go_num, HJ2, E0, E1, hbr.drew⟩
    case measure => simp [intOf]; omega
   ·
    have HS := Lib.hid (ltB_step k a b (by rw [HA.out, HB.out]) (by rw [HA.out]; exact hlt) HJ.out he)
    have hne : (((a.getD k 0).toNat : Int) != ((b.getD k 0).toNat : Int)) = true := by
     rw [bne_iff_ne]; intro h; exact he (UInt8.toNat_inj.1 (by omega))
    generalize a.getD k 0 = x at c1 HS hne
    generalize b.getD k 0 = y at c2 HS hne
    clear he HJ
    go_wp2
    refine region_still (by kernel_rfl) (by kernel_rfl) ?_
    repeat still_step
    refine wpStill_nil ?_
    go_wp2
    refine region_still (by kernel_rfl) (by kernel_rfl) ?_
    repeat still_step
    refine wpStill_nil ?_
    go_wp2
    go_ret
    exact ⟨by rw [← HR.out, HS.out]; rfl, hbr.drew.drew⟩
  ·
   have HS := Lib.hid (ltB_same a b (by rw [HA.out, HB.out]) (fun j hj => HJ.out j (by rw [HA.out] at hj; omega)))
   go_wp2
   go_ret
   exact ⟨by rw [← HR.out, HS.out]; rfl, hbr⟩
theorem refless_any (a b : List UInt8) (w : World) (ha : a.length = 32) (hb : b.length = 32) :
  Calls Tryz.prog 49 #[.agg (idA a), .agg (idA b)] w fun r w' => r = .returned (.bool (ltB a b)) ∧ Below w.heap.size w w' := by
 have HA := Lib.hid ha
 have HB := Lib.hid hb
 have CA := Lib.hid (fun (i : Nat) (hi : i < 32) => idA_get a i (by omega))
 have CB := Lib.hid (fun (i : Nat) (hi : i < 32) => idA_get b i (by omega))
 clear ha hb
 generalize hia : idA a = ia at CA
 generalize hib : idA b = ib at CB
 clear hia hib
 generalize hR : ltB a b = R
 have HR := Lib.hid hR
 clear hR
 go_enter Tryz.func49, Tryz.ntmps49
 go_wp2
 go_loopw [5] (fun v wr => ∃ (k : Nat), k ≤ 32 ∧ v = .int .i64 k ∧ Hid (∀ j, j < k → a.getD j 0 = b.getD j 0) ∧ Hid (wr.heap[w.heap.size]? = some (.cells ia 46)) ∧ Hid (wr.heap[w.heap.size + 1]? = some (.cells ib 46)) ∧ Below w.heap.size w wr) (fun v _ => 32 - (intOf v).toNat)
 case atStart => exact ⟨0, by omega, rfl, fun j hj => absurd hj (by omega), heap_alloc2_old _ _ _, heap_alloc2_new _ _ _, ((Below.refl _ _).alloc (Nat.le_refl _) _).alloc (by simp) _⟩
 case round =>
  obtain ⟨k, hk, rfl, HJ, E0, E1, hbr⟩ := hrel
  by_cases hlt : k < 32
  ·
   have c1 := (cell_of_row wr w.heap.size k _ _ _ E0.out).trans (CA.out k hlt)
   have c2 := (cell_of_row wr (w.heap.size + 1) k _ _ _ E1.out).trans (CB.out k hlt)
   have hlt' : (k : Int) < 32 := by omega
   by_cases he : a.getD k 0 = b.getD k 0
   ·
    have HJ2 : Hid (∀ j, j < k + 1 → a.getD j 0 = b.getD j 0) := fun j hj => by
     rcases Nat.lt_or_ge j k with h | h
     · exact HJ.out j h
     · rw [show j = k by omega]; exact he
    rw [he] at c1
    have hne : (((b.getD k 0).toNat : Int) != ((b.getD k 0).toNat : Int)) = false := by simp
    generalize b.getD k 0 = x at c1 c2 hne
    clear he HJ
    go_wp2
    refine region_still (by kernel_rfl) (by kernel_rfl) ?_
    repeat still_step
    refine wpStill_nil ?_
    go_wp2
    go_roundw
    case rel => exact ⟨k + 1, by omega, by go_num, HJ2, E0, E1, hbr.drew⟩
    case measure => simp [intOf]; omega
   ·
    have HS := Lib.hid (ltB_step k a b (by rw [HA.out, HB.out]) (by rw [HA.out]; exact hlt) HJ.out he)
    have hne : (((a.getD k 0).toNat : Int) != ((b.getD k 0).toNat : Int)) = true := by
     rw [bne_iff_ne]; intro h; exact he (UInt8.toNat_inj.1 (by omega))
    generalize a.getD k 0 = x at c1 HS hne
    generalize b.getD k 0 = y at c2 HS hne
    clear he HJ
    go_wp2
    refine region_still (by kernel_rfl) (by kernel_rfl) ?_
    repeat still_step
    refine wpStill_nil ?_
    go_wp2
    refine region_still (by kernel_rfl) (by kernel_rfl) ?_
    repeat still_step
    refine wpStill_nil ?_
    go_wp2
    go_ret
    exact ⟨by rw [← HR.out, HS.out]; rfl, hbr.drew.drew⟩
  ·
   have HS := Lib.hid (ltB_same a b (by rw [HA.out, HB.out]) (fun j hj => HJ.out j (by rw [HA.out] at hj; omega)))
   go_wp2
   go_ret
   exact ⟨by rw [← HR.out, HS.out]; rfl, hbr⟩
/-! ### Figures -/
end Go.Proofs.YtkcjhkfelaplkaaGreatDoor.S2
end
section
namespace Go.Proofs.YtkcjhkfelaplkaaGreatDoor.S2
open Go.RowKit
open Sh (Wd)
theorem flat_one (x : ByteArray) : flat [x] = x.data.toList := by simp [flat]
def two : List UInt8 := 2 :: List.replicate 31 0
end Go.Proofs.YtkcjhkfelaplkaaGreatDoor.S2
end
section
namespace Go.Proofs.YtkcjhkfelaplkaaGreatDoor.S2
open Go.RowKit
open Sh (Wd)
theorem sum_one (x : ByteArray) (w : World) (hk : KIn w) (hl : x.size ≤ 70368744177664) : Calls Tryz.prog 111 #[.slice (some ⟨w.heap.size, 0, none⟩) 1 1] (w.alloc (.cells #[.string x] 9)) fun r w' => r = .returned (.agg (idA (Sh.idOf (Sh.sha x.data.toList)))) ∧ Below (w.heap.size + 1) (w.alloc (.cells #[.string x] 9)) w' := by
 have h := sum_any [x] w.heap.size 0 1 (w.alloc (.cells #[.string x] 9)) (fun j y hy => by
  match j, hy with
  | 0, hy => simp at hy; subst hy; simp
  | (j + 1), hy => simp at hy) (by simp) (by simp) (by simp) (by rw [flat_one]; simpa using hl) (hk.more _)
 rw [flat_one] at h
 refine h.mono ?_
 rintro r w' ⟨h1, h2⟩
 exact ⟨h1, by simpa using h2⟩
end Go.Proofs.YtkcjhkfelaplkaaGreatDoor.S2
end
section
namespace Go.Proofs.YtkcjhkfelaplkaaGreatDoor.S2
open Go.ChangeShapes Go.WideShapes Go.ChangeAt Go.RowKit
theorem Tryz.own : ownKnob Tryz.prog.godebug = none := by kernel_rfl
theorem gK : Tryz.prog.globalNamed "knapsack/sha256.roundWords" = some 1 := by kernel_rfl
theorem tK : (Tryz.prog.globals[1]?).map (·.type) = some 211 := by kernel_rfl
theorem cK : Tryz.prog.cellsOf 211 = 64 := by kernel_rfl
theorem cW : Tryz.prog.cellsOf 57 = 1 := by kernel_rfl
def Kz : List Int := Sh.K.map fun x => (x.toNat : Int)
def laidK : List (String × DataW Unit) := [("knapsack/sha256.roundWords", Lib.tabData .u32 Kz)]
theorem laid_is : [("knapsack/sha256.roundWords", Rows.laid_knapsack_sha256_roundWords)] = laidK := by kernel_rfl
theorem kz_get (t : Nat) (h : t < 64) : Kz.getD t 0 = ((Sh.K.getD t 0).toNat : Int) := by
 have hl : t < Sh.K.length := by rw [K_len]; exact h
 rw [Kz, List.getD_eq_getElem?_getD, List.getD_eq_getElem?_getD, List.getElem?_map, List.getElem?_eq_getElem hl]
 rfl
theorem kin_of_laid {W : World} (h : laidMetH Tryz.prog [("knapsack/sha256.roundWords", Rows.laid_knapsack_sha256_roundWords)] W) : KIn W := by
 rw [laid_is, MakeChecks.laidMetH_plain _ _ _ (by kernel_rfl)] at h
 have ht := Lib.tabIs_of_head gK tK Tryz.underlying211 Tryz.underlying57 cW cK h
 have hc : ∀ t, t < 64 → W.cell? ⟨1, t, none⟩ = some (.int .u32 ((Sh.K.getD t 0).toNat : Int)) := fun t hlt => by
  rw [← kz_get t hlt]
  exact ht.cell gK t (by rw [Kz, List.length_map, K_len]; exact hlt)
 refine ⟨?_, hc⟩
 by_cases h0 : 1 < W.heap.size
 · exact h0
 ·
  have := hc 0 (by decide)
  simp [World.cell?, Array.getElem?_eq_none (show W.heap.size ≤ 1 by omega)] at this
theorem door_met (os : Os) (args : Array Value) : laidMetH Tryz.prog [("knapsack/sha256.roundWords", Rows.laid_knapsack_sha256_roundWords)] ((World.doorLaid Tryz.prog 400 os).forCall (fun _ _ => 0) ⟨#[], args, []⟩).memory :=
 laidMetH_of_parts3 (fuel := 8) (laidMet_of_run' 8 (by kernel_rfl) (by kernel_rfl)) (by kernel_rfl) (by kernel_rfl)
end Go.Proofs.YtkcjhkfelaplkaaGreatDoor.S2
end
end
