/-
  WALKS OF LAYER 2: block (knapsackref02).
-/
import Derived.Test.YtipigedopmgemaaDoorS2a
import Derived.Deep.Cut
namespace Go.Proofs.YtipigedopmgemaaDoor.S2
open Go.RowKit
set_option linter.unusedVariables false
set_option linter.unusedSimpArgs false
open Sh (Wd)

theorem add_rc (a b c d : Wd) : a + b + c + d = a + c + b + d := by rw [BitVec.add_assoc a b c, BitVec.add_comm b c, ← BitVec.add_assoc]
theorem be4_shift (a b c d : UInt8) : (Sh.bw a <<< 24) + (Sh.bw b <<< 16) + (Sh.bw c <<< 8) + Sh.bw d = Sh.be4 a b c d := by
  have e : ∀ (x : UInt8) (n : Nat) (k : Wd), k.toNat = 2 ^ n → Sh.bw x <<< n = Sh.bw x * k := fun x n k hk => by
    apply BitVec.eq_of_toNat_eq
    rw [BitVec.toNat_shiftLeft, BitVec.toNat_mul, hk, Nat.shiftLeft_eq]
  rw [e a 24 16777216 (by decide), e b 16 65536 (by decide), e c 8 256 (by decide)]
  exact Sh.be4_mul a b c d
theorem b4_sum (x y z v : UInt8) : IntKind.u32.wrap (IntKind.u32.wrap (IntKind.u32.wrap (IntKind.u32.wrap (IntKind.u32.wrap (x.toNat : Int) * 16777216) + IntKind.u32.wrap (IntKind.u32.wrap (y.toNat : Int) * 65536)) + IntKind.u32.wrap (IntKind.u32.wrap (z.toNat : Int) * 256)) + IntKind.u32.wrap (v.toNat : Int)) = ((Sh.be4 x y z v).toNat : Int) := by
  simp only [wrap_bw]
  rw [w_shl (Sh.bw x) 24 |> fun h => (show IntKind.u32.wrap (((Sh.bw x).toNat : Int) * (16777216 : Int)) = _ from h), (show IntKind.u32.wrap (((Sh.bw y).toNat : Int) * (65536 : Int)) = _ from w_shl (Sh.bw y) 16), (show IntKind.u32.wrap (((Sh.bw z).toNat : Int) * (256 : Int)) = _ from w_shl (Sh.bw z) 8)]
  simp only [w_add, be4_shift]

theorem info39 : (Tryd.prog.info? 79).map (·.size) = some 8 := by kernel_rfl

theorem heap4 (w : World) (A B C D : Obj) : ((((w.alloc A).alloc B).alloc C).alloc D).heap[w.heap.size]? = some A ∧ ((((w.alloc A).alloc B).alloc C).alloc D).heap[w.heap.size + 1]? = some B ∧ ((((w.alloc A).alloc B).alloc C).alloc D).heap[w.heap.size + 1 + 1]? = some C ∧ ((((w.alloc A).alloc B).alloc C).alloc D).heap[w.heap.size + 1 + 1 + 1]? = some D := by
  have h3 := heap_alloc_new ((w.alloc A).alloc B) C
  rw [show ((w.alloc A).alloc B).heap.size = w.heap.size + 1 + 1 by simp] at h3
  have h4 := heap_alloc_new (((w.alloc A).alloc B).alloc C) D
  rw [show (((w.alloc A).alloc B).alloc C).heap.size = w.heap.size + 1 + 1 + 1 by simp] at h4
  refine ⟨?_, ?_, ?_, h4⟩
  · exact (Below.heap_alloc _ _ _ (by simp; omega)).trans ((Below.heap_alloc _ _ _ (by simp; omega)).trans (heap_alloc2_old _ _ _))
  · exact (Below.heap_alloc _ _ _ (by simp)).trans ((Below.heap_alloc _ _ _ (by simp)).trans (heap_alloc2_new _ _ _))
  · exact (Below.heap_alloc _ _ _ (by simp)).trans h3

/-- An array of zeros, built: its cells stay under a name. -/
theorem wpList_build_zero {P : Program} {ops : Array Oper} {rest : List Oper} {o : Oper} {a : Act} {w : World} {Q : Exit → Act → World → Prop} (hg : o.guard = none) (t : TypeId) (ho : o.op = .build t #[]) (cs : Array Value)
    (hb : P.built t [] = some cs) (h : ∀ zz, Hid (zz = cs) → wpList P ops Q rest (a.put o.dst (.agg zz)) w) : wpList P ops Q (o :: rest) a w := by
  refine wpList_build hg t #[] ho (by simp [hb]) ?_
  exact h _ (by simp [hb, Hid])
theorem built48 : Tryd.prog.built 80 [] = some (arr []) := by kernel_rfl

theorem after_four {w : World} {A B C D : Obj} {ds zz : Array Value} {t : TypeId} (hD : D = .cells ds t) : ∃ w1, w1 = ((((w.alloc A).alloc B).alloc C).alloc D).setRow (w.heap.size + 1 + 1 + 1) zz ∧
    w1.heap[w.heap.size]? = some A ∧ w1.heap[w.heap.size + 1]? = some B ∧ w1.heap[w.heap.size + 1 + 1]? = some C ∧ w1.heap[w.heap.size + 1 + 1 + 1]? = some (.cells zz t) ∧ Below w.heap.size w w1 ∧ w1.heap.size = w.heap.size + 1 + 1 + 1 + 1 := by
  obtain ⟨h1, h2, h3, h4⟩ := heap4 w A B C D
  subst hD
  refine ⟨_, rfl, ?_, ?_, ?_, setRow_heap _ _ _ _ _ _ h4, ?_, by simp⟩
  · rw [setRow_other _ _ _ _ (by omega)]; exact h1
  · rw [setRow_other _ _ _ _ (by omega)]; exact h2
  · rw [setRow_other _ _ _ _ (by omega)]; exact h3
  · exact below_setRow (((((Below.refl _ _).alloc (Nat.le_refl _) _).alloc (by simp) _).alloc (by simp; omega) _).alloc (by simp; omega) _) (by omega) _

/-- The state, its first i words added to. -/
def mixA (h s : Sh.St) (i : Nat) : Array Value := ((List.range 8).map fun j => Value.int .u32 ((if j < i then (Sh.plus h s).list.getD j 0 else s.list.getD j 0).toNat : Int)).toArray

theorem mixA_zero (h s : Sh.St) : mixA h s 0 = stA s := rfl
theorem mixA_all (h s : Sh.St) : mixA h s 8 = stA (Sh.plus h s) := rfl
theorem mixA_get (h s : Sh.St) (i : Nat) (hi : i < 8) : (mixA h s i)[i]? = some (.int .u32 ((s.list.getD i 0).toNat : Int)) := by
  rcases i with _ | _ | _ | _ | _ | _ | _ | _ | i
  all_goals first | rfl | omega
theorem mixA_set (h s : Sh.St) (i : Nat) (hi : i < 8) : (mixA h s i).setIfInBounds i (.int .u32 ((s.list.getD i 0 + h.list.getD i 0).toNat : Int)) = mixA h s (i + 1) := by
  have e : s.list.getD i 0 + h.list.getD i 0 = (Sh.plus h s).list.getD i 0 := by
    rw [BitVec.add_comm]
    rcases i with _ | _ | _ | _ | _ | _ | _ | _ | i
    all_goals first | rfl | omega
  rw [e]
  rcases i with _ | _ | _ | _ | _ | _ | _ | _ | i
  all_goals first | rfl | omega

theorem set8_held2 {w : World} {g : Nat} {t : TypeId} {z0 z1 z2 z3 z4 z5 z6 z7 : Value} (h : w.heap[g]? = some (.cells #[z0, z1, z2, z3, z4, z5, z6, z7] t)) (v0 v1 v2 v3 v4 v5 v6 v7 : Value) :
    (set8 w g v0 v1 v2 v3 v4 v5 v6 v7).drew.drew.heap[g]? = some (.cells #[v0, v1, v2, v3, v4, v5, v6, v7] t) := by
  rw [heap_drew, heap_drew]; exact set8_held h v0 v1 v2 v3 v4 v5 v6 v7
theorem set8_apart2 {w : World} {k g : Nat} {x : Option Obj} (h : w.heap[k]? = x) (hne : k ≠ g) (v0 v1 v2 v3 v4 v5 v6 v7 : Value) : (set8 w g v0 v1 v2 v3 v4 v5 v6 v7).drew.drew.heap[k]? = x := by
  rw [heap_drew, heap_drew]; exact set8_apart h hne v0 v1 v2 v3 v4 v5 v6 v7

set_option maxHeartbeats 3200000 in
set_option maxRecDepth 100000 in
theorem refblock_any (s : Sh.St) (b : ByteArray) (w : World) (hb : b.size = 64) :
    Calls Tryd.prog 32 #[.agg (stA s), .string b, .agg (arr Sh.K)] w fun r w' => r = .returned (.agg (stA (Sh.mix s b.data.toList))) ∧ Below w.heap.size w w' := by
  have hb64 : 64 ≤ b.size := by omega
  have HB := Lib.hid hb
  clear hb
  have HKC := Lib.hid (fun (t : Nat) (ht : t < 64) => arr_get Sh.K t (by rw [K_len]; omega))
  have H1 := Lib.hid (arr_one Sh.K)
  have hs := arr_size Sh.K (by decide)
  have HS := Lib.hid hs
  have HI : Hid ((Tryd.prog.info? 80).map (·.size) = some (arr Sh.K).size) := by rw [hs]; exact (zero_of_info info48).2
  clear hs
  generalize hka : arr Sh.K = ka at HKC H1 HS HI ⊢
  clear hka
  generalize hM : Sh.mix s b.data.toList = M
  have HM := Lib.hid hM
  clear hM
  obtain ⟨a0, b0, c0, d0, e0, f0, g0, h0⟩ := s
  have hi0 : (Tryd.prog.info? 80).map (·.size) = some (arr []).size := (zero_of_info info48).2
  have HI0 := Lib.hid hi0
  clear hi0
  unfold stA
  go_enter Tryd.func32, Tryd.ntmps32
  go_upto_region 1 with (fail)
  refine wp_region_list ?_
  refine wpList_build_zero rfl 80 rfl _ built48 ?_
  intro zz HZ
  have HIz : Hid ((Tryd.prog.info? 80).map (·.size) = some zz.size) := by rw [HZ.out]; exact HI0.out
  have H1z : Hid (zz.all (·.oneCell') = true) := by rw [HZ.out]; exact arr_one []
  have HSz : Hid (zz.size = 64) := by rw [HZ.out]; rfl
  go_wp2_with (refine wpList_store_row rfl 80 _ _ rfl (w.heap.size + 1 + 1 + 1) _ rfl rfl _ _ (heap4 w _ _ _ _).2.2.2 HIz.out (by rw [HSz.out]; rfl) H1z.out ?_)
  obtain ⟨w1, hw1, F0, F1, F2, F3, hb1, hz1⟩ := after_four (w := w) (zz := zz) rfl
  rw [← hw1]
  rw [HZ.out] at F3
  have E0 := Lib.hid F0
  have E1 := Lib.hid F1
  have E2 := Lib.hid F2
  have E3 := Lib.hid F3
  have hz2 : w.heap.size + 1 + 1 + 1 + 1 ≤ w1.heap.size := by omega
  clear hw1 F0 F1 F2 F3 hz1 HIz H1z HSz
  go_loopw [8] (fun i wr => ∃ t : Nat, t ≤ 16 ∧ i = .int .i64 t ∧ Hid (wr.heap[w.heap.size + 1 + 1 + 1]? = some (.cells (arr (Sh.wd b.data.toList t)) 80)) ∧ Hid (wr.heap[w.heap.size]? = w1.heap[w.heap.size]?) ∧ Hid (wr.heap[w.heap.size + 1]? = w1.heap[w.heap.size + 1]?) ∧ Hid (wr.heap[w.heap.size + 1 + 1]? = w1.heap[w.heap.size + 1 + 1]?) ∧ Below w.heap.size w wr ∧ Hid (wr.heap.size = w1.heap.size)) (fun i _ => 16 - (intOf i).toNat)
  case atStart => exact ⟨0, by omega, rfl, E3, rfl, rfl, rfl, hb1, rfl⟩
  case round =>
    obtain ⟨t, ht, rfl, HN, HR0, HR1, HR2, hbl, HZ2⟩ := hrel
    by_cases hlt : t < 16
    · have hc := (cell_of_row wr (w.heap.size + 1 + 1 + 1) t _ _ _ HN.out).trans (arr_rest _ t (by rw [Sh.wd_length]; omega) (by omega))
      have hf := frozen_of_row wr (w.heap.size + 1 + 1 + 1) t _ _ HN.out
      have hi1 : (4 * (t : Int)) < (b.size : Int) := by omega
      have hi2 : (4 * (t : Int) + 1) < (b.size : Int) := by omega
      have hi3 : (4 * (t : Int) + 2) < (b.size : Int) := by omega
      have hi4 : (4 * (t : Int) + 3) < (b.size : Int) := by omega
      have hw0 : IntKind.i64.wrap (4 * (t : Int)) = 4 * (t : Int) := IntWalk.i64_in _ (by omega)
      have hw1 : IntKind.i64.wrap (4 * (t : Int) + 1) = 4 * (t : Int) + 1 := IntWalk.i64_in _ (by omega)
      have hw2 : IntKind.i64.wrap (4 * (t : Int) + 2) = 4 * (t : Int) + 2 := IntWalk.i64_in _ (by omega)
      have hw3 : IntKind.i64.wrap (4 * (t : Int) + 3) = 4 * (t : Int) + 3 := IntWalk.i64_in _ (by omega)
      have hn0 : 0 ≤ 4 * (t : Int) := by omega
      have hn1 : 0 ≤ 4 * (t : Int) + 1 := by omega
      have hn2 : 0 ≤ 4 * (t : Int) + 2 := by omega
      have hn3 : 0 ≤ 4 * (t : Int) + 3 := by omega
      have ht0 : (4 * (t : Int)).toNat = 4 * t := by omega
      have ht1 : (4 * (t : Int) + 1).toNat = 4 * t + 1 := by omega
      have ht2 : (4 * (t : Int) + 2).toNat = 4 * t + 2 := by omega
      have ht3 : (4 * (t : Int) + 3).toNat = 4 * t + 3 := by omega
      have hlt' : (t : Int) < 16 := by omega
      have hlt2 : (t : Int) < 64 := by omega
      go_wp2
      refine region_tail 31 (by kernel_rfl) (by kernel_rfl) ?_
      simp only [List.take_succ_cons, List.take_zero, List.drop_succ_cons, List.drop_zero]
      repeat still_step
      refine wpStill_nil ?_
      rw [b4_sum]
      rw [← blk_eq b t (by omega)]
      have HV := Lib.hid (show Sh.wd b.data.toList (t + 1) = Sh.wd b.data.toList t ++ [Sh.blk b.data.toList t] by rw [Sh.wd, Sh.newW, if_pos hlt])
      generalize Sh.blk b.data.toList t = x at *
      go_wp2
      go_roundw
      case rel =>
        refine ⟨t + 1, by omega, by go_num, ?_, held_apart HR0.out _ _ _ (by omega), held_apart HR1.out _ _ _ (by omega), held_apart HR2.out _ _ _ (by omega), hbl.drew.setCell (by simp; omega) _, by have := HZ2.out; simpa [Hid] using this⟩
        rw [HV.out, ← arr_push _ _ (by rw [Sh.wd_length]; omega), Sh.wd_length]; exact held_set (wr := wr.drew) HN.out t _
      case measure => simp [intOf]; omega
    · have HT := Lib.hid (show t = 16 by omega)
      go_wp2
      go_loopw [9] (fun i wr => ∃ t : Nat, 16 ≤ t ∧ t ≤ 64 ∧ i = .int .i64 t ∧ Hid (wr.heap[w.heap.size + 1 + 1 + 1]? = some (.cells (arr (Sh.wd b.data.toList t)) 80)) ∧ Hid (wr.heap[w.heap.size]? = w1.heap[w.heap.size]?) ∧ Hid (wr.heap[w.heap.size + 1]? = w1.heap[w.heap.size + 1]?) ∧ Hid (wr.heap[w.heap.size + 1 + 1]? = w1.heap[w.heap.size + 1 + 1]?) ∧ Below w.heap.size w wr ∧ Hid (wr.heap.size = w1.heap.size)) (fun i _ => 64 - (intOf i).toNat)
      case atStart => exact ⟨16, by omega, by omega, rfl, by rw [HT.out] at HN; exact HN, HR0, HR1, HR2, hbl, HZ2⟩
      case round =>
        clear HN HR0 HR1 HR2 hbl HZ2 hlt ht HT
        obtain ⟨t, ht16, ht, rfl, HN, HR0, HR1, HR2, hbl, HZ2⟩ := hrel
        by_cases hlt : t < 64
        · have hl := Sh.wd_length b.data.toList t
          have hc := (cell_of_row wr (w.heap.size + 1 + 1 + 1) t _ _ _ HN.out).trans (arr_rest _ t (by rw [Sh.wd_length]; omega) (by omega))
          have hf := frozen_of_row wr (w.heap.size + 1 + 1 + 1) t _ _ HN.out
          have c15 := (cell_of_row wr (w.heap.size + 1 + 1 + 1) (t - 15) _ _ _ HN.out).trans (arr_get _ (t - 15) (by omega))
          have c2 := (cell_of_row wr (w.heap.size + 1 + 1 + 1) (t - 2) _ _ _ HN.out).trans (arr_get _ (t - 2) (by omega))
          have c16 := (cell_of_row wr (w.heap.size + 1 + 1 + 1) (t - 16) _ _ _ HN.out).trans (arr_get _ (t - 16) (by omega))
          have c7 := (cell_of_row wr (w.heap.size + 1 + 1 + 1) (t - 7) _ _ _ HN.out).trans (arr_get _ (t - 7) (by omega))
          have HV := Lib.hid (wd_next b.data.toList t ht16)
          have HX := Lib.hid (show Sh.nextW (Sh.wd b.data.toList t) t = (Sh.wd b.data.toList t).getD (t - 16) 0 + Sh.s0 ((Sh.wd b.data.toList t).getD (t - 15) 0) + (Sh.wd b.data.toList t).getD (t - 7) 0 + Sh.s1 ((Sh.wd b.data.toList t).getD (t - 2) 0) by rw [Sh.nextW, add_rc])
          clear hl
          generalize (Sh.wd b.data.toList t).getD (t - 16) 0 = x16 at c16 HX
          generalize (Sh.wd b.data.toList t).getD (t - 15) 0 = x15 at c15 HX
          generalize (Sh.wd b.data.toList t).getD (t - 7) 0 = x7 at c7 HX
          generalize (Sh.wd b.data.toList t).getD (t - 2) 0 = x2 at c2 HX
          generalize Sh.nextW (Sh.wd b.data.toList t) t = xn at HV HX
          have hw0 : IntKind.i64.wrap ((t : Int) - 16) = (t : Int) - 16 := IntWalk.i64_in _ (by omega)
          have hw1 : IntKind.i64.wrap ((t : Int) - 15) = (t : Int) - 15 := IntWalk.i64_in _ (by omega)
          have hw2 : IntKind.i64.wrap ((t : Int) - 7) = (t : Int) - 7 := IntWalk.i64_in _ (by omega)
          have hw3 : IntKind.i64.wrap ((t : Int) - 2) = (t : Int) - 2 := IntWalk.i64_in _ (by omega)
          have hn0 : 0 ≤ (t : Int) - 16 := by omega
          have hn1 : 0 ≤ (t : Int) - 15 := by omega
          have hn2 : 0 ≤ (t : Int) - 7 := by omega
          have hn3 : 0 ≤ (t : Int) - 2 := by omega
          have hm0 : (t : Int) - 16 < 64 := by omega
          have hm1 : (t : Int) - 15 < 64 := by omega
          have hm2 : (t : Int) - 7 < 64 := by omega
          have hm3 : (t : Int) - 2 < 64 := by omega
          have ht0 : ((t : Int) - 16).toNat = t - 16 := by omega
          have ht1 : ((t : Int) - 15).toNat = t - 15 := by omega
          have ht2 : ((t : Int) - 7).toNat = t - 7 := by omega
          have ht3 : ((t : Int) - 2).toNat = t - 2 := by omega
          have hlt' : (t : Int) < 64 := by omega
          have hq0 : (16 : Int) ≤ (t : Int) := by omega
          have hq1 : (15 : Int) ≤ (t : Int) := by omega
          have hq2 : (7 : Int) ≤ (t : Int) := by omega
          have hq3 : (2 : Int) ≤ (t : Int) := by omega
          go_wp2
          refine region_still (by kernel_rfl) (by kernel_rfl) ?_
          repeat still_step
          still_call (still_of (turn_any _ 7 _ (by decide) (by decide)))
          repeat still_step
          still_call (still_of (turn_any _ 18 _ (by decide) (by decide)))
          repeat still_step
          refine wpStill_nil ?_
          simp only [sh_r3, w_xor]
          rw [show (Sh.rr x15 7 ^^^ Sh.rr x15 18) ^^^ x15 >>> 3 = Sh.s0 x15 from rfl]
          generalize Sh.s0 x15 = y15 at HX ⊢
          go_wp2
          refine region_still (by kernel_rfl) (by kernel_rfl) ?_
          repeat still_step
          still_call (still_of (turn_any _ 17 _ (by decide) (by decide)))
          repeat still_step
          still_call (still_of (turn_any _ 19 _ (by decide) (by decide)))
          repeat still_step
          refine wpStill_nil ?_
          simp only [sh_r10, w_xor]
          rw [show (Sh.rr x2 17 ^^^ Sh.rr x2 19) ^^^ x2 >>> 10 = Sh.s1 x2 from rfl]
          generalize Sh.s1 x2 = y2 at HX ⊢
          go_wp2
          refine region_tail 15 (by kernel_rfl) (by kernel_rfl) ?_
          simp only [List.take_succ_cons, List.take_zero, List.drop_succ_cons, List.drop_zero]
          repeat still_step
          refine wpStill_nil ?_
          simp only [w_add, w_add']
          rw [← HX.out]
          go_wp2
          go_roundw
          case rel =>
            refine ⟨t + 1, by omega, by omega, by go_num, ?_, held_apart HR0.out _ _ _ (by omega), held_apart HR1.out _ _ _ (by omega), held_apart HR2.out _ _ _ (by omega), hbl.drew.drew.drew.setCell (by simp; omega) _, by have := HZ2.out; simpa [Hid] using this⟩
            rw [HV.out, ← arr_push _ _ (by rw [Sh.wd_length]; omega), Sh.wd_length]; exact held_set (wr := wr.drew.drew.drew) HN.out t _
          case measure => simp [intOf]; omega
        · have HT := Lib.hid (show t = 64 by omega)
          have hA : w.heap.size + 1 + 1 + 1 + 1 ≤ wr.heap.size := by rw [HZ2.out]; exact hz2
          have G0 := Lib.hid (HR0.out.trans E0.out)
          have G1 := Lib.hid (HR1.out.trans E1.out)
          have G2 := Lib.hid (HR2.out.trans E2.out)
          have G3 := Lib.hid (show wr.heap[w.heap.size + 1 + 1 + 1]? = some (.cells (arr (Sh.wd b.data.toList 64)) 80) by rw [← HT.out]; exact HN.out)
          have k0 := cell_of_row wr w.heap.size 0 _ _ _ G0.out
          have k1 := cell_of_row wr w.heap.size 1 _ _ _ G0.out
          have k2 := cell_of_row wr w.heap.size 2 _ _ _ G0.out
          have k3 := cell_of_row wr w.heap.size 3 _ _ _ G0.out
          have k4 := cell_of_row wr w.heap.size 4 _ _ _ G0.out
          have k5 := cell_of_row wr w.heap.size 5 _ _ _ G0.out
          have k6 := cell_of_row wr w.heap.size 6 _ _ _ G0.out
          have k7 := cell_of_row wr w.heap.size 7 _ _ _ G0.out
          clear HN HR0 HR1 HR2 HZ2 E0 E1 E2 E3 hz2 hb1
          go_wp2
          clear hlt ht ht16 HT k0 k1 k2 k3 k4 k5 k6 k7
          have GA := Lib.hid (heap_alloc_new wr (.cells (stA ⟨a0, b0, c0, d0, e0, f0, g0, h0⟩) 79))
          have I0 := Lib.hid ((Below.heap_alloc wr (.cells (stA ⟨a0, b0, c0, d0, e0, f0, g0, h0⟩) 79) _ (by omega)).trans G0.out)
          have I1 := Lib.hid ((Below.heap_alloc wr (.cells (stA ⟨a0, b0, c0, d0, e0, f0, g0, h0⟩) 79) _ (by omega)).trans G1.out)
          have I2 := Lib.hid ((Below.heap_alloc wr (.cells (stA ⟨a0, b0, c0, d0, e0, f0, g0, h0⟩) 79) _ (by omega)).trans G2.out)
          have I3 := Lib.hid ((Below.heap_alloc wr (.cells (stA ⟨a0, b0, c0, d0, e0, f0, g0, h0⟩) 79) _ (by omega)).trans G3.out)
          have hb2 : Below w.heap.size w (wr.alloc (.cells (stA ⟨a0, b0, c0, d0, e0, f0, g0, h0⟩) 79)) := hbl.alloc hbl.size _
          change Code.wp _ _ _ _ (wr.alloc (.cells (stA ⟨a0, b0, c0, d0, e0, f0, g0, h0⟩) 79))
          generalize wr.alloc (.cells (stA ⟨a0, b0, c0, d0, e0, f0, g0, h0⟩) 79) = w2 at GA I0 I1 I2 I3 hb2 ⊢
          generalize wr.heap.size = A at GA hA ⊢
          clear G0 G1 G2 G3 hbl
          go_loopw [13] (fun i wr => ∃ (t : Nat) (s : Sh.St), t ≤ 64 ∧ i = .int .i64 t ∧ Hid (Sh.rounds b.data.toList ⟨a0, b0, c0, d0, e0, f0, g0, h0⟩ t = s) ∧ Hid (wr.heap[A]? = some (.cells (stA s) 79)) ∧ Hid (wr.heap[w.heap.size]? = w2.heap[w.heap.size]?) ∧ Hid (wr.heap[w.heap.size + 1]? = w2.heap[w.heap.size + 1]?) ∧ Hid (wr.heap[w.heap.size + 1 + 1]? = w2.heap[w.heap.size + 1 + 1]?) ∧ Hid (wr.heap[w.heap.size + 1 + 1 + 1]? = w2.heap[w.heap.size + 1 + 1 + 1]?) ∧ Below w.heap.size w wr) (fun i _ => 64 - (intOf i).toNat)
          case atStart => exact ⟨0, _, by omega, rfl, rfl, GA, rfl, rfl, rfl, rfl, hb2⟩
          case round =>
            clear GA hb2
            obtain ⟨t, s, ht, rfl, HR, HA, J0, J1, J2, J3, hbr⟩ := hrel
            by_cases hlt : t < 64
            · have hck := (cell_of_row wr (w.heap.size + 1) t _ _ _ (J1.out.trans I1.out)).trans (HKC.out t hlt)
              have hcw := (cell_of_row wr (w.heap.size + 1 + 1 + 1) t _ _ _ (J3.out.trans I3.out)).trans (arr_get _ t (by rw [Sh.wd_length]; omega))
              have HN := Lib.hid (show Sh.rounds b.data.toList ⟨a0, b0, c0, d0, e0, f0, g0, h0⟩ (t + 1) = Sh.rnd s (Sh.K.getD t 0) ((Sh.wd b.data.toList 64).getD t 0) by rw [Sh.rounds, HR.out])
              generalize Sh.K.getD t 0 = kt at hck HN
              generalize (Sh.wd b.data.toList 64).getD t 0 = wt at hcw HN
              clear HR
              obtain ⟨a, b', c, d, e, f, g, h⟩ := s
              have k0 := cell_of_row wr A 0 _ _ _ HA.out
              have k1 := cell_of_row wr A 1 _ _ _ HA.out
              have k2 := cell_of_row wr A 2 _ _ _ HA.out
              have k3 := cell_of_row wr A 3 _ _ _ HA.out
              have k4 := cell_of_row wr A 4 _ _ _ HA.out
              have k5 := cell_of_row wr A 5 _ _ _ HA.out
              have k6 := cell_of_row wr A 6 _ _ _ HA.out
              have k7 := cell_of_row wr A 7 _ _ _ HA.out
              simp only [stA, List.getElem?_toArray, List.getElem?_cons_zero, List.getElem?_cons_succ] at k0 k1 k2 k3 k4 k5 k6 k7
              have y0 := frozen_of_row wr A 0 _ _ HA.out
              have y1 := frozen_of_row wr A 1 _ _ HA.out
              have y2 := frozen_of_row wr A 2 _ _ HA.out
              have y3 := frozen_of_row wr A 3 _ _ HA.out
              have y4 := frozen_of_row wr A 4 _ _ HA.out
              have y5 := frozen_of_row wr A 5 _ _ HA.out
              have y6 := frozen_of_row wr A 6 _ _ HA.out
              have y7 := frozen_of_row wr A 7 _ _ HA.out
              have hlt' : (t : Int) < 64 := by omega
              go_wp2
              refine region_still (by kernel_rfl) (by kernel_rfl) ?_
              repeat still_step
              still_call (still_of (turn_any _ 6 _ (by decide) (by decide)))
              repeat still_step
              still_call (still_of (turn_any _ 11 _ (by decide) (by decide)))
              repeat still_step
              still_call (still_of (turn_any _ 25 _ (by decide) (by decide)))
              repeat still_step
              refine wpStill_nil ?_
              simp only [w_xor, w_and, w_not, w_not', w_not2, w_add, w_add']
              rw [show h + (Sh.rr e 6 ^^^ Sh.rr e 11 ^^^ Sh.rr e 25) + (e &&& f ^^^ ~~~e &&& g) + kt + wt = Sh.xs ⟨a, b', c, d, e, f, g, h⟩ kt wt from rfl]
              have HNa := Lib.hid (show Sh.rnd ⟨a, b', c, d, e, f, g, h⟩ kt wt = ⟨Sh.xs ⟨a, b', c, d, e, f, g, h⟩ kt wt + Sh.ys ⟨a, b', c, d, e, f, g, h⟩, a, b', c, d + Sh.xs ⟨a, b', c, d, e, f, g, h⟩ kt wt, e, f, g⟩ from rfl)
              generalize Sh.xs ⟨a, b', c, d, e, f, g, h⟩ kt wt = x at HNa ⊢
              go_wp2
              refine region_still (by kernel_rfl) (by kernel_rfl) ?_
              repeat still_step
              still_call (still_of (turn_any _ 2 _ (by decide) (by decide)))
              repeat still_step
              still_call (still_of (turn_any _ 13 _ (by decide) (by decide)))
              repeat still_step
              still_call (still_of (turn_any _ 22 _ (by decide) (by decide)))
              repeat still_step
              refine wpStill_nil ?_
              simp only [w_xor, w_and, w_add, w_add']
              rw [show (Sh.rr a 2 ^^^ Sh.rr a 13 ^^^ Sh.rr a 22) + (a &&& b' ^^^ a &&& c ^^^ b' &&& c) = Sh.ys ⟨a, b', c, d, e, f, g, h⟩ from rfl]
              generalize Sh.ys ⟨a, b', c, d, e, f, g, h⟩ = y at HNa ⊢
              have HN2 := Lib.hid (HN.out.trans HNa.out)
              clear HN HNa
              go_wp2
              simp only [w_add']
              go_roundw
              case rel =>
                refine ⟨t + 1, ⟨x + y, a, b', c, d + x, e, f, g⟩, by omega, by go_num, HN2, ?_, ?_, ?_, ?_, ?_, ?_⟩
                · exact set8_held2 HA.out _ _ _ _ _ _ _ _
                · exact set8_apart2 J0.out (by omega) _ _ _ _ _ _ _ _
                · exact set8_apart2 J1.out (by omega) _ _ _ _ _ _ _ _
                · exact set8_apart2 J2.out (by omega) _ _ _ _ _ _ _ _
                · exact set8_apart2 J3.out (by omega) _ _ _ _ _ _ _ _
                · exact (set8_below hbr (by omega) _ _ _ _ _ _ _ _).drew.drew
              case measure => simp [intOf]; omega
            · have HT := Lib.hid (show t = 64 by omega)
              have HP := Lib.hid (show Sh.plus ⟨a0, b0, c0, d0, e0, f0, g0, h0⟩ s = M by rw [← HM.out, Sh.mix, ← HR.out, HT.out])
              go_wp2
              rw [← mixA_zero ⟨a0, b0, c0, d0, e0, f0, g0, h0⟩ s] at HA
              have HSo := Lib.hid (show some (Obj.cells (stA ⟨a0, b0, c0, d0, e0, f0, g0, h0⟩) 79) = w2.heap[w.heap.size]? from I0.out.symm)
              go_loopw [16] (fun i wr => ∃ (j : Nat), j ≤ 8 ∧ i = .int .i64 j ∧ Hid (wr.heap[A]? = some (.cells (mixA ⟨a0, b0, c0, d0, e0, f0, g0, h0⟩ s j) 79)) ∧ Hid (wr.heap[w.heap.size]? = w2.heap[w.heap.size]?) ∧ Hid (wr.heap[w.heap.size + 1 + 1]? = w2.heap[w.heap.size + 1 + 1]?) ∧ Below w.heap.size w wr) (fun i _ => 8 - (intOf i).toNat)
              case atStart => exact ⟨0, by omega, rfl, HA, J0, J2, hbr⟩
              case round =>
                clear HA J0 J1 J2 J3 hbr hlt ht HT
                obtain ⟨j, hj, rfl, HA, J0, J2, hbr⟩ := hrel
                by_cases hlt : j < 8
                · have ca := (cell_of_row wr A j _ _ _ HA.out).trans (mixA_get _ _ j hlt)
                  have ch := (cell_of_row wr w.heap.size j _ _ _ (J0.out.trans I0.out)).trans (stA_get ⟨a0, b0, c0, d0, e0, f0, g0, h0⟩ j hlt)
                  have cf := frozen_of_row wr A j _ _ HA.out
                  have HV := Lib.hid (mixA_set ⟨a0, b0, c0, d0, e0, f0, g0, h0⟩ s j hlt)
                  generalize s.list.getD j 0 = sx at ca HV
                  generalize (Sh.St.list ⟨a0, b0, c0, d0, e0, f0, g0, h0⟩).getD j 0 = hx at ch HV
                  have hlt' : (j : Int) < 8 := by omega
                  go_wp2
                  refine region_tail 9 (by kernel_rfl) (by kernel_rfl) ?_
                  simp only [List.take_succ_cons, List.take_zero, List.drop_succ_cons, List.drop_zero]
                  repeat still_step
                  refine wpStill_nil ?_
                  simp only [w_add, w_add']
                  generalize hsh : sx + hx = z at HV ⊢
                  clear hsh
                  go_wp2
                  go_roundw
                  case rel =>
                    refine ⟨j + 1, by omega, by go_num, ?_, held_apart J0.out _ _ _ (by omega), held_apart J2.out _ _ _ (by omega), hbr.drew.setCell (by simp; omega) _⟩
                    rw [← HV.out]; exact held_set (wr := wr.drew) HA.out j _
                  case measure => simp [intOf]; omega
                · have HTT := Lib.hid (show j = 8 by omega)
                  rw [HTT.out, mixA_all, HP.out] at HA
                  have K2 := Lib.hid (J2.out.trans I2.out)
                  have k0 := cell_of_row wr A 0 _ _ _ HA.out
                  have k1 := cell_of_row wr A 1 _ _ _ HA.out
                  have k2 := cell_of_row wr A 2 _ _ _ HA.out
                  have k3 := cell_of_row wr A 3 _ _ _ HA.out
                  have k4 := cell_of_row wr A 4 _ _ _ HA.out
                  have k5 := cell_of_row wr A 5 _ _ _ HA.out
                  have k6 := cell_of_row wr A 6 _ _ _ HA.out
                  have k7 := cell_of_row wr A 7 _ _ _ HA.out
                  simp only [stA, List.getElem?_toArray, List.getElem?_cons_zero, List.getElem?_cons_succ] at k0 k1 k2 k3 k4 k5 k6 k7
                  have z0 := cell_of_row wr (w.heap.size + 1 + 1) 0 _ _ _ K2.out
                  have z1 := cell_of_row wr (w.heap.size + 1 + 1) 1 _ _ _ K2.out
                  have z2 := cell_of_row wr (w.heap.size + 1 + 1) 2 _ _ _ K2.out
                  have z3 := cell_of_row wr (w.heap.size + 1 + 1) 3 _ _ _ K2.out
                  have z4 := cell_of_row wr (w.heap.size + 1 + 1) 4 _ _ _ K2.out
                  have z5 := cell_of_row wr (w.heap.size + 1 + 1) 5 _ _ _ K2.out
                  have z6 := cell_of_row wr (w.heap.size + 1 + 1) 6 _ _ _ K2.out
                  have z7 := cell_of_row wr (w.heap.size + 1 + 1) 7 _ _ _ K2.out
                  have y0 := frozen_of_row wr (w.heap.size + 1 + 1) 0 _ _ K2.out
                  have y1 := frozen_of_row wr (w.heap.size + 1 + 1) 1 _ _ K2.out
                  have y2 := frozen_of_row wr (w.heap.size + 1 + 1) 2 _ _ K2.out
                  have y3 := frozen_of_row wr (w.heap.size + 1 + 1) 3 _ _ K2.out
                  have y4 := frozen_of_row wr (w.heap.size + 1 + 1) 4 _ _ K2.out
                  have y5 := frozen_of_row wr (w.heap.size + 1 + 1) 5 _ _ K2.out
                  have y6 := frozen_of_row wr (w.heap.size + 1 + 1) 6 _ _ K2.out
                  have y7 := frozen_of_row wr (w.heap.size + 1 + 1) 7 _ _ K2.out
                  go_wp2
                  refine bodyPost_ret (v := .agg (stA M)) ?_ rfl ⟨rfl, set8_below hbr (by omega) _ _ _ _ _ _ _ _⟩
                  exact results_cell_row (by rfl) _ _ (w.heap.size + 1 + 1) _ _ _ _ (by rfl) (set8_held K2.out _ _ _ _ _ _ _ _) Tryd.underlying79 rfl info39

end Go.Proofs.YtipigedopmgemaaDoor.S2
