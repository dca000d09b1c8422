/-
  WALKS OF LAYER 2: k and Sum (knapsackref02).
-/
import Derived.Test.YtijlmeodfmanmaaDoorWalksG
import Derived.Test.YtijlmeodfmanmaaDoorWalksF
import Derived.Test.YtijlmeodfmanmaaDoorWalksD
import Derived.Deep.Cut
namespace Go.Proofs.YtijlmeodfmanmaaDoor
open Go.RowKit
set_option linter.unusedVariables false
set_option linter.unusedSimpArgs false
open Sh (Wd)

/-- An aggregate, built: its cells under a name. -/
theorem wpList_build_as {P : Program} {ops : Array Oper} {rest : List Oper} {o : Oper} {a : Act} {w : World} {Q : Exit → Act → World → Prop} (hg : o.guard = none) (t : TypeId) (parts : Array (Nat × Operand)) (ho : o.op = .build t parts) (cs : Array Value)
    (hb : P.built t (parts.map fun (i, x) => (i, a.eval x)).toList = some cs) (h : wpList P ops Q rest (a.put o.dst (.agg cs)) w) : wpList P ops Q (o :: rest) a w := by
  refine wpList_build hg t parts ho (by rw [hb]; rfl) ?_
  rw [hb]
  exact h

set_option maxRecDepth 100000 in
theorem refk_any (w : World) : Calls Tryd.prog 20 #[] w fun r w' => r = .returned (.agg (arr Sh.K)) ∧ Below w.heap.size w w' := by
  have HK1 := Lib.hid (arr_one Sh.K)
  have HI : Hid ((Tryd.prog.info? 48).map (·.size) = some (arr Sh.K).size) := by rw [arr_size Sh.K (by decide)]; exact (zero_of_info info48).2
  have HS := Lib.hid (arr_size Sh.K (by decide))
  go_enter Tryd.func20, Tryd.ntmps20
  go_upto_region 1 with (fail)
  refine wp_region_list ?_
  refine wpList_build_as rfl 48 _ rfl (arr Sh.K) (by kernel_rfl) ?_
  generalize hka : arr Sh.K = ka at HK1 HI HS ⊢
  have HKA := Lib.hid hka
  clear hka
  go_wp2_with (refine wpList_store_row rfl 48 _ _ rfl w.heap.size _ rfl rfl _ _ (heap_alloc_new _ _) HI.out (by rw [HS.out]; rfl) HK1.out ?_)
  refine bodyPost_ret (v := .agg ka) ?_ rfl ⟨by rw [HKA.out], below_setRow ((Below.refl _ _).alloc (Nat.le_refl _) _) (Nat.le_refl _) _⟩
  exact results_cell_row (by rfl) _ _ w.heap.size _ _ _ _ (by rfl) (setRow_heap _ _ _ _ _ _ (heap_alloc_new _ _)) Tryd.underlying48 rfl HI.out

/-- 'string([]byte{x})': the row that was just laid, as a string. -/
theorem conv_one (w : World) (b : UInt8) (x : Int) (h : x = (b.toNat : Int)) : (convert 46 9 (.slice (some ⟨w.heap.size, 0, none⟩) 1 1)).run Tryd.prog (w.alloc (.cells #[.int .u8 x] 5)) = .ok (.string ⟨#[b]⟩) (w.alloc (.cells #[.int .u8 x] 5)) := by
  subst h
  exact run_convert_bytes_back (P := Tryd.prog) (w.alloc (.cells #[.int .u8 (b.toNat : Int)] 5)) 46 9 5 ⟨w.heap.size, 0, none⟩ 1 [b] Tryd.underlying46 Tryd.underlying5 Tryd.underlying9 (fun j hj => by
    have hj0 : j = 0 := by simpa using hj
    subst hj0
    exact cell_one_new w _ 5 0 _ rfl)
theorem app_data (a : ByteArray) (b : UInt8) : (a ++ ByteArray.mk #[b]).data.toList = a.data.toList ++ [b] := by
  rw [ByteArray.data_append]; simp
theorem be8_down (n j : Nat) (hj : j < 8) : ((n : Int) / 2 ^ (8 * (7 - j))) % 256 = ((Sh.be8 n j).toNat : Int) := by
  rw [show 8 * (7 - j) = 56 - 8 * j by omega]; exact be8_eq n j hj

theorem extract_mid (a : ByteArray) (i : Nat) (h : i + 64 ≤ a.size) : (a.extract i (i + 64)).data.toList = (a.data.toList.drop i).take 64 := by
  simp only [ByteArray.data_extract, Array.toList_extract, List.extract_eq_take_drop]
  rw [Nat.add_sub_cancel_left]
theorem loadAt_row {P : Program} (w : World) (g : Nat) (t ty : TypeId) (cs : Array Value) (d : TypeDesc) (hg : w.heap[g]? = some (.cells cs t))
    (hu : P.underlying ty = some d) (hd : (match d with | .struct _ | .array _ _ => true | _ => false) = true) (hi : (P.info? ty).map (·.size) = some cs.size) :
    (Instr.loadAt ty (.pointer (some ⟨g, 0, none⟩))).run P w = .ok (.agg cs) w := by
  simp only [Instr.loadAt, Instr.sureAddr, Sem.run_bind, Sem.run_pure, Result.andThen]
  exact run_loadVar_row w g t ty cs _ d hg hu hd hi

theorem wpStill_load_row {P : Program} {ops : Array Oper} {w : World} {Q : Act → Prop} {a : Act} {o : Oper} {rest : List Oper} {cs : Array Value} (hw : Region.wanted o (yielded ops a.tmps) = true) (ty : TypeId) (x : Operand) (ho : o.op = .load ty x)
    (g : Nat) (hx : a.eval x = .pointer (some ⟨g, 0, none⟩)) (hld : (Instr.loadAt ty (.pointer (some ⟨g, 0, none⟩))).run P w = .ok (.agg cs) w) (h : wpStill P ops w Q rest (a.put o.dst (.agg cs))) : wpStill P ops w Q (o :: rest) a := by
  refine wpStill_step fun K hK => ?_
  rw [if_pos hw]
  unfold Oper.still execOp
  simp only [ho, hx, Sem.run_bind, hld, Result.andThen_ok, Sem.run_pure]
  exact ⟨rfl, hK _ h⟩

set_option maxHeartbeats 3200000 in
set_option maxRecDepth 100000 in
theorem refsum_any (text : ByteArray) (w : World) (hl : text.size ≤ 70368744177664) :
    Calls Tryd.prog 8 #[.string text] w fun r w' => r = .returned (.agg (idA (Sh.idOf (Sh.sha text.data.toList)))) ∧ Below w.heap.size w w' := by
  generalize hM : Sh.idOf (Sh.sha text.data.toList) = M
  have HM := Lib.hid hM
  clear hM
  have HL := Lib.hid (len_data text)
  have hwu : IntKind.u64.wrap (text.size : Int) = (text.size : Int) := by
    simp [IntKind.wrap, IntKind.bits, IntKind.signed]; omega
  have hwu8 : IntKind.u64.wrap ((text.size : Int) * 8) = (text.size : Int) * 8 := by
    simp [IntKind.wrap, IntKind.bits, IntKind.signed]; omega
  go_enter Tryd.func8, Tryd.ntmps8
  go_upto_region 2 with (fail)
  change Code.wp _ _ _ _ (w.alloc (.cells (idA []) 24))
  have E0 := Lib.hid (heap_alloc_new w (.cells (idA []) 24))
  have hb1 : Below w.heap.size w (w.alloc (.cells (idA []) 24)) := (Below.refl _ _).alloc (Nat.le_refl _) _
  have hs1 : w.heap.size + 1 ≤ (w.alloc (.cells (idA []) 24)).heap.size := by simp
  generalize w.alloc (.cells (idA []) 24) = w1 at E0 hb1 hs1 ⊢
  have hcv0 := conv_one w1 128 128 rfl
  have HZ0 := Lib.hid (show (text ++ ByteArray.mk #[128]).data.toList = zs text.data.toList 0 by rw [app_data, zs_zero])
  go_wp2
  clear hcv0
  have F0 := Lib.hid ((Below.heap_alloc w1 (.cells #[.int .u8 128] 5) w.heap.size (by omega)).trans E0.out)
  have hb2 := hb1.alloc (by omega) (.cells #[.int .u8 128] 5)
  have hs2 : w.heap.size + 1 ≤ (w1.alloc (.cells #[.int .u8 128] 5)).heap.size := by simp; omega
  generalize w1.alloc (.cells #[.int .u8 128] 5) = w2 at F0 hb2 hs2 ⊢
  clear E0 hb1 hs1
  generalize text ++ ByteArray.mk #[128] = a0 at HZ0 ⊢
  generalize hll : text.data.toList = l at HZ0 HM HL
  clear hll
  have hgl := gap_lt (l.length + 1)
  have HLL := Lib.hid (show l.length = text.size from HL.out)
  have hl2 : l.length ≤ 70368744177664 := by rw [HL.out]; exact hl
  go_loopw [4] (fun v wr => ∃ (k : Nat) (a : ByteArray), v = .string a ∧ Hid (a.data.toList = zs l k) ∧ k ≤ Sh.gap (l.length + 1) ∧ Hid (wr.heap[w.heap.size]? = some (.cells (idA []) 24)) ∧ Below w.heap.size w wr ∧ w.heap.size + 1 ≤ wr.heap.size) (fun v _ => l.length + 1 + 64 - strLen v)
  case atStart => exact ⟨0, a0, rfl, HZ0, Nat.zero_le _, F0, hb2, hs2⟩
  case round =>
    clear HZ0 F0 hb2 hs2
    obtain ⟨k, a, rfl, HA, hk, F0, hb2, hs2⟩ := hrel
    have hsz : a.size = l.length + 1 + k := by rw [← len_data, HA.out, zs_len]
    have HSZ := Lib.hid hsz
    have hs3 : a.size ≤ 140737488355328 := by omega
    by_cases h56 : (l.length + 1 + k) % 64 = 56
    · have hk' := gap_end _ _ hk h56
      have hd : ((a.size : Int) % 64 != 56) = false := by simp; omega
      have HE := Lib.hid (show a.data.toList = es l (8 * text.size) 0 by rw [HA.out, es_zero, hk'])
      clear hk' h56 hsz HA HSZ
      go_wp2
      go_loopw [4, 5] (fun v i wr => ∃ (j : Nat) (a : ByteArray), v = .string a ∧ i = .int .i64 (7 - (j : Int)) ∧ Hid (a.data.toList = es l (8 * text.size) j) ∧ j ≤ 8 ∧ Hid (wr.heap[w.heap.size]? = some (.cells (idA []) 24)) ∧ Below w.heap.size w wr ∧ w.heap.size + 1 ≤ wr.heap.size) (fun _ i _ => (intOf i + 1).toNat)
      case atStart => exact ⟨0, a, rfl, rfl, HE, by omega, F0, hb2, hs2⟩
      case round =>
        clear HE F0 hb2 hs2 hs3 hd
        obtain ⟨j, a, rfl, rfl, HE, hj, F0, hb2, hs2⟩ := hrel
        have hsz : a.size = l.length + 1 + Sh.gap (l.length + 1) + j := by rw [← len_data, HE.out, es_len]
        have hs3 : a.size ≤ 140737488355328 := by omega
        by_cases hlt : j < 8
        · have hb8 : (text.size : Int) * 8 / 2 ^ (8 * (7 - j)) % 256 = ((Sh.be8 (8 * text.size) j).toNat : Int) := by
            have := be8_down (8 * text.size) j hlt
            rw [← this, Int.mul_comm]; simp
          have hcv := conv_one wr (Sh.be8 (8 * text.size) j) _ hb8
          have HB8 := Lib.hid hb8
          clear hb8
          have HA2 := Lib.hid (show (a ++ ByteArray.mk #[Sh.be8 (8 * text.size) j]).data.toList = es l (8 * text.size) (j + 1) by rw [app_data, HE.out, es_succ])
          generalize Sh.be8 (8 * text.size) j = bj at hcv HA2 HB8
          have hq0 : 0 ≤ 7 - (j : Int) := by omega
          have hq1 : IntKind.u64.wrap (8 * (7 - (j : Int))) = ((8 * (7 - j) : Nat) : Int) := by
            simp [IntKind.wrap, IntKind.bits, IntKind.signed]; omega
          clear hsz
          go_wp2
          refine ⟨⟨j + 1, a ++ ByteArray.mk #[bj], rfl, ?_, HA2, by omega, (Below.heap_alloc _ _ _ (by omega)).trans F0.out, hb2.alloc (by omega) _, by simp; omega⟩, by simp [intOf]; omega⟩
          rw [show (7 : Int) - (j : Int) - 1 = 7 - ((j + 1 : Nat) : Int) by omega]
        · have hj8 : j = 8 := by omega
          have HMsg := Lib.hid (show a.data.toList = Sh.ending l l.length by rw [HE.out, hj8, HL.out, es_all])
          have HSz := Lib.hid (show a.size = 64 * Sh.blocks l.length by rw [Sh.blocks_mul, hsz, hj8]; omega)
          have hneg : 7 - (j : Int) < 0 := by omega
          clear hsz hj8 HE
          have hkk := fun wz => refk_any wz
          have HKK := Lib.hid hkk
          have HKC := Lib.hid (fun (t : Nat) (ht : t < 64) => arr_get Sh.K t (by rw [K_len]; omega))
          have HK1 := Lib.hid (arr_one Sh.K)
          have HI : Hid ((Tryd.prog.info? 48).map (·.size) = some (arr Sh.K).size) := by rw [arr_size Sh.K (by decide)]; exact (zero_of_info info48).2
          have HSK := Lib.hid (arr_size Sh.K (by decide))
          have HBL := Lib.hid (fun s b wz hb => refblock_any s b wz hb)
          generalize arr Sh.K = ka at HKK HKC HK1 HI HSK HBL
          clear hkk
          go_wp2_with fail
          refine (HKK.out _).mono ?_
          rintro r w3 ⟨rfl, hb3⟩
          go_wp2_with (refine wpList_store_row rfl 48 _ _ rfl w3.heap.size _ rfl rfl _ _ (heap_alloc_new _ _) HI.out (by rw [HSK.out]; rfl) HK1.out ?_)
          rw [World.setRow_alloc_new]
          have hs3 : wr.heap.size + 1 ≤ w3.heap.size := by have := hb3.size; simpa using this
          have G1 : Hid ((w3.alloc (.cells ka 48)).heap[wr.heap.size]? = some (.cells (stA Sh.start) 39)) := by
            rw [stA_start]; exact (Below.heap_alloc _ _ _ (by omega)).trans ((hb3.block _ (by simp)).trans (heap_alloc_new _ _))
          have G2 := Lib.hid (heap_alloc_new w3 (.cells ka 48))
          have G3 : Hid ((w3.alloc (.cells ka 48)).heap[w.heap.size]? = some (.cells (idA []) 24)) :=
            (Below.heap_alloc _ _ _ (by omega)).trans ((hb3.block _ (by simp; omega)).trans ((Below.heap_alloc _ _ _ (by omega)).trans F0.out))
          have hb4 : Below w.heap.size w (w3.alloc (.cells ka 48)) := ((hb2.alloc (by omega) _).trans (hb3.mono (by simp; omega))).alloc (by omega) _
          have hs4 : w3.heap.size + 1 ≤ (w3.alloc (.cells ka 48)).heap.size := by simp
          generalize w3.alloc (.cells ka 48) = w4 at G1 G2 G3 hb4 hs4 ⊢
          clear hb3
          generalize w3.heap.size = C at G2 hs3 hs4 ⊢
          generalize hH : wr.heap.size = H at G1 hs2 hs3 ⊢
          clear hH hb2 F0 HKK HK1
          go_loopw [8] (fun i wr => ∃ (k i0 : Nat) (s : Sh.St), i = .int .i64 (i0 : Int) ∧ Hid (i0 = 64 * k) ∧ k ≤ Sh.blocks l.length ∧ Hid (Sh.proc k Sh.start a.data.toList = s) ∧ Hid (wr.heap[H]? = some (.cells (stA s) 39)) ∧ Hid (wr.heap[C]? = some (.cells ka 48)) ∧ Hid (wr.heap[w.heap.size]? = some (.cells (idA []) 24)) ∧ Below w.heap.size w wr ∧ C + 1 ≤ wr.heap.size) (fun i _ => 64 * Sh.blocks l.length - (intOf i).toNat)
          case atStart => exact ⟨0, 0, _, rfl, rfl, Nat.zero_le _, rfl, G1, G2, G3, hb4, hs4⟩
          case round =>
            clear G1 G2 G3 hb4 hs4
            obtain ⟨k, i0, s, rfl, HI0, hk, HP, G1, G2, G3, hb4, hs4⟩ := hrel
            by_cases hlt : k < Sh.blocks l.length
            · have hi1 : i0 + 64 ≤ a.size := by rw [HI0.out, HSz.out]; omega
              have hi2 : (i0 : Int) + 64 ≤ (a.size : Int) := by omega
              have hi3 : a.size ≤ 140737488355328 + 64 := by omega
              have hw1 : IntKind.i64.wrap ((i0 : Int) + 64) = (i0 : Int) + 64 := IntWalk.i64_in _ (by omega)
              have hw2 : ((i0 : Int) + 64).toNat = i0 + 64 := by omega
              have hw3 : 0 ≤ (i0 : Int) + 64 := by omega
              have hw4 : (i0 : Int) ≤ (i0 : Int) + 64 := by omega
              have HLD := Lib.hid <| loadAt_row (P := Tryd.prog) wr.drew C 48 48 ka _ G2.out Tryd.underlying48 rfl HI.out
              have k0 := cell_of_row wr H 0 _ _ _ G1.out
              have k1 := cell_of_row wr H 1 _ _ _ G1.out
              have k2 := cell_of_row wr H 2 _ _ _ G1.out
              have k3 := cell_of_row wr H 3 _ _ _ G1.out
              have k4 := cell_of_row wr H 4 _ _ _ G1.out
              have k5 := cell_of_row wr H 5 _ _ _ G1.out
              have k6 := cell_of_row wr H 6 _ _ _ G1.out
              have k7 := cell_of_row wr H 7 _ _ _ G1.out
              simp only [stA, List.getElem?_toArray, List.getElem?_cons_zero, List.getElem?_cons_succ] at k0 k1 k2 k3 k4 k5 k6 k7
              go_wp2
              refine region_tail 7 (by kernel_rfl) (by kernel_rfl) ?_
              simp only [List.take_succ_cons, List.take_zero, List.drop_succ_cons, List.drop_zero]
              repeat still_step
              refine wpStill_load_row (by rfl) _ _ (by rfl) C (by rfl) HLD.out ?_
              refine wpStill_nil ?_
              clear HLD
              go_wp2_with fail
              refine (HBL.out s (a.extract i0 (i0 + 64)) wr.drew (by simp; omega)).mono ?_
              have hx : (a.extract i0 (i0 + 64)).data.toList = (a.data.toList.drop (64 * k)).take 64 := by rw [extract_mid a i0 hi1, HI0.out]
              rw [hx]
              clear hx
              have HP2 := Lib.hid (show Sh.proc (k + 1) Sh.start a.data.toList = Sh.mix s ((a.data.toList.drop (64 * k)).take 64) by rw [Sh.proc_succ, HP.out])
              generalize Sh.mix s ((a.data.toList.drop (64 * k)).take 64) = s' at HP2 ⊢
              rintro r w6 ⟨rfl, hb6⟩
              have hs6 : wr.heap.size ≤ w6.heap.size := hb6.size
              have G6 := Lib.hid ((hb6.block H (by simp; omega)).trans G1.out)
              have G7 := Lib.hid ((hb6.block C (by simp; omega)).trans G2.out)
              have G8 := Lib.hid ((hb6.block w.heap.size (by simp; omega)).trans G3.out)
              have hb7 : Below w.heap.size w w6 := hb4.drew.trans (hb6.mono (by simp; omega))
              clear hb6 k0 k1 k2 k3 k4 k5 k6 k7
              simp only [stA]
              have z0 := cell_of_row w6 H 0 _ _ _ G6.out
              have z1 := cell_of_row w6 H 1 _ _ _ G6.out
              have z2 := cell_of_row w6 H 2 _ _ _ G6.out
              have z3 := cell_of_row w6 H 3 _ _ _ G6.out
              have z4 := cell_of_row w6 H 4 _ _ _ G6.out
              have z5 := cell_of_row w6 H 5 _ _ _ G6.out
              have z6 := cell_of_row w6 H 6 _ _ _ G6.out
              have z7 := cell_of_row w6 H 7 _ _ _ G6.out
              have y0 := frozen_of_row w6 H 0 _ _ G6.out
              have y1 := frozen_of_row w6 H 1 _ _ G6.out
              have y2 := frozen_of_row w6 H 2 _ _ G6.out
              have y3 := frozen_of_row w6 H 3 _ _ G6.out
              have y4 := frozen_of_row w6 H 4 _ _ G6.out
              have y5 := frozen_of_row w6 H 5 _ _ G6.out
              have y6 := frozen_of_row w6 H 6 _ _ G6.out
              have y7 := frozen_of_row w6 H 7 _ _ G6.out
              simp only [stA, List.getElem?_toArray, List.getElem?_cons_zero, List.getElem?_cons_succ] at z0 z1 z2 z3 z4 z5 z6 z7
              go_wp2
              go_roundw
              case rel => exact ⟨k + 1, i0 + 64, s', by go_num, by rw [HI0.out]; exact (Nat.mul_succ 64 k).symm, by omega, HP2, set8_held G6.out _ _ _ _ _ _ _ _, set8_apart G7.out (by omega) _ _ _ _ _ _ _ _, set8_apart G8.out (by omega) _ _ _ _ _ _ _ _, set8_below hb7 (by omega) _ _ _ _ _ _ _ _, by simp; omega⟩
              case measure =>
                have := HI0.out
                simp [intOf]; omega
            · have HT := Lib.hid (show k = Sh.blocks l.length by omega)
              have hi2 : ¬ ((i0 : Int) + 64 ≤ (a.size : Int)) := by have h1 := HI0.out; have h2 := HSz.out; have h3 := HT.out; omega
              have hi3 : i0 ≤ 140737488355328 + 64 := by have h1 := HI0.out; have h2 := HSz.out; have h3 := HT.out; omega
              have HF := Lib.hid (show Sh.idOf s = M by rw [← HM.out, Sh.sha, ← HP.out, HT.out, HMsg.out])
              go_upto_region 15 with (fail)
              refine wp_region_list ?_
              refine wpList_build_zero rfl 24 rfl (idA []) (by kernel_rfl) ?_
              intro zz HZ
              have HIz : Hid ((Tryd.prog.info? 24).map (·.size) = some zz.size) := by rw [HZ.out]; exact idsize (by decide)
              have H1z : Hid (zz.all (·.oneCell') = true) := by rw [HZ.out]; exact idA_one []
              have HSz2 : Hid (zz.size = 32) := by rw [HZ.out]; rfl
              go_wp2_with (refine wpList_store_row rfl 24 _ _ rfl wr.heap.size _ rfl rfl _ _ (heap_alloc_new _ _) HIz.out (by rw [HSz2.out]; rfl) H1z.out ?_)
              rw [World.setRow_alloc_new, HZ.out]
              have K1 := Lib.hid ((Below.heap_alloc wr (.cells (idA []) 24) H (by omega)).trans G1.out)
              have K2 := Lib.hid ((Below.heap_alloc wr (.cells (idA []) 24) w.heap.size (by omega)).trans G3.out)
              have K3 := Lib.hid (heap_alloc_new wr (.cells (idA []) 24))
              have hb9 := hb4.alloc (by omega) (.cells (idA []) 24)
              generalize wr.alloc (.cells (idA []) 24) = w9 at K1 K2 K3 hb9 ⊢
              have hO : C + 1 ≤ wr.heap.size := hs4
              generalize wr.heap.size = O at K3 hO ⊢
              clear G1 G2 G3 hb4 hs4 HIz H1z HSz2 hi2 hi3 hlt hk HT HMsg HP
              go_loopw [10] (fun v wr => ∃ (k : Nat), k ≤ 32 ∧ v = .int .i64 k ∧ Hid (wr.heap[H]? = some (.cells (stA s) 39)) ∧ Hid (wr.heap[w.heap.size]? = some (.cells (idA []) 24)) ∧ Hid (wr.heap[O]? = some (.cells (idA ((List.range k).map (Sh.byteOf s))) 24)) ∧ Below w.heap.size w wr) (fun v _ => 32 - (intOf v).toNat)
              case atStart => exact ⟨0, by omega, rfl, K1, K2, K3, hb9⟩
              case round =>
                clear K1 K2 K3 hb9
                obtain ⟨k, hk, rfl, K1, K2, K3, hb9⟩ := hrel
                by_cases hlt : k < 32
                · have c1 := (cell_of_row wr H (k / 4) _ _ _ K1.out).trans (stA_get s (k / 4) (by omega))
                  have c2 := (cell_of_row wr O k _ _ _ K3.out).trans (idA_rest _ k (by simp) (by omega))
                  have c3 := frozen_of_row wr O k _ _ K3.out
                  have HB := Lib.hid (byteOf_eq s k)
                  generalize s.list.getD (k / 4) 0 = x at c1 HB
                  have hd : IntKind.u64.wrap (24 - 8 * ((k : Int) % 4)) = ((24 - 8 * (k % 4) : Nat) : Int) := by
                    simp [IntKind.wrap, IntKind.bits, IntKind.signed]; omega
                  have hd0 : 0 ≤ 24 - 8 * ((k : Int) % 4) := by omega
                  have hk4 : (k : Int) / 4 < 8 := by omega
                  have hk5 : ((k : Int) / 4).toNat = k / 4 := by omega
                  have hlt' : (k : Int) < 32 := by omega
                  go_wp2
                  rw [← HB.out]
                  refine ⟨⟨k + 1, by omega, by go_num, held_apart K1.out _ _ _ (by omega), held_apart K2.out _ _ _ (by omega), ?_, hb9.setCell (by simp; omega) _⟩, by simp [intOf]; omega⟩
                  rw [range_take, ← idA_push _ _ (by simp; omega)]
                  have := held_set K3.out k (.int .u8 ((Sh.byteOf s k).toNat : Int))
                  simpa [Hid] using this
                · have HT := Lib.hid (show (List.range k).map (Sh.byteOf s) = M by rw [← HF.out, show k = 32 by omega]; rfl)
                  have hl : M.length ≤ 32 := by rw [← HT.out]; simp; omega
                  rw [HT.out] at K3
                  have HI := Lib.hid (idsize hl)
                  have H0 := Lib.hid (show (idA []).size = (idA M).size by rw [idA_size M hl]; rfl)
                  have hu := Lib.hid Tryd.underlying24
                  go_wp2_with (first | (refine wpList_load_row rfl 24 _ rfl O rfl _ _ _ _ K3.out hu.out rfl HI.out ?_) | (refine wpList_store_row rfl 24 _ _ rfl w.heap.size _ rfl rfl _ _ K2.out HI.out H0.out (idA_one _) ?_))
                  refine bodyPost_ret (v := .agg (idA M)) ?_ rfl ⟨rfl, below_setRow hb9 (Nat.le_refl _) _⟩
                  exact results_cell_row (by rfl) _ _ w.heap.size _ _ _ _ (by rfl) (setRow_heap _ _ _ _ _ _ K2.out) hu.out rfl HI.out
    · have hk' := gap_more _ _ hk h56
      have hd : ((a.size : Int) % 64 != 56) = true := by rw [bne_iff_ne]; omega
      have hcv := conv_one wr 0 0 rfl
      have HA2 := Lib.hid (show (a ++ ByteArray.mk #[0]).data.toList = zs l (k + 1) by rw [app_data, HA.out, zs_succ])
      have hsz2 : (a ++ ByteArray.mk #[0]).size = l.length + 1 + (k + 1) := by rw [← len_data, HA2.out, zs_len]
      have HSZ2 := Lib.hid hsz2
      clear hsz hsz2
      go_wp2
      refine ⟨⟨k + 1, a ++ ByteArray.mk #[0], rfl, HA2, by omega, (Below.heap_alloc _ _ _ (by omega)).trans F0.out, hb2.alloc (by omega) _, by simp; omega⟩, ?_⟩
      have h1 := HSZ.out
      have h2 := HSZ2.out
      simp only [strLen]
      omega

end Go.Proofs.YtijlmeodfmanmaaDoor
