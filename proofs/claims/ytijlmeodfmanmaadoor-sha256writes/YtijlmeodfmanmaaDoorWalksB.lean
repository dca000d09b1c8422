/-
  WALKS OF LAYER 2: schedule.
-/
import Derived.Test.YtijlmeodfmanmaaDoorWalksA
import Derived.StillTailTactics
import Derived.IntWalk
import Derived.Laws.Rows
import Derived.Deep.WholeRow
import Derived.Laws.CopyOwn
namespace Go.Proofs.YtijlmeodfmanmaaDoor
open Go.RowKit
set_option linter.unusedVariables false
set_option linter.unusedSimpArgs false
open Sh (Wd)

def wv (x : Wd) : Value := .int .u32 (x.toNat : Int)
/-- Sixty-four places, the first of them filled. -/
def arr (l : List Wd) : Array Value := (l.map wv ++ List.replicate (64 - l.length) (Value.int .u32 0)).toArray
theorem arr_size (l : List Wd) (h : l.length ≤ 64) : (arr l).size = 64 := by simp [arr]; omega
theorem arr_get (l : List Wd) (i : Nat) (h : i < l.length) : (arr l)[i]? = some (.int .u32 ((l.getD i 0).toNat : Int)) := by
  simp only [arr, List.getElem?_toArray, List.getD_eq_getElem?_getD]
  rw [List.getElem?_append_left (by simpa using h), List.getElem?_map, List.getElem?_eq_getElem h]
  rfl
theorem arr_rest (l : List Wd) (i : Nat) (h : l.length ≤ i) (h2 : i < 64) : (arr l)[i]? = some (.int .u32 0) := by
  simp only [arr, List.getElem?_toArray]
  rw [List.getElem?_append_right (by simpa using h), List.getElem?_replicate, if_pos (by simp; omega)]
theorem arr_push (l : List Wd) (x : Wd) (h : l.length < 64) : (arr l).setIfInBounds l.length (.int .u32 (x.toNat : Int)) = arr (l ++ [x]) := by
  apply Array.ext_getElem?
  intro i
  simp only [arr, List.setIfInBounds_toArray, List.getElem?_toArray]
  rw [List.set_append_right _ _ (by simp)]
  simp only [List.length_map, Nat.sub_self, List.map_append, List.map_cons, List.map_nil, List.length_append, List.length_cons, List.length_nil, List.append_assoc]
  rw [show 64 - l.length = (64 - (l.length + (0 + 1))) + 1 by omega, List.replicate_succ, List.set_cons_zero]
  rfl
theorem arr_full (l : List Wd) (h : l.length = 64) : arr l = (l.map wv).toArray := by simp [arr, h]
theorem arr_nil : arr [] = (List.replicate 64 (Value.int .u32 0)).toArray := rfl

theorem wrap_bw (x : UInt8) : IntKind.u32.wrap (x.toNat : Int) = ((Sh.bw x).toNat : Int) := by
  have := x.toNat_lt
  rw [IntKind.wrap_u32, Sh.bw_toNat]; omega
theorem sh24 (x : Wd) : IntKind.u32.wrap ((x.toNat : Int) * 16777216) = ((x <<< 24).toNat : Int) := w_shl x 24
theorem sh16 (x : Wd) : IntKind.u32.wrap ((x.toNat : Int) * 65536) = ((x <<< 16).toNat : Int) := w_shl x 16
theorem sh8 (x : Wd) : IntKind.u32.wrap ((x.toNat : Int) * 256) = ((x <<< 8).toNat : Int) := w_shl x 8
theorem b4_or (x y z v : UInt8) : bits BinOp.or IntKind.u32 (bits BinOp.or IntKind.u32 (bits BinOp.or IntKind.u32 (IntKind.u32.wrap (IntKind.u32.wrap (x.toNat : Int) * 16777216)) (IntKind.u32.wrap (IntKind.u32.wrap (y.toNat : Int) * 65536))) (IntKind.u32.wrap (IntKind.u32.wrap (z.toNat : Int) * 256))) (IntKind.u32.wrap (v.toNat : Int)) = ((Sh.be4 x y z v).toNat : Int) := by
  simp only [wrap_bw, sh24, sh16, sh8, w_or]
  rfl
theorem blk_eq (b : ByteArray) (t : Nat) (h : 4 * t + 3 < b.size) : Sh.blk b.data.toList t = Sh.be4 b[4 * t] b[4 * t + 1] b[4 * t + 2] b[4 * t + 3] := by
  have e : ∀ (j : Nat) (hj : j < b.size), b.data.toList.getD j 0 = b[j] := fun j hj => by
    rw [List.getD_eq_getElem?_getD, List.getElem?_eq_getElem (by simpa using hj)]; rfl
  unfold Sh.blk
  rw [e _ (by omega), e _ (by omega), e _ (by omega), e _ (by omega)]

/-! ### Blocks that are known whole -/
theorem held_set {wr : World} {g : Nat} {cs : Array Value} {t : TypeId} (h : wr.heap[g]? = some (.cells cs t)) (i : Nat) (v : Value) : (wr.setCell ⟨g, i, none⟩ v).heap[g]? = some (.cells (cs.setIfInBounds i v) t) := heap_setCell_same wr g i cs t v h
theorem held_apart {wr : World} {k : Nat} {x : Option Obj} (h : wr.heap[k]? = x) (g i : Nat) (v : Value) (hne : k ≠ g) : (wr.setCell ⟨g, i, none⟩ v).heap[k]? = x := (heap_setCell_other wr ⟨g, i, none⟩ k v hne).trans h
theorem still_of {P : Program} {f : FuncId} {args : Array Value} {w : World} {v : Value} (h : Calls P f args w fun e w' => e = .returned v ∧ w = w') : Calls P f args w fun e w' => e = .returned v ∧ w' = w := h.mono fun _ _ ⟨h1, h2⟩ => ⟨h1, h2.symm⟩
theorem region_tail {P : Program} {id : Nat} {Q : Exit → Act → World → Prop} {a : Act} {w : World} {l : List Oper} (n : Nat) (hm : P.follows .mixedOrders = true) (hB : Region.lexTailB .any l.toArray n = true)
    (h : wpStill P l.toArray w.drew (fun a' => wpList P l.toArray Q (l.drop n) a' w.drew) (l.take n) a) : (Code.region id l.toArray true).wp P Q a w := wp_region_still_tail n hm hB h
theorem region_still {P : Program} {id : Nat} {Q : Exit → Act → World → Prop} {a : Act} {w : World} {l : List Oper} (hm : P.follows .mixedOrders = true) (hB : Region.lexB .any l.toArray = true)
    (h : wpStill P l.toArray w.drew (fun a' => Q .normal a' w.drew) l a) : (Code.region id l.toArray true).wp P Q a w := wp_region_still_lit hm hB h
theorem arr_one (l : List Wd) : (arr l).all (·.oneCell') = true := by
  rw [Array.all_eq_true_iff_forall_mem]
  intro x hx
  simp only [arr, List.mem_toArray, List.mem_append, List.mem_map, List.mem_replicate] at hx
  rcases hx with ⟨y, _, rfl⟩ | ⟨_, rfl⟩ <;> rfl
theorem wd_next (b : List UInt8) (t : Nat) (h : 16 ≤ t) : Sh.wd b (t + 1) = Sh.wd b t ++ [Sh.nextW (Sh.wd b t) t] := by rw [Sh.wd, Sh.newW, if_neg (by omega)]
theorem sh_r3 (x : Wd) : (x.toNat : Int) / (8 : Int) = ((x >>> 3).toNat : Int) := w_shr x 3
theorem sh_r10 (x : Wd) : (x.toNat : Int) / (1024 : Int) = ((x >>> 10).toNat : Int) := w_shr x 10

theorem info48 : (Tryd.prog.info? 48).map (fun i => (i.zero, i.size)) = some (some (.agg (arr [])), 64) := by kernel_rfl

set_option maxHeartbeats 400000 in
set_option maxRecDepth 100000 in
theorem schedule_any (b : ByteArray) (w : World) (hb : b.size = 64) :
    Calls Tryd.prog 32 #[.string b] w fun r w' => r = .returned (.agg (arr (Sh.wd b.data.toList 64))) ∧ Below w.heap.size w w' := by
  have hb64 : 64 ≤ b.size := by omega
  have HB := Lib.hid hb
  clear hb
  go_enter Tryd.func32, Tryd.ntmps32
  go_wp2
  go_loopw [8] (fun i wr => ∃ t : Nat, t ≤ 16 ∧ i = .int .i64 t ∧ Hid (wr.heap[w.heap.size + 1]? = some (.cells (arr (Sh.wd b.data.toList t)) 48)) ∧ Hid (wr.heap[w.heap.size]? = some (.cells (arr []) 48)) ∧ Below w.heap.size w wr) (fun i _ => 16 - (intOf i).toNat)
  case atStart => exact ⟨0, by omega, rfl, heap_alloc2_new _ _ _, heap_alloc2_old _ _ _, ((Below.refl _ _).alloc (Nat.le_refl _) _).alloc (by simp) _⟩
  case round =>
    obtain ⟨t, ht, rfl, HN, HR, hbl⟩ := hrel
    by_cases hlt : t < 16
    · have hc := (cell_of_row wr (w.heap.size + 1) t _ _ _ HN.out).trans (arr_rest _ t (by rw [Sh.wd_length]; omega) (by omega))
      have hf := frozen_of_row wr (w.heap.size + 1) t _ _ HN.out
      have hi1 : (4 * (t : Int)) < (b.size : Int) := by omega
      have hi2 : (4 * (t : Int) + 1) < (b.size : Int) := by omega
      have hi3 : (4 * (t : Int) + 2) < (b.size : Int) := by omega
      have hi4 : (4 * (t : Int) + 3) < (b.size : Int) := by omega
      have hw0 : IntKind.i64.wrap (4 * (t : Int)) = 4 * (t : Int) := IntWalk.i64_in _ (by omega)
      have hw1 : IntKind.i64.wrap (4 * (t : Int) + 1) = 4 * (t : Int) + 1 := IntWalk.i64_in _ (by omega)
      have hw2 : IntKind.i64.wrap (4 * (t : Int) + 2) = 4 * (t : Int) + 2 := IntWalk.i64_in _ (by omega)
      have hw3 : IntKind.i64.wrap (4 * (t : Int) + 3) = 4 * (t : Int) + 3 := IntWalk.i64_in _ (by omega)
      have hn0 : 0 ≤ 4 * (t : Int) := by omega
      have hn1 : 0 ≤ 4 * (t : Int) + 1 := by omega
      have hn2 : 0 ≤ 4 * (t : Int) + 2 := by omega
      have hn3 : 0 ≤ 4 * (t : Int) + 3 := by omega
      have ht0 : (4 * (t : Int)).toNat = 4 * t := by omega
      have ht1 : (4 * (t : Int) + 1).toNat = 4 * t + 1 := by omega
      have ht2 : (4 * (t : Int) + 2).toNat = 4 * t + 2 := by omega
      have ht3 : (4 * (t : Int) + 3).toNat = 4 * t + 3 := by omega
      have hlt' : (t : Int) < 16 := by omega
      have hlt2 : (t : Int) < 64 := by omega
      go_wp2
      go_still_tail 31, (by kernel_rfl)
      rw [b4_or]
      rw [← blk_eq b t (by omega)]
      have HV := Lib.hid (show Sh.wd b.data.toList (t + 1) = Sh.wd b.data.toList t ++ [Sh.blk b.data.toList t] by rw [Sh.wd, Sh.newW, if_pos hlt])
      generalize Sh.blk b.data.toList t = x at *
      change wpList _ _ _ _ _ wr.drew
      go_wp2
      go_roundw
      case rel =>
        refine ⟨t + 1, by omega, by go_num, ?_, ?_, ?_⟩
        · rw [HV.out, ← arr_push _ _ (by rw [Sh.wd_length]; omega), Sh.wd_length]; exact held_set (wr := wr.drew) HN.out t _
        · exact held_apart (wr := wr.drew) HR.out _ _ _ (by omega)
        · exact hbl.drew.setCell (by simp) _
      case measure => simp [intOf]; omega
    · have HT := Lib.hid (show t = 16 by omega)
      go_wp2
      go_loopw [5] (fun i wr => ∃ t : Nat, 16 ≤ t ∧ t ≤ 64 ∧ i = .int .i64 t ∧ Hid (wr.heap[w.heap.size + 1]? = some (.cells (arr (Sh.wd b.data.toList t)) 48)) ∧ Hid (wr.heap[w.heap.size]? = some (.cells (arr []) 48)) ∧ Below w.heap.size w wr) (fun i _ => 64 - (intOf i).toNat)
      case atStart => exact ⟨16, by omega, by omega, rfl, by rw [HT.out] at HN; exact HN, HR, hbl⟩
      case round =>
        clear HN HR hbl hlt ht HT
        obtain ⟨t, ht16, ht, rfl, HN, HR, hbl⟩ := hrel
        by_cases hlt : t < 64
        · have hl := Sh.wd_length b.data.toList t
          have hc := (cell_of_row wr (w.heap.size + 1) t _ _ _ HN.out).trans (arr_rest _ t (by rw [Sh.wd_length]; omega) (by omega))
          have hf := frozen_of_row wr (w.heap.size + 1) t _ _ HN.out
          have c15 := (cell_of_row wr (w.heap.size + 1) (t - 15) _ _ _ HN.out).trans (arr_get _ (t - 15) (by omega))
          have c2 := (cell_of_row wr (w.heap.size + 1) (t - 2) _ _ _ HN.out).trans (arr_get _ (t - 2) (by omega))
          have c16 := (cell_of_row wr (w.heap.size + 1) (t - 16) _ _ _ HN.out).trans (arr_get _ (t - 16) (by omega))
          have c7 := (cell_of_row wr (w.heap.size + 1) (t - 7) _ _ _ HN.out).trans (arr_get _ (t - 7) (by omega))
          have HV := Lib.hid (wd_next b.data.toList t ht16)
          have HX := Lib.hid (show Sh.nextW (Sh.wd b.data.toList t) t = (Sh.wd b.data.toList t).getD (t - 16) 0 + (Sh.wd b.data.toList t).getD (t - 7) 0 + ((Sh.rr ((Sh.wd b.data.toList t).getD (t - 15) 0) 7 ^^^ Sh.rr ((Sh.wd b.data.toList t).getD (t - 15) 0) 18) ^^^ ((Sh.wd b.data.toList t).getD (t - 15) 0) >>> 3) + ((Sh.rr ((Sh.wd b.data.toList t).getD (t - 2) 0) 17 ^^^ Sh.rr ((Sh.wd b.data.toList t).getD (t - 2) 0) 19) ^^^ ((Sh.wd b.data.toList t).getD (t - 2) 0) >>> 10) from rfl)
          clear hl
          generalize (Sh.wd b.data.toList t).getD (t - 16) 0 = x16 at c16 HX
          generalize (Sh.wd b.data.toList t).getD (t - 15) 0 = x15 at c15 HX
          generalize (Sh.wd b.data.toList t).getD (t - 7) 0 = x7 at c7 HX
          generalize (Sh.wd b.data.toList t).getD (t - 2) 0 = x2 at c2 HX
          generalize Sh.nextW (Sh.wd b.data.toList t) t = xn at HV HX
          have hw0 : IntKind.i64.wrap ((t : Int) - 16) = (t : Int) - 16 := IntWalk.i64_in _ (by omega)
          have hw1 : IntKind.i64.wrap ((t : Int) - 15) = (t : Int) - 15 := IntWalk.i64_in _ (by omega)
          have hw2 : IntKind.i64.wrap ((t : Int) - 7) = (t : Int) - 7 := IntWalk.i64_in _ (by omega)
          have hw3 : IntKind.i64.wrap ((t : Int) - 2) = (t : Int) - 2 := IntWalk.i64_in _ (by omega)
          have hn0 : 0 ≤ (t : Int) - 16 := by omega
          have hn1 : 0 ≤ (t : Int) - 15 := by omega
          have hn2 : 0 ≤ (t : Int) - 7 := by omega
          have hn3 : 0 ≤ (t : Int) - 2 := by omega
          have hm0 : (t : Int) - 16 < 64 := by omega
          have hm1 : (t : Int) - 15 < 64 := by omega
          have hm2 : (t : Int) - 7 < 64 := by omega
          have hm3 : (t : Int) - 2 < 64 := by omega
          have ht0 : ((t : Int) - 16).toNat = t - 16 := by omega
          have ht1 : ((t : Int) - 15).toNat = t - 15 := by omega
          have ht2 : ((t : Int) - 7).toNat = t - 7 := by omega
          have ht3 : ((t : Int) - 2).toNat = t - 2 := by omega
          have hlt' : (t : Int) < 64 := by omega
          have hq0 : (16 : Int) ≤ (t : Int) := by omega
          have hq1 : (15 : Int) ≤ (t : Int) := by omega
          have hq2 : (7 : Int) ≤ (t : Int) := by omega
          have hq3 : (2 : Int) ≤ (t : Int) := by omega
          go_wp2
          refine region_still (by kernel_rfl) (by kernel_rfl) ?_
          repeat still_step
          refine wpStill_nil ?_
          go_wp2
          refine region_tail 29 (by kernel_rfl) (by kernel_rfl) ?_
          simp only [List.take_succ_cons, List.take_zero, List.drop_succ_cons, List.drop_zero]
          repeat still_step
          still_call (still_of (right_any _ 7 _ (by decide) (by decide)))
          repeat still_step
          still_call (still_of (right_any _ 18 _ (by decide) (by decide)))
          repeat still_step
          still_call (still_of (right_any _ 17 _ (by decide) (by decide)))
          repeat still_step
          still_call (still_of (right_any _ 19 _ (by decide) (by decide)))
          repeat still_step
          refine wpStill_nil ?_
          simp only [sh_r3, sh_r10, w_xor, w_add, w_add']
          rw [← HX.out]
          go_wp2
          go_roundw
          case rel =>
            refine ⟨t + 1, by omega, by omega, by go_num, ?_, ?_, ?_⟩
            · rw [HV.out, ← arr_push _ _ (by rw [Sh.wd_length]; omega), Sh.wd_length]; exact held_set (wr := wr.drew.drew) HN.out t _
            · exact held_apart (wr := wr.drew.drew) HR.out _ _ _ (by omega)
            · exact hbl.drew.drew.setCell (by simp) _
          case measure => simp [intOf]; omega
        · obtain rfl : t = 64 := by omega
          have hs := arr_size (Sh.wd b.data.toList 64) (by rw [Sh.wd_length]; omega)
          have hu := Tryd.underlying48
          have hi : (Tryd.prog.info? 48).map (·.size) = some (arr (Sh.wd b.data.toList 64)).size := by rw [hs]; exact (zero_of_info info48).2
          have HS := Lib.hid hs
          have HI := Lib.hid hi
          have HU := Lib.hid hu
          clear hs hi hu
          go_wp2_with (first | (refine wpList_load_row rfl 48 _ rfl (w.heap.size + 1) rfl _ _ _ _ HN.out HU.out rfl HI.out ?_) | (refine wpList_store_row rfl 48 _ _ rfl w.heap.size _ rfl rfl _ _ HR.out HI.out (by rw [HS.out]; exact arr_size _ (by decide)) (arr_one _) ?_))
          refine bodyPost_ret (v := .agg (arr (Sh.wd b.data.toList 64))) ?_ rfl ⟨rfl, below_setRow hbl (Nat.le_refl _) _⟩
          exact results_cell_row (by rfl) _ _ w.heap.size _ _ _ _ (by rfl) (setRow_heap _ _ _ _ _ _ HR.out) HU.out rfl HI.out

end Go.Proofs.YtijlmeodfmanmaaDoor
