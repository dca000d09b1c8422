/-
  WALKS OF LAYER 13: End, Of and Bound where there is no store, or no depth.
-/
import Derived.Test.YtkcjhkfelaplkaaDpNext
import Derived.Test.YtkcjhkfelaplkaaBase2
import Derived.Test.YtkcjhkfelaplkaaDepthShelf
import Derived.Shelf.SlSortCmp.NoneTotal
namespace Go.Proofs.Ytkcjhkfelaplkaa
open Go.RowKit
set_option linter.unusedVariables false
set_option linter.unusedSimpArgs false

set_option maxHeartbeats 1000000 in
set_option maxRecDepth 100000 in
theorem end_nil (w : World) (id : List UInt8) (hil : id.length = 32) :
    Calls Try.prog 20 #[.pointer none, .agg (idC id).toArray] w fun r w' => r = .returned (.tuple #[.agg (idC zId).toArray, .bool false]) ∧ Below w.heap.size w w' := by
  have hz24 := (zero_of_info zero24).1
  have HB2 := Lib.hid (below2 w (.cells (idC id).toArray 28) (.cells (idC zId).toArray 28))
  have HX2 := Lib.hid (new2 w (.cells (idC id).toArray 28) (.cells (idC zId).toArray 28))
  have hsz : w.heap.size ≤ w.heap.size + 1 := by omega
  have HLE := Lib.hid (len_nil)
  clear hil
  go_enter Try.func20, Try.ntmps20
  go_wp2_with fail
  refine (HLE.out _).mono ?_
  rintro r w2 ⟨rfl, rfl⟩
  go_wp2_with fail
  go_loopw [10] (fun i wr => i = .int .i64 0 ∧ Hid (wr = (w.alloc (.cells (idC id).toArray 28)).alloc (.cells (idC zId).toArray 28))) (fun i _ => 0)
  case atStart => exact ⟨rfl, rfl⟩
  case round =>
    obtain ⟨rfl, HW⟩ := hrel
    have hw := HW.out
    subst hw
    go_wp2_with (first
      | ((with_reducible refine bd_zid ?_ ?_ ?_); rfl; rfl)
      | ((with_reducible refine st_idg (l := zId) (x := .tmp 4) (y := .tmp 28) (g := w.heap.size + 1) ?_ ?_ ?_ ?_ HX2.out ?_ ?_ ?_); rfl; rfl; rfl; rfl; rfl; rfl))
    refine bodyPost_ret (results_cell_tmp (fn := Try.f20) (p := 4) (q := 5) (by rfl) _ _ (w.heap.size + 1) _ _ _ _ (by rfl) (setRow_heap _ _ _ _ _ _ HX2.out) Try.underlying28 rfl (by rw [List.size_toArray]; exact idsize rfl)) rfl ⟨rfl, below_setRow HB2.out (by omega) _⟩
set_option maxHeartbeats 400000 in
theorem fine_bad (n : Int) (hn : n < 1 ∨ 1048576 < n) (w : World) : Calls Try.prog 19 #[.int .i64 n] w fun r w' => r = .returned (.bool false) ∧ w' = w := by
  rcases hn with hn | hn
  · have h1 : ¬ (1 : Int) ≤ n := by omega
    go_enter Try.func19, Try.ntmps19
    go_wp2_with fail
    go_ret
    exact ⟨rfl, rfl⟩
  · have h1 : (1 : Int) ≤ n := by omega
    have h2 : ¬ n ≤ (1048576 : Int) := by omega
    go_enter Try.func19, Try.ntmps19
    go_wp2_with fail
    go_ret
    exact ⟨rfl, rfl⟩
set_option maxHeartbeats 400000 in
theorem fine_good (n : Int) (h1 : 1 ≤ n) (h2 : n ≤ 1048576) (w : World) : Calls Try.prog 19 #[.int .i64 n] w fun r w' => r = .returned (.bool true) ∧ w' = w := by
  go_enter Try.func19, Try.ntmps19
  go_wp2_with fail
  go_ret
  exact ⟨rfl, rfl⟩
set_option maxHeartbeats 400000 in
theorem of_bad (w : World) (sp v : Value) (n : Int) (hn : n < 1 ∨ 1048576 < n) : Calls Try.prog 9 #[sp, v, .int .i64 n] w fun r w' => r = .returned (.tuple #[.slice none 0 0, .int .i64 1]) ∧ w' = w := by
  have HF := Lib.hid (fine_bad n hn w)
  clear hn
  go_enter Try.func9, Try.ntmps9
  go_wp2_with fail
  with_reducible refine HF.out.mono ?_
  rintro r w2 ⟨rfl, rfl⟩
  go_wp2_with fail
  go_ret2
  exact ⟨rfl, rfl⟩
set_option maxHeartbeats 400000 in
theorem bound_bad (w : World) (sp v : Value) (n : Int) (hn : n < 1 ∨ 1048576 < n) : Calls Try.prog 8 #[sp, v, .int .i64 n] w fun r w' => r = .returned (.tuple #[.slice none 0 0, .slice none 0 0, .int .i64 1]) ∧ w' = w := by
  have HF := Lib.hid (of_bad w sp v n hn)
  clear hn
  go_enter Try.func8, Try.ntmps8
  go_wp2_with fail
  with_reducible refine HF.out.mono ?_
  rintro r w2 ⟨rfl, rfl⟩
  go_wp2_with fail
  refine bodyPost_ret (results_tmp3 rfl _ _ _) rfl ?_
  exact ⟨rfl, rfl⟩
set_option maxHeartbeats 400000 in
set_option maxRecDepth 100000 in
theorem parents_none (w : World) (g : Nat) (sp mp : Value) (most : Int) (h : w.heap[g]? = some (.cells #[sp, mp, .slice none 0 0] 49 (0, 0))) :
    Calls Try.prog 22 #[.pointer (some ⟨g, 0, none⟩), .int .i64 most] w fun r w' => r = .returned (.tuple #[]) ∧ w' = w := by
  have c2 : w.cell? ⟨g, 2, none⟩ = some (.slice none 0 0) := by rw [cell_of_row _ _ 2 _ _ _ h]; rfl
  clear h
  go_enter Try.func22, Try.ntmps22
  go_wp2_with fail
  go_loopw [4] (fun i wr => i = .int .i64 0 ∧ wr = w) (fun i _ => 0)
  case atStart => exact ⟨rfl, rfl⟩
  case round =>
    obtain ⟨rfl, rfl⟩ := hrel
    go_wp2_with fail
    refine bodyPost_end (results_none rfl _ _ _) rfl ?_
    exact ⟨rfl, rfl⟩
set_option maxHeartbeats 1000000 in
set_option maxRecDepth 100000 in
theorem of_nil (w : World) (v : Value) (I : List (List UInt8)) (n : Int) (h : IdsAt w v I) (hl : ∀ i ∈ I, i.length = 32) (hI : I.length ≤ 1000) (h1 : 1 ≤ n) (h2 : n ≤ 1048576) :
    Calls Try.prog 9 #[.pointer none, v, .int .i64 n] w fun r w' => r = .returned (.tuple #[.slice none 0 0, .int .i64 0]) ∧ Below w.heap.size w w' := by
  obtain ⟨ao, cap, rfl⟩ : ∃ ao cap, v = .slice ao I.length cap := by simpa using RowsAt.form h
  have HF := Lib.hid (fine_good n h1 h2 w)
  have HH := Lib.hid h
  have HL := Lib.hid hl
  have hmm := @run_makeMap Try.prog
  clear h h1 h2 hl
  go_enter Try.func9, Try.ntmps9
  go_wp2_with fail
  with_reducible refine HF.out.mono ?_
  rintro r w2 ⟨rfl, rfl⟩
  clear HF
  go_wp2_with fail
  have HB2 := Lib.hid (below2 w2 (.map #[] 0) (.cells #[.pointer none, .map (some w2.heap.size), .slice none 0 0] 49))
  have HX2 := Lib.hid (new2 w2 (.map #[] 0) (.cells #[.pointer none, .map (some w2.heap.size), .slice none 0 0] 49))
  generalize (w2.alloc (.map #[] 0)).alloc (.cells #[.pointer none, .map (some w2.heap.size), .slice none 0 0] 49) = w3 at *
  clear hmm
  go_loopw [21] (fun i wr => ∃ (k : Nat), k ≤ I.length ∧ i = .int .i64 k ∧ Hid (wr.heap[w2.heap.size + 1]? = some (.cells #[.pointer none, .map (some w2.heap.size), .slice none 0 0] 49 (0, 0))) ∧ Hid (Below w2.heap.size w2 wr)) (fun i _ => I.length - (intOf i).toNat)
  case atStart => exact ⟨0, by omega, rfl, HX2.out, HB2.out⟩
  case round =>
    obtain ⟨k, hk, rfl, HX, HB⟩ := hrel
    clear HX2 HB2
    by_cases hlt : k < I.length
    · have hlt' : (k : Int) < (I.length : Int) := by omega
      have hk0 : (0 : Int) ≤ (k : Int) := by omega
      obtain ⟨id, hi⟩ : ∃ id, I[k]? = some id := ⟨I[k], List.getElem?_eq_getElem hlt⟩
      have HID := Lib.hid (HL.out id (List.mem_of_getElem? hi))
      obtain ⟨a, rfl, _, hc⟩ := (HH.out.below HB.out).elem k (idC id) (by rw [List.getElem?_map, hi]; rfl)
      have HC := Lib.hid hc
      have HR := Lib.hid (row_news (heap_alloc_new wr (.cells (idC id).toArray 28)))
      have HEN := Lib.hid (end_nil (wr.alloc (.cells (idC id).toArray 28)) id HID.out)
      have HBA := Lib.hid (below_new wr (.cells (idC id).toArray 28))
      have hz := (Array.getElem?_eq_some_iff.1 HX.out).1
      have HZL := Lib.hid (show zId.length = 32 from rfl)
      clear hc hi
      go_wp2_with (first
        | ((with_reducible refine ld_id (l := id) (x := .tmp 23) ?_ ?_ ?_ HC.out HID.out ?_); rfl; rfl; rfl)
        | ((with_reducible apply st_id (hl := HID.out)); rfl; rfl; rfl; rfl; rfl)
        | ((with_reducible refine ld_id (l := id) (x := .tmp 10) (p := ⟨wr.heap.size, 0, none⟩) ?_ ?_ ?_ HR.out HID.out ?_); rfl; rfl; rfl))
      with_reducible refine HEN.out.mono ?_
      rintro r w4 ⟨rfl, hb4⟩
      have hbb : Below wr.heap.size wr w4 := HBA.out.trans (hb4.mono HBA.out.size)
      have HB4 := Lib.hid ((HB.out.trans (hbb.mono HB.out.size)).alloc (Nat.le_trans HB.out.size hbb.size) (.cells (idC zId).toArray 28))
      have HX4 := Lib.hid (((hbb.alloc hbb.size (.cells (idC zId).toArray 28)).block _ hz).trans HX.out)
      clear hb4 hbb HEN
      go_wp2_with ((with_reducible apply st_id (hl := HZL.out)); rfl; rfl; rfl; rfl; rfl)
      go_roundw
      case rel => exact ⟨k + 1, by omega, by go_num, HX4, HB4⟩
      case measure => simp [intOf]; omega
    · have hlt' : ¬ (k : Int) < (I.length : Int) := by omega
      have HPA := Lib.hid (parents_none wr (w2.heap.size + 1) (.pointer none) (.map (some w2.heap.size)) n HX.out)
      have HSN := Lib.hid (show Calls Try.prog 23 #[.slice none 0 0, .func (.func 24) #[] #[]] wr fun e w' => e = .returned (.tuple #[]) ∧ w' = wr from AnyF.slices_SortFunc_none Try.sortDp none 0 (.func (.func 24) #[] #[]) wr)
      have c2 : wr.cell? ⟨w2.heap.size + 1, 2, none⟩ = some (.slice none 0 0) := by rw [cell_of_row _ _ 2 _ _ _ HX.out]; rfl
      go_wp2_with fail
      with_reducible refine HPA.out.mono ?_
      rintro r w4 ⟨rfl, hw4⟩
      subst hw4
      go_wp2_with fail
      with_reducible refine HSN.out.mono ?_
      rintro r w5 ⟨rfl, hw5⟩
      subst hw5
      go_wp2_with fail
      go_ret2
      exact ⟨rfl, HB.out⟩
end Go.Proofs.Ytkcjhkfelaplkaa
