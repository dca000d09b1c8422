/-
  WALKS OF LAYER 11: New, Put.
-/
import Derived.Test.YtipigedopmgemaaDoorStKeep
import Derived.Test.YtipigedopmgemaaDoorStDec
import Derived.Test.YtipigedopmgemaaDoorLj
namespace Go.Proofs.YtipigedopmgemaaDoor
open Go.RowKit
set_option linter.unusedVariables false
set_option linter.unusedSimpArgs false

/-- The id of an encoding. -/
def shaI (s : ByteArray) : List UInt8 := S2.Sh.idOf (S2.Sh.sha s.data.toList)
theorem shaI_len (s : ByteArray) : (shaI s).length = 32 := S2.Sh.idOf_length _
theorem id_of (s : ByteArray) (w : World) (hk : S2.KIn w) (hl : s.size ≤ 70368744177664) :
    Calls Tryd.prog 22 #[.string s] w fun r w' => r = .returned (.agg (idC (shaI s)).toArray) ∧ Below w.heap.size w w' := by
  have := id_any s w hk hl
  rw [show S2.Sh.idOf (S2.Sh.sha s.data.toList) = shaI s from rfl, idA_same _ (shaI_len s)] at this
  exact this
theorem refsum_of (s : ByteArray) (w : World) (hl : s.size ≤ 70368744177664) :
    Calls Tryd.prog 18 #[.string s] w fun r w' => r = .returned (.agg (idC (shaI s)).toArray) ∧ Below w.heap.size w w' := by
  have := S2.refsum_any s w hl
  rw [show S2.Sh.idOf (S2.Sh.sha s.data.toList) = shaI s from rfl, idA_same _ (shaI_len s)] at this
  exact this
theorem st_idg {ops : Array Oper} {rest : List Oper} {op : Oper} {a : Act} {w : World} {Q : Exit → Act → World → Prop} {x y : Operand} {g : Nat} {l : List UInt8} {c : Array Value} (ho : op.op = .store 35 x y) (hx : a.eval x = .pointer (some ⟨g, 0, none⟩)) (hy : a.eval y = .agg (idC l).toArray) (hg : op.guard = none) (he : w.heap[g]? = some (.cells c 35)) (hc : c.size = 32) (hl : l.length = 32)
    (h : wpList Tryd.prog ops Q rest (a.put op.dst undef) (w.setRow g (idC l).toArray)) : wpList Tryd.prog ops Q (op :: rest) a w :=
  wpList_store_row hg 35 x y ho g _ hx hy 35 c he (idsize hl) (by simp [hc, idC_length, hl]) (all_oneCell_toArray (idC_one l)) h

/-- A fresh store. -/
theorem new_any (w : World) : Calls Tryd.prog 8 #[] w fun r w' => r = .returned (.pointer (some ⟨w.heap.size, 0, none⟩)) ∧ w' = w.alloc (.cells #[.slice none 0 0] 65) := by
  go_enter Tryd.func8, Tryd.ntmps8
  go_wp2_with fail
  go_ret
  exact ⟨rfl, rfl⟩
theorem new_st (w : World) : PSt (w.alloc (.cells #[.slice none 0 0] 65)) w.heap.size w.heap.size (.slice none 0 0) [] :=
  ⟨heap_alloc_new _ _, own_nil _ _, Nat.le_refl _, (fun r hr => by cases hr), St.nil_srt, Nat.zero_le _⟩

set_option maxHeartbeats 1000000 in
set_option maxRecDepth 100000 in
theorem put_nil (s : ByteArray) (w : World) :
    Calls Tryd.prog 9 #[.pointer none, .string s] w fun r w' => r = .returned (.tuple #[.agg (idC zId).toArray, .int .i64 1]) ∧ Below w.heap.size w w' := by
  have HB := Lib.hid (below_new w (.cells (idC zId).toArray 35))
  have HE := Lib.hid (heap_alloc_last w (.cells (idC zId).toArray 35))
  go_enter Tryd.func9, Tryd.ntmps9
  go_wp2_with (first
    | ((with_reducible refine bd_zid ?_ ?_ ?_); rfl; rfl)
    | ((with_reducible refine st_id2 (l := zId) (x := .tmp 4) (y := .tmp 11) (g := w.heap.size) ?_ ?_ ?_ ?_ ?_ ?_ ?_ ?_); rfl; rfl; rfl; rfl; rfl; rfl; rfl))
  refine bodyPost_ret (results_cell_tmp (fn := Tryd.f9) (p := 4) (q := 5) (by rfl) _ _ w.heap.size _ _ _ _ (by rfl) HE.out Tryd.underlying35 rfl (by rw [List.size_toArray]; exact idsize rfl)) rfl ⟨rfl, HB.out⟩

set_option maxHeartbeats 1000000 in
set_option maxRecDepth 100000 in
theorem put_bad (b : Nat) (s : ByteArray) (w : World) (hs : s.size ≤ maxLen) (hd : Rm.dec s.data.toList = none) :
    Calls Tryd.prog 9 #[.pointer (some ⟨b, 0, none⟩), .string s] w fun r w' => r = .returned (.tuple #[.agg (idC zId).toArray, .int .i64 2]) ∧ Below w.heap.size w w' := by
  have HB := Lib.hid (below_new w (.cells (idC zId).toArray 35))
  have HE := Lib.hid (heap_alloc_last w (.cells (idC zId).toArray 35))
  have hz28 := (zero_of_info zero28).1
  have HS0 := Lib.hid noF.size
  have HN0 := Lib.hid noF.one
  have HD := Lib.hid (fun W => show Calls Tryd.prog 21 #[.string s] W (fun r w' => r = .returned (.tuple #[.agg (obC noOb nilV nilV).toArray, .int .i64 2]) ∧ Below W.heap.size W w') from dec_no s W hs hd)
  generalize (obC noOb nilV nilV).toArray = z at hz28 HS0 HN0 HD
  clear hd
  go_enter Tryd.func9, Tryd.ntmps9
  go_wp2_with fail
  change Calls _ _ _ (w.alloc (.cells (idC zId).toArray 35)) _
  refine (HD.out _).mono ?_
  rintro r w1 ⟨rfl, hb1⟩
  have E1 := Lib.hid ((hb1.block w.heap.size (by simp)).trans HE.out)
  have E2 := Lib.hid (held_alloc (o := .cells z 42) E1.out)
  have hB2 := (HB.out.trans (hb1.mono (by simp))).alloc (HB.out.trans (hb1.mono (by simp))).size (.cells z 42)
  clear hb1
  go_wp2_with (first
    | ((with_reducible apply st_ob (hs := HS0.out) (h1 := HN0.out)); rfl; rfl; rfl; rfl; exact HS0.out)
    | ((with_reducible refine bd_zid ?_ ?_ ?_); rfl; rfl)
    | ((with_reducible refine st_idg (l := zId) (x := .tmp 4) (y := .tmp 19) (g := w.heap.size) ?_ ?_ ?_ ?_ E2.out ?_ ?_ ?_); rfl; rfl; rfl; rfl; rfl; rfl))
  refine bodyPost_ret (results_cell_tmp (fn := Tryd.f9) (p := 4) (q := 5) (by rfl) _ _ w.heap.size _ _ _ _ (by rfl) (setRow_heap _ _ _ _ _ _ E2.out) Tryd.underlying35 rfl (by rw [List.size_toArray]; exact idsize rfl)) rfl ⟨rfl, below_setRow hB2 (Nat.le_refl _) _⟩

end Go.Proofs.YtipigedopmgemaaDoor
