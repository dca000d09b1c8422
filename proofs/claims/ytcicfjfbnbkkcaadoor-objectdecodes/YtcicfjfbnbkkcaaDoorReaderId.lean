/-
  WALKS OF LAYER 4: the reader's id, where there is too little.
-/
import Derived.Test.YtcicfjfbnbkkcaaDoorReader2
namespace Go.Proofs.YtcicfjfbnbkkcaaDoor
open Go.RowKit
set_option linter.unusedVariables false
set_option linter.unusedSimpArgs false

/-- A whole id into a block that is known. -/
theorem st_idr {ops : Array Oper} {rest : List Oper} {op : Oper} {a : Act} {w : World} {Q : Exit → Act → World → Prop} {x y : Operand} {g : Nat} {l : List UInt8} {c : Array Value} (ho : op.op = .store 25 x y) (hx : a.eval x = .pointer (some ⟨g, 0, none⟩)) (hy : a.eval y = .agg (idC l).toArray) (hgd : op.guard = none)
    (hg : w.heap[g]? = some (.cells c 25)) (hc : c.size = 32) (hl : l.length = 32)
    (h : wpList Tryd.prog ops Q rest (a.put op.dst undef) (w.setRow g (idC l).toArray)) : wpList Tryd.prog ops Q (op :: rest) a w :=
  wpList_store_row hgd _ x y ho g _ hx hy _ c hg (by rw [List.size_toArray]; exact idsize hl) (by rw [hc, List.size_toArray, idC_length, hl]) (all_oneCell_toArray (idC_one l)) h
theorem zsize : (idC zId).toArray.size = 32 := rfl

set_option maxHeartbeats 1000000 in
set_option maxRecDepth 100000 in
theorem id_short (g : Nat) (s : ByteArray) (b : Bool) (w : World) (h : Rd w g s b) (hs : s.size < 32) :
    Calls Tryd.prog 54 #[.pointer (some ⟨g, 0, none⟩)] w fun r w' => r = .returned (.agg (idC zId).toArray) ∧ Rd w' g ⟨#[]⟩ true ∧ w.grownBy w' (some g) := by
  have hz24 := (zero_of_info zero24).1
  have hs' : (s.size : Int) < 32 := by omega
  have hlt := (Array.getElem?_eq_some_iff.1 h).1
  have HZ := Lib.hid zsize
  have HZL := Lib.hid (show zId.length = 32 from rfl)
  have R1 : Rd ((w.alloc (.cells (idC zId).toArray 25)).alloc (.cells (idC zId).toArray 25)) g s b := (Lib.alloc_old _ _ g (by simp; omega)).trans ((Lib.alloc_old w _ g hlt).trans h)
  have E0 := Lib.hid (heap_alloc2_old w (.cells (idC zId).toArray 25) (.cells (idC zId).toArray 25))
  have G0 := grown_trans (World.grownBy_alloc w (.cells (idC zId).toArray 25) (some g)) (World.grownBy_alloc (w.alloc (.cells (idC zId).toArray 25)) (.cells (idC zId).toArray 25) (some g))
  have c0 := R1.c0
  have HF := Lib.hid (fail_any g s b _ R1)
  clear h R1
  go_enter Tryd.func54, Tryd.ntmps54
  go_wp2_with fail
  refine HF.out.mono ?_
  rintro r w1 ⟨rfl, R2, g2⟩
  have E1 := Lib.hid ((g2.block w.heap.size (Array.getElem?_eq_some_iff.1 E0.out).1 (by simp; omega)).trans E0.out)
  have G1 := grown_trans G0 g2
  clear G0 g2 E0
  go_wp2_with (first
    | ((with_reducible refine bd_zid ?_ ?_ ?_); rfl; rfl)
    | ((with_reducible refine st_idr (x := .tmp 2) (y := .tmp 12) ?_ ?_ ?_ ?_ E1.out HZ.out HZL.out ?_); rfl; rfl; rfl; rfl))
  refine bodyPost_ret (results_cell_row (fn := Tryd.f54) (p := 2) (by rfl) _ _ w.heap.size _ _ _ _ (by rfl) (setRow_heap _ _ _ _ _ _ E1.out) Tryd.underlying25 rfl (by rw [List.size_toArray]; exact idsize HZL.out)) rfl ⟨rfl, ?_, ?_⟩
  · exact (setRow_other _ _ _ _ (by omega)).trans R2
  · exact ⟨G1.os, G1.tape, G1.output, by have := G1.size; simp [World.setRow]; omega, fun k hk hne => (setRow_other _ _ _ _ (by omega)).trans (G1.block k hk hne)⟩
end Go.Proofs.YtcicfjfbnbkkcaaDoor
