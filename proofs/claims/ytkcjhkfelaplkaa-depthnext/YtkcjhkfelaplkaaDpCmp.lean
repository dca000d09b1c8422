/-
  WALKS OF LAYER 13: compare; slices.SortFunc of a row of ids by it.
-/
import Derived.Test.YtkcjhkfelaplkaaDpOwn
import Derived.Lib.BytesEntry
namespace Go.Proofs.Ytkcjhkfelaplkaa
open Go.RowKit Go.Sort
set_option linter.unusedVariables false
set_option linter.unusedSimpArgs false

theorem dp_cmp : ∀ a b : List UInt8, a.length = b.length → Lib.compareBytes a b = Gr.cfL a b
  | [], [], _ => rfl
  | [], _ :: _, h => by simp at h
  | _ :: _, [], h => by simp at h
  | x :: a, y :: b, h => by
    have ih := dp_cmp a b (by simpa using h)
    unfold Gr.cfL at ih ⊢
    unfold Lib.compareBytes St.lt
    by_cases e : x = y
    · subst e
      have hlt : ¬ x < x := UInt8.lt_irrefl x
      simp only [hlt, if_false, if_true, ih, List.cons.injEq, true_and]
    · have hne : ¬ (x :: a = y :: b) := fun k => e (List.cons.inj k).1
      rw [if_neg e, if_neg hne]
      by_cases hlt : x < y
      · have : x.toNat < y.toNat := UInt8.lt_iff_toNat_lt.1 hlt
        simp [hlt, this]
      · have h2 : ¬ x.toNat < y.toNat := fun k => hlt (UInt8.lt_iff_toNat_lt.2 k)
        have h3 : y < x := UInt8.lt_of_le_of_ne (UInt8.not_lt.1 hlt) (Ne.symm e)
        simp [hlt, h2, h3]
theorem dp_bytes (l : List UInt8) : Lib.bytesOf (l.map fun b => ((b.toNat : Int))) = l := by
  unfold Lib.bytesOf
  rw [List.map_map]
  have : ((fun (x : Int) => x.toNat.toUInt8) ∘ fun (b : UInt8) => ((b.toNat : Int))) = id := by
    funext b; simp
  first
    | (rw [this]; simp)
    | simp [Function.comp_def]
theorem dp_load (w : World) (l : List UInt8) (a : Addr) (h : ∀ j u, (idC l)[j]? = some u → w.cell? (a.add j) = some u) : (Extern.Bytes.loadBytes a l.length .empty).run Try.prog w = .ok ⟨l.toArray⟩ w := by
  have := Lib.run_loadBytesX (P := Try.prog) w (l.map fun b => ((b.toNat : Int))) a .empty (fun j x hj => h j (.int .u8 x) (by
    rw [List.getElem?_map] at hj
    unfold idC
    rw [List.getElem?_map]
    cases hq : l[j]? with
    | none => rw [hq] at hj; cases hj
    | some b => rw [hq] at hj; simp only [Option.map_some, Option.some.injEq] at hj ⊢; rw [← hj]; rfl))
  rw [dp_bytes, List.length_map] at this
  rw [this]
  congr 1
  apply ByteArray.ext
  simp
theorem dp_cmp_run (w : World) (a b : List UInt8) (pa pb : Addr) (ca cb : Nat) (hl : a.length = b.length) (ha : ∀ j u, (idC a)[j]? = some u → w.cell? (pa.add j) = some u) (hb : ∀ j u, (idC b)[j]? = some u → w.cell? (pb.add j) = some u) :
    (Extern.BytealgCompare.compare #[.slice (some pa) a.length ca, .slice (some pb) b.length cb]).run Try.prog w = .ok (.int .i64 (Gr.cfL a b)) w := by
  change Sem.run Try.prog (do pure (goInt (Extern.BytealgCompare.cmp (← Extern.Bytes.loadBytes pa a.length .empty) (← Extern.Bytes.loadBytes pb b.length .empty)))) w = _
  simp only [Sem.run_bind, Sem.run_pure, Result.andThen, dp_load w a pa ha, dp_load w b pb hb]
  rw [Lib.cmp_eq]
  show Result.ok (goInt (Lib.compareBytes a b)) w = _
  rw [dp_cmp a b hl]
  rfl
theorem dp_cmp_call (w : World) (a b : List UInt8) (pa pb : Addr) (ca cb : Nat) (hl : a.length = b.length) (ha : ∀ j u, (idC a)[j]? = some u → w.cell? (pa.add j) = some u) (hb : ∀ j u, (idC b)[j]? = some u → w.cell? (pb.add j) = some u) :
    (callFunc 44 #[.slice (some pa) a.length ca, .slice (some pb) b.length cb]).run Try.prog w = .ok (.value (.int .i64 (Gr.cfL a b))) w := by
  rw [run_callFunc_extern Try.func44 (by kernel_rfl) (by kernel_rfl) (by kernel_rfl) (e := Extern.BytealgCompare.compare) (by kernel_rfl), dp_cmp_run w a b pa pb ca cb hl ha hb]
  rfl

set_option maxHeartbeats 400000 in
set_option maxRecDepth 100000 in
theorem bcompare_any (w : World) (a b : List UInt8) (pa pb : Addr) (ha : a.length = 32) (hb : b.length = 32) (hac : ∀ j u, (idC a)[j]? = some u → w.cell? (pa.add j) = some u) (hbc : ∀ j u, (idC b)[j]? = some u → w.cell? (pb.add j) = some u) :
    Calls Try.prog 28 #[.slice (some pa) 32 32, .slice (some pb) 32 32] w fun r w' => r = .returned (.int .i64 (Gr.cfL a b)) ∧ w' = w := by
  have hc := dp_cmp_call w a b pa pb 32 32 (by rw [ha, hb]) hac hbc
  rw [ha, hb] at hc
  clear hac hbc ha hb
  generalize Gr.cfL a b = R at *
  go_enter Try.func28, Try.ntmps28
  go_wp2_with fail
  go_ret
  exact ⟨rfl, rfl⟩
set_option maxHeartbeats 1000000 in
set_option maxRecDepth 100000 in
theorem dpcompare_l (a b : List UInt8) (ha : a.length = 32) (hb : b.length = 32) (w : World) :
    Calls Try.prog 14 #[.agg (idC a).toArray, .agg (idC b).toArray] w fun r w' => r = .returned (.int .i64 (Gr.cfL a b)) ∧ RowKit.Below w.heap.size w w' ∧ w.drawn ≤ w'.drawn := by
  have HX2 := Lib.hid (row_news (show ((w.alloc (.cells (idC a).toArray 28)).alloc (.cells (idC b).toArray 28)).heap[w.heap.size]? = some (.cells (idC a).toArray 28) from heap_alloc2_old _ _ _))
  have HY2 := Lib.hid (row_news (new2 w (.cells (idC a).toArray 28) (.cells (idC b).toArray 28)))
  have HB2 := Lib.hid (below2 w (.cells (idC a).toArray 28) (.cells (idC b).toArray 28))
  have HBC := Lib.hid (bcompare_any (((w.alloc (.cells (idC a).toArray 28)).alloc (.cells (idC b).toArray 28)).drew) a b ⟨w.heap.size, 0, none⟩ ⟨w.heap.size + 1, 0, none⟩ ha hb HX2.out HY2.out)
  have HD2 := Lib.hid (show w.drawn ≤ ((w.alloc (.cells (idC a).toArray 28)).alloc (.cells (idC b).toArray 28)).drawn from Nat.le_refl _)
  clear ha hb HX2 HY2
  go_enter Try.func14, Try.ntmps14
  go_wp2_with fail
  refine rgn_tail 2 (by kernel_rfl) (by kernel_rfl) ?_
  simp only [List.take_succ_cons, List.take_zero, List.drop_succ_cons, List.drop_zero]
  repeat still_step
  refine wpStill_nil ?_
  go_wp2_with fail
  with_reducible refine HBC.out.mono ?_
  rintro r w2 ⟨rfl, rfl⟩
  go_wp2_with fail
  go_ret
  exact ⟨rfl, HB2.out.drew, Nat.le_succ _⟩
end Go.Proofs.Ytkcjhkfelaplkaa
