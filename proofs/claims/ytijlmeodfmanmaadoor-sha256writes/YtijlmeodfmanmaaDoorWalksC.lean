/-
  WALKS OF LAYER 2: mix.
-/
import Derived.Test.YtijlmeodfmanmaaDoorWalksB
namespace Go.Proofs.YtijlmeodfmanmaaDoor
open Go.RowKit
set_option linter.unusedVariables false
set_option linter.unusedSimpArgs false
open Sh (Wd)

/-- A state, as eight values. -/
def stA (s : Sh.St) : Array Value := #[.int .u32 (s.a.toNat : Int), .int .u32 (s.b.toNat : Int), .int .u32 (s.c.toNat : Int), .int .u32 (s.d.toNat : Int), .int .u32 (s.e.toNat : Int), .int .u32 (s.f.toNat : Int), .int .u32 (s.g.toNat : Int), .int .u32 (s.h.toNat : Int)]
/-- The package variable roundWords holds K0 to K63. -/
def KIn (w : World) : Prop := 0 < w.heap.size ∧ ∀ t, t < 64 → w.cell? ⟨0, t, none⟩ = some (.int .u32 ((Sh.K.getD t 0).toNat : Int))
theorem KIn.pos {w : World} (h : KIn w) : 0 < w.heap.size := h.1
theorem KIn.below {w w' : World} {B : Nat} (h : KIn w) (hb : Below B w w') (hB : 0 < B) : KIn w' := ⟨Nat.lt_of_lt_of_le h.1 hb.size, fun t ht => (hb.cell (p := ⟨0, t, none⟩) hB).trans (h.2 t ht)⟩
theorem K_len : Sh.K.length = 64 := by decide
theorem KIn.cell {w : World} (h : KIn w) (t : Nat) (ht : t < 64) : w.cell? ⟨0, t, none⟩ = some (.int .u32 ((Sh.K.getD t 0).toNat : Int)) := h.2 t ht

theorem w_not2 (x : Wd) : bits .xor .u32 (if IntKind.u32.signed = true then -1 else IntKind.u32.max) (x.toNat : Int) = ((~~~x).toNat : Int) := w_not x
theorem info40 : (Tryd.prog.info? 40).map (·.size) = some 8 := by kernel_rfl

theorem after_two {w w1 : World} {A Z X : Obj} (hb : Below ((w.alloc A).alloc Z).heap.size ((w.alloc A).alloc Z) w1) :
    w.heap.size + 2 ≤ w1.heap.size ∧ (w1.alloc X).heap[w.heap.size]? = some A ∧ (w1.alloc X).heap[w.heap.size + 1]? = some Z ∧ (w1.alloc X).heap[w1.heap.size]? = some X ∧ Below w.heap.size w (w1.alloc X) := by
  have hs : ((w.alloc A).alloc Z).heap.size = w.heap.size + 2 := by simp
  have h1 := hb.size
  rw [hs] at h1
  refine ⟨h1, ?_, ?_, heap_alloc_new _ _, ?_⟩
  · rw [Below.heap_alloc _ _ _ (by omega), hb.block _ (by omega)]; exact heap_alloc2_old _ _ _
  · rw [Below.heap_alloc _ _ _ (by omega), hb.block _ (by omega)]; exact heap_alloc2_new _ _ _
  · exact ((((Below.refl _ _).alloc (Nat.le_refl _) _).alloc (by simp) _).trans (hb.mono (by omega))).alloc (by omega) _

/-- Eight cells of a block, stored one by one. -/
def set8 (w : World) (g : Nat) (v0 v1 v2 v3 v4 v5 v6 v7 : Value) : World := (((((((w.setCell ⟨g, 0, none⟩ v0).setCell ⟨g, 1, none⟩ v1).setCell ⟨g, 2, none⟩ v2).setCell ⟨g, 3, none⟩ v3).setCell ⟨g, 4, none⟩ v4).setCell ⟨g, 5, none⟩ v5).setCell ⟨g, 6, none⟩ v6).setCell ⟨g, 7, none⟩ v7
theorem set8_held {w : World} {g : Nat} {t : TypeId} {z0 z1 z2 z3 z4 z5 z6 z7 : Value} (h : w.heap[g]? = some (.cells #[z0, z1, z2, z3, z4, z5, z6, z7] t)) (v0 v1 v2 v3 v4 v5 v6 v7 : Value) :
    (set8 w g v0 v1 v2 v3 v4 v5 v6 v7).heap[g]? = some (.cells #[v0, v1, v2, v3, v4, v5, v6, v7] t) := by
  have h1 : (w.setCell ⟨g, 0, none⟩ v0).heap[g]? = some (.cells #[v0, z1, z2, z3, z4, z5, z6, z7] t) := held_set h 0 v0
  have h2 : ((w.setCell ⟨g, 0, none⟩ v0).setCell ⟨g, 1, none⟩ v1).heap[g]? = some (.cells #[v0, v1, z2, z3, z4, z5, z6, z7] t) := held_set h1 1 v1
  have h3 : (((w.setCell ⟨g, 0, none⟩ v0).setCell ⟨g, 1, none⟩ v1).setCell ⟨g, 2, none⟩ v2).heap[g]? = some (.cells #[v0, v1, v2, z3, z4, z5, z6, z7] t) := held_set h2 2 v2
  have h4 : ((((w.setCell ⟨g, 0, none⟩ v0).setCell ⟨g, 1, none⟩ v1).setCell ⟨g, 2, none⟩ v2).setCell ⟨g, 3, none⟩ v3).heap[g]? = some (.cells #[v0, v1, v2, v3, z4, z5, z6, z7] t) := held_set h3 3 v3
  have h5 : (((((w.setCell ⟨g, 0, none⟩ v0).setCell ⟨g, 1, none⟩ v1).setCell ⟨g, 2, none⟩ v2).setCell ⟨g, 3, none⟩ v3).setCell ⟨g, 4, none⟩ v4).heap[g]? = some (.cells #[v0, v1, v2, v3, v4, z5, z6, z7] t) := held_set h4 4 v4
  have h6 : ((((((w.setCell ⟨g, 0, none⟩ v0).setCell ⟨g, 1, none⟩ v1).setCell ⟨g, 2, none⟩ v2).setCell ⟨g, 3, none⟩ v3).setCell ⟨g, 4, none⟩ v4).setCell ⟨g, 5, none⟩ v5).heap[g]? = some (.cells #[v0, v1, v2, v3, v4, v5, z6, z7] t) := held_set h5 5 v5
  have h7 : (((((((w.setCell ⟨g, 0, none⟩ v0).setCell ⟨g, 1, none⟩ v1).setCell ⟨g, 2, none⟩ v2).setCell ⟨g, 3, none⟩ v3).setCell ⟨g, 4, none⟩ v4).setCell ⟨g, 5, none⟩ v5).setCell ⟨g, 6, none⟩ v6).heap[g]? = some (.cells #[v0, v1, v2, v3, v4, v5, v6, z7] t) := held_set h6 6 v6
  have h8 : ((((((((w.setCell ⟨g, 0, none⟩ v0).setCell ⟨g, 1, none⟩ v1).setCell ⟨g, 2, none⟩ v2).setCell ⟨g, 3, none⟩ v3).setCell ⟨g, 4, none⟩ v4).setCell ⟨g, 5, none⟩ v5).setCell ⟨g, 6, none⟩ v6).setCell ⟨g, 7, none⟩ v7).heap[g]? = some (.cells #[v0, v1, v2, v3, v4, v5, v6, v7] t) := held_set h7 7 v7
  exact h8
theorem set8_below {w0 w : World} {g B : Nat} (h : Below B w0 w) (hg : B ≤ g) (v0 v1 v2 v3 v4 v5 v6 v7 : Value) : Below B w0 (set8 w g v0 v1 v2 v3 v4 v5 v6 v7) :=
  (((((((h.setCell hg v0).setCell hg v1).setCell hg v2).setCell hg v3).setCell hg v4).setCell hg v5).setCell hg v6).setCell hg v7
theorem set8_apart {w : World} {k g : Nat} {x : Option Obj} (h : w.heap[k]? = x) (hne : k ≠ g) (v0 v1 v2 v3 v4 v5 v6 v7 : Value) : (set8 w g v0 v1 v2 v3 v4 v5 v6 v7).heap[k]? = x :=
  held_apart (held_apart (held_apart (held_apart (held_apart (held_apart (held_apart (held_apart h _ _ _ hne) _ _ _ hne) _ _ _ hne) _ _ _ hne) _ _ _ hne) _ _ _ hne) _ _ _ hne) _ _ _ hne

set_option maxHeartbeats 800000 in
set_option maxRecDepth 100000 in
theorem mix_any (s : Sh.St) (b : ByteArray) (w : World) (hb : b.size = 64) (hk : KIn w) :
    Calls Tryd.prog 27 #[.agg (stA s), .string b] w fun r w' => r = .returned (.agg (stA (Sh.mix s b.data.toList))) ∧ Below w.heap.size w w' := by
  have HB := Lib.hid hb
  have HK := Lib.hid hk
  have hp := hk.pos
  clear hb hk
  have hl := Sh.wd_length b.data.toList 64
  have HC := Lib.hid (fun (t : Nat) (ht : t < 64) => arr_get (Sh.wd b.data.toList 64) t (by omega))
  have h1 := arr_one (Sh.wd b.data.toList 64)
  have hs := arr_size (Sh.wd b.data.toList 64) (by omega)
  have hi : (Tryd.prog.info? 48).map (·.size) = some (arr (Sh.wd b.data.toList 64)).size := by rw [hs]; exact (zero_of_info info48).2
  have HS := Lib.hid hs
  have HI := Lib.hid hi
  have H1 := Lib.hid h1
  clear hs hi hl h1
  generalize hcs : arr (Sh.wd b.data.toList 64) = cs at HC HS HI H1
  have HW := Lib.hid hcs
  clear hcs
  generalize hM : Sh.mix s b.data.toList = M
  have HM := Lib.hid hM
  clear hM
  obtain ⟨a0, b0, c0, d0, e0, f0, g0, h0⟩ := s
  unfold stA
  go_enter Tryd.func27, Tryd.ntmps27
  go_wp2_with fail
  refine (schedule_any b _ HB.out).mono ?_
  rw [HW.out]
  rintro r w1 ⟨rfl, hb1⟩
  go_wp2_with (refine wpList_store_row rfl 48 _ _ rfl w1.heap.size _ rfl rfl _ _ (heap_alloc_new _ _) HI.out (by rw [HS.out]; rfl) H1.out ?_)
  rw [World.setRow_alloc_new]
  obtain ⟨hsz, F0, F1, F2, hb2⟩ := after_two (X := .cells cs 48) hb1
  have HK2 := Lib.hid (HK.out.below hb2 hp)
  generalize w1.alloc (.cells cs 48) = w2 at F0 F1 F2 hb2 HK2 ⊢
  clear hb1
  generalize w1.heap.size = G at hsz F2 ⊢
  have k0 := cell_of_row w2 w.heap.size 0 _ _ _ F0
  have k1 := cell_of_row w2 w.heap.size 1 _ _ _ F0
  have k2 := cell_of_row w2 w.heap.size 2 _ _ _ F0
  have k3 := cell_of_row w2 w.heap.size 3 _ _ _ F0
  have k4 := cell_of_row w2 w.heap.size 4 _ _ _ F0
  have k5 := cell_of_row w2 w.heap.size 5 _ _ _ F0
  have k6 := cell_of_row w2 w.heap.size 6 _ _ _ F0
  have k7 := cell_of_row w2 w.heap.size 7 _ _ _ F0
  have E0 := Lib.hid F0
  have E1 := Lib.hid F1
  have E2 := Lib.hid F2
  clear F0 F1 F2
  refine region_still (by kernel_rfl) (by kernel_rfl) ?_
  repeat still_step
  refine wpStill_nil ?_
  go_wp2
  go_loopw [6, 7, 8, 9, 10, 11, 12, 13, 35] (fun va vb vc vd ve vf vg vh i wr => ∃ (t : Nat) (s : Sh.St), t ≤ 64 ∧ i = .int .i64 t ∧ Hid (Sh.rounds b.data.toList ⟨a0, b0, c0, d0, e0, f0, g0, h0⟩ t = s) ∧ va = .int .u32 (s.a.toNat : Int) ∧ vb = .int .u32 (s.b.toNat : Int) ∧ vc = .int .u32 (s.c.toNat : Int) ∧ vd = .int .u32 (s.d.toNat : Int) ∧ ve = .int .u32 (s.e.toNat : Int) ∧ vf = .int .u32 (s.f.toNat : Int) ∧ vg = .int .u32 (s.g.toNat : Int) ∧ vh = .int .u32 (s.h.toNat : Int) ∧ Hid (wr.heap = w2.heap) ∧ Below w.heap.size w wr) (fun _ _ _ _ _ _ _ _ i _ => 64 - (intOf i).toNat)
  case atStart => exact ⟨0, _, by omega, rfl, rfl, rfl, rfl, rfl, rfl, rfl, rfl, rfl, rfl, rfl, hb2.drew⟩
  case round =>
    obtain ⟨t, s, ht, rfl, HR, rfl, rfl, rfl, rfl, rfl, rfl, rfl, rfl, HH, hbr⟩ := hrel
    by_cases hlt : t < 64
    · have hck := HK2.out.cell t hlt
      have hcw := (cell_of_row w2 G t _ _ _ E2.out).trans (HC.out t hlt)
      have HN := Lib.hid (show Sh.rounds b.data.toList ⟨a0, b0, c0, d0, e0, f0, g0, h0⟩ (t + 1) = Sh.rnd s (Sh.K.getD t 0) ((Sh.wd b.data.toList 64).getD t 0) by rw [Sh.rounds, HR.out])
      generalize Sh.K.getD t 0 = kt at hck HN
      generalize (Sh.wd b.data.toList 64).getD t 0 = wt at hcw HN
      rw [show w2.cell? ⟨0, t, none⟩ = wr.cell? ⟨0, t, none⟩ by simp only [World.cell?, HH.out]] at hck
      rw [show w2.cell? ⟨G, t, none⟩ = wr.cell? ⟨G, t, none⟩ by simp only [World.cell?, HH.out]] at hcw
      clear HR k0 k1 k2 k3 k4 k5 k6 k7
      obtain ⟨a, b', c, d, e, f, g, h⟩ := s
      have hlt' : (t : Int) < 64 := by omega
      go_wp2
      refine region_still (by kernel_rfl) (by kernel_rfl) ?_
      repeat still_step
      still_call (still_of (right_any _ 6 _ (by decide) (by decide)))
      repeat still_step
      still_call (still_of (right_any _ 11 _ (by decide) (by decide)))
      repeat still_step
      still_call (still_of (right_any _ 25 _ (by decide) (by decide)))
      repeat still_step
      refine wpStill_nil ?_
      simp only [w_xor, w_and, w_not, w_not', w_not2, w_add, w_add']
      rw [show h + (Sh.rr e 6 ^^^ Sh.rr e 11 ^^^ Sh.rr e 25) + (e &&& f ^^^ ~~~e &&& g) + kt + wt = Sh.xs ⟨a, b', c, d, e, f, g, h⟩ kt wt from rfl]
      generalize hx : Sh.xs ⟨a, b', c, d, e, f, g, h⟩ kt wt = x
      have HX := Lib.hid hx
      clear hx
      go_wp2_with fail
      refine (right_any _ 2 _ (by decide) (by decide)).mono ?_
      rintro r w3 ⟨rfl, rfl⟩
      go_wp2_with fail
      refine (right_any _ 13 _ (by decide) (by decide)).mono ?_
      rintro r w3 ⟨rfl, rfl⟩
      go_wp2_with fail
      refine (right_any _ 22 _ (by decide) (by decide)).mono ?_
      rintro r w3 ⟨rfl, rfl⟩
      go_wp2_with fail
      go_roundw
      case rel =>
        refine ⟨t + 1, _, by omega, by go_num, HN, ?_, rfl, rfl, rfl, ?_, rfl, rfl, rfl, HH, hbr.drew⟩
        · simp only [w_xor, w_and, w_add']
          rw [← HX.out]
          rfl
        · simp only [w_add']
          rw [← HX.out]
          rfl
      case measure => simp [intOf]; omega
    · have HT := Lib.hid (show t = 64 by omega)
      have HP := Lib.hid (show Sh.plus ⟨a0, b0, c0, d0, e0, f0, g0, h0⟩ s = M by rw [← HM.out, Sh.mix, ← HR.out, HT.out])
      have hce : ∀ i, w2.cell? ⟨w.heap.size, i, none⟩ = wr.cell? ⟨w.heap.size, i, none⟩ := fun i => by simp only [World.cell?, HH.out]
      rw [hce] at k0 k1 k2 k3 k4 k5 k6 k7
      clear hce
      have HO := Lib.hid ((show wr.heap[w.heap.size + 1]? = w2.heap[w.heap.size + 1]? by rw [HH.out]).trans E1.out)
      obtain ⟨a, b', c, d, e, f, g, h⟩ := s
      have z0 := cell_of_row wr (w.heap.size + 1) 0 _ _ _ HO.out
      have y0 := frozen_of_row wr (w.heap.size + 1) 0 _ _ HO.out
      have z1 := cell_of_row wr (w.heap.size + 1) 1 _ _ _ HO.out
      have y1 := frozen_of_row wr (w.heap.size + 1) 1 _ _ HO.out
      have z2 := cell_of_row wr (w.heap.size + 1) 2 _ _ _ HO.out
      have y2 := frozen_of_row wr (w.heap.size + 1) 2 _ _ HO.out
      have z3 := cell_of_row wr (w.heap.size + 1) 3 _ _ _ HO.out
      have y3 := frozen_of_row wr (w.heap.size + 1) 3 _ _ HO.out
      have z4 := cell_of_row wr (w.heap.size + 1) 4 _ _ _ HO.out
      have y4 := frozen_of_row wr (w.heap.size + 1) 4 _ _ HO.out
      have z5 := cell_of_row wr (w.heap.size + 1) 5 _ _ _ HO.out
      have y5 := frozen_of_row wr (w.heap.size + 1) 5 _ _ HO.out
      have z6 := cell_of_row wr (w.heap.size + 1) 6 _ _ _ HO.out
      have y6 := frozen_of_row wr (w.heap.size + 1) 6 _ _ HO.out
      have z7 := cell_of_row wr (w.heap.size + 1) 7 _ _ _ HO.out
      have y7 := frozen_of_row wr (w.heap.size + 1) 7 _ _ HO.out
      go_wp2
      simp only [w_add']
      obtain rfl := HP.out
      refine bodyPost_ret (v := .agg (stA (Sh.plus ⟨a0, b0, c0, d0, e0, f0, g0, h0⟩ ⟨a, b', c, d, e, f, g, h⟩))) ?_ rfl ⟨rfl, set8_below hbr (by omega) _ _ _ _ _ _ _ _⟩
      exact results_cell_row (by rfl) _ _ (w.heap.size + 1) _ _ _ _ (by rfl) (set8_held HO.out _ _ _ _ _ _ _ _) Tryd.underlying40 rfl info40

end Go.Proofs.YtijlmeodfmanmaaDoor
