/-
  WALKS OF LAYER 11: Get, Kind, Len, Copy; of no store: Object too.
-/
import Derived.Test.YtipigedopmgemaaDoorStPut2
namespace Go.Proofs.YtipigedopmgemaaDoor
open Go.RowKit
set_option linter.unusedVariables false
set_option linter.unusedSimpArgs false

theorem add_two (a : Addr) (n k : Nat) (hk : k ≠ 0) : (a.add n).add k = ⟨a.block, a.off + n + k, none⟩ := by
  unfold Addr.add
  rw [if_neg hk]
  split
  · subst_vars; simp
  · rfl

set_option maxHeartbeats 1000000 in
set_option maxRecDepth 100000 in
theorem get_nil (id : List UInt8) (w : World) (hil : id.length = 32) :
    Calls Tryd.prog 13 #[.pointer none, .agg (idC id).toArray] w fun r w' => r = .returned (.tuple #[.string ⟨#[]⟩, .bool false]) ∧ Below w.heap.size w w' := by
  have HB := Lib.hid (below_new w (.cells (idC id).toArray 35))
  have HR := Lib.hid (row_news (heap_alloc_new w (.cells (idC id).toArray 35)))
  have HL := Lib.hid hil
  have HP := Lib.hid (fun W => place_nil id W)
  clear hil
  go_enter Tryd.func13, Tryd.ntmps13
  go_wp2_with ((with_reducible refine ld_id (x := .tmp 3) (p := ⟨w.heap.size, 0, none⟩) ?_ ?_ ?_ HR.out HL.out ?_); rfl; rfl; rfl)
  refine (HP.out _).mono ?_
  rintro r w1 ⟨rfl, hb1⟩
  have hB := HB.out.trans (hb1.mono (by simp))
  clear hb1
  go_wp2_with fail
  go_ret2
  exact ⟨rfl, hB⟩

set_option maxHeartbeats 1000000 in
set_option maxRecDepth 100000 in
theorem get_at (w : World) (base b : Nat) (v : Value) (L : List St.It) (k : Nat) (r : St.It) (h : PSt w base b v L) (hr : L[k]? = some r) :
    Calls Tryd.prog 13 #[.pointer (some ⟨b, 0, none⟩), .agg (idC r.id).toArray] w fun e w' => e = .returned (.tuple #[.string r.text, .bool true]) ∧ Below w.heap.size w w' := by
  have hpos := St.pos_eq h.srt hr
  have hhas := St.has_of hr rfl
  have hrl := h.len r (List.mem_of_getElem? hr)
  have hfew := h.few
  have hkl : k < L.length := (List.getElem?_eq_some_iff.1 hr).1
  have HB := Lib.hid (below_new w (.cells (idC r.id).toArray 35))
  have HR := Lib.hid (row_news (heap_alloc_new w (.cells (idC r.id).toArray 35)))
  have HL := Lib.hid hrl
  have HP := Lib.hid (place_any _ base b v L r.id (h.below HB.out) hrl)
  rw [hpos, hhas] at HP
  obtain ⟨ao, cap, rfl⟩ := h.form
  have HH := Lib.hid h
  have HQ := Lib.hid hr
  clear h hr hrl hpos hhas
  go_enter Tryd.func13, Tryd.ntmps13
  go_wp2_with ((with_reducible refine ld_id (x := .tmp 3) (p := ⟨w.heap.size, 0, none⟩) ?_ ?_ ?_ HR.out HL.out ?_); rfl; rfl; rfl)
  refine HP.out.mono ?_
  rintro e w1 ⟨rfl, hb1⟩
  have hB := HB.out.trans (hb1.mono (show w.heap.size ≤ _ by simp))
  have HH1 := HH.out.below hB
  obtain ⟨a, rfl, _, hc⟩ := HH1.elem k r HQ.out
  have ct := it_text hc HL.out
  rw [add_two a (k * 33) 32 (by decide)] at ct
  have cb := HH1.cell
  have hA1 := add_block a (k * 33)
  have hA2 : (a.add (k * 33)).off = a.off + k * 33 := by unfold Addr.add; split <;> simp_all
  have g1 : (k : Int) < (L.length : Int) := by omega
  have g2 : (0 : Int) ≤ (k : Int) := by omega
  clear hb1 HP HH1 hc
  go_wp2_with fail
  go_ret2
  exact ⟨rfl, hB⟩

set_option maxHeartbeats 1000000 in
set_option maxRecDepth 100000 in
theorem kind_nil (id : List UInt8) (w : World) (hil : id.length = 32) :
    Calls Tryd.prog 15 #[.pointer none, .agg (idC id).toArray] w fun r w' => r = .returned (.int .i64 0) ∧ Below w.heap.size w w' := by
  have HB := Lib.hid (below_new w (.cells (idC id).toArray 35))
  have HR := Lib.hid (row_news (heap_alloc_new w (.cells (idC id).toArray 35)))
  have HL := Lib.hid hil
  have HP := Lib.hid (fun W => get_nil id W hil)
  clear hil
  go_enter Tryd.func15, Tryd.ntmps15
  go_wp2_with ((with_reducible refine ld_id (x := .tmp 3) (p := ⟨w.heap.size, 0, none⟩) ?_ ?_ ?_ HR.out HL.out ?_); rfl; rfl; rfl)
  refine (HP.out _).mono ?_
  rintro r w1 ⟨rfl, hb1⟩
  have hB := HB.out.trans (hb1.mono (by simp))
  clear hb1
  go_wp2_with fail
  go_ret
  exact ⟨rfl, hB⟩

set_option maxHeartbeats 1000000 in
set_option maxRecDepth 100000 in
theorem kind_at (w : World) (base b : Nat) (v : Value) (L : List St.It) (k : Nat) (r : St.It) (h : PSt w base b v L) (hr : L[k]? = some r) (h0 : 0 < r.text.size) (z : Int) (hz : (r.text[0].toNat : Int) = z) :
    Calls Tryd.prog 15 #[.pointer (some ⟨b, 0, none⟩), .agg (idC r.id).toArray] w fun e w' => e = .returned (.int .i64 z) ∧ Below w.heap.size w w' := by
  have hrl := h.len r (List.mem_of_getElem? hr)
  have HB := Lib.hid (below_new w (.cells (idC r.id).toArray 35))
  have HR := Lib.hid (row_news (heap_alloc_new w (.cells (idC r.id).toArray 35)))
  have HL := Lib.hid hrl
  have HP := Lib.hid (get_at _ base b v L k r (h.below HB.out) hr)
  have HZ := Lib.hid hz
  clear h hr hrl hz
  have h0' : (0 : Int) < (r.text.size : Int) := by omega
  have hb0 : (0 : Int) ≤ (r.text[0].toNat : Int) := by omega
  have hb1 : (r.text[0].toNat : Int) ≤ 255 := by have := r.text[0].toNat_lt; omega
  go_enter Tryd.func15, Tryd.ntmps15
  go_wp2_with ((with_reducible refine ld_id (x := .tmp 3) (p := ⟨w.heap.size, 0, none⟩) ?_ ?_ ?_ HR.out HL.out ?_); rfl; rfl; rfl)
  refine HP.out.mono ?_
  rintro e w1 ⟨rfl, hb1⟩
  have hB := HB.out.trans (hb1.mono (show w.heap.size ≤ _ by simp))
  clear hb1 HP
  go_wp2_with fail
  go_ret
  exact ⟨ret_int HZ.out, hB⟩

set_option maxHeartbeats 400000 in
theorem len_nil (w : World) : Calls Tryd.prog 16 #[.pointer none] w fun r w' => r = .returned (.int .i64 0) ∧ w = w' := by
  go_enter Tryd.func16, Tryd.ntmps16
  go_wp2_with fail
  go_ret
  exact ⟨rfl, rfl⟩
set_option maxHeartbeats 400000 in
theorem len_any (w : World) (base b : Nat) (v : Value) (L : List St.It) (h : PSt w base b v L) : Calls Tryd.prog 16 #[.pointer (some ⟨b, 0, none⟩)] w fun r w' => r = .returned (.int .i64 (L.length : Int)) ∧ w = w' := by
  obtain ⟨ao, cap, rfl⟩ := h.form
  have cb := h.cell
  clear h
  go_enter Tryd.func16, Tryd.ntmps16
  go_wp2_with fail
  go_ret
  exact ⟨rfl, rfl⟩

set_option maxHeartbeats 400000 in
theorem copy_nil (w : World) : Calls Tryd.prog 11 #[.pointer none] w fun r w' => r = .returned (.pointer none) ∧ w = w' := by
  go_enter Tryd.func11, Tryd.ntmps11
  go_wp2_with fail
  go_ret
  exact ⟨rfl, rfl⟩
set_option maxHeartbeats 1000000 in
set_option maxRecDepth 100000 in
theorem copy_any (w : World) (base b : Nat) (v : Value) (L : List St.It) (h : PSt w base b v L) : Calls Tryd.prog 11 #[.pointer (some ⟨b, 0, none⟩)] w fun r w' => ∃ b' v', r = .returned (.pointer (some ⟨b', 0, none⟩)) ∧ PSt w' w.heap.size b' v' L ∧ Below w.heap.size w w' := by
  have HH := Lib.hid h
  have HC := Lib.hid (clone_any v L w (h.own.rows h.len) (by have := h.few; omega))
  have cb := h.cell
  clear h
  go_enter Tryd.func11, Tryd.ntmps11
  go_wp2_with fail
  refine HC.out.mono ?_
  rintro r w1 ⟨v', rfl, ho1, hb1⟩
  have HO := Lib.hid ho1
  have HB := Lib.hid hb1
  have hs1 := hb1.size
  obtain ⟨ao', cap', rfl⟩ := own_shape ho1
  clear ho1 hb1 HC cb
  go_wp2_with fail
  go_ret
  exact ⟨_, _, rfl, ⟨heap_alloc_new _ _, own_bel HO.out (below_new _ _), hs1, HH.out.len, HH.out.srt, HH.out.few⟩, HB.out.alloc hs1 _⟩

set_option maxHeartbeats 1000000 in
set_option maxRecDepth 100000 in
theorem object_nil (id : List UInt8) (w : World) (hil : id.length = 32) :
    Calls Tryd.prog 14 #[.pointer none, .agg (idC id).toArray] w fun r w' => r = .returned (.tuple #[.agg (obC noOb nilV nilV).toArray, .bool false]) ∧ Below w.heap.size w w' := by
  have hz28 := (zero_of_info zero28).1
  have HS0 := Lib.hid noF.size
  have HN0 := Lib.hid noF.one
  have HBN := Lib.hid built_none
  have HL := Lib.hid hil
  have HP := Lib.hid (fun W => get_nil id W hil)
  generalize (obC noOb nilV nilV).toArray = z at *
  have HR := Lib.hid (row_news (heap_alloc_new w (.cells (idC id).toArray 35)))
  have HR2 := Lib.hid (fun j u hu => ((below_new _ (.cells z 42)).cell (World.block_lt_of_cell? _ _ (HR.out j u hu))).trans (HR.out j u hu))
  have HE2 := Lib.hid (heap_alloc_new (w.alloc (.cells (idC id).toArray 35)) (.cells z 42))
  have HB2 := Lib.hid (below2 w (.cells (idC id).toArray 35) (.cells z 42))
  rw [show (w.alloc (.cells (idC id).toArray 35)).heap.size = w.heap.size + 1 by simp] at HE2
  clear hil
  go_enter Tryd.func14, Tryd.ntmps14
  go_wp2_with ((with_reducible refine ld_id (x := .tmp 3) (p := ⟨w.heap.size, 0, none⟩) ?_ ?_ ?_ HR2.out HL.out ?_); rfl; rfl; rfl)
  refine (HP.out _).mono ?_
  rintro r w1 ⟨rfl, hb1⟩
  have hB := HB2.out.trans (hb1.mono (by simp; omega))
  have E1 := Lib.hid ((hb1.block (w.heap.size + 1) (by simp)).trans HE2.out)
  clear hb1 HR HR2 HE2 HB2 HP
  go_wp2_with (first
    | ((with_reducible refine bd_obz ?_ ?_ HBN.out ?_); rfl; rfl)
    | ((with_reducible refine st_obr (x := .tmp 4) (y := .tmp 18) ?_ ?_ ?_ ?_ E1.out HS0.out HS0.out HN0.out ?_); rfl; rfl; rfl; rfl))
  refine bodyPost_ret (results_cell_tmp (fn := Tryd.f14) (p := 4) (q := 5) (by rfl) _ _ (w.heap.size + 1) _ _ _ _ (by rfl) (setRow_heap _ _ _ _ _ _ E1.out) Tryd.underlying42 rfl (obsize HS0.out)) rfl ⟨rfl, below_setRow hB (by omega) _⟩

end Go.Proofs.YtipigedopmgemaaDoor
