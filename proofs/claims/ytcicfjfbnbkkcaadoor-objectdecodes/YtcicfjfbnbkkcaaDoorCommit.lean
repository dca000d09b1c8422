/-
  WALKS OF LAYER 4: commitBody, body, Encode.
-/
import Derived.Test.YtcicfjfbnbkkcaaDoorBody
namespace Go.Proofs.YtcicfjfbnbkkcaaDoor
open Go.RowKit
set_option linter.unusedVariables false
set_option linter.unusedSimpArgs false

theorem pars_len : ∀ ps : List (List UInt8), (∀ p ∈ ps, p.length = 32) → ps.flatten.length = 32 * ps.length
  | [], _ => rfl
  | p :: r, h => by
    have h1 := h p (by simp)
    have h2 := pars_len r (fun x hx => h x (by simp [hx]))
    simp only [List.flatten_cons, List.length_append, List.length_cons]; omega
theorem take_flat (ps : List (List UInt8)) (k : Nat) (e : List UInt8) (h : ps[k]? = some e) : (ps.take (k + 1)).flatten = (ps.take k).flatten ++ e := by
  obtain ⟨hk, rfl⟩ := List.getElem?_eq_some_iff.1 h
  rw [List.take_succ_eq_append_getElem hk, List.flatten_append]
  simp
def commitL (o : Ob) : List UInt8 := (((o.tree ++ Lib.uvarint o.pars.length) ++ o.pars.flatten) ++ Lib.uvarint o.time) ++ (textOf o.text).data.toList

set_option maxHeartbeats 1000000 in
set_option maxRecDepth 100000 in
theorem commitBody_any (cs : Array Value) (o : Ob) (ao bo : Option Addr) (ca cb : Nat) (w : World) (h : ObAt w cs o ao bo ca cb) (hp : o.pars.length ≤ 100) (ht : o.text.size ≤ 5000) :
    Calls Tryd.prog 51 #[.agg cs] w fun r w' => r = .returned (.string ⟨(commitL o).toArray⟩) ∧ Below w.heap.size w w' := by
  have HP := Lib.hid h.P
  have HD := Lib.hid h.pid
  have F := h.F
  have htl := F.trl
  have HTL := Lib.hid htl
  clear htl
  have hti := h.ti
  have HC := Lib.hid (show commitL o = (((o.tree ++ Lib.uvarint o.pars.length) ++ o.pars.flatten) ++ Lib.uvarint o.time) ++ (textOf o.text).data.toList from rfl)
  generalize commitL o = M at HC
  have hu1 := Lib.uvarint_length64 (x := o.pars.length) (by omega)
  have hu2 := Lib.uvarint_length64 (x := o.time) (by omega)
  have B0 := Bd.fresh w (w.alloc (.cells cs 29)) ((Below.refl _ _).alloc (Nat.le_refl _) _)
  have E0 := Lib.hid (heap_alloc2_old w (.cells cs 29) (.cells #[.pointer none, .slice none 0 0] 92))
  have hw1 : (w.alloc (.cells cs 29)).heap.size = w.heap.size + 1 := by simp
  rw [hw1] at B0
  clear hw1
  have hcv := conv_idm ((w.alloc (.cells cs 29)).alloc (.cells #[.pointer none, .slice none 0 0] 92)) w.heap.size 3 o.tree HTL.out (F.rtr E0.out)
  go_enter Tryd.func51, Tryd.ntmps51
  go_wp2_with fail
  have hne : w.heap.size ≠ w.heap.size + 1 := by omega
  have hts : (ByteArray.mk o.tree.toArray).size = 32 := HTL.out
  refine (bd_write B0 _ (by rw [hts]; simp)).mono ?_
  rintro r w1 ⟨rfl, D1, k1⟩
  have E1 := Lib.hid (kept_block k1 E0.out hne (by decide))
  have c1 := (Lib.cell_of_heap E1.out 35).trans F.c35
  clear E0 B0 k1 hcv hts
  go_wp2_with fail
  refine (put_any o.pars.length _ (by omega)).mono ?_
  rintro r w2 ⟨rfl, hx⟩
  have E2 := Lib.hid (below_block hx E1.out)
  have D2 := D1.step hx
  clear hx D1 E1 c1
  go_wp2_with fail
  have hus : (ByteArray.mk (Lib.uvarint o.pars.length).toArray).size = (Lib.uvarint o.pars.length).length := rfl
  refine (bd_write D2 _ (by have := HTL.out; rw [hus]; simp; omega)).mono ?_
  rintro r w3 ⟨rfl, D3, k3⟩
  have E3 := Lib.hid (kept_block k3 E2.out hne (by decide))
  have c3 := (Lib.cell_of_heap E3.out 35).trans F.c35
  clear E2 D2 k3 hus
  have HX := Lib.hid (show ([] ++ (ByteArray.mk o.tree.toArray).data.toList) ++ (ByteArray.mk (Lib.uvarint o.pars.length).toArray).data.toList = (o.tree ++ Lib.uvarint o.pars.length) ++ (o.pars.take 0).flatten by simp)
  rw [HX.out] at D3
  go_wp2
  go_loopw [19] (fun i wr => ∃ (k : Nat), k ≤ o.pars.length ∧ i = .int .i64 k ∧ Bd w (w.heap.size + 1) ((o.tree ++ Lib.uvarint o.pars.length) ++ (o.pars.take k).flatten) wr ∧ Hid (wr.heap[w.heap.size]? = some (.cells cs 29))) (fun i _ => o.pars.length - (intOf i).toNat)
  case atStart => exact ⟨0, by omega, rfl, D3, E3⟩
  case round =>
    clear D3 E3 c3 HX
    obtain ⟨k, hk, rfl, hb, HE⟩ := hrel
    have hpl := pars_len (o.pars.take k) (fun x hx => HD.out x (List.mem_of_mem_take hx))
    have hacc : ((o.tree ++ Lib.uvarint o.pars.length) ++ (o.pars.take k).flatten).length ≤ 10000 := by
      have := HTL.out
      rw [List.length_append, List.length_append, hpl, List.length_take]; omega
    clear hpl
    by_cases hlt : k < o.pars.length
    · have hlt' : (k : Int) < (o.pars.length : Int) := by omega
      obtain ⟨e, he⟩ : ∃ e, o.pars[k]? = some e := ⟨o.pars[k], List.getElem?_eq_getElem hlt⟩
      obtain ⟨a, rfl, hc⟩ := par_cells (HP.out.below hb.below) k e he
      have HCC := Lib.hid hc
      have HL := Lib.hid (HD.out e (List.mem_of_getElem? he))
      have HT := Lib.hid (show (o.tree ++ Lib.uvarint o.pars.length) ++ (o.pars.take (k + 1)).flatten = ((o.tree ++ Lib.uvarint o.pars.length) ++ (o.pars.take k).flatten) ++ e by
        rw [take_flat _ _ _ he]; simp only [List.append_assoc])
      clear hc he
      generalize (o.tree ++ Lib.uvarint o.pars.length) ++ (o.pars.take k).flatten = acc at hb hacc HT
      have hcv := conv_idm (wr.alloc (.cells (idC e).toArray 25)) wr.heap.size 0 e HL.out (id_rid (heap_alloc_last wr _))
      go_wp2_with (first
        | ((with_reducible apply ld_id (hc := HCC.out) (hl := HL.out)); rfl; rfl; rfl)
        | ((with_reducible apply st_id (hl := HL.out)); rfl; rfl; rfl; rfl; rfl)
        | (go_at_call 64; fail))
      refine (bd_write (hb.alloc _) _ (by have h1 := HL.out; have h2 : (ByteArray.mk e.toArray).size = e.length := rfl; omega)).mono ?_
      rintro r w6 ⟨rfl, D6, k6⟩
      have hlt2 := (Array.getElem?_eq_some_iff.1 HE.out).1
      have E6 := Lib.hid (kept_block k6 (below_block ((Below.refl _ _).alloc (Nat.le_refl _) _) HE.out) hne (by decide))
      go_wp2
      go_roundw
      case rel => exact ⟨k + 1, by omega, by go_num, by rw [HT.out]; exact D6, E6⟩
      case measure => simp [intOf]; omega
    · have HT := Lib.hid (show o.pars.take k = o.pars from List.take_of_length_le (by omega))
      rw [HT.out] at hb hacc
      have c1 := (Lib.cell_of_heap HE.out 36).trans F.c36
      go_wp2_with fail
      refine (put_any o.time _ (by omega)).mono ?_
      rintro r w2 ⟨rfl, hx⟩
      have E2 := Lib.hid (below_block hx HE.out)
      have D2 := hb.step hx
      clear hx hb HE c1
      go_wp2_with fail
      have hus : (ByteArray.mk (Lib.uvarint o.time).toArray).size = (Lib.uvarint o.time).length := rfl
      refine (bd_write D2 _ (by rw [hus]; omega)).mono ?_
      rintro r w3 ⟨rfl, D3, k3⟩
      have E3 := Lib.hid (kept_block k3 E2.out hne (by decide))
      have c3 := (Lib.cell_of_heap E3.out 37).trans F.c37
      clear E2 D2 k3 hus
      go_wp2_with fail
      refine (text_any o.text _ (by omega)).mono ?_
      rintro r w4 ⟨rfl, hx⟩
      have D4 := D3.step hx
      clear hx D3 c3 E3
      have hxl := text_len o.text ht
      go_wp2_with fail
      refine (bd_write D4 _ (by rw [List.length_append]; have : (ByteArray.mk (Lib.uvarint o.time).toArray).data.toList.length = (Lib.uvarint o.time).length := rfl; omega)).mono ?_
      rintro r w5 ⟨rfl, D5, k5⟩
      have D6 : Bd w (w.heap.size + 1) M w5 := by rw [HC.out]; simpa using D5
      clear D5 k5
      go_wp2_with fail
      refine (bd_string D6).mono ?_
      rintro r w6 ⟨rfl, hx⟩
      go_wp2
      go_ret
      exact ⟨rfl, hx⟩
end Go.Proofs.YtcicfjfbnbkkcaaDoor
