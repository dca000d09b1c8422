/-
  WALKS OF LAYER 4: the document's own body (knapsackref04.body).
-/
import Derived.Test.YtcicfjfbnbkkcaaDoorEncode2
namespace Go.Proofs.YtcicfjfbnbkkcaaDoor
open Go.RowKit
set_option linter.unusedVariables false
set_option linter.unusedSimpArgs false

set_option maxRecDepth 100000 in
theorem bytes_any (l : List UInt8) (w : World) (hl : l.length = 32) :
    Calls Tryd.prog 62 #[.agg (idC l).toArray] w fun r w' => r = .returned (.string ⟨l.toArray⟩) ∧ Below w.heap.size w w' := by
  have hcv := conv_idm (w.alloc (.cells (idC l).toArray 25)) w.heap.size 0 l hl (id_rid (heap_alloc_last w _))
  go_enter Tryd.func62, Tryd.ntmps62
  go_wp2
  go_ret
  exact ⟨rfl, (Below.refl _ _).alloc (Nat.le_refl _) _⟩

theorem add_add_mid (a : Addr) (n k : Nat) (hk : k ≠ 0) : (a.add n).add k = ⟨a.block, a.off + n + k, none⟩ := by
  unfold Addr.add
  rw [if_neg hk]
  split
  · subst_vars; simp
  · rfl
theorem en_range {w : World} {a : Addr} {n : Nat} {e : En} (hc : ∀ j x, (enC e)[j]? = some x → w.cell? ((a.add n).add j) = some x) : w.rangeAt a.block (a.off + n + 2) (idC e.id) := fun j v hv => by
  have h := hc (j + 2) v (by simpa [enC] using hv)
  rw [add_add_mid a n (j + 2) (by omega)] at h
  rw [show a.off + n + 2 + j = a.off + n + (j + 2) by omega]
  exact h

set_option maxHeartbeats 2000000 in
set_option maxRecDepth 100000 in
theorem refbody_tree (cs : Array Value) (o : Ob) (ao bo : Option Addr) (ca cb : Nat) (w : World) (h : ObAt w cs o ao bo ca cb) (ft : Fit o) (hk : o.kind = 2) (hd0 : o.data = ⟨#[]⟩) :
    Calls Tryd.prog 42 #[.agg cs] w fun r w' => r = .returned (.string ⟨(bodyL o).toArray⟩) ∧ Below w.heap.size w w' := by
  have HM := Lib.hid (show bodyL o = o.ents.flatMap enB by simp [bodyL, hk])
  generalize bodyL o = M at HM
  have hf := ft.e hk
  have HF := Lib.hid hf.2
  have h64 := hf.1
  have C0 := Lib.hid (show cs[0]? = some (.int .i64 2) by rw [h.F.c0, hk])
  have c1 := h.F.c1
  rw [hd0] at c1
  have C2 := Lib.hid h.F.c2
  have HE := Lib.hid h.E
  have HI := Lib.hid h.eid
  have K0 := Kp.box w cs 29
  clear h ft hk hf hd0
  go_enter Tryd.func42, Tryd.ntmps42
  go_wp2
  go_loopw [3, 4] (fun s i wr => ∃ (k : Nat) (acc : ByteArray), k ≤ o.ents.length ∧ i = .int .i64 k ∧ s = .string acc ∧ Hid (acc.data.toList = (o.ents.take k).flatMap enB) ∧ Kp w cs 29 wr) (fun _ i _ => o.ents.length - (intOf i).toNat)
  case atStart => exact ⟨0, ⟨#[]⟩, by omega, rfl, rfl, rfl, K0⟩
  case round =>
    clear K0 c1
    obtain ⟨k, acc, hk, rfl, rfl, HA, K1⟩ := hrel
    have c2 := K1.cell C2.out
    by_cases hlt : k < o.ents.length
    · have hlt' : (k : Int) < (o.ents.length : Int) := by omega
      have hk0 : (0 : Int) ≤ (k : Int) := by omega
      obtain ⟨e, he⟩ : ∃ e, o.ents[k]? = some e := ⟨o.ents[k], List.getElem?_eq_getElem hlt⟩
      have hmem := List.mem_of_getElem? he
      obtain ⟨a, ea, _⟩ := ent_cells (HE.out.below K1.below) k e he
      subst ea
      have HCC := Lib.hid (fun W (hb : Below w.heap.size w W) => (by
        obtain ⟨a', e', h'⟩ := ent_cells (HE.out.below hb) k e he
        cases e'
        exact h' : ∀ j x, (enC e)[j]? = some x → W.cell? ((a.add (k * 34)).add j) = some x))
      obtain ⟨hnm, hk1, hk2⟩ := HF.out e hmem
      have HL := Lib.hid (HI.out e hmem)
      have HT := Lib.hid (show ((acc ++ ⟨#[byteK e.kind]⟩) ++ textOf e.name ++ ⟨e.id.toArray⟩).data.toList = (o.ents.take (k + 1)).flatMap enB by
        obtain ⟨hk3, rfl⟩ := List.getElem?_eq_some_iff.1 he
        rw [List.take_succ_eq_append_getElem hk3, List.flatMap_append, ← HA.out]
        simp [enB, ByteArray.data_append])
      have hal : acc.size ≤ 10000 := by
        have := ents_len (o.ents.take k) (fun x hx => ⟨(HF.out x (List.mem_of_mem_take hx)).1, HI.out x (List.mem_of_mem_take hx)⟩)
        rw [← HA.out, size_list, List.length_take] at this; omega
      have htl := text_len e.name (by omega)
      have hs1 : ¬ 9223372036854775807 < acc.size + 1 := by omega
      have hs2 : ¬ 9223372036854775807 < acc.size + 1 + (textOf e.name).size := by omega
      have hs3 : ¬ 9223372036854775807 < acc.size + 1 + (textOf e.name).size + e.id.length := by have := HL.out; omega
      have u24 := Tryd.underlying25
      have i24 := idsize HL.out
      have hA1 := add_add_mid a (k * 34) 1 (by decide)
      have hA2 := add_add_mid a (k * 34) 2 (by decide)
      have HMK := Lib.hid (fun W (q : Kp w cs 29 W) => (⟨q, q.cell C2.out, by simpa [Addr.add] using HCC.out W q.below 0 (.string e.name) rfl, by rw [← hA1]; exact HCC.out W q.below 1 _ rfl, en_range (HCC.out W q.below)⟩ : Kp w cs 29 W ∧ W.cell? ⟨w.heap.size, 2, none⟩ = some (.slice (some a) o.ents.length ca) ∧ W.cell? (a.add (k * 34)) = some (.string e.name) ∧ W.cell? ⟨a.block, a.off + k * 34 + 1, none⟩ = some (.int .i64 e.kind) ∧ W.rangeAt a.block (a.off + k * 34 + 2) (idC e.id)))
      clear he hmem
      go_wp2_with fail
      go_region_held3 (fun w' => Kp w cs 29 w' ∧ w'.cell? ⟨w.heap.size, 2, none⟩ = some (.slice (some a) o.ents.length ca) ∧ w'.cell? (a.add (k * 34)) = some (.string e.name) ∧ w'.cell? ⟨a.block, a.off + k * 34 + 1, none⟩ = some (.int .i64 e.kind) ∧ w'.rangeAt a.block (a.off + k * 34 + 2) (idC e.id))
        (first | exact HMK.out _ K1.drew | (refine HMK.out _ (Kp.step ?_ (by assumption)); exact And.left (by assumption)))
        ((first
          | (go_at_call 40; refine (one_any _ _ hk1 hk2).mono ?_; rintro r wx ⟨rfl, hx⟩)
          | (go_at_call 41; refine (reftext_any _ _ (by omega)).mono ?_; rintro r wx ⟨rfl, hx⟩)
          | (go_at_call 62; refine (bytes_any _ _ HL.out).mono ?_; rintro r wx ⟨rfl, hx⟩)))
      rename_i hH
      go_wp2
      go_roundw
      case rel => exact ⟨k + 1, _, by omega, by go_num, rfl, HT, hH.1⟩
      case measure => simp [intOf]; omega
    · have HT := Lib.hid (show acc.data.toList = M by rw [HA.out, HM.out, List.take_of_length_le (by omega)])
      have c0 := K1.cell C0.out
      go_wp2
      go_ret
      exact ⟨ret_str (bytes_ext (by rw [HT.out])), K1.below⟩
end Go.Proofs.YtcicfjfbnbkkcaaDoor
