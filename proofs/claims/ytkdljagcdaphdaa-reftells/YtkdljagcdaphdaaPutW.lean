/-
  WALKS OF LAYER 9: Put.
-/
import Derived.Test.YtkdljagcdaphdaaRl
namespace Go.Proofs.Ytkdljagcdaphdaa
open Go.RowKit
set_option linter.unusedVariables false
set_option linter.unusedSimpArgs false

theorem hex_c (a : List UInt8) (w : World) (ha : a.length = 32) : Calls Try.prog 24 #[.agg (idC a).toArray] w fun r w' => r = .returned (.string ⟨(S2.hexL a).toArray⟩) ∧ Below w.heap.size w w' := by
  rw [← idA_idC a ha]; exact S2.hex_any a w ha
/-- Block g holds a ref. -/
structure Bx (W : World) (g : Nat) (r : Rf.R) : Prop where
  out : W.heap[g]? = some (.cells (rfC r).toArray 54)
theorem Bx.id {W : World} {g : Nat} {r : Rf.R} (h : Bx W g r) : W.rangeAt g 1 (idC r.id) := rf_rid h.out
theorem Bx.name {W : World} {g : Nat} {r : Rf.R} (h : Bx W g r) : W.cell? ⟨g, 0, none⟩ = some (.string r.name) := by rw [cell_of_row _ _ 0 _ _ _ h.out]; rfl
theorem Bx.below {W W' : World} {g : Nat} {r : Rf.R} (h : Bx W g r) (hb : Below W.heap.size W W') : Bx W' g r := ⟨below_block hb h.out⟩
theorem Bx.kept {W W' : World} {g B : Nat} {r : Rf.R} (h : Bx W g r) (hk : Lib.OthersKept 5 (some B) W W') (hne : g ≠ B) : Bx W' g r := ⟨kept_block hk h.out hne (by decide)⟩
theorem text_step {L : List Rf.R} {k : Nat} {e : Rf.R} (h : L[k]? = some e) : Rf.textL (L.take (k + 1)) = Rf.textL (L.take k) ++ (Rf.bodyL e ++ [10]) := by
  obtain ⟨hk, rfl⟩ := List.getElem?_eq_some_iff.1 h
  rw [List.take_succ_eq_append_getElem hk, Rf.text_snoc]

set_option maxHeartbeats 400000 in
set_option maxRecDepth 100000 in
theorem put_bad (v : Value) (L : List Rf.R) (w : World) (hL : RefsAt w v L) (hn : ∀ r ∈ L, r.name.size ≤ maxLen) (hl : L.length ≤ maxLen) (hf : Rf.fine L = false) :
    Calls Try.prog 10 #[v] w fun r w' => r = .returned (.tuple #[.string ⟨#[]⟩, .int .i64 1]) ∧ Below w.heap.size w w' := by
  have HFN := Lib.hid (fine_any v L w hL hn hl)
  rw [hf] at HFN
  clear hL hn hf
  go_enter Try.func10, Try.ntmps10
  go_wp2_with fail
  refine HFN.out.mono ?_
  rintro r w1 ⟨rfl, hb1⟩
  clear HFN
  go_wp2_with fail
  go_ret2
  exact ⟨rfl, hb1⟩

set_option maxHeartbeats 1000000 in
set_option maxRecDepth 100000 in
theorem put_ok (v : Value) (L : List Rf.R) (w : World) (hL : RefsAt w v L) (hn : ∀ r ∈ L, r.name.size ≤ 100) (hf : Rf.fine L = true) :
    Calls Try.prog 10 #[v] w fun r w' => r = .returned (.tuple #[.string ⟨(Rf.textL L).toArray⟩, .int .i64 0]) ∧ Below w.heap.size w w' := by
  have hl : L.length ≤ 64 := ((Rf.fine_iff L).1 hf).1
  have HFN := Lib.hid (fine_any v L w hL (fun r hr => by have := hn r hr; unfold maxLen; omega) (by unfold maxLen; omega))
  rw [hf] at HFN
  have HL := Lib.hid hL
  have HN := Lib.hid hn
  have HI := Lib.hid hL.len
  obtain ⟨ao, cap, rfl⟩ := hL.form
  generalize hM : Rf.textL L = M
  have HM := Lib.hid hM
  clear hL hn hf hM
  go_enter Try.func10, Try.ntmps10
  go_wp2_with fail
  refine HFN.out.mono ?_
  rintro r w1 ⟨rfl, hb1⟩
  have hsz1 := hb1.size
  clear HFN
  have B0 := Lib.hid (Bd.fresh w w1 hb1)
  go_wp2_with fail
  go_loopw [12] (fun i wr => ∃ (k : Nat), k ≤ L.length ∧ i = .int .i64 k ∧ Hid (Bd w w1.heap.size (Rf.textL (L.take k)) wr)) (fun i _ => L.length - (intOf i).toNat)
  case atStart => exact ⟨0, by omega, rfl, B0.out⟩
  case round =>
    obtain ⟨k, hk, rfl, HB⟩ := hrel
    by_cases hlt : k < L.length
    · have hlt' : (k : Int) < (L.length : Int) := by omega
      have hk0 : (0 : Int) ≤ (k : Int) := by omega
      obtain ⟨e, he⟩ : ∃ e, L[k]? = some e := ⟨L[k], List.getElem?_eq_getElem hlt⟩
      obtain ⟨a, rfl, hid, hc⟩ := (HL.out.below HB.out.below).elem k e he
      have HC := Lib.hid hc
      have HD := Lib.hid hid
      have hne := HN.out e (List.mem_of_getElem? he)
      have HT := Lib.hid (text_step he)
      have hal : (Rf.textL (L.take k)).length ≤ 11000 := by
        have := Rf.text_most (L.take k) (fun r hr => HI.out r (List.mem_of_mem_take hr)) (fun r hr => HN.out r (List.mem_of_mem_take hr))
        simp at this; simp; omega
      have hlt2 := HB.out.lt
      have hHL : (⟨(S2.hexL e.id).toArray⟩ : ByteArray).size = 64 := by show (S2.hexL e.id).toArray.size = 64; simp [S2.hexL_length, hid]
      have D1 := Lib.hid (HB.out.alloc (.cells (rfC e).toArray 54))
      have X1 := Lib.hid (show Bx (wr.alloc (.cells (rfC e).toArray 54)) wr.heap.size e from ⟨heap_alloc_new _ _⟩)
      generalize Rf.textL (L.take k) = acc at *
      clear hc hid he HB
      go_wp2_with (first
        | ((with_reducible refine ld_rf (r := e) (x := .tmp 14) (p := a.add (k * 33)) ?_ ?_ ?_ HC.out HD.out ?_); rfl; rfl; rfl)
        | ((with_reducible apply st_rf (r := e) (hid := HD.out)); rfl; rfl; rfl; rfl; rfl))
      have hgne : wr.heap.size ≠ w1.heap.size := by omega
      generalize wr.heap.size = g at *
      generalize wr.alloc (.cells (rfC e).toArray 54) = w2 at *
      have HMK := Lib.hid (fun W (q : Bx W g e) => (⟨q, q.name, q.id⟩ : Bx W g e ∧ W.cell? ⟨g, 0, none⟩ = some (.string e.name) ∧ W.rangeAt g 1 (idC e.id)))
      have u24 := Try.underlying35
      have i24 := idsize HD.out
      have hLL : (S2.hexL e.id).length ≤ 64 := by rw [S2.hexL_length, HD.out]; omega
      have hs1 : ¬ 9223372036854775807 < (S2.hexL e.id).length + 1 := by omega
      have hs2 : ¬ 9223372036854775807 < (S2.hexL e.id).length + 1 + e.name.size := by omega
      have hs3 : ¬ 9223372036854775807 < (S2.hexL e.id).length + 1 + e.name.size + 1 := by omega
      have HLN := Lib.hid hHL
      clear hHL
      go_region_held3 (fun w' => Bx w' g e ∧ w'.cell? ⟨g, 0, none⟩ = some (.string e.name) ∧ w'.rangeAt g 1 (idC e.id))
        (first | exact HMK.out _ (X1.out.below (Below.refl _ _).drew) | (refine HMK.out _ (Bx.below ?_ (by assumption)); exact And.left (by assumption)) | (refine HMK.out _ (Bx.kept ?_ (by assumption) hgne); exact And.left (by assumption)))
        ((first
          | (go_at_call 24; refine (hex_c _ _ HD.out).mono ?_; rintro r wx ⟨rfl, hx⟩)
          | (go_at_call 23; refine (bd_write ((D1.out.step (Below.refl _ _).drew).step hx) _ (by have := HLN.out; have q1 : (ByteArray.mk #[32]).size = 1 := rfl; have q2 : (ByteArray.mk #[10]).size = 1 := rfl; simp only [ByteArray.size_append]; rw [this]; omega)).mono ?_; rintro r wy ⟨rfl, hD, hK⟩)))
      rename_i hH
      have D3 := Lib.hid (show Bd w w1.heap.size (Rf.textL (L.take (k + 1))) wy by
        rw [HT.out]
        have := hD
        simp [ByteArray.data_append] at this
        simpa [Rf.bodyL] using this)
      clear hH hD hK
      go_wp2_with fail
      go_roundw
      case rel => exact ⟨k + 1, by omega, by go_num, D3⟩
      case measure => simp [intOf]; omega
    · have HE := Lib.hid (show Rf.textL (L.take k) = M by rw [List.take_of_length_le (by omega), HM.out])
      rw [HE.out] at HB
      go_wp2_with fail
      refine (bd_string HB.out).mono ?_
      rintro r w3 ⟨rfl, hb3⟩
      go_wp2_with fail
      go_ret2
      exact ⟨rfl, hb3⟩

end Go.Proofs.Ytkdljagcdaphdaa
