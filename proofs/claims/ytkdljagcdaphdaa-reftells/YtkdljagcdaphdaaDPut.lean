/-
  WALKS OF LAYER 9: the document's Put.
-/
import Derived.Test.YtkdljagcdaphdaaPutW
namespace Go.Proofs.Ytkdljagcdaphdaa
open Go.RowKit
set_option linter.unusedVariables false
set_option linter.unusedSimpArgs false

theorem refhex_c (a : List UInt8) (w : World) (ha : a.length = 32) : Calls Try.prog 27 #[.agg (idC a).toArray] w fun r w' => r = .returned (.string ⟨(S2.hexL a).toArray⟩) ∧ Below w.heap.size w w' := by
  rw [← idA_idC a ha]; exact S2.refhex_any a w ha
theorem conv_kept {W wx : World} (hx : Below (W.alloc (.cells #[.int .u8 10] 5)).heap.size (W.alloc (.cells #[.int .u8 10] 5)) wx) : (convert 56 9 (.slice (some ⟨W.heap.size, 0, none⟩) 1 1)).run Try.prog wx = .ok (.string ⟨#[10]⟩) wx :=
  run_convert_bytes_back (P := Try.prog) wx 56 9 5 ⟨W.heap.size, 0, none⟩ 1 [10] Try.underlying56 Try.underlying5 Try.underlying9 (fun j hj => by
    have hj0 : j = 0 := by simpa using hj
    subst hj0
    rw [hx.cell (by simp [Addr.add])]
    exact cell_one_new W _ 5 0 _ rfl)
theorem conv_kept_d {W wx : World} (hx : Below (W.alloc (.cells #[.int .u8 10] 5)).drew.heap.size (W.alloc (.cells #[.int .u8 10] 5)).drew wx) : (convert 56 9 (.slice (some ⟨W.heap.size, 0, none⟩) 1 1)).run Try.prog wx = .ok (.string ⟨#[10]⟩) wx := conv_kept ⟨hx.os, hx.tape, hx.output, hx.size, hx.block⟩
theorem bel_al {w W : World} (h : Below w.heap.size w W) (o : Obj) : Below w.heap.size w (W.alloc o) := h.alloc h.size o
theorem rf_mid {w : World} {a : Addr} {n : Nat} {r : Rf.R} (h : ∀ j x, (rfC r)[j]? = some x → w.cell? ((a.add n).add j) = some x) : w.cell? (a.add n) = some (.string r.name) ∧ w.rangeAt a.block (a.off + n + 1) (idC r.id) := ⟨rf_name h, mid_rid h⟩

set_option maxHeartbeats 1000000 in
set_option maxRecDepth 100000 in
theorem refput_any (v : Value) (L : List Rf.R) (w : World) (hL : RefsAt w v L) (hn : ∀ r ∈ L, r.name.size ≤ 10000) (hl : L.length ≤ 200) :
    Calls Try.prog 12 #[v] w fun r w' => r = .returned (.string ⟨(Rf.textL L).toArray⟩) ∧ Below w.heap.size w w' := by
  have HL := Lib.hid hL
  have HN := Lib.hid hn
  have HI := Lib.hid hL.len
  obtain ⟨ao, cap, rfl⟩ := hL.form
  generalize hM : Rf.textL L = M
  have HM := Lib.hid hM
  clear hL hn hM
  go_enter Try.func12, Try.ntmps12
  go_wp2_with fail
  go_loopw [3, 4] (fun sv i wr => ∃ (k : Nat) (acc : ByteArray), k ≤ L.length ∧ i = .int .i64 k ∧ sv = .string acc ∧ acc.size ≤ 20000 * k ∧ Hid (acc.data.toList = Rf.textL (L.take k)) ∧ Below w.heap.size w wr) (fun _ i _ => L.length - (intOf i).toNat)
  case atStart => exact ⟨0, ⟨#[]⟩, by omega, rfl, rfl, by decide, rfl, Below.refl _ _⟩
  case round =>
    obtain ⟨k, acc, hk, rfl, rfl, hac, HA, hb⟩ := hrel
    by_cases hlt : k < L.length
    · have hlt' : (k : Int) < (L.length : Int) := by omega
      have hk0 : (0 : Int) ≤ (k : Int) := by omega
      obtain ⟨e, he⟩ : ∃ e, L[k]? = some e := ⟨L[k], List.getElem?_eq_getElem hlt⟩
      obtain ⟨a, rfl, hid, _⟩ := (HL.out.below hb).elem k e he
      have HD := Lib.hid hid
      have hne := HN.out e (List.mem_of_getElem? he)
      have HT := Lib.hid (text_step he)
      have HCC := Lib.hid (show ∀ W, Below w.heap.size w W → W.cell? (a.add (k * 33)) = some (.string e.name) ∧ W.rangeAt a.block (a.off + k * 33 + 1) (idC e.id) from fun W q => by
        obtain ⟨a', e', _, h'⟩ := (HL.out.below q).elem k e he
        cases e'
        exact rf_mid h')
      have HMK := Lib.hid (fun W (q : Below w.heap.size w W) => (⟨q, HCC.out W q⟩ : Below w.heap.size w W ∧ W.cell? (a.add (k * 33)) = some (.string e.name) ∧ W.rangeAt a.block (a.off + k * 33 + 1) (idC e.id)))
      have hLL : (S2.hexL e.id).length = 64 := by rw [S2.hexL_length, hid]
      have HLL := Lib.hid hLL
      have u24 := Try.underlying35
      have i24 := idsize hid
      have hA1 := add_block a (k * 33)
      have hA2 := add_off a (k * 33)
      have hs0 : ¬ 9223372036854775807 < acc.size + (S2.hexL e.id).length := by omega
      have hs1 : ¬ 9223372036854775807 < acc.size + (S2.hexL e.id).length + 1 := by omega
      have hs2 : ¬ 9223372036854775807 < acc.size + (S2.hexL e.id).length + 1 + e.name.size := by omega
      have hs3 : ¬ 9223372036854775807 < acc.size + (S2.hexL e.id).length + 1 + e.name.size + 1 := by omega
      have hcv := fun W => S2.conv_one W 10 10 rfl
      have hcd : (convert 56 9 (.slice (some ⟨wr.heap.size, 0, none⟩) 1 1)).run Try.prog (wr.alloc (.cells #[.int .u8 10] 5)).drew = .ok (.string ⟨#[10]⟩) (wr.alloc (.cells #[.int .u8 10] 5)).drew := conv_kept_d (Below.refl _ _)
      have HAC := Lib.hid hac
      clear he hid hLL hac
      go_wp2_with fail
      go_region_held (fun w' => Below w.heap.size w w' ∧ w'.cell? (a.add (k * 33)) = some (.string e.name) ∧ w'.rangeAt a.block (a.off + k * 33 + 1) (idC e.id))
        (first | assumption | exact HMK.out _ hb.drew | exact HMK.out _ (bel_al hb _).drew | (refine HMK.out _ (below_step ?_ (by assumption)); exact And.left (by assumption)) | (refine HMK.out _ (bel_al ?_ _); exact And.left (by assumption)))
        ((go_at_call 27; refine (refhex_c _ _ HD.out).mono ?_; rintro r wx ⟨rfl, hx⟩; try (have hcx := conv_kept_d hx); try (have hcx2 := conv_kept hx)))
      all_goals
        have hH := And.left ‹Below w.heap.size w _ ∧ _›
        have HT2 := Lib.hid (show (acc ++ { data := (S2.hexL e.id).toArray } ++ { data := #[32] } ++ e.name ++ { data := #[10] } : ByteArray).data.toList = Rf.textL (L.take (k + 1)) by
          rw [HT.out, ← HA.out]
          simp [ByteArray.data_append, Rf.bodyL])
        have hsz : (acc ++ { data := (S2.hexL e.id).toArray } ++ { data := #[32] } ++ e.name ++ { data := #[10] } : ByteArray).size ≤ 20000 * (k + 1) := by
          have q1 : (ByteArray.mk #[32]).size = 1 := rfl
          have q2 : (ByteArray.mk #[10]).size = 1 := rfl
          have q3 : (ByteArray.mk (S2.hexL e.id).toArray).size = 64 := by show (S2.hexL e.id).toArray.size = 64; simpa using HLL.out
          have q4 := HAC.out
          simp only [ByteArray.size_append]; omega
        go_wp2_with fail
        go_roundw
        case rel => exact ⟨k + 1, _, by omega, by go_num, rfl, hsz, HT2, hH⟩
        case measure => simp [intOf]; omega
    · have HE := Lib.hid (show acc = ⟨M.toArray⟩ from Rf.bytes_ext (by rw [HA.out, ← HM.out, List.take_of_length_le (by omega)]))
      go_wp2_with fail
      go_ret
      exact ⟨ret_str HE.out, hb⟩

end Go.Proofs.Ytkdljagcdaphdaa
