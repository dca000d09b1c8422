/-
  WALKS OF LAYER 10: Put, of the program and of the document.
-/
import Derived.Test.YtkdljagcdaphdabDoorGetW
namespace Go.Proofs.YtkdljagcdaphdabDoor
open Go.RowKit
set_option linter.unusedVariables false
set_option linter.unusedSimpArgs false

theorem join_any (v : Value) (L : List ByteArray) (w : World) (hL : StrsAt w v L) (hl : L.length ≤ 100) (hn : ∀ r ∈ L, r.size ≤ 100) :
    Calls Tryd.prog 20 #[v, .string ⟨#[32]⟩] w fun r w' => r = .returned (.string ⟨(Cp.textL L).toArray⟩) ∧ Below w.heap.size w w' := by
  by_cases h0 : L = []
  · subst h0
    obtain ⟨ao, cap, rfl⟩ := hL.form
    exact (Tryd.strings_Join_none ao cap ⟨#[32]⟩ w).mono fun r w' ⟨h1, h2⟩ => ⟨h1, by rw [h2]; exact Below.refl _ _⟩
  · obtain ⟨b, o, cap, rfl, hcap, hb, hc⟩ := hL.at h0
    have ht := Cp.text_len L hn
    exact Tryd.strings_Join b o cap L ⟨#[32]⟩ w hc hb (by omega) hcap (by show (Cp.textL L).length ≤ _; omega)
set_option maxHeartbeats 400000 in
set_option maxRecDepth 100000 in
theorem put_bad (v : Value) (L : List ByteArray) (w : World) (hL : StrsAt w v L) (hn : ∀ r ∈ L, r.size ≤ maxLen) (hl : L.length ≤ maxLen) (hf : Cp.fine L = false) :
    Calls Tryd.prog 8 #[v] w fun r w' => r = .returned (.tuple #[.string ⟨#[]⟩, .int .i64 1]) ∧ w = w' := by
  have HFN := Lib.hid (fine_any v L w hL hn hl)
  rw [hf] at HFN
  clear hL hn hf
  go_enter Tryd.func8, Tryd.ntmps8
  go_wp2_with fail
  refine HFN.out.mono ?_
  rintro r w1 ⟨rfl, rfl⟩
  go_wp2_with fail
  go_ret2
  exact ⟨rfl, rfl⟩
set_option maxHeartbeats 400000 in
set_option maxRecDepth 100000 in
theorem put_ok (v : Value) (L : List ByteArray) (w : World) (hL : StrsAt w v L) (hf : Cp.fine L = true) :
    Calls Tryd.prog 8 #[v] w fun r w' => r = .returned (.tuple #[.string ⟨(Cp.textL L).toArray⟩, .int .i64 0]) ∧ Below w.heap.size w w' := by
  have hl := Cp.fine_len hf
  have HFN := Lib.hid (fine_any v L w hL (fun r hr => by have := Cp.word_size (Cp.fine_ok hf r hr); unfold maxLen; omega) (by unfold maxLen; omega))
  have HJ := Lib.hid (join_any v L w hL (by omega) (fun r hr => by have := Cp.word_size (Cp.fine_ok hf r hr); omega))
  rw [hf] at HFN
  generalize Cp.textL L = T at HJ
  clear hL hf
  go_enter Tryd.func8, Tryd.ntmps8
  go_wp2_with fail
  refine HFN.out.mono ?_
  rintro r w1 ⟨rfl, rfl⟩
  go_wp2_with fail
  refine HJ.out.mono ?_
  rintro r w2 ⟨rfl, hb⟩
  go_wp2_with fail
  go_ret2
  exact ⟨rfl, hb⟩
theorem text_take {L : List ByteArray} {k : Nat} {e : ByteArray} (h : L[k]? = some e) : Cp.textL (L.take (k + 1)) = (if k = 0 then [] else Cp.textL (L.take k) ++ [32]) ++ e.data.toList := by
  obtain ⟨hk, rfl⟩ := List.getElem?_eq_some_iff.1 h
  rw [List.take_succ_eq_append_getElem hk]
  by_cases h0 : k = 0
  · subst h0; simp [Cp.text_one]
  · have hne : L.take k ≠ [] := fun e => by
      have h9 : (L.take k).length = 0 := by rw [e]; rfl
      rw [List.length_take] at h9; omega
    rw [if_neg h0, Cp.text_snoc _ _ hne]; simp
set_option maxHeartbeats 400000 in
set_option maxRecDepth 100000 in
theorem refput_any (v : Value) (L : List ByteArray) (w : World) (hL : StrsAt w v L) (hl : L.length ≤ 100) (hn : ∀ r ∈ L, r.size ≤ 100) :
    Calls Tryd.prog 10 #[v] w fun r w' => r = .returned (.string ⟨(Cp.textL L).toArray⟩) ∧ w = w' := by
  obtain ⟨ao, cap, rfl⟩ := hL.form
  have HL := Lib.hid hL
  have HN := Lib.hid hn
  generalize hM : Cp.textL L = M
  have HM := Lib.hid hM
  clear hL hn hM
  go_enter Tryd.func10, Tryd.ntmps10
  go_wp2_with fail
  go_loop [3, 4] (fun sv i => ∃ (k : Nat) (acc : ByteArray), k ≤ L.length ∧ i = .int .i64 k ∧ sv = .string acc ∧ acc.size ≤ 101 * k ∧ Hid (acc.data.toList = Cp.textL (L.take k))) (fun _ i => L.length - (intOf i).toNat)
  case atStart => exact ⟨0, ⟨#[]⟩, by omega, rfl, rfl, by decide, rfl⟩
  case round =>
    obtain ⟨k, acc, hk, rfl, rfl, hac, HA⟩ := hrel
    by_cases hlt : k < L.length
    · have hlt' : (k : Int) < (L.length : Int) := by omega
      have hk0 : (0 : Int) ≤ (k : Int) := by omega
      obtain ⟨e, he⟩ : ∃ e, L[k]? = some e := ⟨L[k], List.getElem?_eq_getElem hlt⟩
      obtain ⟨a, rfl, c0⟩ := HL.out.elem k e he
      have hes := HN.out e (List.mem_of_getElem? he)
      have HT := Lib.hid (text_take he)
      clear he
      have hs0 : ¬ 9223372036854775807 < acc.size + 1 := by omega
      have hs1 : ¬ 9223372036854775807 < acc.size + e.size := by omega
      have hs2 : ¬ 9223372036854775807 < acc.size + 1 + e.size := by omega
      have q1 : (ByteArray.mk #[32]).size = 1 := rfl
      rcases Nat.eq_zero_or_pos k with hkz | hkp
      · have HA0 := Lib.hid (show acc.data.toList = [] by rw [HA.out, hkz]; rfl)
        have HT2 := Lib.hid (show (acc ++ e).data.toList = Cp.textL (L.take (k + 1)) by rw [HT.out, data_append, HA0.out, if_pos hkz])
        have hsz : (acc ++ e).size ≤ 101 * (k + 1) := by simp only [ByteArray.size_append]; omega
        have g1 : decide ((0 : Int) < (k : Int)) = false := by simp; omega
        have g2 : decide (0 < k) = false := by simp; omega
        have g3 : ¬ (0 : Int) < (k : Int) := by omega
        clear hkz HT q1
        go_wp2_with fail
        go_round
        case rel => exact ⟨k + 1, _, by omega, by go_num, rfl, hsz, HT2⟩
        case measure => simp [intOf]; omega
      · have HT2 := Lib.hid (show (acc ++ ⟨#[32]⟩ ++ e).data.toList = Cp.textL (L.take (k + 1)) by rw [HT.out, data_append, data_append, HA.out, if_neg (by omega)])
        have hsz : (acc ++ ⟨#[32]⟩ ++ e).size ≤ 101 * (k + 1) := by simp only [ByteArray.size_append]; omega
        have g1 : decide ((0 : Int) < (k : Int)) = true := by simp; omega
        have g2 : decide (0 < k) = true := by simp; omega
        have g3 : (0 : Int) < (k : Int) := by omega
        clear HT q1
        go_wp2_with fail
        go_round
        case rel => exact ⟨k + 1, _, by omega, by go_num, rfl, hsz, HT2⟩
        case measure => simp [intOf]; omega
    · have HE := Lib.hid (show acc = ⟨M.toArray⟩ from Cp.bytes_ext (by rw [HA.out, ← HM.out, List.take_of_length_le (by omega)]))
      go_wp2_with fail
      go_ret
      exact ⟨ret_str HE.out, rfl⟩

end Go.Proofs.YtkdljagcdaphdabDoor
