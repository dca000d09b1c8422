/-
  WALKS OF LAYER 2: Sha256Writes.
-/
import Derived.Test.YtijlmeodfmanmaaDoorWalksN
import Derived.Test.YtijlmeodfmanmaaDoorTells
namespace Go.Proofs.YtijlmeodfmanmaaDoor
open Go.RowKit
set_option linter.unusedVariables false
set_option linter.unusedSimpArgs false

set_option maxHeartbeats 800000 in
set_option maxRecDepth 100000 in
theorem writes_long (a b : List UInt8) (s : ByteArray) (w : World) (hs : s.size ≤ 9223372036854775807) (ha : a.length = 32) (hb : b.length = 32) (h : 200 < s.size) (hk : KIn w) :
    Calls Tryd.prog 5 #[.agg (idA a), .agg (idA b), .string s] w fun r w' => r = .returned (.bool true) ∧ Below w.heap.size w w' := by
  have HK := Lib.hid hk
  clear hk
  have h' : (200 : Int) < (s.size : Int) := by omega
  generalize idA a = ia
  generalize idA b = ib
  go_enter Tryd.func5, Tryd.ntmps5
  go_wp2_with fail
  refine (knows_true _ ((HK.out.more _).more _)).mono ?_
  rintro r w1 ⟨rfl, hb1⟩
  go_wp2_with fail
  go_ret
  exact ⟨rfl, (((Below.refl _ _).alloc (Nat.le_refl _) _).alloc (by simp) _).trans (hb1.mono (by simp; omega))⟩

/-- What was written is read. -/
theorem good_hex (a : List UInt8) (ha : a.length = 32) : goodTo (hexL a) 64 ∧ (List.range 32).map (unpair (hexL a)) = a := by
  have key : ∀ (l : List UInt8) (i : Nat), i < l.length → (hexL l).getD (2 * i) 0 = hexd ((l.getD i 0).toNat / 16) ∧ (hexL l).getD (2 * i + 1) 0 = hexd ((l.getD i 0).toNat % 16) := by
    intro l
    induction l with
    | nil => intro i hi; simp at hi
    | cons x r ih =>
      intro i hi
      match i with
      | 0 => simp [hexL]
      | i + 1 =>
        have := ih i (by simpa using hi)
        have e1 : 2 * (i + 1) = 2 * i + 1 + 1 := by omega
        have e2 : 2 * (i + 1) + 1 = 2 * i + 1 + 1 + 1 := by omega
        rw [e2, e1]
        simpa [hexL] using this
  have uf : ∀ n, n < 16 → unfig (hexd n) = (n : Int) := fun n hn => unfig_hexd ⟨n, hn⟩
  constructor
  · intro j hj
    rcases (show j = 2 * (j / 2) ∨ j = 2 * (j / 2) + 1 by omega) with e | e
    · rw [e, (key a (j / 2) (by omega)).1, uf _ (by have := (a.getD (j / 2) 0).toNat_lt; omega)]; omega
    · rw [e, (key a (j / 2) (by omega)).2, uf _ (by omega)]; omega
  · apply List.ext_getElem (by simp [ha])
    intro i h1 h2
    have hi : i < 32 := by simpa using h1
    simp only [List.getElem_map, List.getElem_range, unpair]
    have hx := (a.getD i 0).toNat_lt
    rw [(key a i (by omega)).1, (key a i (by omega)).2, uf _ (by omega), uf _ (by omega)]
    have e : a[i] = a.getD i 0 := by rw [List.getD_eq_getElem?_getD, List.getElem?_eq_getElem h2]; rfl
    rw [e]
    simp only [Int.toNat_natCast]
    rw [show (a.getD i 0).toNat / 16 * 16 + (a.getD i 0).toNat % 16 = (a.getD i 0).toNat by omega]
    simp

theorem unhex_hex (a : List UInt8) (w : World) (ha : a.length = 32) : Calls Tryd.prog 9 #[.string ⟨(hexL a).toArray⟩] w fun r w' => r = .returned (.tuple #[.agg (idA a), .bool true]) ∧ Below w.heap.size w w' := by
  obtain ⟨h1, h2⟩ := good_hex a ha
  refine (unhex_64 ⟨(hexL a).toArray⟩ w (by show (hexL a).toArray.size = 64; simp [hexL_length, ha])).mono ?_
  rintro r w' ⟨h, hb⟩
  refine ⟨?_, hb⟩
  have hd : (ByteArray.mk (hexL a).toArray).data.toList = hexL a := rfl
  rw [hd] at h
  rcases h with ⟨_, h⟩ | ⟨hn, _⟩
  · rw [h, h2]
  · exact absurd h1 hn

/-- Both answer the same: an id and a bool. -/
theorem unhex_both (s : ByteArray) (hs : s.size ≤ 9223372036854775807) : ∃ (x : List UInt8) (b : Bool), x.length = 32 ∧
    (∀ w, Calls Tryd.prog 9 #[.string s] w fun r w' => r = .returned (.tuple #[.agg (idA x), .bool b]) ∧ Below w.heap.size w w') ∧
    (∀ w, Calls Tryd.prog 10 #[.string s] w fun r w' => r = .returned (.tuple #[.agg (idA x), .bool b]) ∧ Below w.heap.size w w') := by
  have hz : idA (List.replicate 32 0) = idA [] := rfl
  by_cases h : s.size = 64
  · by_cases hg : goodTo s.data.toList 64
    · refine ⟨(List.range 32).map (unpair s.data.toList), true, by simp, fun w => (unhex_64 s w h).mono ?_, fun w => (refunhex_64 s w h).mono ?_⟩
      all_goals
        rintro r w' ⟨hu, hb⟩
        rcases hu with ⟨_, hu⟩ | ⟨hn, _⟩
        · exact ⟨hu, hb⟩
        · exact absurd hg hn
    · refine ⟨List.replicate 32 0, false, by simp, fun w => (unhex_64 s w h).mono ?_, fun w => (refunhex_64 s w h).mono ?_⟩
      all_goals
        rintro r w' ⟨hu, hb⟩
        rcases hu with ⟨hn, _⟩ | ⟨_, hu⟩
        · exact absurd hn hg
        · exact ⟨by rw [hz]; exact hu, hb⟩
  · refine ⟨List.replicate 32 0, false, by simp, fun w => ?_, fun w => ?_⟩
    · rw [hz]; exact unhex_len s w hs h
    · rw [hz]; exact refunhex_len s w hs h

end Go.Proofs.YtijlmeodfmanmaaDoor
