/-
  WALKS OF LAYER 5: measure.
-/
import Derived.Test.YtkifjobmomfofaaWalksB
namespace Go.Proofs.Ytkifjobmomfofaa
open Go.RowKit
set_option linter.unusedVariables false

def strSize : Value → Nat
  | .string x => x.size
  | _ => 0

theorem list_ne {x : ByteArray} (h : ¬ x = ByteArray.empty) : x.data.toList ≠ [] := fun e => h (by
  cases x with | mk d => cases d with | mk l => simp at e; subst e; rfl)
theorem size_ne {x : ByteArray} (h : ¬ x = ByteArray.empty) : 0 < x.size := by
  have := list_ne h
  have h2 := size_list x
  have : x.data.toList.length ≠ 0 := fun e => this (List.eq_nil_of_length_eq_zero e)
  omega

theorem not_empty {x : ByteArray} (h : ¬ x = ByteArray.empty) : (!x.toList.isEmpty) = true := by
  have := list_ne h
  rw [ByteArray.toList_eq]
  simpa using this

set_option maxHeartbeats 800000 in
set_option maxRecDepth 100000 in
theorem measure_any (s : ByteArray) (most : Nat) (w : World) (hs : s.size ≤ maxLen) (hm : most ≤ 4611686018427387904) (R : Nat × Nat) (hR : Lz.mesF most s.size s.data.toList 0 = R) :
    Calls Try.prog 16 #[.string s, .int .i64 most] w fun r w' => r = .returned (.tuple #[.int .i64 R.2, .int .i64 R.1]) ∧ Below w.heap.size w w' := by
  have HR := Lib.hid hR
  clear hR
  go_enter Try.func16, Try.ntmps16
  go_wp2
  go_loopw [0, 6] (fun d tt wr => ∃ (x : ByteArray) (t k : Nat), d = .string x ∧ tt = .int .i64 t ∧ t ≤ most ∧ x.size ≤ k ∧ x.size ≤ s.size ∧ Hid (Lz.mesF most k x.data.toList t = R) ∧ Below w.heap.size w wr) (fun d _ _ => strSize d)
  case atStart => exact ⟨s, 0, s.size, rfl, rfl, Nat.zero_le _, Nat.le_refl _, Nat.le_refl _, HR, Below.refl _ _⟩
  case round =>
    obtain ⟨x, t, k, rfl, rfl, ht, hk, hxs, HX, hb⟩ := hrel
    clear HR
    by_cases hx : x = ByteArray.empty
    · subst hx
      have hr := HX.out
      rw [show ByteArray.empty.data.toList = [] from rfl, Lz.mesF_nil] at hr
      subst hr
      clear HX
      go_wp2_with fail
      go_ret2
      exact ⟨rfl, hb⟩
    · have hx0 := list_ne hx
      have hxz := size_ne hx
      have hxe := not_empty hx
      have hkl : x.data.toList.length ≤ k := by rw [size_list]; exact hk
      have hbs := hb.size
      cases hst : Lz.stp x.data.toList t with
      | none =>
        have hr := HX.out
        rw [Lz.mesF_bad hx0 hkl hst] at hr
        subst hr
        have HS := Lib.hid hst
        clear HX hst
        go_wp2_with fail
        refine (takeStep_no x t _ (by omega) (by omega) HS.out).mono ?_
        rintro e w2 ⟨rfl, hb2⟩
        unfold stV
        go_wp2_with fail
        go_ret2
        exact ⟨rfl, (below_step hb hb2).alloc (Nat.le_trans hbs hb2.size) _⟩
      | some p =>
        obtain ⟨c, f, h⟩ := p
        have hsb := Lz.stp_bd hst
        have hd0 := Lz.drop_lt hst
        by_cases hmo : most < t + c
        · have hr := HX.out
          rw [Lz.mesF_most hx0 hkl hst hmo] at hr
          subst hr
          have HS := Lib.hid hst
          clear HX hst hd0
          have hw3 : IntKind.u64.wrap ((most : Int) - (t : Int)) = (most : Int) - (t : Int) := u64_wrap_id _ (by omega) (by omega)
          have hgt : (most : Int) - (t : Int) < (c : Int) := by omega
          go_wp2_with fail
          refine (takeStep_ok x t _ (by omega) (by omega) c f h HS.out).mono ?_
          rintro e w2 ⟨la, lb, ha, hbb, rfl, hb2⟩
          clear ha hbb
          unfold stV
          go_wp2_with fail
          go_ret2
          exact ⟨rfl, (below_step hb hb2).alloc (Nat.le_trans hbs hb2.size) _⟩
        · obtain ⟨k, rfl⟩ : ∃ k', k = k' + 1 := ⟨k - 1, by omega⟩
          have hr := HX.out
          rw [Lz.mesF_step hx0 hst hmo] at hr
          have HY := Lib.hid hr
          have HS := Lib.hid hst
          have hd1 := hd0 k hkl
          clear HX hst hd0 hr
          have hw3 : IntKind.u64.wrap ((most : Int) - (t : Int)) = (most : Int) - (t : Int) := u64_wrap_id _ (by omega) (by omega)
          have hgt : ¬ (most : Int) - (t : Int) < (c : Int) := by omega
          go_wp2_with fail
          refine (takeStep_ok x t _ (by omega) (by omega) c f h HS.out).mono ?_
          rintro e w2 ⟨la, lb, ha, hbb, rfl, hb2⟩
          have hlz := size_list lb
          rw [hbb] at hlz
          have HBB := Lib.hid hbb
          clear ha hbb
          unfold stV
          have hlt : lb.size < x.size := by
            rw [← hlz, List.length_drop, size_list]
            have : 1 ≤ Lz.used c f h := by unfold Lz.used; split <;> omega
            omega
          have hlk : lb.size ≤ k := by omega
          clear hlz hd1
          go_wp2_with fail
          exact ⟨⟨lb, t + c, k, rfl, by go_num, by omega, hlk, by omega, by rw [HBB.out]; exact HY.out, (below_step hb hb2).alloc (Nat.le_trans hbs hb2.size) _⟩, by simp [strSize]; omega⟩

end Go.Proofs.Ytkifjobmomfofaa
