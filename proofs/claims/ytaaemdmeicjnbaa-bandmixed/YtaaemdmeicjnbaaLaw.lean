/-
  THE WALK OF THE LAW BandPuts: whatever the channel, the stream and the size, it answers true; knows.
-/
import Derived.Test.YtaaemdmeicjnbaaPut
import Derived.Test.YtaaemdmeicjnbaaGet
namespace Go.Proofs.Ytaaemdmeicjnbaa
open Go.RowKit
set_option linter.unusedVariables false
set_option linter.unusedSimpArgs false
open Pk (Ln)

/-- The lines of the document's example. -/
def exL : List Ln := [⟨0, ⟨#[1, 97, 98]⟩⟩, ⟨0, ⟨#[1, 99]⟩⟩]
theorem ex_put : Pk.put 1 2 ⟨#[97, 98, 99]⟩ = exL := by
  unfold Pk.put
  rw [show (⟨#[97, 98, 99]⟩ : ByteArray).size = 2 + 1 from rfl, Pk.cut_step (by decide)]
  rw [show (⟨#[97, 98, 99]⟩ : ByteArray).extract (min 2 (⟨#[97, 98, 99]⟩ : ByteArray).size) (⟨#[97, 98, 99]⟩ : ByteArray).size = ⟨#[99]⟩ from Pk.bytes_ext (by rw [Pk.extract_data]; rfl)]
  rw [show (2 : Nat) = 1 + 1 from rfl, Pk.cut_step (by decide), show (⟨#[99]⟩ : ByteArray).extract (min (1 + 1) (⟨#[99]⟩ : ByteArray).size) (⟨#[99]⟩ : ByteArray).size = .empty from Pk.bytes_ext (by rw [Pk.extract_data]; rfl), Pk.cut_nil rfl]
  unfold exL Pk.ln
  congr 1
def flL : List Ln := [⟨1, ⟨#[]⟩⟩]
theorem ex_found : foundV flL = .tuple #[.string ⟨#[]⟩, .string ⟨#[]⟩, .int .i64 2] := found_bad (p := ⟨1, ⟨#[]⟩⟩) (by simp [flL]) (by decide +kernel)
theorem ex_lines (w : World) (t : TypeId) : LinesAt (w.alloc (.cells #[.int .i64 1, .string ⟨#[]⟩] t)) (.slice (some ⟨w.heap.size, 0, none⟩) 1 1) flL := by
  refine ⟨.inr ⟨⟨w.heap.size, 0, none⟩, 1, rfl, fun i e hi => ?_⟩⟩
  have key : ∀ j x, (#[Value.int .i64 1, .string ⟨#[]⟩] : Array Value)[j]? = some x → (w.alloc (.cells #[.int .i64 1, .string ⟨#[]⟩] t)).cell? ⟨w.heap.size, j, none⟩ = some x := fun j x hx => by
    rw [cell_of_row _ _ j _ _ _ (heap_alloc_new _ _)]; exact hx
  match i with
  | 0 =>
    simp [flL] at hi; subst hi
    exact ⟨key 0 _ rfl, key 1 _ rfl⟩
  | i + 1 => simp [flL] at hi

set_option maxHeartbeats 1000000 in
set_option maxRecDepth 100000 in
theorem knows_true (w : World) : Calls Try.prog 6 #[] w fun r w' => r = .returned (.bool true) ∧ Below w.heap.size w w' := by
  have HP : Hid (Calls Try.prog 7 #[.int .i64 1, .string ⟨#[97, 98, 99]⟩, .int .i64 2] w fun r w' => ∃ v, r = .returned (.tuple #[v, .int .i64 0]) ∧ OwnR 34 w' w.heap.size v (Pk.put 1 2 ⟨#[97, 98, 99]⟩) ∧ Below w.heap.size w w') := put_ok 1 2 ⟨#[97, 98, 99]⟩ w (by decide) (by decide) (by decide)
  have HG := Lib.hid (fun W => get_any _ flL _ (ex_lines W 34) (by decide) (by intro e he; simp [flL] at he; subst he; decide))
  rw [ex_found] at HG
  rw [ex_put] at HP
  go_enter Try.func6, Try.ntmps6
  go_wp2_with fail
  refine HP.out.mono ?_
  rintro r w1 ⟨v, rfl, hown, hb1⟩
  obtain ⟨ao, cap, rfl⟩ := hown.rows.form
  have HR := Lib.hid hown.rows
  clear HP hown
  go_wp2_with fail
  refine (HG.out _).mono ?_
  rintro r w2 ⟨rfl, hb2⟩
  have hb12 := below_step (below_new w1 _) hb2
  have hb02 := below_step hb1 hb12
  obtain ⟨a, ea, c0, c1⟩ := (HR.out.below hb12).elem 0 _ rfl
  obtain ⟨a', ea', e0, e1⟩ := (HR.out.below hb12).elem 1 _ rfl
  subst ea
  cases ea'
  have hA1 := add_block a (0 * 2)
  have hA2 := add_off a (0 * 2)
  have hA3 := add_block a (1 * 2)
  have hA4 := add_off a (1 * 2)
  simp only [exL] at *
  clear hb2 hb12 hb1 HR HG
  go_wp2_with fail
  go_ret
  exact ⟨rfl, hb02⟩

theorem lines_nil (w : World) : LinesAt w (.slice none 0 0) [] := ⟨.inl ⟨rfl, rfl⟩⟩

set_option maxHeartbeats 1000000 in
set_option maxRecDepth 100000 in
theorem bandputs_any (c n : Int) (s : ByteArray) (w : World) (hs : s.size ≤ maxLen) :
    Calls Try.prog 3 #[.int .i64 c, .string s, .int .i64 n] w fun r w' => r = .returned (.bool true) ∧ Below w.heap.size w w' := by
  by_cases h3 : 3000 < s.size
  · have h3' : 3000 < (s.size : Int) := by omega
    unfold maxLen at hs
    clear h3
    go_enter Try.func3, Try.ntmps3
    go_wp2_with fail
    refine (knows_true _).mono ?_
    rintro r w1 ⟨rfl, hb1⟩
    go_wp2_with fail
    go_ret
    exact ⟨rfl, hb1⟩
  · have h3' : ¬ 3000 < (s.size : Int) := by omega
    have h3n : s.size ≤ 3000 := by omega
    clear h3 hs
    by_cases hok : 1 ≤ c ∧ c ≤ 3 ∧ 1 ≤ n ∧ n ≤ 999
    · obtain ⟨k1, k2, k3, k4⟩ := hok
      obtain ⟨cn, rfl⟩ := Int.eq_ofNat_of_zero_le (show 0 ≤ c by omega)
      obtain ⟨m, rfl⟩ := Int.eq_ofNat_of_zero_le (show 0 ≤ n by omega)
      obtain ⟨cb, rfl⟩ : ∃ cb : UInt8, cb.toNat = cn := ⟨UInt8.ofNat cn, by rw [UInt8.toNat_ofNat']; omega⟩
      have HP := Lib.hid (fun W => put_ok cb m s W (by omega) (by omega) h3n)
      have HR := Lib.hid (fun W => refput_ok cb m s W (by omega) (by omega) h3n)
      have hln := Pk.put_len cb m (by omega) s
      generalize Pk.put cb m s = L at *
      have hl3 : L.length ≤ 3000 := by omega
      clear k1 k2 k3 k4 hln
      go_enter Try.func3, Try.ntmps3
      go_wp2_with fail
      refine (HP.out _).mono ?_
      rintro r w1 ⟨v1, rfl, hown1, hb1⟩
      have HR1 := Lib.hid hown1.rows
      clear hown1
      go_wp2_with fail
      refine (HR.out _).mono ?_
      rintro r w2 ⟨v2, rfl, hown2, hb2⟩
      have HR2 := Lib.hid hown2.rows
      have HL1 := Lib.hid (HR1.out.below hb2)
      have hb02 := below_step hb1 hb2
      clear hown2 hb1 hb2 HR1
      go_wp2_with fail
      refine (as_any _ L w2 HL1.out hl3).mono ?_
      rintro r w3 ⟨v3, rfl, hown3, hb3⟩
      have HR3 := Lib.hid hown3.rows
      have HL2 := Lib.hid (HR2.out.below hb3)
      have hb03 := below_step hb02 hb3
      clear hown3 hb02 hb3 HR2 HL1
      go_wp2_with fail
      refine (same_any L _ _ w3 HR3.out HL2.out hl3).mono ?_
      rintro r w4 ⟨rfl, hb4⟩
      have hb04 := below_step hb03 hb4
      clear hb03 hb4
      go_wp2_with fail
      refine (knows_true _).mono ?_
      rintro r w5 ⟨rfl, hb5⟩
      go_wp2_with fail
      go_ret
      exact ⟨rfl, below_step hb04 hb5⟩
    · have HP := Lib.hid (fun W => put_bad c n s W hok)
      have HR := Lib.hid (fun W => refput_bad c n s W hok)
      clear hok
      go_enter Try.func3, Try.ntmps3
      go_wp2_with fail
      refine (HP.out _).mono ?_
      rintro r w1 ⟨rfl, rfl⟩
      go_wp2_with fail
      refine (HR.out _).mono ?_
      rintro r w2 ⟨rfl, rfl⟩
      go_wp2_with fail
      refine (as_any _ [] _ (lines_nil _) (by decide)).mono ?_
      rintro r w3 ⟨v3, rfl, hown3, hb3⟩
      have HR3 := Lib.hid hown3.rows
      clear hown3
      go_wp2_with fail
      refine (same_any [] _ _ w3 HR3.out (lines_nil _) (by decide)).mono ?_
      rintro r w4 ⟨rfl, hb4⟩
      have hb04 := below_step hb3 hb4
      clear hb3 hb4
      go_wp2_with fail
      refine (knows_true _).mono ?_
      rintro r w5 ⟨rfl, hb5⟩
      go_wp2_with fail
      go_ret
      exact ⟨rfl, below_step hb04 hb5⟩

end Go.Proofs.Ytaaemdmeicjnbaa
