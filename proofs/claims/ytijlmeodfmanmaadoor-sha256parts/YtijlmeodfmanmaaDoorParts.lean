/-
  WALKS OF LAYER 2: Sha256Parts.
-/
import Derived.Test.YtijlmeodfmanmaaDoorTells
import Derived.Laws.AppendOwn
import Derived.Deep.AppendLies
namespace Go.Proofs.YtijlmeodfmanmaaDoor
open Go.RowKit
set_option linter.unusedVariables false
set_option linter.unusedSimpArgs false
open Sh (Wd)

theorem Tryd.infoStr : (Tryd.prog.info? 9).map (fun i => (i.zero, i.size, i.bytes)) = some (some (.string ⟨#[]⟩), 1, 16) := by kernel_rfl

/-- A slice of numbers that came in: nil, or its cells. -/
inductive CutsAt (w : World) : Value → Nat → Prop
  | nil : CutsAt w (.slice none 0 0) 0
  | row (a : Addr) (n cap : Nat) (h : ∀ i, i < n → ∃ z : Nat, z < 65536 ∧ w.cell? (a.add i) = some (.int .u16 (z : Int))) (hn : n ≤ maxLen) : CutsAt w (.slice (some a) n cap) n

set_option maxHeartbeats 800000 in
set_option maxRecDepth 100000 in
theorem parts_long (s : ByteArray) (v : Value) (n : Nat) (w : World) (hs : s.size ≤ 9223372036854775807) (hv : CutsAt w v n) (h : 400 < s.size ∨ 20 < n) (hk : KIn w) :
    Calls Tryd.prog 4 #[.string s, v] w fun r w' => r = .returned (.bool true) ∧ Below w.heap.size w w' := by
  have HK := Lib.hid hk
  clear hk
  obtain ⟨p, cap, rfl, hnm⟩ : ∃ p cap, v = .slice p n cap ∧ n ≤ 9223372036854775807 := by
    cases hv with
    | nil => exact ⟨_, _, rfl, by omega⟩
    | row a n cap h hn => exact ⟨_, _, rfl, by unfold maxLen at hn; omega⟩
  clear hv
  by_cases h4 : 400 < s.size
  · have h' : (400 : Int) < (s.size : Int) := by omega
    have hd : decide ((400 : Int) < (s.size : Int)) = true := by simpa using h'
    go_enter Tryd.func4, Tryd.ntmps4
    go_wp2_with fail
    refine (knows_true _ HK.out).mono ?_
    rintro r w1 ⟨rfl, hb1⟩
    go_wp2_with fail
    go_ret
    exact ⟨rfl, hb1⟩
  · have h' : ¬ (400 : Int) < (s.size : Int) := by omega
    have hd : decide ((400 : Int) < (s.size : Int)) = false := by simpa using h'
    have hn' : (20 : Int) < (n : Int) := by omega
    have hd2 : decide ((20 : Int) < (n : Int)) = true := by simpa using hn'
    go_enter Tryd.func4, Tryd.ntmps4
    go_wp2_with fail
    refine (knows_true _ HK.out).mono ?_
    rintro r w1 ⟨rfl, hb1⟩
    go_wp2_with fail
    go_ret
    exact ⟨rfl, hb1⟩

theorem flat_snoc (Xs : List ByteArray) (x : ByteArray) : flat (Xs ++ [x]) = flat Xs ++ x.data.toList := by simp [flat]
theorem strs_snoc (Xs : List ByteArray) (x : ByteArray) : Xs.map Value.string ++ [.string x] = (Xs ++ [x]).map Value.string := by simp
theorem cut_both (r : ByteArray) (m : Nat) : (r.extract 0 m).data.toList ++ (r.extract m r.size).data.toList = r.data.toList := by
  rw [take_of_extract, drop_of_extract, List.take_append_drop]

set_option maxHeartbeats 1600000 in
set_option maxRecDepth 100000 in
theorem parts_short (s : ByteArray) (v : Value) (n : Nat) (w : World) (h1 : s.size ≤ 400) (h2 : n ≤ 20) (hv : CutsAt w v n) (hk : KIn w) :
    Calls Tryd.prog 4 #[.string s, v] w fun r w' => r = .returned (.bool true) ∧ Below w.heap.size w w' := by
  have HK := Lib.hid hk
  clear hk
  obtain ⟨i0, hi, hz0, hz1, hz2⟩ := info_parts Tryd.infoStr
  obtain ⟨p, cap, rfl, HV⟩ : ∃ p cap, v = .slice p n cap ∧ Hid (∀ i, i < n → ∃ (a : Addr) (z : Nat), p = some a ∧ z < 65536 ∧ w.cell? (a.add i) = some (.int .u16 (z : Int))) := by
    cases hv with
    | nil => exact ⟨_, _, rfl, fun i hi => absurd hi (by omega)⟩
    | row a n cap h hn => exact ⟨_, _, rfl, fun i hi => by obtain ⟨z, h3, h4⟩ := h i hi; exact ⟨a, z, rfl, h3, h4⟩⟩
  clear hv
  have h' : ¬ (400 : Int) < (s.size : Int) := by omega
  have hd : decide ((400 : Int) < (s.size : Int)) = false := by simpa using h'
  have hn' : ¬ (20 : Int) < (n : Int) := by omega
  have hd2 : decide ((20 : Int) < (n : Int)) = false := by simpa using hn'
  go_enter Tryd.func4, Tryd.ntmps4
  go_wp2
  go_loopw [5, 6, 7] (fun l r i wr => ∃ (k : Nat) (Xs : List ByteArray) (x : ByteArray), i = .int .i64 k ∧ k ≤ n ∧ r = .string x ∧ Hid (Xs.length = k) ∧ Hid (flat Xs ++ x.data.toList = s.data.toList) ∧ wr.ownsRow w.heap.size 9 1 l k (Xs.map Value.string) ∧ Below w.heap.size w wr) (fun _ _ i _ => n - (intOf i).toNat)
  case atStart => exact ⟨0, [], s, rfl, Nat.zero_le _, rfl, rfl, rfl, World.ownsRow_nil _ _ _ _, Below.refl _ _⟩
  case round =>
    obtain ⟨k, Xs, x, rfl, hk, rfl, HL, HF, hown, hb⟩ := hrel
    have hbs := hb.size
    have hxs : x.size ≤ 400 := by
      have := congrArg List.length HF.out
      rw [List.length_append, len_data, len_data] at this
      omega
    by_cases hlt : k < n
    · obtain ⟨a, z, rfl, hz, hcell⟩ := HV.out k hlt
      have hlt' : (k : Int) < (n : Int) := by omega
      have hcell2 : wr.cell? (a.add k) = some (.int .u16 (z : Int)) := (hb.cell (block_lt_of_cell hcell)).trans hcell
      have hm : (z : Int) % ((x.size : Int) + 1) = ((z % (x.size + 1) : Nat) : Int) := by simp
      have hm2 : z % (x.size + 1) ≤ x.size := by have := Nat.mod_lt z (show 0 < x.size + 1 by omega); omega
      generalize z % (x.size + 1) = m at hm hm2
      have hm3 : (m : Int) ≤ (x.size : Int) := by omega
      have hz0' : (0 : Int) ≤ (z : Int) := by omega
      have hz1' : (z : Int) < 65536 := by omega
      have hx1 : (0 : Int) < (x.size : Int) + 1 := by omega
      have HF2 := Lib.hid (show flat (Xs ++ [x.extract 0 m]) ++ (x.extract m x.size).data.toList = s.data.toList by rw [flat_snoc, List.append_assoc, cut_both, HF.out])
      have HL2 := Lib.hid (show (Xs ++ [x.extract 0 m]).length = k + 1 by rw [List.length_append, HL.out]; rfl)
      go_wp2_with (at_builtin; go_must (refine wpList_append_own _ (by rfl) _ _ 29 (by rfl) w.heap.size 9 i0 (.string ⟨#[]⟩) 1 16 Tryd.underlying29 hi hz0 hz1 hz2 rfl (by decide) _ k (Xs.map Value.string) (by rfl) (hown.alloc _) ⟨wr.heap.size, 0, none⟩ 1 1 [.string (x.extract 0 m)] (by rfl) rfl (by exact cell_one_new _ _ _) (by intro u hu; simp at hu; subst hu; rfl) (by unfold maxLen; omega) (by omega) (by simp; omega) ?_))
      intro v' w1 hown' hgrow _
      rw [strs_snoc] at hown'
      have hb' : Below w.heap.size w w1 := (hb.alloc hbs _).grown hgrow (by simp; omega) (fun k hk => (hown.lt k hk).1)
      clear hown hgrow hb
      go_wp2
      exact ⟨⟨k + 1, Xs ++ [x.extract 0 m], x.extract m x.size, by go_num, by omega, rfl, HL2, HF2, hown', hb'⟩, by simp [intOf]; omega⟩
    · have hge : ¬ (k : Int) < (n : Int) := by omega
      have HF2 := Lib.hid (show flat (Xs ++ [x]) = s.data.toList by rw [flat_snoc, HF.out])
      have HL2 := Lib.hid (show (Xs ++ [x]).length = k + 1 by rw [List.length_append, HL.out]; rfl)
      go_wp2_with (at_builtin; go_must (refine wpList_append_own _ (by rfl) _ _ 29 (by rfl) w.heap.size 9 i0 (.string ⟨#[]⟩) 1 16 Tryd.underlying29 hi hz0 hz1 hz2 rfl (by decide) _ k (Xs.map Value.string) (by rfl) (hown.alloc _) ⟨wr.heap.size, 0, none⟩ 1 1 [.string x] (by rfl) rfl (by exact cell_one_new _ _ _) (by intro u hu; simp at hu; subst hu; rfl) (by unfold maxLen; omega) (by omega) (by simp; omega) ?_))
      intro v' w1 hown' hgrow _
      rw [strs_snoc] at hown'
      have hb1 : Below w.heap.size w w1 := (hb.alloc hbs _).grown hgrow (by simp; omega) (fun k hk => (hown.lt k hk).1)
      clear hown hgrow hb HF
      generalize hY : Xs ++ [x] = Ys at HF2 HL2 hown'
      clear hY
      have HK1 := Lib.hid (HK.out.step hb1)
      obtain ⟨g, cap2, rfl, hg1, hg2⟩ := hown'.form (by omega)
      have HCe : Hid (∀ (j : Nat) y, Ys[j]? = some y → w1.cell? ⟨g, 0 + j, none⟩ = some (.string y)) := fun j y hy => by
        have h := hown'.cells (g := g) rfl j (.string y) (by rw [List.getElem?_map, hy]; rfl)
        have hadd : (⟨g, 0, none⟩ : Addr).add j = ⟨g, 0 + j, none⟩ := by unfold Addr.add; split <;> simp_all
        rw [hadd] at h
        exact h
      have hcap : k + 1 ≤ cap2 := by
        rcases hown'.2 with ⟨h0, _⟩ | ⟨g', cap', cur, hv, _, _, hn, _⟩
        · cases h0
        · cases hv; exact hn
      have HM := Lib.hid (fun wz (hc : ∀ (j : Nat) y, Ys[j]? = some y → wz.cell? ⟨g, 0 + j, none⟩ = some (.string y)) (hz : g < wz.heap.size) (hkz : KIn wz) => sum_any Ys g 0 cap2 wz hc hz (by rw [HL2.out]; omega) (by rw [HL2.out]; omega) (by rw [HF2.out, len_data]; omega) hkz)
      have HN := Lib.hid (fun wz hz => sum_one s wz hz (by omega))
      have HQ := Lib.hid (fun wz => eq_same (Sh.idOf (Sh.sha s.data.toList)) (Sh.idOf_length _) wz)
      rw [HL2.out, HF2.out] at HM
      generalize idA (Sh.idOf (Sh.sha s.data.toList)) = da at HM HN HQ
      clear hown'
      go_wp2_with fail
      refine (knows_true _ HK1.out).mono ?_
      rintro r w2 ⟨rfl, hb2⟩
      have HK2 := Lib.hid (HK1.out.step hb2)
      have hs2 := hb2.size
      go_wp2_with fail
      refine (HM.out w2 (fun j y hy => (hb2.cell (p := ⟨g, 0 + j, none⟩) hg2).trans (HCe.out j y hy)) (by omega) HK2.out).mono ?_
      rintro r w3 ⟨rfl, hb3⟩
      have HK3 := Lib.hid (HK2.out.step hb3)
      have hs3 := hb3.size
      go_wp2_with fail
      refine (HN.out w3 HK3.out).mono ?_
      rintro r w4 ⟨rfl, hb4⟩
      have hq := HQ.out w4
      go_wp2_with fail
      go_ret
      have hs0 := hb1.size
      exact ⟨rfl, (((hb1.trans (hb2.mono (by omega))).trans (hb3.mono (by omega))).alloc (by omega) _).trans (hb4.mono (by omega))⟩

theorem parts_any (s : ByteArray) (v : Value) (n : Nat) (w : World) (hs : s.size ≤ 9223372036854775807) (hv : CutsAt w v n) (hk : KIn w) :
    Calls Tryd.prog 4 #[.string s, v] w fun r w' => r = .returned (.bool true) ∧ Below w.heap.size w w' := by
  by_cases h : 400 < s.size ∨ 20 < n
  · exact parts_long s v n w hs hv h hk
  · exact parts_short s v n w (by omega) (by omega) hv hk

end Go.Proofs.YtijlmeodfmanmaaDoor
