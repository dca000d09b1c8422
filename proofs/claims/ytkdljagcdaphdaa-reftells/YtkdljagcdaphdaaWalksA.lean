/-
  WALKS OF LAYER 9: names, isNone, Fine, few, short; of the program and of the document.
-/
import Derived.Test.YtkdljagcdaphdaaBase
namespace Go.Proofs.Ytkdljagcdaphdaa
open Go.RowKit
set_option linter.unusedVariables false
set_option linter.unusedSimpArgs false

theorem badB_lo {c : UInt8} (h : (c.toNat : Int) < 33) : Rf.badB c = true := by unfold Rf.badB; simp; omega
theorem badB_hi {c : UInt8} (h : 126 < (c.toNat : Int)) : Rf.badB c = true := by unfold Rf.badB; simp; omega
theorem badB_no {c : UInt8} (h : ¬ (c.toNat : Int) < 33) (k : ¬ 126 < (c.toNat : Int)) : Rf.badB c = false := by unfold Rf.badB; simp; omega
theorem take_snoc (s : ByteArray) (k : Nat) (h : k < s.size) : s.data.toList.take (k + 1) = s.data.toList.take k ++ [s[k]] := by
  rw [List.take_succ_eq_append_getElem (by simpa using h)]; rfl
theorem byte_mem (s : ByteArray) (k : Nat) (h : k < s.size) : s[k] ∈ s.data.toList := by
  have : s[k] = s.data.toList[k]'(by simpa using h) := rfl
  rw [this]; exact List.getElem_mem _
theorem name_bad {s : ByteArray} {k : Nat} (h : k < s.size) (hb : Rf.badB s[k] = true) : Rf.nameOk s = false := by
  unfold Rf.nameOk
  have : s.data.toList.any Rf.badB = true := List.any_eq_true.2 ⟨_, byte_mem s k h, hb⟩
  simp [this]
theorem name_good {s : ByteArray} (h1 : 1 ≤ s.size) (h2 : s.size ≤ 40) (h : s.data.toList.any Rf.badB = false) : Rf.nameOk s = true := by
  unfold Rf.nameOk; simp [h1, h2]; simpa using h

set_option maxHeartbeats 400000 in
set_option maxRecDepth 100000 in
theorem refname_any (s : ByteArray) (w : World) (hs : s.size ≤ maxLen) :
    Calls Try.prog 19 #[.string s] w fun r w' => r = .returned (.bool (Rf.nameOk s)) ∧ w = w' := by
  unfold maxLen at hs
  by_cases h1 : s.size < 1
  · have HZ := Lib.hid (show Rf.nameOk s = false by unfold Rf.nameOk; simp; omega)
    have h1' : (s.size : Int) < 1 := by omega
    clear h1
    generalize Rf.nameOk s = z at HZ
    go_enter Try.func19, Try.ntmps19
    go_wp2_with fail
    go_ret
    exact ⟨ret_bool HZ.out.symm, rfl⟩
  · have h1' : ¬ (s.size : Int) < 1 := by omega
    by_cases h2 : 40 < s.size
    · have HZ := Lib.hid (show Rf.nameOk s = false by unfold Rf.nameOk; simp; omega)
      have h2' : 40 < (s.size : Int) := by omega
      clear h1 h2
      generalize Rf.nameOk s = z at HZ
      go_enter Try.func19, Try.ntmps19
      go_wp2_with fail
      go_ret
      exact ⟨ret_bool HZ.out.symm, rfl⟩
    · have h2' : ¬ 40 < (s.size : Int) := by omega
      have HB := Lib.hid (fun k (h : k < s.size) hb => name_bad (s := s) (k := k) h hb)
      have HG := Lib.hid (fun h => name_good (s := s) (by omega) (by omega) h)
      generalize Rf.nameOk s = z at HB HG
      go_enter Try.func19, Try.ntmps19
      go_wp2_with fail
      go_loop [3] (fun i => ∃ k : Nat, k ≤ s.size ∧ i = .int .i64 k ∧ Hid ((s.data.toList.take k).any Rf.badB = false)) (fun i => s.size - (intOf i).toNat)
      case atStart => exact ⟨0, Nat.zero_le _, rfl, by simp [Hid]⟩
      case round =>
        obtain ⟨k, hk, rfl, HN⟩ := hrel
        by_cases hlt : k < s.size
        · have hlt' : (k : Int) < (s.size : Int) := by omega
          by_cases hlo : (s[k].toNat : Int) < 33
          · have HZ := Lib.hid (HB.out k hlt (badB_lo hlo))
            go_wp2_with fail
            go_ret
            exact ⟨ret_bool HZ.out.symm, rfl⟩
          · by_cases hhi : 126 < (s[k].toNat : Int)
            · have HZ := Lib.hid (HB.out k hlt (badB_hi hhi))
              go_wp2_with fail
              go_ret
              exact ⟨ret_bool HZ.out.symm, rfl⟩
            · have HN2 := Lib.hid (show (s.data.toList.take (k + 1)).any Rf.badB = false by rw [take_snoc s k hlt, List.any_append, HN.out]; simp [badB_no hlo hhi])
              go_wp2_with fail
              go_round
              case rel => exact ⟨k + 1, by omega, by go_num, HN2⟩
              case measure => simp [intOf]; omega
        · have HZ := Lib.hid (HG.out (by
            have := HN.out
            rwa [List.take_of_length_le (by simp; omega)] at this))
          go_wp2_with fail
          go_ret
          exact ⟨ret_bool HZ.out.symm, rfl⟩

set_option maxHeartbeats 400000 in
set_option maxRecDepth 100000 in
theorem name_any (s : ByteArray) (w : World) (hs : s.size ≤ maxLen) :
    Calls Try.prog 18 #[.string s] w fun r w' => r = .returned (.bool (Rf.nameOk s)) ∧ w = w' := by
  unfold maxLen at hs
  by_cases h1 : s = ByteArray.empty
  · have HZ := Lib.hid (show Rf.nameOk s = false by subst h1; decide)
    generalize Rf.nameOk s = z at HZ
    subst h1
    go_enter Try.func18, Try.ntmps18
    go_wp2_with fail
    go_ret
    exact ⟨ret_bool HZ.out.symm, rfl⟩
  · have hne := size_ne h1
    have hnx := not_empty h1
    have hnx2 : s.toList.isEmpty = false := by simpa using hnx
    by_cases h2 : 40 < s.size
    · have HZ := Lib.hid (show Rf.nameOk s = false by unfold Rf.nameOk; simp; omega)
      have h2' : 40 < (s.size : Int) := by omega
      clear h2
      generalize Rf.nameOk s = z at HZ
      go_enter Try.func18, Try.ntmps18
      go_wp2_with fail
      go_ret
      exact ⟨ret_bool HZ.out.symm, rfl⟩
    · have h2' : ¬ 40 < (s.size : Int) := by omega
      have HB := Lib.hid (fun k (h : k < s.size) hb => name_bad (s := s) (k := k) h hb)
      have HG := Lib.hid (fun h => name_good (s := s) (by omega) (by omega) h)
      generalize Rf.nameOk s = z at HB HG
      have hq0 : ¬ s.toList = [] := by rw [ByteArray.toList_eq]; exact list_ne h1
      go_enter Try.func18, Try.ntmps18
      go_wp2_with fail
      go_loop [13] (fun i => ∃ k : Nat, k ≤ s.size ∧ i = .int .i64 k ∧ Hid ((s.data.toList.take k).any Rf.badB = false)) (fun i => s.size - (intOf i).toNat)
      case atStart => exact ⟨0, Nat.zero_le _, rfl, by simp [Hid]⟩
      case round =>
        obtain ⟨k, hk, rfl, HN⟩ := hrel
        by_cases hlt : k < s.size
        · have hlt' : (k : Int) < (s.size : Int) := by omega
          by_cases hlo : (s[k].toNat : Int) < 33
          · have HZ := Lib.hid (HB.out k hlt (badB_lo hlo))
            go_wp2_with fail
            go_ret
            exact ⟨ret_bool HZ.out.symm, rfl⟩
          · by_cases hhi : 126 < (s[k].toNat : Int)
            · have HZ := Lib.hid (HB.out k hlt (badB_hi hhi))
              go_wp2_with fail
              go_ret
              exact ⟨ret_bool HZ.out.symm, rfl⟩
            · have HN2 := Lib.hid (show (s.data.toList.take (k + 1)).any Rf.badB = false by rw [take_snoc s k hlt, List.any_append, HN.out]; simp [badB_no hlo hhi])
              go_wp2_with fail
              go_round
              case rel => exact ⟨k + 1, by omega, by go_num, HN2⟩
              case measure => simp [intOf]; omega
        · have HZ := Lib.hid (HG.out (by
            have := HN.out
            rwa [List.take_of_length_le (by simp; omega)] at this))
          go_wp2_with fail
          go_ret
          exact ⟨ret_bool HZ.out.symm, rfl⟩

/-! ### isNone -/
theorem built_zid : Try.prog.built 35 [] = some (idC Rf.zid).toArray := by kernel_rfl
theorem bd_zid {ops : Array Oper} {rest : List Oper} {o : Oper} {a : Act} {w : World} {Q : Exit → Act → World → Prop} (ho : o.op = .build 35 #[]) (hg : o.guard = none)
    (h : wpList Try.prog ops Q rest (a.put o.dst (.agg (idC Rf.zid).toArray)) w) : wpList Try.prog ops Q (o :: rest) a w :=
  wpList_build_as hg _ _ ho _ (by simpa using built_zid) h
theorem row_cells {w : World} {g : Nat} {l : List Value} {t : TypeId} (h : w.heap[g]? = some (.cells l.toArray t)) : ∀ j u, l[j]? = some u → w.cell? ((⟨g, 0, none⟩ : Addr).add j) = some u := news_row h
set_option maxHeartbeats 400000 in
set_option maxRecDepth 100000 in
theorem isNone_any (l : List UInt8) (w : World) (hl : l.length = 32) :
    Calls Try.prog 26 #[.agg (idC l).toArray] w fun r w' => r = .returned (.bool (decide (l = Rf.zid))) ∧ Below w.heap.size w w' := by
  have hq := fun W => eq_id l Rf.zid hl rfl W
  generalize decide (l = Rf.zid) = z at hq
  have HL := Lib.hid hl
  have HR := Lib.hid (row_cells (heap_alloc_new w (.cells (idC l).toArray 35)))
  have HB := Lib.hid (below_new w (.cells (idC l).toArray 35))
  clear hl
  go_enter Try.func26, Try.ntmps26
  go_wp2_with (first
    | ((with_reducible refine bd_zid ?_ ?_ ?_); rfl; rfl)
    | ((with_reducible refine ld_id (x := .tmp 1) (p := ⟨w.heap.size, 0, none⟩) ?_ ?_ ?_ HR.out HL.out ?_); rfl; rfl; rfl))
  go_ret
  exact ⟨rfl, HB.out⟩

end Go.Proofs.Ytkdljagcdaphdaa
