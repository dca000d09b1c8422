/-
  WALKS OF LAYER 10: strings.SplitN at a space, Get; knows.
-/
import Derived.Test.YtkdljagcdaphdabDoorWalksB
namespace Go.Proofs.YtkdljagcdaphdabDoor
open Go.RowKit
set_option linter.unusedVariables false
set_option linter.unusedSimpArgs false

theorem split_any (s : ByteArray) (w : World) (hs : s.size ≤ 100000) (N : Nat) (hN : (N : Int) = min 21 ((s.size : Int) + 1)) :
    Calls Tryd.prog 28 #[.string s, .string ⟨#[32]⟩, .int .i64 0, .int .i64 21] w fun r w' => r = .returned (.slice (some ⟨w.heap.size, 0, none⟩) (Lib.splitB Cp.sp 0 (N - 1) s).length N) ∧ w' = w.alloc (.cells (Lib.cellsOf (Lib.splitB Cp.sp 0 (N - 1) s) N) 9) :=
  Any.strings_genSplit_core Tryd.lays221 infoStr s Cp.sp 0 21 N w (by omega) (by decide) (by decide)
    (fun x c hx => (Tryd.strings_Index_one x 32 _).mono fun r w' ⟨h1, h2⟩ => ⟨by rw [h1, Cp.indexB_sp], h2⟩)
    ((Tryd.strings_Count_one s 32 w).mono fun r w' ⟨h1, h2⟩ => ⟨by
      rw [h1]
      show _ = Ending.returned (Value.int .i64 ((Lib.count s.data.toList [32] : Nat) : Int))
      rw [Lib.count_one]; rfl, h2⟩)
    (by decide) (by decide) (by rw [if_neg (by decide)]; exact hN)
theorem cells_strs (w : World) (L : List ByteArray) (N : Nat) (hN : L.length ≤ N) : StrsAt (w.alloc (.cells (Lib.cellsOf L N) 9)) (.slice (some ⟨w.heap.size, 0, none⟩) L.length N) L := by
  refine ⟨.inr ⟨⟨w.heap.size, 0, none⟩, N, rfl, hN, fun i s hi => ?_⟩⟩
  have hlt : i < L.length := (List.getElem?_eq_some_iff.1 hi).1
  rw [Addr.add_mid, Nat.zero_add, cell_of_row _ _ _ _ _ (0, 0) (heap_alloc_new w _)]
  unfold Lib.cellsOf
  rw [List.getElem?_toArray, List.getElem?_append_left (by simpa using hlt), List.getElem?_map, hi]; rfl
/-- What SplitN leaves. -/
def SpP (s : ByteArray) (w : World) (r : Ending) (w' : World) : Prop := ∃ v k, r = .returned v ∧ StrsAt w' v (Lib.splitB Cp.sp 0 k s) ∧ (min 20 s.size = k) ∧ Below w.heap.size w w'
set_option maxHeartbeats 400000 in
set_option maxRecDepth 100000 in
theorem splitN_any (s : ByteArray) (w : World) (hs : s.size ≤ 100000) : Calls Tryd.prog 22 #[.string s, .string ⟨#[32]⟩, .int .i64 21] w (SpP s w) := by
  have HG := Lib.hid (split_any s w hs (min 20 s.size + 1) (by omega))
  have HP := Lib.hid (show SpP s w (.returned (.slice (some ⟨w.heap.size, 0, none⟩) (Lib.splitB Cp.sp 0 (min 20 s.size + 1 - 1) s).length (min 20 s.size + 1))) (w.alloc (.cells (Lib.cellsOf (Lib.splitB Cp.sp 0 (min 20 s.size + 1 - 1) s) (min 20 s.size + 1)) 9)) from
    ⟨_, min 20 s.size, rfl, by
      rw [Nat.add_sub_cancel]
      exact cells_strs w _ _ (Lib.splitB_length_le _ _ _ _), rfl, below_new _ _⟩)
  generalize (Lib.splitB Cp.sp 0 (min 20 s.size + 1 - 1) s).length = n at HG HP
  generalize w.alloc (.cells (Lib.cellsOf (Lib.splitB Cp.sp 0 (min 20 s.size + 1 - 1) s) (min 20 s.size + 1)) 9) = w1 at HG HP
  generalize min 20 s.size + 1 = N at HG HP
  go_enter Tryd.func22, Tryd.ntmps22
  go_wp2_with fail
  refine HG.out.mono ?_
  rintro r wx ⟨rfl, hw⟩
  rw [hw]
  clear hw HG
  go_wp2_with fail
  go_ret
  exact HP.out

/-- What Get answers. -/
def GetP (s : ByteArray) (w : World) (r : Ending) (w' : World) : Prop :=
  (∃ L v, Cp.Is s.data.toList L ∧ StrsAt w' v L ∧ r = .returned (.tuple #[v, .int .i64 0]) ∧ Below w.heap.size w w') ∨ ((∀ L, ¬ Cp.Is s.data.toList L) ∧ r = .returned (.tuple #[.slice none 0 0, .int .i64 2]) ∧ Below w.heap.size w w')
theorem fine_nil : Cp.fine [] = true := by kernel_rfl
theorem split_size : ∀ (k : Nat) (s : ByteArray), ∀ x ∈ Lib.splitB Cp.sp 0 k s, x.size ≤ s.size
  | 0, s, x, hx => by rw [Lib.splitB_zero] at hx; simp at hx; rw [hx]; exact Nat.le_refl _
  | k + 1, s, x, hx => by
    rcases Lib.indexB_cases s Cp.sp with h | ⟨i, h, _⟩
    · rw [Lib.splitB_miss _ _ _ _ h] at hx; simp at hx; rw [hx]; exact Nat.le_refl _
    · rw [Lib.splitB_hit _ _ _ _ _ h] at hx
      rcases List.mem_cons.1 hx with rfl | hx
      · simp; omega
      · have := split_size k _ x hx
        simp at this; omega
set_option maxHeartbeats 400000 in
set_option maxRecDepth 100000 in
theorem get_any (s : ByteArray) (w : World) (hs : s.size ≤ 100000) : Calls Tryd.prog 11 #[.string s] w (GetP s w) := by
  by_cases h1 : s = ByteArray.empty
  · have HQ := Lib.hid (show GetP s w (.returned (.tuple #[.slice none 0 0, .int .i64 0])) w from .inl ⟨[], _, ⟨fine_nil, by rw [h1]; rfl⟩, StrsAt.nil _, rfl, Below.refl _ _⟩)
    subst h1
    go_enter Tryd.func11, Tryd.ntmps11
    go_wp2_with fail
    go_ret2
    exact HQ.out
  · have hne := size_ne h1
    have hnx := not_empty h1
    have hnx2 : s.toList.isEmpty = false := by simpa using hnx
    have hq0 : ¬ s.toList = [] := by rw [ByteArray.toList_eq]; exact list_ne h1
    have HL0 := Lib.hid (list_ne h1)
    have HSP := Lib.hid (splitN_any s w hs)
    have HSZ := Lib.hid (split_size (min 20 s.size) s)
    have HTX := Lib.hid (Cp.split_text (min 20 s.size) s)
    have HLE := Lib.hid (Lib.splitB_length_le Cp.sp 0 (min 20 s.size) s)
    have HIS := Lib.hid (show ∀ L, Cp.Is s.data.toList L → Lib.splitB Cp.sp 0 (min 20 s.size) s = L from fun L q => q.split HL0.out _ (by
      have h2 := Cp.fine_len q.1
      have h3 := Cp.text_long L
      rw [q.2] at h3
      simp at h3; omega))
    clear h1
    go_enter Tryd.func11, Tryd.ntmps11
    go_wp2_with fail
    refine HSP.out.mono ?_
    rintro r w1 ⟨v, k, rfl, hst, rfl, hb1⟩
    have HST := Lib.hid hst
    clear hst HSP
    generalize Lib.splitB Cp.sp 0 (min 20 s.size) s = P at *
    have HFN := Lib.hid (fine_any v P w1 HST.out (fun r hr => by have := HSZ.out r hr; unfold maxLen; omega) (by have := HLE.out; unfold maxLen; omega))
    cases hf : Cp.fine P with
    | true =>
      rw [hf] at HFN
      have HQ := Lib.hid (show GetP s w (.returned (.tuple #[v, .int .i64 0])) w1 from .inl ⟨P, v, ⟨hf, HTX.out.1⟩, HST.out, rfl, hb1⟩)
      clear hf
      go_wp2_with fail
      refine HFN.out.mono ?_
      rintro r wx ⟨rfl, rfl⟩
      go_wp2_with fail
      go_ret2
      exact HQ.out
    | false =>
      rw [hf] at HFN
      have HQ := Lib.hid (show GetP s w (.returned (.tuple #[.slice none 0 0, .int .i64 2])) w1 from .inr ⟨(fun L q => by
        have := HIS.out L q
        rw [← this] at q
        rw [q.1] at hf
        cases hf), rfl, hb1⟩)
      clear hf
      go_wp2_with fail
      refine HFN.out.mono ?_
      rintro r wx ⟨rfl, rfl⟩
      go_wp2_with fail
      go_ret2
      exact HQ.out

/-! ### knows -/
def bt : ByteArray := ⟨#[98, 97, 110, 100, 32, 116, 104, 105, 110]⟩
def nw : ByteArray := ⟨#[110, 101, 119]⟩
theorem is_bt : Cp.Is bt.data.toList [Cp.k1, Cp.k4] := ⟨by kernel_rfl, by kernel_rfl⟩
theorem ch_ex : Cp.choose [Cp.k1, nw, Cp.k4] [nw, Cp.k3, Cp.k4] = [Cp.k4] := by kernel_rfl
theorem strs_three (w : World) (x y z : ByteArray) {W : World} {g : Nat} (h : W.heap[g]? = some (.cells #[.string x, .string y, .string z] 9)) : StrsAt W (.slice (some ⟨g, 0, none⟩) 3 3) [x, y, z] := by
  refine ⟨.inr ⟨⟨g, 0, none⟩, 3, rfl, by simp, fun i s hi => ?_⟩⟩
  rw [Addr.add_mid, Nat.zero_add, cell_of_row _ _ _ _ _ (0, 0) h]
  match i with
  | 0 => simp at hi; subst hi; rfl
  | 1 => simp at hi; subst hi; rfl
  | 2 => simp at hi; subst hi; rfl
  | i + 3 => simp at hi
set_option maxHeartbeats 1000000 in
set_option maxRecDepth 100000 in
theorem knows_true (w : World) : Calls Tryd.prog 6 #[] w fun r w' => r = .returned (.bool true) ∧ Below w.heap.size w w' := by
  have HG := Lib.hid (get_any bt w (by decide))
  have HC := Lib.hid (fun W => choose_any (.slice (some ⟨W.heap.size, 0, none⟩) 3 3) (.slice (some ⟨W.heap.size + 1, 0, none⟩) 3 3) [Cp.k1, nw, Cp.k4] [nw, Cp.k3, Cp.k4] ((W.alloc (.cells #[.string Cp.k1, .string nw, .string Cp.k4] 9)).alloc (.cells #[.string nw, .string Cp.k3, .string Cp.k4] 9))
    (strs_three W _ _ _ (by rw [Below.heap_alloc _ _ _ (by simp)]; exact heap_alloc_new _ _)) (strs_three W _ _ _ (by have := heap_alloc_new (W.alloc (.cells #[.string Cp.k1, .string nw, .string Cp.k4] 9)) (.cells #[.string nw, .string Cp.k3, .string Cp.k4] 9); simpa using this)) (by decide) (by decide))
  have HB2 := Lib.hid (fun W : World => ((Below.refl _ W).alloc (Nat.le_refl _) (.cells #[.string Cp.k1, .string nw, .string Cp.k4] 9)).alloc (by simp) (.cells #[.string nw, .string Cp.k3, .string Cp.k4] 9))
  go_enter Tryd.func6, Tryd.ntmps6
  go_wp2_with fail
  refine HG.out.mono ?_
  rintro r w1 (⟨L, v, hIs, hst, rfl, hb1⟩ | ⟨hno, rfl, hb1⟩)
  · obtain rfl : L = [Cp.k1, Cp.k4] := Cp.Is.uniq (s := bt) hIs is_bt
    obtain ⟨ao, cap, rfl⟩ : ∃ ao cap, v = .slice ao 2 cap := hst.form
    clear hIs hst HG
    go_wp2_with fail
    refine (HC.out _).mono ?_
    rintro r w2 ⟨v2, rfl, hst2, hb2⟩
    rw [ch_ex] at hst2
    have hb02 := below_step hb1 (below_step (HB2.out w1) hb2)
    obtain ⟨b, o, cap2, hv2, _, _, hc2⟩ := hst2.at (by simp)
    subst hv2
    have c2 := hc2 0 Cp.k4 rfl
    rw [Nat.add_zero] at c2
    clear hb2 hst2 hc2 HC HB2 hb1
    have HK := Lib.hid (known_any w2)
    have hlt2 := World.block_lt_of_cell? w2 _ c2
    go_wp2_with fail
    refine HK.out.mono ?_
    rintro r w3 ⟨rfl, hw3⟩
    have hb03 : Below w.heap.size w w3 := by rw [hw3]; exact below_step hb02 (below_new _ _)
    have c3 : w3.cell? ⟨b, o, none⟩ = some (.string Cp.k4) := by rw [hw3, World.cell?_alloc_old _ _ _ (Nat.ne_of_lt hlt2)]; exact c2
    have c4 : w3.cell? ⟨w2.heap.size, 0, none⟩ = some (.string Cp.k0) := by rw [hw3, cell_of_row _ _ _ _ _ (0, 0) (heap_alloc_new w2 _)]; rfl
    have q1 : (Cp.k4.toList == [116, 104, 105, 110]) = true := by kernel_rfl
    have Q2 := Lib.hid (show (Cp.k0.toList == [97, 116, 111, 109, 105, 99]) = true by kernel_rfl)
    clear hw3 HK c2
    go_wp2_with fail
    go_ret
    exact ⟨by first | rfl | exact ret_bool Q2.out, hb03⟩
  · exact absurd is_bt (hno _)

end Go.Proofs.YtkdljagcdaphdabDoor
