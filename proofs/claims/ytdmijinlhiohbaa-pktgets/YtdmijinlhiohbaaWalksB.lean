/-
  WALKS OF LAYER 7: Get (pkt), Get (knapsackref07).
-/
import Derived.Test.YtdmijinlhiohbaaWalksA
namespace Go.Proofs.Ytdmijinlhiohbaa
open Go.RowKit
set_option linter.unusedVariables false
set_option linter.unusedSimpArgs false
open Pk (Ln)

theorem below_set2 {w w1 : World} (h : Below w.heap.size w w1) (a b : Value) : Below w.heap.size w ((w1.setCell ⟨w.heap.size, 0, none⟩ a).setCell ⟨w.heap.size, 1, none⟩ b) :=
  (h.setCell (Nat.le_refl _) _).setCell (Nat.le_refl _) _

/-- What Get answers. -/
def getV (s : ByteArray) : Option (Ln × Nat) → Value
  | none => .tuple #[lnV ⟨0, .empty⟩, .string .empty, .int .i64 2]
  | some (p, n) => .tuple #[lnV p, .string (s.extract n s.size), .int .i64 0]
def GetR (s : ByteArray) (w : World) (r : Ending) (w' : World) : Prop := r = .returned (getV s (Pk.get s)) ∧ Below w.heap.size w w'

set_option maxHeartbeats 800000 in
set_option maxRecDepth 100000 in
theorem get_any (s : ByteArray) (w : World) (hs : s.size ≤ maxLen) :
    Calls Try.prog 11 #[.string s] w (GetR s w) := by
  have HR := Lib.hid (fun W => readHead_any s W hs)
  unfold maxLen at hs
  have HB := Lib.hid (below_new w (.cells #[.int .i64 0, .string .empty] 33))
  cases hr : Pk.rd s.data.toList with
  | none =>
    rw [hr] at HR
    have HG := Lib.hid (Pk.get_none_rd hr)
    clear hr
    unfold rdV at HR
    go_enter Try.func11, Try.ntmps11
    go_wp2_with fail
    refine (HR.out _).mono ?_
    rintro e w1 ⟨rfl, rfl⟩
    go_wp2_with fail
    exact bodyPost_ret (v := getV s none) (by simp [results, Try.results11, go_sem, getV, lnV]; try rfl) rfl ⟨by rw [HG.out], below_new _ _⟩
  | some n =>
    rw [hr] at HR
    obtain ⟨h4, hn, _⟩ := Pk.rd_some hr
    rw [size_list] at h4
    have hg := Pk.get_of_rd hr
    clear hr
    unfold rdV at HR
    rcases (by omega : n = 0 ∨ n = 1 ∨ ((4 ≤ n ∧ n ≤ 1004 ∧ n ≤ s.size) ∧ n ≠ 0 ∧ n ≠ 1) ∨ (¬ (4 ≤ n ∧ n ≤ 1004 ∧ n ≤ s.size) ∧ n ≠ 0 ∧ n ≠ 1)) with rfl | rfl | ⟨hh, n0, n1⟩ | ⟨hh, n0, n1⟩
    · rw [if_pos rfl] at hg
      have HG := Lib.hid hg
      clear hg
      have h4' : (4 : Int) ≤ (s.size : Int) := by omega
      go_enter Try.func11, Try.ntmps11
      go_wp2_with fail
      refine (HR.out _).mono ?_
      rintro e w1 ⟨rfl, rfl⟩
      go_wp2_with fail
      go_region
      all_goals go_wp2
      all_goals exact bodyPost_ret (v := getV s (some (⟨1, .empty⟩, 4))) (by simp [results, Try.results11, go_sem, getV, lnV]; try rfl) rfl ⟨by rw [HG.out], below_drewN (below_new _ _) 1⟩
    · rw [if_neg (by decide), if_pos rfl] at hg
      have HG := Lib.hid hg
      clear hg
      have h4' : (4 : Int) ≤ (s.size : Int) := by omega
      go_enter Try.func11, Try.ntmps11
      go_wp2_with fail
      refine (HR.out _).mono ?_
      rintro e w1 ⟨rfl, rfl⟩
      go_wp2_with fail
      go_region
      all_goals go_wp2
      all_goals exact bodyPost_ret (v := getV s (some (⟨2, .empty⟩, 4))) (by simp [results, Try.results11, go_sem, getV, lnV]; try rfl) rfl ⟨by rw [HG.out], below_drewN (below_new _ _) 1⟩
    · rw [if_neg n0, if_neg n1, if_pos hh] at hg
      have HG := Lib.hid hg
      obtain ⟨a1, a2, a3⟩ := hh
      clear hg
      have h4' : (4 : Int) ≤ (n : Int) := by omega
      have h5' : (n : Int) ≤ (s.size : Int) := by omega
      have h6' : ¬ (n : Int) < 4 := by omega
      have h7' : ¬ (1004 : Int) < (n : Int) := by omega
      have h8' : ¬ (s.size : Int) < (n : Int) := by omega
      have e0 : ((n : Int) == 0) = false := beq_eq_false_iff_ne.2 (by omega)
      have e1 : ((n : Int) == 1) = false := beq_eq_false_iff_ne.2 (by omega)
      go_enter Try.func11, Try.ntmps11
      go_wp2_with fail
      refine (HR.out _).mono ?_
      rintro e w1 ⟨rfl, rfl⟩
      go_wp2_with fail
      go_region
      all_goals go_wp2
      all_goals exact bodyPost_ret (v := getV s (some (⟨0, s.extract 4 n⟩, n))) (by simp [results, Try.results11, go_sem, getV, lnV]; try rfl) rfl ⟨by rw [HG.out], below_drewN (below_new _ _) 1⟩
    · rw [if_neg n0, if_neg n1, if_neg hh] at hg
      have HG := Lib.hid hg
      clear hg
      have e0 : ((n : Int) == 0) = false := beq_eq_false_iff_ne.2 (by omega)
      have e1 : ((n : Int) == 1) = false := beq_eq_false_iff_ne.2 (by omega)
      by_cases h6 : (n : Int) < 4
      · clear hh
        go_enter Try.func11, Try.ntmps11
        go_wp2_with fail
        refine (HR.out _).mono ?_
        rintro e w1 ⟨rfl, rfl⟩
        go_wp2_with fail
        exact bodyPost_ret (v := getV s none) (by simp [results, Try.results11, go_sem, getV, lnV]; try rfl) rfl ⟨by rw [HG.out], below_new _ _⟩
      · by_cases h7 : (1004 : Int) < (n : Int)
        · clear hh
          go_enter Try.func11, Try.ntmps11
          go_wp2_with fail
          refine (HR.out _).mono ?_
          rintro e w1 ⟨rfl, rfl⟩
          go_wp2_with fail
          exact bodyPost_ret (v := getV s none) (by simp [results, Try.results11, go_sem, getV, lnV]; try rfl) rfl ⟨by rw [HG.out], below_new _ _⟩
        · have h8 : (s.size : Int) < (n : Int) := by omega
          clear hh
          go_enter Try.func11, Try.ntmps11
          go_wp2_with fail
          refine (HR.out _).mono ?_
          rintro e w1 ⟨rfl, rfl⟩
          go_wp2_with fail
          exact bodyPost_ret (v := getV s none) (by simp [results, Try.results11, go_sem, getV, lnV]; try rfl) rfl ⟨by rw [HG.out], below_new _ _⟩

/-! ### The document's Get -/
/-- What the document's Get answers. -/
def rgetV : Option (Ln × Nat) → Value
  | none => .tuple #[lnV ⟨0, .empty⟩, .int .i64 0]
  | some (p, n) => .tuple #[lnV p, .int .i64 n]
def RGetR (s : ByteArray) (w : World) (r : Ending) (w' : World) : Prop := r = .returned (rgetV (Pk.get s)) ∧ Below w.heap.size w w'
theorem head4 (s : ByteArray) (h4 : 4 ≤ s.size) : (s.extract 0 4).data.toList = s.data.toList.take 4 := by rw [Pk.extract_data]; rfl
theorem head4_eq {s : ByteArray} {n : Nat} (h4 : 4 ≤ s.size) (h : s.data.toList.take 4 = Pk.fig n) : s.extract 0 4 = figS n := Pk.bytes_ext (by rw [head4 s h4, h]; rfl)
theorem head4_ne {s : ByteArray} {n : Nat} (h4 : 4 ≤ s.size) (h : s.data.toList.take 4 ≠ Pk.fig n) : ((s.extract 0 4).toList == (figS n).toList) = false := by
  rw [beq_eq_false_iff_ne, ByteArray.toList_eq, ByteArray.toList_eq, head4 s h4]; exact h
theorem last4 {s : ByteArray} {n : Nat} (h4 : 4 ≤ s.size) (h : s.data.toList.take 4 = Pk.fig n) : s[3].toNat = (Pk.hexd (n % 16)).toNat := by
  have h1 := getD_byte s 3 (by omega)
  have h2 : (s.data.toList.take 4).getD 3 0 = Pk.hexd (n % 16) := by rw [h]; rfl
  rw [← h1, ← h2, List.getD_eq_getElem?_getD, List.getD_eq_getElem?_getD, List.getElem?_take_of_lt (by decide)]

set_option maxHeartbeats 800000 in
set_option maxRecDepth 100000 in
theorem refget_short (s : ByteArray) (w : World) (h4 : s.size < 4) :
    Calls Try.prog 12 #[.string s] w (RGetR s w) := by
  have HG := Lib.hid (Pk.get_short h4)
  have h4' : (s.size : Int) < 4 := by omega
  go_enter Try.func12, Try.ntmps12
  go_wp2_with fail
  exact bodyPost_ret (v := rgetV none) (by simp [results, Try.results12, go_sem, rgetV, lnV]; try rfl) rfl ⟨by rw [HG.out], below_new _ _⟩
set_option maxHeartbeats 800000 in
set_option maxRecDepth 100000 in
theorem refget_zero (s : ByteArray) (w : World) (h4 : 4 ≤ s.size) (hs : s.size ≤ maxLen) (h : s.data.toList.take 4 = Pk.fig 0) :
    Calls Try.prog 12 #[.string s] w (RGetR s w) := by
  unfold maxLen at hs
  have HG := Lib.hid (Pk.get_zero h)
  have h4' : ¬ (s.size : Int) < 4 := by omega
  have h5' : (4 : Int) ≤ (s.size : Int) := by omega
  have h6 : s[3].toNat = 48 := last4 h4 h
  have e : s.extract 0 4 = ⟨#[48, 48, 48, 48]⟩ := head4_eq h4 h
  clear h
  go_enter Try.func12, Try.ntmps12
  go_wp2_with fail
  exact bodyPost_ret (v := rgetV (some (⟨1, .empty⟩, 4))) (by simp [results, Try.results12, go_sem, rgetV, lnV]; try rfl) rfl ⟨by rw [HG.out], below_new _ _⟩
set_option maxHeartbeats 800000 in
set_option maxRecDepth 100000 in
theorem refget_one (s : ByteArray) (w : World) (h4 : 4 ≤ s.size) (hs : s.size ≤ maxLen) (h : s.data.toList.take 4 = Pk.fig 1) :
    Calls Try.prog 12 #[.string s] w (RGetR s w) := by
  unfold maxLen at hs
  have HG := Lib.hid (Pk.get_one h)
  have h4' : ¬ (s.size : Int) < 4 := by omega
  have h5' : (4 : Int) ≤ (s.size : Int) := by omega
  have h6 : s[3].toNat = 49 := last4 h4 h
  have e : s.extract 0 4 = ⟨#[48, 48, 48, 49]⟩ := head4_eq h4 h
  clear h
  go_enter Try.func12, Try.ntmps12
  go_wp2_with fail
  exact bodyPost_ret (v := rgetV (some (⟨2, .empty⟩, 4))) (by simp [results, Try.results12, go_sem, rgetV, lnV]; try rfl) rfl ⟨by rw [HG.out], below_new _ _⟩

theorem cells2 {W : World} {g : Nat} {a b : Value} {t : TypeId} (h : W.heap[g]? = some (.cells #[a, b] t)) : W.cell? ⟨g, 0, none⟩ = some a ∧ W.cell? ⟨g, 1, none⟩ = some b := by
  refine ⟨?_, ?_⟩
  · rw [cell_of_row _ _ 0 _ _ _ h]; rfl
  · rw [cell_of_row _ _ 1 _ _ _ h]; rfl

theorem infoLine : (Try.prog.info? 36).map (·.size) = some 2 := by kernel_rfl
/-- What is returned: a line out of a block that is known, and a value. -/
theorem ret_ln {fn : Func} {p u : Tmp} (h : fn.results = #[.cell p 36, .tmp u]) (tmps : Array Value) (w : World) (g : Nat) (q : Ln) (v : Value) (hp : tmps.getD p undef = .pointer (some ⟨g, 0, none⟩)) (hu : tmps.getD u undef = v)
    (hg : w.heap[g]? = some (.cells #[.int .i64 q.kind, .string q.load] 36)) : (results fn tmps).run Try.prog w = .ok (.tuple #[lnV q, v]) w := by
  have hld := run_loadVar_row (P := Try.prog) w g 36 36 _ _ _ hg Try.underlying36 rfl infoLine
  have hp' : tmps[p]?.getD undef = .pointer (some ⟨g, 0, none⟩) := by simpa using hp
  have hu' : tmps[u]?.getD undef = v := by simpa using hu
  rw [results_cell_tmp h]
  simp [asAddr, Result.andThen, hp', hu', hld, lnV]
theorem set2 {W : World} {g : Nat} {a b : Value} {t : TypeId} (h : W.heap[g]? = some (.cells #[a, b] t)) (x y : Value) : ((W.setCell ⟨g, 0, none⟩ x).setCell ⟨g, 1, none⟩ y).heap[g]? = some (.cells #[x, y] t) := held_set (held_set h 0 x) 1 y

set_option maxHeartbeats 1600000 in
set_option maxRecDepth 100000 in
theorem refget_loop (s : ByteArray) (w : World) (h4 : 4 ≤ s.size) (hs : s.size ≤ maxLen) (h0 : s.data.toList.take 4 ≠ Pk.fig 0) (h1 : s.data.toList.take 4 ≠ Pk.fig 1) :
    Calls Try.prog 12 #[.string s] w (RGetR s w) := by
  unfold maxLen at hs
  have HN := Lib.hid (Pk.get_no h0 h1)
  have h4' : ¬ (s.size : Int) < 4 := by omega
  have h5' : (4 : Int) ≤ (s.size : Int) := by omega
  have e0 : ((s.extract 0 4).toList == [48, 48, 48, 48]) = false := by have := head4_ne h4 h0; rw [ByteArray.toList_eq (figS 0)] at this; exact this
  have e1 : ((s.extract 0 4).toList == [48, 48, 48, 49]) = false := by have := head4_ne h4 h1; rw [ByteArray.toList_eq (figS 1)] at this; exact this
  clear h0 h1
  go_enter Try.func12, Try.ntmps12
  go_wp2_with fail
  clear e0 e1 h4'
  have HB0 := Lib.hid (below_new w (.cells #[.int .i64 0, .string ⟨#[]⟩] 36))
  have HH0 := Lib.hid (heap_alloc_new w (.cells #[.int .i64 0, .string ⟨#[]⟩] 36))
  go_loopw [4] (fun i wr => ∃ (k : Nat), 4 ≤ k ∧ i = .int .i64 k ∧ k ≤ 1005 ∧ Hid (∀ n, 4 ≤ n → n < k → s.data.toList.take 4 ≠ Pk.fig n) ∧ Hid (wr.heap[w.heap.size]? = some (.cells #[.int .i64 0, .string ⟨#[]⟩] 36)) ∧ Below w.heap.size w wr ∧ w.heap.size + 1 ≤ wr.heap.size) (fun i _ => 1005 - (intOf i).toNat)
  case atStart => exact ⟨4, Nat.le_refl _, rfl, by decide, fun n h1 h2 => absurd h1 (by omega), HH0, HB0.out, by simp⟩
  case round =>
    clear HB0 HH0
    obtain ⟨k, hk4, rfl, hk5, HP, HH, hb, hsz⟩ := hrel
    have ⟨c0, c1⟩ := cells2 HH.out
    have f0 := frozen_of_row wr w.heap.size 0 _ _ HH.out
    have f1 := frozen_of_row wr w.heap.size 1 _ _ HH.out
    by_cases hin : k ≤ s.size ∧ k ≤ 1004
    · obtain ⟨i1, i2⟩ := hin
      have j1 : (k : Int) ≤ (s.size : Int) := by omega
      have j2 : (k : Int) ≤ 1004 := by omega
      have j3 : (4 : Int) ≤ (k : Int) := by omega
      have hk6 : k < 65536 := by omega
      have HKB := Lib.hid (fun W (hW : Below wr.heap.size wr W) => (⟨hW, by
        have e := (hW.block w.heap.size (by omega)).trans HH.out
        exact ⟨(cells2 e).1, (cells2 e).2, frozen_of_row W w.heap.size 0 _ _ e, frozen_of_row W w.heap.size 1 _ _ e⟩⟩ : Below wr.heap.size wr W ∧ W.cell? ⟨w.heap.size, 0, none⟩ = some (.int .i64 0) ∧ W.cell? ⟨w.heap.size, 1, none⟩ = some (.string ⟨#[]⟩) ∧ W.frozen? ⟨w.heap.size, 0, none⟩ = false ∧ W.frozen? ⟨w.heap.size, 1, none⟩ = false))
      by_cases hq : s.data.toList.take 4 = Pk.fig k
      · have HG := Lib.hid (Pk.get_at hq hk4 i2 i1)
        have ec : ((s.extract 0 4).toList == (figS k).toList) = true := by rw [head4_eq h4 hq]; simp
        clear hq HN HP
        go_wp2_with fail
        go_region_held3 (fun w' => Below wr.heap.size wr w' ∧ w'.cell? ⟨w.heap.size, 0, none⟩ = some (.int .i64 0) ∧ w'.cell? ⟨w.heap.size, 1, none⟩ = some (.string ⟨#[]⟩) ∧ w'.frozen? ⟨w.heap.size, 0, none⟩ = false ∧ w'.frozen? ⟨w.heap.size, 1, none⟩ = false)
          (first | exact HKB.out _ (below_drewN (Below.refl _ _) 1) | (refine HKB.out _ (below_step ?_ (by assumption)); exact And.left (by assumption)))
          ((go_at_call 22; refine (figures_any k _ hk6).mono ?_; rintro r wx ⟨rfl, hx⟩))
        rename_i hH
        obtain ⟨hbx, k0, k1, k2, k3⟩ := hH
        have HE := Lib.hid ((hbx.block w.heap.size (by omega)).trans HH.out)
        go_wp2_with fail
        refine bodyPost_ret (v := rgetV (some (⟨0, s.extract 4 k⟩, k))) ?_ rfl ⟨by rw [HG.out], below_set2 (below_step hb hbx) _ _⟩
        exact ret_ln (by rfl) _ _ w.heap.size _ _ (by rfl) (by rfl) (set2 HE.out _ _)
      · have HP2 := Lib.hid (show ∀ n, 4 ≤ n → n < k + 1 → s.data.toList.take 4 ≠ Pk.fig n from fun n h1 h2 => by
          by_cases e : n = k
          · subst e; exact hq
          · exact HP.out n h1 (by omega))
        have ec := head4_ne h4 hq
        clear hq HP
        go_wp2_with fail
        go_region_held3 (fun w' => Below wr.heap.size wr w' ∧ w'.cell? ⟨w.heap.size, 0, none⟩ = some (.int .i64 0) ∧ w'.cell? ⟨w.heap.size, 1, none⟩ = some (.string ⟨#[]⟩) ∧ w'.frozen? ⟨w.heap.size, 0, none⟩ = false ∧ w'.frozen? ⟨w.heap.size, 1, none⟩ = false)
          (first | exact HKB.out _ (below_drewN (Below.refl _ _) 1) | (refine HKB.out _ (below_step ?_ (by assumption)); exact And.left (by assumption)))
          ((go_at_call 22; refine (figures_any k _ hk6).mono ?_; rintro r wx ⟨rfl, hx⟩))
        rename_i hH
        obtain ⟨hbx, k0, k1, k2, k3⟩ := hH
        have HE := Lib.hid ((hbx.block w.heap.size (by omega)).trans HH.out)
        have hsx := hbx.size
        clear k0 k1 k2 k3 HH c0 c1 f0 f1 HKB
        go_wp2_with fail
        exact ⟨⟨k + 1, by omega, by go_num, by omega, HP2.out, HE.out, below_step hb hbx, by omega⟩, by simp [intOf]; omega⟩
    · have HG := Lib.hid (HN.out (fun n h1 h2 h3 => HP.out n h1 (by omega)))
      by_cases i1 : (k : Int) ≤ (s.size : Int)
      · have i2 : ¬ (k : Int) ≤ 1004 := by omega
        go_wp2_with fail
        refine bodyPost_ret (v := rgetV none) ?_ rfl ⟨by rw [HG.out], below_set2 hb _ _⟩
        exact ret_ln (by rfl) _ _ w.heap.size ⟨0, .empty⟩ _ (by rfl) (by rfl) (set2 HH.out _ _)
      · go_wp2_with fail
        refine bodyPost_ret (v := rgetV none) ?_ rfl ⟨by rw [HG.out], below_set2 hb _ _⟩
        exact ret_ln (by rfl) _ _ w.heap.size ⟨0, .empty⟩ _ (by rfl) (by rfl) (set2 HH.out _ _)

theorem refget_any (s : ByteArray) (w : World) (hs : s.size ≤ maxLen) :
    Calls Try.prog 12 #[.string s] w (RGetR s w) := by
  by_cases h4 : s.size < 4
  · exact refget_short s w h4
  · by_cases h0 : s.data.toList.take 4 = Pk.fig 0
    · exact refget_zero s w (by omega) hs h0
    · by_cases h1 : s.data.toList.take 4 = Pk.fig 1
      · exact refget_one s w (by omega) hs h1
      · exact refget_loop s w (by omega) hs h0 h1

end Go.Proofs.Ytdmijinlhiohbaa
