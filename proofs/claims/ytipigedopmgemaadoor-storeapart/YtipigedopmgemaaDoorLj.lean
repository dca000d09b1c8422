/-
  THE WALK OF THE LAW ObjectDecodes: whatever the string, the law answers true.
-/
import Derived.Test.YtipigedopmgemaaDoorLi
import Derived.Test.YtipigedopmgemaaDoorLe
import Derived.Test.YtipigedopmgemaaDoorLc
import Derived.Test.YtipigedopmgemaaDoorS2c
namespace Go.Proofs.YtipigedopmgemaaDoor
open Go.RowKit
set_option linter.unusedVariables false
set_option linter.unusedSimpArgs false

/-- The texts of an object whose encoding is short are short; the encoding has a byte at least. -/
theorem short_ob {o : Ob} (hv : validB o = true) (hs : (encS o).size ≤ 4096) : o.data.size ≤ 5000 ∧ o.text.size ≤ 5000 ∧ o.name.size ≤ 100 ∧ 0 < (encS o).size := by
  have e : (encS o).data.toList = byteK o.kind :: (textOf ⟨(bodyL o).toArray⟩).data.toList := by
    unfold encS
    rw [ByteArray.data_append, Array.toList_append]; rfl
  have h1 := congrArg List.length e
  have hl : (bodyL o).length ≤ 4096 := by
    rw [size_list, Rm.textOf_list, List.length_cons, List.length_append] at h1
    omega
  have hv2 := hv
  unfold validB foreignZ at hv2
  simp only [Bool.and_eq_true, Bool.or_eq_true, beq_iff_eq, blobZ, treeZ, commitZ, tagZ, decide_eq_true_eq, List.isEmpty_iff] at hv2
  obtain ⟨⟨⟨⟨z1, z2⟩, z3⟩, z4⟩, zz⟩ := hv2
  have hd : o.data.size ≤ 5000 := by
    by_cases e1 : o.kind = 1
    · have : bodyL o = o.data.data.toList := by simp [bodyL, e1]
      rw [this, size_list] at hl; omega
    · rw [Rm.empty_of (z1.resolve_left e1)]; decide
  have ht : o.text.size ≤ 5000 := by
    by_cases e3 : o.kind = 3
    · have : bodyL o = commitL o := by simp [bodyL, e3]
      rw [this] at hl
      unfold commitL textOf at hl
      rw [put_list] at hl
      simp only [List.length_append, size_list] at hl
      omega
    · rw [Rm.empty_of (z3.resolve_left e3).2]; decide
  have hn : o.name.size ≤ 100 := by
    by_cases e4 : o.kind = 4
    · rw [if_neg (by omega), if_neg (by omega), if_neg (by omega), if_pos e4] at zz
      rw [Bool.and_eq_true] at zz
      have := nameOk_size zz.2
      omega
    · rw [Rm.empty_of (z4.resolve_left e4).2]; decide
  refine ⟨hd, ht, hn, ?_⟩
  rw [size_list, List.length_cons] at h1; omega
theorem no_at (w : World) : ObAt w (obC noOb nilV nilV).toArray noOb none none 0 0 :=
  ⟨noF, RowsAt.nil _ _, RowsAt.nil _ _, (fun e he => by cases he), (fun e he => by cases he), (fun e he => by cases he), Nat.zero_le _, Nat.zero_le _, (show (0 : Nat) ≤ maxLen from Nat.zero_le _), (show (0 : Nat) < 4294967296 by decide)⟩

/-- The program's Decode, where nothing is found, and where an object is. -/
theorem dec_no (s : ByteArray) (w : World) (hs : s.size ≤ maxLen) (h : Rm.dec s.data.toList = none) : Calls Tryd.prog 21 #[.string s] w (NoDec w) := by
  have := decode_any s w hs
  unfold Dcd at this
  rw [h] at this
  exact this
theorem dec_yes (s : ByteArray) (o : Ob) (w : World) (hs : s.size ≤ maxLen) (h : Rm.dec s.data.toList = some o) : Calls Tryd.prog 21 #[.string s] w (ADec o w) := by
  have := decode_any s w hs
  unfold Dcd at this
  rw [h] at this
  exact this

/-- The document's Decode finds nothing where the program's finds nothing. -/
theorem refdec_no (s : ByteArray) (w : World) (hs : s.size ≤ 5000) (h : Rm.dec s.data.toList = none) : Calls Tryd.prog 27 #[.string s] w (NoR w) := by
  by_cases h0 : 0 < s.size
  · cases hok : encOk (Rm.guessF s.data.toList) with
    | false => exact refdec_bad s w h0 hs hok
    | true =>
      by_cases hd : encS (Rm.guessF s.data.toList) = s
      · refine (refdec_good s w h0 hs hok hd).mono ?_
        rintro r w' ⟨cs, ao, bo, ca, cb, _, hO, _⟩
        exfalso
        have hok2 := hok
        unfold encOk at hok2
        rw [Bool.and_eq_true, decide_eq_true_eq] at hok2
        obtain ⟨h1, h2, h3, _⟩ := short_ob hok2.1 hok2.2
        have hf := Rm.dec_fwd hok2.1 (fit_of hok2.1 h1 h2 h3) hO.eid hO.pid hO.F.trl hO.F.tal hO.ti hok2.2
        rw [hd, h] at hf
        cases hf
      · exact refdec_diff s w h0 hs hok hd
  · have he : s = ByteArray.empty := bytes_ext (by
      have := size_list s
      have h1 : s.data.toList.length = 0 := by omega
      rw [List.eq_nil_of_length_eq_zero h1]; rfl)
    rw [he]
    exact refdec_empty w
/-- And the same object where it finds one. -/
theorem refdec_yes (s : ByteArray) (o : Ob) (w : World) (hs : s.size ≤ 5000) (h : Rm.dec s.data.toList = some o) (ei : ∀ e ∈ o.ents, e.id.length = 32) (pi : ∀ p ∈ o.pars, p.length = 32) (ht : o.tree.length = 32) (hg : o.target.length = 32) (hti : o.time < 4294967296) :
    Calls Tryd.prog 27 #[.string s] w (AR o w) := by
  obtain ⟨hv2, he2, hl2, _⟩ := Rm.dec_inv h
  have hes2 : encS o = s := bytes_ext he2
  have hsz2 : (encS o).size ≤ 4096 := by rw [← size_list, he2]; exact hl2
  obtain ⟨h1, h2, h3, h4⟩ := short_ob hv2 hsz2
  have hgs := Rm.guess_fwd hv2 (fit_of hv2 h1 h2 h3) ei pi ht hg hti
  rw [he2] at hgs
  have hok : encOk o = true := by unfold encOk; rw [hv2, decide_eq_true hsz2]; rfl
  have := refdec_good s w (by rw [← hes2]; exact h4) hs (by rw [hgs]; exact hok) (by rw [hgs]; exact hes2)
  rw [hgs] at this
  exact this

set_option maxHeartbeats 800000 in
set_option maxRecDepth 100000 in
theorem id_any (s : ByteArray) (w : World) (hk : S2.KIn w) (hl : s.size ≤ 70368744177664) :
    Calls Tryd.prog 22 #[.string s] w fun r w' => r = .returned (.agg (S2.idA (S2.Sh.idOf (S2.Sh.sha s.data.toList)))) ∧ Below w.heap.size w w' := by
  have hsum := S2.sum_one s (w.alloc (.cells (S2.idA []) 35)) (hk.more _) hl
  rw [show (w.alloc (.cells (S2.idA []) 35)).heap.size = w.heap.size + 1 by simp] at hsum
  have hil := S2.Sh.idOf_length (S2.Sh.sha s.data.toList)
  generalize S2.Sh.idOf (S2.Sh.sha s.data.toList) = M at *
  have HSUM := Lib.hid hsum
  have hM : M.length ≤ 32 := by omega
  have HI := Lib.hid (S2.idsize hM)
  have H0 := Lib.hid (show (S2.idA []).size = (S2.idA M).size by rw [S2.idA_size M hM]; rfl)
  have H1 := Lib.hid (S2.idA_one M)
  clear hsum hil hM hk
  generalize S2.idA M = da at *
  go_enter Tryd.func22, Tryd.ntmps22
  go_wp2_with fail
  refine HSUM.out.mono ?_
  rintro r w2 ⟨rfl, hb2⟩
  have E0 : Hid (w2.heap[w.heap.size]? = some (.cells (S2.idA []) 35)) := (hb2.block w.heap.size (by omega)).trans ((Below.heap_alloc _ _ _ (by simp)).trans (heap_alloc_last w _))
  have hb8 : Below w.heap.size w w2 := (((Below.refl _ _).alloc (Nat.le_refl _) _).alloc (by simp) _).trans (hb2.mono (by omega))
  clear hb2 HSUM
  go_wp2_with (refine wpList_store_row rfl 35 _ _ rfl w.heap.size _ rfl rfl _ _ E0.out HI.out H0.out H1.out ?_)
  refine bodyPost_ret (v := .agg da) ?_ rfl ⟨rfl, below_setRow hb8 (Nat.le_refl _) _⟩
  exact results_cell_row (by rfl) _ _ w.heap.size _ _ _ _ (by rfl) (setRow_heap _ _ _ _ _ _ E0.out) Tryd.underlying35 rfl HI.out

end Go.Proofs.YtipigedopmgemaaDoor
