/-
  WALKS OF LAYER 9: slices.Insert of one ref, where there is room.
-/
import Derived.Test.YtkdljagcdaphdaaDel
namespace Go.Proofs.Ytkdljagcdaphdaa
open Go.RowKit
set_option linter.unusedVariables false
set_option linter.unusedSimpArgs false

theorem overlaps_no (w : World) (vb g : Nat) (c cur : Array Value) (hv : w.heap[vb]? = some (.cells c 54 (0, 0))) (hg : w.heap[g]? = some (.cells cur 54 (0, 0))) (hne : vb ≠ g) (hk : cur.size ≠ 0) (o : Nat) (lb cb : Nat) :
    (callFunc 60 #[.slice (some ⟨vb, 0, none⟩) 1 1, .slice (some ⟨g, o, none⟩) lb cb]).run Try.prog w = .ok (.value (.bool false)) w := by
  rw [run_callFunc_extern Try.func60 (by kernel_rfl) (by kernel_rfl) (by kernel_rfl) (e := Extern.SlicesOverlaps.overlaps #[22, 22] #[4]) (by kernel_rfl),
    Lib.run_overlaps_apart w 22 4 54 Try.underlying22 33 (fun w => by
      obtain ⟨i0, hi, _, hz1, _⟩ := info_parts infoRf
      simp [Go.sizeOf, typeInfo, hi, hz1]) ⟨vb, 0, none⟩ ⟨g, o, none⟩ 1 1 lb cb hne 54 54 c.size cur.size (by simp [World.shape?, hv]) (by simp [World.shape?, hg]) hk (frozen_of_row _ _ _ _ _ hv) (frozen_of_row _ _ _ _ _ hv)]
  rfl

set_option maxHeartbeats 2000000 in
set_option maxRecDepth 100000 in
theorem insert_room (g cap i m vb : Nat) (cur : List Value) (r : Rf.R) (w : World) (hg : w.heap[g]? = some (.cells cur.toArray 54 (0, 0))) (hv : w.heap[vb]? = some (.cells (rfC r).toArray 54 (0, 0))) (hne : vb ≠ g) (hrl : r.id.length = 32)
    (hcl : cur.length = cap * 33) (hm : i + 1 + m + 1 ≤ cap) (hcm : cap ≤ 9223372036854775807) (h1 : ∀ v ∈ cur.take ((i + 1 + m) * 33), v.oneCell' = true) :
    Calls Try.prog 59 #[.slice (some ⟨g, 0, none⟩) (i + 1 + m) cap, .int .i64 (i : Int), .slice (some ⟨vb, 0, none⟩) 1 1] w fun e w' =>
      e = .returned (.slice (some ⟨g, 0, none⟩) (i + 1 + m + 1) cap) ∧ (∃ cur' : List Value, w'.heap[g]? = some (.cells cur'.toArray 54 (0, 0)) ∧ cur'.length = cap * 33 ∧ cur'.take ((i + 1 + m + 1) * 33) = cur.take (i * 33) ++ (rfC r ++ (cur.take ((i + 1 + m) * 33)).drop (i * 33))) ∧ w.grownBy w' (some g) := by
  have hvlt : vb < w.heap.size := (Array.getElem?_eq_some_iff.1 hv).1
  have hov := overlaps_no w vb g _ _ hv hg hne (by simp [hcl]; omega) ((i + 1) * 33)
  have HG := Lib.hid hg
  have HV := Lib.hid hv
  have HCL := Lib.hid hcl
  have HRL := Lib.hid (show (rfC r).length = 33 by rw [rfC_length, hrl])
  obtain ⟨news, hnews⟩ : ∃ news, news = (cur.take ((i + 1 + m) * 33)).drop (i * 33) := ⟨_, rfl⟩
  have HNL := Lib.hid (show news.length = (m + 1) * 33 by rw [hnews]; simp; omega)
  have HN1 := Lib.hid (show ∀ v ∈ news, v.oneCell' = true from fun v hv => h1 v (by rw [hnews] at hv; exact List.mem_of_mem_drop hv))
  have HNC := Lib.hid (show ∀ j v, news[j]? = some v → w.drew.cell? ((⟨g, i * 33, none⟩ : Addr).add j) = some v from fun j v hj => by
    rw [Addr.add_mid]
    refine row_at (w := w.drew) hg _ _ ?_
    rw [hnews, List.getElem?_drop, List.getElem?_take] at hj
    split at hj
    · exact hj
    · cases hj)
  have HNW := Lib.hid hnews
  clear hg hcl h1 hnews hv
  have b1 : (0 : Int) ≤ (i : Int) := by omega
  have b3 : ((i : Int) == (i : Int) + 1 + (m : Int)) = false := beq_eq_false_iff_ne.2 (by omega)
  have b4 : ¬ cap = i := by omega
  have b5 : ¬ cap = i + 1 := by omega
  have b6 : (i : Int) ≤ (i : Int) + 1 + (m : Int) := by omega
  have b7 : ¬ (cap : Int) < (i : Int) + 1 + (m : Int) + 1 := by omega
  have b8 : (i : Int) ≤ (i : Int) + 1 + (m : Int) + 1 := by omega
  have b9 : (i : Int) + 1 ≤ (i : Int) + 1 + (m : Int) + 1 := by omega
  have e3 : ((i : Int) + 1).toNat = i + 1 := by omega
  have e4 : IntKind.i64.wrap ((i : Int) + 1) = (i : Int) + 1 := IntWalk.i64_in _ (by omega)
  have b0 : (0 : Int) ≤ (i : Int) + 1 := by omega
  go_enter Try.func59, Try.ntmps59
  go_wp2_with (simp only [hov])
  go_region_law (refine step_copy_k rfl (.tmp 73) (.tmp 76) 22 22 rfl 54 33 Try.underlying22 infoRs g ((i + 1) * 33) (i + 1 + m + 1 - (i + 1)) (cap - (i + 1)) ⟨g, i * 33, none⟩ (i + 1 + m + 1 - i) (cap - i) (m + 1) (by simp [Act.eval, Act.put]) (by simp [Act.eval, Act.put]) (by simp only [Nat.min_def]; split <;> omega) cur 54 HG.out news HNL.out HNC.out (by rw [HNL.out, HCL.out]; omega) HN1.out ?_; intro w1 HG1 hgr1)
  have HC1 := Lib.hid (show (splice cur ((i + 1) * 33) news).length = cap * 33 by rw [length_splice _ _ _ (by rw [HNL.out, HCL.out]; omega), HCL.out])
  have HT1 := Lib.hid (show (splice cur ((i + 1) * 33) news).take (i * 33) = cur.take (i * 33) ∧ ((splice cur ((i + 1) * 33) news).drop ((i + 1) * 33)).take ((m + 1) * 33) = news by
    unfold splice
    have hl : (cur.take ((i + 1) * 33)).length = (i + 1) * 33 := by rw [List.length_take, HCL.out]; omega
    refine ⟨?_, ?_⟩
    · rw [List.take_append_of_le_length (by omega), List.take_take, Nat.min_eq_left (by omega)]
    · rw [drop_app _ _ _ hl, take_app _ _ _ HNL.out])
  have HV1 := Lib.hid (news_row ((hgr1.block vb hvlt (by simpa using hne)).trans HV.out))
  generalize splice cur ((i + 1) * 33) news = cur1 at *
  have HGR := Lib.hid ((grown_drew w (some g)).trans hgr1)
  clear hgr1 hov
  go_wp2_with ((with_reducible refine wpList_copy_k (P := Try.prog) ?_ (.tmp 80) (.tmp 81) 22 22 ?_ 54 33 Try.underlying22 infoRs g (i * 33) (i + 1 + m + 1 - i) (cap - i) ⟨vb, 0, none⟩ 1 1 1 ?_ ?_ ?_ cur1 54 HG1.out (rfC r) ?_ HV1.out ?_ (rfC_one r) ?_); rfl; rfl; rfl; rfl; (simp only [Nat.min_def]; split <;> omega); (rw [HRL.out]); (rw [HRL.out, HC1.out]; omega); intro w2 HG2 hgr2)
  go_ret
  refine ⟨rfl, ⟨_, HG2.out, ?_, ?_⟩, HGR.out.trans hgr2⟩
  · rw [length_splice _ _ _ (by rw [HRL.out, HC1.out]; omega), HC1.out]
  · unfold splice
    have hl : (cur.take (i * 33)).length = i * 33 := by rw [List.length_take, HCL.out]; omega
    rw [HT1.out.1, HRL.out, show (i + 1 + m + 1) * 33 = i * 33 + (33 + (m + 1) * 33) by omega, take_app2 _ _ _ _ hl, take_app2 _ _ _ _ HRL.out, show i * 33 + 33 = (i + 1) * 33 by omega, HT1.out.2, HNW.out]

end Go.Proofs.Ytkdljagcdaphdaa
