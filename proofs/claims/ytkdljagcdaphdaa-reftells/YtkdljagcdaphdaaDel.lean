/-
  WALKS OF LAYER 9: slices.Delete of one ref.
-/
import Derived.Test.YtkdljagcdaphdaaSlc
namespace Go.Proofs.Ytkdljagcdaphdaa
open Go.RowKit
set_option linter.unusedVariables false
set_option linter.unusedSimpArgs false

theorem zeroRf (w : World) : (zeroValue 54).run Try.prog w = .ok (.agg (.string ⟨#[]⟩ :: idC Rf.zid).toArray) w := by
  obtain ⟨i0, hi, hz0, hz1, hz2⟩ := info_parts infoRf
  simp [zeroValue, typeInfo, hi, hz0]
def zRf : List Value := .string ⟨#[]⟩ :: idC Rf.zid
theorem zRf_one : ∀ v ∈ zRf, v.oneCell' = true := fun v hv => rfC_one ⟨⟨#[]⟩, Rf.zid⟩ v hv
theorem wpList_clear_one {w : World} {ops : Array Oper} {rest : List Oper} {o : Oper} {a : Act} {Q : Exit → Act → World → Prop} (hgd : o.guard = none) (s : Operand)
    (ho : o.op = .call { callee := .builtin .clear, args := #[s], argTypes := #[22] }) (g off c : Nat) (hd : a.eval s = .slice (some ⟨g, off, none⟩) 1 c)
    (cur : List Value) (hg : w.heap[g]? = some (.cells cur.toArray 54 (0, 0))) (hfit : off + 33 ≤ cur.length)
    (h : ∀ w', Hid (w'.heap[g]? = some (.cells (splice cur off zRf).toArray 54 (0, 0))) → w.grownBy w' (some g) → wpList Try.prog ops Q rest (a.put o.dst (.tuple #[])) w') : wpList Try.prog ops Q (o :: rest) a w := by
  refine wpList_plain hgd fun K hK => ?_
  have hrun := run_clear_one (P := Try.prog) w 22 54 o.type zRf Try.underlying22 zeroRf zRf_one g off c cur _ hg hfit
  unfold Oper.wp execOp
  simp only [ho, resolve, invoke, builtin, Sem.run_bind, Sem.run_pure, Result.andThen_ok, List.map_toArray, List.map_cons, List.map_nil, hd, hrun]
  exact hK _ _ (h _ (setCells_row g _ zRf off w cur hg hfit) (grown_setCells g zRf off w))

set_option maxHeartbeats 2000000 in
set_option maxRecDepth 100000 in
theorem delete_far (g cap i m : Nat) (cur : List Value) (w : World) (hg : w.heap[g]? = some (.cells cur.toArray 54 (0, 0))) (hcl : cur.length = cap * 33) (hm : i + 1 + m ≤ cap) (hne : ¬ cap = i + 1) (hcm : cap ≤ 9223372036854775807) (h1 : ∀ v ∈ cur.take ((i + 1 + m) * 33), v.oneCell' = true) :
    Calls Try.prog 55 #[.slice (some ⟨g, 0, none⟩) (i + 1 + m) cap, .int .i64 (i : Int), .int .i64 ((i : Int) + 1)] w fun r w' =>
      r = .returned (.slice (some ⟨g, 0, none⟩) (i + m) cap) ∧ (∃ cur' : List Value, w'.heap[g]? = some (.cells cur'.toArray 54 (0, 0)) ∧ cur'.length = cap * 33 ∧ cur'.take ((i + m) * 33) = cur.take (i * 33) ++ (cur.take ((i + 1 + m) * 33)).drop ((i + 1) * 33)) ∧ w.grownBy w' (some g) := by
  have HG := Lib.hid hg
  have HCL := Lib.hid hcl
  obtain ⟨news, hnews⟩ : ∃ news, news = (cur.take ((i + 1 + m) * 33)).drop ((i + 1) * 33) := ⟨_, rfl⟩
  have HNL := Lib.hid (show news.length = m * 33 by rw [hnews]; simp; omega)
  have HN1 := Lib.hid (show ∀ v ∈ news, v.oneCell' = true from fun v hv => h1 v (by rw [hnews] at hv; exact List.mem_of_mem_drop hv))
  have HNC := Lib.hid (show ∀ j v, news[j]? = some v → w.drew.cell? ((⟨g, (i + 1) * 33, none⟩ : Addr).add j) = some v from fun j v hj => by
    rw [Addr.add_mid]
    refine row_at (w := w.drew) hg _ _ ?_
    rw [hnews, List.getElem?_drop, List.getElem?_take] at hj
    split at hj
    · exact hj
    · cases hj)
  have HNW := Lib.hid hnews
  clear hg hcl h1 hnews
  have b1 : (0 : Int) ≤ (i : Int) := by omega
  have b2 : (i : Int) ≤ (i : Int) + 1 := by omega
  have b3 : ((i : Int) == (i : Int) + 1) = false := beq_eq_false_iff_ne.2 (by omega)
  go_enter Try.func55, Try.ntmps55
  go_wp2_with fail
  have e1 : i + 1 + m - (i + 1) = m := by omega
  have e2 : i + 1 + m - (i + m) = 1 := by omega
  have e3 : ((i : Int) + 1).toNat = i + 1 := by omega
  have b4 : (i : Int) ≤ (cap : Int) := by omega
  have b5 : (0 : Int) ≤ (i : Int) + 1 := by omega
  have b6 : (i : Int) + 1 ≤ (i : Int) + 1 + (m : Int) := by omega
  have b7 : ¬ cap = i + m := by omega
  go_region_law (refine step_room_k rfl (.tmp 22) (.tmp 25) 22 rfl 54 33 Try.underlying22 infoRs g i cap (by simp [Act.eval, Act.put]) ⟨g, (i + 1) * 33, none⟩ m (cap - (i + 1)) (by simp [Act.eval, Act.put]) cur 54 HG.out news HNL.out HNC.out (by omega) (by rw [HNL.out, HCL.out]; omega) HN1.out ?_; intro w1 HG1 hgr1)
  have HC1 := Lib.hid (show (splice cur (i * 33) news).length = cap * 33 by rw [length_splice _ _ _ (by rw [HNL.out, HCL.out]; omega), HCL.out])
  have HT1 := Lib.hid (show (splice cur (i * 33) news).take ((i + m) * 33) = cur.take (i * 33) ++ news by
    have hl : (cur.take (i * 33) ++ news).length = (i + m) * 33 := by rw [List.length_append, HNL.out, List.length_take, HCL.out]; omega
    unfold splice
    rw [← List.append_assoc, ← hl, List.take_left])
  generalize splice cur (i * 33) news = cur1 at *
  have HGR := Lib.hid ((grown_drew w (some g)).trans hgr1)
  clear hgr1
  obtain ⟨w2, HG2, HGR2, hrun⟩ : ∃ w2, Hid (w2.heap[g]? = some (.cells (splice cur1 ((i + m) * 33) zRf).toArray 54 (0, 0))) ∧ Hid (w1.grownBy w2 (some g)) ∧ ∀ ty, (Builtin.clear_ #[22] ty #[.slice (some ⟨g, (i + m) * 33, none⟩) 1 (cap - (i + m))]).run Try.prog w1 = .ok (.tuple #[]) w2 :=
    ⟨_, setCells_row g _ zRf ((i + m) * 33) w1 cur1 HG1.out (by show _ + 33 ≤ _; rw [HC1.out]; omega), grown_setCells g zRf _ w1, fun ty => run_clear_one (P := Try.prog) w1 22 54 ty zRf Try.underlying22 zeroRf zRf_one g ((i + m) * 33) _ cur1 _ HG1.out (by show _ + 33 ≤ _; rw [HC1.out]; omega)⟩
  go_wp2_with fail
  go_ret
  refine ⟨rfl, ⟨_, HG2.out, ?_, ?_⟩, HGR.out.trans HGR2.out⟩
  · rw [length_splice _ _ _ (by show _ + 33 ≤ _; rw [HC1.out]; omega), HC1.out]
  · unfold splice
    rw [List.take_append_of_le_length (by rw [List.length_take, HC1.out]; omega), List.take_of_length_le (by rw [List.length_take]; omega), HT1.out, HNW.out]

set_option maxHeartbeats 2000000 in
set_option maxRecDepth 100000 in
theorem delete_end (g i : Nat) (cur : List Value) (w : World) (hg : w.heap[g]? = some (.cells cur.toArray 54 (0, 0))) (hcl : cur.length = (i + 1) * 33) (hcm : i + 1 ≤ 9223372036854775807) :
    Calls Try.prog 55 #[.slice (some ⟨g, 0, none⟩) (i + 1) (i + 1), .int .i64 (i : Int), .int .i64 ((i : Int) + 1)] w fun r w' =>
      r = .returned (.slice (some ⟨g, 0, none⟩) i (i + 1)) ∧ (∃ cur' : List Value, w'.heap[g]? = some (.cells cur'.toArray 54 (0, 0)) ∧ cur'.length = (i + 1) * 33 ∧ cur'.take (i * 33) = cur.take (i * 33)) ∧ w.grownBy w' (some g) := by
  have HG := Lib.hid hg
  have HCL := Lib.hid hcl
  clear hg hcl
  have b1 : (0 : Int) ≤ (i : Int) := by omega
  have b2 : (i : Int) ≤ (i : Int) + 1 := by omega
  have b3 : ((i : Int) == (i : Int) + 1) = false := beq_eq_false_iff_ne.2 (by omega)
  go_enter Try.func55, Try.ntmps55
  go_wp2_with fail
  have e2 : i + 1 - i = 1 := by omega
  have e3 : ((i : Int) + 1).toNat = i + 1 := by omega
  have b5 : (0 : Int) ≤ (i : Int) + 1 := by omega
  have b7 : ¬ i + 1 = i := by omega
  go_region_law (refine step_room_k rfl (.tmp 22) (.tmp 25) 22 rfl 54 33 Try.underlying22 infoRs g i (i + 1) (by simp [Act.eval, Act.put]) ⟨g, 0, none⟩ 0 0 (by simp [Act.eval, Act.put]) cur 54 HG.out [] rfl (fun j v h => by simp at h) (by omega) (by rw [HCL.out]; simp; omega) (fun v h => by simp at h) ?_; intro w1 HG1 hgr1)
  have HC1 := Lib.hid (show (splice cur (i * 33) []).length = (i + 1) * 33 by rw [length_splice _ _ _ (by rw [HCL.out]; simp; omega), HCL.out])
  have HT1 := Lib.hid (show (splice cur (i * 33) []).take (i * 33) = cur.take (i * 33) by simp [splice])
  generalize splice cur (i * 33) [] = cur1 at *
  have HGR := Lib.hid ((grown_drew w (some g)).trans hgr1)
  clear hgr1
  obtain ⟨w2, HG2, HGR2, hrun⟩ : ∃ w2, Hid (w2.heap[g]? = some (.cells (splice cur1 (i * 33) zRf).toArray 54 (0, 0))) ∧ Hid (w1.grownBy w2 (some g)) ∧ ∀ ty, (Builtin.clear_ #[22] ty #[.slice (some ⟨g, i * 33, none⟩) 1 1]).run Try.prog w1 = .ok (.tuple #[]) w2 :=
    ⟨_, setCells_row g _ zRf (i * 33) w1 cur1 HG1.out (by show _ + 33 ≤ _; rw [HC1.out]; omega), grown_setCells g zRf _ w1, fun ty => run_clear_one (P := Try.prog) w1 22 54 ty zRf Try.underlying22 zeroRf zRf_one g (i * 33) _ cur1 _ HG1.out (by show _ + 33 ≤ _; rw [HC1.out]; omega)⟩
  go_wp2_with fail
  go_ret
  refine ⟨rfl, ⟨_, HG2.out, ?_, ?_⟩, HGR.out.trans HGR2.out⟩
  · rw [length_splice _ _ _ (by show _ + 33 ≤ _; rw [HC1.out]; omega), HC1.out]
  · unfold splice
    rw [List.take_append_of_le_length (by rw [List.length_take, HC1.out]; omega), List.take_of_length_le (by rw [List.length_take]; omega), HT1.out]

theorem flat_take (L : List Rf.R) (h : ∀ r ∈ L, r.id.length = 32) (i : Nat) (hi : i ≤ L.length) : (L.flatMap rfC).take (i * 33) = (L.take i).flatMap rfC := by
  have h1 : (L.take i).flatMap rfC ++ (L.drop i).flatMap rfC = L.flatMap rfC := by rw [← List.flatMap_append, List.take_append_drop]
  have h2 := flat_len (L.take i) (fun r hr => h r (List.mem_of_mem_take hr))
  rw [List.length_take, Nat.min_eq_left hi] at h2
  rw [← h1, ← h2, List.take_left]
theorem flat_drop (L : List Rf.R) (h : ∀ r ∈ L, r.id.length = 32) (i : Nat) (hi : i ≤ L.length) : (L.flatMap rfC).drop (i * 33) = (L.drop i).flatMap rfC := by
  have h1 : (L.take i).flatMap rfC ++ (L.drop i).flatMap rfC = L.flatMap rfC := by rw [← List.flatMap_append, List.take_append_drop]
  have h2 := flat_len (L.take i) (fun r hr => h r (List.mem_of_mem_take hr))
  rw [List.length_take, Nat.min_eq_left hi] at h2
  rw [← h1, ← h2, List.drop_left]
/-- A row of refs, its block known whole. -/
theorem OwnF.open_ {w : World} {base : Nat} {v : Value} {L : List Rf.R} (h : OwnF w base v L) (hne : 0 < L.length) :
    ∃ g cap cur, v = .slice (some ⟨g, 0, none⟩) L.length cap ∧ base ≤ g ∧ w.heap[g]? = some (.cells (cur : List Value).toArray 54 (0, 0)) ∧ L.length ≤ cap ∧ cap ≤ maxLen ∧ cur.length = cap * 33 ∧ cur.take (L.length * 33) = L.flatMap rfC := by
  rcases h.2 with ⟨_, h0⟩ | ⟨g, cap, cur, hv, hb, hh, h1, h2, h3, h4⟩
  · omega
  · exact ⟨g, cap, cur.toList, hv, hb, by simpa using hh, h1, h2, by simpa using h3, h4⟩
theorem OwnF.shut {w : World} {base g cap : Nat} {cur : List Value} {L : List Rf.R} (hb : base ≤ g) (hh : w.heap[g]? = some (.cells cur.toArray 54 (0, 0))) (h1 : L.length ≤ cap) (h2 : cap ≤ maxLen) (h3 : cur.length = cap * 33) (h4 : cur.take (L.length * 33) = L.flatMap rfC) (hid : ∀ r ∈ L, r.id.length = 32) :
    OwnF w base (.slice (some ⟨g, 0, none⟩) L.length cap) L := ⟨flat_len L hid, .inr ⟨g, cap, cur.toArray, rfl, hb, hh, h1, h2, by simpa using h3, by simpa using h4⟩⟩
/-- slices.Delete of the ref at i. -/
theorem delete_own (v : Value) (L : List Rf.R) (base i : Nat) (w : World) (h : OwnF w base v L) (hid : ∀ r ∈ L, r.id.length = 32) (hi : i < L.length) :
    Calls Try.prog 55 #[v, .int .i64 (i : Int), .int .i64 ((i : Int) + 1)] w fun r w' =>
      ∃ v', r = .returned v' ∧ OwnF w' base v' (L.take i ++ L.drop (i + 1)) ∧ w.grownBy w' v.ownBlock ∧ v'.ownBlock = v.ownBlock := by
  obtain ⟨g, cap, cur, rfl, hb, hh, h1, h2, h3, h4⟩ := h.open_ (by omega)
  have hm := h2
  unfold maxLen at hm
  have hlen : (L.take i ++ L.drop (i + 1)).length = L.length - 1 := by simp; omega
  have hid2 : ∀ r ∈ L.take i ++ L.drop (i + 1), r.id.length = 32 := fun r hr => by
    rcases List.mem_append.1 hr with h | h
    · exact hid r (List.mem_of_mem_take h)
    · exact hid r (List.mem_of_mem_drop h)
  obtain ⟨m, hmm⟩ : ∃ m, L.length = i + 1 + m := ⟨L.length - (i + 1), by omega⟩
  have hc1 : cur.take (i * 33) = (L.take i).flatMap rfC := by
    rw [← flat_take L hid i (by omega), ← h4, List.take_take, Nat.min_eq_left (by omega)]
  by_cases hce : cap = i + 1
  · have hm0 : m = 0 := by omega
    subst hm0; subst hce
    rw [hmm]
    refine (delete_end g i cur w hh h3 (by omega)).mono ?_
    rintro r w' ⟨rfl, ⟨cur', hg', hl', ht'⟩, hgr⟩
    refine ⟨_, rfl, ?_, hgr, rfl⟩
    have hi' : (L.take i ++ L.drop (i + 1)).length = i := by omega
    have := OwnF.shut (L := L.take i ++ L.drop (i + 1)) hb hg' (by omega) h2 hl' (by rw [hi', ht', hc1, List.drop_of_length_le (by omega)]; simp) hid2
    rwa [hi'] at this
  · rw [hmm] at h1 ⊢
    refine (delete_far g cap i m cur w hh h3 (by omega) hce (by omega) (by rw [← hmm, h4]; exact flat_one L)).mono ?_
    rintro r w' ⟨rfl, ⟨cur', hg', hl', ht'⟩, hgr⟩
    refine ⟨_, rfl, ?_, hgr, rfl⟩
    have hi' : (L.take i ++ L.drop (i + 1)).length = i + m := by omega
    have := OwnF.shut (L := L.take i ++ L.drop (i + 1)) hb hg' (by omega) h2 hl' (by rw [hi', ht', hc1, ← hmm, h4, flat_drop L hid _ (by omega), List.flatMap_append]) hid2
    rwa [hi'] at this

end Go.Proofs.Ytkdljagcdaphdaa
