/-
  WALKS OF LAYER 9: slices.Insert of one ref, where there is no room, and at the end.
-/
import Derived.Test.YtkdljagcdaphdaaIns
namespace Go.Proofs.Ytkdljagcdaphdaa
open Go.RowKit
set_option linter.unusedVariables false
set_option linter.unusedSimpArgs false

theorem wpList_zeros {P : Program} {w : World} {ops : Array Oper} {rest : List Oper} {o : Oper} {a : Act} {Q : Exit → Act → World → Prop} (hgd : o.guard = none) (d s : Operand) (t t' : TypeId)
    (ho : o.op = .call { callee := .builtin .append, args := #[d, s], argTypes := #[t, t'] }) (v v' : Value) (x : Int) (k : Nat) (hd : a.eval d = v) (hx : a.eval s = .int .i64 x) (hk : x = (k : Int)) {w' : World}
    (hr : ∀ ty, (Builtin.append_ #[t, t'] ty #[v, .int .i64 (k : Int)]).run P w = .ok v' w') (h : wpList P ops Q rest (a.put o.dst v') w') : wpList P ops Q (o :: rest) a w := by
  refine wpList_plain hgd fun K hK => ?_
  subst hk
  unfold Oper.wp execOp
  simp only [ho, resolve, invoke, builtin, Sem.run_bind, Sem.run_pure, Result.andThen_ok, List.map_toArray, List.map_cons, List.map_nil, hd, hx, hr]
  exact hK _ _ h

theorem own_cap (ao : Option Addr) (n c n' c' : Nat) : (Value.slice ao n c).ownBlock = (Value.slice ao n' c').ownBlock := by cases ao <;> rfl
/-- The new row of 'append(s[:i], make(S, k)...)'. -/
theorem zeros_row (w : World) (g cap i k : Nat) (cur : List Value) (hg : w.heap[g]? = some (.cells cur.toArray 54 (0, 0))) (hcl : cur.length = cap * 33) (hi : i ≤ cap) (hk : 0 < k) (hr : cap < i + k) (hb : i + k ≤ 1000) :
    ∃ (G : Nat) (ROW : List Value) (w' : World), i + k ≤ G ∧ G ≤ maxLen ∧ ROW.length = G * 33 ∧ Hid (ROW.take (i * 33) = cur.take (i * 33)) ∧ Hid (w'.heap[w.heap.size]? = some (.cells ROW.toArray 54 (0, 0))) ∧ Hid (w.grownBy w' none) ∧ w.heap.size < w'.heap.size ∧
      ∀ ty, (Builtin.append_ #[22, 3] ty #[.slice (some ⟨g, 0, none⟩) i cap, .int .i64 (k : Int)]).run Try.prog w = .ok (.slice (some ⟨w.heap.size, 0, none⟩) (i + k) G) w' := by
  obtain ⟨i0, hi0, hz0, hz1, hz2⟩ := info_parts infoRf
  have hold : (Builtin.firstCells i0.size i (.slice (some ⟨g, 0, none⟩) i cap)).run Try.prog w.drew = .ok (cur.take (i * 33)).toArray w.drew := by
    rw [hz1]
    exact run_firstCells_some w.drew 33 i ⟨g, 0, none⟩ i cap (cur.take (i * 33)) (by rw [List.length_take, hcl]; omega) (fun j v hj => by
      rw [Addr.add_mid, Nat.zero_add]
      rw [List.getElem?_take] at hj
      split at hj
      · exact row_at (w := w.drew) hg _ _ hj
      · cases hj)
  have hge := grownCap_ge w (i + k) cap 54
  have hle := grownCap_le_maxLen w (i + k) cap 54 (by unfold maxLen; omega)
  have hrun := fun ty => Lib.run_append_grow_zeros (P := Try.prog) w 22 3 ty 54 i0 _ .i64 .i64 Try.underlying22 Try.underlying3 hi0 hz0 (some ⟨g, 0, none⟩) i cap _ hold k hk (by omega) hr (by omega) (by rw [hz2]; omega) (by rw [hz2]; exact growslice_fits hr (by omega))
  generalize hG : grownCap w (i + k) cap 54 = G at hrun hge hle
  generalize hR : ((cur.take (i * 33)).toArray ++ Builtin.zeroCells (Value.agg (.string ⟨#[]⟩ :: idC Rf.zid).toArray).cells k ++ Builtin.zeroCells (Value.agg (.string ⟨#[]⟩ :: idC Rf.zid).toArray).cells (G - (i + k))) = ROW at hrun
  refine ⟨G, ROW.toList, w.drew.alloc (.cells ROW 54), hge, hle, ?_, ?_, ?_, ?_, ?_, hrun⟩
  · have hz : (Value.agg (.string ⟨#[]⟩ :: idC Rf.zid).toArray).cells.size = 33 := rfl
    rw [← hR]
    simp only [Array.length_toList, Array.size_append, size_zeroCells, hz, List.size_toArray, List.length_take, hcl]
    rw [Nat.min_eq_left (by omega), ← Nat.add_mul, ← Nat.add_mul]
    congr 1; omega
  · show _ = _
    rw [← hR, Array.toList_append, Array.toList_append, List.append_assoc]
    exact take_app _ _ _ (by simp [hcl]; omega)
  · show _ = _
    rw [Array.toArray_toList]; exact heap_alloc_new w.drew _
  · exact ⟨rfl, rfl, rfl, by simp, fun k hk _ => Below.heap_alloc w.drew _ k hk⟩
  · simp

set_option maxHeartbeats 2000000 in
set_option maxRecDepth 100000 in
theorem insert_grow (g i m vb : Nat) (cur : List Value) (r : Rf.R) (w : World) (hg : w.heap[g]? = some (.cells cur.toArray 54 (0, 0))) (hv : w.heap[vb]? = some (.cells (rfC r).toArray 54 (0, 0))) (hrl : r.id.length = 32)
    (hcl : cur.length = (i + 1 + m) * 33) (hsm : i + 1 + m ≤ 64) (h1 : ∀ v ∈ cur, v.oneCell' = true) :
    Calls Try.prog 59 #[.slice (some ⟨g, 0, none⟩) (i + 1 + m) (i + 1 + m), .int .i64 (i : Int), .slice (some ⟨vb, 0, none⟩) 1 1] w fun e w' =>
      ∃ G, e = .returned (.slice (some ⟨w.heap.size, 0, none⟩) (i + 1 + m + 1) G) ∧ i + 1 + m + 1 ≤ G ∧ G ≤ maxLen ∧ (∃ cur' : List Value, w'.heap[w.heap.size]? = some (.cells cur'.toArray 54 (0, 0)) ∧ cur'.length = G * 33 ∧ cur'.take ((i + 1 + m + 1) * 33) = cur.take (i * 33) ++ (rfC r ++ cur.drop (i * 33))) ∧ w.grownBy w' none := by
  have hvlt : vb < w.heap.size := (Array.getElem?_eq_some_iff.1 hv).1
  have hglt : g < w.heap.size := (Array.getElem?_eq_some_iff.1 hg).1
  obtain ⟨G, ROW, w0, hG1, hG2, hRL, HRT, HG0, HGR0, hsz, hzr⟩ := zeros_row w g (i + 1 + m) i (m + 2) cur hg hcl (by omega) (by omega) (by omega) (by omega)
  have HRL0 := Lib.hid hRL
  have HZR := Lib.hid hzr
  have HGM := Lib.hid hG2
  have hG3 := hG2
  unfold maxLen at hG3
  have HV0 := Lib.hid (news_row ((HGR0.out.block vb hvlt (by simp)).trans hv))
  have HO0 := Lib.hid ((HGR0.out.block g hglt (by simp)).trans hg)
  have HCL := Lib.hid hcl
  have HRL := Lib.hid (show (rfC r).length = 33 by rw [rfC_length, hrl])
  have H1 := Lib.hid h1
  clear hg hcl h1 hv hRL hzr hG2
  have b1 : (0 : Int) ≤ (i : Int) := by omega
  have b3 : ((i : Int) == (i : Int) + 1 + (m : Int)) = false := beq_eq_false_iff_ne.2 (by omega)
  have b4 : ¬ i + 1 + m = i := by omega
  have b6 : (i : Int) ≤ (i : Int) + 1 + (m : Int) := by omega
  have b7 : (i : Int) + 1 + (m : Int) < (i : Int) + 1 + (m : Int) + 1 := by omega
  have b10 : ¬ G = i := by omega
  have b11 : ¬ G = i + 1 := by omega
  go_enter Try.func59, Try.ntmps59
  go_wp2_with (first
    | (at_builtin; refine wpList_zeros (P := Try.prog) rfl (.tmp 34) (.tmp 39) 22 3 rfl (.slice (some ⟨g, 0, none⟩) i (i + 1 + m)) (.slice (some ⟨w.heap.size, 0, none⟩) (i + (m + 2)) G) _ (m + 2) rfl rfl (by omega) HZR.out ?_)
    | ((with_reducible refine wpList_copy_k (P := Try.prog) ?_ (.tmp 43) (.tmp 44) 22 22 ?_ 54 33 Try.underlying22 infoRs w.heap.size (i * 33) (m + 2) (G - i) ⟨vb, 0, none⟩ 1 1 1 ?_ ?_ ?_ ROW 54 HG0.out (rfC r) ?_ HV0.out ?_ (rfC_one r) ?_); rfl; rfl; rfl; rfl; (simp only [Nat.min_def]; split <;> omega); (rw [HRL.out]); (rw [HRL.out, HRL0.out]; omega); intro w1 HG1 hgr1))
  have HO1 := Lib.hid ((hgr1.block g (by omega) (by simp; omega)).trans HO0.out)
  have HC1 := Lib.hid (show (splice ROW (i * 33) (rfC r)).length = G * 33 by rw [length_splice _ _ _ (by rw [HRL.out, HRL0.out]; omega), HRL0.out])
  have HT1 := Lib.hid (show (splice ROW (i * 33) (rfC r)).take ((i + 1) * 33) = cur.take (i * 33) ++ rfC r by
    unfold splice
    have hl : (ROW.take (i * 33)).length = i * 33 := by rw [List.length_take, HRL0.out]; omega
    rw [show (i + 1) * 33 = i * 33 + 33 by omega, take_app2 _ _ _ _ hl, take_app _ _ _ HRL.out, HRT.out])
  generalize splice ROW (i * 33) (rfC r) = cur1 at *
  have HGR := Lib.hid (HGR0.out.andThen hgr1 (fun j hj => by cases hj; exact .inl (Nat.le_refl _)))
  obtain ⟨news, hnews⟩ : ∃ news, news = cur.drop (i * 33) := ⟨_, rfl⟩
  have HNL := Lib.hid (show news.length = (m + 1) * 33 by rw [hnews, List.length_drop, HCL.out]; omega)
  have HN1 := Lib.hid (show ∀ v ∈ news, v.oneCell' = true from fun v hv => H1.out v (by rw [hnews] at hv; exact List.mem_of_mem_drop hv))
  have HNC := Lib.hid (show ∀ j v, news[j]? = some v → w1.drew.cell? ((⟨g, i * 33, none⟩ : Addr).add j) = some v from fun j v hj => by
    rw [Addr.add_mid]
    refine row_at (w := w1.drew) HO1.out _ _ ?_
    rwa [hnews, List.getElem?_drop] at hj)
  have HNW := Lib.hid hnews
  clear hgr1 hnews
  have e3 : ((i : Int) + 1).toNat = i + 1 := by omega
  have e4 : IntKind.i64.wrap ((i : Int) + 1) = (i : Int) + 1 := IntWalk.i64_in _ (by omega)
  have b0 : (0 : Int) ≤ (i : Int) + 1 := by omega
  have b9 : (i : Int) + 1 ≤ (i : Int) + ((m : Int) + 2) := by omega
  have e5 : i + (m + 2) - (i + 1) = m + 1 := by omega
  have e6 : i + 1 + m - i = m + 1 := by omega
  go_region_law (refine step_copy_k rfl (.tmp 50) (.tmp 53) 22 22 rfl 54 33 Try.underlying22 infoRs w.heap.size ((i + 1) * 33) (m + 1) (G - (i + 1)) ⟨g, i * 33, none⟩ (m + 1) (m + 1) (m + 1) (by simp [Act.eval, Act.put]) (by simp [Act.eval, Act.put]) (by simp only [Nat.min_def]; split <;> omega) cur1 54 HG1.out news HNL.out HNC.out (by rw [HNL.out, HC1.out]; omega) HN1.out ?_; intro w2 HG2 hgr2)
  have HGR2 := Lib.hid ((HGR.out.trans (grown_drew w1 none)).andThen hgr2 (fun j hj => by cases hj; exact .inl (Nat.le_refl _)))
  clear hgr2
  go_wp2_with fail
  go_ret
  refine ⟨G, by rw [show i + 1 + m + 1 = i + (m + 2) by omega]; rfl, by omega, HGM.out, ⟨_, HG2.out, ?_, ?_⟩, HGR2.out⟩
  · rw [length_splice _ _ _ (by rw [HNL.out, HC1.out]; omega), HC1.out]
  · unfold splice
    have hl : (cur.take (i * 33) ++ rfC r).length = (i + 1) * 33 := by rw [List.length_append, HRL.out, List.length_take, HCL.out]; omega
    rw [HT1.out, show (i + 1 + m + 1) * 33 = (i + 1) * 33 + (m + 1) * 33 by omega, take_app2 _ _ _ _ hl, take_app _ _ _ HNL.out, HNW.out, List.append_assoc]

set_option maxHeartbeats 2000000 in
set_option maxRecDepth 100000 in
theorem insert_end (v : Value) (L : List Rf.R) (base vb : Nat) (r : Rf.R) (w : World) (h : OwnF w base v L) (hv : w.heap[vb]? = some (.cells (rfC r).toArray 54 (0, 0))) (hrl : r.id.length = 32) (hl : L.length ≤ 64) (hbase : base ≤ w.heap.size) :
    Calls Try.prog 59 #[v, .int .i64 (L.length : Int), .slice (some ⟨vb, 0, none⟩) 1 1] w fun e w' =>
      ∃ v', e = .returned v' ∧ OwnF w' base v' (L ++ [r]) ∧ w.grownBy w' v.ownBlock ∧ (v'.ownBlock = v.ownBlock ∨ v'.ownBlock = some w.heap.size) := by
  obtain ⟨i0, hi0, hz0, hz1, hz2⟩ := info_parts infoRf
  have HV := Lib.hid (news_row hv)
  have HRL := Lib.hid (show (rfC r).length = 1 * 33 by rw [rfC_length, hrl])
  have HO := Lib.hid h
  obtain ⟨ao, cap, hform, hcap, hc63⟩ : ∃ ao cap, v = .slice ao L.length cap ∧ L.length ≤ cap ∧ cap ≤ 9223372036854775807 := by
    rcases h.2 with ⟨h0, h1⟩ | ⟨g, cap, cur, h0, _, _, h1, h2, _⟩
    · exact ⟨none, 0, by rw [h0, h1], by omega, by omega⟩
    · exact ⟨_, cap, h0, h1, by unfold maxLen at h2; omega⟩
  subst hform
  clear h hv
  have b1 : (0 : Int) ≤ (L.length : Int) := by omega
  go_enter Try.func59, Try.ntmps59
  go_wp2_with (at_builtin; refine wpList_append_own_at _ rfl _ _ 22 rfl base 54 i0 _ 33 48 Try.underlying22 hi0 hz0 hz1 hz2 rfl (by decide) _ _ _ rfl HO.out ⟨vb, 0, none⟩ 1 1 (rfC r) rfl HRL.out HV.out (rfC_one r) (by unfold maxLen; omega) (by omega) hbase ?_)
  all_goals
    intro v' w1 hown hgrow _ hat
    have HOW := Lib.hid (own_push hown)
    clear hown
    go_wp2_with fail
    go_ret
    exact ⟨_, rfl, HOW.out, by first | exact hgrow | (rw [own_cap ao L.length cap L.length L.length]; exact hgrow), by first | exact hat | (rw [own_cap ao L.length cap L.length L.length]; exact hat)⟩

end Go.Proofs.Ytkdljagcdaphdaa
