/-
  WALKS OF LAYER 9: slices.Replace of a ref by another, and of none by one (Insert).
-/
import Derived.Test.YtkdljagcdaphdaaInsG
namespace Go.Proofs.Ytkdljagcdaphdaa
open Go.RowKit
set_option linter.unusedVariables false
set_option linter.unusedSimpArgs false

theorem clear_none (a : Option Addr) (c : Nat) (ty : TypeId) (w : World) : (Builtin.clear_ #[22] ty #[.slice a 0 c]).run Try.prog w = .ok (.tuple #[]) w := by
  cases a <;> simp [Builtin.clear_, run_underlying Try.underlying22]
/-- What Insert of one ref leaves, wherever. -/
theorem insert_own (v : Value) (L : List Rf.R) (base vb i : Nat) (r : Rf.R) (w : World) (h : OwnF w base v L) (hid : ∀ r ∈ L, r.id.length = 32) (hv : w.heap[vb]? = some (.cells (rfC r).toArray 54 (0, 0))) (hne : v.ownBlock ≠ some vb) (hrl : r.id.length = 32) (hi : i ≤ L.length) (hl : L.length ≤ 64) (hbase : base ≤ w.heap.size) :
    Calls Try.prog 59 #[v, .int .i64 (i : Int), .slice (some ⟨vb, 0, none⟩) 1 1] w fun e w' =>
      ∃ v', e = .returned v' ∧ OwnF w' base v' (L.take i ++ (r :: L.drop i)) ∧ w.grownBy w' v.ownBlock ∧ (v'.ownBlock = v.ownBlock ∨ v'.ownBlock = some w.heap.size) := by
  by_cases hie : i = L.length
  · subst hie
    refine (insert_end v L base vb r w h hv hrl hl hbase).mono ?_
    rintro e w' ⟨v', rfl, h1, h2, h3⟩
    exact ⟨v', rfl, by rw [List.take_length, List.drop_length]; exact h1, h2, h3⟩
  · obtain ⟨g, cap, cur, rfl, hb, hh, h1, h2, h3, h4⟩ := h.open_ (by omega)
    have hm := h2
    unfold maxLen at hm
    obtain ⟨m, hmm⟩ : ∃ m, L.length = i + 1 + m := ⟨L.length - (i + 1), by omega⟩
    have hlen : (L.take i ++ (r :: L.drop i)).length = i + 1 + m + 1 := by simp; omega
    have hid2 : ∀ x ∈ L.take i ++ (r :: L.drop i), x.id.length = 32 := fun x hx => by
      rcases List.mem_append.1 hx with h | h
      · exact hid x (List.mem_of_mem_take h)
      · rcases List.mem_cons.1 h with rfl | h
        · exact hrl
        · exact hid x (List.mem_of_mem_drop h)
    have hc1 : cur.take (i * 33) = (L.take i).flatMap rfC := by
      rw [← flat_take L hid i (by omega), ← h4, List.take_take, Nat.min_eq_left (by omega)]
    have hc2 : (cur.take ((i + 1 + m) * 33)).drop (i * 33) = (L.drop i).flatMap rfC := by
      rw [← hmm, h4, flat_drop L hid _ (by omega)]
    have hfl : (L.take i ++ (r :: L.drop i)).flatMap rfC = (L.take i).flatMap rfC ++ (rfC r ++ (L.drop i).flatMap rfC) := by
      rw [List.flatMap_append, List.flatMap_cons]
    rw [hmm] at h1 ⊢
    by_cases hroom : i + 1 + m + 1 ≤ cap
    · refine (insert_room g cap i m vb cur r w hh hv (fun e => hne (by rw [e]; rfl)) hrl h3 hroom (by omega) (by rw [← hmm, h4]; exact flat_one L)).mono ?_
      rintro e w' ⟨rfl, ⟨cur', hg', hl', ht'⟩, hgr⟩
      refine ⟨_, rfl, ?_, hgr, .inl rfl⟩
      have := OwnF.shut (L := L.take i ++ (r :: L.drop i)) hb hg' (by omega) h2 hl' (by rw [hlen, ht', hc1, hc2, hfl]) hid2
      rwa [hlen] at this
    · have hce : cap = i + 1 + m := by omega
      subst hce
      have hcur : cur.take ((i + 1 + m) * 33) = cur := List.take_of_length_le (by omega)
      refine (insert_grow g i m vb cur r w hh hv hrl h3 (by omega) (by rw [← hcur, ← hmm, h4]; exact flat_one L)).mono ?_
      rintro e w' ⟨G, rfl, hG1, hG2, ⟨cur', hg', hl', ht'⟩, hgr⟩
      refine ⟨_, rfl, ?_, hgr.but _, .inr rfl⟩
      rw [hcur] at hc2
      have := OwnF.shut (L := L.take i ++ (r :: L.drop i)) hbase hg' (by omega) hG2 hl' (by rw [hlen, ht', hc1, hc2, hfl]) hid2
      rwa [hlen] at this

set_option maxHeartbeats 2000000 in
set_option maxRecDepth 100000 in
theorem replace_ins (v : Value) (L : List Rf.R) (base vb i : Nat) (r : Rf.R) (w : World) (h : OwnF w base v L) (hid : ∀ r ∈ L, r.id.length = 32) (hv : w.heap[vb]? = some (.cells (rfC r).toArray 54 (0, 0))) (hne : v.ownBlock ≠ some vb) (hrl : r.id.length = 32) (hi : i ≤ L.length) (hl : L.length ≤ 64) (hbase : base ≤ w.heap.size) :
    Calls Try.prog 56 #[v, .int .i64 (i : Int), .int .i64 (i : Int), .slice (some ⟨vb, 0, none⟩) 1 1] w fun e w' =>
      ∃ v', e = .returned v' ∧ OwnF w' base v' (L.take i ++ (r :: L.drop i)) ∧ w.grownBy w' v.ownBlock ∧ (v'.ownBlock = v.ownBlock ∨ v'.ownBlock = some w.heap.size) := by
  have HI := Lib.hid (insert_own v L base vb i r w h hid hv hne hrl hi hl hbase)
  obtain ⟨ao, cap, hform, hcap, hc63⟩ : ∃ ao cap, v = .slice ao L.length cap ∧ L.length ≤ cap ∧ cap ≤ 9223372036854775807 := by
    rcases h.2 with ⟨h0, h1⟩ | ⟨g, cap, cur, h0, _, _, h1, h2, _⟩
    · exact ⟨none, 0, by rw [h0, h1], by omega, by omega⟩
    · exact ⟨_, cap, h0, h1, by unfold maxLen at h2; omega⟩
  subst hform
  clear h hv hne hid
  have b1 : (0 : Int) ≤ (i : Int) := by omega
  have b2 : (i : Int) ≤ (L.length : Int) := by omega
  have b3 : (i : Int) ≤ (cap : Int) := by omega
  go_enter Try.func56, Try.ntmps56
  go_wp2_with (go_at_call 59; refine HI.out.mono ?_; rintro e wx ⟨v', rfl, h1, h2, h3⟩)
  all_goals
    go_ret
    refine ⟨_, rfl, h1, ?_, ?_⟩
    · first | exact h2 | (rw [own_cap ao _ _ L.length cap]; exact h2)
    · first | exact h3 | (rw [own_cap ao _ _ L.length cap]; exact h3)

set_option maxHeartbeats 2000000 in
set_option maxRecDepth 100000 in
theorem replace_end (g cap i vb : Nat) (cur : List Value) (r : Rf.R) (w : World) (hg : w.heap[g]? = some (.cells cur.toArray 54 (0, 0))) (hv : w.heap[vb]? = some (.cells (rfC r).toArray 54 (0, 0))) (hrl : r.id.length = 32)
    (hcl : cur.length = cap * 33) (hm : i + 1 ≤ cap) (hcm : cap ≤ 9223372036854775807) :
    Calls Try.prog 56 #[.slice (some ⟨g, 0, none⟩) (i + 1) cap, .int .i64 (i : Int), .int .i64 ((i : Int) + 1), .slice (some ⟨vb, 0, none⟩) 1 1] w fun e w' =>
      e = .returned (.slice (some ⟨g, 0, none⟩) (i + 1) cap) ∧ Hid (w'.heap[g]? = some (.cells (splice cur (i * 33) (rfC r)).toArray 54 (0, 0))) ∧ w.grownBy w' (some g) := by
  have HG := Lib.hid hg
  have HV := Lib.hid (news_row hv)
  have HCL := Lib.hid hcl
  have HRL := Lib.hid (show (rfC r).length = 33 by rw [rfC_length, hrl])
  clear hg hcl hv
  have b1 : (0 : Int) ≤ (i : Int) := by omega
  have b2 : (i : Int) ≤ (i : Int) + 1 := by omega
  have b3 : ((i : Int) == (i : Int) + 1) = false := beq_eq_false_iff_ne.2 (by omega)
  have b4 : (i : Int) ≤ (cap : Int) := by omega
  have b5 : (i : Int) + 1 ≤ (cap : Int) := by omega
  have e3 : ((i : Int) + 1).toNat = i + 1 := by omega
  have b0 : (0 : Int) ≤ (i : Int) + 1 := by omega
  go_enter Try.func56, Try.ntmps56
  go_wp2_with (at_builtin; refine wpList_room_k (P := Try.prog) rfl (.tmp 32) (.tmp 33) 22 rfl 54 33 Try.underlying22 infoRs g i cap rfl ⟨vb, 0, none⟩ 1 1 rfl cur 54 HG.out (rfC r) (by rw [HRL.out]) HV.out (by omega) (by rw [HRL.out, HCL.out]; omega) (rfC_one r) ?_; intro w1 HG1 hgr1)
  go_ret
  exact ⟨rfl, HG1, hgr1⟩

set_option maxHeartbeats 2000000 in
set_option maxRecDepth 100000 in
theorem replace_mid (g cap i m vb : Nat) (cur : List Value) (r : Rf.R) (w : World) (hg : w.heap[g]? = some (.cells cur.toArray 54 (0, 0))) (hv : w.heap[vb]? = some (.cells (rfC r).toArray 54 (0, 0))) (hne : vb ≠ g) (hrl : r.id.length = 32)
    (hcl : cur.length = cap * 33) (hm : i + 2 + m ≤ cap) (hcm : cap ≤ 9223372036854775807) (h1 : ∀ v ∈ cur.take ((i + 2 + m) * 33), v.oneCell' = true) :
    Calls Try.prog 56 #[.slice (some ⟨g, 0, none⟩) (i + 2 + m) cap, .int .i64 (i : Int), .int .i64 ((i : Int) + 1), .slice (some ⟨vb, 0, none⟩) 1 1] w fun e w' =>
      e = .returned (.slice (some ⟨g, 0, none⟩) (i + 2 + m) cap) ∧ (∃ cur' : List Value, w'.heap[g]? = some (.cells cur'.toArray 54 (0, 0)) ∧ cur'.length = cap * 33 ∧ cur'.take ((i + 2 + m) * 33) = cur.take (i * 33) ++ (rfC r ++ (cur.take ((i + 2 + m) * 33)).drop ((i + 1) * 33))) ∧ w.grownBy w' (some g) := by
  have HG := Lib.hid hg
  have HV := Lib.hid (news_row hv)
  have HCL := Lib.hid hcl
  have HRL := Lib.hid (show (rfC r).length = 33 by rw [rfC_length, hrl])
  have H1 := Lib.hid h1
  clear hg hcl hv h1
  have b1 : (0 : Int) ≤ (i : Int) := by omega
  have b2 : (i : Int) ≤ (i : Int) + 1 := by omega
  have b3 : ((i : Int) == (i : Int) + 1) = false := beq_eq_false_iff_ne.2 (by omega)
  have b31 : ((i : Int) + 1 == (i : Int) + 2 + (m : Int)) = false := beq_eq_false_iff_ne.2 (by omega)
  have b4 : (i : Int) ≤ (cap : Int) := by omega
  have b5 : (i : Int) + 1 ≤ (cap : Int) := by omega
  have b6 : (i : Int) + 1 ≤ (i : Int) + 2 + (m : Int) := by omega
  have e3 : ((i : Int) + 1).toNat = i + 1 := by omega
  have b0 : (0 : Int) ≤ (i : Int) + 1 := by omega
  have e5 : i + 2 + m - (i + 1) = m + 1 := by omega
  have b7 : ¬ cap = i + 1 := by omega
  have b8 : ¬ cap = i := by omega
  go_enter Try.func56, Try.ntmps56
  go_wp2_with fail
  have e6 : IntKind.i64.wrap ((i : Int) + 1) = (i : Int) + 1 := IntWalk.i64_in _ (by omega)
  have e7 : IntKind.i64.wrap ((i : Int) + 1 + ((m : Int) + 1)) = (i : Int) + 1 + ((m : Int) + 1) := IntWalk.i64_in _ (by omega)
  go_quiet (fail)
  have HGq := Lib.hid (show (w.drewN nq).heap[g]? = some (.cells cur.toArray 54 (0, 0)) from HG.out)
  have HVq := Lib.hid (show ∀ j u, (rfC r)[j]? = some u → (w.drewN nq).cell? ((⟨vb, 0, none⟩ : Addr).add j) = some u from HV.out)
  have HGRq := Lib.hid (show w.grownBy (w.drewN nq) (some g) from ⟨rfl, rfl, rfl, Nat.le_refl _, fun _ _ _ => rfl⟩)
  generalize w.drewN nq = wq at *
  go_wp2_with ((with_reducible refine wpList_copy_k (P := Try.prog) ?_ (.tmp 95) (.tmp 96) 22 22 ?_ 54 33 Try.underlying22 infoRs g (i * 33) (i + 1 + (m + 1) - i) (cap - i) ⟨vb, 0, none⟩ 1 1 1 ?_ ?_ ?_ cur 54 HGq.out (rfC r) ?_ HVq.out ?_ (rfC_one r) ?_); rfl; rfl; rfl; rfl; (simp only [Nat.min_def]; split <;> omega); (rw [HRL.out]); (rw [HRL.out, HCL.out]; omega); intro w1 HG1 hgr1)
  have HC1 := Lib.hid (show (splice cur (i * 33) (rfC r)).length = cap * 33 by rw [length_splice _ _ _ (by rw [HRL.out, HCL.out]; omega), HCL.out])
  have HT1 := Lib.hid (show (splice cur (i * 33) (rfC r)).take ((i + 1) * 33) = cur.take (i * 33) ++ rfC r ∧ (splice cur (i * 33) (rfC r)).drop ((i + 1) * 33) = cur.drop ((i + 1) * 33) by
    unfold splice
    have hl : (cur.take (i * 33)).length = i * 33 := by rw [List.length_take, HCL.out]; omega
    refine ⟨by rw [show (i + 1) * 33 = i * 33 + 33 by omega, take_app2 _ _ _ _ hl, take_app _ _ _ HRL.out], ?_⟩
    rw [← List.append_assoc, drop_app _ _ _ (by rw [List.length_append, hl, HRL.out]; omega), HRL.out, show i * 33 + 33 = (i + 1) * 33 by omega])
  generalize splice cur (i * 33) (rfC r) = cur1 at *
  obtain ⟨news, hnews⟩ : ∃ news, news = (cur1.drop ((i + 1) * 33)).take ((m + 1) * 33) := ⟨_, rfl⟩
  have HNL := Lib.hid (show news.length = (m + 1) * 33 by rw [hnews, List.length_take, List.length_drop, HC1.out]; omega)
  have HNW := Lib.hid (show news = (cur.take ((i + 2 + m) * 33)).drop ((i + 1) * 33) by
    rw [hnews, HT1.out.2, List.drop_take, show (i + 2 + m) * 33 - (i + 1) * 33 = (m + 1) * 33 by omega])
  have HN1 := Lib.hid (show ∀ v ∈ news, v.oneCell' = true from fun v hv => H1.out v (by rw [HNW.out] at hv; exact List.mem_of_mem_drop hv))
  have HNC := Lib.hid (show ∀ j v, news[j]? = some v → w1.drew.cell? ((⟨g, (i + 1) * 33, none⟩ : Addr).add j) = some v from fun j v hj => by
    rw [Addr.add_mid]
    refine row_at (w := w1.drew) HG1.out _ _ ?_
    rw [hnews, List.getElem?_take, List.getElem?_drop] at hj
    split at hj
    · exact hj
    · cases hj)
  have HGR := Lib.hid ((HGRq.out.trans hgr1).trans (grown_drew w1 (some g)))
  clear hgr1 hnews
  have b9 : (i : Int) + 1 ≤ (i : Int) + 1 + ((m : Int) + 1) := by omega
  have e8 : i + 1 + (m + 1) - (i + 1) = m + 1 := by omega
  have e9 : i + 2 + m - (i + 1 + (m + 1)) = 0 := by omega
  go_region_law (refine step_copy_k rfl (.tmp 103) (.tmp 106) 22 22 rfl 54 33 Try.underlying22 infoRs g ((i + 1) * 33) (m + 1) (cap - (i + 1)) ⟨g, (i + 1) * 33, none⟩ (m + 1) (cap - (i + 1)) (m + 1) (by simp [Act.eval, Act.put]) (by simp [Act.eval, Act.put]) (by simp only [Nat.min_def]; split <;> omega) cur1 54 HG1.out news HNL.out HNC.out (by rw [HNL.out, HC1.out]; omega) HN1.out ?_; intro w2 HG2 hgr2)
  have HGR2 := Lib.hid (HGR.out.trans hgr2)
  have HT2 := Lib.hid (show (splice cur1 ((i + 1) * 33) news).take ((i + 2 + m) * 33) = cur.take (i * 33) ++ (rfC r ++ (cur.take ((i + 2 + m) * 33)).drop ((i + 1) * 33)) by
    unfold splice
    have hl : (cur.take (i * 33) ++ rfC r).length = (i + 1) * 33 := by rw [List.length_append, HRL.out, List.length_take, HCL.out]; omega
    rw [HT1.out.1, show (i + 2 + m) * 33 = (i + 1) * 33 + (m + 1) * 33 by omega, take_app2 _ _ _ _ hl, take_app _ _ _ HNL.out, HNW.out, List.append_assoc, show (i + 1) * 33 + (m + 1) * 33 = (i + 2 + m) * 33 by omega])
  have HC2 := Lib.hid (show (splice cur1 ((i + 1) * 33) news).length = cap * 33 by rw [length_splice _ _ _ (by rw [HNL.out, HC1.out]; omega), HC1.out])
  clear hgr2
  have e10 : i + 1 + (m + 1) = i + 2 + m := by omega
  have hc0 := clear_none
  by_cases hcq : cap = i + 1 + (m + 1)
  · go_wp2_with fail
    go_ret
    exact ⟨by rw [show i + 2 + m = i + 1 + (m + 1) by omega]; rfl, ⟨_, HG2.out, HC2.out, HT2.out⟩, HGR2.out⟩
  · go_wp2_with fail
    go_ret
    exact ⟨by rw [show i + 2 + m = i + 1 + (m + 1) by omega]; rfl, ⟨_, HG2.out, HC2.out, HT2.out⟩, HGR2.out⟩

/-- slices.Replace of the ref at i by another. -/
theorem replace_own (v : Value) (L : List Rf.R) (base vb i : Nat) (r : Rf.R) (w : World) (h : OwnF w base v L) (hid : ∀ r ∈ L, r.id.length = 32) (hv : w.heap[vb]? = some (.cells (rfC r).toArray 54 (0, 0))) (hne : v.ownBlock ≠ some vb) (hrl : r.id.length = 32) (hi : i < L.length) :
    Calls Try.prog 56 #[v, .int .i64 (i : Int), .int .i64 ((i : Int) + 1), .slice (some ⟨vb, 0, none⟩) 1 1] w fun e w' =>
      ∃ v', e = .returned v' ∧ OwnF w' base v' (L.take i ++ (r :: L.drop (i + 1))) ∧ w.grownBy w' v.ownBlock ∧ (v'.ownBlock = v.ownBlock ∨ v'.ownBlock = some w.heap.size) := by
  obtain ⟨g, cap, cur, rfl, hb, hh, h1, h2, h3, h4⟩ := h.open_ (by omega)
  have hm := h2
  unfold maxLen at hm
  have hlen : (L.take i ++ (r :: L.drop (i + 1))).length = L.length := by simp; omega
  have hid2 : ∀ x ∈ L.take i ++ (r :: L.drop (i + 1)), x.id.length = 32 := fun x hx => by
    rcases List.mem_append.1 hx with h | h
    · exact hid x (List.mem_of_mem_take h)
    · rcases List.mem_cons.1 h with rfl | h
      · exact hrl
      · exact hid x (List.mem_of_mem_drop h)
  have hc1 : cur.take (i * 33) = (L.take i).flatMap rfC := by
    rw [← flat_take L hid i (by omega), ← h4, List.take_take, Nat.min_eq_left (by omega)]
  have hc2 : (cur.take (L.length * 33)).drop ((i + 1) * 33) = (L.drop (i + 1)).flatMap rfC := by
    rw [h4, flat_drop L hid _ (by omega)]
  have hfl : (L.take i ++ (r :: L.drop (i + 1))).flatMap rfC = (L.take i).flatMap rfC ++ (rfC r ++ (L.drop (i + 1)).flatMap rfC) := by
    rw [List.flatMap_append, List.flatMap_cons]
  have hrf : (rfC r).length = 33 := by rw [rfC_length, hrl]
  by_cases hie : i + 1 = L.length
  · have hl1 : L.length = i + 1 := hie.symm
    rw [hl1]
    refine (replace_end g cap i vb cur r w hh hv hrl h3 (by omega) (by omega)).mono ?_
    rintro e w' ⟨rfl, hg', hgr⟩
    refine ⟨_, rfl, ?_, hgr, .inl rfl⟩
    have := OwnF.shut (L := L.take i ++ (r :: L.drop (i + 1))) hb hg'.out (by omega) h2 (by rw [length_splice _ _ _ (by rw [hrf, h3]; omega), h3]) (by
      have hl : (cur.take (i * 33)).length = i * 33 := by rw [List.length_take, h3]; omega
      rw [hlen, hl1, hfl]; unfold splice
      rw [show (i + 1) * 33 = i * 33 + 33 by omega, take_app2 _ _ _ _ hl, take_app _ _ _ hrf, hc1, List.drop_of_length_le (by omega)]; simp) hid2
    rwa [hlen, hl1] at this
  · obtain ⟨m, hmm⟩ : ∃ m, L.length = i + 2 + m := ⟨L.length - (i + 2), by omega⟩
    rw [hmm] at h1 hc2 ⊢
    refine (replace_mid g cap i m vb cur r w hh hv (fun e => hne (by rw [e]; rfl)) hrl h3 (by omega) (by omega) (by rw [← hmm, h4]; exact flat_one L)).mono ?_
    rintro e w' ⟨rfl, ⟨cur', hg', hl', ht'⟩, hgr⟩
    refine ⟨_, rfl, ?_, hgr, .inl rfl⟩
    have := OwnF.shut (L := L.take i ++ (r :: L.drop (i + 1))) hb hg' (by omega) h2 hl' (by rw [hlen, hmm, ht', hc1, hc2, hfl]) hid2
    rwa [hlen, hmm] at this

end Go.Proofs.Ytkdljagcdaphdaa
