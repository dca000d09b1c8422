/-
  WALKS OF LAYER 12: the document's Sorted.
-/
import Derived.Test.YtkcjhkfelaplkaaGreatDoorQw
import Derived.Laws.AppendOwnNone
import Derived.Test.YtkcjhkfelaplkaaGreatDoorQa
set_option linter.unusedVariables false
set_option linter.unusedSimpArgs false
set_option maxHeartbeats 8000000
set_option maxRecDepth 100000
namespace Go.Proofs.YtkcjhkfelaplkaaGreatDoor
open Go.RowKit
theorem wp_apI {op : Oper} {a : Act} {w : World} {K : Act → World → Prop} {Q : Exit → Act → World → Prop} {v jv : Value} {I J : List (List UInt8)} {base : Nat} (s x : Operand)
  (ho : op.op = .call { callee := .builtin .append, args := #[s, x], argTypes := #[34, 34] }) (hs : a.eval s = v) (hx : a.eval x = jv)
  (h : OwnI w base v I) (hJ : IdsAt w jv J) (hJl : ∀ i ∈ J, i.length = 32) (hb : base ≤ w.heap.size) (hl : I.length + J.length ≤ 100000)
  (hK : ∀ v' w', OwnI w' base v' (I ++ J) → w.grownBy w' v.ownBlock → K (a.put op.dst v') w') : op.wp Tryz.prog a w K Q := by
 obtain ⟨i0, hi, hz0, hz1, hz2⟩ := info_parts infoIdz
 obtain ⟨ao, cap, rfl⟩ : ∃ ao cap, jv = .slice ao J.length cap := by simpa using RowsAt.form hJ
 have hfl : ((J.map idC).flatten).length = J.length * 32 := by rw [flatK_len _ (ids_len hJl)]; simp
 cases ao with
 | none =>
   have hn : J = [] ∧ cap = 0 := by
    rcases hJ.out with ⟨h1, h0⟩ | ⟨a', c, h0, _⟩
    ·
     have : J = [] := by simpa using h0
     subst this
     simp at h1
     exact ⟨rfl, h1⟩
    · simp at h0
   obtain ⟨rfl, rfl⟩ := hn
   have hrun := run_append_owned_none (P := Tryz.prog) (w := w) base 34 op.type 46 i0 32 Tryz.underlying34 hi v I.length _ h.own
   unfold Oper.wp
   simp [execOp, ho, resolve, invoke, builtin, hs, hx, hrun, Result.andThen]
   exact hK v w (by simpa using h) (World.grownBy.refl _ _)
 | some ad =>
   refine wp_append_own _ s x 34 ho base 46 i0 _ 32 32 Tryz.underlying34 hi hz0 hz1 hz2 (by decide) (by decide) v I.length (I.map idC).flatten hs h.own ad J.length cap ((J.map idC).flatten) hx hfl (ids_flat_at hJ hJl) (ids_flat_one J) (by unfold maxLen; omega) (by omega) hb ?_
   intro v' w' h1 h2 _
   refine hK v' w' ⟨?_, ?_⟩ h2
   · simpa using h1
   ·
    intro i hi
    rcases List.mem_append.1 hi with h' | h'
    · exact h.len i h'
    · exact hJl i h'
theorem take_at {w : World} {a : Addr} {n m cap cap' : Nat} {I : List (List UInt8)} (h : IdsAt w (.slice (some a) n cap) I) (hm : m ≤ I.length) : IdsAt w (.slice (some a) m cap') (I.take m) := by
 refine ⟨.inr ⟨a, cap', by simp [Nat.min_eq_left hm], fun i cs hi => ?_⟩⟩
 rw [List.map_take, List.getElem?_take] at hi
 split at hi
 ·
  obtain ⟨a', e, h1, h2⟩ := h.elem i cs hi
  injection e with e
  subst e
  exact ⟨h1, h2⟩
 · cases hi
theorem drop_at {w : World} {a : Addr} {n m cap cap' : Nat} {I : List (List UInt8)} (h : IdsAt w (.slice (some a) n cap) I) : IdsAt w (.slice (some (a.add (m * 32))) (I.length - m) cap') (I.drop m) := by
 refine ⟨.inr ⟨a.add (m * 32), cap', by simp, fun i cs hi => ?_⟩⟩
 rw [List.map_drop, List.getElem?_drop] at hi
 obtain ⟨a', e, h1, h2⟩ := h.elem (m + i) cs hi
 injection e with e
 subst e
 refine ⟨h1, fun j x hx => ?_⟩
 have := h2 j x hx
 rw [add_add] at this
 rw [add_add, add_add, show m * 32 + (i * 32 + j) = (m + i) * 32 + j by omega]
 exact this
theorem one_at {w : World} {g : Nat} {id : List UInt8} (h : w.heap[g]? = some (.cells (idC id).toArray 46 (0, 0))) (hl : id.length = 32) : IdsAt w (.slice (some ⟨g, 0, none⟩) 1 1) [id] := by
 refine ⟨.inr ⟨⟨g, 0, none⟩, 1, rfl, fun i cs hi => ?_⟩⟩
 cases i with
 | zero =>
   simp at hi
   subst hi
   exact ⟨by rw [idC_length]; exact hl, fun j x hx => by have := row_news h j x hx; simpa [Addr.add_mid] using this⟩
 | succ i => simp at hi
theorem wp_bs1 {op : Oper} {a : Act} {w : World} {K : Act → World → Prop} {Q : Exit → Act → World → Prop} {x : Operand} {l : List UInt8} (ho : op.op = .buildSlice 34 1 #[(0, x)]) (hx : a.eval x = .agg (idC l).toArray) (hl : l.length = 32)
  (h : K (a.put op.dst (.slice (some ⟨w.heap.size, 0, none⟩) 1 1)) (w.alloc (.cells (idC l).toArray 46))) : op.wp Tryz.prog a w K Q := by
 obtain ⟨ie, hie, hz, h1, _⟩ := info_parts infoIdz
 have hf := builtS_id l hl
 unfold Program.builtSlice at hf
 simp only [hie, hz] at hf
 rw [if_neg (by rw [h1]; decide)] at hf
 exact wp_buildSlice 34 46 1 _ ho _ ie _ Tryz.underlying34 hie hz (by rw [h1]; decide) (by rw [h1]; decide) (by simp only [List.map_toArray, List.map_cons, List.map_nil, hx]; exact hf) h
theorem sorted_any (w : World) (v : Value) (I : List (List UInt8)) (hI : IdsAt w v I) (hIl : ∀ i ∈ I, i.length = 32) (hIn : I.length ≤ 7000) : Calls Tryz.prog 21 #[v] w (SortedP I w) := by
 unfold SortedP
 obtain ⟨lo, lc, rfl⟩ : ∃ ao cap, v = .slice ao I.length cap := by simpa using RowsAt.form hI
 have HI := Lib.hid hI
 have HL := Lib.hid hIl
 clear hI hIl
 go_enter Tryz.func21, Tryz.ntmps21
 go_wp2_with fail
 go_loopw [3, 4] (fun ov i wr => ∃ (k : Nat) (O : List (List UInt8)), k ≤ I.length ∧ i = .int .i64 k ∧ Hid (O.length ≤ k) ∧ Hid (Gr.Up O) ∧ Hid (∀ x, x ∈ O ↔ x ∈ I.take k) ∧ Hid (OwnI wr w.heap.size ov O) ∧ Hid (Below w.heap.size w wr)) (fun _ i _ => I.length - (intOf i).toNat)
 case atStart => exact ⟨0, [], by omega, rfl, Nat.le_refl _, .nil, fun x => by simp, OwnI.nil _ _, Below.refl _ _⟩
 case round =>
  obtain ⟨wr2, hwr2⟩ : ∃ W, W = wr := ⟨_, rfl⟩
  subst hwr2
  obtain ⟨k, O, hk, rfl, HOK, HUP, HMM, HO, HB⟩ := hrel
  obtain ⟨oo, oc, rfl⟩ := HO.out.form
  have hO7 : O.length ≤ 7000 := by have := HOK.out; omega
  have hbs := HB.out.size
  by_cases hlt : k < I.length
  ·
   have hlt' : (k : Int) < (I.length : Int) := by omega
   have hk0 : (0 : Int) ≤ (k : Int) := by omega
   obtain ⟨id, hx⟩ : ∃ x, I[k]? = some x := ⟨I[k], List.getElem?_eq_getElem hlt⟩
   have HXL := Lib.hid (HL.out id (List.mem_of_getElem? hx))
   have HTK := Lib.hid (take_id hx)
   obtain ⟨la, hla, _, hc⟩ := (RowsAt.below HI.out HB.out).elem k (idC id) (by simp [hx])
   subst hla
   have HC := Lib.hid hc
   clear hc hx
   go_wp2_with fail
   go_loopw [5] (fun av wr => ∃ (n : Nat), n ≤ O.length ∧ av = .int .i64 n ∧ Hid (∀ (j : Nat) (x : List UInt8), n ≤ j → O[j]? = some x → St.lt id x = true) ∧ Hid (Below wr2.heap.size wr2 wr)) (fun av _ => (intOf av).toNat)
   case atStart => exact ⟨O.length, Nat.le_refl _, rfl, fun j x hj hx => by have := (List.getElem?_eq_some_iff.1 hx).1; omega, Below.refl _ _⟩
   case round =>
    obtain ⟨wr3, hwr3⟩ : ∃ W, W = wr := ⟨_, rfl⟩
    subst hwr3
    obtain ⟨n, hn, rfl, HGT, HB3⟩ := hrel
    have HO3 := Lib.hid (HO.out.below HB3.out)
    have HC3 := Lib.hid (show ∀ j u, (idC id)[j]? = some u → wr3.cell? ((la.add (k * 32)).add j) = some u from fun j u hu => by
     have h1 := HC.out j u hu
     rw [HB3.out.cell (World.block_lt_of_cell? _ _ h1)]; exact h1)
    by_cases hn0 : n = 0
    ·
     subst hn0
     go_wp2_with fail
     go_quiet (fail)
     go_wp2_with fail
     obtain ⟨q1, hq1⟩ : ∃ q, q = nq := ⟨_, rfl⟩
     subst hq1
     go_quiet (fail)
     have HB9 := Lib.hid (bel_drewN (bel_drewN (Below.refl wr3.heap.size wr3) q1) nq)
     generalize (wr3.drewN q1).drewN nq = wr9 at *
     have hn' : (0 : Int) ≤ (oc : Int) := by omega
     have HB29 := Lib.hid (HB3.out.trans (HB9.out.mono HB3.out.size))
     have HO9 := Lib.hid (HO3.out.below HB9.out)
     have HCA := Lib.hid (show ∀ W, Below wr9.heap.size wr9.drew W → ∀ j u, (idC id)[j]? = some u → W.cell? ((la.add (k * 32)).add j) = some u from fun W hb j u hu => by
      have h1 := (HB9.out.cell (World.block_lt_of_cell? _ _ (HC3.out j u hu))).trans (HC3.out j u hu)
      exact (hb.cell (World.block_lt_of_cell? _ _ h1)).trans h1)
     have HMM2 := Lib.hid (show ∀ x, x ∈ O.take 0 ++ id :: O.drop 0 ↔ x ∈ I.take (k + 1) from fun x => by rw [Gr.mem_ins x, HTK.out, HMM.out x]; simp)
     have HUP2 := Lib.hid (Gr.up_ins (n := 0) HUP.out HO.out.len HXL.out (Nat.zero_le _) HGT.out (.inl rfl))
     have HJ1 := Lib.hid (show ∀ W, Below wr9.heap.size wr9.drew W → IdsAt W (.slice oo 0 oc) (O.take 0) from fun W hb => by
      rcases (RowsAt.below HO9.out.rows (Below.refl _ _).drew).out with ⟨h1, _⟩ | ⟨a, c, h1, _⟩
      · simp only [Value.slice.injEq] at h1; obtain ⟨rfl, h2, rfl⟩ := h1; exact RowsAt.nil _ _
      · simp only [Value.slice.injEq] at h1; obtain ⟨rfl, h2, rfl⟩ := h1; exact ⟨.inr ⟨a, oc, rfl, fun i cs hi => by simp at hi⟩⟩)
     have HJ2 := Lib.hid (show ∀ W, Below wr9.heap.size wr9.drew W → IdsAt W (.slice oo O.length oc) (O.drop 0) from fun W hb => RowsAt.below (show IdsAt wr9.drew (.slice oo O.length oc) O from RowsAt.below HO9.out.rows (Below.refl _ _).drew) hb)
     go_wp2_with fail
     refine wp_region_noPanic ?_
     refine wp_region_held_drew (S := (fun w' => Below wr9.heap.size wr9.drew w')) (by kernel_rfl) (Below.refl _ _) (fun hH => ?_)
     refine tk (i := 1) (v := ?_) ?_ ?_
     rotate_left
     · intro w' hSw; go_simp; try rfl
     try simp only [q0]
     refine tk (i := 2) (v := ?_) ?_ ?_
     rotate_left
     · intro w' hSw; go_simp; try rfl
     try simp only [q0]
     refine tk (i := 3) (v := ?_) ?_ ?_
     rotate_left
     · intro w' hSw; go_simp; try rfl
     try simp only [q0]
     refine tk (i := 5) (v := ?_) ?_ ?_
     rotate_left
     · intro w' hSw; go_simp; try rfl
     try simp only [q0]
     refine tk (i := 6) (v := ?_) ?_ ?_
     rotate_left
     · intro w' hSw; go_simp; try rfl
     try simp only [q0]
     refine tk (i := 7) (v := ?_) ?_ ?_
     rotate_left
     · intro w' hSw; go_simp; try rfl
     try simp only [q0]
     refine wpAnyH_take (i := 8) rfl (by kernel_rfl) (by kernel_rfl) (by kernel_rfl) (fun _ _ _ h => h) (yields_at (p := la.add (k * 32)) (cs := idC id) (by rfl) rfl rfl HCA.out Tryz.underlying46 rfl (idsize HXL.out)) (by assumption) ?_
     try simp only [q0]
     refine tk (i := 11) (v := ?_) ?_ ?_
     rotate_left
     · intro w' hSw; go_simp; try rfl
     try simp only [q0]
     refine tk (i := 12) (v := ?_) ?_ ?_
     rotate_left
     · intro w' hSw; go_simp; try rfl
     try simp only [q0]
     refine tk (i := 13) (v := ?_) ?_ ?_
     rotate_left
     · intro w' hSw; go_simp; try rfl
     try simp only [q0]
     refine wpAnyH_ready (rs := [0, 9]) (by kernel_rfl) (by simp) ?_
     refine AllReadyH.cons rfl (fun K hK => ?_) (AllReadyH.cons rfl (fun K hK => ?_) AllReadyH.nil)
     ·
      go_simp
      have hS1 : Below wr9.heap.size wr9.drew (wr9.drew.alloc (.cells #[] 46)) := below_new wr9.drew _
      refine hK.out _ _ hS1 (fun hH1 => ?_)
      clear hK K
      try simp only [q0]
      refine wpAnyH_ready (rs := [4, 9]) (by kernel_rfl) (by simp) ?_
      have HO1 : OwnI (wr9.drew.alloc (.cells #[] 46)) wr9.heap.size (.slice (some ⟨wr9.heap.size, 0, none⟩) 0 0) [] := ⟨by simpa using World.ownsRow_made wr9.drew #[] 0 (Nat.le_refl _) (Nat.zero_le _) rfl, fun i hi => by cases hi⟩
      refine AllReadyH.cons rfl (fun K hK => ?_) (AllReadyH.cons rfl (fun K hK => ?_) AllReadyH.nil)
      ·
       rw [if_pos (by rfl)]
       refine wp_apI (v := .slice (some ⟨wr9.heap.size, 0, none⟩) 0 0) (J := O.take 0) (base := wr9.heap.size) (.tmp 44) (.tmp 47) rfl rfl rfl HO1 (HJ1.out _ hS1) (fun i hi => HO.out.len i (List.mem_of_mem_take hi)) hS1.size (by first | (simp; done) | (simp; omega)) (fun v2 w2 HO2 hg2 => ?_)
       have hS2 := hS1.grown hg2 hS1.size (fun q hq => (HO1.own.lt q hq).1)
       refine hK.out _ _ hS2 (fun hH2 => ?_)
       clear hK K
       try simp only [q0]
       refine wpAnyH_ready (rs := [9]) (by kernel_rfl) (by simp) ?_
       refine AllReadyH.cons rfl (fun K hK => ?_) AllReadyH.nil
       rw [if_pos (by rfl)]
       refine wp_bs1 (l := id) (x := .tmp 52) rfl rfl HXL.out ?_
       have hS3 := hS2.alloc hS2.size (.cells (idC id).toArray 46)
       have HO3' := HO2.below (below_new w2 (.cells (idC id).toArray 46))
       have HG9 := Lib.hid (heap_alloc_new w2 (.cells (idC id).toArray 46))
       refine hK.out _ _ hS3 (fun hH3 => ?_)
       clear hK K
       try simp only [q0]
       refine wpAnyH_ready (rs := [10]) (by kernel_rfl) (by simp) ?_
       refine AllReadyH.cons rfl (fun K hK => ?_) AllReadyH.nil
       rw [if_pos (by rfl)]
       refine wp_apI (v := v2) (jv := .slice (some ⟨w2.heap.size, 0, none⟩) 1 1) (J := [id]) (base := wr9.heap.size) (.tmp 48) (.tmp 53) rfl rfl rfl HO3' (one_at HG9.out HXL.out) (fun i hi => by rw [List.mem_singleton.1 hi]; exact HXL.out) hS3.size (by first | (simp; done) | (simp; omega)) (fun v5 w5 HO5 hg5 => ?_)
       have hS5 := hS3.grown hg5 hS3.size (fun q hq => (HO3'.own.lt q hq).1)
       refine hK.out _ _ hS5 (fun hH5 => ?_)
       clear hK K
       try simp only [q0]
       refine wpAnyH_ready (rs := [14]) (by kernel_rfl) (by simp) ?_
       refine AllReadyH.cons rfl (fun K hK => ?_) AllReadyH.nil
       rw [if_pos (by rfl)]
       refine wp_apI (v := v5) (J := O.drop 0) (base := wr9.heap.size) (.tmp 54) (.tmp 57) rfl rfl rfl HO5 (HJ2.out _ hS5) (fun i hi => HO.out.len i (List.mem_of_mem_drop hi)) hS5.size (by first | (simp; done) | (simp; omega)) (fun v6 w6 HO6 hg6 => ?_)
       have hS6 := hS5.grown hg6 hS5.size (fun q hq => (HO5.own.lt q hq).1)
       refine hK.out _ _ hS6 (fun hH6 => ?_)
       clear hK K
       try simp only [q0]
       refine tk (i := 15) (v := ?_) ?_ ?_
       rotate_left
       · intro w' hSw; go_simp; try rfl
       try simp only [q0]
       refine wpAnyH_done (by kernel_rfl) ?_ _
       refine NoPanic.normal ?_
       have HOF := Lib.hid HO6
       have HSF := Lib.hid hS6
       clear hS6 HO6 hS5 HO5 hg5 hg6 HG9 HJ1 HJ2
       go_wp2_with fail
       go_roundw
       case rel => exact ⟨k + 1, O.take 0 ++ id :: O.drop 0, by omega, by go_num, by show _ ≤ _; have := HOK.out; simp; omega, HUP2.out, HMM2.out, ⟨own_le0 (by have := HOF.out.own; simpa using this) (by have := HB29.out.size; omega), by have := HOF.out.len; simpa using this⟩, HB.out.trans ((HB29.out.trans (((Below.refl wr9.heap.size wr9).drew.trans HSF.out).mono HB29.out.size)).mono hbs)⟩
       case measure => simp [intOf]; omega
      ·
       rw [if_pos (by rfl)]
       refine wp_bs1 (l := id) (x := .tmp 52) rfl rfl HXL.out ?_
       have hS2 := hS1.alloc hS1.size (.cells (idC id).toArray 46)
       have HO2 := HO1.below (below_new _ (.cells (idC id).toArray 46))
       have HG8 := heap_alloc_new (wr9.drew.alloc (.cells #[] 46)) (.cells (idC id).toArray 46)
       refine hK.out _ _ hS2 (fun hH2 => ?_)
       clear hK K
       try simp only [q0]
       refine wpAnyH_ready (rs := [4]) (by kernel_rfl) (by simp) ?_
       refine AllReadyH.cons rfl (fun K hK => ?_) AllReadyH.nil
       rw [if_pos (by rfl)]
       refine wp_apI (v := .slice (some ⟨wr9.heap.size, 0, none⟩) 0 0) (J := O.take 0) (base := wr9.heap.size) (.tmp 44) (.tmp 47) rfl rfl rfl HO2 (HJ1.out _ hS2) (fun i hi => HO.out.len i (List.mem_of_mem_take hi)) hS2.size (by first | (simp; done) | (simp; omega)) (fun v3 w3 HO3' hg3 => ?_)
       have hS3 := hS2.grown hg3 hS2.size (fun q hq => (HO2.own.lt q hq).1)
       have HG9 := Lib.hid ((hg3.block (wr9.drew.alloc (.cells #[] 46)).heap.size (by simp) (by simp [Value.ownBlock])).trans HG8)
       refine hK.out _ _ hS3 (fun hH3 => ?_)
       clear hK K HG8
       try simp only [q0]
       refine wpAnyH_ready (rs := [10]) (by kernel_rfl) (by simp) ?_
       refine AllReadyH.cons rfl (fun K hK => ?_) AllReadyH.nil
       rw [if_pos (by rfl)]
       refine wp_apI (v := v3) (jv := .slice (some ⟨(wr9.drew.alloc (.cells #[] 46)).heap.size, 0, none⟩) 1 1) (J := [id]) (base := wr9.heap.size) (.tmp 48) (.tmp 53) rfl rfl rfl HO3' (one_at HG9.out HXL.out) (fun i hi => by rw [List.mem_singleton.1 hi]; exact HXL.out) hS3.size (by first | (simp; done) | (simp; omega)) (fun v5 w5 HO5 hg5 => ?_)
       have hS5 := hS3.grown hg5 hS3.size (fun q hq => (HO3'.own.lt q hq).1)
       refine hK.out _ _ hS5 (fun hH5 => ?_)
       clear hK K
       try simp only [q0]
       refine wpAnyH_ready (rs := [14]) (by kernel_rfl) (by simp) ?_
       refine AllReadyH.cons rfl (fun K hK => ?_) AllReadyH.nil
       rw [if_pos (by rfl)]
       refine wp_apI (v := v5) (J := O.drop 0) (base := wr9.heap.size) (.tmp 54) (.tmp 57) rfl rfl rfl HO5 (HJ2.out _ hS5) (fun i hi => HO.out.len i (List.mem_of_mem_drop hi)) hS5.size (by first | (simp; done) | (simp; omega)) (fun v6 w6 HO6 hg6 => ?_)
       have hS6 := hS5.grown hg6 hS5.size (fun q hq => (HO5.own.lt q hq).1)
       refine hK.out _ _ hS6 (fun hH6 => ?_)
       clear hK K
       try simp only [q0]
       refine tk (i := 15) (v := ?_) ?_ ?_
       rotate_left
       · intro w' hSw; go_simp; try rfl
       try simp only [q0]
       refine wpAnyH_done (by kernel_rfl) ?_ _
       refine NoPanic.normal ?_
       have HOF := Lib.hid HO6
       have HSF := Lib.hid hS6
       clear hS6 HO6 hS5 HO5 hg5 hg6 HG9 HJ1 HJ2
       go_wp2_with fail
       go_roundw
       case rel => exact ⟨k + 1, O.take 0 ++ id :: O.drop 0, by omega, by go_num, by show _ ≤ _; have := HOK.out; simp; omega, HUP2.out, HMM2.out, ⟨own_le0 (by have := HOF.out.own; simpa using this) (by have := HB29.out.size; omega), by have := HOF.out.len; simpa using this⟩, HB.out.trans ((HB29.out.trans (((Below.refl wr9.heap.size wr9).drew.trans HSF.out).mono HB29.out.size)).mono hbs)⟩
       case measure => simp [intOf]; omega
     ·
      rw [if_pos (by rfl)]
      refine wp_bs1 (l := id) (x := .tmp 52) rfl rfl HXL.out ?_
      have hS1 : Below wr9.heap.size wr9.drew (wr9.drew.alloc (.cells (idC id).toArray 46)) := below_new wr9.drew _
      have HG7 := heap_alloc_new wr9.drew (.cells (idC id).toArray 46)
      refine hK.out _ _ hS1 (fun hH1 => ?_)
      clear hK K
      try simp only [q0]
      refine wpAnyH_ready (rs := [0]) (by kernel_rfl) (by simp) ?_
      refine AllReadyH.cons rfl (fun K hK => ?_) AllReadyH.nil
      go_simp
      have hS2 := hS1.alloc hS1.size (.cells #[] 46)
      have HG8 : ((wr9.drew.alloc (.cells (idC id).toArray 46)).alloc (.cells #[] 46)).heap[wr9.heap.size]? = some (.cells (idC id).toArray 46 (0, 0)) := heap_alloc2_old wr9.drew _ _
      have HO2 : OwnI ((wr9.drew.alloc (.cells (idC id).toArray 46)).alloc (.cells #[] 46)) wr9.heap.size (.slice (some ⟨wr9.heap.size + 1, 0, none⟩) 0 0) [] := ⟨by have := World.ownsRow_made (wr9.drew.alloc (.cells (idC id).toArray 46)) (e := 46) (size := 32) (base := wr9.heap.size) #[] 0 (by simp) (Nat.zero_le _) rfl; simpa using this, fun i hi => by cases hi⟩
      refine hK.out _ _ hS2 (fun hH2 => ?_)
      clear hK K
      try simp only [q0]
      refine wpAnyH_ready (rs := [4]) (by kernel_rfl) (by simp) ?_
      refine AllReadyH.cons rfl (fun K hK => ?_) AllReadyH.nil
      rw [if_pos (by rfl)]
      refine wp_apI (v := .slice (some ⟨wr9.heap.size + 1, 0, none⟩) 0 0) (J := O.take 0) (base := wr9.heap.size) (.tmp 44) (.tmp 47) rfl rfl rfl HO2 (HJ1.out _ hS2) (fun i hi => HO.out.len i (List.mem_of_mem_take hi)) hS2.size (by first | (simp; done) | (simp; omega)) (fun v3 w3 HO3' hg3 => ?_)
      have hS3 := hS2.grown hg3 hS2.size (fun q hq => (HO2.own.lt q hq).1)
      have HG9 := Lib.hid ((hg3.block wr9.heap.size (by simp; omega) (by simp [Value.ownBlock])).trans HG8)
      refine hK.out _ _ hS3 (fun hH3 => ?_)
      clear hK K HG8 HG7
      try simp only [q0]
      refine wpAnyH_ready (rs := [10]) (by kernel_rfl) (by simp) ?_
      refine AllReadyH.cons rfl (fun K hK => ?_) AllReadyH.nil
      rw [if_pos (by rfl)]
      refine wp_apI (v := v3) (jv := .slice (some ⟨wr9.heap.size, 0, none⟩) 1 1) (J := [id]) (base := wr9.heap.size) (.tmp 48) (.tmp 53) rfl rfl rfl HO3' (one_at HG9.out HXL.out) (fun i hi => by rw [List.mem_singleton.1 hi]; exact HXL.out) hS3.size (by first | (simp; done) | (simp; omega)) (fun v5 w5 HO5 hg5 => ?_)
      have hS5 := hS3.grown hg5 hS3.size (fun q hq => (HO3'.own.lt q hq).1)
      refine hK.out _ _ hS5 (fun hH5 => ?_)
      clear hK K
      try simp only [q0]
      refine wpAnyH_ready (rs := [14]) (by kernel_rfl) (by simp) ?_
      refine AllReadyH.cons rfl (fun K hK => ?_) AllReadyH.nil
      rw [if_pos (by rfl)]
      refine wp_apI (v := v5) (J := O.drop 0) (base := wr9.heap.size) (.tmp 54) (.tmp 57) rfl rfl rfl HO5 (HJ2.out _ hS5) (fun i hi => HO.out.len i (List.mem_of_mem_drop hi)) hS5.size (by first | (simp; done) | (simp; omega)) (fun v6 w6 HO6 hg6 => ?_)
      have hS6 := hS5.grown hg6 hS5.size (fun q hq => (HO5.own.lt q hq).1)
      refine hK.out _ _ hS6 (fun hH6 => ?_)
      clear hK K
      try simp only [q0]
      refine tk (i := 15) (v := ?_) ?_ ?_
      rotate_left
      · intro w' hSw; go_simp; try rfl
      try simp only [q0]
      refine wpAnyH_done (by kernel_rfl) ?_ _
      refine NoPanic.normal ?_
      have HOF := Lib.hid HO6
      have HSF := Lib.hid hS6
      clear hS6 HO6 hS5 HO5 hg5 hg6 HG9 HJ1 HJ2
      go_wp2_with fail
      go_roundw
      case rel => exact ⟨k + 1, O.take 0 ++ id :: O.drop 0, by omega, by go_num, by show _ ≤ _; have := HOK.out; simp; omega, HUP2.out, HMM2.out, ⟨own_le0 (by have := HOF.out.own; simpa using this) (by have := HB29.out.size; omega), by have := HOF.out.len; simpa using this⟩, HB.out.trans ((HB29.out.trans (((Below.refl wr9.heap.size wr9).drew.trans HSF.out).mono HB29.out.size)).mono hbs)⟩
      case measure => simp [intOf]; omega
    ·
     obtain ⟨m, rfl⟩ : ∃ m, n = m + 1 := ⟨n - 1, by omega⟩
     have hm0 : (0 : Int) ≤ (m : Int) := by omega
     have hm1 : (m : Int) < (O.length : Int) := by omega
     have hmp : (0 : Int) < (m : Int) + 1 := by omega
     have hmz : ((m : Int) + 1 == 0) = false := by rw [beq_eq_false_iff_ne]; omega
     have hw0 : IntKind.i64.wrap ((m : Int) + 1 - 1) = (m : Int) := by rw [show (m : Int) + 1 - 1 = m by omega]; exact IntWalk.i64_in _ (by omega)
     have hw1 : IntKind.i64.wrap (((m + 1 : Nat) : Int) - 1) = (m : Int) := by rw [show ((m + 1 : Nat) : Int) - 1 = m by omega]; exact IntWalk.i64_in _ (by omega)
     have hw2 : IntKind.i64.wrap (m : Int) = (m : Int) := IntWalk.i64_in _ (by omega)
     have hmt : ((m : Int)).toNat = m := Int.toNat_natCast m
     obtain ⟨y, hy⟩ : ∃ y, O[m]? = some y := ⟨O[m], List.getElem?_eq_getElem (by omega)⟩
     have HYL := Lib.hid (HO.out.len y (List.mem_of_getElem? hy))
     obtain ⟨a, hae, _, hyc⟩ := HO3.out.rows.elem m (idC y) (by simp [hy])
     subst hae
     have HYC := Lib.hid (show ∀ j u, (idC y)[j]? = some u → wr3.drew.cell? ((a.add (m * 32)).add j) = some u from hyc)
     have HCD := Lib.hid (show ∀ j u, (idC id)[j]? = some u → wr3.drew.cell? ((la.add (k * 32)).add j) = some u from HC3.out)
     have HLS := Lib.hid (fun W => refless_id id y W HXL.out HYL.out)
     have HYY := Lib.hid hy
     have hoc : (m : Int) + 1 ≤ (oc : Int) := by
      rcases HO.out.own.2 with ⟨_, h0⟩ | ⟨g, c, cur, hv, _, _, h1, _⟩
      · omega
      ·
       simp only [Value.slice.injEq] at hv
       obtain ⟨_, _, rfl⟩ := hv
       omega
     have hmo : (m : Int) + 1 ≤ (O.length : Int) := by omega
     have hOc : O.length ≤ oc := by
      rcases HO.out.own.2 with ⟨_, h0⟩ | ⟨g, c, cur, hv, _, _, h1, _⟩
      · omega
      ·
       simp only [Value.slice.injEq] at hv
       obtain ⟨_, _, rfl⟩ := hv
       exact h1
     clear hy hyc hn0
     cases hlt3 : St.lt id y with
     | true =>
       rw [hlt3] at HLS
       have HG2 := Lib.hid (show ∀ (j : Nat) (x : List UInt8), m ≤ j → O[j]? = some x → St.lt id x = true from fun j x hj hx => by
        rcases Nat.lt_or_eq_of_le hj with h | h
        · exact HGT.out j x (by omega) hx
        · subst h; rw [HYY.out] at hx; injection hx with e; rw [← e]; exact hlt3)
       clear hlt3
       go_wp2_with fail
       refine rgn_tail 12 (by kernel_rfl) (by kernel_rfl) ?_
       simp only [List.take_succ_cons, List.take_zero, List.drop_succ_cons, List.drop_zero]
       repeat still_step
       (with_reducible apply still_idg (hc := HCD.out) (hl := HXL.out))
       rfl
       rfl
       kernel_rfl
       repeat still_step
       (with_reducible apply still_idg (hc := HYC.out) (hl := HYL.out))
       rfl
       rfl
       kernel_rfl
       repeat still_step
       refine wpStill_nil ?_
       go_wp2_with fail
       refine (HLS.out _).mono ?_
       rintro r w5 ⟨rfl, hb5⟩
       have hb35 : Below wr3.heap.size wr3 w5 := (Below.refl wr3.heap.size wr3).drew.trans hb5
       have HB5 := Lib.hid (HB3.out.trans (hb35.mono HB3.out.size))
       clear hb5 hb35 HLS HYC HCD
       go_wp2_with fail
       go_roundw
       case rel => exact ⟨m, by omega, by go_num, HG2.out, HB5.out⟩
       case measure => simp [intOf]
     | false =>
       rw [hlt3] at HLS
       have HLT := Lib.hid hlt3
       clear hlt3
       have hq := fun W => eq_id y id HYL.out HXL.out W
       by_cases hye : y = id
       ·
        have HIN := Lib.hid (show id ∈ O by rw [← hye]; exact List.mem_of_getElem? HYY.out)
        rw [decide_eq_true hye] at hq
        clear hye
        go_wp2_with fail
        refine rgn_tail 12 (by kernel_rfl) (by kernel_rfl) ?_
        simp only [List.take_succ_cons, List.take_zero, List.drop_succ_cons, List.drop_zero]
        repeat still_step
        (with_reducible apply still_idg (hc := HCD.out) (hl := HXL.out))
        rfl
        rfl
        kernel_rfl
        repeat still_step
        (with_reducible apply still_idg (hc := HYC.out) (hl := HYL.out))
        rfl
        rfl
        kernel_rfl
        repeat still_step
        refine wpStill_nil ?_
        go_wp2_with fail
        refine (HLS.out _).mono ?_
        rintro r w5 ⟨rfl, hb5⟩
        have hb35 : Below wr3.heap.size wr3 w5 := (Below.refl wr3.heap.size wr3).drew.trans hb5
        have HB5 := Lib.hid (HB3.out.trans (hb35.mono HB3.out.size))
        have HYC5 := Lib.hid (show ∀ j u, (idC y)[j]? = some u → w5.drew.cell? ((a.add (m * 32)).add j) = some u from fun j u hu => by
         have h1 := HYC.out j u hu
         exact (hb35.cell (World.block_lt_of_cell? _ _ (show wr3.cell? _ = some u from h1))).trans h1)
        have HCD5 := Lib.hid (show ∀ j u, (idC id)[j]? = some u → w5.drew.cell? ((la.add (k * 32)).add j) = some u from fun j u hu => by
         have h1 := HCD.out j u hu
         exact (hb35.cell (World.block_lt_of_cell? _ _ (show wr3.cell? _ = some u from h1))).trans h1)
        have HB9 := Lib.hid (show Below wr3.heap.size wr3 w5.drew from hb35.drew)
        clear hb5 hb35 HLS HYC HCD
        go_wp2_with fail
        refine rgn_still (by kernel_rfl) (by kernel_rfl) ?_
        repeat still_step
        (with_reducible apply still_idg (hc := HYC5.out) (hl := HYL.out))
        rfl
        rfl
        kernel_rfl
        repeat still_step
        (with_reducible apply still_idg (hc := HCD5.out) (hl := HXL.out))
        rfl
        rfl
        kernel_rfl
        repeat still_step
        refine wpStill_nil ?_
        generalize w5.drew = wr9 at *
        clear HYC5 HCD5
        go_wp2_with fail
        go_roundw
        case rel => exact ⟨k + 1, O, by omega, by go_num, by show _ ≤ _; have := HOK.out; omega, HUP.out, fun x => by rw [HTK.out, List.mem_append, List.mem_singleton, ← HMM.out x]; exact ⟨.inl, fun h => h.elim (fun h => h) (fun e => by rw [e]; exact HIN.out)⟩, (HO3.out.below HB9.out), HB.out.trans ((HB3.out.trans (HB9.out.mono HB3.out.size)).mono hbs)⟩
        case measure => simp [intOf]; omega
       ·
        have HUP2 := Lib.hid (Gr.up_ins (n := m + 1) HUP.out HO.out.len HXL.out hn HGT.out (.inr ⟨y, by simpa using HYY.out, hye, HLT.out⟩))
        rw [decide_eq_false hye] at hq
        clear hye
        go_wp2_with fail
        refine rgn_tail 12 (by kernel_rfl) (by kernel_rfl) ?_
        simp only [List.take_succ_cons, List.take_zero, List.drop_succ_cons, List.drop_zero]
        repeat still_step
        (with_reducible apply still_idg (hc := HCD.out) (hl := HXL.out))
        rfl
        rfl
        kernel_rfl
        repeat still_step
        (with_reducible apply still_idg (hc := HYC.out) (hl := HYL.out))
        rfl
        rfl
        kernel_rfl
        repeat still_step
        refine wpStill_nil ?_
        go_wp2_with fail
        refine (HLS.out _).mono ?_
        rintro r w5 ⟨rfl, hb5⟩
        have hb35 : Below wr3.heap.size wr3 w5 := (Below.refl wr3.heap.size wr3).drew.trans hb5
        have HB5 := Lib.hid (HB3.out.trans (hb35.mono HB3.out.size))
        have HYC5 := Lib.hid (show ∀ j u, (idC y)[j]? = some u → w5.drew.cell? ((a.add (m * 32)).add j) = some u from fun j u hu => by
         have h1 := HYC.out j u hu
         exact (hb35.cell (World.block_lt_of_cell? _ _ (show wr3.cell? _ = some u from h1))).trans h1)
        have HCD5 := Lib.hid (show ∀ j u, (idC id)[j]? = some u → w5.drew.cell? ((la.add (k * 32)).add j) = some u from fun j u hu => by
         have h1 := HCD.out j u hu
         exact (hb35.cell (World.block_lt_of_cell? _ _ (show wr3.cell? _ = some u from h1))).trans h1)
        have HB9 := Lib.hid (show Below wr3.heap.size wr3 w5.drew from hb35.drew)
        clear hb5 hb35 HLS HYC HCD
        go_wp2_with fail
        refine rgn_still (by kernel_rfl) (by kernel_rfl) ?_
        repeat still_step
        (with_reducible apply still_idg (hc := HYC5.out) (hl := HYL.out))
        rfl
        rfl
        kernel_rfl
        repeat still_step
        (with_reducible apply still_idg (hc := HCD5.out) (hl := HXL.out))
        rfl
        rfl
        kernel_rfl
        repeat still_step
        refine wpStill_nil ?_
        generalize w5.drew = wr9 at *
        clear HYC5 HCD5
        have HB29 := Lib.hid (HB3.out.trans (HB9.out.mono HB3.out.size))
        have HO9 := Lib.hid (HO3.out.below HB9.out)
        have HCA := Lib.hid (show ∀ W, Below wr9.heap.size wr9.drew W → ∀ j u, (idC id)[j]? = some u → W.cell? ((la.add (k * 32)).add j) = some u from fun W hb j u hu => by
         have h1 := (HB9.out.cell (World.block_lt_of_cell? _ _ (HC3.out j u hu))).trans (HC3.out j u hu)
         exact (hb.cell (World.block_lt_of_cell? _ _ h1)).trans h1)
        have HMM2 := Lib.hid (show ∀ x, x ∈ O.take (m + 1) ++ id :: O.drop (m + 1) ↔ x ∈ I.take (k + 1) from fun x => by rw [Gr.mem_ins x, HTK.out, HMM.out x]; simp)
        have HJ1 := Lib.hid (show ∀ W, Below wr9.heap.size wr9.drew W → IdsAt W (.slice (some a) (m + 1) oc) (O.take (m + 1)) from fun W hb => take_at (RowsAt.below (RowsAt.below HO9.out.rows (Below.refl _ _).drew) hb) hn)
        have HJ2 := Lib.hid (show ∀ W, Below wr9.heap.size wr9.drew W → IdsAt W (.slice (if oc = m + 1 then some a else some (a.add ((m + 1) * 32))) (O.length - (m + 1)) (oc - (m + 1))) (O.drop (m + 1)) from fun W hb => by
         split
         ·
          rename_i hocm
          have h0 : O.drop (m + 1) = [] := List.drop_eq_nil_of_le (by omega)
          rw [h0]
          exact ⟨.inr ⟨a, oc - (m + 1), by rw [show O.length - (m + 1) = 0 by omega]; rfl, fun i cs hi => by simp at hi⟩⟩
         · exact drop_at (RowsAt.below (RowsAt.below HO9.out.rows (Below.refl _ _).drew) hb))
        go_wp2_with fail
        refine wp_region_noPanic ?_
        refine wp_region_held_drew (S := (fun w' => Below wr9.heap.size wr9.drew w')) (by kernel_rfl) (Below.refl _ _) (fun hH => ?_)
        refine tk (i := 1) (v := ?_) ?_ ?_
        rotate_left
        · intro w' hSw; go_simp; try rfl
        try simp only [q0]
        refine tk (i := 2) (v := ?_) ?_ ?_
        rotate_left
        · intro w' hSw; go_simp; try rfl
        try simp only [q0]
        refine tk (i := 3) (v := ?_) ?_ ?_
        rotate_left
        · intro w' hSw; go_simp; try rfl
        try simp only [q0]
        refine tk (i := 5) (v := ?_) ?_ ?_
        rotate_left
        · intro w' hSw; go_simp; try rfl
        try simp only [q0]
        refine tk (i := 6) (v := ?_) ?_ ?_
        rotate_left
        · intro w' hSw; go_simp; try rfl
        try simp only [q0]
        refine tk (i := 7) (v := ?_) ?_ ?_
        rotate_left
        · intro w' hSw; go_simp; try rfl
        try simp only [q0]
        refine wpAnyH_take (i := 8) rfl (by kernel_rfl) (by kernel_rfl) (by kernel_rfl) (fun _ _ _ h => h) (yields_at (p := la.add (k * 32)) (cs := idC id) (by rfl) rfl rfl HCA.out Tryz.underlying46 rfl (idsize HXL.out)) (by assumption) ?_
        try simp only [q0]
        refine tk (i := 11) (v := ?_) ?_ ?_
        rotate_left
        · intro w' hSw; go_simp; try rfl
        try simp only [q0]
        refine tk (i := 12) (v := ?_) ?_ ?_
        rotate_left
        · intro w' hSw; go_simp; try rfl
        try simp only [q0]
        refine tk (i := 13) (v := ?_) ?_ ?_
        rotate_left
        · intro w' hSw; go_simp; try rfl
        try simp only [q0]
        refine wpAnyH_ready (rs := [0, 9]) (by kernel_rfl) (by simp) ?_
        refine AllReadyH.cons rfl (fun K hK => ?_) (AllReadyH.cons rfl (fun K hK => ?_) AllReadyH.nil)
        ·
         go_simp
         have hS1 : Below wr9.heap.size wr9.drew (wr9.drew.alloc (.cells #[] 46)) := below_new wr9.drew _
         refine hK.out _ _ hS1 (fun hH1 => ?_)
         clear hK K
         try simp only [q0]
         refine wpAnyH_ready (rs := [4, 9]) (by kernel_rfl) (by simp) ?_
         have HO1 : OwnI (wr9.drew.alloc (.cells #[] 46)) wr9.heap.size (.slice (some ⟨wr9.heap.size, 0, none⟩) 0 0) [] := ⟨by simpa using World.ownsRow_made wr9.drew #[] 0 (Nat.le_refl _) (Nat.zero_le _) rfl, fun i hi => by cases hi⟩
         refine AllReadyH.cons rfl (fun K hK => ?_) (AllReadyH.cons rfl (fun K hK => ?_) AllReadyH.nil)
         ·
          rw [if_pos (by rfl)]
          refine wp_apI (v := .slice (some ⟨wr9.heap.size, 0, none⟩) 0 0) (J := O.take (m + 1)) (base := wr9.heap.size) (.tmp 44) (.tmp 47) rfl rfl rfl HO1 (HJ1.out _ hS1) (fun i hi => HO.out.len i (List.mem_of_mem_take hi)) hS1.size (by first | (simp; done) | (simp; omega)) (fun v2 w2 HO2 hg2 => ?_)
          have hS2 := hS1.grown hg2 hS1.size (fun q hq => (HO1.own.lt q hq).1)
          refine hK.out _ _ hS2 (fun hH2 => ?_)
          clear hK K
          try simp only [q0]
          refine wpAnyH_ready (rs := [9]) (by kernel_rfl) (by simp) ?_
          refine AllReadyH.cons rfl (fun K hK => ?_) AllReadyH.nil
          rw [if_pos (by rfl)]
          refine wp_bs1 (l := id) (x := .tmp 52) rfl rfl HXL.out ?_
          have hS3 := hS2.alloc hS2.size (.cells (idC id).toArray 46)
          have HO3' := HO2.below (below_new w2 (.cells (idC id).toArray 46))
          have HG9 := Lib.hid (heap_alloc_new w2 (.cells (idC id).toArray 46))
          refine hK.out _ _ hS3 (fun hH3 => ?_)
          clear hK K
          try simp only [q0]
          refine wpAnyH_ready (rs := [10]) (by kernel_rfl) (by simp) ?_
          refine AllReadyH.cons rfl (fun K hK => ?_) AllReadyH.nil
          rw [if_pos (by rfl)]
          refine wp_apI (v := v2) (jv := .slice (some ⟨w2.heap.size, 0, none⟩) 1 1) (J := [id]) (base := wr9.heap.size) (.tmp 48) (.tmp 53) rfl rfl rfl HO3' (one_at HG9.out HXL.out) (fun i hi => by rw [List.mem_singleton.1 hi]; exact HXL.out) hS3.size (by first | (simp; done) | (simp; omega)) (fun v5 w5 HO5 hg5 => ?_)
          have hS5 := hS3.grown hg5 hS3.size (fun q hq => (HO3'.own.lt q hq).1)
          refine hK.out _ _ hS5 (fun hH5 => ?_)
          clear hK K
          try simp only [q0]
          refine wpAnyH_ready (rs := [14]) (by kernel_rfl) (by simp) ?_
          refine AllReadyH.cons rfl (fun K hK => ?_) AllReadyH.nil
          rw [if_pos (by rfl)]
          refine wp_apI (v := v5) (J := O.drop (m + 1)) (base := wr9.heap.size) (.tmp 54) (.tmp 57) rfl rfl rfl HO5 (HJ2.out _ hS5) (fun i hi => HO.out.len i (List.mem_of_mem_drop hi)) hS5.size (by first | (simp; done) | (simp; omega)) (fun v6 w6 HO6 hg6 => ?_)
          have hS6 := hS5.grown hg6 hS5.size (fun q hq => (HO5.own.lt q hq).1)
          refine hK.out _ _ hS6 (fun hH6 => ?_)
          clear hK K
          try simp only [q0]
          refine tk (i := 15) (v := ?_) ?_ ?_
          rotate_left
          · intro w' hSw; go_simp; try rfl
          try simp only [q0]
          refine wpAnyH_done (by kernel_rfl) ?_ _
          refine NoPanic.normal ?_
          have HOF := Lib.hid HO6
          have HSF := Lib.hid hS6
          clear hS6 HO6 hS5 HO5 hg5 hg6 HG9 HJ1 HJ2
          go_wp2_with fail
          go_roundw
          case rel => exact ⟨k + 1, O.take (m + 1) ++ id :: O.drop (m + 1), by omega, by go_num, by show _ ≤ _; have := HOK.out; simp; omega, HUP2.out, HMM2.out, ⟨own_le0 (by have := HOF.out.own; simpa using this) (by have := HB29.out.size; omega), by have := HOF.out.len; simpa using this⟩, HB.out.trans ((HB29.out.trans (((Below.refl wr9.heap.size wr9).drew.trans HSF.out).mono HB29.out.size)).mono hbs)⟩
          case measure => simp [intOf]; omega
         ·
          rw [if_pos (by rfl)]
          refine wp_bs1 (l := id) (x := .tmp 52) rfl rfl HXL.out ?_
          have hS2 := hS1.alloc hS1.size (.cells (idC id).toArray 46)
          have HO2 := HO1.below (below_new _ (.cells (idC id).toArray 46))
          have HG8 := heap_alloc_new (wr9.drew.alloc (.cells #[] 46)) (.cells (idC id).toArray 46)
          refine hK.out _ _ hS2 (fun hH2 => ?_)
          clear hK K
          try simp only [q0]
          refine wpAnyH_ready (rs := [4]) (by kernel_rfl) (by simp) ?_
          refine AllReadyH.cons rfl (fun K hK => ?_) AllReadyH.nil
          rw [if_pos (by rfl)]
          refine wp_apI (v := .slice (some ⟨wr9.heap.size, 0, none⟩) 0 0) (J := O.take (m + 1)) (base := wr9.heap.size) (.tmp 44) (.tmp 47) rfl rfl rfl HO2 (HJ1.out _ hS2) (fun i hi => HO.out.len i (List.mem_of_mem_take hi)) hS2.size (by first | (simp; done) | (simp; omega)) (fun v3 w3 HO3' hg3 => ?_)
          have hS3 := hS2.grown hg3 hS2.size (fun q hq => (HO2.own.lt q hq).1)
          have HG9 := Lib.hid ((hg3.block (wr9.drew.alloc (.cells #[] 46)).heap.size (by simp) (by simp [Value.ownBlock])).trans HG8)
          refine hK.out _ _ hS3 (fun hH3 => ?_)
          clear hK K HG8
          try simp only [q0]
          refine wpAnyH_ready (rs := [10]) (by kernel_rfl) (by simp) ?_
          refine AllReadyH.cons rfl (fun K hK => ?_) AllReadyH.nil
          rw [if_pos (by rfl)]
          refine wp_apI (v := v3) (jv := .slice (some ⟨(wr9.drew.alloc (.cells #[] 46)).heap.size, 0, none⟩) 1 1) (J := [id]) (base := wr9.heap.size) (.tmp 48) (.tmp 53) rfl rfl rfl HO3' (one_at HG9.out HXL.out) (fun i hi => by rw [List.mem_singleton.1 hi]; exact HXL.out) hS3.size (by first | (simp; done) | (simp; omega)) (fun v5 w5 HO5 hg5 => ?_)
          have hS5 := hS3.grown hg5 hS3.size (fun q hq => (HO3'.own.lt q hq).1)
          refine hK.out _ _ hS5 (fun hH5 => ?_)
          clear hK K
          try simp only [q0]
          refine wpAnyH_ready (rs := [14]) (by kernel_rfl) (by simp) ?_
          refine AllReadyH.cons rfl (fun K hK => ?_) AllReadyH.nil
          rw [if_pos (by rfl)]
          refine wp_apI (v := v5) (J := O.drop (m + 1)) (base := wr9.heap.size) (.tmp 54) (.tmp 57) rfl rfl rfl HO5 (HJ2.out _ hS5) (fun i hi => HO.out.len i (List.mem_of_mem_drop hi)) hS5.size (by first | (simp; done) | (simp; omega)) (fun v6 w6 HO6 hg6 => ?_)
          have hS6 := hS5.grown hg6 hS5.size (fun q hq => (HO5.own.lt q hq).1)
          refine hK.out _ _ hS6 (fun hH6 => ?_)
          clear hK K
          try simp only [q0]
          refine tk (i := 15) (v := ?_) ?_ ?_
          rotate_left
          · intro w' hSw; go_simp; try rfl
          try simp only [q0]
          refine wpAnyH_done (by kernel_rfl) ?_ _
          refine NoPanic.normal ?_
          have HOF := Lib.hid HO6
          have HSF := Lib.hid hS6
          clear hS6 HO6 hS5 HO5 hg5 hg6 HG9 HJ1 HJ2
          go_wp2_with fail
          go_roundw
          case rel => exact ⟨k + 1, O.take (m + 1) ++ id :: O.drop (m + 1), by omega, by go_num, by show _ ≤ _; have := HOK.out; simp; omega, HUP2.out, HMM2.out, ⟨own_le0 (by have := HOF.out.own; simpa using this) (by have := HB29.out.size; omega), by have := HOF.out.len; simpa using this⟩, HB.out.trans ((HB29.out.trans (((Below.refl wr9.heap.size wr9).drew.trans HSF.out).mono HB29.out.size)).mono hbs)⟩
          case measure => simp [intOf]; omega
        ·
         rw [if_pos (by rfl)]
         refine wp_bs1 (l := id) (x := .tmp 52) rfl rfl HXL.out ?_
         have hS1 : Below wr9.heap.size wr9.drew (wr9.drew.alloc (.cells (idC id).toArray 46)) := below_new wr9.drew _
         have HG7 := heap_alloc_new wr9.drew (.cells (idC id).toArray 46)
         refine hK.out _ _ hS1 (fun hH1 => ?_)
         clear hK K
         try simp only [q0]
         refine wpAnyH_ready (rs := [0]) (by kernel_rfl) (by simp) ?_
         refine AllReadyH.cons rfl (fun K hK => ?_) AllReadyH.nil
         go_simp
         have hS2 := hS1.alloc hS1.size (.cells #[] 46)
         have HG8 : ((wr9.drew.alloc (.cells (idC id).toArray 46)).alloc (.cells #[] 46)).heap[wr9.heap.size]? = some (.cells (idC id).toArray 46 (0, 0)) := heap_alloc2_old wr9.drew _ _
         have HO2 : OwnI ((wr9.drew.alloc (.cells (idC id).toArray 46)).alloc (.cells #[] 46)) wr9.heap.size (.slice (some ⟨wr9.heap.size + 1, 0, none⟩) 0 0) [] := ⟨by have := World.ownsRow_made (wr9.drew.alloc (.cells (idC id).toArray 46)) (e := 46) (size := 32) (base := wr9.heap.size) #[] 0 (by simp) (Nat.zero_le _) rfl; simpa using this, fun i hi => by cases hi⟩
         refine hK.out _ _ hS2 (fun hH2 => ?_)
         clear hK K
         try simp only [q0]
         refine wpAnyH_ready (rs := [4]) (by kernel_rfl) (by simp) ?_
         refine AllReadyH.cons rfl (fun K hK => ?_) AllReadyH.nil
         rw [if_pos (by rfl)]
         refine wp_apI (v := .slice (some ⟨wr9.heap.size + 1, 0, none⟩) 0 0) (J := O.take (m + 1)) (base := wr9.heap.size) (.tmp 44) (.tmp 47) rfl rfl rfl HO2 (HJ1.out _ hS2) (fun i hi => HO.out.len i (List.mem_of_mem_take hi)) hS2.size (by first | (simp; done) | (simp; omega)) (fun v3 w3 HO3' hg3 => ?_)
         have hS3 := hS2.grown hg3 hS2.size (fun q hq => (HO2.own.lt q hq).1)
         have HG9 := Lib.hid ((hg3.block wr9.heap.size (by simp; omega) (by simp [Value.ownBlock])).trans HG8)
         refine hK.out _ _ hS3 (fun hH3 => ?_)
         clear hK K HG8 HG7
         try simp only [q0]
         refine wpAnyH_ready (rs := [10]) (by kernel_rfl) (by simp) ?_
         refine AllReadyH.cons rfl (fun K hK => ?_) AllReadyH.nil
         rw [if_pos (by rfl)]
         refine wp_apI (v := v3) (jv := .slice (some ⟨wr9.heap.size, 0, none⟩) 1 1) (J := [id]) (base := wr9.heap.size) (.tmp 48) (.tmp 53) rfl rfl rfl HO3' (one_at HG9.out HXL.out) (fun i hi => by rw [List.mem_singleton.1 hi]; exact HXL.out) hS3.size (by first | (simp; done) | (simp; omega)) (fun v5 w5 HO5 hg5 => ?_)
         have hS5 := hS3.grown hg5 hS3.size (fun q hq => (HO3'.own.lt q hq).1)
         refine hK.out _ _ hS5 (fun hH5 => ?_)
         clear hK K
         try simp only [q0]
         refine wpAnyH_ready (rs := [14]) (by kernel_rfl) (by simp) ?_
         refine AllReadyH.cons rfl (fun K hK => ?_) AllReadyH.nil
         rw [if_pos (by rfl)]
         refine wp_apI (v := v5) (J := O.drop (m + 1)) (base := wr9.heap.size) (.tmp 54) (.tmp 57) rfl rfl rfl HO5 (HJ2.out _ hS5) (fun i hi => HO.out.len i (List.mem_of_mem_drop hi)) hS5.size (by first | (simp; done) | (simp; omega)) (fun v6 w6 HO6 hg6 => ?_)
         have hS6 := hS5.grown hg6 hS5.size (fun q hq => (HO5.own.lt q hq).1)
         refine hK.out _ _ hS6 (fun hH6 => ?_)
         clear hK K
         try simp only [q0]
         refine tk (i := 15) (v := ?_) ?_ ?_
         rotate_left
         · intro w' hSw; go_simp; try rfl
         try simp only [q0]
         refine wpAnyH_done (by kernel_rfl) ?_ _
         refine NoPanic.normal ?_
         have HOF := Lib.hid HO6
         have HSF := Lib.hid hS6
         clear hS6 HO6 hS5 HO5 hg5 hg6 HG9 HJ1 HJ2
         go_wp2_with fail
         go_roundw
         case rel => exact ⟨k + 1, O.take (m + 1) ++ id :: O.drop (m + 1), by omega, by go_num, by show _ ≤ _; have := HOK.out; simp; omega, HUP2.out, HMM2.out, ⟨own_le0 (by have := HOF.out.own; simpa using this) (by have := HB29.out.size; omega), by have := HOF.out.len; simpa using this⟩, HB.out.trans ((HB29.out.trans (((Below.refl wr9.heap.size wr9).drew.trans HSF.out).mono HB29.out.size)).mono hbs)⟩
         case measure => simp [intOf]; omega
  ·
   have hlt' : ¬ (k : Int) < (I.length : Int) := by omega
   go_wp2_with fail
   go_ret
   exact ⟨_, rfl, O, HO.out.rows, HUP.out, fun x => by rw [HMM.out x, List.take_of_length_le (by omega)], HB.out⟩
end Go.Proofs.YtkcjhkfelaplkaaGreatDoor
