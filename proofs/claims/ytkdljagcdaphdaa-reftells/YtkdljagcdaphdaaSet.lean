/-
  WALKS OF LAYER 9: a ref built; set.
-/
import Derived.Test.YtkdljagcdaphdaaRep
import Derived.Great.Walk
namespace Go.Proofs.Ytkdljagcdaphdaa
open Go.RowKit
set_option linter.unusedVariables false
set_option linter.unusedSimpArgs false

theorem len32 {l : List UInt8} (h : l.length = 32) : ∃ x0 x1 x2 x3 x4 x5 x6 x7 x8 x9 x10 x11 x12 x13 x14 x15 x16 x17 x18 x19 x20 x21 x22 x23 x24 x25 x26 x27 x28 x29 x30 x31 : UInt8, l = [x0, x1, x2, x3, x4, x5, x6, x7, x8, x9, x10, x11, x12, x13, x14, x15, x16, x17, x18, x19, x20, x21, x22, x23, x24, x25, x26, x27, x28, x29, x30, x31] := by
  rcases l with _ | ⟨x0, l⟩
  · simp at h
  rcases l with _ | ⟨x1, l⟩
  · simp at h
  rcases l with _ | ⟨x2, l⟩
  · simp at h
  rcases l with _ | ⟨x3, l⟩
  · simp at h
  rcases l with _ | ⟨x4, l⟩
  · simp at h
  rcases l with _ | ⟨x5, l⟩
  · simp at h
  rcases l with _ | ⟨x6, l⟩
  · simp at h
  rcases l with _ | ⟨x7, l⟩
  · simp at h
  rcases l with _ | ⟨x8, l⟩
  · simp at h
  rcases l with _ | ⟨x9, l⟩
  · simp at h
  rcases l with _ | ⟨x10, l⟩
  · simp at h
  rcases l with _ | ⟨x11, l⟩
  · simp at h
  rcases l with _ | ⟨x12, l⟩
  · simp at h
  rcases l with _ | ⟨x13, l⟩
  · simp at h
  rcases l with _ | ⟨x14, l⟩
  · simp at h
  rcases l with _ | ⟨x15, l⟩
  · simp at h
  rcases l with _ | ⟨x16, l⟩
  · simp at h
  rcases l with _ | ⟨x17, l⟩
  · simp at h
  rcases l with _ | ⟨x18, l⟩
  · simp at h
  rcases l with _ | ⟨x19, l⟩
  · simp at h
  rcases l with _ | ⟨x20, l⟩
  · simp at h
  rcases l with _ | ⟨x21, l⟩
  · simp at h
  rcases l with _ | ⟨x22, l⟩
  · simp at h
  rcases l with _ | ⟨x23, l⟩
  · simp at h
  rcases l with _ | ⟨x24, l⟩
  · simp at h
  rcases l with _ | ⟨x25, l⟩
  · simp at h
  rcases l with _ | ⟨x26, l⟩
  · simp at h
  rcases l with _ | ⟨x27, l⟩
  · simp at h
  rcases l with _ | ⟨x28, l⟩
  · simp at h
  rcases l with _ | ⟨x29, l⟩
  · simp at h
  rcases l with _ | ⟨x30, l⟩
  · simp at h
  rcases l with _ | ⟨x31, l⟩
  · simp at h
  rcases l with _ | ⟨y, l⟩
  · exact ⟨_, _, _, _, _, _, _, _, _, _, _, _, _, _, _, _, _, _, _, _, _, _, _, _, _, _, _, _, _, _, _, _, rfl⟩
  · simp at h

set_option maxRecDepth 100000 in
theorem built_rf (n : ByteArray) (l : List UInt8) (h : l.length = 32) : Try.prog.built 54 [(0, .string n), (1, .agg (idC l).toArray)] = some (rfC ⟨n, l⟩).toArray := by
  obtain ⟨x0, x1, x2, x3, x4, x5, x6, x7, x8, x9, x10, x11, x12, x13, x14, x15, x16, x17, x18, x19, x20, x21, x22, x23, x24, x25, x26, x27, x28, x29, x30, x31, rfl⟩ := len32 h
  kernel_rfl
set_option maxRecDepth 100000 in
theorem builtS_rf (r : Rf.R) (h : r.id.length = 32) : Try.prog.builtSlice 54 1 [(0, .agg (rfC r).toArray)] = some (rfC r).toArray := by
  obtain ⟨n, l⟩ := r
  obtain ⟨x0, x1, x2, x3, x4, x5, x6, x7, x8, x9, x10, x11, x12, x13, x14, x15, x16, x17, x18, x19, x20, x21, x22, x23, x24, x25, x26, x27, x28, x29, x30, x31, rfl⟩ := len32 h
  kernel_rfl
section
variable {ops : Array Oper} {rest : List Oper} {op : Oper} {a : Act} {w : World} {Q : Exit → Act → World → Prop} {x y : Operand}
theorem bd_rf {n : ByteArray} {l : List UInt8} (ho : op.op = .build 54 #[(0, x), (1, y)]) (hx : a.eval x = .string n) (hy : a.eval y = .agg (idC l).toArray) (hg : op.guard = none) (hl : l.length = 32)
    (h : wpList Try.prog ops Q rest (a.put op.dst (.agg (rfC ⟨n, l⟩).toArray)) w) : wpList Try.prog ops Q (op :: rest) a w :=
  wpList_build_as hg _ _ ho _ (by simp only [List.map_toArray, List.map_cons, List.map_nil, hx, hy]; exact built_rf n l hl) h
theorem bs_rf {r : Rf.R} (ho : op.op = .buildSlice 22 1 #[(0, x)]) (hx : a.eval x = .agg (rfC r).toArray) (hg : op.guard = none) (hl : r.id.length = 32)
    (h : wpList Try.prog ops Q rest (a.put op.dst (.slice (some ⟨w.heap.size, 0, none⟩) 1 1)) (w.alloc (.cells (rfC r).toArray 54))) : wpList Try.prog ops Q (op :: rest) a w :=
  Great.wpList_buildSliceTo hg _ 54 1 _ ho w.heap.size rfl op.dst rfl Try.underlying22 _ (by simp only [List.map_toArray, List.map_cons, List.map_nil, hx]; exact builtS_rf r hl) h
end

theorem bel_drewN {B : Nat} {w w' : World} (h : Below B w w') (n : Nat) : Below B w (w'.drewN n) := ⟨h.os, h.tape, h.output, h.size, h.block⟩
/-- What set leaves. -/
def SetP (L : List Rf.R) (n : ByteArray) (id : List UInt8) (base : Nat) (v : Value) (w : World) (e : Ending) (w' : World) : Prop :=
  ∃ v', e = .returned v' ∧ OwnF w' base v' (Rf.put L n id) ∧ w.grownBy w' v.ownBlock ∧ (v'.ownBlock = v.ownBlock ∨ ∃ k, v'.ownBlock = some k ∧ w.heap.size ≤ k)
theorem setP_of {L M : List Rf.R} {n : ByteArray} {id : List UInt8} {base : Nat} {v v' : Value} {w w1 w' : World} (hp : Rf.put L n id = M) (hb : Below w.heap.size w w1) (ho : OwnF w' base v' M) (hg : w1.grownBy w' v.ownBlock) (hv : v'.ownBlock = v.ownBlock ∨ v'.ownBlock = some w1.heap.size) : SetP L n id base v w (.returned v') w' := by
  refine ⟨v', rfl, by rw [hp]; exact ho, ((below_grown hb).but _).trans hg, ?_⟩
  rcases hv with h | h
  · exact .inl h
  · exact .inr ⟨_, h, hb.size⟩
theorem OwnF.below {w w' : World} {base : Nat} {v : Value} {L : List Rf.R} (h : OwnF w base v L) (hb : Below w.heap.size w w') : OwnF w' base v L := own_below h hb

set_option maxHeartbeats 2000000 in
set_option maxRecDepth 100000 in
theorem set_end (v : Value) (L : List Rf.R) (base : Nat) (n : ByteArray) (id : List UInt8) (w : World) (h : OwnF w base v L) (hid : ∀ r ∈ L, r.id.length = 32) (hl : L.length ≤ 64) (hil : id.length = 32) (hbase : base ≤ w.heap.size) (hz : id ≠ Rf.zid) (hf : Rf.fromI L n = L.length) :
    Calls Try.prog 49 #[v, .string n, .agg (idC id).toArray] w (SetP L n id base v w) := by
  have hp : Rf.put L n id = L.take L.length ++ (⟨n, id⟩ :: L.drop L.length) := by
    have ht : Rf.toI L n = L.length := by unfold Rf.toI; rw [hf, List.getElem?_eq_none (Nat.le_refl _)]
    rw [Rf.put_cut, hf, ht, Rf.one, if_neg hz]; rfl
  have HP := Lib.hid hp
  have HX := Lib.hid (show idxV (fun r => !Rf.lt r.name n) L = -1 by unfold idxV; rw [if_neg (by unfold Rf.fromI at hf; omega)])
  obtain ⟨ao, cap, hform, hcap, hc63⟩ : ∃ ao cap, v = .slice ao L.length cap ∧ L.length ≤ cap ∧ cap ≤ 9223372036854775807 := by
    rcases h.2 with ⟨h0, h1⟩ | ⟨g, cap, cur, h0, _, _, h1, h2, _⟩
    · exact ⟨none, 0, by rw [h0, h1], by omega, by omega⟩
    · exact ⟨_, cap, h0, h1, by unfold maxLen at h2; omega⟩
  subst hform
  have HO := Lib.hid h
  have HD := Lib.hid hid
  have HIL := Lib.hid hil
  have HB2 := Lib.hid (below2 w)
  have HX2 := Lib.hid (box2_cell w)
  have HN2 := Lib.hid (new2 w)
  have HIN := Lib.hid (fun W => isNone_any id W hil)
  rw [show decide (id = Rf.zid) = false by simpa using hz] at HIN
  clear h hid hil hp hf hz
  go_enter Try.func49, Try.ntmps49
  go_wp2_with fail
  refine (index_any (fun r => !Rf.lt r.name n) 54 #[.pointer (some ⟨w.heap.size, 0, none⟩)] eg54 _ L _ ((HO.out.rows HD.out).below (HB2.out _ _)) (by unfold maxLen; omega) (set1_pred n _ _ (HX2.out _ _ _))).mono ?_
  rintro r w3 ⟨rfl, hb3⟩
  have hb03 := (HB2.out _ _).trans (hb3.mono (show w.heap.size ≤ _ by simp; omega))
  have HC3 := Lib.hid ((hb3.cell (p := ⟨w.heap.size, 0, none⟩) (by simp; omega)).trans (HX2.out _ _ _))
  have HG3 := Lib.hid ((hb3.block (w.heap.size + 1) (by simp)).trans (HN2.out _ _))
  have hs3 := hb3.size
  have hs3' : w.heap.size + 1 < w3.heap.size := by simp at hs3; omega
  rw [HX.out]
  clear hs3 hb3 HN2 HX2 HB2 HX
  have g1 : decide ((L.length : Int) < (L.length : Int)) = false := by simp
  go_wp2_with fail
  go_quiet (fail)
  have hbq := bel_drewN hb03 nq
  have HCq := Lib.hid (show (w3.drewN nq).cell? ⟨w.heap.size, 0, none⟩ = some (.string n) from HC3.out)
  have HGq := Lib.hid (show (w3.drewN nq).heap[w.heap.size + 1]? = some (.cells (idC id).toArray 35) from HG3.out)
  have hsq : w.heap.size + 1 < (w3.drewN nq).heap.size := hs3'
  generalize w3.drewN nq = wq at *
  have HRq := Lib.hid (news_row HGq.out)
  go_wp2_with ((with_reducible refine ld_id (x := .tmp 5) (p := ⟨w.heap.size + 1, 0, none⟩) ?_ ?_ ?_ HRq.out HIL.out ?_); rfl; rfl; rfl)
  refine (HIN.out _).mono ?_
  rintro r w4 ⟨rfl, hb4⟩
  have hb04 := hbq.trans (hb4.mono (show w.heap.size ≤ _ by omega))
  have hs4 := hb4.size
  have c4 : w4.cell? ⟨w.heap.size, 0, none⟩ = some (.string n) := (hb4.cell (p := ⟨w.heap.size, 0, none⟩) (by show w.heap.size < _; omega)).trans HCq.out
  have HR4 := Lib.hid (news_row ((hb4.block (w.heap.size + 1) (by omega)).trans HGq.out))
  clear hb4
  go_wp2_with (first
    | ((with_reducible refine ld_id (x := .tmp 5) (p := ⟨w.heap.size + 1, 0, none⟩) ?_ ?_ ?_ HR4.out HIL.out ?_); rfl; rfl; rfl)
    | ((with_reducible refine bd_rf (n := n) (x := .tmp 41) (y := .tmp 42) ?_ ?_ ?_ ?_ HIL.out ?_); rfl; rfl; rfl; rfl)
    | ((with_reducible refine bs_rf (r := ⟨n, id⟩) (x := .tmp 43) ?_ ?_ ?_ HIL.out ?_); rfl; rfl; rfl))
  have hb05 := hb04.alloc hb04.size (.cells (rfC ⟨n, id⟩).toArray 54)
  have hne : ∀ v0 : Value, OwnF w base v0 L → v0.ownBlock ≠ some w4.heap.size := fun v0 h0 e => by
    have := (h0.lt _ e).2
    omega
  refine (replace_ins _ L base w4.heap.size L.length ⟨n, id⟩ _ (HO.out.below hb05) HD.out (heap_alloc_new _ _) (hne _ HO.out) HIL.out (Nat.le_refl _) hl (by simp; omega)).mono ?_
  rintro r w6 ⟨v', rfl, ho6, hg6, hv6⟩
  have HQ := Lib.hid (setP_of HP.out hb05 ho6 hg6 hv6)
  clear ho6 hg6 hv6
  go_wp2_with fail
  go_ret
  exact HQ.out

set_option maxHeartbeats 2000000 in
set_option maxRecDepth 100000 in
theorem set_ins (v : Value) (L : List Rf.R) (base : Nat) (n : ByteArray) (id : List UInt8) (w : World) (h : OwnF w base v L) (hid : ∀ r ∈ L, r.id.length = 32) (hl : L.length ≤ 64) (hil : id.length = 32) (hbase : base ≤ w.heap.size) (f : Nat) (hz : id ≠ Rf.zid) (hf : L.findIdx (fun r => !Rf.lt r.name n) = f ∧ f < L.length) (hnn : ∀ e, L[f]? = some e → e.name ≠ n) :
    Calls Try.prog 49 #[v, .string n, .agg (idC id).toArray] w (SetP L n id base v w) := by
  obtain ⟨hff, hil0⟩ : L.findIdx (fun r => !Rf.lt r.name n) = f ∧ f < L.length := ⟨hf.1, hf.2⟩
  obtain ⟨e, he⟩ : ∃ e, L[f]? = some e := ⟨L[f], List.getElem?_eq_getElem hil0⟩
  have HX := Lib.hid (show idxV (fun r => !Rf.lt r.name n) L = (f : Int) by unfold idxV; rw [hff, if_pos hil0])
  have HE := Lib.hid he
  have HQE := Lib.hid (Rf.beq_iff e.name n)
  have hff' : Rf.fromI L n = f := hff
  have hp : Rf.put L n id = L.take f ++ (⟨n, id⟩ :: L.drop f) := by
    have ht : Rf.toI L n = f := by unfold Rf.toI; rw [hff', he]; simp only []; rw [if_neg (hnn e he)]
    rw [Rf.put_cut, hff', ht, Rf.one, if_neg hz]; rfl
  have HP := Lib.hid hp
  have HNE := Lib.hid (hnn e he)
  clear hff hff' he hnn
  obtain ⟨ao, cap, hform, hcap, hc63⟩ : ∃ ao cap, v = .slice ao L.length cap ∧ L.length ≤ cap ∧ cap ≤ 9223372036854775807 := by
    rcases h.2 with ⟨h0, h1⟩ | ⟨g, cap, cur, h0, _, _, h1, h2, _⟩
    · exact ⟨none, 0, by rw [h0, h1], by omega, by omega⟩
    · exact ⟨_, cap, h0, h1, by unfold maxLen at h2; omega⟩
  subst hform
  have HO := Lib.hid h
  have HD := Lib.hid hid
  have HIL := Lib.hid hil
  have HB2 := Lib.hid (below2 w)
  have HX2 := Lib.hid (box2_cell w)
  have HN2 := Lib.hid (new2 w)
  have HIN := Lib.hid (fun W => isNone_any id W hil)
  rw [show decide (id = Rf.zid) = false by simpa using hz] at HIN
  clear h hid hil hp hf hz
  go_enter Try.func49, Try.ntmps49
  go_wp2_with fail
  refine (index_any (fun r => !Rf.lt r.name n) 54 #[.pointer (some ⟨w.heap.size, 0, none⟩)] eg54 _ L _ ((HO.out.rows HD.out).below (HB2.out _ _)) (by unfold maxLen; omega) (set1_pred n _ _ (HX2.out _ _ _))).mono ?_
  rintro r w3 ⟨rfl, hb3⟩
  have hb03 := (HB2.out _ _).trans (hb3.mono (show w.heap.size ≤ _ by simp; omega))
  have HC3 := Lib.hid ((hb3.cell (p := ⟨w.heap.size, 0, none⟩) (by simp; omega)).trans (HX2.out _ _ _))
  have HG3 := Lib.hid ((hb3.block (w.heap.size + 1) (by simp)).trans (HN2.out _ _))
  have hs3 := hb3.size
  have hs3' : w.heap.size + 1 < w3.heap.size := by simp at hs3; omega
  rw [HX.out]
  clear hs3 hb3 HN2 HX2 HB2 HX
  obtain ⟨a, rfl, ce⟩ := ((HO.out.rows HD.out).below hb03).name f e HE.out
  have hq1 := HQE.out
  rw [show decide (e.name = n) = false by simpa using HNE.out] at hq1
  have cn := HC3.out
  have g1 : decide ((f : Int) < (L.length : Int)) = true := by simp; omega
  have g2 : decide (f < L.length) = true := by simp; omega
  have g3 : (f : Int) < (L.length : Int) := by omega
  have g4 : (0 : Int) ≤ (f : Int) := by omega
  have g5 : ¬ (f : Int) < 0 := by omega
  clear HE HQE
  go_wp2_with fail
  go_quiet (fail)
  have hbq := bel_drewN hb03 nq
  have HCq := Lib.hid (show (w3.drewN nq).cell? ⟨w.heap.size, 0, none⟩ = some (.string n) from HC3.out)
  have HGq := Lib.hid (show (w3.drewN nq).heap[w.heap.size + 1]? = some (.cells (idC id).toArray 35) from HG3.out)
  have hsq : w.heap.size + 1 < (w3.drewN nq).heap.size := hs3'
  generalize w3.drewN nq = wq at *
  have HRq := Lib.hid (news_row HGq.out)
  go_wp2_with ((with_reducible refine ld_id (x := .tmp 5) (p := ⟨w.heap.size + 1, 0, none⟩) ?_ ?_ ?_ HRq.out HIL.out ?_); rfl; rfl; rfl)
  refine (HIN.out _).mono ?_
  rintro r w4 ⟨rfl, hb4⟩
  have hb04 := hbq.trans (hb4.mono (show w.heap.size ≤ _ by omega))
  have hs4 := hb4.size
  have c4 : w4.cell? ⟨w.heap.size, 0, none⟩ = some (.string n) := (hb4.cell (p := ⟨w.heap.size, 0, none⟩) (by show w.heap.size < _; omega)).trans HCq.out
  have HR4 := Lib.hid (news_row ((hb4.block (w.heap.size + 1) (by omega)).trans HGq.out))
  clear hb4
  go_wp2_with (first
    | ((with_reducible refine ld_id (x := .tmp 5) (p := ⟨w.heap.size + 1, 0, none⟩) ?_ ?_ ?_ HR4.out HIL.out ?_); rfl; rfl; rfl)
    | ((with_reducible refine bd_rf (n := n) (x := .tmp 41) (y := .tmp 42) ?_ ?_ ?_ ?_ HIL.out ?_); rfl; rfl; rfl; rfl)
    | ((with_reducible refine bs_rf (r := ⟨n, id⟩) (x := .tmp 43) ?_ ?_ ?_ HIL.out ?_); rfl; rfl; rfl))
  have hb05 := hb04.alloc hb04.size (.cells (rfC ⟨n, id⟩).toArray 54)
  have hne : ∀ v0 : Value, OwnF w base v0 L → v0.ownBlock ≠ some w4.heap.size := fun v0 h0 e => by
    have := (h0.lt _ e).2
    omega
  refine (replace_ins _ L base w4.heap.size f ⟨n, id⟩ _ (HO.out.below hb05) HD.out (heap_alloc_new _ _) (hne _ HO.out) HIL.out (by omega) hl (by simp; omega)).mono ?_
  rintro r w6 ⟨v', rfl, ho6, hg6, hv6⟩
  have HQ := Lib.hid (setP_of HP.out hb05 ho6 hg6 hv6)
  clear ho6 hg6 hv6
  go_wp2_with fail
  go_ret
  exact HQ.out

set_option maxHeartbeats 2000000 in
set_option maxRecDepth 100000 in
theorem set_rep (v : Value) (L : List Rf.R) (base : Nat) (n : ByteArray) (id : List UInt8) (w : World) (h : OwnF w base v L) (hid : ∀ r ∈ L, r.id.length = 32) (hl : L.length ≤ 64) (hil : id.length = 32) (hbase : base ≤ w.heap.size) (f : Nat) (hz : id ≠ Rf.zid) (hf : L.findIdx (fun r => !Rf.lt r.name n) = f ∧ f < L.length) (hnn : ∀ e, L[f]? = some e → e.name = n) :
    Calls Try.prog 49 #[v, .string n, .agg (idC id).toArray] w (SetP L n id base v w) := by
  obtain ⟨hff, hil0⟩ : L.findIdx (fun r => !Rf.lt r.name n) = f ∧ f < L.length := ⟨hf.1, hf.2⟩
  obtain ⟨e, he⟩ : ∃ e, L[f]? = some e := ⟨L[f], List.getElem?_eq_getElem hil0⟩
  have HX := Lib.hid (show idxV (fun r => !Rf.lt r.name n) L = (f : Int) by unfold idxV; rw [hff, if_pos hil0])
  have HE := Lib.hid he
  have HQE := Lib.hid (Rf.beq_iff e.name n)
  have hff' : Rf.fromI L n = f := hff
  have hp : Rf.put L n id = L.take f ++ (⟨n, id⟩ :: L.drop (f + 1)) := by
    have ht : Rf.toI L n = f + 1 := by unfold Rf.toI; rw [hff', he]; simp only []; rw [if_pos (hnn e he)]
    rw [Rf.put_cut, hff', ht, Rf.one, if_neg hz]; rfl
  have HP := Lib.hid hp
  have HNE := Lib.hid (hnn e he)
  clear hff hff' he hnn
  obtain ⟨ao, cap, hform, hcap, hc63⟩ : ∃ ao cap, v = .slice ao L.length cap ∧ L.length ≤ cap ∧ cap ≤ 9223372036854775807 := by
    rcases h.2 with ⟨h0, h1⟩ | ⟨g, cap, cur, h0, _, _, h1, h2, _⟩
    · exact ⟨none, 0, by rw [h0, h1], by omega, by omega⟩
    · exact ⟨_, cap, h0, h1, by unfold maxLen at h2; omega⟩
  subst hform
  have HO := Lib.hid h
  have HD := Lib.hid hid
  have HIL := Lib.hid hil
  have HB2 := Lib.hid (below2 w)
  have HX2 := Lib.hid (box2_cell w)
  have HN2 := Lib.hid (new2 w)
  have HIN := Lib.hid (fun W => isNone_any id W hil)
  rw [show decide (id = Rf.zid) = false by simpa using hz] at HIN
  clear h hid hil hp hf hz
  go_enter Try.func49, Try.ntmps49
  go_wp2_with fail
  refine (index_any (fun r => !Rf.lt r.name n) 54 #[.pointer (some ⟨w.heap.size, 0, none⟩)] eg54 _ L _ ((HO.out.rows HD.out).below (HB2.out _ _)) (by unfold maxLen; omega) (set1_pred n _ _ (HX2.out _ _ _))).mono ?_
  rintro r w3 ⟨rfl, hb3⟩
  have hb03 := (HB2.out _ _).trans (hb3.mono (show w.heap.size ≤ _ by simp; omega))
  have HC3 := Lib.hid ((hb3.cell (p := ⟨w.heap.size, 0, none⟩) (by simp; omega)).trans (HX2.out _ _ _))
  have HG3 := Lib.hid ((hb3.block (w.heap.size + 1) (by simp)).trans (HN2.out _ _))
  have hs3 := hb3.size
  have hs3' : w.heap.size + 1 < w3.heap.size := by simp at hs3; omega
  rw [HX.out]
  clear hs3 hb3 HN2 HX2 HB2 HX
  obtain ⟨a, rfl, ce⟩ := ((HO.out.rows HD.out).below hb03).name f e HE.out
  have hq1 := HQE.out
  rw [show decide (e.name = n) = true by simpa using HNE.out] at hq1
  have cn := HC3.out
  have g1 : decide ((f : Int) < (L.length : Int)) = true := by simp; omega
  have g2 : decide (f < L.length) = true := by simp; omega
  have g3 : (f : Int) < (L.length : Int) := by omega
  have g4 : (0 : Int) ≤ (f : Int) := by omega
  have g5 : ¬ (f : Int) < 0 := by omega
  clear HE HQE
  go_wp2_with fail
  go_quiet (fail)
  have hbq := bel_drewN hb03 nq
  have HCq := Lib.hid (show (w3.drewN nq).cell? ⟨w.heap.size, 0, none⟩ = some (.string n) from HC3.out)
  have HGq := Lib.hid (show (w3.drewN nq).heap[w.heap.size + 1]? = some (.cells (idC id).toArray 35) from HG3.out)
  have hsq : w.heap.size + 1 < (w3.drewN nq).heap.size := hs3'
  generalize w3.drewN nq = wq at *
  have HRq := Lib.hid (news_row HGq.out)
  go_wp2_with ((with_reducible refine ld_id (x := .tmp 5) (p := ⟨w.heap.size + 1, 0, none⟩) ?_ ?_ ?_ HRq.out HIL.out ?_); rfl; rfl; rfl)
  refine (HIN.out _).mono ?_
  rintro r w4 ⟨rfl, hb4⟩
  have hb04 := hbq.trans (hb4.mono (show w.heap.size ≤ _ by omega))
  have hs4 := hb4.size
  have c4 : w4.cell? ⟨w.heap.size, 0, none⟩ = some (.string n) := (hb4.cell (p := ⟨w.heap.size, 0, none⟩) (by show w.heap.size < _; omega)).trans HCq.out
  have HR4 := Lib.hid (news_row ((hb4.block (w.heap.size + 1) (by omega)).trans HGq.out))
  clear hb4
  go_wp2_with (first
    | ((with_reducible refine ld_id (x := .tmp 5) (p := ⟨w.heap.size + 1, 0, none⟩) ?_ ?_ ?_ HR4.out HIL.out ?_); rfl; rfl; rfl)
    | ((with_reducible refine bd_rf (n := n) (x := .tmp 41) (y := .tmp 42) ?_ ?_ ?_ ?_ HIL.out ?_); rfl; rfl; rfl; rfl)
    | ((with_reducible refine bs_rf (r := ⟨n, id⟩) (x := .tmp 43) ?_ ?_ ?_ HIL.out ?_); rfl; rfl; rfl))
  have hb05 := hb04.alloc hb04.size (.cells (rfC ⟨n, id⟩).toArray 54)
  have hne : ∀ v0 : Value, OwnF w base v0 L → v0.ownBlock ≠ some w4.heap.size := fun v0 h0 e => by
    have := (h0.lt _ e).2
    omega
  refine (replace_own _ L base w4.heap.size f ⟨n, id⟩ _ (HO.out.below hb05) HD.out (heap_alloc_new _ _) (hne _ HO.out) HIL.out hil0).mono ?_
  rintro r w6 ⟨v', rfl, ho6, hg6, hv6⟩
  have HQ := Lib.hid (setP_of HP.out hb05 ho6 hg6 hv6)
  clear ho6 hg6 hv6
  go_wp2_with fail
  go_ret
  exact HQ.out

set_option maxHeartbeats 2000000 in
set_option maxRecDepth 100000 in
theorem set_del (v : Value) (L : List Rf.R) (base : Nat) (n : ByteArray) (id : List UInt8) (w : World) (h : OwnF w base v L) (hid : ∀ r ∈ L, r.id.length = 32) (hl : L.length ≤ 64) (hil : id.length = 32) (hbase : base ≤ w.heap.size) (f : Nat) (hz : id = Rf.zid) (hf : L.findIdx (fun r => !Rf.lt r.name n) = f ∧ f < L.length) (hnn : ∀ e, L[f]? = some e → e.name = n) :
    Calls Try.prog 49 #[v, .string n, .agg (idC id).toArray] w (SetP L n id base v w) := by
  obtain ⟨hff, hil0⟩ : L.findIdx (fun r => !Rf.lt r.name n) = f ∧ f < L.length := ⟨hf.1, hf.2⟩
  obtain ⟨e, he⟩ : ∃ e, L[f]? = some e := ⟨L[f], List.getElem?_eq_getElem hil0⟩
  have HX := Lib.hid (show idxV (fun r => !Rf.lt r.name n) L = (f : Int) by unfold idxV; rw [hff, if_pos hil0])
  have HE := Lib.hid he
  have HQE := Lib.hid (Rf.beq_iff e.name n)
  have hff' : Rf.fromI L n = f := hff
  have hp : Rf.put L n id = L.take f ++ L.drop (f + 1) := by
    have ht : Rf.toI L n = f + 1 := by unfold Rf.toI; rw [hff', he]; simp only []; rw [if_pos (hnn e he)]
    rw [Rf.put_cut, hff', ht, Rf.one, if_pos hz]; rfl
  have HP := Lib.hid hp
  have HNE := Lib.hid (hnn e he)
  clear hff hff' he hnn
  obtain ⟨ao, cap, hform, hcap, hc63⟩ : ∃ ao cap, v = .slice ao L.length cap ∧ L.length ≤ cap ∧ cap ≤ 9223372036854775807 := by
    rcases h.2 with ⟨h0, h1⟩ | ⟨g, cap, cur, h0, _, _, h1, h2, _⟩
    · exact ⟨none, 0, by rw [h0, h1], by omega, by omega⟩
    · exact ⟨_, cap, h0, h1, by unfold maxLen at h2; omega⟩
  subst hform
  have HO := Lib.hid h
  have HD := Lib.hid hid
  have HIL := Lib.hid hil
  have HB2 := Lib.hid (below2 w)
  have HX2 := Lib.hid (box2_cell w)
  have HN2 := Lib.hid (new2 w)
  have HIN := Lib.hid (fun W => isNone_any id W hil)
  rw [show decide (id = Rf.zid) = true by simpa using hz] at HIN
  clear h hid hil hp hf hz
  go_enter Try.func49, Try.ntmps49
  go_wp2_with fail
  refine (index_any (fun r => !Rf.lt r.name n) 54 #[.pointer (some ⟨w.heap.size, 0, none⟩)] eg54 _ L _ ((HO.out.rows HD.out).below (HB2.out _ _)) (by unfold maxLen; omega) (set1_pred n _ _ (HX2.out _ _ _))).mono ?_
  rintro r w3 ⟨rfl, hb3⟩
  have hb03 := (HB2.out _ _).trans (hb3.mono (show w.heap.size ≤ _ by simp; omega))
  have HC3 := Lib.hid ((hb3.cell (p := ⟨w.heap.size, 0, none⟩) (by simp; omega)).trans (HX2.out _ _ _))
  have HG3 := Lib.hid ((hb3.block (w.heap.size + 1) (by simp)).trans (HN2.out _ _))
  have hs3 := hb3.size
  have hs3' : w.heap.size + 1 < w3.heap.size := by simp at hs3; omega
  rw [HX.out]
  clear hs3 hb3 HN2 HX2 HB2 HX
  obtain ⟨a, rfl, ce⟩ := ((HO.out.rows HD.out).below hb03).name f e HE.out
  have hq1 := HQE.out
  rw [show decide (e.name = n) = true by simpa using HNE.out] at hq1
  have cn := HC3.out
  have g1 : decide ((f : Int) < (L.length : Int)) = true := by simp; omega
  have g2 : decide (f < L.length) = true := by simp; omega
  have g3 : (f : Int) < (L.length : Int) := by omega
  have g4 : (0 : Int) ≤ (f : Int) := by omega
  have g5 : ¬ (f : Int) < 0 := by omega
  clear HE HQE
  go_wp2_with fail
  go_quiet (fail)
  have hbq := bel_drewN hb03 nq
  have HCq := Lib.hid (show (w3.drewN nq).cell? ⟨w.heap.size, 0, none⟩ = some (.string n) from HC3.out)
  have HGq := Lib.hid (show (w3.drewN nq).heap[w.heap.size + 1]? = some (.cells (idC id).toArray 35) from HG3.out)
  have hsq : w.heap.size + 1 < (w3.drewN nq).heap.size := hs3'
  generalize w3.drewN nq = wq at *
  have HRq := Lib.hid (news_row HGq.out)
  go_wp2_with ((with_reducible refine ld_id (x := .tmp 5) (p := ⟨w.heap.size + 1, 0, none⟩) ?_ ?_ ?_ HRq.out HIL.out ?_); rfl; rfl; rfl)
  refine (HIN.out _).mono ?_
  rintro r w4 ⟨rfl, hb4⟩
  have hb04 := hbq.trans (hb4.mono (show w.heap.size ≤ _ by omega))
  have hs4 := hb4.size
  clear hb4
  go_wp2_with fail
  refine (delete_own _ L base f _ (HO.out.below hb04) HD.out hil0).mono ?_
  rintro r w6 ⟨v', rfl, ho6, hg6, hv6⟩
  have HQ := Lib.hid (setP_of HP.out hb04 ho6 hg6 (.inl hv6))
  clear ho6 hg6 hv6
  go_wp2_with fail
  go_ret
  exact HQ.out

theorem set_any (v : Value) (L : List Rf.R) (base : Nat) (n : ByteArray) (id : List UInt8) (w : World) (h : OwnF w base v L) (hid : ∀ r ∈ L, r.id.length = 32) (hl : L.length ≤ 64) (hil : id.length = 32) (hbase : base ≤ w.heap.size) (hs : Rf.Srt L) (hz : id = Rf.zid → Rf.find L n ≠ none) :
    Calls Try.prog 49 #[v, .string n, .agg (idC id).toArray] w (SetP L n id base v w) := by
  have hff : ∀ e, L[L.findIdx (fun r => !Rf.lt r.name n)]? = some e → (∃ r ∈ L, r.name = n) → e.name = n := by
    rintro e he ⟨r, hr, hrn⟩
    obtain ⟨i, hi⟩ := List.getElem?_of_mem hr
    obtain ⟨hil', hie⟩ := List.getElem?_eq_some_iff.1 hi
    obtain ⟨hfl, hfe⟩ := List.getElem?_eq_some_iff.1 he
    obtain ⟨h1, h2⟩ := (List.findIdx_eq hfl).1 rfl
    have hnl : Rf.lt e.name n = false := by rw [hfe] at h1; simpa using h1
    rcases Nat.lt_trichotomy i (L.findIdx (fun r => !Rf.lt r.name n)) with hlt | heq | hgt
    · have := h2 i hlt
      rw [hie, hrn, Rf.lt_irrefl] at this; simp at this
    · rw [← heq, hi] at he; cases he; exact hrn
    · have hp := List.pairwise_iff_getElem.1 hs _ _ hfl hil' hgt
      rw [hie, hfe, hrn] at hp
      rw [hp] at hnl; cases hnl
  by_cases hfl : L.findIdx (fun r => !Rf.lt r.name n) < L.length
  · by_cases hex : ∃ r ∈ L, r.name = n
    · by_cases hz0 : id = Rf.zid
      · exact set_del v L base n id w h hid hl hil hbase _ hz0 ⟨rfl, hfl⟩ (fun e he => hff e he hex)
      · exact set_rep v L base n id w h hid hl hil hbase _ hz0 ⟨rfl, hfl⟩ (fun e he => hff e he hex)
    · have hz0 : id ≠ Rf.zid := fun e => hz e (Rf.find_none.2 (fun r hr e => hex ⟨r, hr, e⟩))
      exact set_ins v L base n id w h hid hl hil hbase _ hz0 ⟨rfl, hfl⟩ (fun e he hn => hex ⟨e, List.mem_of_getElem? he, hn⟩)
  · have hle : L.findIdx (fun r => !Rf.lt r.name n) ≤ L.length := List.findIdx_le_length
    have hnex : ¬ ∃ r ∈ L, r.name = n := fun ⟨r, hr, hn⟩ => hfl (List.findIdx_lt_length_of_exists ⟨r, hr, by rw [hn, Rf.lt_irrefl]; rfl⟩)
    have hz0 : id ≠ Rf.zid := fun e => hz e (Rf.find_none.2 (fun r hr e => hnex ⟨r, hr, e⟩))
    exact set_end v L base n id w h hid hl hil hbase hz0 (by unfold Rf.fromI; omega)

end Go.Proofs.Ytkdljagcdaphdaa
