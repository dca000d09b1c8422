/-
  WALKS OF LAYER 11: keep: an item is inserted at its place; what is under an id already remains.
-/
import Derived.Test.YtipigedopmgemaaDoorStPlace2
import Derived.Test.YtipigedopmgemaaDoorLc
namespace Go.Proofs.YtipigedopmgemaaDoor
open Go.RowKit
set_option linter.unusedVariables false
set_option linter.unusedSimpArgs false

theorem built_it (l : List UInt8) (t : ByteArray) (h : l.length = 32) : Tryd.prog.built 70 [(0, .agg (idC l).toArray), (1, .string t)] = some (itC ⟨l, t⟩).toArray := by
  obtain ⟨x0, x1, x2, x3, x4, x5, x6, x7, x8, x9, x10, x11, x12, x13, x14, x15, x16, x17, x18, x19, x20, x21, x22, x23, x24, x25, x26, x27, x28, x29, x30, x31, rfl⟩ := len32 h
  kernel_rfl
theorem builtS_it (r : St.It) (h : r.id.length = 32) : Tryd.prog.builtSlice 70 1 [(0, .agg (itC r).toArray)] = some (itC r).toArray := by
  obtain ⟨l, t⟩ := r
  obtain ⟨x0, x1, x2, x3, x4, x5, x6, x7, x8, x9, x10, x11, x12, x13, x14, x15, x16, x17, x18, x19, x20, x21, x22, x23, x24, x25, x26, x27, x28, x29, x30, x31, rfl⟩ := len32 h
  kernel_rfl
theorem bs_it {ops : Array Oper} {rest : List Oper} {op : Oper} {a : Act} {w : World} {Q : Exit → Act → World → Prop} {x : Operand} {r : St.It} (ho : op.op = .buildSlice 63 1 #[(0, x)]) (hx : a.eval x = .agg (itC r).toArray) (hg : op.guard = none) (hl : r.id.length = 32)
    (h : wpList Tryd.prog ops Q rest (a.put op.dst (.slice (some ⟨w.heap.size, 0, none⟩) 1 1)) (w.alloc (.cells (itC r).toArray 70))) : wpList Tryd.prog ops Q (op :: rest) a w :=
  Great.wpList_buildSliceTo hg _ 70 1 _ ho w.heap.size rfl op.dst rfl Tryd.underlying63 _ (by simp only [List.map_toArray, List.map_cons, List.map_nil, hx]; exact builtS_it r hl) h

theorem wp_bs_it {o : Oper} {a : Act} {w : World} {K : Act → World → Prop} {Q : Exit → Act → World → Prop} {r : St.It} (x : Operand) (ho : o.op = .buildSlice 63 1 #[(0, x)]) (hx : a.eval x = .agg (itC r).toArray) (hl : r.id.length = 32)
    (h : K (a.put o.dst (.slice (some ⟨w.heap.size, 0, none⟩) 1 1)) (w.alloc (.cells (itC r).toArray 70))) : o.wp Tryd.prog a w K Q := by
  have hf := builtS_it r hl
  unfold Program.builtSlice at hf
  cases hie : Tryd.prog.info? 70 with
  | none => simp [hie] at hf
  | some ie =>
    simp only [hie] at hf
    cases hz : ie.zero with
    | none => simp [hz] at hf
    | some z =>
      simp only [hz] at hf
      by_cases hc : 1 * ie.size > 2 ^ 24 ∨ 1 * ie.size = 0
      · rw [if_pos hc] at hf; cases hf
      · rw [if_neg hc] at hf
        exact wp_buildSlice 63 70 1 #[(0, x)] ho (itC r).toArray ie z Tryd.underlying63 hie hz (fun h' => hc (Or.inl h')) (fun h' => hc (Or.inr h')) (by simp only [List.map_toArray, List.map_cons, List.map_nil, hx]; exact hf) h

/-- What a call that works on one store leaves as it was: all but its block and its row. -/
structure Kept (w w' : World) (b : Nat) (v : Value) : Prop where
  os : w'.os = w.os
  tape : w'.tape = w.tape
  output : w'.output = w.output
  size : w.heap.size ≤ w'.heap.size
  block : ∀ k, k < w.heap.size → k ≠ b → some k ≠ v.ownBlock → w'.heap[k]? = w.heap[k]?
theorem Kept.of_below {w w' : World} (h : Below w.heap.size w w') (b : Nat) (v : Value) : Kept w w' b v := ⟨h.os, h.tape, h.output, h.size, fun k hk _ _ => h.block k hk⟩
theorem Kept.after {w w1 w' : World} {b : Nat} {v : Value} (h : Below w.heap.size w w1) (k : Kept w1 w' b v) : Kept w w' b v :=
  ⟨k.os.trans h.os, k.tape.trans h.tape, k.output.trans h.output, Nat.le_trans h.size k.size, fun i hi h1 h2 => (k.block i (Nat.lt_of_lt_of_le hi h.size) h1 h2).trans (h.block i hi)⟩
theorem Kept.below {w w' : World} {base b : Nat} {v : Value} {L : List St.It} (k : Kept w w' b v) (h : PSt w base b v L) : Below base w w' := by
  refine ⟨k.os, k.tape, k.output, k.size, fun i hi => ?_⟩
  have hb := h.ge
  have hlt := h.lt
  refine k.block i (by omega) (by omega) (fun e => ?_)
  have := (h.own.lt i e.symm).1
  omega
theorem own_kept {w w' : World} {B e k n : Nat} {v : Value} {xs : List Value} (h : w.ownsRow B e k v n xs) (hk : ∀ g, v.ownBlock = some g → w'.heap[g]? = w.heap[g]?) : w'.ownsRow B e k v n xs := by
  refine ⟨h.1, h.2.imp id ?_⟩
  rintro ⟨g, cap, cur, hv, hg, hh, hrest⟩
  exact ⟨g, cap, cur, hv, hg, (hk g (by rw [hv]; rfl)).trans hh, hrest⟩
theorem own_box {w : World} {base e k n b t : Nat} {v : Value} {xs : List Value} {cs : Array Value} (h : w.ownsRow base e k v n xs) (hb : w.heap[b]? = some (.cells cs t)) (ht : t ≠ e) : some b ≠ v.ownBlock := by
  rcases h.2 with ⟨rfl, _⟩ | ⟨g, cap, cur, rfl, _, hh, _⟩
  · simp [Value.ownBlock]
  · intro e1
    simp only [Value.ownBlock, Option.some.injEq] at e1
    subst e1
    rw [hh] at hb
    simp at hb
    exact ht hb.2.symm
theorem own_shape {w : World} {base e k n : Nat} {v : Value} {xs : List Value} (h : w.ownsRow base e k v n xs) : ∃ ao cap, v = .slice ao n cap := by
  rcases h.2 with ⟨rfl, rfl⟩ | ⟨g, cap, cur, rfl, _⟩
  · exact ⟨none, 0, rfl⟩
  · exact ⟨_, cap, rfl⟩
/-- What keep leaves. -/
def KeepP (w : World) (base b : Nat) (v : Value) (L : List St.It) (x : St.It) (r : Ending) (w' : World) : Prop :=
  r = .returned (.tuple #[]) ∧ ∃ v', PSt w' base b v' (St.put L x) ∧ Kept w w' b v ∧ (v'.ownBlock = v.ownBlock ∨ ∃ g, v'.ownBlock = some g ∧ w.heap.size ≤ g)
/-- The box of the item. -/
structure BxI (W : World) (g : Nat) (x : St.It) : Prop where
  out : W.heap[g]? = some (.cells (itC x).toArray 70)
theorem BxI.rng {W : World} {g : Nat} {x : St.It} (h : BxI W g x) : W.rangeAt g 0 (itC x) := fun j u hu => by
  rw [cell_of_row _ _ _ _ _ _ h.out]; simpa using hu
theorem BxI.below {W W' : World} {g : Nat} {x : St.It} (h : BxI W g x) (hb : Below W.heap.size W W') : BxI W' g x := ⟨(hb.block g (Array.getElem?_eq_some_iff.1 h.out).1).trans h.out⟩

set_option maxHeartbeats 1000000 in
set_option maxRecDepth 100000 in
theorem keep_there (w : World) (base b : Nat) (v : Value) (L : List St.It) (x : St.It) (h : PSt w base b v L) (hil : x.id.length = 32) (hh : St.has L x.id = true) :
    Calls Tryd.prog 23 #[.pointer (some ⟨b, 0, none⟩), .agg (itC x).toArray] w (KeepP w base b v L x) := by
  have HQ := Lib.hid (show ∀ w', Below w.heap.size w w' → KeepP w base b v L x (.returned (.tuple #[])) w' from fun w' hb => ⟨rfl, v, by rw [St.put_has hh]; exact h.below hb, Kept.of_below hb b v, .inl rfl⟩)
  have HB := Lib.hid (below_new w (.cells (itC x).toArray 70))
  have HI := Lib.hid (it_id (row_news (heap_alloc_new w (.cells (itC x).toArray 70))))
  have HL := Lib.hid hil
  have HP := Lib.hid (place_any (w.alloc (.cells (itC x).toArray 70)) base b v L x.id (h.below HB.out) hil)
  rw [hh] at HP
  clear h hh hil
  generalize (itC x).toArray = da at *
  go_enter Tryd.func23, Tryd.ntmps23
  go_wp2_with ((with_reducible apply ld_id (hc := HI.out) (hl := HL.out)); rfl; rfl; rfl)
  refine HP.out.mono ?_
  rintro r w1 ⟨rfl, hb1⟩
  go_wp2_with fail
  refine bodyPost_end (results_none rfl _ _ _) rfl ?_
  exact HQ.out _ (HB.out.trans (hb1.mono (by simp)))

set_option maxHeartbeats 2000000 in
set_option maxRecDepth 100000 in
theorem keep_new (w : World) (base b : Nat) (v : Value) (L : List St.It) (x : St.It) (h : PSt w base b v L) (hil : x.id.length = 32) (hh : St.has L x.id = false) (hl : L.length ≤ 62) (hbase : base ≤ w.heap.size) :
    Calls Tryd.prog 23 #[.pointer (some ⟨b, 0, none⟩), .agg (itC x).toArray] w (KeepP w base b v L x) := by
  have HB := Lib.hid (below_new w (.cells (itC x).toArray 70))
  have HN := Lib.hid (show BxI (w.alloc (.cells (itC x).toArray 70)) w.heap.size x from ⟨heap_alloc_new _ _⟩)
  have HI := Lib.hid (it_id (row_news HN.out.out))
  have HL := Lib.hid hil
  have HP := Lib.hid (place_any (w.alloc (.cells (itC x).toArray 70)) base b v L x.id (h.below HB.out) hil)
  rw [hh] at HP
  have HH := Lib.hid h
  have HNH := Lib.hid hh
  have hpl := St.pos_le L x.id
  have HE := Lib.hid (St.put_new hh)
  have hsz : w.heap.size < (w.alloc (.cells (itC x).toArray 70)).heap.size := by simp
  generalize hpos : St.pos L x.id = pos at *
  clear h hh hil hpos
  go_enter Tryd.func23, Tryd.ntmps23
  go_wp2_with ((with_reducible apply ld_id (hc := HI.out) (hl := HL.out)); rfl; rfl; rfl)
  refine HP.out.mono ?_
  rintro r w2 ⟨rfl, hb2⟩
  have hb02 := HB.out.trans (hb2.mono (show w.heap.size ≤ _ by omega))
  have HP2 := Lib.hid (HH.out.below hb02)
  have HX2 := Lib.hid (HN.out.below hb2)
  have hs2 : w.heap.size < w2.heap.size := by have := hb2.size; omega
  clear HP HI HN hb2 HB hsz
  have cb : w2.cell? ⟨b, 0, none⟩ = some v := HP2.out.cell
  have cb' : w2.drew.cell? ⟨b, 0, none⟩ = some v := HP2.out.cell
  have hbl := HP2.out.lt
  have u69 := Lib.hid underIt
  have i69 := Lib.hid (itsize HL.out)
  have HC := Lib.hid (show ∀ j u, (itC x)[j]? = some u → w2.drew.cell? ((⟨w.heap.size, 0, none⟩ : Addr).add j) = some u from row_news HX2.out.out)
  have hdr : Below w2.heap.size w2 w2.drew := (Below.refl _ _).drew
  have hal : Below w2.heap.size w2 (w2.drew.alloc (.cells (itC x).toArray 70)) := hdr.alloc (Nat.le_refl _) _
  have HP3 := Lib.hid (HP2.out.below hal)
  have hne : v.ownBlock ≠ some w2.heap.size := fun e => by
    have := (HP2.out.own.lt _ e).2
    omega
  have HIN := Lib.hid (insert_own v L base w2.heap.size pos x _ HP3.out.own HP3.out.len (heap_alloc_new _ _) hne HL.out hpl (by omega) (by have := hal.size; omega))
  go_wp2_with fail
  have u69' := u69.out
  have i69' := i69.out
  refine wp_region_noPanic ?_
  refine wp_region_held_drew (S := (fun w' => BxI w' w.heap.size x)) (by kernel_rfl) (show BxI w2.drew w.heap.size x from ⟨HX2.out.out⟩) (fun hH => ?_)
  refine wpAnyH_take (i := 0) (v := ?_) rfl (by kernel_rfl) (by kernel_rfl) (by kernel_rfl) (fun _ _ _ h => h) (Or.inl ⟨by rfl, ?_⟩) (by assumption) ?_
  rotate_left
  · intro w hSw; go_simp; try rfl
  try simp only [Act.put, List.getElem_toArray, List.getElem_cons_zero, List.getElem_cons_succ, List.setIfInBounds_toArray, List.set_cons_zero, List.set_cons_succ]
  refine wpAnyH_take (i := 1) (v := ?_) rfl (by kernel_rfl) (by kernel_rfl) (by kernel_rfl) (fun _ _ _ h => h) (Or.inl ⟨by rfl, ?_⟩) (by assumption) ?_
  rotate_left
  · intro w hSw; go_simp; try rfl
  try simp only [Act.put, List.getElem_toArray, List.getElem_cons_zero, List.getElem_cons_succ, List.setIfInBounds_toArray, List.set_cons_zero, List.set_cons_succ]
  refine wpAnyH_take (i := 2) (v := ?_) rfl (by kernel_rfl) (by kernel_rfl) (by kernel_rfl) (fun _ _ _ h => h) (Or.inl ⟨by rfl, ?_⟩) (by assumption) ?_
  rotate_left
  · intro w hSw; go_simp; try rfl
  try simp only [Act.put, List.getElem_toArray, List.getElem_cons_zero, List.getElem_cons_succ, List.setIfInBounds_toArray, List.set_cons_zero, List.set_cons_succ]
  refine wpAnyH_take (i := 3) (v := ?_) rfl (by kernel_rfl) (by kernel_rfl) (by kernel_rfl) (fun _ _ _ h => h) (Or.inl ⟨by rfl, ?_⟩) (by assumption) ?_
  rotate_left
  · intro w hSw; go_simp; try rfl
  try simp only [Act.put, List.getElem_toArray, List.getElem_cons_zero, List.getElem_cons_succ, List.setIfInBounds_toArray, List.set_cons_zero, List.set_cons_succ]
  refine wpAnyH_take (i := 5) (v := ?_) rfl (by kernel_rfl) (by kernel_rfl) (by kernel_rfl) (fun _ _ _ h => h) (Or.inl ⟨by rfl, ?_⟩) (by assumption) ?_
  rotate_left
  · intro w hSw; go_simp; try rfl
  try simp only [Act.put, List.getElem_toArray, List.getElem_cons_zero, List.getElem_cons_succ, List.setIfInBounds_toArray, List.set_cons_zero, List.set_cons_succ]
  refine wpAnyH_take (i := 6) rfl (by kernel_rfl) (by kernel_rfl) (by kernel_rfl) (fun _ _ _ h => h) (yieldsIf_load_mid (by rfl) _ _ rfl _ _ rfl _ _ (fun w h => h.rng) u69' rfl i69') (by assumption) ?_
  try simp only [Act.put, List.getElem_toArray, List.getElem_cons_zero, List.getElem_cons_succ, List.setIfInBounds_toArray, List.set_cons_zero, List.set_cons_succ]
  refine wpAnyH_ready (rs := [4, 7]) (by kernel_rfl) (by simp) ?_
  have hvb : some b ≠ v.ownBlock := own_box HP3.out.own HP3.out.box (by decide)
  have hlnn : (L.take pos ++ x :: L.drop pos).length = pos + (L.length - pos + 1) := by simp; omega
  have HE2 := Lib.hid hlnn
  have HBX := Lib.hid (show ∀ w4, (w2.drew.alloc (.cells (itC x).toArray 70)).grownBy w4 v.ownBlock → BxI w4 w.heap.size x from fun w4 hg => ⟨(hg.block w.heap.size (by have := hal.size; omega) (fun e => by have := (HH.out.own.lt _ e.symm).2; omega)).trans (HX2.out.below hal).out⟩)
  have HBS := Lib.hid (show ∀ W u, BxI W w.heap.size x → BxI (W.setCell ⟨b, 0, none⟩ u) w.heap.size x from fun W u h => ⟨(Below.heap_setCell _ _ _ _ (by have := HH.out.lt; show w.heap.size ≠ b; omega)).trans h.out⟩)
  have HQ := Lib.hid (show ∀ (w4 : World) (v' : Value), OwnF w4 base v' (L.take pos ++ x :: L.drop pos) → (w2.drew.alloc (.cells (itC x).toArray 70)).grownBy w4 v.ownBlock → (v'.ownBlock = v.ownBlock ∨ v'.ownBlock = some (w2.drew.alloc (.cells (itC x).toArray 70)).heap.size) → KeepP w base b v L x (.returned (.tuple #[])) (w4.setCell ⟨b, 0, none⟩ v') from fun w4 v' ho4 hg4 hv4 => by
    have hbx := (hg4.block b (by have := hal.size; omega) hvb).trans HP3.out.box
    have HS := heap_setCell_same w4 b 0 _ _ v' hbx
    have hsz4 : w2.heap.size ≤ w4.heap.size := by have := hg4.size; have := hal.size; omega
    have hot : ∀ k, k ≠ b → (w4.setCell ⟨b, 0, none⟩ v').heap[k]? = w4.heap[k]? := fun k hk => Below.heap_setCell _ _ _ _ hk
    rw [← HE.out] at ho4
    refine ⟨rfl, _, ⟨by rw [HS]; rfl, own_kept ho4 (fun g hg => hot g (fun e => own_box ho4 hbx (by decide) (by rw [hg, e]))), HH.out.ge, St.put_lens HH.out.len HL.out, St.put_srt HH.out.srt HH.out.len HL.out, by have := St.put_length L x; omega⟩, ⟨hg4.os.trans (hal.os.trans hb02.os), hg4.tape.trans (hal.tape.trans hb02.tape), hg4.output.trans (hal.output.trans hb02.output), by simp; omega, fun k hk h1 h2 => (hot k h1).trans ((hg4.block k (by have := hal.size; omega) h2).trans ((hal.block k (by omega)).trans (hb02.block k hk)))⟩, ?_⟩
    rcases hv4 with h | h
    · exact .inl h
    · exact .inr ⟨_, h, by have := hal.size; omega⟩)
  clear hlnn
  have cba : (w2.drew.alloc (.cells (itC x).toArray 70)).cell? ⟨b, 0, none⟩ = some v := HP3.out.cell
  have HAL := Lib.hid (show ∀ W, BxI W w.heap.size x → BxI (W.alloc (.cells (itC x).toArray 70)) w.heap.size x from fun W h => h.below (below_new _ _))
  refine AllReadyH.cons rfl (fun K hK => ?_) (AllReadyH.cons rfl (fun K hK => ?_) AllReadyH.nil)
  · go_simp
    refine hK.out _ _ hH (fun hH2 => ?_)
    clear hK K
    try simp only [Act.put, List.getElem_toArray, List.getElem_cons_zero, List.getElem_cons_succ, List.setIfInBounds_toArray, List.set_cons_zero, List.set_cons_succ]
    refine wpAnyH_ready (rs := [7]) (by kernel_rfl) (by simp) ?_
    refine AllReadyH.cons rfl (fun K hK => ?_) AllReadyH.nil
    rw [if_pos (by rfl)]
    refine wp_bs_it (r := x) (.tmp 21) rfl rfl HL.out ?_
    refine hK.out _ _ (HAL.out _ hH2) (fun hH3 => ?_)
    clear hK K
    refine wpAnyH_ready (rs := [8]) (by kernel_rfl) (by simp) ?_
    refine AllReadyH.cons rfl (fun K hK => ?_) AllReadyH.nil
    go_simp
    refine HIN.out.mono ?_
    rintro r w4 ⟨v', rfl, ho4, hg4, hv4⟩
    have HW4 := Lib.hid (HQ.out w4 v' ho4 hg4 hv4)
    have hH4 : BxI w4 w.heap.size x := HBX.out w4 hg4
    have hbx := (hg4.block b (by have := hal.size; omega) hvb).trans HP3.out.box
    have c4 : w4.cell? ⟨b, 0, none⟩ = some v := by rw [cell_of_row _ _ 0 _ _ _ hbx]; rfl
    have f4 : w4.frozen? ⟨b, 0, none⟩ = false := frozen_of_row _ _ 0 _ _ hbx
    obtain ⟨ao', cap', rfl⟩ := own_shape ho4
    rw [HE2.out] at HW4
    clear hg4 ho4 hbx hv4
    go_wp2_with fail
    refine hK.out _ _ hH4 (fun hH5 => ?_)
    clear hK K
    try simp only [Act.put, List.getElem_toArray, List.getElem_cons_zero, List.getElem_cons_succ, List.setIfInBounds_toArray, List.set_cons_zero, List.set_cons_succ]
    refine wpAnyH_take (i := 9) (v := ?_) rfl (by kernel_rfl) (by kernel_rfl) (by kernel_rfl) (fun _ _ _ h => h) (Or.inl ⟨by rfl, ?_⟩) (by assumption) ?_
    rotate_left
    · intro w hSw; go_simp; try rfl
    try simp only [Act.put, List.getElem_toArray, List.getElem_cons_zero, List.getElem_cons_succ, List.setIfInBounds_toArray, List.set_cons_zero, List.set_cons_succ]
    refine wpAnyH_take (i := 10) (v := ?_) rfl (by kernel_rfl) (by kernel_rfl) (by kernel_rfl) (fun _ _ _ h => h) (Or.inl ⟨by rfl, ?_⟩) (by assumption) ?_
    rotate_left
    · intro w hSw; go_simp; try rfl
    try simp only [Act.put, List.getElem_toArray, List.getElem_cons_zero, List.getElem_cons_succ, List.setIfInBounds_toArray, List.set_cons_zero, List.set_cons_succ]
    refine wpAnyH_ready (rs := [11]) (by kernel_rfl) (by simp) ?_
    refine AllReadyH.cons rfl (fun K hK => ?_) AllReadyH.nil
    go_simp
    refine hK.out _ _ (HBS.out _ _ hH5) (fun hH6 => ?_)
    clear hK K
    refine wpAnyH_done (by kernel_rfl) ?_ _
    refine NoPanic.normal ?_
    go_wp2_with fail
    refine bodyPost_end (results_none rfl _ _ _) rfl ?_
    exact HW4.out
  · rw [if_pos (by rfl)]
    refine wp_bs_it (r := x) (.tmp 21) rfl rfl HL.out ?_
    refine hK.out _ _ (HAL.out _ hH) (fun hH2 => ?_)
    clear hK K
    try simp only [Act.put, List.getElem_toArray, List.getElem_cons_zero, List.getElem_cons_succ, List.setIfInBounds_toArray, List.set_cons_zero, List.set_cons_succ]
    refine wpAnyH_ready (rs := [4]) (by kernel_rfl) (by simp) ?_
    refine AllReadyH.cons rfl (fun K hK => ?_) AllReadyH.nil
    go_simp
    refine hK.out _ _ hH2 (fun hH3 => ?_)
    clear hK K
    try simp only [Act.put, List.getElem_toArray, List.getElem_cons_zero, List.getElem_cons_succ, List.setIfInBounds_toArray, List.set_cons_zero, List.set_cons_succ]
    refine wpAnyH_ready (rs := [8]) (by kernel_rfl) (by simp) ?_
    refine AllReadyH.cons rfl (fun K hK => ?_) AllReadyH.nil
    go_simp
    refine HIN.out.mono ?_
    rintro r w4 ⟨v', rfl, ho4, hg4, hv4⟩
    have HW4 := Lib.hid (HQ.out w4 v' ho4 hg4 hv4)
    have hH4 : BxI w4 w.heap.size x := HBX.out w4 hg4
    have hbx := (hg4.block b (by have := hal.size; omega) hvb).trans HP3.out.box
    have c4 : w4.cell? ⟨b, 0, none⟩ = some v := by rw [cell_of_row _ _ 0 _ _ _ hbx]; rfl
    have f4 : w4.frozen? ⟨b, 0, none⟩ = false := frozen_of_row _ _ 0 _ _ hbx
    obtain ⟨ao', cap', rfl⟩ := own_shape ho4
    rw [HE2.out] at HW4
    clear hg4 ho4 hbx hv4
    go_wp2_with fail
    refine hK.out _ _ hH4 (fun hH5 => ?_)
    clear hK K
    try simp only [Act.put, List.getElem_toArray, List.getElem_cons_zero, List.getElem_cons_succ, List.setIfInBounds_toArray, List.set_cons_zero, List.set_cons_succ]
    refine wpAnyH_take (i := 9) (v := ?_) rfl (by kernel_rfl) (by kernel_rfl) (by kernel_rfl) (fun _ _ _ h => h) (Or.inl ⟨by rfl, ?_⟩) (by assumption) ?_
    rotate_left
    · intro w hSw; go_simp; try rfl
    try simp only [Act.put, List.getElem_toArray, List.getElem_cons_zero, List.getElem_cons_succ, List.setIfInBounds_toArray, List.set_cons_zero, List.set_cons_succ]
    refine wpAnyH_take (i := 10) (v := ?_) rfl (by kernel_rfl) (by kernel_rfl) (by kernel_rfl) (fun _ _ _ h => h) (Or.inl ⟨by rfl, ?_⟩) (by assumption) ?_
    rotate_left
    · intro w hSw; go_simp; try rfl
    try simp only [Act.put, List.getElem_toArray, List.getElem_cons_zero, List.getElem_cons_succ, List.setIfInBounds_toArray, List.set_cons_zero, List.set_cons_succ]
    refine wpAnyH_ready (rs := [11]) (by kernel_rfl) (by simp) ?_
    refine AllReadyH.cons rfl (fun K hK => ?_) AllReadyH.nil
    go_simp
    refine hK.out _ _ (HBS.out _ _ hH5) (fun hH6 => ?_)
    clear hK K
    refine wpAnyH_done (by kernel_rfl) ?_ _
    refine NoPanic.normal ?_
    go_wp2_with fail
    refine bodyPost_end (results_none rfl _ _ _) rfl ?_
    exact HW4.out

end Go.Proofs.YtipigedopmgemaaDoor
