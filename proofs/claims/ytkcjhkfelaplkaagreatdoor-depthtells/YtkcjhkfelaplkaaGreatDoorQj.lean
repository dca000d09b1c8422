/-
  WALKS OF LAYER 11: keep: an item is inserted at its place; what is under an id already remains.
-/
import Derived.Test.YtkcjhkfelaplkaaGreatDoorQi
import Derived.Test.YtkcjhkfelaplkaaGreatDoorQb
import Derived.Test.YtkcjhkfelaplkaaGreatDoorQc
import Derived.Test.YtkcjhkfelaplkaaGreatDoorQh
import Derived.Test.YtkcjhkfelaplkaaGreatDoorQa
set_option linter.unusedVariables false
set_option linter.unusedSimpArgs false
set_option maxHeartbeats 8000000
set_option maxRecDepth 100000
section
namespace Go.Proofs.YtkcjhkfelaplkaaGreatDoor
open Go.RowKit
theorem built_it (l : List UInt8) (t : ByteArray) (h : l.length = 32) : Tryz.prog.built 148 [(0, .agg (idC l).toArray), (1, .string t)] = some (itC ⟨l, t⟩).toArray := by
 obtain ⟨x0, x1, x2, x3, x4, x5, x6, x7, x8, x9, x10, x11, x12, x13, x14, x15, x16, x17, x18, x19, x20, x21, x22, x23, x24, x25, x26, x27, x28, x29, x30, x31, rfl⟩ := len32 h
 kernel_rfl
theorem builtS_it (r : St.It) (h : r.id.length = 32) : Tryz.prog.builtSlice 148 1 [(0, .agg (itC r).toArray)] = some (itC r).toArray := by
 obtain ⟨l, t⟩ := r
 obtain ⟨x0, x1, x2, x3, x4, x5, x6, x7, x8, x9, x10, x11, x12, x13, x14, x15, x16, x17, x18, x19, x20, x21, x22, x23, x24, x25, x26, x27, x28, x29, x30, x31, rfl⟩ := len32 h
 kernel_rfl
theorem wp_bs_it {o : Oper} {a : Act} {w : World} {K : Act → World → Prop} {Q : Exit → Act → World → Prop} {r : St.It} (x : Operand) (ho : o.op = .buildSlice 140 1 #[(0, x)]) (hx : a.eval x = .agg (itC r).toArray) (hl : r.id.length = 32)
  (h : K (a.put o.dst (.slice (some ⟨w.heap.size, 0, none⟩) 1 1)) (w.alloc (.cells (itC r).toArray 148))) : o.wp Tryz.prog a w K Q := by
 have hf := builtS_it r hl
 unfold Program.builtSlice at hf
 cases hie : Tryz.prog.info? 148 with
 | none => simp [hie] at hf
 | some ie =>
   simp only [hie] at hf
   cases hz : ie.zero with
   | none => simp [hz] at hf
   | some z =>
     simp only [hz] at hf
     by_cases hc : 1 * ie.size > 2 ^ 24 ∨ 1 * ie.size = 0
     · rw [if_pos hc] at hf; cases hf
     ·
      rw [if_neg hc] at hf
      exact wp_buildSlice 140 148 1 #[(0, x)] ho (itC r).toArray ie z Tryz.underlying140 hie hz (fun h' => hc (Or.inl h')) (fun h' => hc (Or.inr h')) (by simp only [List.map_toArray, List.map_cons, List.map_nil, hx]; exact hf) h
structure Kept (w w' : World) (b : Nat) (v : Value) : Prop where
 os : w'.os = w.os
 tape : w'.tape = w.tape
 output : w'.output = w.output
 size : w.heap.size ≤ w'.heap.size
 block : ∀ k, k < w.heap.size → k ≠ b → some k ≠ v.ownBlock → w'.heap[k]? = w.heap[k]?
theorem Kept.of_below {w w' : World} (h : Below w.heap.size w w') (b : Nat) (v : Value) : Kept w w' b v := ⟨h.os, h.tape, h.output, h.size, fun k hk _ _ => h.block k hk⟩
theorem Kept.below {w w' : World} {base b : Nat} {v : Value} {L : List St.It} (k : Kept w w' b v) (h : PSt w base b v L) : Below base w w' := by
 refine ⟨k.os, k.tape, k.output, k.size, fun i hi => ?_⟩
 have hb := h.ge
 have hlt := h.lt
 refine k.block i (by omega) (by omega) (fun e => ?_)
 have := (h.own.lt i e.symm).1
 omega
theorem own_kept {w w' : World} {B e k n : Nat} {v : Value} {xs : List Value} (h : w.ownsRow B e k v n xs) (hk : ∀ g, v.ownBlock = some g → w'.heap[g]? = w.heap[g]?) : w'.ownsRow B e k v n xs := by
 refine ⟨h.1, h.2.imp id ?_⟩
 rintro ⟨g, cap, cur, hv, hg, hh, hrest⟩
 exact ⟨g, cap, cur, hv, hg, (hk g (by rw [hv]; rfl)).trans hh, hrest⟩
theorem own_box {w : World} {base e k n b t : Nat} {v : Value} {xs : List Value} {cs : Array Value} (h : w.ownsRow base e k v n xs) (hb : w.heap[b]? = some (.cells cs t)) (ht : t ≠ e) : some b ≠ v.ownBlock := by
 rcases h.2 with ⟨rfl, _⟩ | ⟨g, cap, cur, rfl, _, hh, _⟩
 · simp [Value.ownBlock]
 ·
  intro e1
  simp only [Value.ownBlock, Option.some.injEq] at e1
  subst e1
  rw [hh] at hb
  simp at hb
  exact ht hb.2.symm
theorem own_shape {w : World} {base e k n : Nat} {v : Value} {xs : List Value} (h : w.ownsRow base e k v n xs) : ∃ ao cap, v = .slice ao n cap := by
 rcases h.2 with ⟨rfl, rfl⟩ | ⟨g, cap, cur, rfl, _⟩
 · exact ⟨none, 0, rfl⟩
 · exact ⟨_, cap, rfl⟩
def KeepP (w : World) (base b : Nat) (v : Value) (L : List St.It) (x : St.It) (r : Ending) (w' : World) : Prop :=
 r = .returned (.tuple #[]) ∧ ∃ v', PSt w' base b v' (St.put L x) ∧ Kept w w' b v ∧ (v'.ownBlock = v.ownBlock ∨ ∃ g, v'.ownBlock = some g ∧ w.heap.size ≤ g)
structure BxI (W : World) (g : Nat) (x : St.It) : Prop where
 out : W.heap[g]? = some (.cells (itC x).toArray 148)
theorem BxI.rng {W : World} {g : Nat} {x : St.It} (h : BxI W g x) : W.rangeAt g 0 (itC x) := fun j u hu => by
 rw [cell_of_row _ _ _ _ _ _ h.out]; simpa using hu
theorem BxI.below {W W' : World} {g : Nat} {x : St.It} (h : BxI W g x) (hb : Below W.heap.size W W') : BxI W' g x := ⟨(hb.block g (Array.getElem?_eq_some_iff.1 h.out).1).trans h.out⟩
theorem keep_there (w : World) (base b : Nat) (v : Value) (L : List St.It) (x : St.It) (h : PSt w base b v L) (hil : x.id.length = 32) (hh : St.has L x.id = true) :
  Calls Tryz.prog 77 #[.pointer (some ⟨b, 0, none⟩), .agg (itC x).toArray] w (KeepP w base b v L x) := by
 have HQ := Lib.hid (show ∀ w', Below w.heap.size w w' → KeepP w base b v L x (.returned (.tuple #[])) w' from fun w' hb => ⟨rfl, v, by rw [St.put_has hh]; exact h.below hb, Kept.of_below hb b v, .inl rfl⟩)
 have HB := Lib.hid (below_new w (.cells (itC x).toArray 148))
 have HI := Lib.hid (it_id (row_news (heap_alloc_new w (.cells (itC x).toArray 148))))
 have HL := Lib.hid hil
 have HP := Lib.hid (place_any (w.alloc (.cells (itC x).toArray 148)) base b v L x.id (h.below HB.out) hil)
 rw [hh] at HP
 clear h hh hil
 generalize (itC x).toArray = da at *
 go_enter Tryz.func77, Tryz.ntmps77
 go_wp2_with ((with_reducible apply ld_id (hc := HI.out) (hl := HL.out)); rfl; rfl; rfl)
 refine HP.out.mono ?_
 rintro r w1 ⟨rfl, hb1⟩
 go_wp2_with fail
 refine bodyPost_end (results_none rfl _ _ _) rfl ?_
 exact HQ.out _ (HB.out.trans (hb1.mono (by simp)))
theorem keep_new (w : World) (base b : Nat) (v : Value) (L : List St.It) (x : St.It) (h : PSt w base b v L) (hil : x.id.length = 32) (hh : St.has L x.id = false) (hl : L.length ≤ 62) (hbase : base ≤ w.heap.size) :
  Calls Tryz.prog 77 #[.pointer (some ⟨b, 0, none⟩), .agg (itC x).toArray] w (KeepP w base b v L x) := by
 have HB := Lib.hid (below_new w (.cells (itC x).toArray 148))
 have HN := Lib.hid (show BxI (w.alloc (.cells (itC x).toArray 148)) w.heap.size x from ⟨heap_alloc_new _ _⟩)
 have HI := Lib.hid (it_id (row_news HN.out.out))
 have HL := Lib.hid hil
 have HP := Lib.hid (place_any (w.alloc (.cells (itC x).toArray 148)) base b v L x.id (h.below HB.out) hil)
 rw [hh] at HP
 have HH := Lib.hid h
 have HNH := Lib.hid hh
 have hpl := St.pos_le L x.id
 have HE := Lib.hid (St.put_new hh)
 have hsz : w.heap.size < (w.alloc (.cells (itC x).toArray 148)).heap.size := by simp
 generalize hpos : St.pos L x.id = pos at *
 clear h hh hil hpos
 go_enter Tryz.func77, Tryz.ntmps77
 go_wp2_with ((with_reducible apply ld_id (hc := HI.out) (hl := HL.out)); rfl; rfl; rfl)
 refine HP.out.mono ?_
 rintro r w2 ⟨rfl, hb2⟩
 have hb02 := HB.out.trans (hb2.mono (show w.heap.size ≤ _ by omega))
 have HP2 := Lib.hid (HH.out.below hb02)
 have HX2 := Lib.hid (HN.out.below hb2)
 have hs2 : w.heap.size < w2.heap.size := by have := hb2.size; omega
 clear HP HI HN hb2 HB hsz
 have cb : w2.cell? ⟨b, 0, none⟩ = some v := HP2.out.cell
 have cb' : w2.drew.cell? ⟨b, 0, none⟩ = some v := HP2.out.cell
 have hbl := HP2.out.lt
 have u69 := Lib.hid underIt
 have i69 := Lib.hid (itsize HL.out)
 have HC := Lib.hid (show ∀ j u, (itC x)[j]? = some u → w2.drew.cell? ((⟨w.heap.size, 0, none⟩ : Addr).add j) = some u from row_news HX2.out.out)
 have hdr : Below w2.heap.size w2 w2.drew := (Below.refl _ _).drew
 have hal : Below w2.heap.size w2 (w2.drew.alloc (.cells (itC x).toArray 148)) := hdr.alloc (Nat.le_refl _) _
 have HP3 := Lib.hid (HP2.out.below hal)
 have hne : v.ownBlock ≠ some w2.heap.size := fun e => by
  have := (HP2.out.own.lt _ e).2
  omega
 have HIN := Lib.hid (insert_own v L base w2.heap.size pos x _ HP3.out.own HP3.out.len (heap_alloc_new _ _) hne HL.out hpl (by omega) (by have := hal.size; omega))
 go_wp2_with fail
 have u69' := u69.out
 have i69' := i69.out
 refine wp_region_noPanic ?_
 refine wp_region_held_drew (S := (fun w' => BxI w' w.heap.size x)) (by kernel_rfl) (show BxI w2.drew w.heap.size x from ⟨HX2.out.out⟩) (fun hH => ?_)
 refine tk (i := 0) (v := ?_) ?_ ?_
 rotate_left
 · intro w hSw; go_simp; try rfl
 try simp only [q0]
 refine tk (i := 1) (v := ?_) ?_ ?_
 rotate_left
 · intro w hSw; go_simp; try rfl
 try simp only [q0]
 refine tk (i := 2) (v := ?_) ?_ ?_
 rotate_left
 · intro w hSw; go_simp; try rfl
 try simp only [q0]
 refine tk (i := 3) (v := ?_) ?_ ?_
 rotate_left
 · intro w hSw; go_simp; try rfl
 try simp only [q0]
 refine tk (i := 5) (v := ?_) ?_ ?_
 rotate_left
 · intro w hSw; go_simp; try rfl
 try simp only [q0]
 refine wpAnyH_take (i := 6) rfl (by kernel_rfl) (by kernel_rfl) (by kernel_rfl) (fun _ _ _ h => h) (yieldsIf_load_mid (by rfl) _ _ rfl _ _ rfl _ _ (fun w h => h.rng) u69' rfl i69') (by assumption) ?_
 try simp only [q0]
 refine wpAnyH_ready (rs := [4, 7]) (by kernel_rfl) (by simp) ?_
 have hvb : some b ≠ v.ownBlock := own_box HP3.out.own HP3.out.box (by decide)
 have hlnn : (L.take pos ++ x :: L.drop pos).length = pos + (L.length - pos + 1) := by simp; omega
 have HE2 := Lib.hid hlnn
 have HBX := Lib.hid (show ∀ w4, (w2.drew.alloc (.cells (itC x).toArray 148)).grownBy w4 v.ownBlock → BxI w4 w.heap.size x from fun w4 hg => ⟨(hg.block w.heap.size (by have := hal.size; omega) (fun e => by have := (HH.out.own.lt _ e.symm).2; omega)).trans (HX2.out.below hal).out⟩)
 have HBS := Lib.hid (show ∀ W u, BxI W w.heap.size x → BxI (W.setCell ⟨b, 0, none⟩ u) w.heap.size x from fun W u h => ⟨(Below.heap_setCell _ _ _ _ (by have := HH.out.lt; show w.heap.size ≠ b; omega)).trans h.out⟩)
 have HQ := Lib.hid (show ∀ (w4 : World) (v' : Value), OwnF w4 base v' (L.take pos ++ x :: L.drop pos) → (w2.drew.alloc (.cells (itC x).toArray 148)).grownBy w4 v.ownBlock → (v'.ownBlock = v.ownBlock ∨ v'.ownBlock = some (w2.drew.alloc (.cells (itC x).toArray 148)).heap.size) → KeepP w base b v L x (.returned (.tuple #[])) (w4.setCell ⟨b, 0, none⟩ v') from fun w4 v' ho4 hg4 hv4 => by
  have hbx := (hg4.block b (by have := hal.size; omega) hvb).trans HP3.out.box
  have HS := heap_setCell_same w4 b 0 _ _ v' hbx
  have hsz4 : w2.heap.size ≤ w4.heap.size := by have := hg4.size; have := hal.size; omega
  have hot : ∀ k, k ≠ b → (w4.setCell ⟨b, 0, none⟩ v').heap[k]? = w4.heap[k]? := fun k hk => Below.heap_setCell _ _ _ _ hk
  rw [← HE.out] at ho4
  refine ⟨rfl, _, ⟨by rw [HS]; rfl, own_kept ho4 (fun g hg => hot g (fun e => own_box ho4 hbx (by decide) (by rw [hg, e]))), HH.out.ge, St.put_lens HH.out.len HL.out, St.put_srt HH.out.srt HH.out.len HL.out, by have := St.put_length L x; omega⟩, ⟨hg4.os.trans (hal.os.trans hb02.os), hg4.tape.trans (hal.tape.trans hb02.tape), hg4.output.trans (hal.output.trans hb02.output), by simp; omega, fun k hk h1 h2 => (hot k h1).trans ((hg4.block k (by have := hal.size; omega) h2).trans ((hal.block k (by omega)).trans (hb02.block k hk)))⟩, ?_⟩
  rcases hv4 with h | h
  · exact .inl h
  · exact .inr ⟨_, h, by have := hal.size; omega⟩)
 clear hlnn
 have cba : (w2.drew.alloc (.cells (itC x).toArray 148)).cell? ⟨b, 0, none⟩ = some v := HP3.out.cell
 have HAL := Lib.hid (show ∀ W, BxI W w.heap.size x → BxI (W.alloc (.cells (itC x).toArray 148)) w.heap.size x from fun W h => h.below (below_new _ _))
 refine AllReadyH.cons rfl (fun K hK => ?_) (AllReadyH.cons rfl (fun K hK => ?_) AllReadyH.nil)
 ·
  go_simp
  refine hK.out _ _ hH (fun hH2 => ?_)
  clear hK K
  try simp only [q0]
  refine wpAnyH_ready (rs := [7]) (by kernel_rfl) (by simp) ?_
  refine AllReadyH.cons rfl (fun K hK => ?_) AllReadyH.nil
  rw [if_pos (by rfl)]
  refine wp_bs_it (r := x) (.tmp 21) rfl rfl HL.out ?_
  refine hK.out _ _ (HAL.out _ hH2) (fun hH3 => ?_)
  clear hK K
  refine wpAnyH_ready (rs := [8]) (by kernel_rfl) (by simp) ?_
  refine AllReadyH.cons rfl (fun K hK => ?_) AllReadyH.nil
  go_simp
  refine HIN.out.mono ?_
  rintro r w4 ⟨v', rfl, ho4, hg4, hv4⟩
  have HW4 := Lib.hid (HQ.out w4 v' ho4 hg4 hv4)
  have hH4 : BxI w4 w.heap.size x := HBX.out w4 hg4
  have hbx := (hg4.block b (by have := hal.size; omega) hvb).trans HP3.out.box
  have c4 : w4.cell? ⟨b, 0, none⟩ = some v := by rw [cell_of_row _ _ 0 _ _ _ hbx]; rfl
  have f4 : w4.frozen? ⟨b, 0, none⟩ = false := frozen_of_row _ _ 0 _ _ hbx
  obtain ⟨ao', cap', rfl⟩ := own_shape ho4
  rw [HE2.out] at HW4
  clear hg4 ho4 hbx hv4
  go_wp2_with fail
  refine hK.out _ _ hH4 (fun hH5 => ?_)
  clear hK K
  try simp only [q0]
  refine tk (i := 9) (v := ?_) ?_ ?_
  rotate_left
  · intro w hSw; go_simp; try rfl
  try simp only [q0]
  refine tk (i := 10) (v := ?_) ?_ ?_
  rotate_left
  · intro w hSw; go_simp; try rfl
  try simp only [q0]
  refine wpAnyH_ready (rs := [11]) (by kernel_rfl) (by simp) ?_
  refine AllReadyH.cons rfl (fun K hK => ?_) AllReadyH.nil
  go_simp
  refine hK.out _ _ (HBS.out _ _ hH5) (fun hH6 => ?_)
  clear hK K
  refine wpAnyH_done (by kernel_rfl) ?_ _
  refine NoPanic.normal ?_
  go_wp2_with fail
  refine bodyPost_end (results_none rfl _ _ _) rfl ?_
  exact HW4.out
 ·
  rw [if_pos (by rfl)]
  refine wp_bs_it (r := x) (.tmp 21) rfl rfl HL.out ?_
  refine hK.out _ _ (HAL.out _ hH) (fun hH2 => ?_)
  clear hK K
  try simp only [q0]
  refine wpAnyH_ready (rs := [4]) (by kernel_rfl) (by simp) ?_
  refine AllReadyH.cons rfl (fun K hK => ?_) AllReadyH.nil
  go_simp
  refine hK.out _ _ hH2 (fun hH3 => ?_)
  clear hK K
  try simp only [q0]
  refine wpAnyH_ready (rs := [8]) (by kernel_rfl) (by simp) ?_
  refine AllReadyH.cons rfl (fun K hK => ?_) AllReadyH.nil
  go_simp
  refine HIN.out.mono ?_
  rintro r w4 ⟨v', rfl, ho4, hg4, hv4⟩
  have HW4 := Lib.hid (HQ.out w4 v' ho4 hg4 hv4)
  have hH4 : BxI w4 w.heap.size x := HBX.out w4 hg4
  have hbx := (hg4.block b (by have := hal.size; omega) hvb).trans HP3.out.box
  have c4 : w4.cell? ⟨b, 0, none⟩ = some v := by rw [cell_of_row _ _ 0 _ _ _ hbx]; rfl
  have f4 : w4.frozen? ⟨b, 0, none⟩ = false := frozen_of_row _ _ 0 _ _ hbx
  obtain ⟨ao', cap', rfl⟩ := own_shape ho4
  rw [HE2.out] at HW4
  clear hg4 ho4 hbx hv4
  go_wp2_with fail
  refine hK.out _ _ hH4 (fun hH5 => ?_)
  clear hK K
  try simp only [q0]
  refine tk (i := 9) (v := ?_) ?_ ?_
  rotate_left
  · intro w hSw; go_simp; try rfl
  try simp only [q0]
  refine tk (i := 10) (v := ?_) ?_ ?_
  rotate_left
  · intro w hSw; go_simp; try rfl
  try simp only [q0]
  refine wpAnyH_ready (rs := [11]) (by kernel_rfl) (by simp) ?_
  refine AllReadyH.cons rfl (fun K hK => ?_) AllReadyH.nil
  go_simp
  refine hK.out _ _ (HBS.out _ _ hH5) (fun hH6 => ?_)
  clear hK K
  refine wpAnyH_done (by kernel_rfl) ?_ _
  refine NoPanic.normal ?_
  go_wp2_with fail
  refine bodyPost_end (results_none rfl _ _ _) rfl ?_
  exact HW4.out
end Go.Proofs.YtkcjhkfelaplkaaGreatDoor
end
section
namespace Go.Proofs.YtkcjhkfelaplkaaGreatDoor
open Go.RowKit
namespace Rm
theorem treeF_ids : ∀ (k : Nat) (b : Bool) (l : List UInt8) (acc : List En), (∀ e ∈ acc, e.id.length = 32) → ∀ e ∈ (treeF k b l acc).1, e.id.length = 32
 | 0, b, l, acc, h => h
 | k + 1, b, l, acc, h => by
   unfold treeF
   split
   · exact h
   ·
    refine treeF_ids k _ _ _ (fun e he => ?_)
    rcases List.mem_append.1 he with h1 | h1
    · exact h e h1
    · rw [List.mem_singleton.1 h1]; exact idV_len _
theorem parsF_ids : ∀ (k : Nat) (b : Bool) (l : List UInt8) (acc : List (List UInt8)), (∀ p ∈ acc, p.length = 32) → ∀ p ∈ (parsF k b l acc).1, p.length = 32
 | 0, b, l, acc, h => h
 | k + 1, b, l, acc, h => by
   unfold parsF
   refine parsF_ids k _ _ _ (fun e he => ?_)
   rcases List.mem_append.1 he with h1 | h1
   · exact h e h1
   · rw [List.mem_singleton.1 h1]; exact idV_len _
theorem numV_le (m : Nat) (l : List UInt8) : numV m l ≤ m := by
 unfold numV
 split
 · omega
 · split <;> omega
structure Ids (o : Ob) : Prop where
 e : ∀ e ∈ o.ents, e.id.length = 32
 p : ∀ p ∈ o.pars, p.length = 32
 tr : o.tree.length = 32
 ta : o.target.length = 32
 ti : o.time < 4294967296
theorem body_ids (k : Int) (t : List UInt8) : Ids (bodyF k t).1 := by
 unfold bodyF
 split
 · exact ⟨(fun e h => by cases h), (fun e h => by cases h), rfl, rfl, (show (0 : Nat) < 4294967296 by decide)⟩
 ·
  split
  · exact ⟨treeF_ids _ _ _ _ (fun e h => by cases h), (fun e h => by cases h), rfl, rfl, (show (0 : Nat) < 4294967296 by decide)⟩
  ·
   split
   ·
    refine ⟨(fun e h => by cases h), parsF_ids _ _ _ _ (fun e h => by cases h), idV_len _, rfl, ?_⟩
    have := numV_le maxT (cmP t).2.1
    show cmT t < _
    unfold cmT
    unfold maxT at *
    omega
   · exact ⟨(fun e h => by cases h), (fun e h => by cases h), rfl, idV_len _, (show (0 : Nat) < 4294967296 by decide)⟩
theorem dec_ids {l : List UInt8} {o : Ob} (h : dec l = some o) : Ids o := by
 obtain ⟨_, _, _, _, _, e⟩ := dec_inv h
 rw [e]; exact body_ids _ _
theorem dec_head {s : ByteArray} {o : Ob} (h : dec s.data.toList = some o) : 0 < s.size ∧ (s.data.toList.getD 0 0).toNat = o.kind.toNat ∧ 1 ≤ o.kind ∧ o.kind ≤ 4 := by
 obtain ⟨hv, he, hl, ha, _, _⟩ := dec_inv h
 have h1 : (encS o).data.toList = byteK o.kind :: (textOf ⟨(bodyL o).toArray⟩).data.toList := by
  unfold encS
  rw [ByteArray.data_append, Array.toList_append]; rfl
 have hk : 1 ≤ o.kind ∧ o.kind ≤ 4 := by
  unfold validB at hv
  simp only [Bool.and_eq_true] at hv
  have hz := hv.2
  by_cases e1 : o.kind = 1
  · omega
  by_cases e2 : o.kind = 2
  · omega
  by_cases e3 : o.kind = 3
  · omega
  by_cases e4 : o.kind = 4
  · omega
  · rw [if_neg e1, if_neg e2, if_neg e3, if_neg e4] at hz; cases hz
 rw [he] at h1
 have hs : s.data.toList.length = s.size := rfl
 refine ⟨by rw [← hs, h1]; simp, ?_, hk⟩
 rw [h1]
 have := byteK_nat (k := o.kind) (by omega) (by omega)
 simp only [List.getD_cons_zero]
 omega
end Rm
end Go.Proofs.YtkcjhkfelaplkaaGreatDoor
end
section
namespace Go.Proofs.YtkcjhkfelaplkaaGreatDoor
open Go.RowKit
def shaI (s : ByteArray) : List UInt8 := S2.Sh.idOf (S2.Sh.sha s.data.toList)
theorem shaI_len (s : ByteArray) : (shaI s).length = 32 := S2.Sh.idOf_length _
theorem id_of (s : ByteArray) (w : World) (hk : S2.KIn w) (hl : s.size ≤ 70368744177664) :
  Calls Tryz.prog 76 #[.string s] w fun r w' => r = .returned (.agg (idC (shaI s)).toArray) ∧ Below w.heap.size w w' := by
 have := id_any s w hk hl
 rw [show S2.Sh.idOf (S2.Sh.sha s.data.toList) = shaI s from rfl, idA_same _ (shaI_len s)] at this
 exact this
theorem refsum_of (s : ByteArray) (w : World) (hl : s.size ≤ 70368744177664) :
  Calls Tryz.prog 98 #[.string s] w fun r w' => r = .returned (.agg (idC (shaI s)).toArray) ∧ Below w.heap.size w w' := by
 have := S2.refsum_any s w hl
 rw [show S2.Sh.idOf (S2.Sh.sha s.data.toList) = shaI s from rfl, idA_same _ (shaI_len s)] at this
 exact this
theorem st_idg {ops : Array Oper} {rest : List Oper} {op : Oper} {a : Act} {w : World} {Q : Exit → Act → World → Prop} {x y : Operand} {g : Nat} {l : List UInt8} {c : Array Value} (ho : op.op = .store 46 x y) (hx : a.eval x = .pointer (some ⟨g, 0, none⟩)) (hy : a.eval y = .agg (idC l).toArray) (hg : op.guard = none) (he : w.heap[g]? = some (.cells c 46)) (hc : c.size = 32) (hl : l.length = 32)
  (h : wpList Tryz.prog ops Q rest (a.put op.dst undef) (w.setRow g (idC l).toArray)) : wpList Tryz.prog ops Q (op :: rest) a w :=
 wpList_store_row hg 46 x y ho g _ hx hy 46 c he (idsize hl) (by simp [hc, idC_length, hl]) (all_oneCell_toArray (idC_one l)) h
theorem new_any (w : World) : Calls Tryz.prog 38 #[] w fun r w' => r = .returned (.pointer (some ⟨w.heap.size, 0, none⟩)) ∧ w' = w.alloc (.cells #[.slice none 0 0] 142) := by
 go_enter Tryz.func38, Tryz.ntmps38
 go_wp2_with fail
 go_ret
 exact ⟨rfl, rfl⟩
theorem new_st (w : World) : PSt (w.alloc (.cells #[.slice none 0 0] 142)) w.heap.size w.heap.size (.slice none 0 0) [] :=
 ⟨heap_alloc_new _ _, own_nil _ _, Nat.le_refl _, (fun r hr => by cases hr), St.nil_srt, Nat.zero_le _⟩
end Go.Proofs.YtkcjhkfelaplkaaGreatDoor
end
section
namespace Go.Proofs.YtkcjhkfelaplkaaGreatDoor
open Go.RowKit
theorem bd_it {ops : Array Oper} {rest : List Oper} {op : Oper} {a : Act} {w : World} {Q : Exit → Act → World → Prop} {x y : Operand} {l : List UInt8} {t : ByteArray} (ho : op.op = .build 148 #[(0, x), (1, y)]) (hx : a.eval x = .agg (idC l).toArray) (hy : a.eval y = .string t) (hg : op.guard = none) (hl : l.length = 32)
  (h : wpList Tryz.prog ops Q rest (a.put op.dst (.agg (itC ⟨l, t⟩).toArray)) w) : wpList Tryz.prog ops Q (op :: rest) a w :=
 wpList_build_as hg _ _ ho _ (by simp only [List.map_toArray, List.map_cons, List.map_nil, hx, hy]; exact built_it l t hl) h
def PutP (w : World) (base b : Nat) (v : Value) (L : List St.It) (s : ByteArray) (r : Ending) (w' : World) : Prop :=
 r = .returned (.tuple #[.agg (idC (shaI s)).toArray, .int .i64 0]) ∧ ∃ v', PSt w' base b v' (St.put L ⟨shaI s, s⟩) ∧ Kept w w' b v ∧ (v'.ownBlock = v.ownBlock ∨ ∃ g, v'.ownBlock = some g ∧ w.heap.size ≤ g)
theorem put_ok (w : World) (base b : Nat) (v : Value) (L : List St.It) (s : ByteArray) (o : Ob) (h : PSt w base b v L) (hk : S2.KIn w) (hs : s.size ≤ maxLen) (hd : Rm.dec s.data.toList = some o) (hl : L.length ≤ 62) (hbase : base ≤ w.heap.size) :
  Calls Tryz.prog 39 #[.pointer (some ⟨b, 0, none⟩), .string s] w (PutP w base b v L s) := by
 have hs46 : s.size ≤ 70368744177664 := by
  obtain ⟨_, _, hl4, _⟩ := Rm.dec_inv hd
  rw [size_list] at hl4
  omega
 have HB := Lib.hid (below_new w (.cells (idC zId).toArray 46))
 have HE := Lib.hid (heap_alloc_last w (.cells (idC zId).toArray 46))
 have hz28 := (zero_of_info zero28).1
 have HS0 := Lib.hid noF.size
 have HN0 := Lib.hid noF.one
 have HD := Lib.hid (fun W => dec_yes s o W hs hd)
 have HI := Lib.hid (fun W (hk : S2.KIn W) => id_of s W hk hs46)
 have HK := Lib.hid hk
 have HH := Lib.hid h
 have HIL := Lib.hid (shaI_len s)
 have HKP := Lib.hid (fun W (h : PSt W base b v L) (hW : base ≤ W.heap.size) => show Calls Tryz.prog 77 #[.pointer (some ⟨b, 0, none⟩), .agg (itC ⟨shaI s, s⟩).toArray] W (KeepP W base b v L ⟨shaI s, s⟩) from by
  cases hq : St.has L (shaI s) with
  | true => exact keep_there W base b v L ⟨shaI s, s⟩ h (shaI_len s) hq
  | false => exact keep_new W base b v L ⟨shaI s, s⟩ h (shaI_len s) hq hl hW)
 unfold PutP
 generalize shaI s = id at *
 generalize (obC noOb nilV nilV).toArray = z at hz28 HS0 HN0
 clear hd hk h
 go_enter Tryz.func39, Tryz.ntmps39
 go_wp2_with fail
 change Calls _ _ _ (w.alloc (.cells (idC zId).toArray 46)) _
 refine (HD.out _).mono ?_
 rintro r w1 ⟨cs, ao, bo, ca, cb, rfl, hO, hb1⟩
 have HCS := Lib.hid hO.F.size
 have HCO := Lib.hid hO.F.one
 have E1 := Lib.hid ((hb1.block w.heap.size (by simp)).trans HE.out)
 have E2 := Lib.hid (held_alloc (o := .cells cs 59) E1.out)
 have hB2 := (HB.out.trans (hb1.mono (by simp))).alloc (HB.out.trans (hb1.mono (by simp))).size (.cells cs 59)
 have HK2 := Lib.hid (HK.out.step hB2)
 clear hb1 hO HD
 go_wp2_with ((with_reducible apply st_ob (hs := HCS.out) (h1 := HCO.out)); rfl; rfl; rfl; rfl; exact HS0.out)
 refine (HI.out _ HK2.out).mono ?_
 rintro r w2 ⟨rfl, hb2⟩
 have HB3 := Lib.hid (below_new w2 (.cells (idC id).toArray 46))
 have HE3 := Lib.hid (heap_alloc_last w2 (.cells (idC id).toArray 46))
 have HR3 := Lib.hid (row_news (heap_alloc_new w2 (.cells (idC id).toArray 46)))
 have hB3 := (hB2.trans (hb2.mono hB2.size)).trans (HB3.out.mono (hB2.trans (hb2.mono hB2.size)).size)
 have E3 := Lib.hid (held_alloc (o := .cells (idC id).toArray 46) ((hb2.block w.heap.size (by have := (Array.getElem?_eq_some_iff.1 E2.out).1; exact this)).trans E2.out))
 have HP3 := Lib.hid (HH.out.below hB3)
 have hs3 := hB3.size
 have hs2 : w.heap.size < w2.heap.size := by
  have h1 := hb2.size
  have h2 := (Array.getElem?_eq_some_iff.1 E2.out).1
  omega
 have HC3 := Lib.hid (HKP.out _ HP3.out (by omega))
 clear hb2 HI HKP
 go_wp2_with (first
  | ((with_reducible refine st_id2 (l := id) (x := .tmp 8) (y := .tmp 21) (g := w2.heap.size) ?_ ?_ ?_ ?_ ?_ ?_ HIL.out ?_); rfl; rfl; rfl; rfl; rfl; rfl)
  | ((with_reducible refine ld_id (x := .tmp 8) (p := ⟨w2.heap.size, 0, none⟩) ?_ ?_ ?_ HR3.out HIL.out ?_); rfl; rfl; rfl)
  | ((with_reducible refine bd_it (l := id) (t := s) (x := .tmp 23) (y := .tmp 24) ?_ ?_ ?_ ?_ HIL.out ?_); rfl; rfl; rfl; rfl))
 refine HC3.out.mono ?_
 rintro r w4 ⟨rfl, v', hp4, hk4, hv4⟩
 have hbl : b < w.heap.size := HH.out.lt
 have hown : ∀ g, v.ownBlock = some g → g < w.heap.size := fun g e => (HH.out.own.lt g e).2
 have E4 := Lib.hid ((hk4.block w.heap.size (by simp; omega) (by omega) (fun e => by have := hown _ e.symm; omega)).trans E3.out)
 have HR4 := Lib.hid (row_news ((hk4.block w2.heap.size (by simp) (by omega) (fun e => by have := hown _ e.symm; omega)).trans HE3.out))
 have HK4 := Lib.hid hk4
 have HP4 := Lib.hid hp4
 have HV4 := Lib.hid hv4
 clear hk4 hp4 hv4
 go_wp2_with (first
  | ((with_reducible refine ld_id (x := .tmp 8) (p := ⟨w2.heap.size, 0, none⟩) ?_ ?_ ?_ HR4.out HIL.out ?_); rfl; rfl; rfl)
  | ((with_reducible refine st_idg (l := id) (x := .tmp 4) (y := .tmp 27) (g := w.heap.size) ?_ ?_ ?_ ?_ E4.out ?_ HIL.out ?_); rfl; rfl; rfl; rfl; rfl))
 refine bodyPost_ret (results_cell_tmp (fn := Tryz.f39) (p := 4) (q := 5) (by rfl) _ _ w.heap.size _ _ _ _ (by rfl) (setRow_heap _ _ _ _ _ _ E4.out) Tryz.underlying46 rfl (by rw [List.size_toArray]; exact idsize HIL.out)) rfl ?_
 have hset : ∀ k, k ≠ w.heap.size → (w4.setRow w.heap.size (idC id).toArray).heap[k]? = w4.heap[k]? := fun k hk => setRow_other _ _ _ _ hk
 have hsz : w.heap.size ≤ w4.heap.size := by have := HK4.out.size; simp at this; omega
 refine ⟨rfl, v', ⟨(hset b (by omega)).trans HP4.out.box, own_kept HP4.out.own (fun g hg => hset g (fun e => own_box HP4.out.own E4.out (by decide) (by rw [hg, e]))), HP4.out.ge, HP4.out.len, HP4.out.srt, HP4.out.few⟩, ⟨HK4.out.os.trans hB3.os, HK4.out.tape.trans hB3.tape, HK4.out.output.trans hB3.output, by simpa using hsz, fun k hk h1 h2 => (hset k (by omega)).trans ((HK4.out.block k (by simp; omega) h1 h2).trans (hB3.block k hk))⟩, ?_⟩
 rcases HV4.out with h | ⟨g, h, hg⟩
 · exact .inl h
 · exact .inr ⟨g, h, by simp at hg; omega⟩
end Go.Proofs.YtkcjhkfelaplkaaGreatDoor
end
section
namespace Go.Proofs.YtkcjhkfelaplkaaGreatDoor
open Go.RowKit
theorem add_two (a : Addr) (n k : Nat) (hk : k ≠ 0) : (a.add n).add k = ⟨a.block, a.off + n + k, none⟩ := by
 unfold Addr.add
 rw [if_neg hk]
 split
 · subst_vars; simp
 · rfl
theorem get_at (w : World) (base b : Nat) (v : Value) (L : List St.It) (k : Nat) (r : St.It) (h : PSt w base b v L) (hr : L[k]? = some r) :
  Calls Tryz.prog 95 #[.pointer (some ⟨b, 0, none⟩), .agg (idC r.id).toArray] w fun e w' => e = .returned (.tuple #[.string r.text, .bool true]) ∧ Below w.heap.size w w' := by
 have hpos := St.pos_eq h.srt hr
 have hhas := St.has_of hr rfl
 have hrl := h.len r (List.mem_of_getElem? hr)
 have hfew := h.few
 have hkl : k < L.length := (List.getElem?_eq_some_iff.1 hr).1
 have HB := Lib.hid (below_new w (.cells (idC r.id).toArray 46))
 have HR := Lib.hid (row_news (heap_alloc_new w (.cells (idC r.id).toArray 46)))
 have HL := Lib.hid hrl
 have HP := Lib.hid (place_any _ base b v L r.id (h.below HB.out) hrl)
 rw [hpos, hhas] at HP
 obtain ⟨ao, cap, rfl⟩ := h.form
 have HH := Lib.hid h
 have HQ := Lib.hid hr
 clear h hr hrl hpos hhas
 go_enter Tryz.func95, Tryz.ntmps95
 go_wp2_with ((with_reducible refine ld_id (x := .tmp 3) (p := ⟨w.heap.size, 0, none⟩) ?_ ?_ ?_ HR.out HL.out ?_); rfl; rfl; rfl)
 refine HP.out.mono ?_
 rintro e w1 ⟨rfl, hb1⟩
 have hB := HB.out.trans (hb1.mono (show w.heap.size ≤ _ by simp))
 have HH1 := HH.out.below hB
 obtain ⟨a, rfl, _, hc⟩ := HH1.elem k r HQ.out
 have ct := it_text hc HL.out
 rw [add_two a (k * 33) 32 (by decide)] at ct
 have cb := HH1.cell
 have hA1 := add_block a (k * 33)
 have hA2 : (a.add (k * 33)).off = a.off + k * 33 := by unfold Addr.add; split <;> simp_all
 have g1 : (k : Int) < (L.length : Int) := by omega
 have g2 : (0 : Int) ≤ (k : Int) := by omega
 clear hb1 HP HH1 hc
 go_wp2_with fail
 go_ret2
 exact ⟨rfl, hB⟩
theorem kind_at (w : World) (base b : Nat) (v : Value) (L : List St.It) (k : Nat) (r : St.It) (h : PSt w base b v L) (hr : L[k]? = some r) (h0 : 0 < r.text.size) (z : Int) (hz : (r.text[0].toNat : Int) = z) :
  Calls Tryz.prog 80 #[.pointer (some ⟨b, 0, none⟩), .agg (idC r.id).toArray] w fun e w' => e = .returned (.int .i64 z) ∧ Below w.heap.size w w' := by
 have hrl := h.len r (List.mem_of_getElem? hr)
 have HB := Lib.hid (below_new w (.cells (idC r.id).toArray 46))
 have HR := Lib.hid (row_news (heap_alloc_new w (.cells (idC r.id).toArray 46)))
 have HL := Lib.hid hrl
 have HP := Lib.hid (get_at _ base b v L k r (h.below HB.out) hr)
 have HZ := Lib.hid hz
 clear h hr hrl hz
 have h0' : (0 : Int) < (r.text.size : Int) := by omega
 have hb0 : (0 : Int) ≤ (r.text[0].toNat : Int) := by omega
 have hb1 : (r.text[0].toNat : Int) ≤ 255 := by have := r.text[0].toNat_lt; omega
 go_enter Tryz.func80, Tryz.ntmps80
 go_wp2_with ((with_reducible refine ld_id (x := .tmp 3) (p := ⟨w.heap.size, 0, none⟩) ?_ ?_ ?_ HR.out HL.out ?_); rfl; rfl; rfl)
 refine HP.out.mono ?_
 rintro e w1 ⟨rfl, hb1⟩
 have hB := HB.out.trans (hb1.mono (show w.heap.size ≤ _ by simp))
 clear hb1 HP
 go_wp2_with fail
 go_ret
 exact ⟨ret_int HZ.out, hB⟩
theorem len_nil (w : World) : Calls Tryz.prog 57 #[.pointer none] w fun r w' => r = .returned (.int .i64 0) ∧ w = w' := by
 go_enter Tryz.func57, Tryz.ntmps57
 go_wp2_with fail
 go_ret
 exact ⟨rfl, rfl⟩
theorem len_any (w : World) (base b : Nat) (v : Value) (L : List St.It) (h : PSt w base b v L) : Calls Tryz.prog 57 #[.pointer (some ⟨b, 0, none⟩)] w fun r w' => r = .returned (.int .i64 (L.length : Int)) ∧ w = w' := by
 obtain ⟨ao, cap, rfl⟩ := h.form
 have cb := h.cell
 clear h
 go_enter Tryz.func57, Tryz.ntmps57
 go_wp2_with fail
 go_ret
 exact ⟨rfl, rfl⟩
end Go.Proofs.YtkcjhkfelaplkaaGreatDoor
end
section
namespace Go.Proofs.YtkcjhkfelaplkaaGreatDoor
open Go.RowKit
theorem flatK_len {k : Nat} : ∀ (C : List (List Value)), (∀ c ∈ C, c.length = k) → C.flatten.length = C.length * k
 | [], _ => by simp
 | c :: t, h => by
   rw [List.flatten_cons, List.length_append, flatK_len t (fun x hx => h x (by simp [hx])), h c (by simp), List.length_cons, Nat.succ_mul]; omega
theorem flatK_get {k : Nat} : ∀ (C : List (List Value)), (∀ c ∈ C, c.length = k) → ∀ (i : Nat) (c : List Value), C[i]? = some c → ∀ (j : Nat) (x : Value), c[j]? = some x → C.flatten[i * k + j]? = some x
 | [], _, i, c, hi, _, _, _ => by simp at hi
 | a :: t, h, i, c, hi, j, x, hx => by
   have ha : a.length = k := h a (by simp)
   rw [List.flatten_cons]
   cases i with
   | zero =>
     simp at hi; subst hi
     have hj : j < a.length := (List.getElem?_eq_some_iff.1 hx).1
     rw [Nat.zero_mul, Nat.zero_add, List.getElem?_append_left hj]
     exact hx
   | succ i =>
     simp at hi
     rw [List.getElem?_append_right (by rw [ha, Nat.succ_mul]; omega), show (i + 1) * k + j - a.length = i * k + j by rw [ha, Nat.succ_mul]; omega]
     exact flatK_get t (fun x hx => h x (by simp [hx])) i c hi j x hx
theorem own_rowsK {w : World} {base e k : Nat} {v : Value} {C : List (List Value)} (h : w.ownsRow base e k v C.length C.flatten) (hk : ∀ c ∈ C, c.length = k) : RowsAt w v k C := by
 refine ⟨?_⟩
 rcases h.2 with ⟨rfl, h0⟩ | ⟨g, cap, cur, rfl, hg, hb⟩
 · exact .inl ⟨rfl, by simpa using h0⟩
 ·
  refine .inr ⟨⟨g, 0, none⟩, cap, rfl, fun i cs hi => ⟨hk cs (List.mem_of_getElem? hi), fun j x hx => ?_⟩⟩
  have := World.ownsRow.cells h (g := g) rfl (i * k + j) x (flatK_get C hk i cs hi j x hx)
  rw [Addr.add_mid] at this
  rw [Addr.add_mid, Addr.add_mid]
  simpa [Nat.add_assoc] using this
theorem own_pushK {w : World} {base e k : Nat} {v : Value} {C : List (List Value)} {c : List Value} (h : w.ownsRow base e k v (C.length + 1) (C.flatten ++ c)) : w.ownsRow base e k v (C ++ [c]).length (C ++ [c]).flatten := by
 rw [List.flatten_append, List.length_append]
 simpa using h
def IdsAt (w : World) (v : Value) (I : List (List UInt8)) : Prop := RowsAt w v 32 (I.map idC)
theorem ids_len {I : List (List UInt8)} (h : ∀ i ∈ I, i.length = 32) : ∀ c ∈ I.map idC, c.length = 32 := fun c hc => by
 obtain ⟨i, hi, rfl⟩ := List.mem_map.1 hc
 rw [idC_length, h i hi]
def idsOf (L : List St.It) : List (List UInt8) := L.map St.It.id
theorem infoIdz : (Tryz.prog.info? 46).map (fun i => (i.zero, i.size, i.bytes)) = some (some (.agg (idC zId).toArray), 32, 32) := by kernel_rfl
end Go.Proofs.YtkcjhkfelaplkaaGreatDoor
end
section
namespace Go.Proofs.YtkcjhkfelaplkaaGreatDoor
open Go.RowKit
theorem fold_splice : ∀ (l : List Value) (k off : Nat) (A : Array Value), off + k + l.length ≤ A.size → ((l.zipIdx k).foldl (fun (acc : Array Value) p => acc.setIfInBounds (off + p.2) p.1) A).toList = splice A.toList (off + k) l
 | [], k, off, A, h => by simp [splice]
 | v :: r, k, off, A, h => by
   have h' : off + k + (r.length + 1) ≤ A.size := by simpa using h
   rw [List.zipIdx_cons, List.foldl_cons, fold_splice r (k + 1) off _ (by simp; omega)]
   simp only [Array.toList_setIfInBounds]
   rw [← Nat.add_assoc, splice_cons _ _ _ _ (by simp; omega)]
theorem fill_one (place : Nat → Option (Nat × Nat)) (A : Array Value) (i off n : Nat) (v : Value) (rest : List (Nat × Value)) (hp : place i = some (off, n)) (hv : v.cells.size = n) (hl : off + n ≤ A.size) :
  Instr.fill place A ((i, v) :: rest) = Instr.fill place (splice A.toList off v.cells.toList).toArray rest := by
 have h1 : ¬ (v.cells.size ≠ n ∨ off + v.cells.size > A.size) := by omega
 have e : (v.cells.zipIdx.foldl (fun (acc : Array Value) p => acc.setIfInBounds (off + p.2) p.1) A) = (splice A.toList off v.cells.toList).toArray := by
  apply Array.ext'
  have := fold_splice v.cells.toList 0 off A (by simp; omega)
  rw [Nat.add_zero] at this
  rw [← this, ← Array.foldl_toList, Array.toList_zipIdx]
 simp only [Instr.fill, hp]
 rw [if_neg (by simpa using h1), e]
theorem splice_all (A cs : List Value) (h : A.length = cs.length) : splice A 0 cs = cs := by
 unfold splice
 simp [← h]
def riC (id : List UInt8) (t : ByteArray) (cs : Array Value) : List Value := idC id ++ (.string t :: cs.toList)
theorem riC_length {id : List UInt8} (t : ByteArray) {cs : Array Value} (h : id.length = 32) (hs : cs.size = 72) : (riC id t cs).length = 105 := by simp [riC, idC_length, h, hs]
theorem infoRi : (Tryz.prog.info? 91).map (fun i => (i.zero, i.size, i.bytes)) = some (some (.agg (riC zId ⟨#[]⟩ (obC noOb nilV nilV).toArray).toArray), 105, 232) := by kernel_rfl
theorem infoRz : (Tryz.prog.info? 91).map (·.size) = some 105 := by kernel_rfl
theorem underRi : Tryz.prog.underlying 91 = some (.struct (Tryz.prog.fieldsOf 91)) := by kernel_rfl
theorem placesRi : (Tryz.prog.fieldsOf 91).toList.mapM (fun f => (Tryz.prog.info? f.type).map fun i => (f.offset, i.size)) = some [(0, 32), (32, 1), (33, 72)] := by kernel_rfl
theorem riC_one (id : List UInt8) (t : ByteArray) {cs : Array Value} (h : cs.all (·.oneCell') = true) : ∀ v ∈ riC id t cs, v.oneCell' = true := by
 intro v hv
 simp only [riC, List.mem_append, List.mem_cons] at hv
 rcases hv with h1 | rfl | h1
 · exact idC_one _ _ h1
 · rfl
 · exact (Array.all_eq_true_iff_forall_mem.1 h) v (by simpa using h1)
theorem built_ri (id : List UInt8) (t : ByteArray) (cs : Array Value) (h : id.length = 32) (hs : cs.size = 72) : Tryz.prog.built 91 [(0, .agg (idC id).toArray), (1, .string t), (2, .agg cs)] = some (riC id t cs).toArray := by
 obtain ⟨i0, hi, hz0, hz1, hz2⟩ := info_parts infoRi
 unfold Program.built
 rw [hi, underRi]
 simp only [hz0, placesRi]
 have hzl := riC_length (id := zId) ⟨#[]⟩ (cs := (obC noOb nilV nilV).toArray) rfl rfl
 have hic : (idC id).length = 32 := by rw [idC_length, h]
 show Instr.fill _ (riC zId ⟨#[]⟩ (obC noOb nilV nilV).toArray).toArray _ = _
 generalize riC zId ⟨#[]⟩ (obC noOb nilV nilV).toArray = Z at hzl
 rw [fill_one _ _ 0 0 32 _ _ rfl (by simpa [Value.cells] using hic) (by simp [hzl])]
 have e1 : splice Z 0 (idC id) = idC id ++ Z.drop 32 := by unfold splice; simp [hic]
 rw [show (splice Z.toArray.toList 0 (Value.agg (idC id).toArray).cells.toList) = idC id ++ Z.drop 32 from e1]
 rw [fill_one _ _ 1 32 1 _ _ rfl rfl (by simp [hzl, hic])]
 have e2 : splice (idC id ++ Z.drop 32) 32 [.string t] = idC id ++ (.string t :: Z.drop 33) := by
  unfold splice
  rw [List.take_append_of_le_length (by omega), List.take_of_length_le (by omega), List.drop_append, hic]
  simp [List.drop_eq_nil_of_le, hic]
 rw [show (splice (idC id ++ Z.drop 32).toArray.toList 32 (Value.string t).cells.toList) = idC id ++ (.string t :: Z.drop 33) from e2]
 rw [fill_one _ _ 2 33 72 (.agg cs) _ rfl hs (by simp [hzl, hic])]
 have e3 : splice (idC id ++ (.string t :: Z.drop 33)) 33 cs.toList = riC id t cs := by
  unfold splice riC
  have hl : (idC id ++ ([Value.string t] : List Value)).length = 33 := by simp [hic]
  rw [show idC id ++ (Value.string t :: Z.drop 33) = (idC id ++ [Value.string t]) ++ Z.drop 33 by simp]
  rw [take_app _ _ _ hl, List.drop_eq_nil_of_le (by simp [hzl, hic, hs])]
  simp
 rw [show (splice (idC id ++ (.string t :: Z.drop 33)).toArray.toList 33 (Value.agg cs).cells.toList) = riC id t cs from e3]
 rfl
theorem builtS_ri (c : List Value) (hc : c.length = 105) : Tryz.prog.builtSlice 91 1 [(0, .agg c.toArray)] = some c.toArray := by
 obtain ⟨i0, hi, hz0, hz1, hz2⟩ := info_parts infoRi
 have hcn : ¬ (1 * 105 > 2 ^ 24 ∨ 1 * 105 = 0) := by decide
 have hz : (Array.map (fun (x : Nat) => (Value.agg (riC zId ⟨#[]⟩ (obC noOb nilV nilV).toArray).toArray).cells[x % (Value.agg (riC zId ⟨#[]⟩ (obC noOb nilV nilV).toArray).toArray).cells.size]!) (Array.range (1 * 105))).size = 105 := by simp
 unfold Program.builtSlice
 rw [hi]
 simp only [hz0, hz1]
 rw [if_neg hcn]
 generalize (Array.map (fun (x : Nat) => (Value.agg (riC zId ⟨#[]⟩ (obC noOb nilV nilV).toArray).toArray).cells[x % (Value.agg (riC zId ⟨#[]⟩ (obC noOb nilV nilV).toArray).toArray).cells.size]!) (Array.range (1 * 105))) = Z at hz
 rw [fill_one _ Z 0 0 105 (.agg c.toArray) _ (by simp) (by simpa [Value.cells] using hc) (by omega)]
 have e : splice Z.toList 0 (Value.agg c.toArray).cells.toList = c := splice_all Z.toList c (by simp [hz, hc])
 rw [e]
 rfl
end Go.Proofs.YtkcjhkfelaplkaaGreatDoor
end
