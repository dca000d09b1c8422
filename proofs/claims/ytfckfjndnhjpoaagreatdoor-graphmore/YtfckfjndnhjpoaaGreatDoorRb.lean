/-
  LAYER 12, the law's examples: the three objects, their ids, what is reached (no program).
-/
import Derived.Test.YtfckfjndnhjpoaaGreatDoorRa
import Derived.Test.YtfckfjndnhjpoaaGreatDoorQa
set_option linter.unusedVariables false
set_option linter.unusedSimpArgs false
set_option maxHeartbeats 8000000
set_option maxRecDepth 100000
section
namespace Go.Proofs.YtfckfjndnhjpoaaGreatDoor
open Go.RowKit
def Kn.tree : Ob := { noOb with kind := 2 }
def Kn.old : Ob := { noOb with kind := 3, tree := shaI (encS Kn.tree), time := 9 }
def Kn.young : Ob := { noOb with kind := 3, tree := shaI (encS Kn.tree), pars := [shaI (encS Kn.old)], time := 5 }
def Kn.it : St.It := ⟨shaI (encS Kn.tree), encS Kn.tree⟩
def Kn.io : St.It := ⟨shaI (encS Kn.old), encS Kn.old⟩
def Kn.iy : St.It := ⟨shaI (encS Kn.young), encS Kn.young⟩
theorem Kn.ids : (Kn.it.id == Kn.io.id) = false ∧ (Kn.it.id == Kn.iy.id) = false ∧ (Kn.io.id == Kn.iy.id) = false ∧ St.lt Kn.iy.id Kn.it.id = true ∧ St.lt Kn.it.id Kn.io.id = true := by decide +kernel
theorem Kn.next : Gr.nx (St.put (St.put [] Kn.it) Kn.iy) [] Kn.iy.id = [Kn.it.id, Kn.io.id] ∧ Gr.nx (St.put (St.put [] Kn.it) Kn.iy) [] Kn.it.id = [] ∧ Gr.nx (St.put (St.put [] Kn.it) Kn.iy) [] Kn.io.id = [] := by decide +kernel
theorem Kn.has : St.has (St.put (St.put [] Kn.it) Kn.iy) Kn.iy.id = true ∧ St.has (St.put (St.put [] Kn.it) Kn.iy) Kn.it.id = true ∧ St.has (St.put (St.put [] Kn.it) Kn.iy) Kn.io.id = false := by decide +kernel
theorem Kn.reach (x : Gr.Id) : Gr.Rch (Gr.nx (St.put (St.put [] Kn.it) Kn.iy) []) [Kn.iy.id] x ↔ x = Kn.iy.id ∨ x = Kn.it.id ∨ x = Kn.io.id := by
 obtain ⟨h1, h2, h3⟩ := Kn.next
 constructor
 ·
  refine Gr.Rch.least (P := fun x => x = Kn.iy.id ∨ x = Kn.it.id ∨ x = Kn.io.id) (fun x hx => .inl (by simpa using hx)) (fun a b ha hb => ?_)
  rcases ha with rfl | rfl | rfl
  · rw [h1] at hb; simpa using Or.inr hb
  · rw [h2] at hb; cases hb
  · rw [h3] at hb; cases hb
 ·
  have h0 : Gr.Rch (Gr.nx (St.put (St.put [] Kn.it) Kn.iy) []) [Kn.iy.id] Kn.iy.id := .base (by simp)
  rintro (rfl | rfl | rfl)
  · exact h0
  · exact .step h0 (by rw [h1]; simp)
  · exact .step h0 (by rw [h1]; simp)
theorem Kn.there {T M : List Gr.Id} (hT : Gr.Up T) (hM : Gr.Up M) (h : ∀ x, (x ∈ T ↔ Gr.Rch (Gr.nx (St.put (St.put [] Kn.it) Kn.iy) []) [Kn.iy.id] x ∧ St.has (St.put (St.put [] Kn.it) Kn.iy) x = true) ∧ (x ∈ M ↔ Gr.Rch (Gr.nx (St.put (St.put [] Kn.it) Kn.iy) []) [Kn.iy.id] x ∧ St.has (St.put (St.put [] Kn.it) Kn.iy) x = false)) : T = [Kn.iy.id, Kn.it.id] ∧ M = [Kn.io.id] := by
 obtain ⟨a1, a2, a3⟩ := Kn.has
 obtain ⟨_, _, _, l1, _⟩ := Kn.ids
 constructor
 ·
  refine Gr.up_eq hT ?_ (fun x => ?_)
  · exact List.Pairwise.cons (fun b hb => by rw [List.mem_singleton.1 hb]; exact l1) (List.pairwise_singleton _ _)
  ·
   rw [(h x).1, Kn.reach]
   constructor
   ·
    rintro ⟨rfl | rfl | rfl, hh⟩
    · simp
    · simp
    · rw [a3] at hh; cases hh
   ·
    intro hx
    simp only [List.mem_cons, List.not_mem_nil, or_false] at hx
    rcases hx with rfl | rfl
    · exact ⟨.inl rfl, a1⟩
    · exact ⟨.inr (.inl rfl), a2⟩
 ·
  refine Gr.up_eq hM ?_ (fun x => ?_)
  · exact List.pairwise_singleton _ _
  ·
   rw [(h x).2, Kn.reach]
   constructor
   ·
    rintro ⟨rfl | rfl | rfl, hh⟩
    · rw [a1] at hh; cases hh
    · rw [a2] at hh; cases hh
    · simp
   ·
    intro hx
    obtain rfl : x = Kn.io.id := by simpa using hx
    exact ⟨.inr (.inr rfl), a3⟩
end Go.Proofs.YtfckfjndnhjpoaaGreatDoor
end
section
namespace Go.Proofs.YtfckfjndnhjpoaaGreatDoor
open Go.RowKit
def Kn.all (E : List ByteArray) : List St.It := E.foldl (fun L s => St.put L ⟨shaI s, s⟩) []
theorem Kn.all_step {E : List ByteArray} {k : Nat} {s : ByteArray} (h : E[k]? = some s) : Kn.all (E.take (k + 1)) = St.put (Kn.all (E.take k)) ⟨shaI s, s⟩ := by
 obtain ⟨hk, rfl⟩ := List.getElem?_eq_some_iff.1 h
 unfold Kn.all
 rw [List.take_succ_eq_append_getElem hk, List.foldl_append]; rfl
theorem all_nil (w : World) (g : Nat) (E : List ByteArray) (hg : g < w.heap.size) (hc : ∀ (i : Nat) (s : ByteArray), E[i]? = some s → w.cell? ⟨g, i, none⟩ = some (.string s)) (hs : ∀ s ∈ E, s.size ≤ 5000 ∧ Rm.dec s.data.toList ≠ none) (hn : E.length ≤ 60) :
  Calls Tryz.prog 37 #[.agg #[.slice none 0 0], .slice (some ⟨g, 0, none⟩) E.length E.length] w fun r w' => ∃ v', r = .returned (.agg #[v']) ∧ R.DSt (w.heap.size + 2) 0 w' v' (Kn.all E) ∧ Below w.heap.size w w' := by
 have HC := Lib.hid hc
 have HS := Lib.hid hs
 have HB2 := Lib.hid (below2 w (.cells #[.slice none 0 0] 28) (.cells #[.slice none 0 0] 28))
 have HX2 := Lib.hid (show ((w.alloc (.cells #[.slice none 0 0] 28)).alloc (.cells #[.slice none 0 0] 28)).heap[w.heap.size]? = some (.cells #[.slice none 0 0] 28) from by
  rw [heap_alloc_old _ _ (by simp)]; exact heap_alloc_new _ _)
 have HN2 := Lib.hid (new2 w (.cells #[.slice none 0 0] 28) (.cells #[.slice none 0 0] 28))
 clear hc hs
 go_enter Tryz.func37, Tryz.ntmps37
 go_wp2_with fail
 go_loopw [5] (fun i wr => ∃ (k : Nat) (sv : Value) (L : List St.It), k ≤ E.length ∧ i = .int .i64 k ∧ L.length ≤ k ∧ Hid (L = Kn.all (E.take k)) ∧ Hid (R.DSt (w.heap.size + 2) 0 wr sv L) ∧ Hid (wr.heap[w.heap.size]? = some (.cells #[sv] 28)) ∧ Hid (wr.heap[w.heap.size + 1]? = some (.cells #[.slice none 0 0] 28)) ∧ Hid (Below w.heap.size w wr)) (fun i _ => E.length - (intOf i).toNat)
 case atStart => exact ⟨0, _, [], by omega, rfl, by simp, rfl, R.DSt.nil _ _ _, HX2.out, HN2.out, HB2.out⟩
 case round =>
  clear HX2 HN2 HB2
  obtain ⟨k, sv, L, hk, rfl, hLk, HL, HD, HX, HZ, HB⟩ := hrel
  obtain ⟨so, sc, rfl⟩ := HD.out.form
  have hlt0 := (Array.getElem?_eq_some_iff.1 HX.out).1
  have hlt1 := (Array.getElem?_eq_some_iff.1 HZ.out).1
  by_cases hlt : k < E.length
  ·
   have hlt' : (k : Int) < (E.length : Int) := by omega
   have hk0 : (0 : Int) ≤ (k : Int) := by omega
   obtain ⟨s, hes⟩ : ∃ s, E[k]? = some s := ⟨E[k], List.getElem?_eq_getElem hlt⟩
   have HSZ := HS.out s (List.mem_of_getElem? hes)
   have hss := HSZ.1
   have HSD := Lib.hid HSZ.2
   have HFS := Lib.hid (show St.put L ⟨shaI s, s⟩ = Kn.all (E.take (k + 1)) by rw [Kn.all_step hes, HL.out])
   have c0 : wr.drew.cell? ⟨w.heap.size, 0, none⟩ = some (.slice so L.length sc) := by
    show wr.cell? _ = _
    rw [cell_of_row _ _ 0 _ _ _ HX.out]; rfl
   have HSW := Lib.hid (show ∀ W' : World, (∀ g', g' < w.heap.size → W'.heap[g']? = wr.heap[g']?) → W'.cell? ⟨g, k, none⟩ = some (.string s) from fun W' hb => by
    have h1 := HC.out k s hes
    rw [World.cell?_of_block (w := w) ((hb g hg).trans (HB.out.block g hg))]; exact h1)
   have HWI := Lib.hid (R.with_any (w.heap.size + 2) 0 wr.drew (.slice so L.length sc) L s (HD.out.below (Below.refl _ _).drew) hss (show w.heap.size + 2 ≤ wr.heap.size by omega) (Nat.zero_le _) (by omega))
   clear hes HSZ
   go_wp2_with fail
   refine wp_region_noPanic ?_
   refine wp_region_held_drew (S := (fun w' => ∀ g', g' < w.heap.size → w'.heap[g']? = wr.heap[g']?)) (by kernel_rfl) (fun g' _ => rfl) (fun hH => ?_)
   refine tk (i := 1) (v := ?_) ?_ ?_
   rotate_left
   · intro w' hSw; go_simp; try rfl
   try simp only [q0]
   refine tk (i := 2) (v := ?_) ?_ ?_
   rotate_left
   · intro w' hSw; go_simp; try rfl
   try simp only [q0]
   refine tk (i := 3) (v := ?_) ?_ ?_
   rotate_left
   · intro w' hSw; go_simp; try rfl
   try simp only [q0]
   refine tk (i := 4) (v := ?_) ?_ ?_
   rotate_left
   · intro w' hSw; have q0 := HSW.out _ hSw; go_simp; try rfl
   try simp only [q0]
   refine wpAnyH_ready (rs := [0]) (by kernel_rfl) (by simp) ?_
   refine AllReadyH.cons rfl (fun K hK => ?_) AllReadyH.nil
   have q0 := c0
   go_simp
   refine hK.out _ _ (fun g' _ => rfl) (fun hH1 => ?_)
   clear hK K
   try simp only [q0]
   refine wpAnyH_ready (rs := [5]) (by kernel_rfl) (by simp) ?_
   refine AllReadyH.cons rfl (fun K hK => ?_) AllReadyH.nil
   go_simp
   with_reducible refine HWI.out.mono ?_
   rintro r w9 (⟨hno, _, _⟩ | ⟨_, v9, rfl, hd9, hb9⟩)
   · exact absurd hno HSD.out
   obtain ⟨vo, vc, rfl⟩ := hd9.form
   have HB9 := Lib.hid (show Below wr.heap.size wr w9 from (Below.refl wr.heap.size wr).drew.trans hb9)
   have HD9 := Lib.hid hd9
   have HX9 := Lib.hid ((HB9.out.block _ hlt0).trans HX.out)
   have HZ9 := Lib.hid ((HB9.out.block _ hlt1).trans HZ.out)
   clear hd9
   go_wp2_with fail
   refine hK.out _ _ (fun g' hg' => HB9.out.block _ (by omega)) (fun hH5 => ?_)
   clear hK K
   try simp only [q0]
   refine tk (i := 6) (v := ?_) ?_ ?_
   rotate_left
   · intro w' hSw; go_simp; try rfl
   try simp only [q0]
   refine tk (i := 7) (v := ?_) ?_ ?_
   rotate_left
   · intro w' hSw; go_simp; try rfl
   try simp only [q0]
   refine tk (i := 8) (v := ?_) ?_ ?_
   rotate_left
   · intro w' hSw; go_simp; try rfl
   try simp only [q0]
   refine tk (i := 9) (v := ?_) ?_ ?_
   rotate_left
   · intro w' hSw; go_simp; try rfl
   try simp only [q0]
   refine wpAnyH_ready (rs := [10]) (by kernel_rfl) (by simp) ?_
   refine AllReadyH.cons rfl (fun K hK => ?_) AllReadyH.nil
   rw [if_pos (by rfl)]
   refine wp_store_row 28 (.tmp 2) (.tmp 19) rfl w.heap.size #[.slice vo (St.put L ⟨shaI s, s⟩).length vc] rfl rfl 28 _ HX9.out sizeSt rfl (by simp [Value.oneCell']) ?_
   refine hK.out _ _ (fun g' hg' => (setRow_other _ _ _ _ (by omega)).trans (HB9.out.block _ (by omega))) (fun hH10 => ?_)
   clear hK K
   try simp only [q0]
   refine wpAnyH_done (by kernel_rfl) ?_ _
   refine NoPanic.normal ?_
   go_wp2_with fail
   go_roundw
   case rel => exact ⟨k + 1, _, St.put L ⟨shaI s, s⟩, by omega, by go_num, by have := St.put_length L ⟨shaI s, s⟩; omega, HFS.out, HD9.out.box HX9.out (by omega) _, setRow_heap _ _ _ _ _ _ HX9.out, by show _ = _; rw [setRow_other _ _ _ _ (by omega)]; exact HZ9.out, below_setRow (HB.out.trans (HB9.out.mono HB.out.size)) (by omega) _⟩
   case measure => simp [intOf]; omega
  ·
   have hlt' : ¬ (k : Int) < (E.length : Int) := by omega
   have HL2 := Lib.hid (show L = Kn.all E by have := HL.out; rwa [List.take_of_length_le (by omega)] at this)
   have l0 : wr.cell? ⟨w.heap.size, 0, none⟩ = some (.slice so L.length sc) := by rw [cell_of_row _ _ 0 _ _ _ HX.out]; rfl
   go_wp2_with ((with_reducible refine st_st (x := .tmp 4) (y := .tmp 22) (g := w.heap.size + 1) (v := .slice so L.length sc) (c := #[.slice none 0 0]) ?_ ?_ ?_ ?_ HZ.out rfl rfl ?_); rfl; rfl; rfl; rfl)
   refine bodyPost_ret (results_cell_row (fn := Tryz.f37) (p := 4) (by rfl) _ _ (w.heap.size + 1) _ _ _ _ (by rfl) (setRow_heap _ _ _ _ _ _ HZ.out) underSt rfl sizeSt) rfl ?_
   exact ⟨_, rfl, by rw [← HL2.out]; exact HD.out.box HZ.out (by omega) _, below_setRow HB.out (by omega) _⟩
end Go.Proofs.YtfckfjndnhjpoaaGreatDoor
end
section
namespace Go.Proofs.YtfckfjndnhjpoaaGreatDoor
open Go.RowKit
theorem Kn.encs : encOk Kn.tree = true ∧ encOk Kn.old = true ∧ encOk Kn.young = true := by decide +kernel
theorem Kn.sizes : (encS Kn.tree).size ≤ 100 ∧ (encS Kn.old).size ≤ 100 ∧ (encS Kn.young).size ≤ 100 := by decide +kernel
theorem Kn.decs : (Rm.dec (encS Kn.tree).data.toList).isSome = true ∧ (Rm.dec (encS Kn.old).data.toList).isSome = true ∧ (Rm.dec (encS Kn.young).data.toList).isSome = true := by decide +kernel
theorem Kn.built_t : Tryz.prog.built 54 [(0, .int .i64 2)] = some (obC { noOb with kind := 2 } nilV nilV).toArray := by kernel_rfl
theorem Kn.built_o (l : List UInt8) (h : l.length = 32) (ti : Nat) : Tryz.prog.built 54 [(0, .int .i64 3), (3, .agg (idC l).toArray), (5, .int .u32 (ti : Int))] = some (obC { noOb with kind := 3, tree := l, time := ti } nilV nilV).toArray := by
 obtain ⟨x0, x1, x2, x3, x4, x5, x6, x7, x8, x9, x10, x11, x12, x13, x14, x15, x16, x17, x18, x19, x20, x21, x22, x23, x24, x25, x26, x27, x28, x29, x30, x31, rfl⟩ := len32 h
 kernel_rfl
theorem Kn.built_y (l : List UInt8) (h : l.length = 32) (pv : Value) (bo : Option Addr) (n c : Nat) (hp : pv = .slice bo n c) (ps : List (List UInt8)) (ti : Nat) : Tryz.prog.built 54 [(0, .int .i64 3), (3, .agg (idC l).toArray), (5, .int .u32 (ti : Int)), (4, pv)] = some (obC { noOb with kind := 3, tree := l, pars := ps, time := ti } nilV pv).toArray := by
 subst hp
 obtain ⟨x0, x1, x2, x3, x4, x5, x6, x7, x8, x9, x10, x11, x12, x13, x14, x15, x16, x17, x18, x19, x20, x21, x22, x23, x24, x25, x26, x27, x28, x29, x30, x31, rfl⟩ := len32 h
 kernel_rfl
end Go.Proofs.YtfckfjndnhjpoaaGreatDoor
end
section
namespace Go.Proofs.YtfckfjndnhjpoaaGreatDoor
open Go.RowKit
theorem Kn.at_t (w : World) : ObAt w (obC { noOb with kind := 2 } nilV nilV).toArray Kn.tree none none 0 0 :=
 ⟨obC_F _ _ _ rfl rfl rfl rfl, RowsAt.nil _ _, RowsAt.nil _ _, (fun e he => by cases he), (fun e he => by cases he), (fun e he => by cases he), (show (0 : Nat) ≤ maxLen from Nat.zero_le _), (show (0 : Nat) ≤ maxLen from Nat.zero_le _), (show (0 : Nat) ≤ maxLen from Nat.zero_le _), (show (0 : Nat) < 4294967296 by decide)⟩
theorem Kn.at_o (w : World) : ObAt w (obC { noOb with kind := 3, tree := shaI (encS Kn.tree), time := 9 } nilV nilV).toArray Kn.old none none 0 0 :=
 ⟨obC_F _ _ _ (shaI_len _) rfl rfl rfl, RowsAt.nil _ _, RowsAt.nil _ _, (fun e he => by cases he), (fun e he => by cases he), (fun e he => by cases he), (show (0 : Nat) ≤ maxLen from Nat.zero_le _), (show (0 : Nat) ≤ maxLen from Nat.zero_le _), (show (0 : Nat) ≤ maxLen from Nat.zero_le _), (show (9 : Nat) < 4294967296 by decide)⟩
theorem Kn.at_y (w : World) (g : Nat) (hr : RowsAt w (.slice (some ⟨g, 0, none⟩) 1 1) 32 ([shaI (encS Kn.old)].map idC)) : ObAt w (obC { noOb with kind := 3, tree := shaI (encS Kn.tree), pars := [shaI (encS Kn.old)], time := 5 } nilV (.slice (some ⟨g, 0, none⟩) 1 1)).toArray Kn.young none (some ⟨g, 0, none⟩) 0 1 :=
 ⟨obC_F _ _ _ (shaI_len _) rfl rfl rfl, RowsAt.nil _ _, hr, (fun e he => by cases he), (fun e he => by cases he), (fun p hp => by rw [List.mem_singleton.1 hp]; exact shaI_len _), (show (0 : Nat) ≤ maxLen from Nat.zero_le _), (show (1 : Nat) ≤ maxLen by unfold maxLen; omega), (show (0 : Nat) ≤ maxLen from Nat.zero_le _), (show (5 : Nat) < 4294967296 by decide)⟩
theorem Kn.enc_t (w : World) : Calls Tryz.prog 35 #[.agg (obC { noOb with kind := 2 } nilV nilV).toArray] w fun r w' => r = .returned (.tuple #[.string (encS Kn.tree), .bool true]) ∧ Below w.heap.size w w' := by
 have h := refencode_any _ Kn.tree none none 0 0 w (Kn.at_t w) (Nat.zero_le _) (Nat.zero_le _)
 rw [Kn.encs.1] at h; exact h
theorem Kn.enc_o (w : World) : Calls Tryz.prog 35 #[.agg (obC { noOb with kind := 3, tree := shaI (encS Kn.tree), time := 9 } nilV nilV).toArray] w fun r w' => r = .returned (.tuple #[.string (encS Kn.old), .bool true]) ∧ Below w.heap.size w w' := by
 have h := refencode_any _ Kn.old none none 0 0 w (Kn.at_o w) (Nat.zero_le _) (Nat.zero_le _)
 rw [Kn.encs.2.1] at h; exact h
theorem Kn.enc_y (w : World) (g : Nat) (hr : RowsAt w (.slice (some ⟨g, 0, none⟩) 1 1) 32 ([shaI (encS Kn.old)].map idC)) : Calls Tryz.prog 35 #[.agg (obC { noOb with kind := 3, tree := shaI (encS Kn.tree), pars := [shaI (encS Kn.old)], time := 5 } nilV (.slice (some ⟨g, 0, none⟩) 1 1)).toArray] w fun r w' => r = .returned (.tuple #[.string (encS Kn.young), .bool true]) ∧ Below w.heap.size w w' := by
 have h := refencode_any _ Kn.young none (some ⟨g, 0, none⟩) 0 1 w (Kn.at_y w g hr) (Nat.zero_le _) (Nat.zero_le _)
 rw [Kn.encs.2.2] at h; exact h
end Go.Proofs.YtfckfjndnhjpoaaGreatDoor
end
