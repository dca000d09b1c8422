/-
  WALKS OF LAYER 12: the walker's addEnd, next.
-/
import Derived.Test.YtfckfjndnhjpoaaGreatDoorRg
import Derived.Test.YtfckfjndnhjpoaaGreatDoorQy
import Derived.Test.YtfckfjndnhjpoaaGreatDoorQa
set_option linter.unusedVariables false
set_option linter.unusedSimpArgs false
set_option maxHeartbeats 8000000
set_option maxRecDepth 100000
section
namespace Go.Proofs.YtfckfjndnhjpoaaGreatDoor
open Go.RowKit
theorem idsize2 {l : List UInt8} (h : l.length = 32) : (Tryz.prog.info? 42).map (·.size) = some (idC l).toArray.size := by rw [List.size_toArray]; exact idsize h
theorem aend_any {E : Option (List UInt8)} {w w' : World} {r : Ending} (h : Gr.AEnd E w r w') : ∃ x is, r = .returned (.tuple #[.agg (idC x).toArray, .bool is]) ∧ x.length = 32 ∧ Below w.heap.size w w' ∧ (if is = true then E = some x else E = none) := by
 obtain ⟨h1, h2, h3⟩ := h
 refine ⟨_, _, h1, h2, h3, ?_⟩
 cases E <;> simp
def Gr.eds (L : List St.It) : List (List UInt8) → List (List UInt8)
 | [] => []
 | x :: r => match Gr.endF L L.length x with
   | none => Gr.eds L r
   | some y => y :: Gr.eds L r
theorem Gr.eds_app (L : List St.It) : ∀ (A B : List (List UInt8)), Gr.eds L (A ++ B) = Gr.eds L A ++ Gr.eds L B
 | [], B => rfl
 | x :: r, B => by
   rw [List.cons_append, Gr.eds, Gr.eds]
   cases Gr.endF L L.length x with
   | none => exact Gr.eds_app L r B
   | some y => simp only [Gr.eds_app L r B, List.cons_append]
theorem addEnd_wk (w W : World) (K b mb n sbase sb : Nat) (sv v : Value) (L : List St.It) (C : List Cd) (S : List (List UInt8)) (id : List UInt8) (h : Wr w W K b mb n (.pointer (some ⟨sb, 0, none⟩)) v L C S) (hP : PSt w sbase sb sv L) (hd : Gr.Dec L) (hid : id.length = 32) (hn : n < 100000) (hC : C.length ≤ 900) :
  Calls Tryz.prog 52 #[.pointer (some ⟨b, 0, none⟩), .agg (idC id).toArray] W fun r W' => r = .returned (.tuple #[]) ∧ AddP w W K b mb n (.pointer (some ⟨sb, 0, none⟩)) v L C S (Gr.eds L [id]) W' := by
 have hz24 := (zero_of_info zero24).1
 have HS0 := Lib.hid (show (idC zId).toArray.size = 32 by decide)
 generalize (idC zId).toArray = z at hz24 HS0
 have HEN := Lib.hid (fun W' (hb : Below w.heap.size w W') => (end_any W' sbase sb sv L id (hP.below hb) hd hid).mono fun r w' hh => aend_any hh)
 have HPP := Lib.hid hP
 have HIZ := Lib.hid (show (Tryz.prog.info? 42).map (·.size) = some (idC id).length from idsize hid)
 have HIL := Lib.hid hid
 have hWs : w.heap.size ≤ W.heap.size := h.bel.size
 have HBD1 := Lib.hid (show Below (W.heap.size + 1) (W.alloc (.cells (idC id).toArray 42)) (W.alloc (.cells (idC id).toArray 42)).drew from (Below.refl _ _).drew)
 have HBW := Lib.hid (show Below w.heap.size w (W.alloc (.cells (idC id).toArray 42)) from h.bel.alloc hWs _)
 have HBD := Lib.hid (show Below w.heap.size w (W.alloc (.cells (idC id).toArray 42)).drew from HBW.out.drew)
 have hbl := h.wb.bl
 have HSP := Lib.hid (show ∀ W' : World, (∀ g, g < W.heap.size + 1 → W'.heap[g]? = (W.alloc (.cells (idC id).toArray 42)).heap[g]?) → W'.cell? ⟨b, 0, none⟩ = some (.pointer (some ⟨sb, 0, none⟩)) from fun W' hw => by
  rw [World.cell?_of_block (w := W) ((hw b (by omega)).trans (heap_alloc_old _ _ hbl)), cell_of_row _ _ 0 _ _ _ h.wb.box]; rfl)
 have HRW := Lib.hid (show ∀ W' : World, (∀ g, g < W.heap.size + 1 → W'.heap[g]? = (W.alloc (.cells (idC id).toArray 42)).heap[g]?) → ∀ j u, (idC id)[j]? = some u → W'.cell? ((⟨W.heap.size, 0, none⟩ : Addr).add j) = some u from fun W' hw => row_news ((hw _ (by omega)).trans (heap_alloc_last _ _)))
 have HW := Lib.hid h
 have HDD := Lib.hid hd
 clear h hP hd hid
 go_enter Tryz.func52, Tryz.ntmps52
 go_upto_region 1 with (fail)
 go_cut [4, 5] from 6 to 14 (fun ov isv wx => ∃ g x is, ov = .pointer (some ⟨g, 0, none⟩) ∧ isv = .bool is ∧ W.heap.size + 1 ≤ g ∧ Hid (x.length = 32) ∧ Hid (wx.heap[g]? = some (.cells (idC x).toArray 42)) ∧ Hid (if is = true then Gr.endF L L.length id = some x else Gr.endF L L.length id = none) ∧ Hid (Below (W.heap.size + 1) (W.alloc (.cells (idC id).toArray 42)) wx))
 case first =>
  refine wp_region_noPanic ?_
  refine wp_region_held_drew (S := (fun w' => ∀ g, g < W.heap.size + 1 → w'.heap[g]? = (W.alloc (.cells (idC id).toArray 42)).heap[g]?)) (by kernel_rfl) (fun g _ => rfl) (fun hH => ?_)
  refine tk (i := 0) (v := ?_) ?_ ?_
  rotate_left
  · intro w' hSw; go_simp; try rfl
  try simp only [q0]
  refine tk (i := 1) (v := ?_) ?_ ?_
  rotate_left
  · intro w' hSw; go_simp; try rfl
  try simp only [q0]
  refine tk (i := 2) (v := ?_) ?_ ?_
  rotate_left
  · intro w' hSw; go_simp; try rfl
  try simp only [q0]
  refine tk (i := 3) (v := ?_) ?_ ?_
  rotate_left
  · intro w' hSw; have q0 := HSP.out _ hSw; go_simp; try rfl
  try simp only [q0]
  refine wpAnyH_take (i := 4) rfl (by kernel_rfl) (by kernel_rfl) (by kernel_rfl) (fun _ _ _ h => h) (yields_at (p := ⟨W.heap.size, 0, none⟩) (cs := idC id) (by rfl) rfl rfl (fun w' hw' => HRW.out w' hw') Tryz.underlying42 rfl HIZ.out) (by assumption) ?_
  try simp only [q0]
  refine wpAnyH_ready (rs := [5, 9]) (by kernel_rfl) (by simp) ?_
  refine AllReadyH.cons rfl (fun K hK => ?_) (AllReadyH.cons rfl (fun K hK => ?_) AllReadyH.nil)
  ·
   go_simp
   with_reducible refine (HEN.out _ HBD.out).mono ?_
   rintro r w5 ⟨x, is, rfl, hxl, hb5, hq⟩
   have HXL := Lib.hid hxl
   have HB5 := Lib.hid (show Below (W.heap.size + 1) (W.alloc (.cells (idC id).toArray 42)) w5 from by have h1 := HBD1.out.trans (hb5.mono (show W.heap.size + 1 ≤ _ by simp)); exact h1)
   have hz5 : W.heap.size + 1 ≤ w5.heap.size := by have := HB5.out.size; simpa using this
   have HQ := Lib.hid hq
   have HXI := Lib.hid (show (idC x).toArray.size = 32 by simpa [idC_length] using hxl)
   clear hxl hb5 hq
   go_wp2_with fail
   refine hK.out _ _ (fun g hg => HB5.out.block g hg) (fun _ => ?_)
   clear hK K
   try simp only [q0]
   refine tk (i := 6) (v := ?_) ?_ ?_
   rotate_left
   · intro w' hSw; go_simp; try rfl
   try simp only [q0]
   refine tk (i := 7) (v := ?_) ?_ ?_
   rotate_left
   · intro w' hSw; go_simp; try rfl
   try simp only [q0]
   refine tk (i := 8) (v := ?_) ?_ ?_
   rotate_left
   · intro w' hSw; go_simp; try rfl
   try simp only [q0]
   refine wpAnyH_ready (rs := [9]) (by kernel_rfl) (by simp) ?_
   refine AllReadyH.cons rfl (fun K hK => ?_) AllReadyH.nil
   go_simp
   refine hK.out _ _ (fun g hg => (heap_alloc_old _ _ (by omega)).trans (HB5.out.block g hg)) (fun _ => ?_)
   clear hK K
   try simp only [q0]
   have HN6 := Lib.hid (heap_alloc_last w5 (.cells z 42))
   refine wpAnyH_ready (rs := [10]) (by kernel_rfl) (by simp) ?_
   refine AllReadyH.cons rfl (fun K hK => ?_) AllReadyH.nil
   rw [if_pos (by rfl)]
   refine wp_store_row 42 (.tmp 4) (.tmp 13) rfl w5.heap.size (idC x).toArray rfl rfl 42 _ HN6.out (idsize2 HXL.out) (by rw [HS0.out, HXI.out]) (all_oneCell_toArray (idC_one x)) ?_
   refine hK.out _ _ (fun g hg => (setRow_other _ _ _ _ (by omega)).trans ((heap_alloc_old _ _ (by omega)).trans (HB5.out.block g hg))) (fun _ => ?_)
   clear hK K
   try simp only [q0]
   refine tk (i := 11) (v := ?_) ?_ ?_
   rotate_left
   · intro w' hSw; go_simp; try rfl
   try simp only [q0]
   refine wpAnyH_done (by kernel_rfl) ?_ _
   refine NoPanic.normal ?_
   go_wp2_with fail
   go_meet
   case rel => exact ⟨w5.heap.size, x, is, rfl, rfl, hz5, HXL.out, setRow_heap _ _ _ _ _ _ HN6.out, HQ.out, below_setRow (HB5.out.alloc hz5 _) hz5 _⟩
  ·
   go_simp
   refine hK.out _ _ (fun g hg => heap_alloc_old _ _ (by simp; omega)) (fun _ => ?_)
   clear hK K
   try simp only [q0]
   have hb4 : Below (W.heap.size + 1) (W.alloc (.cells (idC id).toArray 42)) ((W.alloc (.cells (idC id).toArray 42)).alloc (.cells z 42)).drew := ((Below.refl _ _).alloc (by simp) _).drew
   have HB4 := Lib.hid hb4
   have HB4W := Lib.hid (show Below w.heap.size w ((W.alloc (.cells (idC id).toArray 42)).alloc (.cells z 42)).drew from (HBW.out.alloc (by have := HBW.out.size; exact this) _).drew)
   clear hb4
   refine wpAnyH_ready (rs := [5]) (by kernel_rfl) (by simp) ?_
   refine AllReadyH.cons rfl (fun K hK => ?_) AllReadyH.nil
   go_simp
   with_reducible refine (HEN.out _ HB4W.out).mono ?_
   rintro r w5 ⟨x, is, rfl, hxl, hb5, hq⟩
   have HXL := Lib.hid hxl
   have HB5 := Lib.hid (show Below (W.heap.size + 1) (W.alloc (.cells (idC id).toArray 42)) w5 from HB4.out.trans (hb5.mono (by simp)))
   have hz5 : W.heap.size + 2 ≤ w5.heap.size := by have := hb5.size; simpa using this
   have HN6 := Lib.hid (show w5.heap[W.heap.size + 1]? = some (.cells z 42) from (hb5.block (W.heap.size + 1) (by simp)).trans (by have := heap_alloc_last (W.alloc (.cells (idC id).toArray 42)) (.cells z 42); rwa [show (W.alloc (.cells (idC id).toArray 42)).heap.size = W.heap.size + 1 by simp] at this))
   have HQ := Lib.hid hq
   have HXI := Lib.hid (show (idC x).toArray.size = 32 by simpa [idC_length] using hxl)
   clear hxl hb5 hq
   go_wp2_with fail
   refine hK.out _ _ (fun g hg => HB5.out.block g hg) (fun _ => ?_)
   clear hK K
   try simp only [q0]
   refine tk (i := 6) (v := ?_) ?_ ?_
   rotate_left
   · intro w' hSw; go_simp; try rfl
   try simp only [q0]
   refine tk (i := 7) (v := ?_) ?_ ?_
   rotate_left
   · intro w' hSw; go_simp; try rfl
   try simp only [q0]
   refine tk (i := 8) (v := ?_) ?_ ?_
   rotate_left
   · intro w' hSw; go_simp; try rfl
   try simp only [q0]
   refine wpAnyH_ready (rs := [10]) (by kernel_rfl) (by simp) ?_
   refine AllReadyH.cons rfl (fun K hK => ?_) AllReadyH.nil
   rw [if_pos (by rfl)]
   refine wp_store_row 42 (.tmp 4) (.tmp 13) rfl (W.heap.size + 1) (idC x).toArray rfl rfl 42 _ HN6.out (idsize2 HXL.out) (by rw [HS0.out, HXI.out]) (all_oneCell_toArray (idC_one x)) ?_
   refine hK.out _ _ (fun g hg => (setRow_other _ _ _ _ (by omega)).trans (HB5.out.block g hg)) (fun _ => ?_)
   clear hK K
   try simp only [q0]
   refine tk (i := 11) (v := ?_) ?_ ?_
   rotate_left
   · intro w' hSw; go_simp; try rfl
   try simp only [q0]
   refine wpAnyH_done (by kernel_rfl) ?_ _
   refine NoPanic.normal ?_
   go_wp2_with fail
   go_meet
   case rel => exact ⟨W.heap.size + 1, x, is, rfl, rfl, Nat.le_refl _, HXL.out, setRow_heap _ _ _ _ _ _ HN6.out, HQ.out, below_setRow HB5.out (Nat.le_refl _) _⟩
 case rest =>
  obtain ⟨g, x, is, rfl, rfl, hgK, HXL, HG, HQ, HBX⟩ := hcut
  have hbW : Below W.heap.size W wc := (below_new W _).trans (HBX.out.mono (by omega))
  have HWC := Lib.hid (HW.out.below hbW)
  have HBC := Lib.hid hbW
  have HGR := Lib.hid (row_news HG.out)
  clear hbW HBX HRW HSP HBD HBW HBD1 HEN HS0 hz24
  cases is with
  | false =>
    have HE := Lib.hid (show Gr.eds L [id] = [] from by have := HQ.out; simp at this; simp [Gr.eds, this])
    go_wp2_with fail
    refine bodyPost_end (results_none rfl _ _ _) rfl ?_
    exact ⟨rfl, v, C, n, by rw [HE.out]; simpa [Wk.nw] using HWC.out, Fr.of_below HBC.out b mb v, Nx.refl _ _, by omega, by rw [HE.out]; simp [Wk.nw], fun c hc => .inl hc⟩
  | true =>
    have HE := Lib.hid (show Gr.eds L [id] = [x] from by have := HQ.out; simp at this; simp [Gr.eds, this])
    have HAD := Lib.hid (add_wk w wc K b mb n sbase sb sv v L C S x HWC.out HPP.out HDD.out HXL.out hn hC)
    go_wp2_with ((with_reducible refine ld_id (l := x) (x := .tmp 4) (p := ⟨g, 0, none⟩) ?_ ?_ ?_ HGR.out HXL.out ?_); rfl; rfl; rfl)
    with_reducible refine HAD.out.mono ?_
    rintro r w2 ⟨rfl, v2, C2, n2, k1, k2, k3, k4, k5, k6⟩
    have HEND := Lib.hid (show AddP w W K b mb n (.pointer (some ⟨sb, 0, none⟩)) v L C S (Gr.eds L [id]) w2 from by
     rw [HE.out]
     exact ⟨v2, C2, n2, k1, (Fr.of_below HBC.out b mb v).trans k2 (Nx.refl _ _), by
      rcases k3 with e | e
      · exact .inl e
      · exact .inr fun q hq => Nat.le_trans HBC.out.size (e q hq), k4, k5, fun c hc => (k6 c hc).imp_right fun h a n q e => Nat.le_trans HBC.out.size (h a n q e)⟩)
    clear k1 k2 k3 k4 k5 k6 HAD
    go_wp2_with fail
    refine bodyPost_end (results_none rfl _ _ _) rfl ?_
    exact ⟨rfl, HEND.out⟩
theorem ta_cd (w : World) (c : Array Value) : (Instr.typeAssert (.iface 109 (.agg c)) 20 109 false).run Tryz.prog w = .ok (.agg c) w := by kernel_rfl
theorem next_wk (w W : World) (K b mb n m : Nat) (sp v : Value) (L : List St.It) (C : List Cd) (S : List (List UInt8)) (h : Wr w W K b mb n sp v L C S) (hl : C.length = m + 1) (hm : m ≤ 900) :
  Calls Tryz.prog 53 #[.pointer (some ⟨b, 0, none⟩)] W fun r W' => ∃ c v' C', r = .returned (.agg (cdC c).toArray) ∧ c ∈ C ∧ (∀ x ∈ C, Cd.lt x c = false) ∧ C.Perm (c :: C') ∧ Wr w W' K b mb n sp v' L C' S ∧ POk W' K v' c.par (Gr.prs L c.id) ∧ Fr W W' b mb v ∧ Nx W v v' := by
 have hzc := (zero_of_info zeroCd).1
 have HZS := Lib.hid (show zCd.toArray.size = 34 by decide)
 generalize zCd.toArray = z at hzc HZS
 have hbl := h.wb.bl
 have hbn := below_new W (.cells z 109)
 have h1 := h.below hbn
 have HPO := Lib.hid (hpop_cd _ K b sp (.map (some mb)) v C m h1.wb h1.KW h1.hp hl (by omega))
 have HBN := Lib.hid hbn
 have HX := Lib.hid (heap_alloc_last W (.cells z 109))
 have HW := Lib.hid h
 have hta := ta_cd
 have hvl : ∀ q, v.ownBlock = some q → q < W.heap.size := fun q hq => (h.wb.own.own.lt q hq).2
 have HVL := Lib.hid hvl
 clear h h1 hbn hvl
 go_enter Tryz.func53, Tryz.ntmps53
 go_wp2_with fail
 with_reducible refine HPO.out.mono ?_
 rintro r w2 ⟨v2, C2, c, rfl, hW2, hp2, hmin, hI2, hC2, hN2⟩
 have hX2 : w2.heap[W.heap.size]? = some (.cells z 109) := (hC2.block W.heap.size (by simp) (by omega) (fun e => by have := HVL.out _ e; omega)).trans HX.out
 have HX2 := Lib.hid hX2
 have hnx : Nx W v v2 := by
  rcases hN2 with e | e
  · exact .inl e
  · exact .inr fun q hq => by have := e q hq; simp at this; omega
 have hv2 : ∀ q, v2.ownBlock = some q → q ≠ W.heap.size := fun q hq => by
  rcases hN2 with e | e
  · have := HVL.out q (by rw [← e]; exact hq); omega
  · have := e q hq; simp at this; omega
 have hWB3 : WB (w2.setRow W.heap.size (cdC c).toArray) K b sp (.map (some mb)) v2 C2 := ⟨(setRow_other _ _ _ _ (by omega)).trans hW2.box, ⟨own_kept hW2.own.own (fun q hq => setRow_other _ _ _ _ (hv2 q hq))⟩, hW2.lt⟩
 have hCh3 : Ch W (w2.setRow W.heap.size (cdC c).toArray) b v := ⟨hC2.os, hC2.tape, hC2.output, by have := hC2.size; simp at this; simp [World.setRow]; omega, fun g hg hb hv => (setRow_other _ _ _ _ (by omega)).trans ((hC2.block g (by simp; omega) hb hv).trans (heap_alloc_old _ _ hg))⟩
 have HEND := Lib.hid (show c ∈ C ∧ (∀ x ∈ C, Cd.lt x c = false) ∧ C.Perm (c :: C2) ∧ Wr w (w2.setRow W.heap.size (cdC c).toArray) K b mb n sp v2 L C2 S ∧ POk (w2.setRow W.heap.size (cdC c).toArray) K v2 c.par (Gr.prs L c.id) ∧ Fr W (w2.setRow W.heap.size (cdC c).toArray) b mb v ∧ Nx W v v2 from by
  have hcm : c ∈ C := hp2.mem_iff.2 (by simp)
  exact ⟨hcm, hmin, hp2, HW.out.heap hWB3 hI2 hCh3 hnx (fun x hx => .inl (hp2.mem_iff.2 (by simp [hx]))), (HW.out.ok c hcm).2.2.move (fun g hk hg hv => hCh3.block g hg (by have := HW.out.wb.lt; omega) hv) hnx, Fr.of_ch hCh3 mb, hnx⟩)
 have HC1 := Lib.hid (show (cdC c).toArray.size = 34 by simpa using cdC_length c)
 have HC2 := Lib.hid (show (Tryz.prog.info? 109).map (·.size) = some (cdC c).toArray.size by rw [List.size_toArray]; exact cdsize c)
 have HC3 := Lib.hid (all_oneCell_toArray (cdC_one c))
 clear hW2 hp2 hmin hI2 hC2 hN2 hX2 hnx hv2 hWB3 hCh3 HPO
 go_wp2_with ((with_reducible refine wpList_store_row ?_ 109 (.tmp 2) (.tmp 8) ?_ W.heap.size (cdC c).toArray ?_ ?_ 109 z HX2.out HC2.out (by rw [HZS.out, HC1.out]) HC3.out ?_); rfl; rfl; rfl; rfl)
 refine bodyPost_ret (results_cell_row (fn := Tryz.f53) (p := 2) (by rfl) _ _ W.heap.size _ _ _ _ (by rfl) (setRow_heap _ _ _ _ _ _ HX2.out) underCd rfl HC2.out) rfl ?_
 exact ⟨c, v2, C2, rfl, HEND.out⟩
end Go.Proofs.YtfckfjndnhjpoaaGreatDoor
end
section
namespace Go.Proofs.YtfckfjndnhjpoaaGreatDoor
open Go.RowKit
def Gr.ah (L : List St.It) (a b : List UInt8) : Bool := if Gr.tm L a = Gr.tm L b then St.lt a b else decide (Gr.tm L b < Gr.tm L a)
def Gr.pr (L : List St.It) (cut : List (List UInt8)) (x : List UInt8) : List (List UInt8) := if x ∈ cut then [] else (Gr.prs L x).filter (Gr.cm L)
theorem Gr.ah_asy (L : List St.It) (a b : List UInt8) (h : Gr.ah L a b = true) : Gr.ah L b a = false := by
 unfold Gr.ah at *
 by_cases e : Gr.tm L a = Gr.tm L b
 · rw [if_pos e] at h; rw [if_pos e.symm]; exact St.lt_asymm h
 ·
  rw [if_neg e] at h; rw [if_neg (fun k => e k.symm)]
  simp at h ⊢; omega
theorem Gr.ah_tot (L : List St.It) {a b : List UInt8} (hl : a.length = b.length) (h : Gr.ah L b a = false) (hne : b ≠ a) : Gr.ah L a b = true := by
 unfold Gr.ah at *
 by_cases e : Gr.tm L a = Gr.tm L b
 ·
  rw [if_pos e.symm] at h; rw [if_pos e]
  rcases St.lt_tri hl with k | k | k
  · exact k
  · exact absurd k.symm hne
  · rw [k] at h; cases h
 ·
  rw [if_neg (fun k => e k.symm)] at h; rw [if_neg e]
  simp at h ⊢; omega
theorem Wk.nw_app (cm : List UInt8 → Bool) : ∀ (A B S : List (List UInt8)), Wk.nw cm S (A ++ B) = Wk.nw cm S A ++ Wk.nw cm (S ++ Wk.nw cm S A) B
 | [], B, S => by simp [Wk.nw]
 | y :: r, B, S => by
   rw [List.cons_append, Wk.nw, Wk.nw]
   by_cases h : cm y = true ∧ y ∉ S
   ·
    rw [if_pos h, if_pos h, Wk.nw_app cm r B (S ++ [y])]
    simp
   · rw [if_neg h, if_neg h, Wk.nw_app cm r B S]
theorem Wk.nw_cm (cm : List UInt8 → Bool) : ∀ (A S : List (List UInt8)), ∀ x ∈ Wk.nw cm S A, cm x = true
 | [], S, x, h => by simp [Wk.nw] at h
 | y :: r, S, x, h => by
   rw [Wk.nw] at h
   by_cases k : cm y = true ∧ y ∉ S
   ·
    rw [if_pos k] at h
    rcases List.mem_cons.1 h with e | e
    · rw [e]; exact k.1
    · exact Wk.nw_cm cm r _ x e
   ·
    rw [if_neg k] at h
    exact Wk.nw_cm cm r _ x h
theorem Gr.cm_in {L : List St.It} {x : List UInt8} (h : Gr.cm L x = true) : x ∈ idsOf L := by
 unfold Gr.cm at h
 cases ho : Gr.ob L x with
 | none => rw [ho] at h; cases h
 | some o => exact Gr.ob_has ho
theorem Gr.cm_few {L : List St.It} {S : List (List UInt8)} (hn : S.Nodup) (hc : ∀ x ∈ S, Gr.cm L x = true) : S.length ≤ L.length := by
 have := Gr.nodup_len (A := S) (B := idsOf L) hn (fun x hx => Gr.cm_in (hc x hx))
 simpa [idsOf] using this
theorem Gr.eds_flat (L : List St.It) : ∀ (F : List (List UInt8)), F.flatMap (fun x => Gr.eds L [x]) = Gr.eds L F
 | [] => rfl
 | x :: r => by
   rw [List.flatMap_cons, Gr.eds_flat L r, ← Gr.eds_app]; rfl
theorem flat_one_id : ∀ (F : List (List UInt8)), F.flatMap (fun x => [x]) = F
 | [] => rfl
 | x :: r => by rw [List.flatMap_cons, flat_one_id r]; rfl
theorem each_wk (f : FuncId) (D : List UInt8 → List (List UInt8)) (hDl : ∀ x, (D x).length ≤ 1) (w W0 : World) (K b mb n0 : Nat) (sp v0 iv : Value) (L : List St.It) (C0 : List Cd) (S0 I : List (List UInt8)) (IP : World → Value → Prop)
  (hE : ∀ args w, (callFunc f args).run Tryz.prog w = .ok (.enter f args) w)
  (hf : ∀ W n v C S x, Wr w W K b mb n sp v L C S → x.length = 32 → n < 100000 → C.length ≤ 900 → Calls Tryz.prog f #[.pointer (some ⟨b, 0, none⟩), .agg (idC x).toArray] W fun r W' => r = .returned (.tuple #[]) ∧ AddP w W K b mb n sp v L C S (D x) W')
  (hl : ∀ i ∈ I, i.length = 32) (hn : I.length ≤ 3000) (hn0 : n0 ≤ 50000) (hS : S0.Nodup) (hSc : ∀ x ∈ S0, Gr.cm L x = true) (hC0 : C0.length ≤ 100) (hL : L.length ≤ 100)
  (hIP : ∀ W v, IP W v → IdsAt W iv I) (hmv : ∀ W W' v v' n C S, IP W v → Wr w W' K b mb n sp v' L C S → Fr W W' b mb v → Nx W v v' → IP W' v')
  (h : Wr w W0 K b mb n0 sp v0 L C0 S0) (h0 : IP W0 v0) :
  Calls Tryz.prog 51 #[iv, .func (.func f) #[.pointer (some ⟨b, 0, none⟩)] #[]] W0 fun r W' => r = .returned (.tuple #[]) ∧ AddP w W0 K b mb n0 sp v0 L C0 S0 (I.flatMap D) W' := by
 have hfl : ∀ (A : List (List UInt8)), (A.flatMap D).length ≤ A.length := by
  intro A
  induction A with
  | nil => simp
  | cons x r ih => rw [List.flatMap_cons, List.length_append, List.length_cons]; have := hDl x; omega
 refine (each_any f (.pointer (some ⟨b, 0, none⟩)) iv I (fun k W => ∃ v C n, Wr w W K b mb n sp v L C (S0 ++ Wk.nw (Gr.cm L) S0 ((I.take k).flatMap D)) ∧ Fr W0 W b mb v0 ∧ Nx W0 v0 v ∧ n ≤ n0 + ((I.take k).flatMap D).length ∧ (C.map Cd.id).Perm (C0.map Cd.id ++ Wk.nw (Gr.cm L) S0 ((I.take k).flatMap D)) ∧ (∀ c ∈ C, c ∈ C0 ∨ ∀ (a : Addr) n q, c.par = .slice (some a) n q → W0.heap.size ≤ a.block) ∧ IP W v) W0 hE hl (by omega) (fun k W ⟨v, C, n, _, _, _, _, _, _, hi⟩ => hIP W v hi) ?_ ?_).mono ?_
 ·
  rintro k W x ⟨v, C, n, h1, h2, h3, h4, h5, h6, h7⟩ hx
  have hk : k < I.length := (List.getElem?_eq_some_iff.1 hx).1
  have htk : I.take (k + 1) = I.take k ++ [x] := take_id hx
  have hnd := Wk.nw_nodup (Gr.cm L) ((I.take k).flatMap D) S0 hS
  have hfew := Gr.cm_few (L := L) hnd (fun y hy => by
   rcases List.mem_append.1 hy with e | e
   · exact hSc y e
   · exact Wk.nw_cm _ _ _ y e)
  have hCl : C.length ≤ 900 := by
   have := h5.length_eq
   simp only [List.length_map, List.length_append] at this hfew
   omega
  have hft := hfl (I.take k)
  rw [List.length_take] at hft
  have hbn := below_new W (.cells (idC x).toArray 42)
  refine (hf (W.alloc (.cells (idC x).toArray 42)) n v C _ x (h1.below hbn) (hl x (List.mem_of_getElem? hx)) (by omega) hCl).mono ?_
  rintro r W' ⟨rfl, v', C', n', k1, k2, k3, k4, k5, k6⟩
  have hfr : Fr W W' b mb v := (Fr.of_below hbn b mb v).trans k2 (Nx.refl _ _)
  have hnx : Nx W v v' := by
   rcases k3 with e | e
   · exact .inl e
   · exact .inr fun q hq => by have := e q hq; simp at this; omega
  have hnw : Wk.nw (Gr.cm L) S0 ((I.take (k + 1)).flatMap D) = Wk.nw (Gr.cm L) S0 ((I.take k).flatMap D) ++ Wk.nw (Gr.cm L) (S0 ++ Wk.nw (Gr.cm L) S0 ((I.take k).flatMap D)) (D x) := by
   rw [htk, List.flatMap_append, Wk.nw_app]; simp
  refine ⟨rfl, v', C', n', ?_, h2.trans hfr h3, h3.trans hnx h2.size, ?_, ?_, fun c hc => ?_, hmv W W' v v' n' C' _ h7 k1 hfr hnx⟩
  · rw [hnw, ← List.append_assoc]; exact k1
  ·
   rw [htk, List.flatMap_append, List.length_append]
   simp only [List.flatMap_cons, List.flatMap_nil, List.append_nil]
   omega
  ·
   rw [hnw, ← List.append_assoc]
   exact k5.trans (h5.append_right _)
  ·
   rcases k6 c hc with e | e
   · exact h6 c e
   · exact .inr fun a m q ha => Nat.le_trans h2.size (by have := e a m q ha; simp at this; omega)
 · exact ⟨v0, C0, n0, by simpa [Wk.nw] using h, Fr.of_below (Below.refl _ _) b mb v0, Nx.refl _ _, by simp, by simp [Wk.nw], fun c hc => .inl hc, h0⟩
 ·
  rintro r W' ⟨rfl, v, C, n, h1, h2, h3, h4, h5, h6, _⟩
  rw [List.take_length] at h1 h4 h5
  exact ⟨rfl, v, C, n, h1, h2, h3, h4, h5, h6⟩
theorem Fr.below {W W' : World} {b mb B : Nat} {v : Value} (h : Fr W W' b mb v) (hB : B ≤ W.heap.size) (hb : B ≤ b) (hm : B ≤ mb) (hv : ∀ g, v.ownBlock = some g → B ≤ g) : Below B W W' :=
 ⟨h.os, h.tape, h.output, h.size, fun g hg => h.block g (by omega) (by omega) (by omega) (fun e => by have := hv g e; omega)⟩
end Go.Proofs.YtfckfjndnhjpoaaGreatDoor
end
