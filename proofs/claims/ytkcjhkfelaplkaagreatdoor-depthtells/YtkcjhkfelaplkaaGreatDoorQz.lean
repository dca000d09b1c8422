/-
  WALKS OF LAYER 12: the law's Few.
-/
import Derived.Test.YtkcjhkfelaplkaaGreatDoorQy
import Derived.Test.YtkcjhkfelaplkaaGreatDoorQx
import Derived.Test.YtkcjhkfelaplkaaGreatDoorQa
set_option linter.unusedVariables false
set_option linter.unusedSimpArgs false
set_option maxHeartbeats 8000000
set_option maxRecDepth 100000
section
namespace Go.Proofs.YtkcjhkfelaplkaaGreatDoor
open Go.RowKit
def Gr.fil (G : List (List UInt8)) (L : List St.It) : List St.It := L.filter (fun r => !decide (r.id ∈ G))
theorem Gr.fil_step {G : List (List UInt8)} {L : List St.It} {k : Nat} {x : St.It} (hx : L[k]? = some x) : Gr.fil G (L.take (k + 1)) = if x.id ∈ G then Gr.fil G (L.take k) else Gr.fil G (L.take k) ++ [x] := by
 obtain ⟨hk, rfl⟩ := List.getElem?_eq_some_iff.1 hx
 unfold Gr.fil
 rw [List.take_succ_eq_append_getElem hk, List.filter_append]
 by_cases h : L[k].id ∈ G
 · rw [if_pos h]; simp [List.filter, h]
 · rw [if_neg h]; simp [List.filter, h]
theorem Gr.fil_srt {G : List (List UInt8)} {L : List St.It} (h : St.Srt L) : St.Srt (Gr.fil G L) := List.Pairwise.sublist List.filter_sublist h
theorem Gr.fil_len (G : List (List UInt8)) (L : List St.It) : (Gr.fil G L).length ≤ L.length := List.length_filter_le _ _
theorem built_st0 : Tryz.prog.built 28 [] = some #[.slice none 0 0] := by kernel_rfl
theorem bd_st0 {ops : Array Oper} {rest : List Oper} {op : Oper} {a : Act} {w : World} {Q : Exit → Act → World → Prop} (ho : op.op = .build 28 #[]) (hg : op.guard = none)
  (h : wpList Tryz.prog ops Q rest (a.put op.dst (.agg #[.slice none 0 0])) w) : wpList Tryz.prog ops Q (op :: rest) a w :=
 wpList_build_as hg _ _ ho _ (by simpa using built_st0) h
theorem wp_bsRi {op : Oper} {a : Act} {w : World} {K : Act → World → Prop} {Q : Exit → Act → World → Prop} {x : Operand} {c : List Value} (ho : op.op = .buildSlice 26 1 #[(0, x)]) (hx : a.eval x = .agg c.toArray) (hl : c.length = 105)
  (h : K (a.put op.dst (.slice (some ⟨w.heap.size, 0, none⟩) 1 1)) (w.alloc (.cells c.toArray 91))) : op.wp Tryz.prog a w K Q := by
 obtain ⟨ie, hie, hz, h1, _⟩ := info_parts infoRi
 have hf := builtS_ri c hl
 unfold Program.builtSlice at hf
 simp only [hie, hz] at hf
 rw [if_neg (by rw [h1]; decide)] at hf
 exact wp_buildSlice 26 91 1 _ ho _ ie _ Tryz.underlying26 hie hz (by rw [h1]; decide) (by rw [h1]; decide) (by simp only [List.map_toArray, List.map_cons, List.map_nil, hx]; exact hf) h
theorem wp_apRi {op : Oper} {a : Act} {wr : World} {K : Act → World → Prop} {Q : Exit → Act → World → Prop} {v : Value} {C : List (List Value)} {c : List Value} {base : Nat} (s x : Operand)
  (ho : op.op = .call { callee := .builtin .append, args := #[s, x], argTypes := #[26, 26] }) (hs : a.eval s = v) (hx : a.eval x = .slice (some ⟨wr.heap.size, 0, none⟩) 1 1)
  (h : OwnR wr base v C) (hb : base ≤ wr.heap.size) (hc : c.length = 105) (h1c : ∀ u ∈ c, u.oneCell' = true) (hl : C.length ≤ 2000)
  (hK : ∀ v' w', Hid (OwnR w' base v' (C ++ [c])) → Hid ((wr.alloc (.cells c.toArray 91)).grownBy w' v.ownBlock) → K (a.put op.dst v') w') : op.wp Tryz.prog a (wr.alloc (.cells c.toArray 91)) K Q := by
 obtain ⟨i0, hi, hz0, hz1, hz2⟩ := info_parts infoRi
 refine wp_append_own _ s x 26 ho base 91 i0 _ 105 232 Tryz.underlying26 hi hz0 hz1 hz2 (by decide) (by decide) v C.length C.flatten hs (World.ownsRow.alloc h.own _) ⟨wr.heap.size, 0, none⟩ 1 1 c hx (by rw [hc]) (row_news (heap_alloc_new _ _)) h1c (by unfold maxLen; omega) (by omega) (by simp; omega) ?_
 intro v' w' h1 h2 _
 refine hK v' w' ⟨own_pushK h1, ?_⟩ h2
 intro i hi
 rcases List.mem_append.1 hi with h' | h'
 · exact h.len i h'
 · rw [List.mem_singleton.1 h']; exact hc
def FewY (w : World) (r : Ending) (w' : World) : Prop := ∃ mv L B kk, r = .returned (.tuple #[.agg #[mv], .bool true]) ∧ R.DSt B kk w' mv L ∧ L.length ≤ 24 ∧ Below w.heap.size w w'
theorem lawfew_yes (w : World) (sv lo lf lc : Value) (S : List Sd) (O F C : List UInt8) (h : SdsAt w sv S) (hl : S.length ≤ maxLen) (hg : goodG S) (hO : ByAt w lo O) (hF : ByAt w lf F) (hC : ByAt w lc C) (hOn : O.length ≤ 10) (hFn : F.length ≤ 10) (hCn : C.length ≤ 10) :
  Calls Tryz.prog 7 #[.agg #[sv, lo, lf, lc]] w (FewY w) := by
 unfold FewY
 have HFG := Lib.hid (fun W (hb : Below w.heap.size w W) => show Calls Tryz.prog 34 #[sv, .int .i64 24] W (fun r w' => r = .returned (.bool true) ∧ Below W.heap.size W w') from by
  have := few_g W sv S (h.below hb) hl
  rw [decide_eq_true hg] at this; exact this)
 have HGR := Lib.hid (fun W (hb : Below w.heap.size w W) => R.grow_any W sv S (h.below hb) hg)
 obtain ⟨ao, cap, rfl⟩ := h.form
 obtain ⟨oo, oc, rfl⟩ := hO.form
 obtain ⟨fo, fc, rfl⟩ := hF.form
 obtain ⟨co, cc, rfl⟩ := hC.form
 have HHO := Lib.hid hO
 have q1 : ¬ (10 : Int) < (O.length : Int) := by omega
 have q2 : ¬ (10 : Int) < (F.length : Int) := by omega
 have q3 : ¬ (10 : Int) < (C.length : Int) := by omega
 have HB2 := Lib.hid (below2 w (.cells #[.slice ao S.length cap, .slice oo O.length oc, .slice fo F.length fc, .slice co C.length cc] 25) (.cells #[.slice none 0 0] 28))
 have HH2 := Lib.hid (show ((w.alloc (.cells #[.slice ao S.length cap, .slice oo O.length oc, .slice fo F.length fc, .slice co C.length cc] 25)).alloc (.cells #[.slice none 0 0] 28)).heap[w.heap.size]? = some (.cells #[.slice ao S.length cap, .slice oo O.length oc, .slice fo F.length fc, .slice co C.length cc] 25) from by
  rw [heap_alloc_old _ _ (by simp)]; exact heap_alloc_new _ _)
 have HX2 := Lib.hid (new2 w (.cells #[.slice ao S.length cap, .slice oo O.length oc, .slice fo F.length fc, .slice co C.length cc] 25) (.cells #[.slice none 0 0] 28))
 have HZ2 := Lib.hid (show ((w.alloc (.cells #[.slice ao S.length cap, .slice oo O.length oc, .slice fo F.length fc, .slice co C.length cc] 25)).alloc (.cells #[.slice none 0 0] 28)).heap.size = w.heap.size + 2 by simp)
 clear h hg hO hF hC
 go_enter Tryz.func7, Tryz.ntmps7
 go_wp2_with fail
 refine (HFG.out _ HB2.out).mono ?_
 rintro r w3 ⟨rfl, hb3⟩
 have hz2 := HZ2.out
 have HB3 := Lib.hid (HB2.out.trans (hb3.mono HB2.out.size))
 have HH3 := Lib.hid ((hb3.block _ (by omega)).trans HH2.out)
 have HX3 := Lib.hid ((hb3.block _ (by omega)).trans HX2.out)
 have hz3 : w.heap.size + 2 ≤ w3.heap.size := by have := hb3.size; omega
 have e0 : w3.cell? ⟨w.heap.size, 0, none⟩ = some (.slice ao S.length cap) := by rw [cell_of_row _ _ 0 _ _ _ HH3.out]; rfl
 have e1 : w3.cell? ⟨w.heap.size, 1, none⟩ = some (.slice oo O.length oc) := by rw [cell_of_row _ _ 1 _ _ _ HH3.out]; rfl
 have e2 : w3.cell? ⟨w.heap.size, 2, none⟩ = some (.slice fo F.length fc) := by rw [cell_of_row _ _ 2 _ _ _ HH3.out]; rfl
 have e3 : w3.cell? ⟨w.heap.size, 3, none⟩ = some (.slice co C.length cc) := by rw [cell_of_row _ _ 3 _ _ _ HH3.out]; rfl
 clear hb3 HFG HB2 HH2 HX2 HZ2 hz2
 go_wp2_with fail
 refine (HGR.out _ HB3.out).mono ?_
 rintro r w4 ⟨gv, iv, L, I, kk, rfl, hD, hL, hI, hIl, hIn, hb4⟩
 obtain ⟨vo, vc, rfl⟩ := hD.form
 obtain ⟨io, ic, rfl⟩ : ∃ io ic, iv = .slice io I.length ic := by simpa using RowsAt.form hI
 have hb5 := hb4.alloc hb4.size (.cells #[.slice vo L.length vc] 28)
 have HB5 := Lib.hid (HB3.out.trans (hb5.mono HB3.out.size))
 have HX5 := Lib.hid ((hb5.block (w.heap.size + 1) (by omega)).trans HX3.out)
 have HH5 := Lib.hid ((hb5.block w.heap.size (by omega)).trans HH3.out)
 have hz4 : w.heap.size + 2 ≤ w4.heap.size := by have := hb4.size; omega
 have HD := Lib.hid hD
 have HI := Lib.hid hI
 have HIL := Lib.hid hIl
 clear hb4 hb5 HGR hD hI hIl HB3 HH3 HX3 e0 e1 e2 e3
 by_cases hI0 : I.length = 0
 ·
  have hI0' : ((I.length : Int) == 0) = true := by rw [hI0]; rfl
  go_wp2_with ((with_reducible refine st_st (x := .tmp 2) (y := .tmp 44) (g := w.heap.size + 1) (v := .slice vo L.length vc) (c := #[.slice none 0 0]) ?_ ?_ ?_ ?_ HX5.out rfl rfl ?_); rfl; rfl; rfl; rfl)
  refine bodyPost_ret (results_cell_tmp (fn := Tryz.f7) (p := 2) (q := 3) (by rfl) _ _ (w.heap.size + 1) _ _ _ _ (by rfl) (setRow_heap _ _ _ _ _ _ HX5.out) underSt rfl sizeSt) rfl ?_
  exact ⟨.slice vo L.length vc, L, w3.heap.size, kk, rfl, (HD.out.below (below_new w4 _)).box HX5.out (by omega) _, hL, below_setRow HB5.out (by omega) _⟩
 ·
  have hI0' : ((I.length : Int) == 0) = false := by simpa using hI0
  have HID := Lib.hid (lawIds_any (w4.alloc (.cells #[.slice vo L.length vc] 28)) _ _ I O (RowsAt.below HI.out (below_new w4 _)) HIL.out (by omega) (HHO.out.below HB5.out) hOn)
  have e1 : (w4.alloc (.cells #[.slice vo L.length vc] 28)).cell? ⟨w.heap.size, 1, none⟩ = some (.slice oo O.length oc) := by rw [cell_of_row _ _ 1 _ _ _ HH5.out]; rfl
  clear hI0
  go_wp2_with fail
  refine HID.out.mono ?_
  rintro r w6 ⟨gv, G, rfl, hG, hGn, hb6⟩
  have HG := Lib.hid hG.rows
  have HGL := Lib.hid hG.len
  have h46 : Below w4.heap.size w4 w6 := (below_new w4 _).trans (hb6.mono (by simp))
  have HD6 := Lib.hid (HD.out.below h46)
  have HB6 := Lib.hid (HB5.out.trans (hb6.mono HB5.out.size))
  have hz6 : w4.heap.size + 1 ≤ w6.heap.size := by have := hb6.size; simpa using this
  have HX6 := Lib.hid ((hb6.block (w.heap.size + 1) (by simp; omega)).trans HX5.out)
  have HS6 := Lib.hid ((hb6.block w4.heap.size (by simp)).trans (heap_alloc_new w4 (.cells #[.slice vo L.length vc] 28)))
  have HN7 := Lib.hid (heap_alloc_new w6 (.cells #[.slice none 0 0] 28))
  have HB7 := Lib.hid (below_new w6 (.cells #[.slice none 0 0] 28))
  have hz7 : (w6.alloc (.cells #[.slice none 0 0] 28)).heap.size = w6.heap.size + 1 := by simp
  clear hG hb6 h46 HD HI HIL HID HX5 HH5 HB5 e1 HHO
  go_wp2_with ((with_reducible refine bd_st0 ?_ ?_ ?_); rfl; rfl)
  go_loopw [9] (fun i wr => ∃ (k : Nat) (lv : Value) (CC : List (List Value)), k ≤ L.length ∧ i = .int .i64 k ∧ Hid (wr.heap[w6.heap.size]? = some (.cells #[lv] 28)) ∧ Hid (OwnR wr (w6.heap.size + 1) lv CC) ∧ Hid (R.Its w3.heap.size kk w6 CC (Gr.fil G (L.take k))) ∧ Hid (Below w6.heap.size w6 wr)) (fun i _ => L.length - (intOf i).toNat)
  case atStart => exact ⟨0, _, [], by omega, rfl, HN7.out, OwnR.nil _ _, ⟨rfl, fun i c x h => by simp at h⟩, HB7.out⟩
  case round =>
   clear HN7 HB7 hz7
   obtain ⟨k, lv, CC, hk, rfl, HLB, HO, HT, HB⟩ := hrel
   obtain ⟨lo, lc, rfl⟩ := own_shape HO.out.own
   have HSB := Lib.hid ((HB.out.block w4.heap.size (by omega)).trans HS6.out)
   have s0 : wr.cell? ⟨w4.heap.size, 0, none⟩ = some (.slice vo L.length vc) := by rw [cell_of_row _ _ 0 _ _ _ HSB.out]; rfl
   have hlt6 := (Array.getElem?_eq_some_iff.1 HLB.out).1
   by_cases hlt : k < L.length
   ·
    have hlt' : (k : Int) < (L.length : Int) := by omega
    have hk0 : (0 : Int) ≤ (k : Int) := by omega
    obtain ⟨x, hx⟩ : ∃ x, L[k]? = some x := ⟨L[k], List.getElem?_eq_getElem hlt⟩
    obtain ⟨a, c, rfl, hdx, hc⟩ := HD6.out.elem k x hx
    have HCW := Lib.hid (show ∀ W, Below w6.heap.size w6 W → ∀ j u, c[j]? = some u → W.cell? ((a.add (k * 105)).add j) = some u from fun W hb j u hu => by
     rw [hb.cell (World.block_lt_of_cell? w6 _ (hc j u hu))]; exact hc j u hu)
    have HXI := Lib.hid (hdx.ids (HCW.out wr HB.out))
    have HXL := Lib.hid hdx.idl
    have HCC := Lib.hid hdx.len
    have HC1 := Lib.hid hdx.one
    have HDX := Lib.hid hdx
    have HIN := Lib.hid (in_any wr gv G x.id (RowsAt.below HG.out HB.out) HGL.out hdx.idl (by omega))
    have HFS := Lib.hid (Gr.fil_step (G := G) hx)
    have hCl : CC.length ≤ 2000 := by
     have h1 := HT.out.len
     have h2 := Gr.fil_len G (L.take k)
     simp at h2; omega
    clear hx hdx hc
    go_wp2_with ((with_reducible refine ld_id (l := x.id) (x := .tmp 62) (p := a.add (k * 105)) ?_ ?_ ?_ HXI.out HXL.out ?_); rfl; rfl; rfl)
    refine HIN.out.mono ?_
    rintro r w8 ⟨rfl, hb8⟩
    have HB8 := Lib.hid (HB.out.trans (hb8.mono HB.out.size))
    have HL8 := Lib.hid ((hb8.block w6.heap.size hlt6).trans HLB.out)
    have HO8 := Lib.hid (OwnR.below HO.out hb8)
    have HS8 := Lib.hid ((hb8.block w4.heap.size (by omega)).trans HSB.out)
    have hw8 : w6.heap.size + 1 ≤ w8.heap.size := by have := hb8.size; omega
    clear hb8 HIN HXI HLB HO HB HSB s0 hlt6
    by_cases hin : x.id ∈ G
    ·
     rw [decide_eq_true hin]
     have HF2 := Lib.hid (show Gr.fil G (L.take (k + 1)) = Gr.fil G (L.take k) by rw [HFS.out, if_pos hin])
     clear hin HFS
     go_wp2_with fail
     go_roundw
     case rel => exact ⟨k + 1, _, CC, by omega, by go_num, HL8.out, HO8.out, by show R.Its _ _ _ _ _; rw [HF2.out]; exact HT.out, HB8.out⟩
     case measure => simp [intOf]; omega
    ·
     rw [decide_eq_false hin]
     have HF2 := Lib.hid (show Gr.fil G (L.take (k + 1)) = Gr.fil G (L.take k) ++ [x] by rw [HFS.out, if_neg hin])
     have HCW8 := Lib.hid (show ∀ W' : World, (∀ g, g < w6.heap.size → W'.heap[g]? = w8.heap[g]?) → ∀ j u, c[j]? = some u → W'.cell? ((a.add (k * 105)).add j) = some u from fun W' hb j u hu => by
      have h1 := HCW.out w6 (Below.refl _ _) j u hu
      have h2 := World.block_lt_of_cell? w6 _ h1
      rw [World.cell?_of_block (w := w8) (hb _ h2)]
      exact HCW.out w8 HB8.out j u hu)
     have HSW := Lib.hid (show ∀ W' : World, (∀ g, g < w6.heap.size → W'.heap[g]? = w8.heap[g]?) → W'.cell? ⟨w4.heap.size, 0, none⟩ = some (.slice (some a) L.length vc) from fun W' hb => by
      rw [cell_of_row _ _ 0 _ _ _ ((hb w4.heap.size (by omega)).trans HS8.out)]; rfl)
     have HSU := Lib.hid underRi
     have HSZ := Lib.hid (show (Tryz.prog.info? 91).map (·.size) = some c.length by rw [HCC.out]; exact infoRz)
     have l8 : w8.drew.cell? ⟨w6.heap.size, 0, none⟩ = some (.slice lo CC.length lc) := by
      show w8.cell? _ = _
      rw [cell_of_row _ _ 0 _ _ _ HL8.out]; rfl
     clear hin HFS
     go_wp2_with fail
     have z8 : w6.heap.size + 1 ≤ w8.drew.heap.size := hw8
     have HO9 : OwnR w8.drew (w6.heap.size + 1) (.slice lo CC.length lc) CC := HO8.out.below (Below.refl _ _).drew
     have HL9 : w8.drew.heap[w6.heap.size]? = some (.cells #[.slice lo CC.length lc] 28) := HL8.out
     refine wp_region_noPanic ?_
     refine wp_region_held_drew (S := (fun w' => ∀ g, g < w6.heap.size → w'.heap[g]? = w8.heap[g]?)) (by kernel_rfl) (fun g hg => rfl) (fun hH => ?_)
     refine tk (i := 0) (v := ?_) ?_ ?_
     rotate_left
     · intro w' hSw; go_simp; try rfl
     try simp only [q0]
     refine tk (i := 2) (v := ?_) ?_ ?_
     rotate_left
     · intro w' hSw; go_simp; try rfl
     try simp only [q0]
     refine tk (i := 3) (v := ?_) ?_ ?_
     rotate_left
     · intro w' hSw; have q0 := HSW.out _ hSw; go_simp; try rfl
     try simp only [q0]
     refine tk (i := 4) (v := ?_) ?_ ?_
     rotate_left
     · intro w' hSw; go_simp; try rfl
     try simp only [q0]
     refine tk (i := 5) (v := ?_) ?_ ?_
     rotate_left
     · intro w' hSw; go_simp; try rfl
     try simp only [q0]
     refine wpAnyH_take (i := 6) rfl (by kernel_rfl) (by kernel_rfl) (by kernel_rfl) (fun _ _ _ h => h) (yields_at (p := a.add (k * 105)) (cs := c) (by rfl) rfl rfl HCW8.out HSU.out rfl HSZ.out) (by assumption) ?_
     try simp only [q0]
     refine wpAnyH_ready (rs := [1, 7]) (by kernel_rfl) (by simp) ?_
     refine AllReadyH.cons rfl (fun K hK => ?_) (AllReadyH.cons rfl (fun K hK => ?_) AllReadyH.nil)
     ·
      have q0 := l8
      go_simp
      refine hK.out _ _ (fun g hg => rfl) (fun hH1 => ?_)
      clear hK K
      try simp only [q0]
      refine wpAnyH_ready (rs := [7]) (by kernel_rfl) (by simp) ?_
      refine AllReadyH.cons rfl (fun K hK => ?_) AllReadyH.nil
      rw [if_pos (by rfl)]
      refine wp_bsRi (c := c) (x := .tmp 73) rfl rfl HCC.out ?_
      refine hK.out _ _ (fun g hg => (heap_alloc_old _ _ (show g < w8.drew.heap.size by omega)).trans rfl) (fun hH2 => ?_)
      clear hK K
      try simp only [q0]
      refine wpAnyH_ready (rs := [8]) (by kernel_rfl) (by simp) ?_
      refine AllReadyH.cons rfl (fun K hK => ?_) AllReadyH.nil
      rw [if_pos (by rfl)]
      refine wp_apRi (v := .slice lo CC.length lc) (c := c) (base := w6.heap.size + 1) (.tmp 68) (.tmp 74) rfl rfl rfl HO9 z8 HCC.out HC1.out hCl (fun v9 w9 HO10 HG10 => ?_)
      have hk9 : ∀ g, g < w6.heap.size + 1 → w9.heap[g]? = w8.heap[g]? := fun g hg => by
       rw [HG10.out.block g (by simp; omega) (fun e => by have := (HO9.own.lt g e.symm).1; omega), heap_alloc_old _ _ (by omega)]; rfl
      refine hK.out _ _ (fun g hg => hk9 g (by omega)) (fun hH3 => ?_)
      clear hK K
      try simp only [q0]
      refine tk (i := 9) (v := ?_) ?_ ?_
      rotate_left
      · intro w' hSw; go_simp; try rfl
      try simp only [q0]
      have HL10 := Lib.hid ((hk9 w6.heap.size (by omega)).trans HL8.out)
      have HB10 := Lib.hid ((HB8.out.drew.alloc (show w6.heap.size ≤ w8.drew.heap.size by omega) (.cells c.toArray 91)).grown HG10.out (by simp; omega) (fun q hq => by have := (HO9.own.lt q hq).1; omega))
      have fz : w9.frozen? ⟨w6.heap.size, 0, none⟩ = false := frozen_of_row _ _ 0 _ _ HL10.out
      have cz : w9.cell? ⟨w6.heap.size, 0, none⟩ = some (.slice lo CC.length lc) := by rw [cell_of_row _ _ 0 _ _ _ HL10.out]; rfl
      obtain ⟨uo, uc, hform⟩ := own_shape HO10.out.own
      rw [show (CC ++ [c]).length = CC.length + 1 by simp] at hform
      subst hform
      have HG11 := Lib.hid (grown_setCell w9 ⟨w6.heap.size, 0, none⟩ (.slice uo (CC.length + 1) uc))
      have HL11 := Lib.hid (show (w9.setCell ⟨w6.heap.size, 0, none⟩ (.slice uo (CC.length + 1) uc)).heap[w6.heap.size]? = some (.cells #[.slice uo (CC.length + 1) uc] 28) from heap_setCell_same _ _ _ _ _ _ HL10.out)
      have HO11 := Lib.hid (show OwnR (w9.setCell ⟨w6.heap.size, 0, none⟩ (.slice uo (CC.length + 1) uc)) (w6.heap.size + 1) (.slice uo (CC.length + 1) uc) (CC ++ [c]) from ⟨own_kept HO10.out.own (fun g hg => HG11.out.block g (HO10.out.own.lt g hg).2 (fun e => by have := (HO10.out.own.lt g hg).1; injection e with e; simp at e; omega)), HO10.out.len⟩)
      have HB11 := Lib.hid (HB10.out.grown HG11.out HB10.out.size (fun q hq => by injection hq with e; simp at e; omega))
      refine wpAnyH_ready (rs := [10]) (by kernel_rfl) (by simp) ?_
      refine AllReadyH.cons rfl (fun K hK => ?_) AllReadyH.nil
      go_simp
      refine hK.out _ _ (fun g hg => (HG11.out.block g (by have := HB10.out.size; omega) (fun e => by injection e with e; simp at e; omega)).trans (hk9 g (by omega))) (fun hH4 => ?_)
      clear hK K
      try simp only [q0]
      refine wpAnyH_done (by kernel_rfl) ?_ _
      refine NoPanic.normal ?_
      go_wp2_with fail
      go_roundw
      case rel => exact ⟨k + 1, _, CC ++ [c], by omega, by go_num, HL11.out, HO11.out, by show R.Its _ _ _ _ _; rw [HF2.out]; exact HT.out.push HDX.out, HB11.out⟩
      case measure => simp [intOf]; omega
     ·
      rw [if_pos (by rfl)]
      refine wp_bsRi (c := c) (x := .tmp 73) rfl rfl HCC.out ?_
      refine hK.out _ _ (fun g hg => (heap_alloc_old _ _ (show g < w8.drew.heap.size by omega)).trans rfl) (fun hH2 => ?_)
      clear hK K
      try simp only [q0]
      refine wpAnyH_ready (rs := [1]) (by kernel_rfl) (by simp) ?_
      refine AllReadyH.cons rfl (fun K hK => ?_) AllReadyH.nil
      have q0 : (w8.alloc (.cells c.toArray 91)).cell? ⟨w6.heap.size, 0, none⟩ = some (.slice lo CC.length lc) := by
       rw [cell_of_row _ _ 0 _ _ _ ((heap_alloc_old _ _ (show w6.heap.size < w8.heap.size by omega)).trans HL8.out)]; rfl
      go_simp
      change K _ (w8.drew.alloc (.cells c.toArray 91))
      refine hK.out _ _ (fun g hg => (heap_alloc_old _ _ (show g < w8.drew.heap.size by omega)).trans rfl) (fun hH1 => ?_)
      clear hK K
      try simp only [q0]
      refine wpAnyH_ready (rs := [8]) (by kernel_rfl) (by simp) ?_
      refine AllReadyH.cons rfl (fun K hK => ?_) AllReadyH.nil
      rw [if_pos (by rfl)]
      refine wp_apRi (v := .slice lo CC.length lc) (c := c) (base := w6.heap.size + 1) (.tmp 68) (.tmp 74) rfl rfl rfl HO9 z8 HCC.out HC1.out hCl (fun v9 w9 HO10 HG10 => ?_)
      have hk9 : ∀ g, g < w6.heap.size + 1 → w9.heap[g]? = w8.heap[g]? := fun g hg => by
       rw [HG10.out.block g (by simp; omega) (fun e => by have := (HO9.own.lt g e.symm).1; omega), heap_alloc_old _ _ (by omega)]; rfl
      refine hK.out _ _ (fun g hg => hk9 g (by omega)) (fun hH3 => ?_)
      clear hK K
      try simp only [q0]
      refine tk (i := 9) (v := ?_) ?_ ?_
      rotate_left
      · intro w' hSw; go_simp; try rfl
      try simp only [q0]
      have HL10 := Lib.hid ((hk9 w6.heap.size (by omega)).trans HL8.out)
      have HB10 := Lib.hid ((HB8.out.drew.alloc (show w6.heap.size ≤ w8.drew.heap.size by omega) (.cells c.toArray 91)).grown HG10.out (by simp; omega) (fun q hq => by have := (HO9.own.lt q hq).1; omega))
      have fz : w9.frozen? ⟨w6.heap.size, 0, none⟩ = false := frozen_of_row _ _ 0 _ _ HL10.out
      have cz : w9.cell? ⟨w6.heap.size, 0, none⟩ = some (.slice lo CC.length lc) := by rw [cell_of_row _ _ 0 _ _ _ HL10.out]; rfl
      obtain ⟨uo, uc, hform⟩ := own_shape HO10.out.own
      rw [show (CC ++ [c]).length = CC.length + 1 by simp] at hform
      subst hform
      have HG11 := Lib.hid (grown_setCell w9 ⟨w6.heap.size, 0, none⟩ (.slice uo (CC.length + 1) uc))
      have HL11 := Lib.hid (show (w9.setCell ⟨w6.heap.size, 0, none⟩ (.slice uo (CC.length + 1) uc)).heap[w6.heap.size]? = some (.cells #[.slice uo (CC.length + 1) uc] 28) from heap_setCell_same _ _ _ _ _ _ HL10.out)
      have HO11 := Lib.hid (show OwnR (w9.setCell ⟨w6.heap.size, 0, none⟩ (.slice uo (CC.length + 1) uc)) (w6.heap.size + 1) (.slice uo (CC.length + 1) uc) (CC ++ [c]) from ⟨own_kept HO10.out.own (fun g hg => HG11.out.block g (HO10.out.own.lt g hg).2 (fun e => by have := (HO10.out.own.lt g hg).1; injection e with e; simp at e; omega)), HO10.out.len⟩)
      have HB11 := Lib.hid (HB10.out.grown HG11.out HB10.out.size (fun q hq => by injection hq with e; simp at e; omega))
      refine wpAnyH_ready (rs := [10]) (by kernel_rfl) (by simp) ?_
      refine AllReadyH.cons rfl (fun K hK => ?_) AllReadyH.nil
      go_simp
      refine hK.out _ _ (fun g hg => (HG11.out.block g (by have := HB10.out.size; omega) (fun e => by injection e with e; simp at e; omega)).trans (hk9 g (by omega))) (fun hH4 => ?_)
      clear hK K
      try simp only [q0]
      refine wpAnyH_done (by kernel_rfl) ?_ _
      refine NoPanic.normal ?_
      go_wp2_with fail
      go_roundw
      case rel => exact ⟨k + 1, _, CC ++ [c], by omega, by go_num, HL11.out, HO11.out, by show R.Its _ _ _ _ _; rw [HF2.out]; exact HT.out.push HDX.out, HB11.out⟩
      case measure => simp [intOf]; omega
   ·
    have hlt' : ¬ (k : Int) < (L.length : Int) := by omega
    have hkl : k = L.length := by omega
    have HT2 := Lib.hid (show R.Its w3.heap.size kk w6 CC (Gr.fil G L) by have := HT.out; rwa [hkl, List.take_of_length_le (Nat.le_refl _)] at this)
    have HXB := Lib.hid ((HB.out.block (w.heap.size + 1) (by omega)).trans HX6.out)
    have l0 : wr.cell? ⟨w6.heap.size, 0, none⟩ = some (.slice lo CC.length lc) := by rw [cell_of_row _ _ 0 _ _ _ HLB.out]; rfl
    go_wp2_with ((with_reducible refine st_st (x := .tmp 2) (y := .tmp 77) (g := w.heap.size + 1) (v := .slice lo CC.length lc) (c := #[.slice none 0 0]) ?_ ?_ ?_ ?_ HXB.out rfl rfl ?_); rfl; rfl; rfl; rfl)
    refine bodyPost_ret (results_cell_tmp (fn := Tryz.f7) (p := 2) (q := 3) (by rfl) _ _ (w.heap.size + 1) _ _ _ _ (by rfl) (setRow_heap _ _ _ _ _ _ HXB.out) underSt rfl sizeSt) rfl ?_
    have hf := Gr.fil_len G L
    have hD : R.DSt w3.heap.size kk wr (.slice lo CC.length lc) (Gr.fil G L) := ⟨⟨CC, HO.out.zero, HT2.out.below HB.out⟩, Gr.fil_srt HD6.out.srt, by omega⟩
    exact ⟨_, rfl, Gr.fil G L, ⟨w3.heap.size, kk, hD.box HXB.out (by omega) _⟩, by omega, below_setRow (HB6.out.trans (HB.out.mono HB6.out.size)) (by omega) _⟩
end Go.Proofs.YtkcjhkfelaplkaaGreatDoor
end
section
namespace Go.Proofs.YtkcjhkfelaplkaaGreatDoor
open Go.RowKit
def FewN (w : World) (r : Ending) (w' : World) : Prop := r = .returned (.tuple #[.agg #[.slice none 0 0], .bool false]) ∧ Below w.heap.size w w'
theorem lawfew_no (w : World) (sv lo lf lc : Value) (S : List Sd) (O F C : List UInt8) (h : SdsAt w sv S) (hl : S.length ≤ maxLen) (hO : ByAt w lo O) (hF : ByAt w lf F) (hC : ByAt w lc C) (hn : ¬ (goodG S ∧ O.length ≤ 10 ∧ F.length ≤ 10 ∧ C.length ≤ 10)) :
  Calls Tryz.prog 7 #[.agg #[sv, lo, lf, lc]] w (FewN w) := by
 unfold FewN
 have HFG := Lib.hid (fun W (hb : Below w.heap.size w W) => few_g W sv S (h.below hb) hl)
 obtain ⟨ao, cap, rfl⟩ := h.form
 obtain ⟨oo, oc, rfl⟩ := hO.form
 obtain ⟨fo, fc, rfl⟩ := hF.form
 obtain ⟨co, cc, rfl⟩ := hC.form
 have HB2 := Lib.hid (below2 w (.cells #[.slice ao S.length cap, .slice oo O.length oc, .slice fo F.length fc, .slice co C.length cc] 25) (.cells #[.slice none 0 0] 28))
 have HH2 := Lib.hid (show ((w.alloc (.cells #[.slice ao S.length cap, .slice oo O.length oc, .slice fo F.length fc, .slice co C.length cc] 25)).alloc (.cells #[.slice none 0 0] 28)).heap[w.heap.size]? = some (.cells #[.slice ao S.length cap, .slice oo O.length oc, .slice fo F.length fc, .slice co C.length cc] 25) from by
  rw [heap_alloc_old _ _ (by simp)]; exact heap_alloc_new _ _)
 have HX2 := Lib.hid (new2 w (.cells #[.slice ao S.length cap, .slice oo O.length oc, .slice fo F.length fc, .slice co C.length cc] 25) (.cells #[.slice none 0 0] 28))
 have HZ2 := Lib.hid (show ((w.alloc (.cells #[.slice ao S.length cap, .slice oo O.length oc, .slice fo F.length fc, .slice co C.length cc] 25)).alloc (.cells #[.slice none 0 0] 28)).heap.size = w.heap.size + 2 by simp)
 generalize hG : decide (goodG S) = g at *
 have HN := Lib.hid (show ¬ (g = true ∧ O.length ≤ 10 ∧ F.length ≤ 10 ∧ C.length ≤ 10) from fun hh => hn ⟨by rw [← decide_eq_true_iff (p := goodG S), hG]; exact hh.1, hh.2⟩)
 clear h hO hF hC hn hG
 go_enter Tryz.func7, Tryz.ntmps7
 go_wp2_with fail
 refine (HFG.out _ HB2.out).mono ?_
 rintro r w3 ⟨rfl, hb3⟩
 have hz2 := HZ2.out
 have HB3 := Lib.hid (HB2.out.trans (hb3.mono HB2.out.size))
 have HH3 := Lib.hid ((hb3.block _ (by omega)).trans HH2.out)
 have HX3 := Lib.hid ((hb3.block _ (by omega)).trans HX2.out)
 have e0 : w3.cell? ⟨w.heap.size, 0, none⟩ = some (.slice ao S.length cap) := by rw [cell_of_row _ _ 0 _ _ _ HH3.out]; rfl
 have e1 : w3.cell? ⟨w.heap.size, 1, none⟩ = some (.slice oo O.length oc) := by rw [cell_of_row _ _ 1 _ _ _ HH3.out]; rfl
 have e2 : w3.cell? ⟨w.heap.size, 2, none⟩ = some (.slice fo F.length fc) := by rw [cell_of_row _ _ 2 _ _ _ HH3.out]; rfl
 have e3 : w3.cell? ⟨w.heap.size, 3, none⟩ = some (.slice co C.length cc) := by rw [cell_of_row _ _ 3 _ _ _ HH3.out]; rfl
 clear hb3 HFG HB2 HH2 HX2 HZ2 hz2
 rcases (show g = false ∨ (g = true ∧ 10 < O.length) ∨ (g = true ∧ O.length ≤ 10 ∧ 10 < F.length) ∨ (g = true ∧ O.length ≤ 10 ∧ F.length ≤ 10 ∧ 10 < C.length) from by
  have hN := HN.out
  cases g with
  | false => exact .inl rfl
  | true =>
    by_cases h1 : O.length ≤ 10
    ·
     by_cases h2 : F.length ≤ 10
     ·
      by_cases h3 : C.length ≤ 10
      · exact absurd ⟨rfl, h1, h2, h3⟩ hN
      · exact .inr (.inr (.inr ⟨rfl, h1, h2, by omega⟩))
     · exact .inr (.inr (.inl ⟨rfl, h1, by omega⟩))
    · exact .inr (.inl ⟨rfl, by omega⟩)) with rfl | ⟨rfl, h1⟩ | ⟨rfl, h1, h2⟩ | ⟨rfl, h1, h2, h3⟩
 all_goals
  clear HN
  try have q1 : ¬ (10 : Int) < (O.length : Int) := by omega
  try have p1 : (10 : Int) < (O.length : Int) := by omega
  try have q2 : ¬ (10 : Int) < (F.length : Int) := by omega
  try have p2 : (10 : Int) < (F.length : Int) := by omega
  try have p3 : (10 : Int) < (C.length : Int) := by omega
  go_wp2_with (first
   | ((with_reducible refine bd_st0 ?_ ?_ ?_); rfl; rfl)
   | ((with_reducible refine st_st (x := .tmp 2) (y := .tmp 34) (g := w.heap.size + 1) (v := .slice none 0 0) (c := #[.slice none 0 0]) ?_ ?_ ?_ ?_ HX3.out rfl rfl ?_); rfl; rfl; rfl; rfl))
  refine bodyPost_ret (results_cell_tmp (fn := Tryz.f7) (p := 2) (q := 3) (by rfl) _ _ (w.heap.size + 1) _ _ _ _ (by rfl) (setRow_heap _ _ _ _ _ _ HX3.out) underSt rfl sizeSt) rfl ?_
  exact ⟨rfl, below_setRow HB3.out (by omega) _⟩
end Go.Proofs.YtkcjhkfelaplkaaGreatDoor
end
