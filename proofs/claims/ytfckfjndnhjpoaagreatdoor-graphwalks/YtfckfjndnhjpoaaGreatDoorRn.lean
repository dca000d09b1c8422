/-
  WALKS OF LAYER 12: the document's Walk.
-/
import Derived.Test.YtfckfjndnhjpoaaGreatDoorRm
import Derived.Test.YtfckfjndnhjpoaaGreatDoorQt
import Derived.Test.YtfckfjndnhjpoaaGreatDoorQu
import Derived.Test.YtfckfjndnhjpoaaGreatDoorQw
import Derived.Test.YtfckfjndnhjpoaaGreatDoorQa
set_option linter.unusedVariables false
set_option linter.unusedSimpArgs false
set_option maxHeartbeats 8000000
set_option maxRecDepth 100000
section
namespace Go.Proofs.YtfckfjndnhjpoaaGreatDoor
open Go.RowKit
theorem stillg_id {ops : Array Oper} {w : World} {Q : Act → Prop} {a : Act} {o : Oper} {rest : List Oper} {l : List UInt8} {x : Operand} {p : Addr} (hw : Region.wanted o (yielded ops a.tmps) = true) (ho : o.op = .load 42 x) (hx : a.eval x = .pointer (some p))
  (hc : ∀ j v, (idC l)[j]? = some v → w.cell? (p.add j) = some v) (hl : l.length = 32)
  (h : wpStill Tryz.prog ops w Q rest (a.put o.dst (.agg (idC l).toArray))) : wpStill Tryz.prog ops w Q (o :: rest) a := by
 refine wpStill_step fun K hK => ?_
 rw [if_pos hw]
 unfold Oper.still execOp
 simp only [ho, hx, Instr.loadAt, Instr.sureAddr, Sem.run_bind, Sem.run_pure, Result.andThen_ok, run_loadVar_at w p 42 (idC l) _ hc Tryz.underlying42 rfl (idsize hl)]
 exact ⟨rfl, hK _ h⟩
def Bst (L : List St.It) (S O : List (List UInt8)) (n : Nat) (bv : Value) : Prop :=
 (bv = .int .i64 (-1) ∧ ∀ y ∈ S.take n, y ∈ O) ∨ ∃ (b : Nat) (x : List UInt8), bv = .int .i64 b ∧ b < n ∧ S[b]? = some x ∧ x ∉ O ∧ ∀ y ∈ S.take n, y ∉ O → y ≠ x → Gr.ah L x y = true
theorem Gr.ah_trans (L : List St.It) {a b c : List UInt8} (h1 : Gr.ah L a b = true) (h2 : Gr.ah L b c = true) : Gr.ah L a c = true := by
 unfold Gr.ah at *
 by_cases e1 : Gr.tm L a = Gr.tm L b
 ·
  rw [if_pos e1] at h1
  rw [e1]
  by_cases e2 : Gr.tm L b = Gr.tm L c
  · rw [if_pos e2] at h2 ⊢; exact St.lt_trans h1 h2
  · rw [if_neg e2] at h2 ⊢; exact h2
 ·
  rw [if_neg e1] at h1
  by_cases e2 : Gr.tm L b = Gr.tm L c
  · rw [← e2, if_neg e1]; exact h1
  ·
   rw [if_neg e2] at h2
   have h1' : Gr.tm L b < Gr.tm L a := by simpa using h1
   have h2' : Gr.tm L c < Gr.tm L b := by simpa using h2
   rw [if_neg (by omega)]; simp; omega
theorem Bst.start (L : List St.It) (S O : List (List UInt8)) : Bst L S O 0 (.int .i64 (-1)) := .inl ⟨rfl, fun y hy => by simp at hy⟩
theorem Bst.told {L : List St.It} {S O : List (List UInt8)} {n : Nat} {bv : Value} {y : List UInt8} (h : Bst L S O n bv) (hy : S[n]? = some y) (hm : y ∈ O) : Bst L S O (n + 1) bv := by
 have ht := take_id hy
 rcases h with ⟨h1, h2⟩ | ⟨b, x, h1, h2, h3, h4, h5⟩
 ·
  exact .inl ⟨h1, fun z hz => by
   rw [ht, List.mem_append, List.mem_singleton] at hz
   rcases hz with e | e
   · exact h2 z e
   · rw [e]; exact hm⟩
 ·
  exact .inr ⟨b, x, h1, by omega, h3, h4, fun z hz hn hx => by
   rw [ht, List.mem_append, List.mem_singleton] at hz
   rcases hz with e | e
   · exact h5 z e hn hx
   · rw [e] at hn; exact absurd hm hn⟩
theorem Bst.first {L : List St.It} {S O : List (List UInt8)} {n : Nat} {y : List UInt8} (h : ∀ y ∈ S.take n, y ∈ O) (hy : S[n]? = some y) (hm : y ∉ O) : Bst L S O (n + 1) (.int .i64 n) :=
 .inr ⟨n, y, rfl, by omega, hy, hm, fun z hz hn hx => by
  rw [take_id hy, List.mem_append, List.mem_singleton] at hz
  rcases hz with e | e
  · exact absurd (h z e) hn
  · exact absurd e hx⟩
theorem Bst.next {L : List St.It} {S O : List (List UInt8)} {n b : Nat} {x y : List UInt8} (hb : b < n) (hx : S[b]? = some x) (hxm : x ∉ O) (h5 : ∀ y ∈ S.take n, y ∉ O → y ≠ x → Gr.ah L x y = true) (hy : S[n]? = some y) (hm : y ∉ O) (hS : S.Nodup) (hl : ∀ x ∈ S, x.length = 32) :
  Bst L S O (n + 1) (.int .i64 (if Gr.ah L y x = true then (n : Int) else (b : Int))) := by
 have hne : y ≠ x := fun e => by
  have h1 := (List.getElem?_eq_some_iff.1 hx); have h2 := (List.getElem?_eq_some_iff.1 hy)
  obtain ⟨l1, e1⟩ := h1; obtain ⟨l2, e2⟩ := h2
  exact List.pairwise_iff_getElem.1 hS b n l1 l2 hb (by rw [e1, e2, e])
 by_cases ha : Gr.ah L y x = true
 ·
  rw [if_pos ha]
  refine .inr ⟨n, y, rfl, by omega, hy, hm, fun z hz hn hzy => ?_⟩
  rw [take_id hy, List.mem_append, List.mem_singleton] at hz
  rcases hz with e | e
  ·
   by_cases ezx : z = x
   · rw [ezx]; exact ha
   · exact Gr.ah_trans L ha (h5 z e hn ezx)
  · exact absurd e hzy
 ·
  rw [if_neg ha]
  refine .inr ⟨b, x, rfl, by omega, hx, hxm, fun z hz hn hzx => ?_⟩
  rw [take_id hy, List.mem_append, List.mem_singleton] at hz
  rcases hz with e | e
  · exact h5 z e hn hzx
  ·
   rw [e]
   exact Gr.ah_tot L (by rw [hl x (List.mem_of_getElem? hx), hl y (List.mem_of_getElem? hy)]) (by simpa using ha) hne
structure Sw (w w1 wr : World) (sv ov : Value) (L : List St.It) (S O : List (List UInt8)) : Prop where
 s : OwnI wr w1.heap.size sv S
 o : OwnI wr w1.heap.size ov O
 ap : Ap sv ov
 sn : S.Nodup
 sc : ∀ x ∈ S, Gr.cm L x = true
 on : O.Nodup
 os : ∀ x ∈ O, x ∈ S
 b : Below w1.heap.size w1 wr
theorem Sw.below {w w1 wr w' : World} {sv ov : Value} {L : List St.It} {S O : List (List UInt8)} (h : Sw w w1 wr sv ov L S O) (hb : Below wr.heap.size wr w') : Sw w w1 w' sv ov L S O :=
 ⟨h.s.below hb, h.o.below hb, h.ap, h.sn, h.sc, h.on, h.os, h.b.trans (hb.mono h.b.size)⟩
theorem Sw.few {w w1 wr : World} {sv ov : Value} {L : List St.It} {S O : List (List UInt8)} (h : Sw w w1 wr sv ov L S O) : S.length ≤ L.length ∧ O.length ≤ S.length :=
 ⟨Gr.cm_few h.sn h.sc, Gr.nodup_len h.on h.os⟩
theorem Sw.tell {w w1 wr w' : World} {sv ov ov' : Value} {L : List St.It} {S O : List (List UInt8)} {x : List UInt8} {o : Obj} (h : Sw w w1 wr sv ov L S O) (hx : x ∈ S) (hn : x ∉ O) (h1 : OwnI w' w1.heap.size ov' (O ++ [x])) (hg : (wr.alloc o).grownBy w' ov.ownBlock) (hv : ov'.ownBlock = ov.ownBlock ∨ ov'.ownBlock = some (wr.heap.size + 1)) : Sw w w1 w' sv ov' L S (O ++ [x]) :=
 ⟨h.s.other hg (fun g hg hc => h.ap g hg hc), h1, fun g hs hc => (show Ap ov' sv from Ap.next (fun g hg hc => h.ap g hc hg) h.s hv) g hc hs, h.sn, h.sc, by
  rw [List.nodup_append]
  exact ⟨h.on, by simp, fun a ha b hb => by rw [List.mem_singleton.1 hb]; exact fun e => hn (e ▸ ha)⟩, fun y hy => by
  rcases List.mem_append.1 hy with e | e
  · exact h.os y e
  · rw [List.mem_singleton.1 e]; exact hx, h.o.grown h.b h.b.size hg⟩
theorem Sw.see {w w1 wr w' : World} {sv sv' ov : Value} {L : List St.It} {S O : List (List UInt8)} {x : List UInt8} {o : Obj} (h : Sw w w1 wr sv ov L S O) (hx : x ∉ S) (hc : Gr.cm L x = true) (h1 : OwnI w' w1.heap.size sv' (S ++ [x])) (hg : (wr.alloc o).grownBy w' sv.ownBlock) (hv : sv'.ownBlock = sv.ownBlock ∨ sv'.ownBlock = some (wr.heap.size + 1)) : Sw w w1 w' sv' ov L (S ++ [x]) O :=
 ⟨h1, h.o.other hg (fun g hg hc => h.ap g hc hg), Ap.next h.ap h.o hv, by
  rw [List.nodup_append]
  exact ⟨h.sn, by simp, fun a ha b hb => by rw [List.mem_singleton.1 hb]; exact fun e => hx (e ▸ ha)⟩, fun y hy => by
  rcases List.mem_append.1 hy with e | e
  · exact h.sc y e
  · rw [List.mem_singleton.1 e]; exact hc, h.on, fun y hy => List.mem_append.2 (.inl (h.os y hy)), h.s.grown h.b h.b.size hg⟩
end Go.Proofs.YtfckfjndnhjpoaaGreatDoor
end
section
namespace Go.Proofs.YtfckfjndnhjpoaaGreatDoor
open Go.RowKit
theorem see_same {cm : List UInt8 → Bool} {S T P : List (List UInt8)} {n : Nat} {p : List UInt8} (h : ∀ y, y ∈ T ↔ y ∈ S ∨ y ∈ (P.take n).filter cm) (hp : P[n]? = some p) (hs : p ∈ T ∨ cm p = false) : ∀ y, y ∈ T ↔ y ∈ S ∨ y ∈ (P.take (n + 1)).filter cm := fun y => by
 rw [take_id hp, List.filter_append, List.mem_append, ← or_assoc, ← h y]
 refine ⟨.inl, fun k => k.elim id fun k => ?_⟩
 rw [List.mem_filter, List.mem_singleton] at k
 rcases hs with e | e
 · rw [k.1]; exact e
 · rw [k.1, e] at k; exact absurd k.2 (by simp)
theorem see_new {cm : List UInt8 → Bool} {S T P : List (List UInt8)} {n : Nat} {p : List UInt8} (h : ∀ y, y ∈ T ↔ y ∈ S ∨ y ∈ (P.take n).filter cm) (hp : P[n]? = some p) (hs : cm p = true) : ∀ y, y ∈ T ++ [p] ↔ y ∈ S ∨ y ∈ (P.take (n + 1)).filter cm := fun y => by
 rw [take_id hp, List.filter_append, List.mem_append, List.mem_append, ← or_assoc, ← h y]
 simp [List.filter, hs]
theorem stillg_skip {ops : Array Oper} {w : World} {Q : Act → Prop} {a : Act} {o : Oper} {rest : List Oper} (hw : Region.wanted o (yielded ops a.tmps) = false) (h : wpStill Tryz.prog ops w Q rest (a.put o.dst undef)) : wpStill Tryz.prog ops w Q (o :: rest) a := by
 refine wpStill_step fun K hK => ?_
 rw [if_neg (by simp [hw])]
 exact hK _ h
theorem stillg_take {ops : Array Oper} {w : World} {Q : Act → Prop} {a : Act} {o : Oper} {rest : List Oper} (hw : Region.wanted o (yielded ops a.tmps) = true) (h : ∀ K : Act → Prop, (∀ a, wpStill Tryz.prog ops w Q rest a → K a) → o.still Tryz.prog a w K) : wpStill Tryz.prog ops w Q (o :: rest) a := by
 refine wpStill_step fun K hK => ?_
 rw [if_pos hw]
 exact h K hK
namespace R
theorem refwalk_any (B kk : Nat) (w : World) (v fv cv : Value) (L : List St.It) (F C : List (List UInt8)) (h : DSt B kk w v L) (hF : IdsAt w fv F) (hFl : ∀ i ∈ F, i.length = 32) (hFn : F.length ≤ 1000) (hC : IdsAt w cv C) (hCl : ∀ i ∈ C, i.length = 32) (hCn : C.length ≤ 100000) :
  Calls Tryz.prog 19 #[.agg #[v], fv, cv] w fun r w' => ∃ ov R, r = .returned ov ∧ OwnI w' w.heap.size ov R ∧ Wk (Gr.ah L) (Gr.pr L C) (Wk.nw (Gr.cm L) [] (Gr.eds L F)) [] R ∧ Below w.heap.size w w' := by
 have hfew := h.few
 have HPF := Lib.hid (obz_few h)
 have HEN := Lib.hid (fun W (hb : Below w.heap.size w W) => refends_any B kk W v fv L F (h.below hb) (RowsAt.below hF hb) hFl hFn)
 have HAH := Lib.hid (fun W (hb : Below w.heap.size w W) (a b : List UInt8) (ha : a.length = 32) (hb' : b.length = 32) => refahead_any B kk W v L a b (h.below hb) ha hb')
 have HKA := Lib.hid (fun W (hb : Below w.heap.size w W) (id : List UInt8) (hid : id.length = 32) => refkindX_any W v L id (h.old.below hb) hid)
 have HOB := Lib.hid (fun W (hb : Below w.heap.size w W) (id : List UInt8) (hid : id.length = 32) => refobject_old B kk w W v L id h hb hid)
 have HIC := Lib.hid (fun W (hb : Below w.heap.size w W) (id : List UInt8) (hid : id.length = 32) => in_any W cv C id (RowsAt.below hC hb) hCl hid hCn)
 have HNN := Lib.hid (Wk.nw_nodup (Gr.cm L) (Gr.eds L F) [] List.nodup_nil)
 have HNC := Lib.hid (Wk.nw_cm (Gr.cm L) (Gr.eds L F) [])
 have hz24 := (zero_of_info zero24).1
 have HS0 := Lib.hid (show (idC zId).toArray.size = 32 by decide)
 generalize (idC zId).toArray = z at hz24 HS0
 obtain ⟨fo, fc, rfl⟩ : ∃ ao cap, fv = .slice ao F.length cap := by simpa using RowsAt.form hF
 obtain ⟨co, cc, rfl⟩ : ∃ ao cap, cv = .slice ao C.length cap := by simpa using RowsAt.form hC
 obtain ⟨so, sc, rfl⟩ := h.form
 generalize Wk.nw (Gr.cm L) [] (Gr.eds L F) = S0 at *
 simp only [List.nil_append] at HNN
 clear h hF hFl hC hCl
 have HB1 := Lib.hid (below_new w (.cells #[.slice so L.length sc] 28))
 have HX1 := Lib.hid (heap_alloc_last w (.cells #[.slice so L.length sc] 28))
 go_enter Tryz.func19, Tryz.ntmps19
 go_upto_region 1 with (fail)
 change Code.wp _ _ _ _ (w.alloc (.cells #[.slice so L.length sc] 28))
 have HZ1 := Lib.hid (show (w.alloc (.cells #[.slice so L.length sc] 28)).heap.size = w.heap.size + 1 by simp)
 generalize w.alloc (.cells #[.slice so L.length sc] 28) = w1 at *
 have c1 : w1.cell? ⟨w.heap.size, 0, none⟩ = some (.slice so L.length sc) := by rw [cell_of_row _ _ 0 _ _ _ HX1.out]; rfl
 have HE1 := Lib.hid (HEN.out w1 HB1.out)
 clear HEN
 go_wp2_with fail
 with_reducible refine HE1.out.mono ?_
 rintro r w2 ⟨ev, rfl, hE, hb2⟩
 have HSW := Lib.hid (show Sw w w1 w2 ev (.slice none 0 0) L S0 [] from ⟨hE, OwnI.nil _ _, fun g _ hg => by simp [Value.ownBlock] at hg, HNN.out, HNC.out, List.nodup_nil, (fun x hx => by cases hx), hb2⟩)
 clear hE hb2 HE1 HNN HNC c1
 go_wp2_with fail
 go_loopw [7, 8] (fun sv ov wr => ∃ (S O : List (List UInt8)), Hid (Sw w w1 wr sv ov L S O) ∧ Hid (∀ R, Wk (Gr.ah L) (Gr.pr L C) S O R → Wk (Gr.ah L) (Gr.pr L C) S0 [] R)) (fun sv ov _ => 100 - lenV ov)
 case atStart => exact ⟨S0, [], HSW, fun R h => h⟩
 case round =>
  clear HSW
  obtain ⟨wr2, hwr2⟩ : ∃ W, W = wr := ⟨_, rfl⟩
  subst hwr2
  obtain ⟨S, O, HW, HK⟩ := hrel
  obtain ⟨qo, qc, rfl⟩ := HW.out.s.form
  obtain ⟨oo, oc, rfl⟩ := HW.out.o.form
  have hSl := HW.out.few
  have hz1 := HZ1.out
  have hbs := HW.out.b.size
  go_wp2_with fail
  go_loopw [9, 10] (fun bv i wr => ∃ (n : Nat), n ≤ S.length ∧ i = .int .i64 n ∧ Hid (Bst L S O n bv) ∧ Hid (Below wr2.heap.size wr2 wr)) (fun _ i _ => S.length - (intOf i).toNat)
  case atStart => exact ⟨0, by omega, rfl, Bst.start L S O, Below.refl _ _⟩
  case round =>
   obtain ⟨wr3, hwr3⟩ : ∃ W, W = wr := ⟨_, rfl⟩
   subst hwr3
   obtain ⟨n, hn, rfl, HBS, HB⟩ := hrel
   have HW3 := Lib.hid (HW.out.below HB.out)
   have HBW := Lib.hid (HB1.out.trans (HW3.out.b.mono HB1.out.size))
   have HXR := Lib.hid ((HW3.out.b.block w.heap.size (by omega)).trans HX1.out)
   have hz3 : w.heap.size < wr3.heap.size := by have := HW3.out.b.size; omega
   by_cases hlt : n < S.length
   ·
    have hlt' : (n : Int) < (S.length : Int) := by omega
    have hn0 : (0 : Int) ≤ (n : Int) := by omega
    obtain ⟨y, hy⟩ : ∃ y, S[n]? = some y := ⟨S[n], List.getElem?_eq_getElem hlt⟩
    have HYL := Lib.hid (HW.out.s.len y (List.mem_of_getElem? hy))
    obtain ⟨sa, hsa, _, hcy⟩ := HW3.out.s.rows.elem n (idC y) (by simp [hy])
    subst hsa
    have HCY := Lib.hid (show ∀ W', Below wr3.heap.size wr3 W' → ∀ j u, (idC y)[j]? = some u → W'.cell? ((sa.add (n * 32)).add j) = some u from fun W' hb j u hu => by
     rw [hb.cell (World.block_lt_of_cell? _ _ (hcy j u hu))]; exact hcy j u hu)
    have HC3 := Lib.hid (HCY.out wr3 (Below.refl _ _))
    have HIN := Lib.hid (in_any wr3 (.slice oo O.length oc) O y HW3.out.o.rows HW3.out.o.len HYL.out (by omega))
    clear hcy
    by_cases hm : y ∈ O
    ·
     have HBN := Lib.hid (HBS.out.told hy hm)
     rw [decide_eq_true hm] at HIN
     clear hy hm HBS
     go_wp2_with ((with_reducible refine ld_id (l := y) (x := .tmp 29) (p := sa.add (n * 32)) ?_ ?_ ?_ HC3.out HYL.out ?_); rfl; rfl; rfl)
     with_reducible refine HIN.out.mono ?_
     rintro r w4 ⟨rfl, hb4⟩
     have HB4 := Lib.hid (HB.out.trans (hb4.mono HB.out.size))
     clear hb4 HIN HB HW3 HBW HXR HC3 HCY
     go_wp2_with fail
     go_roundw
     case rel => exact ⟨n + 1, by omega, by go_num, HBN.out, HB4.out⟩
     case measure => simp [intOf]; omega
    ·
     rw [decide_eq_false hm] at HIN
     have HM := Lib.hid hm
     have HY := Lib.hid hy
     clear hm hy
     go_wp2_with ((with_reducible refine ld_id (l := y) (x := .tmp 29) (p := sa.add (n * 32)) ?_ ?_ ?_ HC3.out HYL.out ?_); rfl; rfl; rfl)
     with_reducible refine HIN.out.mono ?_
     rintro r w4 ⟨rfl, hb4⟩
     have HB4 := Lib.hid (HB.out.trans (hb4.mono HB.out.size))
     have HC4 := Lib.hid (show ∀ j u, (idC y)[j]? = some u → w4.drew.cell? ((sa.add (n * 32)).add j) = some u from HCY.out w4 hb4)
     have HX4 := Lib.hid ((hb4.block w.heap.size hz3).trans HXR.out)
     have HBW4 := Lib.hid (HBW.out.trans (hb4.mono HBW.out.size))
     have HW4 := Lib.hid (HW3.out.below hb4)
     clear hb4 HIN HB HW3 HBW HXR HC3 HCY
     rcases HBS.out with ⟨rfl, hall⟩ | ⟨b, x, rfl, hbn, hx, hxm, hbest⟩
     ·
      have HBN := Lib.hid (Bst.first (L := L) hall HY.out HM.out)
      clear hall HBS
      go_wp2_with fail
      go_roundw
      case rel => exact ⟨n + 1, by omega, by go_num, HBN.out, HB4.out⟩
      case measure => simp [intOf]; omega
     ·
      have HBN := Lib.hid (Bst.next hbn hx hxm hbest HY.out HM.out HW.out.sn HW.out.s.len)
      have HXL := Lib.hid (HW.out.s.len x (List.mem_of_getElem? hx))
      have hbl : (b : Int) < (S.length : Int) := by omega
      have hb0 : (0 : Int) ≤ (b : Int) := by omega
      have hbneg : ¬ (b : Int) < 0 := by omega
      have HCX := Lib.hid (show ∀ j u, (idC x)[j]? = some u → w4.drew.cell? ((sa.add (b * 32)).add j) = some u from by
       obtain ⟨sa', hsa', _, hcx⟩ := HW4.out.s.rows.elem b (idC x) (by simp [hx])
       rw [Option.some.inj hsa']; exact hcx)
      have HAX := Lib.hid (HAH.out w4.drew HBW4.out.drew y x HYL.out HXL.out)
      have c4 : w4.cell? ⟨w.heap.size, 0, none⟩ = some (.slice so L.length sc) := by rw [cell_of_row _ _ 0 _ _ _ HX4.out]; rfl
      clear hx hxm hbest HBS HX4
      generalize Gr.ah L y x = bt at *
      go_wp2_with fail
      refine rgn_tail 9 (by kernel_rfl) (by kernel_rfl) ?_
      simp only [List.take_succ_cons, List.take_zero, List.drop_succ_cons, List.drop_zero]
      repeat still_step
      (with_reducible apply still_id (p := sa.add (n * 32)) (hc := HC4.out) (hl := HYL.out))
      rfl
      rfl
      rfl
      repeat still_step
      (with_reducible apply still_id (p := sa.add (b * 32)) (hc := HCX.out) (hl := HXL.out))
      rfl
      rfl
      rfl
      refine wpStill_nil ?_
      go_wp2_with fail
      refine HAX.out.mono ?_
      rintro r w5 ⟨rfl, hb5⟩
      have HB5 := Lib.hid (HB4.out.trans (((Below.refl w4.heap.size w4).drew.trans hb5).mono HB4.out.size))
      clear hb5 HAX HC4 HCX HB4 HBW4 HW4 c4
      cases bt with
      | true =>
        rw [if_pos rfl] at HBN
        go_wp2_with fail
        go_roundw
        case rel => exact ⟨n + 1, by omega, by go_num, HBN.out, HB5.out⟩
        case measure => simp [intOf]; omega
      | false =>
        rw [if_neg (by simp)] at HBN
        go_wp2_with fail
        go_roundw
        case rel => exact ⟨n + 1, by omega, by go_num, HBN.out, HB5.out⟩
        case measure => simp [intOf]; omega
   ·
    have hlt' : ¬ (n : Int) < (S.length : Int) := by omega
    have hnS : n = S.length := by omega
    subst hnS
    rcases HBS.out with ⟨rfl, hall⟩ | ⟨b, x, rfl, hbn, hx, hxm, hbest⟩
    ·
     rw [List.take_length] at hall
     have HE := Lib.hid (HK.out O (.done hall))
     have HOO := Lib.hid (show OwnI wr3 w.heap.size (.slice oo O.length oc) O from ⟨own_le0 HW3.out.o.own (by omega), HW3.out.o.len⟩)
     clear hall HBS HW HW3 HK HXR HB
     go_wp2_with fail
     go_ret
     exact ⟨_, rfl, O, HOO.out, HE.out, HBW.out⟩
    ·
     have HXL := Lib.hid (HW.out.s.len x (List.mem_of_getElem? hx))
     have HXS := Lib.hid (List.mem_of_getElem? hx)
     have HXM := Lib.hid hxm
     rw [List.take_length] at hbest
     have HBT := Lib.hid hbest
     have hbl : (b : Int) < (S.length : Int) := by omega
     have hb0 : (0 : Int) ≤ (b : Int) := by omega
     have hbneg : ¬ (b : Int) < 0 := by omega
     obtain ⟨sa, hsa, _, hcx⟩ := HW3.out.s.rows.elem b (idC x) (by simp [hx])
     subst hsa
     have HCX := Lib.hid hcx
     have HXI := Lib.hid (show (idC x).toArray.size = 32 by simpa [idC_length] using HXL.out)
     have HI32 := Lib.hid (show (Tryz.prog.info? 42).map (·.size) = some 32 by have := idsize2 HXL.out; rwa [HXI.out] at this)
     have HX1c := Lib.hid (all_oneCell_toArray (idC_one x))
     have HW4 := Lib.hid (HW3.out.below (below_new wr3 (.cells (idC x).toArray 42)))
     have HBX4 := Lib.hid (heap_alloc_last wr3 (.cells (idC x).toArray 42))
     have HID4 := Lib.hid (row_news HBX4.out)
     have HO4 := Lib.hid HW4.out.o
     have hK4 := HW4.out.b.size
     have HF5 := Lib.hid (show ∀ w5 : World, ((wr3.alloc (.cells (idC x).toArray 42)).alloc (.cells (idC x).toArray 42)).grownBy w5 (Value.slice oo O.length oc).ownBlock → w5.heap[wr3.heap.size]? = some (.cells (idC x).toArray 42) from fun w5 hg => (hg.block wr3.heap.size (by simp; omega) (fun e => by have := (HW3.out.o.own.lt _ e.symm).2; omega)).trans ((heap_alloc_old _ _ (by simp)).trans HBX4.out))
     clear hcx hx hxm hbest HBS HXR HB
     go_wp2_with (first
      | ((with_reducible refine ld_id (l := x) (x := .tmp 52) (p := sa.add (b * 32)) ?_ ?_ ?_ HCX.out HXL.out ?_); rfl; rfl; rfl)
      | ((with_reducible refine st_new (x := .tmp 12) (y := .tmp 53) 32 ?_ ?_ ?_ ?_ HS0.out HI32.out HXI.out HX1c.out ?_); rfl; rfl; rfl; rfl)
      | ((with_reducible refine ld_id (l := x) (x := .tmp 12) (p := ⟨wr3.heap.size, 0, none⟩) ?_ ?_ ?_ HID4.out HXL.out ?_); rfl; rfl; rfl)
      | ((with_reducible refine bs_id2 (l := x) (x := .tmp 55) ?_ ?_ ?_ HXL.out ?_); rfl; rfl; rfl)
      | ((with_reducible refine ap_id_at (.tmp 54) (.tmp 56) ?_ ?_ ?_ ?_ HO4.out hK4 HXL.out (by omega) ?_); rfl; rfl; rfl; rfl; intro v5 w5 HO5 HG5 HV5; have HID5 := Lib.hid (row_news (HF5.out w5 HG5.out)); clear HID4)
      | ((with_reducible refine ld_id (l := x) (x := .tmp 12) (p := ⟨wr3.heap.size, 0, none⟩) ?_ ?_ ?_ HID5.out HXL.out ?_); rfl; rfl; rfl))
     have HW5 := Lib.hid (HW4.out.tell HXS.out HXM.out HO5.out HG5.out HV5.out)
     have HBX5 := Lib.hid (HF5.out w5 HG5.out)
     have HBW5 := Lib.hid (HB1.out.trans (HW5.out.b.mono HB1.out.size))
     obtain ⟨uo, uc, hfm⟩ := HW5.out.o.form
     subst hfm
     have HIC5 := Lib.hid (HIC.out w5 HBW5.out x HXL.out)
     clear HW4 HBX4 HF5 HO4 HO5 HG5 HV5 HW3 HW HID5 HCX
     with_reducible refine HIC5.out.mono ?_
     rintro r w6 ⟨rfl, hb6⟩
     have HW6 := Lib.hid (HW5.out.below hb6)
     have hg6 : wr3.heap.size < w5.heap.size := (Array.getElem?_eq_some_iff.1 HBX5.out).1
     have HID6 := Lib.hid (row_news ((hb6.block wr3.heap.size hg6).trans HBX5.out))
     have HBW6 := Lib.hid (HBW5.out.trans (hb6.mono HBW5.out.size))
     have HX6 := Lib.hid ((HW6.out.b.block w.heap.size (by omega)).trans HX1.out)
     have c6 : w6.cell? ⟨w.heap.size, 0, none⟩ = some (.slice so L.length sc) := by rw [cell_of_row _ _ 0 _ _ _ HX6.out]; rfl
     have HOB6 := Lib.hid (HOB.out w6 HBW6.out x HXL.out)
     have hpl := (HPF.out x).2.1
     have HPI := Lib.hid ((HPF.out x).2.2.1)
     have HPR := Lib.hid (Gr.prs_obz L x)
     have HEC := Lib.hid (show Gr.pr L C x = if decide (x ∈ C) = true then [] else ((Gr.obz L x).pars).filter (Gr.cm L) from by unfold Gr.pr; rw [HPR.out]; simp)
     generalize decide (x ∈ C) = ec at *
     clear hb6 HW5 HBX5 HBW5 HIC5 hg6 HX6
     go_wp2_with ((with_reducible refine ld_id (l := x) (x := .tmp 12) (p := ⟨wr3.heap.size, 0, none⟩) ?_ ?_ ?_ HID6.out HXL.out ?_); rfl; rfl; rfl)
     with_reducible refine HOB6.out.mono ?_
     rintro r w7 ⟨cs, ao, bo, ca, cb, rfl, hO, hb7⟩
     have f35 := fld_pars w7 cs _ hO.F.c35
     have HPP := Lib.hid (show IdsAt w (.slice bo (Gr.obz L x).pars.length cb) (Gr.obz L x).pars from hO.P)
     have HPL := Lib.hid hO.pid
     have HW7 := Lib.hid (HW6.out.below hb7)
     generalize (Gr.obz L x).pars = P at *
     clear hO hb7 HOB6 HW6 HBW6 HID6 c6 HPR HPI
     have hoUl : (O ++ [x]).length = O.length + 1 := by simp
     go_wp2_with fail
     go_loopw [7, 15] (fun sv i wr => ∃ (n : Nat) (T : List (List UInt8)), n ≤ P.length ∧ i = .int .i64 n ∧ Hid (Sw w w1 wr sv (.slice uo (O ++ [x]).length uc) L T (O ++ [x])) ∧ Hid (∀ y, y ∈ T ↔ y ∈ S ∨ y ∈ (if ec = true then [] else (P.take n).filter (Gr.cm L)))) (fun _ i _ => P.length - (intOf i).toNat)
     case atStart => exact ⟨0, S, by omega, rfl, HW7.out, fun y => by simp⟩
     case round =>
      clear HW7
      obtain ⟨wr8, hwr8⟩ : ∃ W, W = wr := ⟨_, rfl⟩
      subst hwr8
      obtain ⟨n, T, hn, rfl, HW, HT⟩ := hrel
      obtain ⟨to_, tc, rfl⟩ := HW.out.s.form
      have hfl := HW.out.few
      rw [hoUl] at hfl
      have HWF := Lib.hid (show Sw w w1 wr8 (.slice to_ T.length tc) (.slice uo (O.length + 1) uc) L T (O ++ [x]) from by have := HW.out; rwa [hoUl] at this)
      by_cases hlt : n < P.length
      ·
       have hlt' : (n : Int) < (P.length : Int) := by omega
       cases ec with
       | true =>
         have HK2 := Lib.hid (fun R hR => HK.out R (.more HXS.out HXM.out HBT.out (S' := T) (fun y => by rw [HT.out y, HEC.out]; simp) hR))
         clear HT HEC HK
         go_wp2_with fail
         go_roundw
         case rel => exact ⟨T, O ++ [x], HWF.out, HK2.out⟩
         case measure => simp [lenV]; omega
       | false =>
         have HT2 := Lib.hid (show ∀ y, y ∈ T ↔ y ∈ S ∨ y ∈ (P.take n).filter (Gr.cm L) from fun y => by have := HT.out y; simpa using this)
         obtain ⟨p, hp⟩ : ∃ p, P[n]? = some p := ⟨P[n], List.getElem?_eq_getElem hlt⟩
         have HPN := Lib.hid (HPL.out p (List.mem_of_getElem? hp))
         obtain ⟨pa, hpa, _, hcp⟩ := HPP.out.elem n (idC p) (by simp [hp])
         subst hpa
         have hn0 : (0 : Int) ≤ (n : Int) := by omega
         have HCP := Lib.hid (show ∀ W', Below w.heap.size w W' → ∀ j u, (idC p)[j]? = some u → W'.cell? ((pa.add (n * 32)).add j) = some u from fun W' hb j u hu => by
          rw [hb.cell (World.block_lt_of_cell? _ _ (hcp j u hu))]; exact hcp j u hu)
         have HBW8 := Lib.hid (HB1.out.trans (HW.out.b.mono HB1.out.size))
         have HC8 := Lib.hid (HCP.out wr8 HBW8.out)
         have HIN := Lib.hid (in_any wr8 (.slice to_ T.length tc) T p HW.out.s.rows HW.out.s.len HPN.out (by omega))
         have hwz : w.heap.size < wr8.heap.size := by have := HW.out.b.size; omega
         have HX8 := Lib.hid ((HW.out.b.block w.heap.size (by omega)).trans HX1.out)
         clear hcp HT HWF
         by_cases hin : p ∈ T
         ·
          rw [decide_eq_true hin] at HIN
          have HT3 := Lib.hid (see_same HT2.out hp (.inl hin))
          clear hp hin HT2
          go_wp2_with ((with_reducible refine ld_id (l := p) (x := .tmp 78) (p := pa.add (n * 32)) ?_ ?_ ?_ HC8.out HPN.out ?_); rfl; rfl; rfl)
          with_reducible refine HIN.out.mono ?_
          rintro r w9 ⟨rfl, hb9⟩
          have HW9 := Lib.hid (HW.out.below (hb9.drew))
          clear hb9 HIN HC8 HCP HX8 HW HBW8
          go_wp2_with fail
          refine rgn_tail 8 (by kernel_rfl) (by kernel_rfl) ?_
          simp only [List.take_succ_cons, List.take_zero, List.drop_succ_cons, List.drop_zero]
          still_step
          still_step
          still_step
          (with_reducible refine stillg_skip ?_ ?_; kernel_rfl; try simp only [q0])
          (with_reducible refine stillg_skip ?_ ?_; kernel_rfl; try simp only [q0])
          (with_reducible refine stillg_skip ?_ ?_; kernel_rfl; try simp only [q0])
          (with_reducible refine stillg_skip ?_ ?_; kernel_rfl; try simp only [q0])
          (with_reducible refine stillg_skip ?_ ?_; kernel_rfl; try simp only [q0])
          refine wpStill_nil ?_
          go_wp2_with fail
          go_roundw
          case rel => exact ⟨n + 1, T, by omega, by go_num, by rw [hoUl]; have := HW9.out; rwa [hoUl] at this, fun y => by simpa using HT3.out y⟩
          case measure => simp [intOf]; omega
         ·
          rw [decide_eq_false hin] at HIN
          have HPT := Lib.hid hin
          have HP2 := Lib.hid hp
          clear hp hin
          go_wp2_with ((with_reducible refine ld_id (l := p) (x := .tmp 78) (p := pa.add (n * 32)) ?_ ?_ ?_ HC8.out HPN.out ?_); rfl; rfl; rfl)
          with_reducible refine HIN.out.mono ?_
          rintro r w9 ⟨rfl, hb9⟩
          have HW9 := Lib.hid (HW.out.below hb9)
          have HBW9 := Lib.hid (HBW8.out.trans (hb9.mono HBW8.out.size))
          have HX9 := Lib.hid ((hb9.block w.heap.size hwz).trans HX8.out)
          have c9 : w9.cell? ⟨w.heap.size, 0, none⟩ = some (.slice so L.length sc) := by rw [cell_of_row _ _ 0 _ _ _ HX9.out]; rfl
          have HC9 := Lib.hid (HCP.out w9.drew HBW9.out.drew)
          have HKD := Lib.hid (HKA.out w9.drew HBW9.out.drew p HPN.out)
          clear hb9 HIN HC8 HX8 HW HBW8
          go_wp2_with fail
          refine rgn_tail 8 (by kernel_rfl) (by kernel_rfl) ?_
          simp only [List.take_succ_cons, List.take_zero, List.drop_succ_cons, List.drop_zero]
          still_step
          still_step
          still_step
          (with_reducible refine stillg_take ?_ (fun K hK => ?_); kernel_rfl; go_simp; refine hK _ ?_; clear hK K)
          (with_reducible refine stillg_take ?_ (fun K hK => ?_); kernel_rfl; go_simp; refine hK _ ?_; clear hK K)
          (with_reducible refine stillg_take ?_ (fun K hK => ?_); kernel_rfl; go_simp; refine hK _ ?_; clear hK K)
          (with_reducible refine stillg_take ?_ (fun K hK => ?_); kernel_rfl; go_simp; refine hK _ ?_; clear hK K)
          (with_reducible apply stillg_id (p := pa.add (n * 32)) (hc := HC9.out) (hl := HPN.out))
          kernel_rfl
          rfl
          rfl
          refine wpStill_nil ?_
          by_cases hk3 : Gr.kd L p = 3
          ·
           have HCM : Gr.cm L p = true := by rw [Gr.cm_kd, hk3]; rfl
           have HT3 := Lib.hid (see_new HT2.out HP2.out HCM)
           rw [hk3] at HKD
           have HCM2 := Lib.hid HCM
           clear HCM hk3 HT2
           go_wp2_with fail
           with_reducible refine HKD.out.mono ?_
           rintro r wa ⟨rfl, hba⟩
           have hb9a : Below w9.heap.size w9 wa := (Below.refl w9.heap.size w9).drew.trans hba
           have HWa := Lib.hid (HW9.out.below hb9a)
           have HBWa := Lib.hid (HBW9.out.trans (hb9a.mono HBW9.out.size))
           have HCa := Lib.hid (HCP.out wa HBWa.out)
           have HSa := Lib.hid HWa.out.s
           have hKa := HWa.out.b.size
           clear hba hb9a HKD HW9 HBW9 HC9 HX9 c9 HCP
           go_wp2_with (first
            | ((with_reducible refine ld_id (l := p) (x := .tmp 95) (p := pa.add (n * 32)) ?_ ?_ ?_ HCa.out HPN.out ?_); rfl; rfl; rfl)
            | ((with_reducible refine bs_id2 (l := p) (x := .tmp 96) ?_ ?_ ?_ HPN.out ?_); rfl; rfl; rfl)
            | ((with_reducible refine ap_id_at (.tmp 92) (.tmp 97) ?_ ?_ ?_ ?_ HSa.out hKa HPN.out (by omega) ?_); rfl; rfl; rfl; rfl; intro v5 w5 HO5 HG5 HV5))
           have HWb := Lib.hid (HWa.out.see HPT.out HCM2.out HO5.out HG5.out HV5.out)
           clear HO5 HG5 HV5 HWa HSa
           go_roundw
           case rel => exact ⟨n + 1, T ++ [p], by omega, by go_num, by rw [hoUl]; have := HWb.out; rwa [hoUl] at this, fun y => by simpa using HT3.out y⟩
           case measure => simp [intOf]; omega
          ·
           have HCM : Gr.cm L p = false := by rw [Gr.cm_kd]; simpa using hk3
           have HT3 := Lib.hid (see_same HT2.out HP2.out (.inr HCM))
           have hkb : (Gr.kd L p == 3) = false := by simpa using hk3
           clear HCM hk3 HT2
           go_wp2_with fail
           with_reducible refine HKD.out.mono ?_
           rintro r wa ⟨rfl, hba⟩
           have HWa := Lib.hid (HW9.out.below ((Below.refl w9.heap.size w9).drew.trans hba))
           clear hba HKD HW9 HBW9 HC9 HX9 c9 HCP
           go_wp2_with fail
           go_roundw
           case rel => exact ⟨n + 1, T, by omega, by go_num, by rw [hoUl]; have := HWa.out; rwa [hoUl] at this, fun y => by simpa using HT3.out y⟩
           case measure => simp [intOf]; omega
      ·
       have hlt' : ¬ (n : Int) < (P.length : Int) := by omega
       have HK2 := Lib.hid (fun R hR => HK.out R (.more HXS.out HXM.out HBT.out (S' := T) (fun y => by rw [HT.out y, HEC.out, List.take_of_length_le (by omega)]) hR))
       clear HT HEC HK
       cases ec with
       | true =>
         go_wp2_with fail
         go_roundw
         case rel => exact ⟨T, O ++ [x], HWF.out, HK2.out⟩
         case measure => simp [lenV]; omega
       | false =>
         go_wp2_with fail
         go_roundw
         case rel => exact ⟨T, O ++ [x], HWF.out, HK2.out⟩
         case measure => simp [lenV]; omega
end R
end Go.Proofs.YtfckfjndnhjpoaaGreatDoor
end
