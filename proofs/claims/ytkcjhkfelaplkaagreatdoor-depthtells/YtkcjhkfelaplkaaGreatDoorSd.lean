/-
  WALKS OF LAYER 13: the finder's add.
-/
import Derived.Test.YtkcjhkfelaplkaaGreatDoorSa
import Derived.Test.YtkcjhkfelaplkaaGreatDoorSb
import Derived.Test.YtkcjhkfelaplkaaGreatDoorSc
import Derived.BigQuiet
import Derived.Deep.QuietTactic
import Derived.Test.YtkcjhkfelaplkaaGreatDoorQa
set_option linter.unusedVariables false
set_option linter.unusedSimpArgs false
set_option maxHeartbeats 8000000
set_option maxRecDepth 100000
namespace Go.Proofs.YtkcjhkfelaplkaaGreatDoor
open Go.RowKit
structure FB (W : World) (base b mb n : Nat) (sp v : Value) (O : List (List UInt8 × Nat)) (S : List (List UInt8)) : Prop where
 box : W.heap[b]? = some (.cells #[sp, .map (some mb), v] 100 (0, 0))
 own : OwnD 48 W base v O
 ids : Ids W mb n S
 lt : b < base
 mlt : mb < base
 bm : b ≠ mb
theorem FB.bl {W : World} {base b mb n : Nat} {sp v : Value} {O : List (List UInt8 × Nat)} {S : List (List UInt8)} (h : FB W base b mb n sp v O S) : b < W.heap.size := (Array.getElem?_eq_some_iff.1 h.box).1
theorem FB.below {W W' : World} {base b mb n : Nat} {sp v : Value} {O : List (List UInt8 × Nat)} {S : List (List UInt8)} (h : FB W base b mb n sp v O S) (hb : Below W.heap.size W W') : FB W' base b mb n sp v O S :=
 ⟨(hb.block _ h.bl).trans h.box, h.own.below hb, h.ids.below hb, h.lt, h.mlt, h.bm⟩
theorem FB.seen {W W' : World} {base b mb n n' : Nat} {sp v : Value} {O : List (List UInt8 × Nat)} {S S' : List (List UInt8)} (h : FB W base b mb n sp v O S) (hs : Ids W' mb n' S') (hg : W.grownBy W' (some mb)) : FB W' base b mb n' sp v O S' :=
 ⟨(hg.block b h.bl (fun e => by injection e with e; exact h.bm e)).trans h.box, ⟨own_kept h.own.own (fun q hq => hg.block q (h.own.own.lt q hq).2 (fun e => by injection e with e; have := (h.own.own.lt q hq).1; have := h.mlt; omega)), h.own.len⟩, hs, h.lt, h.mlt, h.bm⟩
def Dp.Seen (cm : List UInt8 → Bool) (O : List (List UInt8 × Nat)) (S : List (List UInt8)) : Prop := ∀ x, cm x = true → (x ∈ S ↔ x ∈ O.map Prod.fst)
def FAdd (W : World) (base b mb n : Nat) (sp v : Value) (L : List St.It) (O : List (List UInt8 × Nat)) (S : List (List UInt8)) (k : Nat) (I : List (List UInt8)) (W' : World) : Prop :=
 ∃ v' n' S', FB W' base b mb n' sp v' (O ++ Dp.news (Gr.cm L) O k I) S' ∧ Dp.Seen (Gr.cm L) (O ++ Dp.news (Gr.cm L) O k I) S' ∧ Fr W W' b mb v ∧ Nx W v v' ∧ n' ≤ n + I.length
theorem Dp.news_one (cm : List UInt8 → Bool) (O : List (List UInt8 × Nat)) (k : Nat) (id : List UInt8) : Dp.news cm O k [id] = if cm id = true ∧ id ∉ O.map Prod.fst then [(id, k)] else [] := by
 unfold Dp.news
 rw [Wk.nw]
 by_cases h : cm id = true ∧ id ∉ O.map Prod.fst
 · rw [if_pos h, if_pos h]; rfl
 · rw [if_neg h, if_neg h]; rfl
theorem yields_bd_dp {T Ts : TypeId} (hT : Dp.Ty T Ts) {ops : Array Oper} {S : World → Prop} {a : Act} {o : Oper} {x y : Operand} {d : List UInt8 × Nat} (hw : Region.wanted o (yielded ops a.tmps) = true) (ho : o.op = .build T #[(0, x), (1, y)]) (hx : a.eval x = .agg (idC d.1).toArray) (hy : a.eval y = .int .i64 (d.2 : Int)) (hd : d.1.length = 32) : YieldsIf Tryz.prog ops S o (.agg (Dp.C d).toArray) a := .inl ⟨hw, fun w _ => by
 have hr := run_build (P := Tryz.prog) w T #[(0, .agg (idC d.1).toArray), (1, .int .i64 (d.2 : Int))] _ (Dp.built hT d hd)
 unfold execOp
 simp only [ho, Sem.run_bind, Sem.run_pure, Result.andThen_ok, List.map_toArray, List.map_cons, List.map_nil, hx, hy, hr]⟩
theorem fadd_any (w W : World) (base b mb n sbase sb : Nat) (sv v : Value) (L : List St.It) (O : List (List UInt8 × Nat)) (S : List (List UInt8)) (id : List UInt8) (k : Nat) (h : FB W base b mb n (.pointer (some ⟨sb, 0, none⟩)) v O S) (hbel : Below w.heap.size w W) (hP : PSt w sbase sb sv L) (hd : Gr.Dec L) (hid : id.length = 32) (hn : n < 100000) (hO : O.length ≤ 900)
  (hS : Dp.Seen (Gr.cm L) O S) (b0 : w.heap.size ≤ b) (m0 : w.heap.size ≤ mb) (hbs : base ≤ W.heap.size) :
  Calls Tryz.prog 42 #[.pointer (some ⟨b, 0, none⟩), .agg (idC id).toArray, .int .i64 (k : Int)] W fun r W' => r = .returned (.tuple #[]) ∧ FAdd W base b mb n (.pointer (some ⟨sb, 0, none⟩)) v L O S k [id] W' := by
 have hWs : w.heap.size ≤ W.heap.size := hbel.size
 have hbl := h.bl
 have hml := h.ids.lt
 have hbm := h.bm
 have HIZ := Lib.hid (show (Tryz.prog.info? 46).map (·.size) = some (idC id).length from idsize hid)
 have HIL := Lib.hid hid
 have HBN := Lib.hid (below_new W (.cells (idC id).toArray 46))
 have HAS := Lib.hid (show (W.alloc (.cells (idC id).toArray 46)).heap.size = W.heap.size + 1 by simp)
 have HBX := Lib.hid (show (W.alloc (.cells (idC id).toArray 46)).heap[b]? = some (.cells #[.pointer (some ⟨sb, 0, none⟩), .map (some mb), v] 100 (0, 0)) from (heap_alloc_old _ _ hbl).trans h.box)
 have HK0 := Lib.hid (show ∀ w' : World, (∀ q, q < W.heap.size + 1 → q ≠ mb → w'.heap[q]? = (W.alloc (.cells (idC id).toArray 46)).heap[q]?) → w'.cell? ⟨b, 0, none⟩ = some (.pointer (some ⟨sb, 0, none⟩)) from fun w' hw => by
  rw [World.cell?_of_block (w := W.alloc (.cells (idC id).toArray 46)) (hw b (by omega) hbm), cell_of_row _ _ 0 _ _ _ HBX.out]; rfl)
 have HK1 := Lib.hid (show ∀ w' : World, (∀ q, q < W.heap.size + 1 → q ≠ mb → w'.heap[q]? = (W.alloc (.cells (idC id).toArray 46)).heap[q]?) → w'.cell? ⟨b, 1, none⟩ = some (.map (some mb)) from fun w' hw => by
  rw [World.cell?_of_block (w := W.alloc (.cells (idC id).toArray 46)) (hw b (by omega) hbm), cell_of_row _ _ 1 _ _ _ HBX.out]; rfl)
 have HI1 := Lib.hid (show ∀ w' : World, (∀ q, q < W.heap.size + 1 → q ≠ mb → w'.heap[q]? = (W.alloc (.cells (idC id).toArray 46)).heap[q]?) → ∀ j u, (idC id)[j]? = some u → w'.cell? ((⟨W.heap.size, 0, none⟩ : Addr).add j) = some u from fun w' hw => row_news ((hw _ (by omega) (by omega)).trans (heap_alloc_last _ _)))
 have hA0 := dpadd_any (W.alloc (.cells (idC id).toArray 46)).drew mb n S id ((h.ids.alloc _).below (Below.refl _ _).drew) (by omega) hid
 have HF := Lib.hid h
 have HSE := Lib.hid hS
 have HBG := Lib.hid (show ∀ w2 : World, (W.alloc (.cells (idC id).toArray 46)).drew.grownBy w2 (some mb) → Below w.heap.size w w2 from fun w2 hg => ((hbel.trans (HBN.out.mono hWs)).drew).grown hg (by show w.heap.size ≤ (W.alloc _).heap.size; rw [HAS.out]; omega) (fun q hq => by injection hq with hq; omega))
 have HFR := Lib.hid (show ∀ w2 : World, (W.alloc (.cells (idC id).toArray 46)).drew.grownBy w2 (some mb) → Fr W w2 b mb v from fun w2 hg => ((Fr.of_below HBN.out b mb v).trans (Fr.of_below (Below.refl _ _).drew b mb v) (Nx.refl _ _)).trans (Fr.of_grown hg b v) (Nx.refl _ _))
 have HFB := Lib.hid (show ∀ (w2 : World) (n' : Nat) (S' : List (List UInt8)), Ids w2 mb n' S' → (W.alloc (.cells (idC id).toArray 46)).drew.grownBy w2 (some mb) → FB w2 base b mb n' (.pointer (some ⟨sb, 0, none⟩)) v O S' from fun w2 n' S' hs hg => ((h.below HBN.out).below (Below.refl _ _).drew).seen hs hg)
 have HKI := Lib.hid (fun (W' : World) (hb : Below w.heap.size w W') => kind_dp W' sbase sb sv L id (hP.below hb) hd hid)
 unfold FAdd
 rw [Dp.news_one]
 clear h hid hS hP hd
 by_cases hin : id ∈ S
 ·
  rw [decide_eq_true hin, if_pos hin] at hA0
  have HAD := Lib.hid hA0
  have hno : ¬ (Gr.cm L id = true ∧ id ∉ O.map Prod.fst) := fun hh => hh.2 ((HSE.out id hh.1).1 hin)
  rw [if_neg hno, List.append_nil]
  have HNO := Lib.hid (show ∀ (w2 : World) (n' : Nat) (S' : List (List UInt8)), Ids w2 mb (n + 1) S → (W.alloc (.cells (idC id).toArray 46)).drew.grownBy w2 (some mb) → ∃ v' n' S', FB w2 base b mb n' (.pointer (some ⟨sb, 0, none⟩)) v' O S' ∧ Dp.Seen (Gr.cm L) O S' ∧ Fr W w2 b mb v ∧ Nx W v v' ∧ n' ≤ n + [id].length from
   fun w2 _ _ hs hg => ⟨v, n + 1, S, HFB.out w2 _ _ hs hg, HSE.out, HFR.out w2 hg, Nx.refl _ _, Nat.le_refl _⟩)
  clear hin hno hA0 HKI HF HSE HBG HFR HFB HBN
  go_enter Tryz.func42, Tryz.ntmps42
  go_wp2_with fail
  refine wp_region_noPanic ?_
  refine wp_region_held_drew (S := (fun w' => ∀ q, q < W.heap.size + 1 → q ≠ mb → w'.heap[q]? = (W.alloc (.cells (idC id).toArray 46)).heap[q]?)) (by kernel_rfl) (fun q _ _ => rfl) (fun hH => ?_)
  refine tk (i := 0) (v := ?_) ?_ ?_
  rotate_left
  · intro w' hSw; go_simp; try rfl
  try simp only [q0]
  refine tk (i := 1) (v := ?_) ?_ ?_
  rotate_left
  · intro w' hSw; go_simp; try rfl
  try simp only [q0]
  refine tk (i := 2) (v := ?_) ?_ ?_
  rotate_left
  · intro w' hSw; go_simp; try rfl
  try simp only [q0]
  refine tk (i := 3) (v := ?_) ?_ ?_
  rotate_left
  · intro w' hSw; have q0 := HK1.out _ hSw; go_simp; try rfl
  try simp only [q0]
  refine wpAnyH_take (i := 4) rfl (by kernel_rfl) (by kernel_rfl) (by kernel_rfl) (fun _ _ _ h => h) (yields_at (p := ⟨W.heap.size, 0, none⟩) (cs := idC id) (by rfl) rfl rfl (fun w' hw' => HI1.out w' hw') Tryz.underlying46 rfl HIZ.out) (by assumption) ?_
  try simp only [q0]
  refine wpAnyH_ready (rs := [5]) (by kernel_rfl) (by simp) ?_
  refine AllReadyH.cons rfl (fun K hK => ?_) AllReadyH.nil
  go_simp
  with_reducible refine HAD.out.mono ?_
  rintro r w2 ⟨rfl, hs2, hg2⟩
  have HS2 := Lib.hid hs2
  have HG2 := Lib.hid hg2
  have HW2 := Lib.hid (show ∀ q, q < W.heap.size + 1 → q ≠ mb → w2.heap[q]? = (W.alloc (.cells (idC id).toArray 46)).heap[q]? from fun q hq hm => (hg2.block q (by show q < (W.alloc _).heap.size; rw [HAS.out]; omega) (fun e => by injection e with e; exact hm e)).trans rfl)
  clear hs2 hg2
  go_wp2_with fail
  refine hK.out _ _ HW2.out (fun _ => ?_)
  clear hK K
  try simp only [q0]
  refine tk (i := 6) (v := ?_) ?_ ?_
  rotate_left
  · intro w' hSw; go_simp; try rfl
  try simp only [q0]
  refine wpAnyH_take (i := 7) (v := undef) rfl (by kernel_rfl) (by kernel_rfl) (by kernel_rfl) (fun _ _ _ h => h) (Or.inr ⟨by rfl, rfl⟩) (by assumption) ?_
  try simp only [q0]
  refine wpAnyH_take (i := 8) (v := undef) rfl (by kernel_rfl) (by kernel_rfl) (by kernel_rfl) (fun _ _ _ h => h) (Or.inr ⟨by rfl, rfl⟩) (by assumption) ?_
  try simp only [q0]
  refine wpAnyH_take (i := 9) (v := undef) rfl (by kernel_rfl) (by kernel_rfl) (by kernel_rfl) (fun _ _ _ h => h) (Or.inr ⟨by rfl, rfl⟩) (by assumption) ?_
  try simp only [q0]
  refine wpAnyH_take (i := 10) (v := undef) rfl (by kernel_rfl) (by kernel_rfl) (by kernel_rfl) (fun _ _ _ h => h) (Or.inr ⟨by rfl, rfl⟩) (by assumption) ?_
  try simp only [q0]
  refine wpAnyH_take (i := 11) (v := undef) rfl (by kernel_rfl) (by kernel_rfl) (by kernel_rfl) (fun _ _ _ h => h) (Or.inr ⟨by rfl, rfl⟩) (by assumption) ?_
  try simp only [q0]
  refine wpAnyH_take (i := 12) (v := undef) rfl (by kernel_rfl) (by kernel_rfl) (by kernel_rfl) (fun _ _ _ h => h) (Or.inr ⟨by rfl, rfl⟩) (by assumption) ?_
  try simp only [q0]
  refine wpAnyH_take (i := 13) (v := undef) rfl (by kernel_rfl) (by kernel_rfl) (by kernel_rfl) (fun _ _ _ h => h) (Or.inr ⟨by rfl, rfl⟩) (by assumption) ?_
  try simp only [q0]
  refine tk (i := 14) (v := ?_) ?_ ?_
  rotate_left
  · intro w' hSw; go_simp; try rfl
  try simp only [q0]
  refine wpAnyH_done (by kernel_rfl) ?_ _
  refine NoPanic.normal ?_
  have HEND := Lib.hid (HNO.out w2 n.succ S HS2.out HG2.out)
  clear HNO HS2 HG2
  go_wp2_with fail
  refine bodyPost_end (results_none rfl _ _ _) rfl ?_
  exact ⟨rfl, HEND.out⟩
 ·
  rw [decide_eq_false hin, if_neg hin] at hA0
  have HAD := Lib.hid hA0
  by_cases hk3 : Gr.kd L id = 3
  ·
   have hkb : (Gr.kd L id == 3) = true := by simpa using hk3
   have hcm : Gr.cm L id = true := by rw [Gr.cm_kd]; exact decide_eq_true hk3
   have hno : Gr.cm L id = true ∧ id ∉ O.map Prod.fst := ⟨hcm, fun hh => hin ((HSE.out id hcm).2 hh)⟩
   rw [if_pos hno]
   have HS2 := Lib.hid (show Dp.Seen (Gr.cm L) (O ++ [(id, k)]) (S ++ [id]) from fun x hx => by
    rw [List.mem_append, List.mem_singleton, List.map_append, List.mem_append, HSE.out x hx]
    simp)
   clear hin hno hA0 HSE hcm
   go_enter Tryz.func42, Tryz.ntmps42
   go_wp2_with fail
   refine wp_region_noPanic ?_
   refine wp_region_held_drew (S := (fun w' => ∀ q, q < W.heap.size + 1 → q ≠ mb → w'.heap[q]? = (W.alloc (.cells (idC id).toArray 46)).heap[q]?)) (by kernel_rfl) (fun q _ _ => rfl) (fun hH => ?_)
   refine tk (i := 0) (v := ?_) ?_ ?_
   rotate_left
   · intro w' hSw; go_simp; try rfl
   try simp only [q0]
   refine tk (i := 1) (v := ?_) ?_ ?_
   rotate_left
   · intro w' hSw; go_simp; try rfl
   try simp only [q0]
   refine tk (i := 2) (v := ?_) ?_ ?_
   rotate_left
   · intro w' hSw; go_simp; try rfl
   try simp only [q0]
   refine tk (i := 3) (v := ?_) ?_ ?_
   rotate_left
   · intro w' hSw; have q0 := HK1.out _ hSw; go_simp; try rfl
   try simp only [q0]
   refine wpAnyH_take (i := 4) rfl (by kernel_rfl) (by kernel_rfl) (by kernel_rfl) (fun _ _ _ h => h) (yields_at (p := ⟨W.heap.size, 0, none⟩) (cs := idC id) (by rfl) rfl rfl (fun w' hw' => HI1.out w' hw') Tryz.underlying46 rfl HIZ.out) (by assumption) ?_
   try simp only [q0]
   refine wpAnyH_ready (rs := [5]) (by kernel_rfl) (by simp) ?_
   refine AllReadyH.cons rfl (fun K hK => ?_) AllReadyH.nil
   go_simp
   with_reducible refine HAD.out.mono ?_
   rintro r w2 ⟨rfl, hs2, hg2⟩
   have HT2 := Lib.hid hs2
   have HG2 := Lib.hid hg2
   have HW2 := Lib.hid (show ∀ q, q < W.heap.size + 1 → q ≠ mb → w2.heap[q]? = (W.alloc (.cells (idC id).toArray 46)).heap[q]? from fun q hq hm => (hg2.block q (by show q < (W.alloc _).heap.size; rw [HAS.out]; omega) (fun e => by injection e with e; exact hm e)).trans rfl)
   clear hs2 hg2
   go_wp2_with fail
   refine hK.out _ _ HW2.out (fun _ => ?_)
   clear hK K
   try simp only [q0]
   refine tk (i := 6) (v := ?_) ?_ ?_
   rotate_left
   · intro w' hSw; go_simp; try rfl
   try simp only [q0]
   refine tk (i := 7) (v := ?_) ?_ ?_
   rotate_left
   · intro w' hSw; go_simp; try rfl
   try simp only [q0]
   refine tk (i := 8) (v := ?_) ?_ ?_
   rotate_left
   · intro w' hSw; go_simp; try rfl
   try simp only [q0]
   refine tk (i := 9) (v := ?_) ?_ ?_
   rotate_left
   · intro w' hSw; go_simp; try rfl
   try simp only [q0]
   refine tk (i := 10) (v := ?_) ?_ ?_
   rotate_left
   · intro w' hSw; have q0 := HK0.out _ hSw; go_simp; try rfl
   try simp only [q0]
   refine wpAnyH_take (i := 11) rfl (by kernel_rfl) (by kernel_rfl) (by kernel_rfl) (fun _ _ _ h => h) (yields_at (p := ⟨W.heap.size, 0, none⟩) (cs := idC id) (by rfl) rfl rfl (fun w' hw' => HI1.out w' hw') Tryz.underlying46 rfl HIZ.out) (by assumption) ?_
   try simp only [q0]
   refine wpAnyH_ready (rs := [12]) (by kernel_rfl) (by simp) ?_
   refine AllReadyH.cons rfl (fun K hK => ?_) AllReadyH.nil
   go_simp
   have HKD := Lib.hid (HKI.out w2 (HBG.out w2 HG2.out))
   with_reducible refine HKD.out.mono ?_
   rintro r w3 ⟨rfl, hb3⟩
   have HB3 := Lib.hid hb3
   have HW3 := Lib.hid (show ∀ q, q < W.heap.size + 1 → q ≠ mb → w3.heap[q]? = (W.alloc (.cells (idC id).toArray 46)).heap[q]? from fun q hq hm => (hb3.block q (by have := HG2.out.size; have h2 : (W.alloc (.cells (idC id).toArray 46)).drew.heap.size = W.heap.size + 1 := HAS.out; omega)).trans (HW2.out q hq hm))
   clear hb3 HKD
   go_wp2_with fail
   refine hK.out _ _ HW3.out (fun _ => ?_)
   clear hK K
   try simp only [q0]
   refine tk (i := 13) (v := ?_) ?_ ?_
   rotate_left
   · intro w' hSw; go_simp; try rfl
   try simp only [q0]
   refine tk (i := 14) (v := ?_) ?_ ?_
   rotate_left
   · intro w' hSw; go_simp; try rfl
   try simp only [q0]
   refine wpAnyH_done (by kernel_rfl) ?_ _
   refine NoPanic.normal ?_
   obtain ⟨ao, cap, rfl⟩ := HF.out.own.form
   have HF3 := Lib.hid ((HFB.out w2 _ _ HT2.out HG2.out).below HB3.out)
   have hz3 : W.heap.size + 1 ≤ w3.heap.size := by
    have e1 := HG2.out.size
    have e2 := HB3.out.size
    have e3 : (W.alloc (.cells (idC id).toArray 46)).drew.heap.size = W.heap.size + 1 := HAS.out
    omega
   have hbs3 : base ≤ w3.drew.heap.size := by show base ≤ w3.heap.size; omega
   have hn2 : O.length ≤ 2000 := by omega
   have hbl3 := HF3.out.bl
   have c0 : w3.drew.cell? ⟨b, 2, none⟩ = some (.slice ao O.length cap) := by show w3.cell? _ = _; rw [cell_of_row _ _ 2 _ _ _ HF3.out.box]; rfl
   have c1 : (w3.alloc (.cells (Dp.C (id, k)).toArray 48)).cell? ⟨b, 2, none⟩ = some (.slice ao O.length cap) := by
    rw [World.cell?_of_block (w := w3) (heap_alloc_old _ _ hbl3), cell_of_row _ _ 2 _ _ _ HF3.out.box]; rfl
   have HOD := Lib.hid (show OwnD 48 w3.drew base (.slice ao O.length cap) O from HF3.out.own.below (Below.refl _ _).drew)
   have hne : some b ≠ (Value.slice ao O.length cap).ownBlock := fun e => by have := (HF3.out.own.own.lt b e.symm).1; have := HF3.out.lt; omega
   have hneW : some W.heap.size ≠ (Value.slice ao O.length cap).ownBlock := fun e => by have := (HF.out.own.own.lt _ e.symm).2; omega
   have HBX3 := Lib.hid (show ∀ w' : World, (w3.drew.alloc (.cells (Dp.C (id, k)).toArray 48)).grownBy w' (Value.slice ao O.length cap).ownBlock → w'.heap[b]? = some (.cells #[.pointer (some ⟨sb, 0, none⟩), .map (some mb), .slice ao O.length cap] 100 (0, 0)) from fun w' hg =>
    (hg.block b (by simp; omega) hne).trans ((heap_alloc_old _ _ (show b < w3.drew.heap.size from hbl3)).trans HF3.out.box))
   have HS3 := Lib.hid (show w3.drew.heap[W.heap.size]? = w3.heap[W.heap.size]? from rfl)
   have HS4 := Lib.hid (show (w3.drew.alloc (.cells (Dp.C (id, k)).toArray 48)).heap[W.heap.size]? = w3.heap[W.heap.size]? from (heap_alloc_old _ _ (show W.heap.size < w3.drew.heap.size from by show W.heap.size < w3.heap.size; omega)).trans rfl)
   have HS5 := Lib.hid (show ∀ w' : World, (w3.drew.alloc (.cells (Dp.C (id, k)).toArray 48)).grownBy w' (Value.slice ao O.length cap).ownBlock → w'.heap[W.heap.size]? = w3.heap[W.heap.size]? from fun w' hg => (hg.block _ (by simp; omega) hneW).trans HS4.out)
   have HSX := Lib.hid (show ∀ (w' : World) (u : Value), w'.heap[W.heap.size]? = w3.heap[W.heap.size]? → (w'.setCell ⟨b, 2, none⟩ u).heap[W.heap.size]? = w3.heap[W.heap.size]? from fun w' u hw => (Below.heap_setCell _ _ _ _ (show W.heap.size ≠ b by omega)).trans hw)
   have HI3 := Lib.hid (show ∀ w' : World, w'.heap[W.heap.size]? = w3.heap[W.heap.size]? → ∀ j u, (idC id)[j]? = some u → w'.cell? ((⟨W.heap.size, 0, none⟩ : Addr).add j) = some u from fun w' hw => row_news (hw.trans ((HW3.out _ (by omega) (by omega)).trans (heap_alloc_last _ _))))
   have HEND3 := Lib.hid (show ∀ (v' : Value) (w' : World), OwnD 48 w' base v' (O ++ [(id, k)]) → (w3.drew.alloc (.cells (Dp.C (id, k)).toArray 48)).grownBy w' (Value.slice ao O.length cap).ownBlock → (v'.ownBlock = (Value.slice ao O.length cap).ownBlock ∨ v'.ownBlock = some (w3.drew.heap.size + 1)) →
     ∃ v'' n' S', FB (w'.setCell ⟨b, 2, none⟩ v') base b mb n' (.pointer (some ⟨sb, 0, none⟩)) v'' (O ++ [(id, k)]) S' ∧ Dp.Seen (Gr.cm L) (O ++ [(id, k)]) S' ∧ Fr W (w'.setCell ⟨b, 2, none⟩ v') b mb (.slice ao O.length cap) ∧ Nx W (.slice ao O.length cap) v'' ∧ n' ≤ n + [id].length from fun v' w' ho hg hv => by
    have hx := HBX3.out w' hg
    have hsz : w3.heap.size + 1 ≤ w'.heap.size := by have := hg.size; simpa using this
    have hgs := grown_setCell w' ⟨b, 2, none⟩ v'
    have hmb3 := HF3.out.ids.lt
    have hmlt := HF3.out.mlt
    refine ⟨v', n + 1, S ++ [id], ⟨heap_setCell_same _ _ _ _ _ _ hx, ⟨own_kept ho.own (fun q hq => hgs.block q (ho.own.lt q hq).2 (fun e => by have := (ho.own.lt q hq).1; have := HF3.out.lt; injection e with e; simp at e; omega)), ho.len⟩, ?_, HF3.out.lt, HF3.out.mlt, HF3.out.bm⟩, HS2.out, ?_, ?_, Nat.le_refl _⟩
    ·
     refine HF3.out.ids.at_ ?_
     rw [hgs.block mb (by omega) (fun e => by injection e with e; simp at e; exact hbm e.symm), hg.block mb (by simp; omega) (fun e => by have := (HF3.out.own.own.lt mb e.symm).1; omega), heap_alloc_old _ _ (show mb < w3.drew.heap.size from hmb3)]; rfl
    ·
     have f1 := (HFR.out w2 HG2.out).trans (Fr.of_below HB3.out b mb (.slice ao O.length cap)) (Nx.refl _ _)
     have f2 := f1.trans (Fr.of_below (Below.refl _ w3).drew b mb (.slice ao O.length cap)) (Nx.refl _ _)
     have f3 := f2.trans (Fr.of_below (below_new w3.drew (.cells (Dp.C (id, k)).toArray 48)) b mb (.slice ao O.length cap)) (Nx.refl _ _)
     have f4 := f3.trans (Fr.of_ch (Ch.of_grown hg (.inr (.inl rfl))) mb) (Nx.refl _ _)
     exact f4.trans (Fr.of_ch (Ch.of_grown hgs (.inl rfl)) mb) (Nx.refl _ _)
    ·
     rcases hv with e | e
     · exact .inl e
     · exact .inr fun q hq => by rw [e] at hq; injection hq with hq; have : w3.drew.heap.size = w3.heap.size := rfl; omega)
   clear HFB HFR HF HB3 HW3 HT2 HG2 HK0 HK1 HI1 HBX HKI HBG HAD HBN HS2 hne hneW HF3
   go_wp2_with fail
   refine wp_region_noPanic ?_
   refine wp_region_held_drew (S := (fun w' => w'.heap[W.heap.size]? = w3.heap[W.heap.size]?)) (by kernel_rfl) rfl (fun hH => ?_)
   refine tk (i := 0) (v := ?_) ?_ ?_
   rotate_left
   · intro w' hSw; go_simp; try rfl
   try simp only [q0]
   refine tk (i := 1) (v := ?_) ?_ ?_
   rotate_left
   · intro w' hSw; go_simp; try rfl
   try simp only [q0]
   refine tk (i := 2) (v := ?_) ?_ ?_
   rotate_left
   · intro w' hSw; go_simp; try rfl
   try simp only [q0]
   refine tk (i := 3) (v := ?_) ?_ ?_
   rotate_left
   · intro w' hSw; go_simp; try rfl
   try simp only [q0]
   refine wpAnyH_take (i := 5) rfl (by kernel_rfl) (by kernel_rfl) (by kernel_rfl) (fun _ _ _ h => h) (yields_at (p := ⟨W.heap.size, 0, none⟩) (cs := idC id) (by rfl) rfl rfl (fun w' hw' => HI3.out w' hw') Tryz.underlying46 rfl HIZ.out) (by assumption) ?_
   try simp only [q0]
   refine tk (i := 6) (v := ?_) ?_ ?_
   rotate_left
   · intro w' hSw; go_simp; try rfl
   try simp only [q0]
   refine wpAnyH_take (i := 7) rfl (by kernel_rfl) (by kernel_rfl) (by kernel_rfl) (fun _ _ _ h => h) (yields_bd_dp (d := (id, k)) Dp.tyP (by rfl) rfl rfl rfl HIL.out) (by assumption) ?_
   try simp only [q0]
   refine wpAnyH_ready (rs := [4, 8]) (by kernel_rfl) (by simp) ?_
   refine AllReadyH.cons rfl (fun K hK => ?_) (AllReadyH.cons rfl (fun K hK => ?_) AllReadyH.nil)
   ·
    have q0 := c0
    go_simp
    refine hK.out _ _ HS3.out (fun _ => ?_)
    clear hK K
    try simp only [q0]
    refine wpAnyH_ready (rs := [8]) (by kernel_rfl) (by simp) ?_
    refine AllReadyH.cons rfl (fun K hK => ?_) AllReadyH.nil
    rw [if_pos (by rfl)]
    refine wp_bsDp Dp.tyP (d := (id, k)) (x := .tmp 28) rfl rfl HIL.out ?_
    refine hK.out _ _ HS4.out (fun _ => ?_)
    clear hK K
    try simp only [q0]
    refine wpAnyH_ready (rs := [9]) (by kernel_rfl) (by simp) ?_
    refine AllReadyH.cons rfl (fun K hK => ?_) AllReadyH.nil
    rw [if_pos (by rfl)]
    refine wp_ap_dp Dp.tyP (v := .slice ao O.length cap) (d := (id, k)) (base := base) (.tmp 25) (.tmp 29) rfl rfl rfl HOD.out hbs3 hn2 HIL.out (fun v' w' HO2 HG4 HN4 => ?_)
    refine hK.out _ _ (HS5.out w' HG4.out) (fun _ => ?_)
    clear hK K
    try simp only [q0]
    refine tk (i := 10) (v := ?_) ?_ ?_
    rotate_left
    · intro w' hSw; go_simp; try rfl
    try simp only [q0]
    refine tk (i := 11) (v := ?_) ?_ ?_
    rotate_left
    · intro w' hSw; go_simp; try rfl
    try simp only [q0]
    have HX2 := Lib.hid (HBX3.out w' HG4.out)
    have q1 : w'.cell? ⟨b, 2, none⟩ = some (.slice ao O.length cap) := by rw [cell_of_row _ _ 2 _ _ _ HX2.out]; rfl
    have q2 : w'.frozen? ⟨b, 2, none⟩ = false := frozen_of_row _ _ 2 _ _ HX2.out
    obtain ⟨uo, uc, hform⟩ := HO2.out.form
    rw [show (O ++ [(id, k)]).length = O.length + 1 by simp] at hform
    subst hform
    refine wpAnyH_ready (rs := [12]) (by kernel_rfl) (by simp) ?_
    refine AllReadyH.cons rfl (fun K hK => ?_) AllReadyH.nil
    go_simp
    have HQ := Lib.hid (HEND3.out _ w' HO2.out HG4.out HN4.out)
    have HS6 := Lib.hid (HSX.out w' _ (HS5.out w' HG4.out) : (w'.setCell ⟨b, 2, none⟩ (.slice uo (O.length + 1) uc)).heap[W.heap.size]? = w3.heap[W.heap.size]?)
    clear HO2 HG4 HN4
    refine hK.out _ _ HS6.out (fun _ => ?_)
    clear hK K
    try simp only [q0]
    refine wpAnyH_done (by kernel_rfl) ?_ _
    refine NoPanic.normal ?_
    go_wp2_with fail
    refine bodyPost_end (results_none rfl _ _ _) rfl ?_
    exact ⟨rfl, HQ.out⟩
   ·
    rw [if_pos (by rfl)]
    refine wp_bsDp Dp.tyP (d := (id, k)) (x := .tmp 28) rfl rfl HIL.out ?_
    refine hK.out _ _ HS4.out (fun _ => ?_)
    clear hK K
    try simp only [q0]
    refine wpAnyH_ready (rs := [4]) (by kernel_rfl) (by simp) ?_
    refine AllReadyH.cons rfl (fun K hK => ?_) AllReadyH.nil
    have q0 := c1
    go_simp
    change K _ (w3.drew.alloc (.cells (Dp.C (id, k)).toArray 48))
    refine hK.out _ _ HS4.out (fun _ => ?_)
    clear hK K
    try simp only [q0]
    refine wpAnyH_ready (rs := [9]) (by kernel_rfl) (by simp) ?_
    refine AllReadyH.cons rfl (fun K hK => ?_) AllReadyH.nil
    rw [if_pos (by rfl)]
    refine wp_ap_dp Dp.tyP (v := .slice ao O.length cap) (d := (id, k)) (base := base) (.tmp 25) (.tmp 29) rfl rfl rfl HOD.out hbs3 hn2 HIL.out (fun v' w' HO2 HG4 HN4 => ?_)
    refine hK.out _ _ (HS5.out w' HG4.out) (fun _ => ?_)
    clear hK K
    try simp only [q0]
    refine tk (i := 10) (v := ?_) ?_ ?_
    rotate_left
    · intro w' hSw; go_simp; try rfl
    try simp only [q0]
    refine tk (i := 11) (v := ?_) ?_ ?_
    rotate_left
    · intro w' hSw; go_simp; try rfl
    try simp only [q0]
    have HX2 := Lib.hid (HBX3.out w' HG4.out)
    have q1 : w'.cell? ⟨b, 2, none⟩ = some (.slice ao O.length cap) := by rw [cell_of_row _ _ 2 _ _ _ HX2.out]; rfl
    have q2 : w'.frozen? ⟨b, 2, none⟩ = false := frozen_of_row _ _ 2 _ _ HX2.out
    obtain ⟨uo, uc, hform⟩ := HO2.out.form
    rw [show (O ++ [(id, k)]).length = O.length + 1 by simp] at hform
    subst hform
    refine wpAnyH_ready (rs := [12]) (by kernel_rfl) (by simp) ?_
    refine AllReadyH.cons rfl (fun K hK => ?_) AllReadyH.nil
    go_simp
    have HQ := Lib.hid (HEND3.out _ w' HO2.out HG4.out HN4.out)
    have HS6 := Lib.hid (HSX.out w' _ (HS5.out w' HG4.out) : (w'.setCell ⟨b, 2, none⟩ (.slice uo (O.length + 1) uc)).heap[W.heap.size]? = w3.heap[W.heap.size]?)
    clear HO2 HG4 HN4
    refine hK.out _ _ HS6.out (fun _ => ?_)
    clear hK K
    try simp only [q0]
    refine wpAnyH_done (by kernel_rfl) ?_ _
    refine NoPanic.normal ?_
    go_wp2_with fail
    refine bodyPost_end (results_none rfl _ _ _) rfl ?_
    exact ⟨rfl, HQ.out⟩
  ·
   have hkb : (Gr.kd L id == 3) = false := by simpa using hk3
   have hcm : Gr.cm L id = false := by rw [Gr.cm_kd]; exact decide_eq_false hk3
   have hno : ¬ (Gr.cm L id = true ∧ id ∉ O.map Prod.fst) := fun hh => by rw [hcm] at hh; exact absurd hh.1 (by simp)
   rw [if_neg hno, List.append_nil]
   have HNO := Lib.hid (show ∀ (w2 w3 : World), Ids w2 mb (n + 1) (S ++ [id]) → (W.alloc (.cells (idC id).toArray 46)).drew.grownBy w2 (some mb) → Below w2.heap.size w2 w3 → ∃ v' n' S', FB w3 base b mb n' (.pointer (some ⟨sb, 0, none⟩)) v' O S' ∧ Dp.Seen (Gr.cm L) O S' ∧ Fr W w3 b mb v ∧ Nx W v v' ∧ n' ≤ n + [id].length from
    fun w2 w3 hs hg hb => ⟨v, n + 1, S ++ [id], (HFB.out w2 _ _ hs hg).below hb, fun x hx => by
     rw [List.mem_append, List.mem_singleton, ← HSE.out x hx]
     exact ⟨fun hh => hh.elim (fun e => e) (fun e => by rw [e, hcm] at hx; cases hx), .inl⟩, (HFR.out w2 hg).trans (Fr.of_below hb b mb v) (Nx.refl _ _), Nx.refl _ _, Nat.le_refl _⟩)
   clear hin hno hA0 HF HSE HFR HFB HBN hcm hk3
   go_enter Tryz.func42, Tryz.ntmps42
   go_wp2_with fail
   refine wp_region_noPanic ?_
   refine wp_region_held_drew (S := (fun w' => ∀ q, q < W.heap.size + 1 → q ≠ mb → w'.heap[q]? = (W.alloc (.cells (idC id).toArray 46)).heap[q]?)) (by kernel_rfl) (fun q _ _ => rfl) (fun hH => ?_)
   refine tk (i := 0) (v := ?_) ?_ ?_
   rotate_left
   · intro w' hSw; go_simp; try rfl
   try simp only [q0]
   refine tk (i := 1) (v := ?_) ?_ ?_
   rotate_left
   · intro w' hSw; go_simp; try rfl
   try simp only [q0]
   refine tk (i := 2) (v := ?_) ?_ ?_
   rotate_left
   · intro w' hSw; go_simp; try rfl
   try simp only [q0]
   refine tk (i := 3) (v := ?_) ?_ ?_
   rotate_left
   · intro w' hSw; have q0 := HK1.out _ hSw; go_simp; try rfl
   try simp only [q0]
   refine wpAnyH_take (i := 4) rfl (by kernel_rfl) (by kernel_rfl) (by kernel_rfl) (fun _ _ _ h => h) (yields_at (p := ⟨W.heap.size, 0, none⟩) (cs := idC id) (by rfl) rfl rfl (fun w' hw' => HI1.out w' hw') Tryz.underlying46 rfl HIZ.out) (by assumption) ?_
   try simp only [q0]
   refine wpAnyH_ready (rs := [5]) (by kernel_rfl) (by simp) ?_
   refine AllReadyH.cons rfl (fun K hK => ?_) AllReadyH.nil
   go_simp
   with_reducible refine HAD.out.mono ?_
   rintro r w2 ⟨rfl, hs2, hg2⟩
   have HS2 := Lib.hid hs2
   have HG2 := Lib.hid hg2
   have HW2 := Lib.hid (show ∀ q, q < W.heap.size + 1 → q ≠ mb → w2.heap[q]? = (W.alloc (.cells (idC id).toArray 46)).heap[q]? from fun q hq hm => (hg2.block q (by show q < (W.alloc _).heap.size; rw [HAS.out]; omega) (fun e => by injection e with e; exact hm e)).trans rfl)
   clear hs2 hg2
   go_wp2_with fail
   refine hK.out _ _ HW2.out (fun _ => ?_)
   clear hK K
   try simp only [q0]
   refine tk (i := 6) (v := ?_) ?_ ?_
   rotate_left
   · intro w' hSw; go_simp; try rfl
   try simp only [q0]
   refine tk (i := 7) (v := ?_) ?_ ?_
   rotate_left
   · intro w' hSw; go_simp; try rfl
   try simp only [q0]
   refine tk (i := 8) (v := ?_) ?_ ?_
   rotate_left
   · intro w' hSw; go_simp; try rfl
   try simp only [q0]
   refine tk (i := 9) (v := ?_) ?_ ?_
   rotate_left
   · intro w' hSw; go_simp; try rfl
   try simp only [q0]
   refine tk (i := 10) (v := ?_) ?_ ?_
   rotate_left
   · intro w' hSw; have q0 := HK0.out _ hSw; go_simp; try rfl
   try simp only [q0]
   refine wpAnyH_take (i := 11) rfl (by kernel_rfl) (by kernel_rfl) (by kernel_rfl) (fun _ _ _ h => h) (yields_at (p := ⟨W.heap.size, 0, none⟩) (cs := idC id) (by rfl) rfl rfl (fun w' hw' => HI1.out w' hw') Tryz.underlying46 rfl HIZ.out) (by assumption) ?_
   try simp only [q0]
   refine wpAnyH_ready (rs := [12]) (by kernel_rfl) (by simp) ?_
   refine AllReadyH.cons rfl (fun K hK => ?_) AllReadyH.nil
   go_simp
   have HKD := Lib.hid (HKI.out w2 (HBG.out w2 HG2.out))
   with_reducible refine HKD.out.mono ?_
   rintro r w3 ⟨rfl, hb3⟩
   have HB3 := Lib.hid hb3
   have HW3 := Lib.hid (show ∀ q, q < W.heap.size + 1 → q ≠ mb → w3.heap[q]? = (W.alloc (.cells (idC id).toArray 46)).heap[q]? from fun q hq hm => (hb3.block q (by have := HG2.out.size; have h2 : (W.alloc (.cells (idC id).toArray 46)).drew.heap.size = W.heap.size + 1 := HAS.out; omega)).trans (HW2.out q hq hm))
   clear hb3 HKD
   go_wp2_with fail
   refine hK.out _ _ HW3.out (fun _ => ?_)
   clear hK K
   try simp only [q0]
   refine tk (i := 13) (v := ?_) ?_ ?_
   rotate_left
   · intro w' hSw; go_simp; try rfl
   try simp only [q0]
   refine tk (i := 14) (v := ?_) ?_ ?_
   rotate_left
   · intro w' hSw; go_simp; try rfl
   try simp only [q0]
   refine wpAnyH_done (by kernel_rfl) ?_ _
   refine NoPanic.normal ?_
   have HEND := Lib.hid (HNO.out w2 w3 HS2.out HG2.out HB3.out)
   clear HNO HS2 HG2 HB3
   go_wp2_with fail
   refine bodyPost_end (results_none rfl _ _ _) rfl ?_
   exact ⟨rfl, HEND.out⟩
end Go.Proofs.YtkcjhkfelaplkaaGreatDoor
