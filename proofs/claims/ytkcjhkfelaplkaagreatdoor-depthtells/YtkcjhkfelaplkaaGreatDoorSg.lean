/-
  WALKS OF LAYER 13: Of.
-/
import Derived.Test.YtkcjhkfelaplkaaGreatDoorSe
import Derived.Test.YtkcjhkfelaplkaaGreatDoorSf
import Derived.Test.YtkcjhkfelaplkaaGreatDoorRd
import Derived.Test.YtkcjhkfelaplkaaGreatDoorQv
import Derived.Test.YtkcjhkfelaplkaaGreatDoorSa
import Derived.Test.YtkcjhkfelaplkaaGreatDoorQa
set_option linter.unusedVariables false
set_option linter.unusedSimpArgs false
set_option maxHeartbeats 8000000
set_option maxRecDepth 100000
section
namespace Go.Proofs.YtkcjhkfelaplkaaGreatDoor
open Go.RowKit
def Dp.ends (L : List St.It) (J : List (List UInt8)) : List (List UInt8 × Nat) := (Wk.nw (Gr.cm L) [] (Gr.eds L J)).map fun x => (x, 1)
theorem Dp.ends_no {L : List St.It} {A : List (List UInt8)} {x : List UInt8} (h : Gr.endF L L.length x = none) : Dp.ends L (A ++ [x]) = Dp.ends L A := by
 unfold Dp.ends
 rw [Gr.eds_app]
 have : Gr.eds L [x] = [] := by rw [Gr.eds, h]; rfl
 rw [this, List.append_nil]
theorem Dp.ends_yes {L : List St.It} {A : List (List UInt8)} {x y : List UInt8} (h : Gr.endF L L.length x = some y) : Dp.ends L (A ++ [x]) = Dp.ends L A ++ Dp.news (Gr.cm L) (Dp.ends L A) 1 [y] := by
 have e1 : Gr.eds L [x] = [y] := by rw [Gr.eds, h]; rfl
 have e2 : (Dp.ends L A).map Prod.fst = Wk.nw (Gr.cm L) [] (Gr.eds L A) := by
  unfold Dp.ends; rw [List.map_map]; exact List.map_id _
 unfold Dp.news
 rw [e2]
 unfold Dp.ends
 rw [Gr.eds_app, e1, Wk.nw_snoc, List.map_append]
 simp
theorem Dp.ends_few (L : List St.It) (A : List (List UInt8)) : (Dp.ends L A).length ≤ L.length := by
 have := Dp.inv_ends (Gr.cm L) (Gr.prs L) 1 (Gr.eds L A)
 exact Dp.few0 this.nd this.com
def OfP (w : World) (L : List St.It) (J : List (List UInt8)) (most : Nat) (r : Ending) (w' : World) : Prop :=
 ∃ v' O R, r = .returned (.tuple #[v', .int .i64 0]) ∧ OwnD 48 w' w.heap.size v' O ∧ O.Perm R ∧ Dp.Sorted O ∧ Dp.Is (Gr.cm L) (Gr.prs L) most (Dp.ends L J) R ∧ O.length ≤ L.length ∧ Below w.heap.size w w'
theorem dpof_any (w : World) (sbase sb most : Nat) (sv v : Value) (L : List St.It) (J : List (List UInt8)) (hP : PSt w sbase sb sv L) (hd : Gr.Dec L) (hJ : IdsAt w v J) (hJl : ∀ i ∈ J, i.length = 32) (hJn : J.length ≤ 100) (hL : L.length ≤ 100) (h1 : 1 ≤ most) (h2 : most ≤ 1048576) :
  Calls Tryz.prog 12 #[.pointer (some ⟨sb, 0, none⟩), v, .int .i64 (most : Int)] w (OfP w L J most) := by
 obtain ⟨ao, cap, rfl⟩ : ∃ ao cap, v = .slice ao J.length cap := by simpa using RowsAt.form hJ
 have HFI := Lib.hid (fine_good (most : Int) (by omega) (by omega) w)
 have HH := Lib.hid hJ
 have HJL := Lib.hid hJl
 have HPP := Lib.hid hP
 have HDD := Lib.hid hd
 have HEN := Lib.hid (fun W' (hb : Below w.heap.size w W') (id : List UInt8) (hid : id.length = 32) => (end_any W' sbase sb sv L id (hP.below hb) hd hid).mono fun r w' hh => aend_any hh)
 have hmm := @run_makeMap Tryz.prog
 have HS0 := Lib.hid (show (idC zId).toArray.size = 32 by decide)
 clear hP hd hJ hJl
 go_enter Tryz.func12, Tryz.ntmps12
 go_wp2_with fail
 with_reducible refine HFI.out.mono ?_
 rintro r w2 ⟨rfl, rfl⟩
 clear HFI
 go_wp2_with fail
 have HB2 := Lib.hid (below2 w2 (.map #[] 0) (.cells #[.pointer (some ⟨sb, 0, none⟩), .map (some w2.heap.size), .slice none 0 0] 100))
 have HX2 := Lib.hid (new2 w2 (.map #[] 0) (.cells #[.pointer (some ⟨sb, 0, none⟩), .map (some w2.heap.size), .slice none 0 0] 100))
 have HI2 := Lib.hid ((Ids.made w2).alloc (.cells #[.pointer (some ⟨sb, 0, none⟩), .map (some w2.heap.size), .slice none 0 0] 100))
 have HZ3 := Lib.hid (show ((w2.alloc (.map #[] 0)).alloc (.cells #[.pointer (some ⟨sb, 0, none⟩), .map (some w2.heap.size), .slice none 0 0] 100)).heap.size = w2.heap.size + 2 by simp)
 generalize (w2.alloc (.map #[] 0)).alloc (.cells #[.pointer (some ⟨sb, 0, none⟩), .map (some w2.heap.size), .slice none 0 0] 100) = w3 at *
 have HF3 := Lib.hid (show FB w3 (w2.heap.size + 2) (w2.heap.size + 1) w2.heap.size 0 (.pointer (some ⟨sb, 0, none⟩)) (.slice none 0 0) [] [] from ⟨HX2.out, OwnD.nil _ _ _, HI2.out, by omega, by omega, by omega⟩)
 clear hmm
 go_loopw [21] (fun i wr => ∃ (k n : Nat) (v : Value) (S : List (List UInt8)), k ≤ J.length ∧ i = .int .i64 k ∧ n ≤ k ∧ Hid (FB wr (w2.heap.size + 2) (w2.heap.size + 1) w2.heap.size n (.pointer (some ⟨sb, 0, none⟩)) v (Dp.ends L (J.take k)) S) ∧ Hid (Dp.Seen (Gr.cm L) (Dp.ends L (J.take k)) S) ∧ Hid (Below w2.heap.size w2 wr) ∧ Hid (w2.heap.size + 2 ≤ wr.heap.size)) (fun i _ => J.length - (intOf i).toNat)
 case atStart => exact ⟨0, 0, _, [], by omega, rfl, Nat.le_refl _, Lib.hid HF3.out, Lib.hid (fun x _ => by simp [Dp.ends, Gr.eds, Wk.nw]), HB2, Lib.hid (by rw [HZ3.out]; omega)⟩
 case round =>
  obtain ⟨wr2, hwr2⟩ : ∃ X, X = wr := ⟨_, rfl⟩
  subst hwr2
  obtain ⟨k, n, v, S, hk, rfl, hn, HF, HSE, HB, HBA⟩ := hrel
  clear HX2 HB2 HI2 HZ3 HF3
  have hown : ∀ q, v.ownBlock = some q → w2.heap.size ≤ q := fun q hq => by have := (HF.out.own.own.lt q hq).1; omega
  have HOW := Lib.hid hown
  clear hown
  by_cases hlt : k < J.length
  ·
   have hlt' : (k : Int) < (J.length : Int) := by omega
   have hk0 : (0 : Int) ≤ (k : Int) := by omega
   obtain ⟨id, hi⟩ : ∃ id, J[k]? = some id := ⟨J[k], List.getElem?_eq_getElem hlt⟩
   have HID := Lib.hid (HJL.out id (List.mem_of_getElem? hi))
   obtain ⟨a, rfl, _, hc⟩ := (HH.out.below HB.out).elem k (idC id) (by rw [List.getElem?_map, hi]; rfl)
   have HC := Lib.hid hc
   have HTK := Lib.hid (show J.take (k + 1) = J.take k ++ [id] from take_id hi)
   have HR := Lib.hid (row_news (heap_alloc_new wr2 (.cells (idC id).toArray 46)))
   have HBN := Lib.hid (below_new wr2 (.cells (idC id).toArray 46))
   have hws := HB.out.size
   have HEN2 := Lib.hid (HEN.out (wr2.alloc (.cells (idC id).toArray 46)) (HB.out.trans (HBN.out.mono hws)) id HID.out)
   clear hc hi
   go_wp2_with (first
    | ((with_reducible refine ld_id (l := id) (x := .tmp 23) ?_ ?_ ?_ HC.out HID.out ?_); rfl; rfl; rfl)
    | ((with_reducible apply st_id (hl := HID.out)); rfl; rfl; rfl; rfl; rfl)
    | ((with_reducible refine ld_id (l := id) (x := .tmp 10) (p := ⟨wr2.heap.size, 0, none⟩) ?_ ?_ ?_ HR.out HID.out ?_); rfl; rfl; rfl))
   with_reducible refine HEN2.out.mono ?_
   rintro r w4 ⟨x, is, rfl, hxl, hb4, hq⟩
   have HXL := Lib.hid hxl
   have HQ := Lib.hid hq
   have hbb : Below wr2.heap.size wr2 w4 := HBN.out.trans (hb4.mono HBN.out.size)
   have hb5 : Below wr2.heap.size wr2 (w4.alloc (.cells (idC x).toArray 46)) := hbb.alloc hbb.size _
   have HB5 := Lib.hid hb5
   have HR5 := Lib.hid (row_news (heap_alloc_new w4 (.cells (idC x).toArray 46)))
   have HF5 := Lib.hid (HF.out.below hb5)
   have HBW := Lib.hid (HB.out.trans (hb5.mono hws))
   have HBA5 := Lib.hid (Nat.le_trans HBA.out hb5.size)
   clear hb4 hbb hb5 hxl hq HEN2
   cases is with
   | false =>
     have HE := Lib.hid (show Dp.ends L (J.take (k + 1)) = Dp.ends L (J.take k) from by rw [HTK.out]; exact Dp.ends_no (by have := HQ.out; simpa using this))
     go_wp2_with ((with_reducible apply st_id (hl := HXL.out)); rfl; rfl; rfl; rfl; rfl)
     go_roundw
     case rel => exact ⟨k + 1, n, v, S, by omega, by go_num, by omega, Lib.hid (by rw [HE.out]; exact HF5.out), Lib.hid (by rw [HE.out]; exact HSE.out), HBW, HBA5⟩
     case measure => simp [intOf]; omega
   | true =>
     have HE := Lib.hid (show Dp.ends L (J.take (k + 1)) = Dp.ends L (J.take k) ++ Dp.news (Gr.cm L) (Dp.ends L (J.take k)) 1 [x] from by rw [HTK.out]; exact Dp.ends_yes (by have := HQ.out; simpa using this))
     have hAD := (fadd_any w2 (w4.alloc (.cells (idC x).toArray 46)) (w2.heap.size + 2) (w2.heap.size + 1) w2.heap.size n sbase sb sv v L _ S x 1 HF5.out HBW.out HPP.out HDD.out HXL.out (by omega) (by have := Dp.ends_few L (J.take k); omega) HSE.out (by omega) (by omega) HBA5.out)
     rw [show ((1 : Nat) : Int) = (1 : Int) from rfl] at hAD
     have HAD := Lib.hid hAD
     clear hAD
     go_wp2_with (first
      | ((with_reducible apply st_id (hl := HXL.out)); rfl; rfl; rfl; rfl; rfl)
      | ((with_reducible refine ld_id (l := x) (x := .tmp 11) (p := ⟨w4.heap.size, 0, none⟩) ?_ ?_ ?_ HR5.out HXL.out ?_); rfl; rfl; rfl))
     with_reducible refine HAD.out.mono ?_
     rintro r w6 ⟨rfl, v2, n2, S2, k1, k2, k3, k4, k5⟩
     rw [← HE.out] at k1 k2
     have K1 := Lib.hid k1
     have K2 := Lib.hid k2
     have HBZ := Lib.hid (HBW.out.trans (k3.below HBW.out.size (by omega) (Nat.le_refl _) HOW.out))
     have HBQ := Lib.hid (Nat.le_trans HBA5.out k3.size)
     have k5' : n2 ≤ k + 1 := by simp at k5; omega
     clear k1 k2 k3 k4 k5 HAD
     go_wp2_with fail
     go_roundw
     case rel => exact ⟨k + 1, n2, v2, S2, by omega, by go_num, by omega, K1, K2, HBZ, HBQ⟩
     case measure => simp [intOf]; omega
  ·
   have hlt' : ¬ (k : Int) < (J.length : Int) := by omega
   have hke : k = J.length := by omega
   subst hke
   rw [List.take_length] at HF HSE
   have HPA := Lib.hid (fpars_any w2 wr2 (w2.heap.size + 2) (w2.heap.size + 1) w2.heap.size n sbase sb most sv v L (Dp.ends L J) S HF.out HB.out HPP.out HDD.out hL (by omega) HSE.out (Dp.inv_ends (Gr.cm L) (Gr.prs L) most (Gr.eds L J)) (by omega) (by omega) HBA.out h2)
   go_wp2_with fail
   with_reducible refine HPA.out.mono ?_
   rintro r w4 ⟨rfl, v4, O4, n4, S4, k1, k2, k3⟩
   have K1 := Lib.hid k1
   have K2 := Lib.hid k2
   have K3 := Lib.hid k3
   have c2 : w4.cell? ⟨w2.heap.size + 1, 2, none⟩ = some v4 := by rw [cell_of_row _ _ 2 _ _ _ k1.box]; rfl
   obtain ⟨kk, hkk, hinv⟩ := k2.inv (Dp.inv_ends (Gr.cm L) (Gr.prs L) most (Gr.eds L J))
   have hO4 : O4.length ≤ L.length := Dp.few0 hinv.nd hinv.com
   have HSO := Lib.hid (sortD_any w4 (w2.heap.size + 2) v4 O4 k1.own (by omega))
   obtain ⟨vo, vc, rfl⟩ := k1.own.form
   clear k1 k2 k3 hinv HPA
   go_wp2_with fail
   with_reducible refine HSO.out.mono ?_
   rintro r w5 ⟨rfl, O5, p1, p2, p3, p4⟩
   have P1 := Lib.hid p1
   have P2 := Lib.hid p2
   have hl5 : O5.length = O4.length := p1.length_eq
   have P3 := Lib.hid (show OwnD 48 w5 w2.heap.size (.slice vo O4.length vc) O5 from ⟨⟨p3.own.1, by
    rcases p3.own.2 with hh | ⟨g, c, cur, e1, e2, e3⟩
    · exact .inl hh
    · exact .inr ⟨g, c, cur, e1, by omega, e3⟩⟩, p3.len⟩)
   have HB5 := Lib.hid (K3.out.grown p4 K3.out.size (fun q hq => by have := (K1.out.own.own.lt q hq).1; omega))
   have c3 : w5.cell? ⟨w2.heap.size + 1, 2, none⟩ = some (.slice vo O4.length vc) := by
    rw [World.cell?_of_block (w := w4) (p4.block (w2.heap.size + 1) K1.out.bl (fun e => by have := (K1.out.own.own.lt (w2.heap.size + 1) e.symm).1; omega))]; exact c2
   clear p1 p2 p3 p4 HSO c2
   go_wp2_with fail
   go_ret2
   exact ⟨_, O5, O4, rfl, P3.out, P1.out, P2.out, K2.out, by omega, HB5.out⟩
end Go.Proofs.YtkcjhkfelaplkaaGreatDoor
end
section
namespace Go.Proofs.YtkcjhkfelaplkaaGreatDoor
open Go.RowKit
structure Own2 (w : World) (base : Nat) (sv dv : Value) (Sh De : List (List UInt8)) : Prop where
 s : OwnI w base sv Sh
 d : OwnI w base dv De
 ap : ∀ g, sv.ownBlock = some g → dv.ownBlock ≠ some g
theorem Own2.below {w w' : World} {base : Nat} {sv dv : Value} {Sh De : List (List UInt8)} (h : Own2 w base sv dv Sh De) (hb : Below w.heap.size w w') : Own2 w' base sv dv Sh De := ⟨h.s.below hb, h.d.below hb, h.ap⟩
theorem Own2.pushS {w w' : World} {base : Nat} {sv sv' dv : Value} {Sh De : List (List UInt8)} {x : List UInt8} {o : Obj} (h : Own2 w base sv dv Sh De) (hs : OwnI w' base sv' (Sh ++ [x])) (hg : (w.alloc o).grownBy w' sv.ownBlock) (hn : sv'.ownBlock = sv.ownBlock ∨ sv'.ownBlock = some (w.heap.size + 1)) : Own2 w' base sv' dv (Sh ++ [x]) De := by
 refine ⟨hs, ⟨own_kept h.d.own (fun q hq => ?_), h.d.len⟩, fun g hg2 hd => ?_⟩
 ·
  have hl := (h.d.own.lt q hq).2
  exact (hg.block q (by simp; omega) (fun e => h.ap q e.symm hq)).trans (heap_alloc_old _ _ hl)
 ·
  rcases hn with e | e
  · exact h.ap g (by rw [← e]; exact hg2) hd
  ·
   rw [e] at hg2; injection hg2 with hg2
   have := (h.d.own.lt g hd).2; omega
theorem Own2.pushD {w w' : World} {base : Nat} {sv dv dv' : Value} {Sh De : List (List UInt8)} {x : List UInt8} {o : Obj} (h : Own2 w base sv dv Sh De) (hs : OwnI w' base dv' (De ++ [x])) (hg : (w.alloc o).grownBy w' dv.ownBlock) (hn : dv'.ownBlock = dv.ownBlock ∨ dv'.ownBlock = some (w.heap.size + 1)) : Own2 w' base sv dv' Sh (De ++ [x]) := by
 refine ⟨⟨own_kept h.s.own (fun q hq => ?_), h.s.len⟩, hs, fun g hg2 hd => ?_⟩
 ·
  have hl := (h.s.own.lt q hq).2
  exact (hg.block q (by simp; omega) (fun e => h.ap q hq e.symm)).trans (heap_alloc_old _ _ hl)
 ·
  rcases hn with e | e
  · exact h.ap g hg2 (by rw [← e]; exact hd)
  ·
   rw [e] at hd; injection hd with hd
   have := (h.s.own.lt g hg2).2; omega
def Dp.deep (most : Nat) (O : List (List UInt8 × Nat)) : List (List UInt8) := (O.filter fun d => decide (d.2 < most)).map Prod.fst
def Dp.shal (pr : List UInt8 → List (List UInt8)) (most : Nat) (O : List (List UInt8 × Nat)) : List (List UInt8) := (O.filter fun d => !decide (d.2 < most) && decide (pr d.1 ≠ [])).map Prod.fst
theorem Dp.deep_snoc (most : Nat) (O : List (List UInt8 × Nat)) (d : List UInt8 × Nat) : Dp.deep most (O ++ [d]) = if d.2 < most then Dp.deep most O ++ [d.1] else Dp.deep most O := by
 unfold Dp.deep
 rw [List.filter_append, List.map_append]
 by_cases h : d.2 < most <;> simp [h]
theorem Dp.shal_snoc (pr : List UInt8 → List (List UInt8)) (most : Nat) (O : List (List UInt8 × Nat)) (d : List UInt8 × Nat) : Dp.shal pr most (O ++ [d]) = if ¬ d.2 < most ∧ pr d.1 ≠ [] then Dp.shal pr most O ++ [d.1] else Dp.shal pr most O := by
 unfold Dp.shal
 rw [List.filter_append, List.map_append]
 by_cases h : d.2 < most
 · simp [h]
 · by_cases h2 : pr d.1 = [] <;> simp [h, h2]
theorem Dp.deep_len (most : Nat) (O : List (List UInt8 × Nat)) : (Dp.deep most O).length ≤ O.length := by
 unfold Dp.deep; rw [List.length_map]; exact List.length_filter_le _ _
theorem Dp.shal_len (pr : List UInt8 → List (List UInt8)) (most : Nat) (O : List (List UInt8 × Nat)) : (Dp.shal pr most O).length ≤ O.length := by
 unfold Dp.shal; rw [List.length_map]; exact List.length_filter_le _ _
theorem dptake {α : Type} {O : List α} {k : Nat} {d : α} (h : O[k]? = some d) : O.take (k + 1) = O.take k ++ [d] := by
 obtain ⟨hk, rfl⟩ := List.getElem?_eq_some_iff.1 h
 exact List.take_succ_eq_append_getElem hk
def BoundP (w : World) (L : List St.It) (J : List (List UInt8)) (most : Nat) (r : Ending) (w' : World) : Prop :=
 ∃ sv dv O R, r = .returned (.tuple #[sv, dv, .int .i64 0]) ∧ OwnI w' w.heap.size sv (Dp.shal (Gr.prs L) most O) ∧ OwnI w' w.heap.size dv (Dp.deep most O) ∧ O.Perm R ∧ Dp.Sorted O ∧ Dp.Is (Gr.cm L) (Gr.prs L) most (Dp.ends L J) R ∧ O.length ≤ L.length ∧ Below w.heap.size w w'
theorem dpbound_any (w : World) (sbase sb most : Nat) (sv v : Value) (L : List St.It) (J : List (List UInt8)) (hP : PSt w sbase sb sv L) (hd : Gr.Dec L) (hJ : IdsAt w v J) (hJl : ∀ i ∈ J, i.length = 32) (hJn : J.length ≤ 100) (hL : L.length ≤ 100) (h1 : 1 ≤ most) (h2 : most ≤ 1048576) :
  Calls Tryz.prog 13 #[.pointer (some ⟨sb, 0, none⟩), v, .int .i64 (most : Int)] w (BoundP w L J most) := by
 have HOF := Lib.hid (dpof_any w sbase sb most sv v L J hP hd hJ hJl hJn hL h1 h2)
 have HHP := Lib.hid (fun W' (hb : Below w.heap.size w W') (id : List UInt8) (hid : id.length = 32) (hc : Gr.cm L id = true) => hasparent_any W' sbase sb sv L id (hP.below hb) hd hid hc)
 unfold OfP at HOF
 clear hP hd hJ hJl
 go_enter Tryz.func13, Tryz.ntmps13
 go_wp2_with fail
 with_reducible refine HOF.out.mono ?_
 rintro r w1 ⟨ov, O, R, rfl, hO, hp, hs, hi, hl, hb1⟩
 obtain ⟨oo, oc, rfl⟩ := hO.form
 obtain ⟨kk, hkk, hinv⟩ := hi.inv (Dp.inv_ends (Gr.cm L) (Gr.prs L) most (Gr.eds L J))
 have HO := Lib.hid hO
 have HPE := Lib.hid hp
 have HSO := Lib.hid hs
 have HIS := Lib.hid hi
 have HLL := Lib.hid hl
 have HB1 := Lib.hid hb1
 have HCM := Lib.hid (fun (d : List UInt8 × Nat) (hd : d ∈ O) => hinv.com d (hp.mem_iff.1 hd))
 have hO100 : O.length ≤ 100 := Nat.le_trans hl hL
 clear hO hp hs hi hl hb1 hinv hkk HOF
 go_wp2_with fail
 go_loopw [6, 7, 24] (fun sv dv i wr => ∃ (k : Nat), k ≤ O.length ∧ i = .int .i64 k ∧ Hid (Own2 wr w1.heap.size sv dv (Dp.shal (Gr.prs L) most (O.take k)) (Dp.deep most (O.take k))) ∧ Hid (Below w1.heap.size w1 wr)) (fun _ _ i _ => O.length - (intOf i).toNat)
 case atStart => exact ⟨0, by omega, rfl, Lib.hid ⟨OwnI.nil _ _, OwnI.nil _ _, fun g hg => by cases hg⟩, Lib.hid (Below.refl _ _)⟩
 case round =>
  obtain ⟨wr2, hwr2⟩ : ∃ X, X = wr := ⟨_, rfl⟩
  subst hwr2
  obtain ⟨k, hk, rfl, HW, HB⟩ := hrel
  have hws := HB.out.size
  have hw1s := HB1.out.size
  by_cases hlt : k < O.length
  ·
   have hlt' : (k : Int) < (O.length : Int) := by omega
   have hk0 : (0 : Int) ≤ (k : Int) := by omega
   obtain ⟨d, hx⟩ : ∃ d, O[k]? = some d := ⟨O[k], List.getElem?_eq_getElem hlt⟩
   obtain ⟨id, dd⟩ := d
   have HIL := Lib.hid (show id.length = 32 from HO.out.len (id, dd) (List.mem_of_getElem? hx))
   have HCI := Lib.hid (show Gr.cm L id = true from HCM.out (id, dd) (List.mem_of_getElem? hx))
   obtain ⟨a, rfl, hc⟩ := (HO.out.below HB.out).elem k (id, dd) hx
   have HC := Lib.hid hc
   have HTK := Lib.hid (show O.take (k + 1) = O.take k ++ [(id, dd)] from dptake hx)
   have HBN := Lib.hid (below_new wr2 (.cells (Dp.C (id, dd)).toArray 48))
   have HX := Lib.hid (row_news (heap_alloc_new wr2 (.cells (Dp.C (id, dd)).toArray 48)))
   have HXI := Lib.hid (dp_id (d := (id, dd)) HX.out)
   have cN : (wr2.alloc (.cells (Dp.C (id, dd)).toArray 48)).cell? ⟨wr2.heap.size, 32, none⟩ = some (.int .i64 (dd : Int)) := by
    have h1 := dp_n (d := (id, dd)) (p := ⟨wr2.heap.size, 0, none⟩) HIL.out HX.out
    rwa [Addr.add_mid, Nat.zero_add] at h1
   have HW2 := Lib.hid (HW.out.below HBN.out)
   have HB2 := Lib.hid (HB.out.trans (HBN.out.mono hws))
   have hsl : (Dp.shal (Gr.prs L) most (O.take k)).length ≤ 100000 := by have := Dp.shal_len (Gr.prs L) most (O.take k); rw [List.length_take] at this; omega
   have hdl : (Dp.deep most (O.take k)).length ≤ 100000 := by have := Dp.deep_len most (O.take k); rw [List.length_take] at this; omega
   have hbs2 := HB2.out.size
   clear hc hx
   by_cases hdm : dd < most
   ·
    have hdm' : (dd : Int) < (most : Int) := by omega
    have HE1 := Lib.hid (show Dp.deep most (O.take (k + 1)) = Dp.deep most (O.take k) ++ [id] from by rw [HTK.out, Dp.deep_snoc]; exact if_pos hdm)
    have HE2 := Lib.hid (show Dp.shal (Gr.prs L) most (O.take (k + 1)) = Dp.shal (Gr.prs L) most (O.take k) from by rw [HTK.out, Dp.shal_snoc]; exact if_neg (fun h => h.1 hdm))
    go_wp2_with (first
     | ((with_reducible refine ld_dp (d := (id, dd)) (x := .tmp 26) ?_ ?_ ?_ HC.out HIL.out ?_); rfl; rfl; rfl)
     | ((with_reducible refine st_dp (d := (id, dd)) (x := .tmp 11) (y := .tmp 27) ?_ ?_ ?_ ?_ ?_ HIL.out ?_); rfl; rfl; rfl; rfl; rfl)
     | ((with_reducible refine ld_id (l := id) (x := .tmp 33) (p := ⟨wr2.heap.size, 0, none⟩) ?_ ?_ ?_ HXI.out HIL.out ?_); rfl; rfl; rfl)
     | ((with_reducible refine bs_id2 (l := id) (x := .tmp 34) ?_ ?_ ?_ HIL.out ?_); rfl; rfl; rfl)
     | ((with_reducible refine ap_id_at (id := id) (.tmp 32) (.tmp 35) ?_ ?_ ?_ ?_ HW2.out.d hbs2 HIL.out hdl (fun v5 w5 HO5 HG5 HN5 => ?_)); rfl; rfl; rfl; rfl))
    have HW5 := Lib.hid (HW2.out.pushD HO5.out HG5.out HN5.out)
    have HB5 := Lib.hid ((HB2.out.alloc hbs2 _).grown HG5.out (by simp; omega) (fun q hq => (HW2.out.d.own.lt q hq).1))
    clear HO5 HG5 HN5 hsl hdl hbs2 cN
    go_roundw
    case rel => exact ⟨k + 1, by omega, by go_num, Lib.hid (by rw [HE1.out, HE2.out]; exact HW5.out), HB5⟩
    case measure => simp [intOf]; omega
   ·
    have hdm' : ¬ (dd : Int) < (most : Int) := by omega
    have HE1 := Lib.hid (show Dp.deep most (O.take (k + 1)) = Dp.deep most (O.take k) from by rw [HTK.out, Dp.deep_snoc]; exact if_neg hdm)
    have HHB := Lib.hid (HHP.out _ (HB1.out.trans (HB2.out.mono hw1s)) id HIL.out HCI.out)
    by_cases hpr : Gr.prs L id = []
    ·
     have HE2 := Lib.hid (show Dp.shal (Gr.prs L) most (O.take (k + 1)) = Dp.shal (Gr.prs L) most (O.take k) from by rw [HTK.out, Dp.shal_snoc]; exact if_neg (fun h => h.2 hpr))
     rw [decide_eq_false (fun h => h hpr)] at HHB
     clear hpr
     go_wp2_with (first
      | ((with_reducible refine ld_dp (d := (id, dd)) (x := .tmp 26) ?_ ?_ ?_ HC.out HIL.out ?_); rfl; rfl; rfl)
      | ((with_reducible refine st_dp (d := (id, dd)) (x := .tmp 11) (y := .tmp 27) ?_ ?_ ?_ ?_ ?_ HIL.out ?_); rfl; rfl; rfl; rfl; rfl)
      | ((with_reducible refine ld_id (l := id) (x := .tmp 38) (p := ⟨wr2.heap.size, 0, none⟩) ?_ ?_ ?_ HXI.out HIL.out ?_); rfl; rfl; rfl))
     with_reducible refine HHB.out.mono ?_
     rintro r w5 ⟨rfl, hb5⟩
     have HW5 := Lib.hid (HW2.out.below hb5)
     have HB5 := Lib.hid (HB2.out.trans (hb5.mono hbs2))
     clear hb5 HHB hsl hdl hbs2 cN
     go_wp2_with fail
     go_roundw
     case rel => exact ⟨k + 1, by omega, by go_num, Lib.hid (by rw [HE1.out, HE2.out]; exact HW5.out), HB5⟩
     case measure => simp [intOf]; omega
    ·
     have HE2 := Lib.hid (show Dp.shal (Gr.prs L) most (O.take (k + 1)) = Dp.shal (Gr.prs L) most (O.take k) ++ [id] from by rw [HTK.out, Dp.shal_snoc]; exact if_pos ⟨hdm, hpr⟩)
     rw [decide_eq_true hpr] at HHB
     clear hpr
     go_wp2_with (first
      | ((with_reducible refine ld_dp (d := (id, dd)) (x := .tmp 26) ?_ ?_ ?_ HC.out HIL.out ?_); rfl; rfl; rfl)
      | ((with_reducible refine st_dp (d := (id, dd)) (x := .tmp 11) (y := .tmp 27) ?_ ?_ ?_ ?_ ?_ HIL.out ?_); rfl; rfl; rfl; rfl; rfl)
      | ((with_reducible refine ld_id (l := id) (x := .tmp 38) (p := ⟨wr2.heap.size, 0, none⟩) ?_ ?_ ?_ HXI.out HIL.out ?_); rfl; rfl; rfl))
     with_reducible refine HHB.out.mono ?_
     rintro r w5 ⟨rfl, hb5⟩
     have HW5 := Lib.hid (HW2.out.below hb5)
     have HB5 := Lib.hid (HB2.out.trans (hb5.mono hbs2))
     have HX5 := Lib.hid (show ∀ j u, (idC id)[j]? = some u → w5.cell? ((⟨wr2.heap.size, 0, none⟩ : Addr).add j) = some u from fun j u hu => by
      have h1 := HXI.out j u hu
      rw [hb5.cell (World.block_lt_of_cell? _ _ h1)]; exact h1)
     have hbs5 := HB5.out.size
     clear hb5 HHB hdl hbs2 cN
     go_wp2_with (first
      | ((with_reducible refine ld_id (l := id) (x := .tmp 42) (p := ⟨wr2.heap.size, 0, none⟩) ?_ ?_ ?_ HX5.out HIL.out ?_); rfl; rfl; rfl)
      | ((with_reducible refine bs_id2 (l := id) (x := .tmp 43) ?_ ?_ ?_ HIL.out ?_); rfl; rfl; rfl)
      | ((with_reducible refine ap_id_at (id := id) (.tmp 41) (.tmp 44) ?_ ?_ ?_ ?_ HW5.out.s hbs5 HIL.out hsl (fun v6 w6 HO6 HG6 HN6 => ?_)); rfl; rfl; rfl; rfl))
     have HW6 := Lib.hid (HW5.out.pushS HO6.out HG6.out HN6.out)
     have HB6 := Lib.hid ((HB5.out.alloc hbs5 _).grown HG6.out (by simp; omega) (fun q hq => (HW5.out.s.own.lt q hq).1))
     clear HO6 HG6 HN6 hsl hbs5
     go_roundw
     case rel => exact ⟨k + 1, by omega, by go_num, Lib.hid (by rw [HE1.out, HE2.out]; exact HW6.out), HB6⟩
     case measure => simp [intOf]; omega
  ·
   have hlt' : ¬ (k : Int) < (O.length : Int) := by omega
   have hke : k = O.length := by omega
   subst hke
   rw [List.take_length] at HW
   have HS9 := Lib.hid (show ∀ (v : Value) (I : List (List UInt8)), OwnI wr2 w1.heap.size v I → OwnI wr2 w.heap.size v I from fun _ _ hh => ⟨⟨hh.own.1, by
    rcases hh.own.2 with h0 | ⟨g, c, cur, e1, e2, e3⟩
    · exact .inl h0
    · exact .inr ⟨g, c, cur, e1, by omega, e3⟩⟩, hh.len⟩)
   have HBZ := Lib.hid (HB1.out.trans (HB.out.mono hw1s))
   go_wp2_with fail
   refine bodyPost_ret (results_tmp3 rfl _ _ _) rfl ?_
   exact ⟨_, _, O, R, rfl, HS9.out _ _ HW.out.s, HS9.out _ _ HW.out.d, HPE.out, HSO.out, HIS.out, HLL.out, HBZ.out⟩
end Go.Proofs.YtkcjhkfelaplkaaGreatDoor
end
section
namespace Go.Proofs.YtkcjhkfelaplkaaGreatDoor
open Go.RowKit
def Dp.at : List (List UInt8 × Nat) → List UInt8 → Nat
 | [], _ => 0
 | d :: r, id => if d.1 = id then d.2 else Dp.at r id
theorem Dp.at_skip {O : List (List UInt8 × Nat)} {id : List UInt8} : ∀ (k : Nat), (∀ j d, j < k → O[j]? = some d → d.1 ≠ id) → ∀ d, O[k]? = some d → d.1 = id → Dp.at O id = d.2 := by
 induction O with
 | nil => intro k _ d h; simp at h
 | cons e r ih =>
   intro k hk d hd he
   rw [Dp.at]
   cases k with
   | zero => simp at hd; subst hd; rw [if_pos he]
   | succ k =>
     rw [if_neg (hk 0 e (by omega) rfl)]
     exact ih k (fun j d hj hd => hk (j + 1) d (by omega) (by simpa using hd)) d (by simpa using hd) he
theorem Dp.at_none {O : List (List UInt8 × Nat)} {id : List UInt8} (h : ∀ d ∈ O, d.1 ≠ id) : Dp.at O id = 0 := by
 induction O with
 | nil => rfl
 | cons e r ih => rw [Dp.at, if_neg (h e (by simp))]; exact ih fun d hd => h d (by simp [hd])
theorem Dp.at_mem {O : List (List UInt8 × Nat)} (hn : (O.map Prod.fst).Nodup) {d : List UInt8 × Nat} (h : d ∈ O) : Dp.at O d.1 = d.2 := by
 induction O with
 | nil => cases h
 | cons e r ih =>
   rw [List.map_cons, List.nodup_cons] at hn
   rw [Dp.at]
   rcases List.mem_cons.1 h with k | k
   · subst k; rw [if_pos rfl]
   ·
    rw [if_neg (fun e2 => hn.1 (by rw [e2]; exact List.mem_map.2 ⟨d, k, rfl⟩))]
    exact ih hn.2 k
structure DpsAt (w : World) (v : Value) (O : List (List UInt8 × Nat)) : Prop where
 rows : RowsAt w v 33 (O.map Dp.C)
 len : ∀ d ∈ O, d.1.length = 32
theorem OwnD.at {T : TypeId} {w : World} {base : Nat} {v : Value} {O : List (List UInt8 × Nat)} (h : OwnD T w base v O) : DpsAt w v O := ⟨h.rows, h.len⟩
theorem DpsAt.below {w w' : World} {v : Value} {O : List (List UInt8 × Nat)} (h : DpsAt w v O) (hb : Below w.heap.size w w') : DpsAt w' v O := ⟨RowsAt.below h.rows hb, h.len⟩
theorem DpsAt.form {w : World} {v : Value} {O : List (List UInt8 × Nat)} (h : DpsAt w v O) : ∃ ao cap, v = .slice ao O.length cap := by simpa using RowsAt.form h.rows
theorem DpsAt.elem {w : World} {n cap : Nat} {ao : Option Addr} {O : List (List UInt8 × Nat)} (h : DpsAt w (.slice ao n cap) O) (k : Nat) (d : List UInt8 × Nat) (hk : O[k]? = some d) : ∃ a, ao = some a ∧ ∀ j x, (Dp.C d)[j]? = some x → w.cell? ((a.add (k * 33)).add j) = some x := by
 obtain ⟨a, e, _, hc⟩ := RowsAt.elem h.rows k (Dp.C d) (by rw [List.getElem?_map, hk]; rfl)
 exact ⟨a, e, hc⟩
theorem dpadd_pos (p : Addr) (k : Nat) (hk : k ≠ 0) : p.add k = ⟨p.block, p.off + k, none⟩ := by unfold Addr.add; simp [hk]
theorem dp_nn {w : World} {p : Addr} {d : List UInt8 × Nat} (hd : d.1.length = 32) (h : ∀ j x, (Dp.C d)[j]? = some x → w.cell? (p.add j) = some x) : w.cell? ⟨p.block, p.off + 32, none⟩ = some (.int .i64 (d.2 : Int)) := by
 have := dp_n hd h
 rwa [dpadd_pos _ _ (by decide)] at this
theorem refat_any (w : World) (v : Value) (O : List (List UInt8 × Nat)) (id : List UInt8) (h : DpsAt w v O) (hil : id.length = 32) (hn : O.length ≤ 100000) :
  Calls Tryz.prog 15 #[v, .agg (idC id).toArray] w fun r w' => r = .returned (.int .i64 (Dp.at O id : Int)) ∧ Below w.heap.size w w' := by
 obtain ⟨ao, cap, rfl⟩ := h.form
 have HB1 := Lib.hid (below_new w (.cells (idC id).toArray 46))
 have HN1 := Lib.hid (row_news (heap_alloc_new w (.cells (idC id).toArray 46)))
 have HH := Lib.hid h
 have HIL := Lib.hid hil
 generalize hZ : Dp.at O id = Z
 have HZ := Lib.hid hZ
 clear h hil hZ
 go_enter Tryz.func15, Tryz.ntmps15
 go_wp2_with fail
 go_loopw [5] (fun i wr => ∃ (k : Nat), k ≤ O.length ∧ i = .int .i64 k ∧ Hid (∀ (j : Nat) (d : List UInt8 × Nat), j < k → O[j]? = some d → d.1 ≠ id) ∧ Hid (Below w.heap.size w wr) ∧ Hid (∀ j u, (idC id)[j]? = some u → wr.cell? ((⟨w.heap.size, 0, none⟩ : Addr).add j) = some u)) (fun i _ => O.length - (intOf i).toNat)
 case atStart => exact ⟨0, by omega, rfl, fun j x h => absurd h (by omega), HB1.out, HN1.out⟩
 case round =>
  obtain ⟨k, hk, rfl, HA, HB, HI⟩ := hrel
  by_cases hlt : k < O.length
  ·
   have hlt' : (k : Int) < (O.length : Int) := by omega
   have hk0 : (0 : Int) ≤ (k : Int) := by omega
   obtain ⟨d, hx⟩ : ∃ d, O[k]? = some d := ⟨O[k], List.getElem?_eq_getElem hlt⟩
   have hxl := HH.out.len d (List.mem_of_getElem? hx)
   obtain ⟨a, rfl, hc⟩ := (HH.out.below HB.out).elem k d hx
   have HC1 := Lib.hid (show ∀ j u, (idC d.1)[j]? = some u → wr.drew.cell? ((a.add (k * 33)).add j) = some u from dp_id (d := d) hc)
   have HC2 := Lib.hid (show ∀ j u, (idC id)[j]? = some u → wr.drew.cell? ((⟨w.heap.size, 0, none⟩ : Addr).add j) = some u from HI.out)
   have cN : wr.drew.cell? ⟨(a.add (k * 33)).block, (a.add (k * 33)).off + 32, none⟩ = some (.int .i64 (d.2 : Int)) := dp_nn hxl hc
   have HXL := Lib.hid hxl
   have HX := Lib.hid hx
   have hq := fun W => eq_id d.1 id hxl HIL.out W
   clear hx hxl hc
   by_cases he : d.1 = id
   ·
    have HR := Lib.hid (show Z = d.2 by rw [← HZ.out]; exact Dp.at_skip k HA.out d HX.out he)
    rw [show decide (d.1 = id) = true from decide_eq_true he] at hq
    clear he
    go_wp2_with fail
    refine rgn_still (by kernel_rfl) (by kernel_rfl) ?_
    repeat still_step
    (with_reducible apply still_id (hc := HC1.out) (hl := HXL.out))
    rfl
    rfl
    rfl
    (with_reducible apply still_id (hc := HC2.out) (hl := HIL.out))
    rfl
    rfl
    rfl
    repeat still_step
    refine wpStill_nil ?_
    go_wp2_with fail
    go_ret
    exact ⟨by rw [HR.out]; rfl, HB.out.drew⟩
   ·
    rw [show decide (d.1 = id) = false from decide_eq_false he] at hq
    have HNE := Lib.hid he
    clear he
    go_wp2_with fail
    refine rgn_still (by kernel_rfl) (by kernel_rfl) ?_
    repeat still_step
    (with_reducible apply still_id (hc := HC1.out) (hl := HXL.out))
    rfl
    rfl
    rfl
    (with_reducible apply still_id (hc := HC2.out) (hl := HIL.out))
    rfl
    rfl
    rfl
    repeat still_step
    refine wpStill_nil ?_
    go_wp2_with fail
    go_roundw
    case rel =>
     refine ⟨k + 1, by omega, by go_num, Lib.hid fun j e hj he => ?_, Lib.hid HB.out.drew, Lib.hid HI.out⟩
     by_cases h : j = k
     · subst h; rw [HX.out] at he; injection he with he; rw [← he]; exact HNE.out
     · exact HA.out j e (by omega) he
    case measure => simp [intOf]; omega
  ·
   have hlt' : ¬ (k : Int) < (O.length : Int) := by omega
   have HR := Lib.hid (show Z = 0 by
    rw [← HZ.out]
    exact Dp.at_none fun d hd => by
     obtain ⟨j, hj⟩ := List.getElem?_of_mem hd
     exact HA.out j d (by have := (List.getElem?_eq_some_iff.1 hj).1; omega) hj)
   go_wp2_with fail
   go_ret
   exact ⟨by rw [HR.out]; rfl, HB.out⟩
end Go.Proofs.YtkcjhkfelaplkaaGreatDoor
end
section
namespace Go.Proofs.YtkcjhkfelaplkaaGreatDoor
open Go.RowKit
namespace R
theorem refobject_old (B kk : Nat) (w0 w : World) (v : Value) (L : List St.It) (id : List UInt8) (h : DSt B kk w0 v L) (hb0 : Below w0.heap.size w0 w) (hil : id.length = 32) :
  Calls Tryz.prog 19 #[.agg #[v], .agg (idC id).toArray] w fun r w' => ∃ cs ao bo ca cb, r = .returned (.agg cs) ∧ ObAt w0 cs (Gr.obz L id) ao bo ca cb ∧ Below w.heap.size w w' := by
 have hfew := h.few
 have HA := Lib.hid (fun W (hb : Below w.heap.size w W) => at_any W v L id (h.old.below (hb0.trans (hb.mono hb0.size))) hil)
 obtain ⟨bo', cap, rfl⟩ := h.form
 have hz28 := (zero_of_info zero28).1
 have HS0 := Lib.hid noF.size
 have HN0 := Lib.hid noF.one
 have HBN := Lib.hid built_none
 have HZA := Lib.hid zero_at
 have HH := Lib.hid h
 have HBZ := Lib.hid hb0
 have HIL := Lib.hid hil
 have hpl := St.pos_le L id
 have HV : Hid (St.has L id = false → atV L id = -1 ∧ Gr.obz L id = noOb) := Lib.hid (fun h => ⟨by unfold atV; rw [h]; rfl, by unfold Gr.obz; rw [Gr.ob_none h]; rfl⟩)
 have HW : Hid (St.has L id = true → atV L id = (St.pos L id : Int) ∧ ∃ x, L[St.pos L id]? = some x ∧ ∀ o, Rm.dec x.text.data.toList = some o → Gr.obz L id = o) := Lib.hid (fun h' => by
  obtain ⟨x, hx, he⟩ := St.has_at h.srt h'
  refine ⟨by unfold atV; rw [h']; rfl, x, hx, fun o ho => ?_⟩
  unfold Gr.obz
  rw [show Gr.ob L id = some o by rw [← he, Gr.ob_at h.srt hx, ho]]; rfl)
 generalize atV L id = Z at *
 generalize St.pos L id = pos at *
 generalize Gr.obz L id = OZ at *
 generalize (obC noOb nilV nilV).toArray = z at *
 clear h hil hb0
 have HB2 := Lib.hid (below2 w (.cells #[.slice bo' L.length cap] 28) (.cells (idC id).toArray 46))
 have HB3 := Lib.hid (HB2.out.alloc HB2.out.size (.cells z 59))
 have c2 := (box2_cell w (.slice bo' L.length cap) 28 (.cells (idC id).toArray 46))
 have HN2 := Lib.hid (row_news (new2 w (.cells #[.slice bo' L.length cap] 28) (.cells (idC id).toArray 46)))
 have HX3 := Lib.hid (heap_alloc_new ((w.alloc (.cells #[.slice bo' L.length cap] 28)).alloc (.cells (idC id).toArray 46)) (.cells z 59))
 have HBN3 := Lib.hid (below_new ((w.alloc (.cells #[.slice bo' L.length cap] 28)).alloc (.cells (idC id).toArray 46)) (.cells z 59))
 have hsz2 : ((w.alloc (.cells #[.slice bo' L.length cap] 28)).alloc (.cells (idC id).toArray 46)).heap.size = w.heap.size + 2 := by simp
 rw [hsz2] at HX3 HBN3
 have HN3 := Lib.hid (show ∀ j u, (idC id)[j]? = some u → _ from fun j u hu => (HBN3.out.cell (by have := World.block_lt_of_cell? _ _ (HN2.out j u hu); omega)).trans (HN2.out j u hu))
 have c3 := (HBN3.out.cell (p := ⟨w.heap.size, 0, none⟩) (show w.heap.size < w.heap.size + 2 by omega)).trans c2
 clear c2 HN2 HBN3 hsz2
 go_enter Tryz.func19, Tryz.ntmps19
 go_wp2_with ((with_reducible refine ld_id (x := .tmp 3) (p := ⟨w.heap.size + 1, 0, none⟩) ?_ ?_ ?_ HN3.out HIL.out ?_); rfl; rfl; rfl)
 refine (HA.out _ HB3.out).mono ?_
 rintro r w3 ⟨rfl, hb3⟩
 have hB := HB3.out.trans (hb3.mono HB3.out.size)
 have hB0 := HBZ.out.trans (hB.mono HBZ.out.size)
 have c4 := (hb3.cell (p := ⟨w.heap.size, 0, none⟩) (by simp; omega)).trans c3
 have E3 := Lib.hid ((hb3.block (w.heap.size + 2) (by simp)).trans HX3.out)
 have hlt3 := (Array.getElem?_eq_some_iff.1 E3.out).1
 clear hb3 c3 HA HN3 HB3 HX3 HB2
 cases hq : St.has L id with
 | false =>
   obtain ⟨rfl, rfl⟩ := (HV.out hq)
   clear HV HW hq
   go_wp2_with (first
    | ((with_reducible refine bd_obz ?_ ?_ HBN.out ?_); rfl; rfl)
    | ((with_reducible refine st_obr (x := .tmp 4) (y := .tmp 11) ?_ ?_ ?_ ?_ E3.out HS0.out HS0.out HN0.out ?_); rfl; rfl; rfl; rfl))
   refine bodyPost_ret (results_cell_row (fn := Tryz.f19) (p := 4) (by rfl) _ _ (w.heap.size + 2) _ _ _ _ (by rfl) (setRow_heap _ _ _ _ _ _ E3.out) Tryz.underlying59 rfl (obsize HS0.out)) rfl ⟨_, none, none, 0, 0, rfl, HZA.out _, below_setRow hB (by omega) _⟩
 | true =>
   obtain ⟨rfl, x, hx, hkd⟩ := HW.out hq
   clear HV HW hq
   have hlt : pos < L.length := (List.getElem?_eq_some_iff.1 hx).1
   obtain ⟨a, c, rfl, hd, hc0⟩ := HH.out.elem pos x hx
   have hc : ∀ (j : Nat) (u : Value), c[j]? = some u → w3.cell? ((a.add (pos * 105)).add j) = some u := fun j u hu => by
    have h1 := hc0 j u hu
    rw [hB0.cell (World.block_lt_of_cell? _ _ h1)]; exact h1
   have hxl := hd.idl
   obtain ⟨o, cs, ao, bo, ca, cb, rfl, hO, hF, hdec, _⟩ := hd
   have HCS := Lib.hid hO.F.size
   have HCO := Lib.hid hO.F.one
   have HO := Lib.hid hO
   have HOC := Lib.hid (show ∀ (j : Nat) (u : Value), cs[j]? = some u → w3.cell? ((⟨a.block, a.off + pos * 105 + 33, none⟩ : Addr).add j) = some u from fun j u hu => by
    have h1 := ri_ob hc hxl j u hu
    rw [← add_two a (pos * 105) 33 (by decide), add_add]
    exact h1)
   have hA1 := add_block a (pos * 105)
   have hA2 : (a.add (pos * 105)).off = a.off + pos * 105 := by unfold Addr.add; split <;> simp_all
   have hlt' : (pos : Int) < (L.length : Int) := by omega
   have hk0 : (0 : Int) ≤ (pos : Int) := by omega
   obtain rfl := hkd o hdec
   clear hx hc hc0 hdec hxl hkd hO hF
   go_wp2_with (first
    | ((with_reducible refine ld_obat (x := .tmp 16) (p := ⟨a.block, a.off + pos * 105 + 33, none⟩) (cs := cs) ?_ ?_ ?_ HOC.out HCS.out ?_); rfl; rfl; rfl)
    | ((with_reducible refine st_obr (x := .tmp 4) (y := .tmp 17) ?_ ?_ ?_ ?_ E3.out HS0.out HCS.out HCO.out ?_); rfl; rfl; rfl; rfl))
   refine bodyPost_ret (results_cell_row (fn := Tryz.f19) (p := 4) (by rfl) _ _ (w.heap.size + 2) _ _ _ _ (by rfl) (setRow_heap _ _ _ _ _ _ E3.out) Tryz.underlying59 rfl (obsize HCS.out)) rfl ⟨_, ao, bo, ca, cb, rfl, HO.out, below_setRow hB (by omega) _⟩
end R
end Go.Proofs.YtkcjhkfelaplkaaGreatDoor
end
section
namespace Go.Proofs.YtkcjhkfelaplkaaGreatDoor
open Go.RowKit
theorem fld_pars (w : World) (cs : Array Value) (u : Value) (h : cs[35]? = some u) : (Instr.field 59 (.agg cs) 4).run Tryz.prog w = .ok u w := by
 have hu := fun w => run_underlying (P := Tryz.prog) Tryz.underlying59 w
 simp [Instr.field, hu, asAgg, part, go_sem, h]
theorem Gr.prs_obz (L : List St.It) (id : List UInt8) : (Gr.obz L id).pars = Gr.prs L id := by
 unfold Gr.obz Gr.prs
 cases Gr.ob L id <;> rfl
namespace R
end R
end Go.Proofs.YtkcjhkfelaplkaaGreatDoor
end
