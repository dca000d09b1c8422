/-
  WALKS OF LAYER 11: the document's With of an object's encoding that is not there.
-/
import Derived.Test.YtipigedopmgemaaDoorStWith3
namespace Go.Proofs.YtipigedopmgemaaDoor
open Go.RowKit
set_option linter.unusedVariables false
set_option linter.unusedSimpArgs false

theorem built_st (ao : Option Addr) (n c : Nat) : Tryd.prog.built 27 [(0, .slice ao n c)] = some #[.slice ao n c] := by kernel_rfl
theorem yields_bd_st {ops : Array Oper} {S : World → Prop} {o : Oper} {a : Act} {ao : Option Addr} {n c : Nat} (hw : Region.wanted o (yielded ops a.tmps) = true) (x : Operand) (ho : o.op = .build 27 #[(0, x)]) (hx : a.eval x = .slice ao n c) :
    YieldsIf Tryd.prog ops S o (.agg #[.slice ao n c]) a := .inl ⟨hw, fun w _ => by
  unfold execOp
  have hr := run_build (P := Tryd.prog) w 27 #[(0, .slice ao n c)] _ (built_st ao n c)
  simp only [ho, Sem.run_bind, Sem.run_pure, Result.andThen_ok, List.map_toArray, List.map_cons, List.map_nil, hx, hr]⟩
/-- What With leaves. -/
theorem with_fin {w wf : World} {v l : Value} {cs : Array Value} {o : Ob} {ao bo : Option Addr} {ca cb n1 n2 base : Nat} {id : List UInt8} {s : ByteArray} {C : List (List Value)} {L : List St.It} (ho : OwnR wf base l C) (hb : w.heap.size + 1 + 1 < base) (hn : ItN w (riC id s cs) ⟨id, s⟩ C (St.put L ⟨id, s⟩)) (hp : Pre w wf v cs o ao bo ca cb id n1 n2) (hl : id.length = 32)
    (hd : Rm.dec s.data.toList = some o) (hi : shaI s = id) (hs : St.Srt (St.put L ⟨id, s⟩)) (hf : (St.put L ⟨id, s⟩).length ≤ 62) : DSt ((wf.setRow (w.heap.size + 1) #[l]).setRow (w.heap.size + 1 + 1) (idC id).toArray) l (St.put L ⟨id, s⟩) := by
  have hw := (hp.tri.stored (v := l) hl).2.2
  have hof : OwnR ((wf.setRow (w.heap.size + 1) #[l]).setRow (w.heap.size + 1 + 1) (idC id).toArray) base l C := ⟨own_kept ho.own (fun g hg => by
    have := (ho.own.lt g hg).1
    rw [setRow_other _ _ _ _ (by omega), setRow_other _ _ _ _ (by omega)]), ho.len⟩
  exact ⟨⟨C, hof.zero, hn.its hw ⟨o, cs, rfl, hp.oat.F.size, hp.oat.F.one, hp.oat.F.c0, hd, hi⟩⟩, hs, hf⟩

set_option maxHeartbeats 4000000 in
set_option maxRecDepth 100000 in
theorem with_new (w : World) (v : Value) (L : List St.It) (s : ByteArray) (o : Ob) (h : DSt w v L) (hs : s.size ≤ 5000) (hd : Rm.dec s.data.toList = some o) (hh : St.has L (shaI s) = false) (hl61 : L.length ≤ 61) :
    Calls Tryd.prog 12 #[.agg #[v], .string s] w (WithOk w v L s) := by
  have HA := Lib.hid (fun W (hb : Below w.heap.size w W) => at_any W v L (shaI s) (h.below hb) (shaI_len s))
  have HAV := Lib.hid (show atV L (shaI s) = -1 by unfold atV; rw [hh]; rfl)
  have HSR := Lib.hid (St.put_srt (x := ⟨shaI s, s⟩) h.srt h.len (shaI_len s))
  have HSL := Lib.hid (St.put_length L ⟨shaI s, s⟩)
  have HEND := Lib.hid (St.ins_end (x := ⟨shaI s, s⟩) hh)
  have HSHA := Lib.hid (show shaI s = shaI s from rfl)
  have HAH := Lib.hid (fun (j : Nat) (y : St.It) (hy : L[j]? = some y) => St.pos_ahead h.srt h.len (shaI_len s) hh hy)
  have HST := Lib.hid (fun (k : Nat) (y : St.It) (hy : L[k]? = some y) => St.ins_step (x := ⟨shaI s, s⟩) hy)
  have HSE := Lib.hid (fun (k : Nat) => St.ins_len L ⟨shaI s, s⟩ k)
  have HS00 := Lib.hid (St.ins_zero L ⟨shaI s, s⟩)
  have hpl := St.pos_le L (shaI s)
  obtain ⟨bo', cap, rfl⟩ := h.form
  have hz28 := (zero_of_info zero28).1
  have HS0 := Lib.hid noF.size
  have HDEC := Lib.hid hd
  have HD := Lib.hid (fun W => refdec_obj s o W hs hd)
  have HI := Lib.hid (fun W => refsum_of s W (by omega))
  have HIL := Lib.hid (shaI_len s)
  have HH := Lib.hid h
  generalize (obC noOb nilV nilV).toArray = z at hz28 HS0
  unfold WithOk
  rw [HAV.out] at HA
  generalize hid0 : shaI s = id at *
  have HID := Lib.hid hid0
  have hposd : St.pos L id = St.pos L id := rfl
  generalize hpp : St.pos L id = pos at *
  have HPP := Lib.hid hpp
  clear hd h hh HAV hid0 HSHA hposd hpp
  go_enter Tryd.func12, Tryd.ntmps12
  go_wp2_with fail
  change Calls _ _ _ (((w.alloc (.cells #[.slice bo' L.length cap] 27)).alloc (.cells #[.slice none 0 0] 27)).alloc (.cells (idC zId).toArray 35)) _
  have HT := Lib.hid (Tri.made w (.slice bo' L.length cap))
  generalize ((w.alloc (.cells #[.slice bo' L.length cap] 27)).alloc (.cells #[.slice none 0 0] 27)).alloc (.cells (idC zId).toArray 35) = W at *
  refine (HD.out _).mono ?_
  rintro r w1 ⟨cs, ao, bo, ca, cb, rfl, hO, hf, hb1⟩
  have HT1 := Lib.hid (HT.out.below (hb1.alloc hb1.size (.cells cs 42)))
  have HCS := Lib.hid hO.F.size
  have HCO := Lib.hid hO.F.one
  have HOB := Lib.hid (hO.below ((below_new w1 (.cells cs 42))))
  have HFR := Lib.hid (show ∀ a, ao = some a ∨ bo = some a → w.heap.size + 1 + 1 < a.block from fun a ha => by
    have h1 := hf a ha
    have h2 := HT.out.sz
    omega)
  have HBX := Lib.hid (heap_alloc_new w1 (.cells cs 42))
  clear hb1 HT hO hf
  go_wp2_with ((with_reducible apply st_ob (hs := HCS.out) (h1 := HCO.out)); rfl; rfl; rfl; rfl; exact HS0.out)
  refine (HI.out _).mono ?_
  rintro r w3 ⟨rfl, hb3⟩
  have HT1S : w.heap.size + 1 + 1 < w3.heap.size := by
    have h1 := HT1.out.sz
    have h2 := hb3.size
    omega
  have HT3 := Lib.hid (HT1.out.below (hb3.alloc hb3.size (.cells (idC id).toArray 35)))
  have HR3 := Lib.hid (row_news (heap_alloc_new w3 (.cells (idC id).toArray 35)))
  have c0 := HT3.out.cell
  have hlt3 := HT3.out.sz
  have HPR := Lib.hid (show Pre w (w3.alloc (.cells (idC id).toArray 35)) (.slice bo' L.length cap) cs o ao bo ca cb id w1.heap.size w3.heap.size from
    ⟨HT3.out, ((hb3.alloc hb3.size _).block _ (by simp)).trans HBX.out, heap_alloc_new _ _, HOB.out.below (hb3.alloc hb3.size _), HFR.out, by have := hb3.size; simp at this ⊢; omega, by simp⟩)
  clear hb3 HT1 HOB HFR HBX
  go_wp2_with (first
    | ((with_reducible refine st_id2 (l := id) (x := .tmp 9) (y := .tmp 24) (g := w3.heap.size) ?_ ?_ ?_ ?_ ?_ ?_ HIL.out ?_); rfl; rfl; rfl; rfl; rfl; rfl)
    | ((with_reducible refine ld_id (x := .tmp 9) (p := ⟨w3.heap.size, 0, none⟩) ?_ ?_ ?_ HR3.out HIL.out ?_); rfl; rfl; rfl))
  refine (HA.out _ HT3.out.bel).mono ?_
  rintro r w5 ⟨rfl, hb5⟩
  have HP5 := Lib.hid (HPR.out.below hb5)
  have c5 := HP5.out.tri.cell
  generalize w1.heap.size = n1 at *
  have hn2 : w.heap.size + 1 + 1 < w3.heap.size := HT1S
  generalize w3.heap.size = n2 at *
  have HRL := Lib.hid (riC_length s HIL.out HCS.out)
  have HR1 := Lib.hid (riC_one id s HCO.out)
  have HCL := Lib.hid (fun (W : World) (hb : Below w.heap.size w W) (k : Nat) (y : St.It) (hy : L[k]? = some y) => HH.out.lift hb k y hy)
  clear hb5 HT3 HR3 c0 HA HPR hlt3
  go_wp2_with fail
  go_loopw [10, 11, 12] (fun l d i wr => ∃ (k : Nat) (C : List (List Value)) (b : Bool), k ≤ L.length ∧ i = .int .i64 k ∧ d = .bool b ∧ Hid (b = decide (pos < k)) ∧ Hid (OwnR wr w5.heap.size l C) ∧ Hid (ItN w (riC id s cs) ⟨id, s⟩ C (St.ins L ⟨id, s⟩ k)) ∧ Hid (Below w5.heap.size w5 wr)) (fun _ _ i _ => L.length - (intOf i).toNat)
  case atStart => exact ⟨0, [], false, by omega, rfl, rfl, by show _ = _; simp, OwnR.nil _ _, by show ItN _ _ _ _ _; rw [HS00.out]; exact ItN.nil _ _ _, Below.refl _ _⟩
  case round =>
    obtain ⟨k, C, b, hk, rfl, rfl, HBB, HO, HN, HB⟩ := hrel
    have hbs := HB.out.size
    have HPR := Lib.hid (HP5.out.below HB.out)
    have cr := HPR.out.tri.cell
    have cr' : wr.drew.cell? ⟨w.heap.size, 0, none⟩ = some (.slice bo' L.length cap) := cr
    have hCl : C.length ≤ 2000 := by have := HN.out.len; have := HSE.out k; omega
    by_cases hlt : k < L.length
    · have hlt' : (k : Int) < (L.length : Int) := by omega
      have hk0 : (0 : Int) ≤ (k : Int) := by omega
      obtain ⟨y, hy⟩ : ∃ y, L[k]? = some y := ⟨L[k], List.getElem?_eq_getElem hlt⟩
      obtain ⟨a, c, rfl, hdy, hc⟩ := HH.out.elem k y hy
      have HCW := Lib.hid (show ∀ W, Below w.heap.size w W → ∀ j u, c[j]? = some u → W.cell? ((a.add (k * 105)).add j) = some u from fun W hb j u hu => by
        rw [hb.cell (World.block_lt_of_cell? w _ (hc j u hu))]; exact hc j u hu)
      have HI1 := Lib.hid (show ∀ j u, (idC id)[j]? = some u → wr.drew.cell? ((⟨n2, 0, none⟩ : Addr).add j) = some u from HPR.out.idr)
      have HY1 := Lib.hid (show ∀ j u, (idC y.id)[j]? = some u → wr.drew.cell? ((a.add (k * 105)).add j) = some u from hdy.ids (HCW.out wr HPR.out.tri.bel))
      have HYL := Lib.hid hdy.idl
      have HCC := Lib.hid hdy.len
      have HC1C := Lib.hid hdy.one
      have HDY := Lib.hid hdy
      have HLS := Lib.hid (fun W => refless_id id y.id W HIL.out hdy.idl)
      rw [HAH.out k y hy] at HLS
      have HSTK := Lib.hid (HST.out k y hy)
      have hCl1 : (C ++ [riC id s cs]).length ≤ 2000 := by have := HN.out.len; have := HSE.out k; simp; omega
      clear hy hdy hc HPR HCL
      cases b with
      | true =>
        have hpk : pos < k := by have := HBB.out; simpa using this.symm
        rw [show decide (pos ≤ k) = true from decide_eq_true (by omega)] at HLS
        rw [if_neg (by omega)] at HSTK
        go_wp2_with fail
        refine rgn_tail 7 (by kernel_rfl) (by kernel_rfl) ?_
        simp only [List.take_succ_cons, List.take_zero, List.drop_succ_cons, List.drop_zero]
        repeat still_step
        (with_reducible apply still_id (hc := HI1.out) (hl := HIL.out))
        rfl
        rfl
        rfl
        repeat still_step
        (with_reducible apply still_id (hc := HY1.out) (hl := HYL.out))
        rfl
        rfl
        rfl
        refine wpStill_nil ?_
        go_wp2_with fail
        refine (HLS.out _).mono ?_
        rintro e w6 ⟨rfl, hb6⟩
        have HB6 := Lib.hid (HB.out.drew.trans (hb6.mono (show w5.heap.size ≤ wr.drew.heap.size from hbs)))
        have hbs6 : w5.heap.size ≤ w6.heap.size := HB6.out.size
        have HO6 := Lib.hid (OwnR.below (HO.out.below (Below.refl _ _).drew) hb6)
        have HP6 := Lib.hid (HP5.out.below HB6.out)
        have HC6 := Lib.hid (HCW.out w6 HP6.out.tri.bel)
        have HI6 := Lib.hid HP6.out.idr
        have HOB6 := Lib.hid HP6.out.ob
        have c6 := HP6.out.tri.cell
        clear hb6 HB cr cr'
        go_wp2_with (first
          | ((with_reducible refine ld_ri (c := c) (x := .tmp 62) (p := a.add (k * 105)) ?_ ?_ ?_ HC6.out HCC.out ?_); rfl; rfl; rfl)
          | ((with_reducible refine bs_ri (c := c) (x := .tmp 63) ?_ ?_ ?_ HCC.out ?_); rfl; rfl; rfl)
          | ((with_reducible refine ap_ri (c := c) (.tmp 58) (.tmp 64) ?_ ?_ ?_ ?_ HO6.out hbs6 HCC.out HC1C.out hCl ?_); rfl; rfl; rfl; rfl; intro v8 w8 HO8 HG8))
        go_roundw
        case rel => exact ⟨k + 1, C ++ [c], true, by omega, by go_num, rfl, by show _ = _; rw [decide_eq_true (by omega)], HO8.out, by show ItN _ _ _ _ _; rw [HSTK.out]; exact HN.out.push (.inl HDY.out), HO6.out.grown HB6.out hbs6 HG8.out⟩
        case measure => simp [intOf]; omega
      | false =>
        have hpk : k ≤ pos := by
          have := HBB.out
          simp at this
          omega
        by_cases hkp : k = pos
        · rw [show decide (pos ≤ k) = true from decide_eq_true (by omega)] at HLS
          rw [if_pos (by omega)] at HSTK
          have hkq : pos < k + 1 := by omega
          clear hkp
          go_wp2_with fail
          refine rgn_tail 7 (by kernel_rfl) (by kernel_rfl) ?_
          simp only [List.take_succ_cons, List.take_zero, List.drop_succ_cons, List.drop_zero]
          repeat still_step
          (with_reducible apply still_id (hc := HI1.out) (hl := HIL.out))
          rfl
          rfl
          rfl
          repeat still_step
          (with_reducible apply still_id (hc := HY1.out) (hl := HYL.out))
          rfl
          rfl
          rfl
          refine wpStill_nil ?_
          go_wp2_with fail
          refine (HLS.out _).mono ?_
          rintro e w6 ⟨rfl, hb6⟩
          have HB6 := Lib.hid (HB.out.drew.trans (hb6.mono (show w5.heap.size ≤ wr.drew.heap.size from hbs)))
          have hbs6 : w5.heap.size ≤ w6.heap.size := HB6.out.size
          have HO6 := Lib.hid (OwnR.below (HO.out.below (Below.refl _ _).drew) hb6)
          have HP6 := Lib.hid (HP5.out.below HB6.out)
          have HC6 := Lib.hid (HCW.out w6 HP6.out.tri.bel)
          have HI6 := Lib.hid HP6.out.idr
          have HOB6 := Lib.hid HP6.out.ob
          have c6 := HP6.out.tri.cell
          clear hb6 HB cr cr'
          go_wp2_with (first
            | ((with_reducible refine ld_id (x := .tmp 9) (p := ⟨n2, 0, none⟩) ?_ ?_ ?_ HI6.out HIL.out ?_); rfl; rfl; rfl)
            | ((with_reducible refine ld_obr (x := .tmp 7) (g := n1) ?_ ?_ ?_ HOB6.out HCS.out ?_); rfl; rfl; rfl)
            | ((with_reducible refine bd_ri (x := .tmp 52) (y := .tmp 53) (z := .tmp 54) (l := id) (t := s) (cs := cs) ?_ ?_ ?_ ?_ ?_ HIL.out HCS.out ?_); rfl; rfl; rfl; rfl; rfl)
            | ((with_reducible refine bs_ri (c := riC id s cs) (x := .tmp 55) ?_ ?_ ?_ HRL.out ?_); rfl; rfl; rfl)
            | ((with_reducible refine ap_ri (c := riC id s cs) (.tmp 51) (.tmp 56) ?_ ?_ ?_ ?_ HO6.out hbs6 HRL.out HR1.out hCl ?_); rfl; rfl; rfl; rfl; intro v7 w7 HO7 HG7; have HB7 := Lib.hid (HO6.out.grown HB6.out hbs6 HG7.out); have hbs7 : w5.heap.size ≤ w7.heap.size := HB7.out.size; have HP7 := Lib.hid (HP5.out.below HB7.out); have HC7 := Lib.hid (HCW.out w7 HP7.out.tri.bel); have c7 := HP7.out.tri.cell)
            | ((with_reducible refine ld_ri (c := c) (x := .tmp 62) (p := a.add (k * 105)) ?_ ?_ ?_ HC7.out HCC.out ?_); rfl; rfl; rfl)
            | ((with_reducible refine bs_ri (c := c) (x := .tmp 63) ?_ ?_ ?_ HCC.out ?_); rfl; rfl; rfl)
            | ((with_reducible refine ap_ri (c := c) (.tmp 58) (.tmp 64) ?_ ?_ ?_ ?_ HO7.out hbs7 HCC.out HC1C.out hCl1 ?_); rfl; rfl; rfl; rfl; intro v8 w8 HO8 HG8))
          go_roundw
          case rel => exact ⟨k + 1, (C ++ [riC id s cs]) ++ [c], true, by omega, by go_num, rfl, by show _ = _; rw [decide_eq_true (by omega)], HO8.out, by show ItN _ _ _ _ _; rw [HSTK.out]; exact (HN.out.push (.inr ⟨rfl, rfl⟩)).push (.inl HDY.out), HO7.out.grown HB7.out hbs7 HG8.out⟩
          case measure => simp [intOf]; omega
        · rw [show decide (pos ≤ k) = false from decide_eq_false (by omega)] at HLS
          rw [if_neg (by omega)] at HSTK
          go_wp2_with fail
          refine rgn_tail 7 (by kernel_rfl) (by kernel_rfl) ?_
          simp only [List.take_succ_cons, List.take_zero, List.drop_succ_cons, List.drop_zero]
          repeat still_step
          (with_reducible apply still_id (hc := HI1.out) (hl := HIL.out))
          rfl
          rfl
          rfl
          repeat still_step
          (with_reducible apply still_id (hc := HY1.out) (hl := HYL.out))
          rfl
          rfl
          rfl
          refine wpStill_nil ?_
          go_wp2_with fail
          refine (HLS.out _).mono ?_
          rintro e w6 ⟨rfl, hb6⟩
          have HB6 := Lib.hid (HB.out.drew.trans (hb6.mono (show w5.heap.size ≤ wr.drew.heap.size from hbs)))
          have hbs6 : w5.heap.size ≤ w6.heap.size := HB6.out.size
          have HO6 := Lib.hid (OwnR.below (HO.out.below (Below.refl _ _).drew) hb6)
          have HP6 := Lib.hid (HP5.out.below HB6.out)
          have HC6 := Lib.hid (HCW.out w6 HP6.out.tri.bel)
          have HI6 := Lib.hid HP6.out.idr
          have HOB6 := Lib.hid HP6.out.ob
          have c6 := HP6.out.tri.cell
          clear hb6 HB cr cr'
          go_wp2_with (first
            | ((with_reducible refine ld_ri (c := c) (x := .tmp 62) (p := a.add (k * 105)) ?_ ?_ ?_ HC6.out HCC.out ?_); rfl; rfl; rfl)
            | ((with_reducible refine bs_ri (c := c) (x := .tmp 63) ?_ ?_ ?_ HCC.out ?_); rfl; rfl; rfl)
            | ((with_reducible refine ap_ri (c := c) (.tmp 58) (.tmp 64) ?_ ?_ ?_ ?_ HO6.out hbs6 HCC.out HC1C.out hCl ?_); rfl; rfl; rfl; rfl; intro v8 w8 HO8 HG8))
          go_roundw
          case rel => exact ⟨k + 1, C ++ [c], false, by omega, by go_num, rfl, by show _ = _; rw [decide_eq_false (by omega)], HO8.out, by show ItN _ _ _ _ _; rw [HSTK.out]; exact HN.out.push (.inl HDY.out), HO6.out.grown HB6.out hbs6 HG8.out⟩
          case measure => simp [intOf]; omega
    · have hkl : k = L.length := by omega
      subst hkl
      have hbase : w.heap.size + 1 + 1 < w5.heap.size := HP5.out.tri.sz
      have hfew : (St.put L ⟨id, s⟩).length ≤ 62 := by have := HSL.out; omega
      cases b with
      | true =>
        have hpk : pos < L.length := by have := HBB.out; simpa using this.symm
        have HN2 := Lib.hid (show ItN w (riC id s cs) ⟨id, s⟩ C (St.put L ⟨id, s⟩) by rw [HEND.out, if_pos hpk]; exact HN.out)
        obtain ⟨lo, lc, hform⟩ := own_shape HO.out.own
        subst hform
        have HFIN := Lib.hid (with_fin (HO.out.below (Below.refl _ _).drew) hbase HN2.out (HPR.out.below (Below.refl _ _).drew) HIL.out HDEC.out HID.out HSR.out hfew)
        have HST1 := Lib.hid ((HPR.out.tri.below (Below.refl _ _).drew).stored (v := (.slice lo C.length lc)) HIL.out)
        have cz : wr.drew.cell? ⟨w.heap.size, 0, none⟩ = some (.slice bo' L.length cap) := HPR.out.tri.cell
        have HRZ := Lib.hid (show wr.drew.rangeAt n2 0 (idC id) from range_row HPR.out.idb)
        have HE1 := Lib.hid (show wr.drew.heap[w.heap.size + 1]? = some (.cells #[.slice none 0 0] 27) from HPR.out.tri.b1)
        have HE2 := Lib.hid (show (wr.drew.setRow (w.heap.size + 1) #[(.slice lo C.length lc)]).heap[w.heap.size + 1 + 1]? = some (.cells (idC zId).toArray 35) by rw [setRow_other _ _ _ _ (by omega)]; exact HPR.out.tri.b2)
        have u24 := Tryd.underlying35
        have i24 := idsize HIL.out
        clear hpk
        go_wp2_with fail
        refine wp_region_noPanic ?_
        refine wp_region_held_drew (S := (fun w' => Rd2 w.heap.size n2 (.slice bo' L.length cap) id w')) (by kernel_rfl) ⟨cz, HRZ.out⟩ (fun hH => ?_)
        refine wpAnyH_take (i := 0) (v := ?_) rfl (by kernel_rfl) (by kernel_rfl) (by kernel_rfl) (fun _ _ _ h => h) (Or.inl ⟨by rfl, ?_⟩) (by assumption) ?_
        rotate_left
        · intro w' hSw; go_simp; try rfl
        try simp only [Act.put, List.getElem_toArray, List.getElem_cons_zero, List.getElem_cons_succ, List.setIfInBounds_toArray, List.set_cons_zero, List.set_cons_succ]
        refine wpAnyH_take (i := 1) rfl (by kernel_rfl) (by kernel_rfl) (by kernel_rfl) (fun _ _ _ h => h) (yields_bd_st (by rfl) (.tmp 75) rfl rfl) (by assumption) ?_
        try simp only [Act.put, List.getElem_toArray, List.getElem_cons_zero, List.getElem_cons_succ, List.setIfInBounds_toArray, List.set_cons_zero, List.set_cons_succ]
        refine wpAnyH_take (i := 2) rfl (by kernel_rfl) (by kernel_rfl) (by kernel_rfl) (fun _ _ _ h => h) (yieldsIf_load_mid (by rfl) _ _ rfl _ _ rfl _ _ (fun w h => h.r) u24 rfl i24) (by assumption) ?_
        try simp only [Act.put, List.getElem_toArray, List.getElem_cons_zero, List.getElem_cons_succ, List.setIfInBounds_toArray, List.set_cons_zero, List.set_cons_succ]
        refine wpAnyH_ready (rs := [3]) (by kernel_rfl) (by simp) ?_
        refine AllReadyH.cons rfl (fun K hK => ?_) AllReadyH.nil
        rw [if_pos (by rfl)]
        refine wp_store_row 27 (.tmp 4) (.tmp 76) rfl (w.heap.size + 1) #[(.slice lo C.length lc)] rfl rfl 27 _ HE1.out sizeSt rfl (by simp [Value.oneCell']) ?_
        refine hK.out _ _ (hH.setRow (by omega) (by omega) _) (fun hH2 => ?_)
        clear hK K
        try simp only [Act.put, List.getElem_toArray, List.getElem_cons_zero, List.getElem_cons_succ, List.setIfInBounds_toArray, List.set_cons_zero, List.set_cons_succ]
        refine wpAnyH_ready (rs := [4]) (by kernel_rfl) (by simp) ?_
        refine AllReadyH.cons rfl (fun K hK => ?_) AllReadyH.nil
        rw [if_pos (by rfl)]
        refine wp_store_row 35 (.tmp 5) (.tmp 77) rfl (w.heap.size + 1 + 1) (idC id).toArray rfl rfl 35 _ HE2.out (by rw [List.size_toArray]; exact i24) (by simp [idC_length, HIL.out]; rfl) (all_oneCell_toArray (idC_one id)) ?_
        refine hK.out _ _ (hH2.setRow (by omega) (by omega) _) (fun hH3 => ?_)
        clear hK K
        try simp only [Act.put, List.getElem_toArray, List.getElem_cons_zero, List.getElem_cons_succ, List.setIfInBounds_toArray, List.set_cons_zero, List.set_cons_succ]
        refine wpAnyH_take (i := 5) (v := ?_) rfl (by kernel_rfl) (by kernel_rfl) (by kernel_rfl) (fun _ _ _ h => h) (Or.inl ⟨by rfl, ?_⟩) (by assumption) ?_
        rotate_left
        · intro w' hSw; go_simp; try rfl
        try simp only [Act.put, List.getElem_toArray, List.getElem_cons_zero, List.getElem_cons_succ, List.setIfInBounds_toArray, List.set_cons_zero, List.set_cons_succ]
        refine wpAnyH_done (by kernel_rfl) ?_ _
        refine NoPanic.normal ?_
        go_wp2_with fail
        obtain ⟨r1, r2, r3⟩ := HST1.out
        exact bodyPost_ret (results_three (fn := Tryd.f12) (p := 4) (q := 5) (r := 6) (by rfl) _ _ (w.heap.size + 1) (w.heap.size + 1 + 1) _ _ _ _ _ _ _ _ (by rfl) r1 underSt rfl sizeSt (by rfl) r2 Tryd.underlying35 rfl (by rw [List.size_toArray]; exact idsize HIL.out)) rfl ⟨_, rfl, HFIN.out, r3⟩
      | false =>
        have hpk : ¬ pos < L.length := by have := HBB.out; simp at this; omega
        have HN2 := Lib.hid (show ItN w (riC id s cs) ⟨id, s⟩ (C ++ [riC id s cs]) (St.put L ⟨id, s⟩) by rw [HEND.out, if_neg hpk]; exact HN.out.push (.inr ⟨rfl, rfl⟩))
        have HI6 := Lib.hid HPR.out.idr
        have HOB6 := Lib.hid HPR.out.ob
        clear hpk
        go_wp2_with (first
          | ((with_reducible refine ld_id (x := .tmp 9) (p := ⟨n2, 0, none⟩) ?_ ?_ ?_ HI6.out HIL.out ?_); rfl; rfl; rfl)
          | ((with_reducible refine ld_obr (x := .tmp 7) (g := n1) ?_ ?_ ?_ HOB6.out HCS.out ?_); rfl; rfl; rfl)
          | ((with_reducible refine bd_ri (x := .tmp 69) (y := .tmp 70) (z := .tmp 71) (l := id) (t := s) (cs := cs) ?_ ?_ ?_ ?_ ?_ HIL.out HCS.out ?_); rfl; rfl; rfl; rfl; rfl)
          | ((with_reducible refine bs_ri (c := riC id s cs) (x := .tmp 72) ?_ ?_ ?_ HRL.out ?_); rfl; rfl; rfl)
          | ((with_reducible refine ap_ri (c := riC id s cs) (.tmp 68) (.tmp 73) ?_ ?_ ?_ ?_ HO.out hbs HRL.out HR1.out hCl ?_); rfl; rfl; rfl; rfl; intro v7 w7 HO7 HG7; obtain ⟨lo, lc, hform⟩ := own_shape HO7.out.own; subst hform; have HB7 := Lib.hid (HO.out.grown HB.out hbs HG7.out); have hbs7 : w5.heap.size ≤ w7.heap.size := HB7.out.size; have HP7 := Lib.hid (HP5.out.below HB7.out); have c7 := HP7.out.tri.cell))
        rw [show (C ++ [riC id s cs]).length = C.length + 1 by simp] at HO7
        have HFIN := Lib.hid (with_fin (HO7.out.below (Below.refl _ _).drew) hbase HN2.out (HP7.out.below (Below.refl _ _).drew) HIL.out HDEC.out HID.out HSR.out hfew)
        have HST1 := Lib.hid ((HP7.out.tri.below (Below.refl _ _).drew).stored (v := (.slice lo (C.length + 1) lc)) HIL.out)
        have cz : w7.drew.cell? ⟨w.heap.size, 0, none⟩ = some (.slice bo' L.length cap) := HP7.out.tri.cell
        have HRZ := Lib.hid (show w7.drew.rangeAt n2 0 (idC id) from range_row HP7.out.idb)
        have HE1 := Lib.hid (show w7.drew.heap[w.heap.size + 1]? = some (.cells #[.slice none 0 0] 27) from HP7.out.tri.b1)
        have HE2 := Lib.hid (show (w7.drew.setRow (w.heap.size + 1) #[(.slice lo (C.length + 1) lc)]).heap[w.heap.size + 1 + 1]? = some (.cells (idC zId).toArray 35) by rw [setRow_other _ _ _ _ (by omega)]; exact HP7.out.tri.b2)
        have u24 := Tryd.underlying35
        have i24 := idsize HIL.out
        refine wp_region_noPanic ?_
        refine wp_region_held_drew (S := (fun w' => Rd2 w.heap.size n2 (.slice bo' L.length cap) id w')) (by kernel_rfl) ⟨cz, HRZ.out⟩ (fun hH => ?_)
        refine wpAnyH_take (i := 0) (v := ?_) rfl (by kernel_rfl) (by kernel_rfl) (by kernel_rfl) (fun _ _ _ h => h) (Or.inl ⟨by rfl, ?_⟩) (by assumption) ?_
        rotate_left
        · intro w' hSw; go_simp; try rfl
        try simp only [Act.put, List.getElem_toArray, List.getElem_cons_zero, List.getElem_cons_succ, List.setIfInBounds_toArray, List.set_cons_zero, List.set_cons_succ]
        refine wpAnyH_take (i := 1) rfl (by kernel_rfl) (by kernel_rfl) (by kernel_rfl) (fun _ _ _ h => h) (yields_bd_st (by rfl) (.tmp 75) rfl rfl) (by assumption) ?_
        try simp only [Act.put, List.getElem_toArray, List.getElem_cons_zero, List.getElem_cons_succ, List.setIfInBounds_toArray, List.set_cons_zero, List.set_cons_succ]
        refine wpAnyH_take (i := 2) rfl (by kernel_rfl) (by kernel_rfl) (by kernel_rfl) (fun _ _ _ h => h) (yieldsIf_load_mid (by rfl) _ _ rfl _ _ rfl _ _ (fun w h => h.r) u24 rfl i24) (by assumption) ?_
        try simp only [Act.put, List.getElem_toArray, List.getElem_cons_zero, List.getElem_cons_succ, List.setIfInBounds_toArray, List.set_cons_zero, List.set_cons_succ]
        refine wpAnyH_ready (rs := [3]) (by kernel_rfl) (by simp) ?_
        refine AllReadyH.cons rfl (fun K hK => ?_) AllReadyH.nil
        rw [if_pos (by rfl)]
        refine wp_store_row 27 (.tmp 4) (.tmp 76) rfl (w.heap.size + 1) #[(.slice lo (C.length + 1) lc)] rfl rfl 27 _ HE1.out sizeSt rfl (by simp [Value.oneCell']) ?_
        refine hK.out _ _ (hH.setRow (by omega) (by omega) _) (fun hH2 => ?_)
        clear hK K
        try simp only [Act.put, List.getElem_toArray, List.getElem_cons_zero, List.getElem_cons_succ, List.setIfInBounds_toArray, List.set_cons_zero, List.set_cons_succ]
        refine wpAnyH_ready (rs := [4]) (by kernel_rfl) (by simp) ?_
        refine AllReadyH.cons rfl (fun K hK => ?_) AllReadyH.nil
        rw [if_pos (by rfl)]
        refine wp_store_row 35 (.tmp 5) (.tmp 77) rfl (w.heap.size + 1 + 1) (idC id).toArray rfl rfl 35 _ HE2.out (by rw [List.size_toArray]; exact i24) (by simp [idC_length, HIL.out]; rfl) (all_oneCell_toArray (idC_one id)) ?_
        refine hK.out _ _ (hH2.setRow (by omega) (by omega) _) (fun hH3 => ?_)
        clear hK K
        try simp only [Act.put, List.getElem_toArray, List.getElem_cons_zero, List.getElem_cons_succ, List.setIfInBounds_toArray, List.set_cons_zero, List.set_cons_succ]
        refine wpAnyH_take (i := 5) (v := ?_) rfl (by kernel_rfl) (by kernel_rfl) (by kernel_rfl) (fun _ _ _ h => h) (Or.inl ⟨by rfl, ?_⟩) (by assumption) ?_
        rotate_left
        · intro w' hSw; go_simp; try rfl
        try simp only [Act.put, List.getElem_toArray, List.getElem_cons_zero, List.getElem_cons_succ, List.setIfInBounds_toArray, List.set_cons_zero, List.set_cons_succ]
        refine wpAnyH_done (by kernel_rfl) ?_ _
        refine NoPanic.normal ?_
        go_wp2_with fail
        obtain ⟨r1, r2, r3⟩ := HST1.out
        exact bodyPost_ret (results_three (fn := Tryd.f12) (p := 4) (q := 5) (r := 6) (by rfl) _ _ (w.heap.size + 1) (w.heap.size + 1 + 1) _ _ _ _ _ _ _ _ (by rfl) r1 underSt rfl sizeSt (by rfl) r2 Tryd.underlying35 rfl (by rw [List.size_toArray]; exact idsize HIL.out)) rfl ⟨_, rfl, HFIN.out, r3⟩

end Go.Proofs.YtipigedopmgemaaDoor
