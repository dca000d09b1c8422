/-
  WALKS OF LAYER 12: the document's With once more, over the store whose objects lie whole (layer 11's walks).
-/
import Derived.Test.YtkcjhkfelaplkaaGreatDoorQq
import Derived.Test.YtkcjhkfelaplkaaGreatDoorQa
set_option linter.unusedVariables false
set_option linter.unusedSimpArgs false
set_option maxHeartbeats 8000000
set_option maxRecDepth 100000
namespace Go.Proofs.YtkcjhkfelaplkaaGreatDoor
open Go.RowKit
namespace R
structure ItN (B kk : Nat) (w : World) (c0 : List Value) (x : St.It) (C : List (List Value)) (M : List St.It) : Prop where
 len : C.length = M.length
 at_ : ∀ (i : Nat) (c : List Value) (y : St.It), C[i]? = some c → M[i]? = some y → DIt B kk w c y ∨ (c = c0 ∧ y = x)
theorem ItN.nil (B kk : Nat) (w : World) (c0 : List Value) (x : St.It) : ItN B kk w c0 x [] [] := ⟨rfl, fun i c y h => by simp at h⟩
theorem ItN.push {B kk : Nat} {w : World} {c0 : List Value} {x : St.It} {C : List (List Value)} {M : List St.It} {c : List Value} {y : St.It} (h : ItN B kk w c0 x C M) (hc : DIt B kk w c y ∨ (c = c0 ∧ y = x)) : ItN B kk w c0 x (C ++ [c]) (M ++ [y]) := by
 refine ⟨by simp [h.len], fun i d z hd hz => ?_⟩
 by_cases hi : i < C.length
 ·
  rw [List.getElem?_append_left hi] at hd
  rw [List.getElem?_append_left (by rw [← h.len]; exact hi)] at hz
  exact h.at_ i d z hd hz
 ·
  have hic : i = C.length := by
   have := (List.getElem?_eq_some_iff.1 hd).1
   simp at this; omega
  subst hic
  rw [List.getElem?_append_right (Nat.le_refl _)] at hd
  rw [List.getElem?_append_right (by rw [h.len]; exact Nat.le_refl _), h.len] at hz
  simp at hd hz
  subst hd hz
  exact hc
theorem ItN.its {B kk : Nat} {w W : World} {c0 : List Value} {x : St.It} {C : List (List Value)} {M : List St.It} (h : ItN B kk w c0 x C M) (hb : Below w.heap.size w W) (hx : DIt B kk W c0 x) : Its B kk W C M :=
 ⟨h.len, fun i c y hc hy => by
  rcases h.at_ i c y hc hy with h1 | ⟨rfl, rfl⟩
  · exact h1.below hb
  · exact hx⟩
theorem DSt.lift {B kk : Nat} {w W : World} {ao : Option Addr} {n cap : Nat} {L : List St.It} (h : DSt B kk w (.slice ao n cap) L) (hb : Below w.heap.size w W) (i : Nat) (x : St.It) (hi : L[i]? = some x) :
  ∃ a c, ao = some a ∧ DIt B kk w c x ∧ ∀ j u, c[j]? = some u → W.cell? ((a.add (i * 105)).add j) = some u := by
 obtain ⟨a, c, e, hd, hc⟩ := h.elem i x hi
 refine ⟨a, c, e, hd, fun j u hu => ?_⟩
 have h1 := hc j u hu
 rw [hb.cell (World.block_lt_of_cell? w _ h1)]; exact h1
theorem with_has (B kk : Nat) (w : World) (v : Value) (L : List St.It) (s : ByteArray) (o : Ob) (h : DSt B kk w v L) (hs : s.size ≤ 5000) (hd : Rm.dec s.data.toList = some o) (hh : St.has L (shaI s) = true) :
  Calls Tryz.prog 67 #[.agg #[v], .string s] w (WithOk B kk w v L s) := by
 have HA := Lib.hid (fun W (hb : Below w.heap.size w W) => at_any W v L (shaI s) (h.old.below hb) (shaI_len s))
 have HPT := Lib.hid (show St.put L ⟨shaI s, s⟩ = L from St.put_has hh)
 have HAV := Lib.hid (show atV L (shaI s) = (St.pos L (shaI s) : Int) by unfold atV; rw [hh]; rfl)
 obtain ⟨bo', cap, rfl⟩ := h.form
 have hz28 := (zero_of_info zero28).1
 have HS0 := Lib.hid noF.size
 have HD := Lib.hid (fun W => refdec_obj s o W hs hd)
 have HI := Lib.hid (fun W => refsum_of s W (by omega))
 have HIL := Lib.hid (shaI_len s)
 have HH := Lib.hid h
 generalize (obC noOb nilV nilV).toArray = z at hz28 HS0
 unfold WithOk
 rw [HPT.out]
 rw [HAV.out] at HA
 generalize shaI s = id at *
 generalize St.pos L id = pos at *
 clear hd h hh HPT HAV
 go_enter Tryz.func67, Tryz.ntmps67
 go_wp2_with fail
 change Calls _ _ _ (((w.alloc (.cells #[.slice bo' L.length cap] 28)).alloc (.cells #[.slice none 0 0] 28)).alloc (.cells (idC zId).toArray 46)) _
 have HT := Lib.hid (Tri.made w (.slice bo' L.length cap))
 generalize ((w.alloc (.cells #[.slice bo' L.length cap] 28)).alloc (.cells #[.slice none 0 0] 28)).alloc (.cells (idC zId).toArray 46) = W at *
 refine (HD.out _).mono ?_
 rintro r w1 ⟨cs, ao, bo, ca, cb, rfl, hO, hf, hb1⟩
 have HT1 := Lib.hid (HT.out.below (hb1.alloc hb1.size (.cells cs 59)))
 have HCS := Lib.hid hO.F.size
 have HCO := Lib.hid hO.F.one
 clear hb1 HT hO hf
 go_wp2_with ((with_reducible apply st_ob (hs := HCS.out) (h1 := HCO.out)); rfl; rfl; rfl; rfl; exact HS0.out)
 refine (HI.out _).mono ?_
 rintro r w3 ⟨rfl, hb3⟩
 have HT1S : w.heap.size + 1 + 1 < w3.heap.size := by
  have h1 := HT1.out.sz
  have h2 := hb3.size
  omega
 have HT3 := Lib.hid (HT1.out.below (hb3.alloc hb3.size (.cells (idC id).toArray 46)))
 have HR3 := Lib.hid (row_news (heap_alloc_new w3 (.cells (idC id).toArray 46)))
 have c0 := HT3.out.cell
 have hlt3 := HT3.out.sz
 clear hb3 HT1
 go_wp2_with (first
  | ((with_reducible refine st_id2 (l := id) (x := .tmp 9) (y := .tmp 24) (g := w3.heap.size) ?_ ?_ ?_ ?_ ?_ ?_ HIL.out ?_); rfl; rfl; rfl; rfl; rfl; rfl)
  | ((with_reducible refine ld_id (x := .tmp 9) (p := ⟨w3.heap.size, 0, none⟩) ?_ ?_ ?_ HR3.out HIL.out ?_); rfl; rfl; rfl))
 refine (HA.out _ HT3.out.bel).mono ?_
 rintro r w5 ⟨rfl, hb5⟩
 have HT5 := Lib.hid (HT3.out.below hb5)
 have HG5 := Lib.hid (show w5.drew.rangeAt w3.heap.size 0 (idC id) from range_row ((hb5.block w3.heap.size (by simp)).trans (heap_alloc_new _ _)))
 have c5 := HT5.out.cell
 have c5' : w5.drew.cell? ⟨w.heap.size, 0, none⟩ = some (.slice bo' L.length cap) := HT5.out.cell
 have HE1 := Lib.hid (show w5.drew.heap[w.heap.size + 1]? = _ from HT5.out.b1)
 have HE2 := Lib.hid (show (w5.drew.setRow (w.heap.size + 1) #[.slice bo' L.length cap]).heap[w.heap.size + 1 + 1]? = some (.cells (idC zId).toArray 46) by rw [setRow_other _ _ _ _ (by omega)]; exact HT5.out.b2)
 have g0 : (0 : Int) ≤ (pos : Int) := by omega
 clear hb5 HT3 HR3 c0 HA
 go_wp2_with fail
 have u24 := Tryz.underlying46
 have i24 := idsize HIL.out
 have hn2 : w.heap.size + 1 + 1 < w3.heap.size := by
  have := HT1S
  omega
 refine wp_region_noPanic ?_
 refine wp_region_held_drew (S := (fun w' => Rd2 w.heap.size w3.heap.size (.slice bo' L.length cap) id w')) (by kernel_rfl) ⟨c5', HG5.out⟩ (fun hH => ?_)
 refine tk (i := 0) (v := ?_) ?_ ?_
 rotate_left
 · intro w' hSw; have hcc := hSw.c; go_simp; try rfl
 try simp only [q0]
 refine wpAnyH_take (i := 1) rfl (by kernel_rfl) (by kernel_rfl) (by kernel_rfl) (fun _ _ _ h => h) (yieldsIf_load_mid (by rfl) _ _ rfl _ _ rfl _ _ (fun w h => h.r) u24 rfl i24) (by assumption) ?_
 try simp only [q0]
 refine wpAnyH_ready (rs := [2]) (by kernel_rfl) (by simp) ?_
 refine AllReadyH.cons rfl (fun K hK => ?_) AllReadyH.nil
 rw [if_pos (by rfl)]
 refine wp_store_row 28 (.tmp 4) (.tmp 29) rfl (w.heap.size + 1) #[.slice bo' L.length cap] rfl rfl 28 _ HE1.out sizeSt rfl (by simp [Value.oneCell']) ?_
 refine hK.out _ _ (hH.setRow (by omega) (by omega) _) (fun hH2 => ?_)
 clear hK K
 try simp only [q0]
 refine wpAnyH_ready (rs := [3]) (by kernel_rfl) (by simp) ?_
 refine AllReadyH.cons rfl (fun K hK => ?_) AllReadyH.nil
 rw [if_pos (by rfl)]
 refine wp_store_row 46 (.tmp 5) (.tmp 30) rfl (w.heap.size + 1 + 1) (idC id).toArray rfl rfl 46 _ HE2.out (by rw [List.size_toArray]; exact i24) (by simp [idC_length, HIL.out]; rfl) (all_oneCell_toArray (idC_one id)) ?_
 refine hK.out _ _ (hH2.setRow (by omega) (by omega) _) (fun hH3 => ?_)
 clear hK K
 try simp only [q0]
 refine tk (i := 4) (v := ?_) ?_ ?_
 rotate_left
 · intro w' hSw; go_simp; try rfl
 try simp only [q0]
 refine wpAnyH_done (by kernel_rfl) ?_ _
 refine NoPanic.normal ?_
 go_wp2_with fail
 obtain ⟨r1, r2, r3⟩ := (HT5.out.below (Below.refl _ _).drew).stored (v := .slice bo' L.length cap) (id := id) HIL.out
 exact bodyPost_ret (results_three (fn := Tryz.f67) (p := 4) (q := 5) (r := 6) (by rfl) _ _ (w.heap.size + 1) (w.heap.size + 1 + 1) _ _ _ _ _ _ _ _ (by rfl) r1 underSt rfl sizeSt (by rfl) r2 Tryz.underlying46 rfl (by rw [List.size_toArray]; exact idsize HIL.out)) rfl ⟨_, rfl, HH.out.below r3, r3⟩
theorem with_fin {B kk : Nat} {w wf : World} {v l : Value} {cs : Array Value} {o : Ob} {ao bo : Option Addr} {ca cb n1 n2 base : Nat} {id : List UInt8} {s : ByteArray} {C : List (List Value)} {L : List St.It} (ho : OwnR wf base l C) (hb : w.heap.size + 1 + 1 < base) (hn : ItN B kk w (riC id s cs) ⟨id, s⟩ C (St.put L ⟨id, s⟩)) (hp : Pre w wf v cs o ao bo ca cb id n1 n2) (hl : id.length = 32)
  (hd : Rm.dec s.data.toList = some o) (hi : shaI s = id) (hs : St.Srt (St.put L ⟨id, s⟩)) (hB : B ≤ w.heap.size + 1 + 1) (hk : kk ≤ w.heap.size + 1 + 1) (hf : (St.put L ⟨id, s⟩).length ≤ 62) : DSt B kk ((wf.setRow (w.heap.size + 1) #[l]).setRow (w.heap.size + 1 + 1) (idC id).toArray) l (St.put L ⟨id, s⟩) := by
 have hw := (hp.tri.stored (v := l) hl).2.2
 have hof : OwnR ((wf.setRow (w.heap.size + 1) #[l]).setRow (w.heap.size + 1 + 1) (idC id).toArray) base l C := ⟨own_kept ho.own (fun g hg => by
  have := (ho.own.lt g hg).1
  rw [setRow_other _ _ _ _ (by omega), setRow_other _ _ _ _ (by omega)]), ho.len⟩
 exact ⟨⟨C, hof.zero, hn.its hw ⟨o, cs, ao, bo, ca, cb, rfl, hp.final hl, ⟨fun _ a ha => by have := hp.fresh a (.inl ha); exact ⟨by omega, by omega⟩, fun _ a ha => by have := hp.fresh a (.inr ha); exact ⟨by omega, by omega⟩⟩, hd, hi⟩⟩, hs, hf⟩
theorem with_new (B kk : Nat) (w : World) (v : Value) (L : List St.It) (s : ByteArray) (o : Ob) (h : DSt B kk w v L) (hs : s.size ≤ 5000) (hd : Rm.dec s.data.toList = some o) (hh : St.has L (shaI s) = false) (hB : B ≤ w.heap.size) (hkk : kk ≤ w.heap.size) (hl61 : L.length ≤ 61) :
  Calls Tryz.prog 67 #[.agg #[v], .string s] w (WithOk B kk w v L s) := by
 have HA := Lib.hid (fun W (hb : Below w.heap.size w W) => at_any W v L (shaI s) (h.old.below hb) (shaI_len s))
 have HAV := Lib.hid (show atV L (shaI s) = -1 by unfold atV; rw [hh]; rfl)
 have HSR := Lib.hid (St.put_srt (x := ⟨shaI s, s⟩) h.srt h.len (shaI_len s))
 have HSL := Lib.hid (St.put_length L ⟨shaI s, s⟩)
 have HEND := Lib.hid (St.ins_end (x := ⟨shaI s, s⟩) hh)
 have HSHA := Lib.hid (show shaI s = shaI s from rfl)
 have HAH := Lib.hid (fun (j : Nat) (y : St.It) (hy : L[j]? = some y) => St.pos_ahead h.srt h.len (shaI_len s) hh hy)
 have HST := Lib.hid (fun (k : Nat) (y : St.It) (hy : L[k]? = some y) => St.ins_step (x := ⟨shaI s, s⟩) hy)
 have HSE := Lib.hid (fun (k : Nat) => St.ins_len L ⟨shaI s, s⟩ k)
 have HS00 := Lib.hid (St.ins_zero L ⟨shaI s, s⟩)
 have hpl := St.pos_le L (shaI s)
 obtain ⟨bo', cap, rfl⟩ := h.form
 have hz28 := (zero_of_info zero28).1
 have HS0 := Lib.hid noF.size
 have HDEC := Lib.hid hd
 have HD := Lib.hid (fun W => refdec_obj s o W hs hd)
 have HI := Lib.hid (fun W => refsum_of s W (by omega))
 have HIL := Lib.hid (shaI_len s)
 have HH := Lib.hid h
 generalize (obC noOb nilV nilV).toArray = z at hz28 HS0
 unfold WithOk
 rw [HAV.out] at HA
 generalize hid0 : shaI s = id at *
 have HID := Lib.hid hid0
 have hposd : St.pos L id = St.pos L id := rfl
 generalize hpp : St.pos L id = pos at *
 have HPP := Lib.hid hpp
 clear hd h hh HAV hid0 HSHA hposd hpp
 go_enter Tryz.func67, Tryz.ntmps67
 go_wp2_with fail
 change Calls _ _ _ (((w.alloc (.cells #[.slice bo' L.length cap] 28)).alloc (.cells #[.slice none 0 0] 28)).alloc (.cells (idC zId).toArray 46)) _
 have HT := Lib.hid (Tri.made w (.slice bo' L.length cap))
 generalize ((w.alloc (.cells #[.slice bo' L.length cap] 28)).alloc (.cells #[.slice none 0 0] 28)).alloc (.cells (idC zId).toArray 46) = W at *
 refine (HD.out _).mono ?_
 rintro r w1 ⟨cs, ao, bo, ca, cb, rfl, hO, hf, hb1⟩
 have HT1 := Lib.hid (HT.out.below (hb1.alloc hb1.size (.cells cs 59)))
 have HCS := Lib.hid hO.F.size
 have HCO := Lib.hid hO.F.one
 have HOB := Lib.hid (hO.below ((below_new w1 (.cells cs 59))))
 have HFR := Lib.hid (show ∀ a, ao = some a ∨ bo = some a → w.heap.size + 1 + 1 < a.block from fun a ha => by
  have h1 := hf a ha
  have h2 := HT.out.sz
  omega)
 have HBX := Lib.hid (heap_alloc_new w1 (.cells cs 59))
 clear hb1 HT hO hf
 go_wp2_with ((with_reducible apply st_ob (hs := HCS.out) (h1 := HCO.out)); rfl; rfl; rfl; rfl; exact HS0.out)
 refine (HI.out _).mono ?_
 rintro r w3 ⟨rfl, hb3⟩
 have HT1S : w.heap.size + 1 + 1 < w3.heap.size := by
  have h1 := HT1.out.sz
  have h2 := hb3.size
  omega
 have HT3 := Lib.hid (HT1.out.below (hb3.alloc hb3.size (.cells (idC id).toArray 46)))
 have HR3 := Lib.hid (row_news (heap_alloc_new w3 (.cells (idC id).toArray 46)))
 have c0 := HT3.out.cell
 have hlt3 := HT3.out.sz
 have HPR := Lib.hid (show Pre w (w3.alloc (.cells (idC id).toArray 46)) (.slice bo' L.length cap) cs o ao bo ca cb id w1.heap.size w3.heap.size from
  ⟨HT3.out, ((hb3.alloc hb3.size _).block _ (by simp)).trans HBX.out, heap_alloc_new _ _, HOB.out.below (hb3.alloc hb3.size _), HFR.out, by have := hb3.size; simp at this ⊢; omega, by simp⟩)
 clear hb3 HT1 HOB HFR HBX
 go_wp2_with (first
  | ((with_reducible refine st_id2 (l := id) (x := .tmp 9) (y := .tmp 24) (g := w3.heap.size) ?_ ?_ ?_ ?_ ?_ ?_ HIL.out ?_); rfl; rfl; rfl; rfl; rfl; rfl)
  | ((with_reducible refine ld_id (x := .tmp 9) (p := ⟨w3.heap.size, 0, none⟩) ?_ ?_ ?_ HR3.out HIL.out ?_); rfl; rfl; rfl))
 refine (HA.out _ HT3.out.bel).mono ?_
 rintro r w5 ⟨rfl, hb5⟩
 have HP5 := Lib.hid (HPR.out.below hb5)
 have c5 := HP5.out.tri.cell
 generalize w1.heap.size = n1 at *
 have hn2 : w.heap.size + 1 + 1 < w3.heap.size := HT1S
 generalize w3.heap.size = n2 at *
 have HRL := Lib.hid (riC_length s HIL.out HCS.out)
 have HR1 := Lib.hid (riC_one id s HCO.out)
 have HCL := Lib.hid (fun (W : World) (hb : Below w.heap.size w W) (k : Nat) (y : St.It) (hy : L[k]? = some y) => HH.out.lift hb k y hy)
 clear hb5 HT3 HR3 c0 HA HPR hlt3
 go_wp2_with fail
 go_loopw [10, 11, 12] (fun l d i wr => ∃ (k : Nat) (C : List (List Value)) (b : Bool), k ≤ L.length ∧ i = .int .i64 k ∧ d = .bool b ∧ Hid (b = decide (pos < k)) ∧ Hid (OwnR wr w5.heap.size l C) ∧ Hid (ItN B kk w (riC id s cs) ⟨id, s⟩ C (St.ins L ⟨id, s⟩ k)) ∧ Hid (Below w5.heap.size w5 wr)) (fun _ _ i _ => L.length - (intOf i).toNat)
 case atStart => exact ⟨0, [], false, by omega, rfl, rfl, by show _ = _; simp, OwnR.nil _ _, by show ItN B kk _ _ _ _ _; rw [HS00.out]; exact ItN.nil _ _ _ _ _, Below.refl _ _⟩
 case round =>
  obtain ⟨k, C, b, hk, rfl, rfl, HBB, HO, HN, HB⟩ := hrel
  have hbs := HB.out.size
  have HPR := Lib.hid (HP5.out.below HB.out)
  have cr := HPR.out.tri.cell
  have cr' : wr.drew.cell? ⟨w.heap.size, 0, none⟩ = some (.slice bo' L.length cap) := cr
  have hCl : C.length ≤ 2000 := by have := HN.out.len; have := HSE.out k; omega
  by_cases hlt : k < L.length
  ·
   have hlt' : (k : Int) < (L.length : Int) := by omega
   have hk0 : (0 : Int) ≤ (k : Int) := by omega
   obtain ⟨y, hy⟩ : ∃ y, L[k]? = some y := ⟨L[k], List.getElem?_eq_getElem hlt⟩
   obtain ⟨a, c, rfl, hdy, hc⟩ := HH.out.elem k y hy
   have HCW := Lib.hid (show ∀ W, Below w.heap.size w W → ∀ j u, c[j]? = some u → W.cell? ((a.add (k * 105)).add j) = some u from fun W hb j u hu => by
    rw [hb.cell (World.block_lt_of_cell? w _ (hc j u hu))]; exact hc j u hu)
   have HI1 := Lib.hid (show ∀ j u, (idC id)[j]? = some u → wr.drew.cell? ((⟨n2, 0, none⟩ : Addr).add j) = some u from HPR.out.idr)
   have HY1 := Lib.hid (show ∀ j u, (idC y.id)[j]? = some u → wr.drew.cell? ((a.add (k * 105)).add j) = some u from hdy.ids (HCW.out wr HPR.out.tri.bel))
   have HYL := Lib.hid hdy.idl
   have HCC := Lib.hid hdy.len
   have HC1C := Lib.hid hdy.one
   have HDY := Lib.hid hdy
   have HLS := Lib.hid (fun W => refless_id id y.id W HIL.out hdy.idl)
   rw [HAH.out k y hy] at HLS
   have HSTK := Lib.hid (HST.out k y hy)
   have hCl1 : (C ++ [riC id s cs]).length ≤ 2000 := by have := HN.out.len; have := HSE.out k; simp; omega
   clear hy hdy hc HPR HCL
   cases b with
   | true =>
     have hpk : pos < k := by have := HBB.out; simpa using this.symm
     rw [show decide (pos ≤ k) = true from decide_eq_true (by omega)] at HLS
     rw [if_neg (by omega)] at HSTK
     go_wp2_with fail
     refine rgn_tail 7 (by kernel_rfl) (by kernel_rfl) ?_
     simp only [List.take_succ_cons, List.take_zero, List.drop_succ_cons, List.drop_zero]
     repeat still_step
     (with_reducible apply still_id (hc := HI1.out) (hl := HIL.out))
     rfl
     rfl
     rfl
     repeat still_step
     (with_reducible apply still_id (hc := HY1.out) (hl := HYL.out))
     rfl
     rfl
     rfl
     refine wpStill_nil ?_
     go_wp2_with fail
     refine (HLS.out _).mono ?_
     rintro e w6 ⟨rfl, hb6⟩
     have HB6 := Lib.hid (HB.out.drew.trans (hb6.mono (show w5.heap.size ≤ wr.drew.heap.size from hbs)))
     have hbs6 : w5.heap.size ≤ w6.heap.size := HB6.out.size
     have HO6 := Lib.hid (OwnR.below (HO.out.below (Below.refl _ _).drew) hb6)
     have HP6 := Lib.hid (HP5.out.below HB6.out)
     have HC6 := Lib.hid (HCW.out w6 HP6.out.tri.bel)
     have HI6 := Lib.hid HP6.out.idr
     have HOB6 := Lib.hid HP6.out.ob
     have c6 := HP6.out.tri.cell
     clear hb6 HB cr cr'
     go_wp2_with (first
      | ((with_reducible refine ld_ri (c := c) (x := .tmp 62) (p := a.add (k * 105)) ?_ ?_ ?_ HC6.out HCC.out ?_); rfl; rfl; rfl)
      | ((with_reducible refine bs_ri (c := c) (x := .tmp 63) ?_ ?_ ?_ HCC.out ?_); rfl; rfl; rfl)
      | ((with_reducible refine ap_ri (c := c) (.tmp 58) (.tmp 64) ?_ ?_ ?_ ?_ HO6.out hbs6 HCC.out HC1C.out hCl ?_); rfl; rfl; rfl; rfl; intro v8 w8 HO8 HG8))
     go_roundw
     case rel => exact ⟨k + 1, C ++ [c], true, by omega, by go_num, rfl, by show _ = _; rw [decide_eq_true (by omega)], HO8.out, by show ItN B kk _ _ _ _ _; rw [HSTK.out]; exact HN.out.push (.inl HDY.out), HO6.out.grown HB6.out hbs6 HG8.out⟩
     case measure => simp [intOf]; omega
   | false =>
     have hpk : k ≤ pos := by
      have := HBB.out
      simp at this
      omega
     by_cases hkp : k = pos
     ·
      rw [show decide (pos ≤ k) = true from decide_eq_true (by omega)] at HLS
      rw [if_pos (by omega)] at HSTK
      have hkq : pos < k + 1 := by omega
      clear hkp
      go_wp2_with fail
      refine rgn_tail 7 (by kernel_rfl) (by kernel_rfl) ?_
      simp only [List.take_succ_cons, List.take_zero, List.drop_succ_cons, List.drop_zero]
      repeat still_step
      (with_reducible apply still_id (hc := HI1.out) (hl := HIL.out))
      rfl
      rfl
      rfl
      repeat still_step
      (with_reducible apply still_id (hc := HY1.out) (hl := HYL.out))
      rfl
      rfl
      rfl
      refine wpStill_nil ?_
      go_wp2_with fail
      refine (HLS.out _).mono ?_
      rintro e w6 ⟨rfl, hb6⟩
      have HB6 := Lib.hid (HB.out.drew.trans (hb6.mono (show w5.heap.size ≤ wr.drew.heap.size from hbs)))
      have hbs6 : w5.heap.size ≤ w6.heap.size := HB6.out.size
      have HO6 := Lib.hid (OwnR.below (HO.out.below (Below.refl _ _).drew) hb6)
      have HP6 := Lib.hid (HP5.out.below HB6.out)
      have HC6 := Lib.hid (HCW.out w6 HP6.out.tri.bel)
      have HI6 := Lib.hid HP6.out.idr
      have HOB6 := Lib.hid HP6.out.ob
      have c6 := HP6.out.tri.cell
      clear hb6 HB cr cr'
      go_wp2_with (first
       | ((with_reducible refine ld_id (x := .tmp 9) (p := ⟨n2, 0, none⟩) ?_ ?_ ?_ HI6.out HIL.out ?_); rfl; rfl; rfl)
       | ((with_reducible refine ld_obr (x := .tmp 7) (g := n1) ?_ ?_ ?_ HOB6.out HCS.out ?_); rfl; rfl; rfl)
       | ((with_reducible refine bd_ri (x := .tmp 52) (y := .tmp 53) (z := .tmp 54) (l := id) (t := s) (cs := cs) ?_ ?_ ?_ ?_ ?_ HIL.out HCS.out ?_); rfl; rfl; rfl; rfl; rfl)
       | ((with_reducible refine bs_ri (c := riC id s cs) (x := .tmp 55) ?_ ?_ ?_ HRL.out ?_); rfl; rfl; rfl)
       | ((with_reducible refine ap_ri (c := riC id s cs) (.tmp 51) (.tmp 56) ?_ ?_ ?_ ?_ HO6.out hbs6 HRL.out HR1.out hCl ?_); rfl; rfl; rfl; rfl; intro v7 w7 HO7 HG7; have HB7 := Lib.hid (HO6.out.grown HB6.out hbs6 HG7.out); have hbs7 : w5.heap.size ≤ w7.heap.size := HB7.out.size; have HP7 := Lib.hid (HP5.out.below HB7.out); have HC7 := Lib.hid (HCW.out w7 HP7.out.tri.bel); have c7 := HP7.out.tri.cell)
       | ((with_reducible refine ld_ri (c := c) (x := .tmp 62) (p := a.add (k * 105)) ?_ ?_ ?_ HC7.out HCC.out ?_); rfl; rfl; rfl)
       | ((with_reducible refine bs_ri (c := c) (x := .tmp 63) ?_ ?_ ?_ HCC.out ?_); rfl; rfl; rfl)
       | ((with_reducible refine ap_ri (c := c) (.tmp 58) (.tmp 64) ?_ ?_ ?_ ?_ HO7.out hbs7 HCC.out HC1C.out hCl1 ?_); rfl; rfl; rfl; rfl; intro v8 w8 HO8 HG8))
      go_roundw
      case rel => exact ⟨k + 1, (C ++ [riC id s cs]) ++ [c], true, by omega, by go_num, rfl, by show _ = _; rw [decide_eq_true (by omega)], HO8.out, by show ItN B kk _ _ _ _ _; rw [HSTK.out]; exact (HN.out.push (.inr ⟨rfl, rfl⟩)).push (.inl HDY.out), HO7.out.grown HB7.out hbs7 HG8.out⟩
      case measure => simp [intOf]; omega
     ·
      rw [show decide (pos ≤ k) = false from decide_eq_false (by omega)] at HLS
      rw [if_neg (by omega)] at HSTK
      go_wp2_with fail
      refine rgn_tail 7 (by kernel_rfl) (by kernel_rfl) ?_
      simp only [List.take_succ_cons, List.take_zero, List.drop_succ_cons, List.drop_zero]
      repeat still_step
      (with_reducible apply still_id (hc := HI1.out) (hl := HIL.out))
      rfl
      rfl
      rfl
      repeat still_step
      (with_reducible apply still_id (hc := HY1.out) (hl := HYL.out))
      rfl
      rfl
      rfl
      refine wpStill_nil ?_
      go_wp2_with fail
      refine (HLS.out _).mono ?_
      rintro e w6 ⟨rfl, hb6⟩
      have HB6 := Lib.hid (HB.out.drew.trans (hb6.mono (show w5.heap.size ≤ wr.drew.heap.size from hbs)))
      have hbs6 : w5.heap.size ≤ w6.heap.size := HB6.out.size
      have HO6 := Lib.hid (OwnR.below (HO.out.below (Below.refl _ _).drew) hb6)
      have HP6 := Lib.hid (HP5.out.below HB6.out)
      have HC6 := Lib.hid (HCW.out w6 HP6.out.tri.bel)
      have HI6 := Lib.hid HP6.out.idr
      have HOB6 := Lib.hid HP6.out.ob
      have c6 := HP6.out.tri.cell
      clear hb6 HB cr cr'
      go_wp2_with (first
       | ((with_reducible refine ld_ri (c := c) (x := .tmp 62) (p := a.add (k * 105)) ?_ ?_ ?_ HC6.out HCC.out ?_); rfl; rfl; rfl)
       | ((with_reducible refine bs_ri (c := c) (x := .tmp 63) ?_ ?_ ?_ HCC.out ?_); rfl; rfl; rfl)
       | ((with_reducible refine ap_ri (c := c) (.tmp 58) (.tmp 64) ?_ ?_ ?_ ?_ HO6.out hbs6 HCC.out HC1C.out hCl ?_); rfl; rfl; rfl; rfl; intro v8 w8 HO8 HG8))
      go_roundw
      case rel => exact ⟨k + 1, C ++ [c], false, by omega, by go_num, rfl, by show _ = _; rw [decide_eq_false (by omega)], HO8.out, by show ItN B kk _ _ _ _ _; rw [HSTK.out]; exact HN.out.push (.inl HDY.out), HO6.out.grown HB6.out hbs6 HG8.out⟩
      case measure => simp [intOf]; omega
  ·
   have hkl : k = L.length := by omega
   subst hkl
   have hbase : w.heap.size + 1 + 1 < w5.heap.size := HP5.out.tri.sz
   have hfew : (St.put L ⟨id, s⟩).length ≤ 62 := by have := HSL.out; omega
   cases b with
   | true =>
     have hpk : pos < L.length := by have := HBB.out; simpa using this.symm
     have HN2 := Lib.hid (show ItN B kk w (riC id s cs) ⟨id, s⟩ C (St.put L ⟨id, s⟩) by rw [HEND.out, if_pos hpk]; exact HN.out)
     obtain ⟨lo, lc, hform⟩ := own_shape HO.out.own
     subst hform
     have HFIN := Lib.hid (with_fin (HO.out.below (Below.refl _ _).drew) hbase HN2.out (HPR.out.below (Below.refl _ _).drew) HIL.out HDEC.out HID.out HSR.out (by omega) (by omega) hfew)
     have HST1 := Lib.hid ((HPR.out.tri.below (Below.refl _ _).drew).stored (v := (.slice lo C.length lc)) HIL.out)
     have cz : wr.drew.cell? ⟨w.heap.size, 0, none⟩ = some (.slice bo' L.length cap) := HPR.out.tri.cell
     have HRZ := Lib.hid (show wr.drew.rangeAt n2 0 (idC id) from range_row HPR.out.idb)
     have HE1 := Lib.hid (show wr.drew.heap[w.heap.size + 1]? = some (.cells #[.slice none 0 0] 28) from HPR.out.tri.b1)
     have HE2 := Lib.hid (show (wr.drew.setRow (w.heap.size + 1) #[(.slice lo C.length lc)]).heap[w.heap.size + 1 + 1]? = some (.cells (idC zId).toArray 46) by rw [setRow_other _ _ _ _ (by omega)]; exact HPR.out.tri.b2)
     have u24 := Tryz.underlying46
     have i24 := idsize HIL.out
     clear hpk
     go_wp2_with fail
     refine wp_region_noPanic ?_
     refine wp_region_held_drew (S := (fun w' => Rd2 w.heap.size n2 (.slice bo' L.length cap) id w')) (by kernel_rfl) ⟨cz, HRZ.out⟩ (fun hH => ?_)
     refine tk (i := 0) (v := ?_) ?_ ?_
     rotate_left
     · intro w' hSw; go_simp; try rfl
     try simp only [q0]
     refine wpAnyH_take (i := 1) rfl (by kernel_rfl) (by kernel_rfl) (by kernel_rfl) (fun _ _ _ h => h) (yields_bd_st (by rfl) (.tmp 75) rfl rfl) (by assumption) ?_
     try simp only [q0]
     refine wpAnyH_take (i := 2) rfl (by kernel_rfl) (by kernel_rfl) (by kernel_rfl) (fun _ _ _ h => h) (yieldsIf_load_mid (by rfl) _ _ rfl _ _ rfl _ _ (fun w h => h.r) u24 rfl i24) (by assumption) ?_
     try simp only [q0]
     refine wpAnyH_ready (rs := [3]) (by kernel_rfl) (by simp) ?_
     refine AllReadyH.cons rfl (fun K hK => ?_) AllReadyH.nil
     rw [if_pos (by rfl)]
     refine wp_store_row 28 (.tmp 4) (.tmp 76) rfl (w.heap.size + 1) #[(.slice lo C.length lc)] rfl rfl 28 _ HE1.out sizeSt rfl (by simp [Value.oneCell']) ?_
     refine hK.out _ _ (hH.setRow (by omega) (by omega) _) (fun hH2 => ?_)
     clear hK K
     try simp only [q0]
     refine wpAnyH_ready (rs := [4]) (by kernel_rfl) (by simp) ?_
     refine AllReadyH.cons rfl (fun K hK => ?_) AllReadyH.nil
     rw [if_pos (by rfl)]
     refine wp_store_row 46 (.tmp 5) (.tmp 77) rfl (w.heap.size + 1 + 1) (idC id).toArray rfl rfl 46 _ HE2.out (by rw [List.size_toArray]; exact i24) (by simp [idC_length, HIL.out]; rfl) (all_oneCell_toArray (idC_one id)) ?_
     refine hK.out _ _ (hH2.setRow (by omega) (by omega) _) (fun hH3 => ?_)
     clear hK K
     try simp only [q0]
     refine tk (i := 5) (v := ?_) ?_ ?_
     rotate_left
     · intro w' hSw; go_simp; try rfl
     try simp only [q0]
     refine wpAnyH_done (by kernel_rfl) ?_ _
     refine NoPanic.normal ?_
     go_wp2_with fail
     obtain ⟨r1, r2, r3⟩ := HST1.out
     exact bodyPost_ret (results_three (fn := Tryz.f67) (p := 4) (q := 5) (r := 6) (by rfl) _ _ (w.heap.size + 1) (w.heap.size + 1 + 1) _ _ _ _ _ _ _ _ (by rfl) r1 underSt rfl sizeSt (by rfl) r2 Tryz.underlying46 rfl (by rw [List.size_toArray]; exact idsize HIL.out)) rfl ⟨_, rfl, HFIN.out, r3⟩
   | false =>
     have hpk : ¬ pos < L.length := by have := HBB.out; simp at this; omega
     have HN2 := Lib.hid (show ItN B kk w (riC id s cs) ⟨id, s⟩ (C ++ [riC id s cs]) (St.put L ⟨id, s⟩) by rw [HEND.out, if_neg hpk]; exact HN.out.push (.inr ⟨rfl, rfl⟩))
     have HI6 := Lib.hid HPR.out.idr
     have HOB6 := Lib.hid HPR.out.ob
     clear hpk
     go_wp2_with (first
      | ((with_reducible refine ld_id (x := .tmp 9) (p := ⟨n2, 0, none⟩) ?_ ?_ ?_ HI6.out HIL.out ?_); rfl; rfl; rfl)
      | ((with_reducible refine ld_obr (x := .tmp 7) (g := n1) ?_ ?_ ?_ HOB6.out HCS.out ?_); rfl; rfl; rfl)
      | ((with_reducible refine bd_ri (x := .tmp 69) (y := .tmp 70) (z := .tmp 71) (l := id) (t := s) (cs := cs) ?_ ?_ ?_ ?_ ?_ HIL.out HCS.out ?_); rfl; rfl; rfl; rfl; rfl)
      | ((with_reducible refine bs_ri (c := riC id s cs) (x := .tmp 72) ?_ ?_ ?_ HRL.out ?_); rfl; rfl; rfl)
      | ((with_reducible refine ap_ri (c := riC id s cs) (.tmp 68) (.tmp 73) ?_ ?_ ?_ ?_ HO.out hbs HRL.out HR1.out hCl ?_); rfl; rfl; rfl; rfl; intro v7 w7 HO7 HG7; obtain ⟨lo, lc, hform⟩ := own_shape HO7.out.own; subst hform; have HB7 := Lib.hid (HO.out.grown HB.out hbs HG7.out); have hbs7 : w5.heap.size ≤ w7.heap.size := HB7.out.size; have HP7 := Lib.hid (HP5.out.below HB7.out); have c7 := HP7.out.tri.cell))
     rw [show (C ++ [riC id s cs]).length = C.length + 1 by simp] at HO7
     have HFIN := Lib.hid (with_fin (HO7.out.below (Below.refl _ _).drew) hbase HN2.out (HP7.out.below (Below.refl _ _).drew) HIL.out HDEC.out HID.out HSR.out (by omega) (by omega) hfew)
     have HST1 := Lib.hid ((HP7.out.tri.below (Below.refl _ _).drew).stored (v := (.slice lo (C.length + 1) lc)) HIL.out)
     have cz : w7.drew.cell? ⟨w.heap.size, 0, none⟩ = some (.slice bo' L.length cap) := HP7.out.tri.cell
     have HRZ := Lib.hid (show w7.drew.rangeAt n2 0 (idC id) from range_row HP7.out.idb)
     have HE1 := Lib.hid (show w7.drew.heap[w.heap.size + 1]? = some (.cells #[.slice none 0 0] 28) from HP7.out.tri.b1)
     have HE2 := Lib.hid (show (w7.drew.setRow (w.heap.size + 1) #[(.slice lo (C.length + 1) lc)]).heap[w.heap.size + 1 + 1]? = some (.cells (idC zId).toArray 46) by rw [setRow_other _ _ _ _ (by omega)]; exact HP7.out.tri.b2)
     have u24 := Tryz.underlying46
     have i24 := idsize HIL.out
     refine wp_region_noPanic ?_
     refine wp_region_held_drew (S := (fun w' => Rd2 w.heap.size n2 (.slice bo' L.length cap) id w')) (by kernel_rfl) ⟨cz, HRZ.out⟩ (fun hH => ?_)
     refine tk (i := 0) (v := ?_) ?_ ?_
     rotate_left
     · intro w' hSw; go_simp; try rfl
     try simp only [q0]
     refine wpAnyH_take (i := 1) rfl (by kernel_rfl) (by kernel_rfl) (by kernel_rfl) (fun _ _ _ h => h) (yields_bd_st (by rfl) (.tmp 75) rfl rfl) (by assumption) ?_
     try simp only [q0]
     refine wpAnyH_take (i := 2) rfl (by kernel_rfl) (by kernel_rfl) (by kernel_rfl) (fun _ _ _ h => h) (yieldsIf_load_mid (by rfl) _ _ rfl _ _ rfl _ _ (fun w h => h.r) u24 rfl i24) (by assumption) ?_
     try simp only [q0]
     refine wpAnyH_ready (rs := [3]) (by kernel_rfl) (by simp) ?_
     refine AllReadyH.cons rfl (fun K hK => ?_) AllReadyH.nil
     rw [if_pos (by rfl)]
     refine wp_store_row 28 (.tmp 4) (.tmp 76) rfl (w.heap.size + 1) #[(.slice lo (C.length + 1) lc)] rfl rfl 28 _ HE1.out sizeSt rfl (by simp [Value.oneCell']) ?_
     refine hK.out _ _ (hH.setRow (by omega) (by omega) _) (fun hH2 => ?_)
     clear hK K
     try simp only [q0]
     refine wpAnyH_ready (rs := [4]) (by kernel_rfl) (by simp) ?_
     refine AllReadyH.cons rfl (fun K hK => ?_) AllReadyH.nil
     rw [if_pos (by rfl)]
     refine wp_store_row 46 (.tmp 5) (.tmp 77) rfl (w.heap.size + 1 + 1) (idC id).toArray rfl rfl 46 _ HE2.out (by rw [List.size_toArray]; exact i24) (by simp [idC_length, HIL.out]; rfl) (all_oneCell_toArray (idC_one id)) ?_
     refine hK.out _ _ (hH2.setRow (by omega) (by omega) _) (fun hH3 => ?_)
     clear hK K
     try simp only [q0]
     refine tk (i := 5) (v := ?_) ?_ ?_
     rotate_left
     · intro w' hSw; go_simp; try rfl
     try simp only [q0]
     refine wpAnyH_done (by kernel_rfl) ?_ _
     refine NoPanic.normal ?_
     go_wp2_with fail
     obtain ⟨r1, r2, r3⟩ := HST1.out
     exact bodyPost_ret (results_three (fn := Tryz.f67) (p := 4) (q := 5) (r := 6) (by rfl) _ _ (w.heap.size + 1) (w.heap.size + 1 + 1) _ _ _ _ _ _ _ _ (by rfl) r1 underSt rfl sizeSt (by rfl) r2 Tryz.underlying46 rfl (by rw [List.size_toArray]; exact idsize HIL.out)) rfl ⟨_, rfl, HFIN.out, r3⟩
theorem with_any (B kk : Nat) (w : World) (v : Value) (L : List St.It) (s : ByteArray) (h : DSt B kk w v L) (hs : s.size ≤ 5000) (hB : B ≤ w.heap.size) (hkk : kk ≤ w.heap.size) (hl : L.length ≤ 61) :
  Calls Tryz.prog 67 #[.agg #[v], .string s] w fun r w' => (Rm.dec s.data.toList = none ∧ r = .returned (.tuple #[.agg #[v], .agg (idC zId).toArray, .bool false]) ∧ Below w.heap.size w w') ∨ (Rm.dec s.data.toList ≠ none ∧ ∃ v', r = .returned (.tuple #[.agg #[v'], .agg (idC (shaI s)).toArray, .bool true]) ∧ DSt B kk w' v' (St.put L ⟨shaI s, s⟩) ∧ Below w.heap.size w w') := by
 cases hd : Rm.dec s.data.toList with
 | none => exact (with_bad w v L s h.old hs hd).mono fun r w' hh => .inl ⟨rfl, hh⟩
 | some o =>
   cases hh : St.has L (shaI s) with
   | true => exact (with_has B kk w v L s o h hs hd hh).mono fun r w' hh => .inr ⟨by simp, hh⟩
   | false => exact (with_new B kk w v L s o h hs hd hh hB hkk hl).mono fun r w' hh => .inr ⟨by simp, hh⟩
end R
end Go.Proofs.YtkcjhkfelaplkaaGreatDoor
