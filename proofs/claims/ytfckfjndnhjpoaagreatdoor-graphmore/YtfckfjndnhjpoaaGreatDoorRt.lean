/-
  WALKS OF LAYER 12: the program's Walk, whose answer lies in a row of its own.
-/
import Derived.Test.YtfckfjndnhjpoaaGreatDoorRi
import Derived.Test.YtfckfjndnhjpoaaGreatDoorQv
import Derived.Test.YtfckfjndnhjpoaaGreatDoorQa
set_option linter.unusedVariables false
set_option linter.unusedSimpArgs false
set_option maxHeartbeats 8000000
set_option maxRecDepth 100000
namespace Go.Proofs.YtfckfjndnhjpoaaGreatDoor
open Go.RowKit
theorem walk_own (w : World) (base sb : Nat) (sv fv cv : Value) (L : List St.It) (F C : List (List UInt8)) (hP : PSt w base sb sv L) (hd : Gr.Dec L) (hF : IdsAt w fv F) (hFl : ∀ i ∈ F, i.length = 32) (hFn : F.length ≤ 2000) (hC : IdsAt w cv C) (hCl : ∀ i ∈ C, i.length = 32) (hCn : C.length ≤ 2000) :
  Calls Tryz.prog 18 #[.pointer (some ⟨sb, 0, none⟩), fv, cv] w fun r w' => ∃ rv R, r = .returned rv ∧ OwnI w' w.heap.size rv R ∧ R.length ≤ 63 ∧ Wk (Gr.ah L) (Gr.pr L C) (Wk.nw (Gr.cm L) [] (Gr.eds L F)) [] R ∧ Below w.heap.size w w' := by
 have hL62 := hP.few
 have HSO := Lib.hid (setOf_any w cv C hC hCl (by omega))
 have HPP := Lib.hid hP
 have HDD := Lib.hid hd
 have HFF := Lib.hid hF
 have HFL := Lib.hid hFl
 have hn0 : (Wk.nw (Gr.cm L) [] (Gr.eds L F)).Nodup := by have := Wk.nw_nodup (Gr.cm L) (Gr.eds L F) [] List.nodup_nil; simpa using this
 have hc0 := Wk.nw_cm (Gr.cm L) (Gr.eds L F) []
 generalize hS0 : Wk.nw (Gr.cm L) [] (Gr.eds L F) = S0 at hn0 hc0 ⊢
 have HN0 := Lib.hid hn0
 have HC0 := Lib.hid hc0
 have HS00 := Lib.hid hS0
 clear hP hd hF hFl hC hCl hn0 hc0 hS0
 have hmm := @run_makeMap Tryz.prog
 have hE1 : ∀ args w, (callFunc 52 args).run Tryz.prog w = .ok (.enter 52 args) w := enters_of Tryz.func52 (by kernel_rfl) rfl
 have hE2 : ∀ args w, (callFunc 54 args).run Tryz.prog w = .ok (.enter 54 args) w := enters_of Tryz.func54 (by kernel_rfl) rfl
 have HE1 := Lib.hid hE1
 have HE2 := Lib.hid hE2
 clear hE1 hE2
 go_enter Tryz.func18, Tryz.ntmps18
 go_wp2_with fail
 with_reducible refine HSO.out.mono ?_
 rintro r w1 ⟨cb, cn, SC, rfl, hM1, hSC, hcb, hcn, hb1⟩
 have HSC := Lib.hid hSC
 have HM1 := Lib.hid hM1
 have HB1 := Lib.hid hb1
 have hcbl := hM1.lt
 have hs1 := hb1.size
 clear hM1 hSC hb1 HSO
 go_wp2_with fail
 clear hmm
 have hz : (w1.alloc (Obj.map #[] 0)).heap.size = w1.heap.size + 1 := by simp
 have HX0 := Lib.hid (show ((w1.alloc (Obj.map #[] 0)).alloc (.cells #[.pointer (some ⟨sb, 0, none⟩), .slice none 0 0, .map (some w1.heap.size)] 105)).heap[w1.heap.size + 1]? = some (.cells #[.pointer (some ⟨sb, 0, none⟩), .slice none 0 0, .map (some w1.heap.size)] 105) from by
  have := heap_alloc_last (w1.alloc (Obj.map #[] 0)) (.cells #[.pointer (some ⟨sb, 0, none⟩), .slice none 0 0, .map (some w1.heap.size)] 105)
  rwa [hz] at this)
 have HI0 := Lib.hid ((Ids.made w1).alloc (.cells #[.pointer (some ⟨sb, 0, none⟩), .slice none 0 0, .map (some w1.heap.size)] 105))
 have HBB := Lib.hid (((Below.refl w1.heap.size w1).alloc (Nat.le_refl _) (Obj.map #[] 0)).alloc (by simp) (.cells #[.pointer (some ⟨sb, 0, none⟩), .slice none 0 0, .map (some w1.heap.size)] 105))
 have hz0 : ((w1.alloc (Obj.map #[] 0)).alloc (.cells #[.pointer (some ⟨sb, 0, none⟩), .slice none 0 0, .map (some w1.heap.size)] 105)).heap.size = w1.heap.size + 2 := by simp
 generalize (w1.alloc (Obj.map #[] 0)).alloc (.cells #[.pointer (some ⟨sb, 0, none⟩), .slice none 0 0, .map (some w1.heap.size)] 105) = W0 at *
 have HW0 := Lib.hid (show Wr w W0 (w1.heap.size + 2) (w1.heap.size + 1) w1.heap.size 0 (.pointer (some ⟨sb, 0, none⟩)) (.slice none 0 0) L [] [] from
  ⟨⟨HX0.out, OwnC.nil _ _, by omega⟩, fun k h0 h1 => by simp at h1, HI0.out, (fun c hc => by cases hc), HB1.out.trans (HBB.out.mono hs1), by omega, by omega, by omega, hs1, by omega⟩)
 have HEA := Lib.hid (each_wk 52 (fun x => Gr.eds L [x]) (fun x => by simp only [Gr.eds]; split <;> simp) w W0 (w1.heap.size + 2) (w1.heap.size + 1) w1.heap.size 0 (.pointer (some ⟨sb, 0, none⟩)) (.slice none 0 0) fv L [] [] F (fun W _ => IdsAt W fv F) HE1.out
  (fun W n v C S x hW hx hn hC => addEnd_wk w W _ _ _ n base sb sv v L C S x hW HPP.out HDD.out hx hn hC) HFL.out (by omega) (by omega) List.nodup_nil (fun x hx => by cases hx) (by simp) (by omega) (fun W v h => h) (fun W W' v v' n C S _ hW _ _ => RowsAt.below HFF.out hW.bel) HW0.out (RowsAt.below HFF.out HW0.out.bel))
 rw [Gr.eds_flat] at HEA
 have HS0 := Lib.hid (show WS w w1 W0 (w1.heap.size + 2) (w1.heap.size + 1) w1.heap.size 0 (.pointer (some ⟨sb, 0, none⟩)) (.slice none 0 0) (.slice none 0 0) L [] [] [] from
  ⟨HW0.out, OwnI.nil _ _, fun g hg => by simp [Value.ownBlock] at hg, (fun c hc => by cases hc), HBB.out, Nat.le_refl _, by omega⟩)
 clear HW0 HX0 HI0 HE1 hz
 go_wp2_with fail
 with_reducible refine HEA.out.mono ?_
 rintro r w2 ⟨rfl, hA⟩
 obtain ⟨v2, C2, n2, hS2, hn2, hp2⟩ := HS0.out.add hA
 simp only [List.nil_append, List.map_nil] at hS2 hn2 hp2
 rw [HS00.out] at hS2 hp2
 have hed : (Gr.eds L F).length ≤ F.length := by
  rw [← Gr.eds_flat]
  generalize F = A
  induction A with
  | nil => simp
  | cons x r ih => rw [List.flatMap_cons, List.length_append, List.length_cons]; have : (Gr.eds L [x]).length ≤ 1 := by (simp only [Gr.eds]; split <;> simp)
                   omega
 have HS2 := Lib.hid hS2
 have HP2 := Lib.hid hp2
 clear hA hS2 hp2 HEA HS0 HBB hz0
 go_wp2_with fail
 go_loopw [7] (fun lv wr => ∃ (v : Value) (D : List Cd) (n : Nat) (O S : List (List UInt8)), Hid (WS w w1 wr (w1.heap.size + 2) (w1.heap.size + 1) w1.heap.size n (.pointer (some ⟨sb, 0, none⟩)) v lv L D S O) ∧ Hid (S.Perm (O ++ D.map Cd.id)) ∧ Hid S.Nodup ∧ Hid (∀ x ∈ S, Gr.cm L x = true) ∧ n ≤ F.length + 8 * O.length ∧ O.length ≤ 63 ∧ Hid (∀ R, Wk (Gr.ah L) (Gr.pr L C) S O R → Wk (Gr.ah L) (Gr.pr L C) S0 [] R)) (fun lv _ => 100 - lenV lv)
 case atStart => exact ⟨v2, C2, n2, [], S0, HS2, (show S0.Perm ([] ++ List.map Cd.id C2) from by simpa using HP2.out.symm), HN0, HC0, by simp; omega, by simp, fun R h => h⟩
 case round =>
  clear HS2 HP2 HN0 HC0
  obtain ⟨v, D, n, O, S, HW, HP, HN, HC, hnb, hOl, HK⟩ := hrel
  obtain ⟨vo, vc, rfl⟩ := HW.out.wr.wb.own.form
  obtain ⟨lo, lc, rfl⟩ := HW.out.lo.form
  have hcell := HW.out.wr.wb.cell
  rcases Nat.eq_zero_or_pos D.length with h0 | hpos
  ·
   have hD : D = [] := List.eq_nil_of_length_eq_zero h0
   subst hD
   have HE := Lib.hid (show Wk (Gr.ah L) (Gr.pr L C) S0 [] O from HK.out O (.done fun x hx => by have := HP.out.mem_iff.1 hx; simpa using this))
   have HR := Lib.hid (show OwnI wr w.heap.size (.slice lo O.length lc) O from ⟨own_le0 HW.out.lo.own (by omega), HW.out.lo.len⟩)
   have HB := Lib.hid HW.out.wr.bel
   clear HW HP HN HC HK h0
   go_wp2_with fail
   go_ret
   exact ⟨_, O, rfl, HR.out, hOl, HE.out, HB.out⟩
  ·
   obtain ⟨m, hm⟩ : ∃ m, D.length = m + 1 := ⟨D.length - 1, by omega⟩
   have hSl := Gr.cm_few (L := L) HN.out HC.out
   have hSe := HP.out.length_eq
   simp only [List.length_append, List.length_map] at hSe
   have hp1 : (0 : Int) < (D.length : Int) := by omega
   have HNX := Lib.hid (next_wk w wr _ _ _ n m _ _ L D S HW.out.wr hm (by omega))
   have HM := Lib.hid hm
   clear hm
   go_wp2_with fail
   with_reducible refine HNX.out.mono ?_
   rintro r w3 ⟨c, v3, D3, rfl, hc, hmin, hdp, hWr3, hPO, hFr, hNx⟩
   have HW3 := Lib.hid (HW.out.next hWr3 (fun x hx => hdp.mem_iff.2 (by simp [hx])) hFr hNx)
   have HPO := Lib.hid hPO
   have hpf := HW.out.pf c hc
   have HPF := Lib.hid hpf
   have HDP := Lib.hid hdp
   have HMN := Lib.hid hmin
   have HTM := Lib.hid (show ∀ x ∈ D, x.time = Gr.tm L x.id from fun x hx => (HW.out.wr.ok x hx).1)
   clear hWr3 hPO hpf hdp hmin hFr hNx HW HNX hcell
   have hK3 := HW3.out.wr.KW
   have hz3 : (w3.alloc (.cells (cdC c).toArray 109)).heap.size = w3.heap.size + 1 := by simp
   have HW4 := Lib.hid (HW3.out.below (below_new w3 (.cells (cdC c).toArray 109)))
   have HPO4 := Lib.hid (show POk (w3.alloc (.cells (cdC c).toArray 109)) _ v3 c.par (Gr.prs L c.id) from HPO.out.move (fun g _ hg _ => heap_alloc_old _ _ hg) (Nx.refl _ _))
   have HBX4 := Lib.hid (heap_alloc_last w3 (.cells (cdC c).toArray 109))
   have HID4 := Lib.hid (cd_id (row_news HBX4.out))
   have hK4 : w1.heap.size + 2 ≤ (w3.alloc (.cells (cdC c).toArray 109)).heap.size := HW4.out.wr.KW
   have hlo4 := HW4.out.lo
   have HO4 := Lib.hid hlo4
   have HCI := Lib.hid c.idl
   have HC1 := Lib.hid (show (cdC c).toArray.size = 34 by simpa using cdC_length c)
   have HC3 := Lib.hid (all_oneCell_toArray (cdC_one c))
   have HZ := Lib.hid (show zCd.toArray.size = 34 by decide)
   have hzc := (zero_of_info zeroCd).1
   generalize zCd.toArray = z at HZ hzc
   have HF5 := Lib.hid (show ∀ w5 : World, ((w3.alloc (.cells (cdC c).toArray 109)).alloc (.cells (idC c.id).toArray 42)).grownBy w5 (Value.slice lo O.length lc).ownBlock → w5.heap[w3.heap.size]? = some (.cells (cdC c).toArray 109) from fun w5 hg => (hg.block w3.heap.size (by simp; omega) (fun e => by have := (HW3.out.lo.own.lt _ e.symm).2; omega)).trans ((heap_alloc_old _ _ (by simp)).trans HBX4.out))
   clear hlo4 HPO
   go_wp2_with (first
    | ((with_reducible refine st_new (x := .tmp 10) (y := .tmp 23) 34 ?_ ?_ ?_ ?_ HZ.out infoCz HC1.out HC3.out ?_); rfl; rfl; rfl; rfl)
    | ((with_reducible refine ld_id (l := c.id) (x := .tmp 25) (p := ⟨w3.heap.size, 0, none⟩) ?_ ?_ ?_ HID4.out HCI.out ?_); rfl; rfl; rfl)
    | ((with_reducible refine bs_id2 (l := c.id) (x := .tmp 26) ?_ ?_ ?_ HCI.out ?_); rfl; rfl; rfl)
    | ((with_reducible refine ap_id_at (.tmp 24) (.tmp 27) ?_ ?_ ?_ ?_ HO4.out hK4 HCI.out (by omega) ?_); rfl; rfl; rfl; rfl; intro v5 w5 HO5 HG5 HV5; have HBX5 := Lib.hid (HF5.out w5 HG5.out); have HID5 := Lib.hid (cd_id (row_news HBX5.out)); clear HID4)
    | ((with_reducible refine ld_id (l := c.id) (x := .tmp 30) (p := ⟨w3.heap.size, 0, none⟩) ?_ ?_ ?_ HID5.out HCI.out ?_); rfl; rfl; rfl))
   obtain ⟨hW5, hPP5⟩ := HW4.out.told HO5.out HG5.out HV5.out
   obtain ⟨uo, uc, hfm⟩ := hW5.lo.form
   rw [show (O ++ [c.id]).length = O.length + 1 by simp] at hfm
   subst hfm
   have HW5 := Lib.hid hW5
   have HPO5 := Lib.hid (hPP5 HPO4.out HPF.out)
   have HCS := Lib.hid (show Ids w5 cb cn SC from HM1.out.at_ (HW5.out.b1.block cb hcbl))
   clear hW5 hPP5 HO5 HG5 HV5 HW4 HPO4 HF5 HID5 HBX4 HC1 HC3 HZ hzc HW3 HO4
   have HHA := Lib.hid (has_any w5 cb cn SC c.id HCS.out HCI.out)
   have hcut : (c.id ∈ SC) ↔ c.id ∈ C := HSC.out c.id
   have HT := Lib.hid (fun (P : List (List UInt8)) (hPP : P = if c.id ∈ C then [] else Gr.prs L c.id) (R : List (List UInt8)) (hR : Wk (Gr.ah L) (Gr.pr L C) (S ++ Wk.nw (Gr.cm L) S P) (O ++ [c.id]) R) => HK.out R (Wk.take1 HP.out HN.out HTM.out HDP.out HMN.out hPP hR))
   have HQ := Lib.hid (show S.Perm (O ++ [c.id] ++ D3.map Cd.id) from by
    have h1 := HDP.out.map Cd.id
    rw [List.map_cons] at h1
    have h2 := HP.out.trans (h1.append_left O)
    simpa using h2)
   have HOL := Lib.hid (show (O ++ [c.id]).length ≤ 63 from by
    have h1 := HQ.out.length_eq
    simp only [List.length_append] at h1 ⊢
    omega)
   have HUL := Lib.hid (show (O ++ [c.id]).length = O.length + 1 by simp)
   clear HK HP HDP HMN HTM HPF
   by_cases hin : c.id ∈ C
   ·
    have HTT := Lib.hid (HT.out [] (by rw [if_pos hin]))
    rw [decide_eq_true (hcut.2 hin)] at HHA
    clear HT hin hcut
    with_reducible refine HHA.out.mono ?_
    rintro r w6 ⟨rfl, hb6⟩
    have HW6 := Lib.hid (HW5.out.below hb6)
    clear hb6 HHA HW5
    go_wp2_with fail
    go_roundw
    case rel => exact ⟨_, D3, n, O ++ [c.id], S, HW6, HQ, HN, HC, by rw [HUL.out]; omega, HOL.out, (fun R hR => HTT.out R (by simpa [Wk.nw] using hR))⟩
    case measure => simp [lenV]; omega
   ·
    have HTT := Lib.hid (HT.out (Gr.prs L c.id) (by rw [if_neg hin]))
    rw [decide_eq_false (fun k => hin (hcut.1 k))] at HHA
    clear HT hin hcut
    with_reducible refine HHA.out.mono ?_
    rintro r w6 ⟨rfl, hb6⟩
    have HW6 := Lib.hid (HW5.out.below hb6)
    have HPO6 := Lib.hid (show POk w6 _ v3 c.par (Gr.prs L c.id) from HPO5.out.move (fun g _ hg _ => hb6.block g hg) (Nx.refl _ _))
    have HBX6 := Lib.hid ((hb6.block w3.heap.size (Array.getElem?_eq_some_iff.1 HBX5.out).1).trans HBX5.out)
    have q33 : w6.cell? ⟨w3.heap.size, 33, none⟩ = some c.par := by
     rw [cell_of_row _ _ 33 _ _ _ HBX6.out]
     simp only [cdC, List.getElem?_toArray]
     rw [List.getElem?_append_right (by rw [idC_length, c.idl]; omega), idC_length, c.idl]; rfl
    have hpl := Gr.prs_few L c.id
    have hDl3 : D3.length ≤ 100 := by
     have h1 := HQ.out.length_eq
     simp only [List.length_append, List.length_map] at h1
     omega
    have HEA := Lib.hid (each_wk 54 (fun x => [x]) (fun x => by simp) w w6 (w1.heap.size + 2) (w1.heap.size + 1) w1.heap.size n (.pointer (some ⟨sb, 0, none⟩)) v3 c.par L D3 S (Gr.prs L c.id) (fun W v => POk W (w1.heap.size + 2) v c.par (Gr.prs L c.id)) HE2.out
     (fun W n v C S x hW hx hn hC => add_wk w W _ _ _ n base sb sv v L C S x hW HPP.out HDD.out hx hn hC) HPO6.out.len (by omega) (by omega) HN.out HC.out hDl3 (by omega) (fun W v h => h.at_) (fun W W' v v' n C S h hW hf hn => h.move (fun g hk hg hv => hf.block g hg (by omega) (by omega) hv) hn) HW6.out.wr HPO6.out)
    rw [flat_one_id] at HEA
    clear hb6 HHA HW5 HPO5 HBX5 HBX6 HPO6 hDl3
    generalize c.par = cp at *
    go_wp2_with fail
    with_reducible refine HEA.out.mono ?_
    rintro r w7 ⟨rfl, hA⟩
    obtain ⟨v7, D7, n7, hW7, hn7, hp7⟩ := HW6.out.add hA
    have HW7 := Lib.hid hW7
    have HQ7 := Lib.hid (show (S ++ Wk.nw (Gr.cm L) S (Gr.prs L c.id)).Perm (O ++ [c.id] ++ D7.map Cd.id) from by
     have h1 := HQ.out.append_right (Wk.nw (Gr.cm L) S (Gr.prs L c.id))
     refine h1.trans ?_
     rw [List.append_assoc]
     exact (hp7.symm).append_left _)
    have HN7 := Lib.hid (Wk.nw_nodup (Gr.cm L) (Gr.prs L c.id) S HN.out)
    have HC7 := Lib.hid (show ∀ x ∈ S ++ Wk.nw (Gr.cm L) S (Gr.prs L c.id), Gr.cm L x = true from fun x hx => by
     rcases List.mem_append.1 hx with e | e
     · exact HC.out x e
     · exact Wk.nw_cm _ _ _ x e)
    have hn8 : n7 ≤ n + 8 := by omega
    clear hA hW7 hn7 hp7 HEA HW6
    go_wp2_with fail
    go_roundw
    case rel => exact ⟨_, D7, n7, O ++ [c.id], _, HW7, HQ7, HN7, HC7, by rw [HUL.out]; omega, HOL.out, HTT.out⟩
    case measure => simp [lenV]; omega
end Go.Proofs.YtfckfjndnhjpoaaGreatDoor
