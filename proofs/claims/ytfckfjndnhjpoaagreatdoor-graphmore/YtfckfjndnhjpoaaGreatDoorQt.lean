/-
  WALKS OF LAYER 12: Less once more (layer 2's walk), with that it only draws on.
-/
import Derived.Test.YtfckfjndnhjpoaaGreatDoorQi
import Derived.Test.YtfckfjndnhjpoaaGreatDoorQk
import Derived.Test.YtfckfjndnhjpoaaGreatDoorQq
import Derived.Test.YtfckfjndnhjpoaaGreatDoorQh
import Derived.Shelf.SlSortCmp.WholeK
import Derived.Shelf.SlSortCmp.NoneTotal
import Derived.Test.YtfckfjndnhjpoaaGreatDoorQs
import Derived.Test.YtfckfjndnhjpoaaGreatDoorQd
import Derived.Test.YtfckfjndnhjpoaaGreatDoorQa
set_option linter.unusedVariables false
set_option linter.unusedSimpArgs false
set_option maxHeartbeats 8000000
set_option maxRecDepth 100000
section
namespace Go.Proofs.YtfckfjndnhjpoaaGreatDoor
open Go.RowKit
namespace S2
theorem lessD_any (a b : List UInt8) (w : World) (ha : a.length = 32) (hb : b.length = 32) :
  Calls Tryz.prog 82 #[.agg (idA a), .agg (idA b)] w fun r w' => r = .returned (.bool (ltB a b)) ∧ Below w.heap.size w w' ∧ w.drawn ≤ w'.drawn := by
 have HA := Lib.hid ha
 have HB := Lib.hid hb
 have CA := Lib.hid (fun (i : Nat) (hi : i < 32) => idA_get a i (by omega))
 have CB := Lib.hid (fun (i : Nat) (hi : i < 32) => idA_get b i (by omega))
 clear ha hb
 generalize hia : idA a = ia at CA
 generalize hib : idA b = ib at CB
 clear hia hib
 generalize hR : ltB a b = R
 have HR := Lib.hid hR
 clear hR
 go_enter Tryz.func82, Tryz.ntmps82
 go_wp2
 go_loopw [6] (fun v wr => ∃ (k : Nat), k ≤ 32 ∧ v = .int .i64 k ∧ Hid (∀ j, j < k → a.getD j 0 = b.getD j 0) ∧ Hid (wr.heap[w.heap.size]? = some (.cells ia 42)) ∧ Hid (wr.heap[w.heap.size + 1]? = some (.cells ib 42)) ∧ Below w.heap.size w wr ∧ w.drawn ≤ wr.drawn) (fun v _ => 32 - (intOf v).toNat)
 case atStart => exact ⟨0, by omega, rfl, fun j hj => absurd hj (by omega), heap_alloc2_old _ _ _, heap_alloc2_new _ _ _, ((Below.refl _ _).alloc (Nat.le_refl _) _).alloc (by simp) _, Nat.le_refl _⟩
 case round =>
  obtain ⟨k, hk, rfl, HJ, E0, E1, hbr, hdr⟩ := hrel
  by_cases hlt : k < 32
  ·
   have c1 := (cell_of_row wr w.heap.size k _ _ _ E0.out).trans (CA.out k hlt)
   have c2 := (cell_of_row wr (w.heap.size + 1) k _ _ _ E1.out).trans (CB.out k hlt)
   have hlt' : (k : Int) < 32 := by omega
   by_cases he : a.getD k 0 = b.getD k 0
   ·
    have HJ2 : Hid (∀ j, j < k + 1 → a.getD j 0 = b.getD j 0) := fun j hj => by
     rcases Nat.lt_or_ge j k with h | h
     · exact HJ.out j h
     · rw [show j = k by omega]; exact he
    rw [he] at c1
    have hne : (((b.getD k 0).toNat : Int) != ((b.getD k 0).toNat : Int)) = false := by simp
    generalize b.getD k 0 = x at c1 c2 hne
    clear he HJ
    go_wp2
    refine region_still (by kernel_rfl) (by kernel_rfl) ?_
    repeat still_step
    refine wpStill_nil ?_
    go_wp2
    go_roundw
    case rel => exact ⟨k + 1, by omega, by go_num, HJ2, E0, E1, hbr.drew, Nat.le_succ_of_le hdr⟩
    case measure => simp [intOf]; omega
   ·
    have HS := Lib.hid (ltB_step k a b (by rw [HA.out, HB.out]) (by rw [HA.out]; exact hlt) HJ.out he)
    have hne : (((a.getD k 0).toNat : Int) != ((b.getD k 0).toNat : Int)) = true := by
     rw [bne_iff_ne]; intro h; exact he (UInt8.toNat_inj.1 (by omega))
    generalize a.getD k 0 = x at c1 HS hne
    generalize b.getD k 0 = y at c2 HS hne
    clear he HJ
    go_wp2
    refine region_still (by kernel_rfl) (by kernel_rfl) ?_
    repeat still_step
    refine wpStill_nil ?_
    go_wp2
    refine region_still (by kernel_rfl) (by kernel_rfl) ?_
    repeat still_step
    refine wpStill_nil ?_
    go_wp2
    go_ret
    exact ⟨by rw [← HR.out, HS.out]; rfl, hbr.drew.drew, Nat.le_succ_of_le (Nat.le_succ_of_le hdr)⟩
  ·
   have HS := Lib.hid (ltB_same a b (by rw [HA.out, HB.out]) (fun j hj => HJ.out j (by rw [HA.out] at hj; omega)))
   go_wp2
   go_ret
   exact ⟨by rw [← HR.out, HS.out]; rfl, hbr, hdr⟩
end S2
end Go.Proofs.YtfckfjndnhjpoaaGreatDoor
end
section
namespace Go.Proofs.YtfckfjndnhjpoaaGreatDoor
open Go.RowKit Go.Sort
abbrev Gr.I := { l : List UInt8 // l.length = 32 }
theorem zId_len : zId.length = 32 := by decide
instance : Inhabited Gr.I := ⟨⟨zId, zId_len⟩⟩
def Gr.enc (x : Gr.I) : List Value := idC x.1
def Gr.cfL (a b : List UInt8) : Int := if St.lt a b then -1 else if a = b then 0 else 1
def Gr.cf (x y : Gr.I) : Int := Gr.cfL x.1 y.1
theorem Gr.ltOf_cf (x y : Gr.I) : ltOf Gr.cf x y = St.lt x.1 y.1 := by
 unfold ltOf Gr.cf Gr.cfL
 cases St.lt x.1 y.1 with
 | true => simp
 | false => by_cases h : x.1 = y.1 <;> simp [h]
theorem Gr.swo : SWO (ltOf Gr.cf) where
 irrefl x := by rw [Gr.ltOf_cf]; exact St.lt_irrefl _
 trans x y z h1 h2 := by rw [Gr.ltOf_cf] at *; exact St.lt_trans h1 h2
 ntrans x y z h1 h2 := by
  rw [Gr.ltOf_cf] at *
  cases h : St.lt x.1 z.1 with
  | false => rfl
  | true =>
    rcases St.lt_tri (a := x.1) (b := y.1) (by rw [x.2, y.2]) with k | k | k
    · rw [k] at h1; cases h1
    · rw [k] at h; rw [h] at h2; cases h2
    · rw [St.lt_trans k h] at h2; cases h2
theorem grow_of {w w' : World} (hb : RowKit.Below w.heap.size w w') (hd : w.drawn ≤ w'.drawn) : ∃ q os', w' = grow (w.drewN q) os' := by
 refine ⟨w'.drawn - w.drawn, w'.heap.extract w.heap.size w'.heap.size, ?_⟩
 cases w with
 | mk heap tape drawn os output =>
   cases w' with
   | mk heap' tape' drawn' os' output' =>
     obtain ⟨h1, h2, h3, h4, h5⟩ := hb
     simp only at h1 h2 h3 h4 h5 hd
     subst h1 h2 h3
     simp only [grow, World.drewN, World.mk.injEq, and_true, true_and]
     refine ⟨?_, by omega⟩
     apply Array.ext_getElem?
     intro i
     rw [Array.getElem?_append]
     by_cases hi : i < heap.size
     · rw [if_pos hi]; exact h5 i hi
     ·
      rw [if_neg hi, Array.getElem?_extract]
      by_cases hi' : i < heap'.size
      · rw [if_pos (by omega)]; congr 1; omega
      · rw [if_neg (by omega), Array.getElem?_eq_none (by omega)]
theorem compare_l (a b : List UInt8) (ha : a.length = 32) (hb : b.length = 32) (w : World) :
  Calls Tryz.prog 47 #[.agg (idC a).toArray, .agg (idC b).toArray] w fun r w' => r = .returned (.int .i64 (Gr.cfL a b)) ∧ RowKit.Below w.heap.size w w' ∧ w.drawn ≤ w'.drawn := by
 have HL := Lib.hid (fun W => S2.lessD_any a b W ha hb)
 rw [idA_same _ ha, idA_same _ hb, lt_same] at HL
 generalize hR : Gr.cfL a b = R
 unfold Gr.cfL at hR
 have HR := Lib.hid hR
 clear hR
 have HA := Lib.hid ha
 have HB := Lib.hid hb
 have HX2 := Lib.hid (row_news (show ((w.alloc (.cells (idC a).toArray 42)).alloc (.cells (idC b).toArray 42)).heap[w.heap.size]? = some (.cells (idC a).toArray 42) from heap_alloc2_old _ _ _))
 have HY2 := Lib.hid (row_news (new2 w (.cells (idC a).toArray 42) (.cells (idC b).toArray 42)))
 have HB2 := Lib.hid (below2 w (.cells (idC a).toArray 42) (.cells (idC b).toArray 42))
 have HEQ := Lib.hid (fun W => eq_id a b ha hb W)
 have HD2 := Lib.hid (show w.drawn ≤ ((w.alloc (.cells (idC a).toArray 42)).alloc (.cells (idC b).toArray 42)).drawn from Nat.le_refl _)
 clear ha hb
 generalize hlt : St.lt a b = lt at *
 go_enter Tryz.func47, Tryz.ntmps47
 go_wp2_with (first
  | ((with_reducible refine ld_id (x := .tmp 2) (p := ⟨w.heap.size, 0, none⟩) ?_ ?_ ?_ HX2.out HA.out ?_); rfl; rfl; rfl)
  | ((with_reducible refine ld_id (x := .tmp 3) (p := ⟨w.heap.size + 1, 0, none⟩) ?_ ?_ ?_ HY2.out HB.out ?_); rfl; rfl; rfl))
 refine (HL.out _).mono ?_
 rintro r w2 ⟨rfl, hb2, hd2⟩
 have HB3 := Lib.hid (HB2.out.trans (hb2.mono HB2.out.size))
 have HD3 := Lib.hid (Nat.le_trans HD2.out hd2)
 have HX3 := Lib.hid (show ∀ j u, (idC a)[j]? = some u → w2.cell? ((⟨w.heap.size, 0, none⟩ : Addr).add j) = some u from fun j u hu => by
  have h1 := HX2.out j u hu
  rw [hb2.cell (World.block_lt_of_cell? _ _ h1)]; exact h1)
 have HY3 := Lib.hid (show ∀ j u, (idC b)[j]? = some u → w2.cell? ((⟨w.heap.size + 1, 0, none⟩ : Addr).add j) = some u from fun j u hu => by
  have h1 := HY2.out j u hu
  rw [hb2.cell (World.block_lt_of_cell? _ _ h1)]; exact h1)
 clear hb2 hd2 HX2 HY2
 cases lt with
 | true =>
   have hr : R = -1 := by have := HR.out; rw [if_pos rfl] at this; exact this.symm
   subst hr
   clear HR
   go_wp2_with fail
   go_ret
   exact ⟨rfl, HB3.out, HD3.out⟩
 | false =>
   by_cases hab : a = b
   ·
    have HEQ2 := Lib.hid (fun W => by have := HEQ.out W; rw [decide_eq_true hab] at this; exact this)
    have heq := HEQ2.out w2
    have hr : R = 0 := by have := HR.out; rw [if_neg (by simp), if_pos hab] at this; exact this.symm
    subst hr
    clear hab HEQ HEQ2 HR
    go_wp2_with (first
     | ((with_reducible refine ld_id (l := a) (x := .tmp 2) (p := ⟨w.heap.size, 0, none⟩) ?_ ?_ ?_ HX3.out HA.out ?_); rfl; rfl; rfl)
     | ((with_reducible refine ld_id (l := b) (x := .tmp 3) (p := ⟨w.heap.size + 1, 0, none⟩) ?_ ?_ ?_ HY3.out HB.out ?_); rfl; rfl; rfl))
    go_ret
    exact ⟨rfl, HB3.out, HD3.out⟩
   ·
    have HEQ2 := Lib.hid (fun W => by have := HEQ.out W; rw [decide_eq_false hab] at this; exact this)
    have heq := HEQ2.out w2
    have hr : R = 1 := by have := HR.out; rw [if_neg (by simp), if_neg hab] at this; exact this.symm
    subst hr
    clear hab HEQ HEQ2 HR
    go_wp2_with (first
     | ((with_reducible refine ld_id (l := a) (x := .tmp 2) (p := ⟨w.heap.size, 0, none⟩) ?_ ?_ ?_ HX3.out HA.out ?_); rfl; rfl; rfl)
     | ((with_reducible refine ld_id (l := b) (x := .tmp 3) (p := ⟨w.heap.size + 1, 0, none⟩) ?_ ?_ ?_ HY3.out HB.out ?_); rfl; rfl; rfl))
    go_ret
    exact ⟨rfl, HB3.out, HD3.out⟩
end Go.Proofs.YtfckfjndnhjpoaaGreatDoor
end
section
namespace Go.Proofs.YtfckfjndnhjpoaaGreatDoor
open Go.RowKit Go.Sort
theorem Gr.eg : ∀ args w, (callFunc 47 args).run Tryz.prog w = .ok (.enter 47 args) w := enters_of Tryz.func47 (by kernel_rfl) rfl
theorem Gr.enc_len (x : Gr.I) : (Gr.enc x).length = 32 := by unfold Gr.enc; rw [idC_length]; exact x.2
theorem Gr.enc_one (x : Gr.I) : ∀ v ∈ Gr.enc x, v.oneCell' = true := idC_one x.1
theorem Gr.cmp (blk off size : Nat) (w : World) : CmpLays Tryz.prog 47 #[] Gr.enc 32 Gr.cf blk off size w := fun m os dk hs x y => by
 have h := compare_l x.1 y.1 x.2 y.2 (sortWorldK Gr.enc 32 w blk off m dk os)
 simp only [Array.append_empty]
 exact h.mono fun e w' ⟨h1, h2, h3⟩ => ⟨h1, grow_of h2 h3⟩
def Gr.subs (I : List (List UInt8)) (h : ∀ i ∈ I, i.length = 32) : List Gr.I := I.attach.map fun x => ⟨x.1, h x.1 x.2⟩
theorem Gr.subs_map (I : List (List UInt8)) (h : ∀ i ∈ I, i.length = 32) : (Gr.subs I h).map (·.1) = I := by
 unfold Gr.subs
 rw [List.map_map]
 exact List.attach_map_subtype_val I
theorem Gr.subs_len (I : List (List UInt8)) (h : ∀ i ∈ I, i.length = 32) : (Gr.subs I h).length = I.length := by unfold Gr.subs; simp
theorem Gr.subs_get (I : List (List UInt8)) (h : ∀ i ∈ I, i.length = 32) (j : Nat) (hj : j < I.length) : ((Gr.subs I h).toArray[j]!).1 = I[j] := by
 have h1 := Gr.subs_map I h
 have hl := Gr.subs_len I h
 rw [getElem!_pos _ j (by simpa [hl] using hj)]
 have h2 : ((Gr.subs I h).map (·.1))[j]? = I[j]? := by rw [h1]
 rw [List.getElem?_map, List.getElem?_eq_getElem (by omega), List.getElem?_eq_getElem hj] at h2
 simpa using h2
theorem ids_at_holds {w : World} {g cap : Nat} {d : Array Gr.I} (h : HoldsK Gr.enc 32 w g 0 d) : IdsAt w (.slice (some ⟨g, 0, none⟩) d.size cap) (d.toList.map (·.1)) := by
 refine ⟨.inr ⟨⟨g, 0, none⟩, cap, by simp, fun i cs hi => ?_⟩⟩
 rw [List.getElem?_map, List.getElem?_map] at hi
 cases hq : d.toList[i]? with
 | none => rw [hq] at hi; simp at hi
 | some x =>
   rw [hq] at hi
   simp only [Option.map_some, Option.some.injEq] at hi
   subst hi
   have hlt : i < d.size := by have := (List.getElem?_eq_some_iff.1 hq).1; simpa using this
   have hx : d[i]! = x := by
    rw [getElem!_pos d i hlt]
    have := (List.getElem?_eq_some_iff.1 hq).2
    simpa using this
   refine ⟨by rw [idC_length]; exact x.2, fun j u hu => ?_⟩
   have hj : j < 32 := by
    have := (List.getElem?_eq_some_iff.1 hu).1
    rw [idC_length, x.2] at this; exact this
   have := (h.cell hlt hj).1
   rw [hx] at this
   rw [Addr.add_mid, Addr.add_mid, Nat.zero_add]
   rw [Nat.zero_add] at this
   rw [this]
   have hu' : (Gr.enc x)[j]? = some u := hu
   rw [List.getElem!_eq_getElem?_getD, hu']; rfl
theorem holds_of_own {w : World} {base g cap : Nat} {I : List (List UInt8)} (h : OwnI w base (.slice (some ⟨g, 0, none⟩) I.length cap) I) : HoldsK Gr.enc 32 w g 0 (Gr.subs I h.len).toArray := by
 intro j hj
 have hl := Gr.subs_len I h.len
 rw [size_flatK] at hj
 have hj' : j < I.length * 32 := by simpa [hl] using hj
 have hfl : ((I.map idC).flatten).length = I.length * 32 := by rw [flatK_len _ (ids_len h.len)]; simp
 have hq : j / 32 < I.length := by omega
 have hc := h.own.cellAt j (by omega)
 rw [Nat.zero_add]
 refine ⟨?_, h.own.frozenAt j⟩
 rw [hc, get_flatK _ _ _ j hj]
 have h1 := flatK_get (I.map idC) (ids_len h.len) (j / 32) (idC I[j / 32]) (by rw [List.getElem?_map, List.getElem?_eq_getElem hq]; rfl) (j % 32)
 have h2 : j % 32 < (idC I[j / 32]).length := by rw [idC_length, h.len _ (List.getElem_mem hq)]; omega
 have h3 := h1 _ (List.getElem?_eq_getElem h2)
 rw [show j / 32 * 32 + j % 32 = j by omega] at h3
 have h4 : Gr.enc (Gr.subs I h.len).toArray[j / 32]! = idC I[j / 32] := by unfold Gr.enc; rw [Gr.subs_get I h.len _ hq]
 rw [h3, h4]
 show some _ = some (id _)
 rw [List.getElem!_eq_getElem?_getD, List.getElem?_eq_getElem h2]; rfl
theorem sorted_grown {w : World} {g n : Nat} {d : Array Gr.I} {os : Array Obj} : w.grownBy (sortWorldK Gr.enc 32 w g 0 n d os) (some g) := by
 refine ⟨rfl, rfl, rfl, size_sortWorldK_c .., fun k hk hne => ?_⟩
 have hkg : k ≠ g := fun e => hne (by rw [e])
 unfold sortWorldK
 rw [heap_grow_old _ _ (by rw [size_putRowK]; exact hk)]
 unfold putRowK putRow mapBlock
 simp only [Array.getElem?_modify]
 rw [if_neg (fun e => hkg e.symm)]
 rfl
theorem sort_any (w : World) (base : Nat) (v : Value) (I : List (List UInt8)) (h : OwnI w base v I) (hn : I.length ≤ 100000) :
  Calls Tryz.prog 46 #[v, .func (.func 47) #[] #[]] w fun r w' => r = .returned (.tuple #[]) ∧ ∃ I', I'.Perm I ∧ (∀ (i j : Nat) (x y : List UInt8), i < j → I'[i]? = some x → I'[j]? = some y → St.lt y x = false) ∧ IdsAt w' v I' ∧ w.grownBy w' v.ownBlock := by
 rcases Nat.eq_zero_or_pos I.length with h0 | h0
 ·
  have hI : I = [] := List.eq_nil_of_length_eq_zero h0
  subst hI
  obtain ⟨ao, cap, rfl⟩ := h.rows.form
  have := AnyF.slices_SortFunc_none Tryz.sortId ao cap (.func (.func 47) #[] #[]) w
  refine Calls.mono this fun e w' ⟨h1, h2⟩ => ⟨h1, [], .refl _, fun i j x y _ hx => by simp at hx, ?_, ?_⟩
  · subst h2; exact h.rows
  · subst h2; exact World.grownBy.refl _ _
 ·
  obtain ⟨g, cap, rfl, hb, hlt⟩ := h.own.form h0
  have hH := holds_of_own h
  have hsz : (Gr.subs I h.len).toArray.size = I.length := by simp [Gr.subs_len]
  have hc := AnyQ.slices_SortFunc Tryz.sortId 32 Tryz.isAgg42 Tryz.sizeOf42 Gr.enc Gr.enc_len Gr.enc_one Gr.cf Gr.swo 47 #[] g 0 cap (Gr.subs I h.len).toArray w Gr.eg (Gr.cmp _ _ _ _) hH hlt (by omega)
  rw [hsz] at hc
  refine Calls.mono hc fun e w' ⟨h1, d', n, os, hp, hs, hw⟩ => ⟨h1, d'.toList.map (·.1), ?_, ?_, ?_, ?_⟩
  ·
   have h3 := hp.2.2
   have e1 : (d'.extract 0 I.length).toList = d'.toList := by
    have : d'.size = I.length := by rw [hp.1, hsz]
    rw [← this]; simp
   have e2 : ((Gr.subs I h.len).toArray.extract 0 I.length).toList = Gr.subs I h.len := by
    have h9 : (Gr.subs I h.len).length = I.length := Gr.subs_len _ _
    simp [h9, List.take_of_length_le]
   rw [e1, e2] at h3
   have := h3.map (·.1)
   rwa [Gr.subs_map] at this
  ·
   intro i j x y hij hx hy
   rw [List.getElem?_map] at hx hy
   have hjs : j < d'.size := by
    cases hq : d'.toList[j]? with
    | none => rw [hq] at hy; simp at hy
    | some z => have := (List.getElem?_eq_some_iff.1 hq).1; simpa using this
   have hjn : j < I.length := by rw [hp.1, hsz] at hjs; exact hjs
   have := hs i j (Nat.zero_le _) hij hjn
   rw [Gr.ltOf_cf, getElem!_pos d' j hjs, getElem!_pos d' i (by omega)] at this
   rw [List.getElem?_eq_getElem (by simpa using hjs)] at hy
   rw [List.getElem?_eq_getElem (by simp; omega)] at hx
   simp only [Option.map_some, Option.some.injEq, Array.getElem_toList] at hx hy
   rw [← hx, ← hy]; exact this
  ·
   have hsz' : d'.size = I.length := by rw [hp.1, hsz]
   have := holdsK_sortWorldK Gr.enc 32 w g 0 n _ d' os hlt hH hp.1
   rw [← hw] at this
   have := ids_at_holds (cap := cap) this
   rwa [hsz'] at this
  · rw [hw]; exact sorted_grown
end Go.Proofs.YtfckfjndnhjpoaaGreatDoor
end
section
namespace Go.Proofs.YtfckfjndnhjpoaaGreatDoor
open Go.RowKit
def Ap (a b : Value) : Prop := ∀ g, a.ownBlock = some g → b.ownBlock ≠ some g
theorem Ap.symm {a b : Value} (h : Ap a b) : Ap b a := fun g hg hc => h g hc hg
theorem Ap.nil (b : Value) : Ap (.slice none 0 0) b := fun g hg => by simp [Value.ownBlock] at hg
theorem Ap.next {a a' b : Value} {w : World} {B : Nat} {I : List (List UInt8)} (h : Ap a b) (hb : OwnI w B b I) (ha : a'.ownBlock = a.ownBlock ∨ a'.ownBlock = some (w.heap.size + 1)) : Ap a' b := fun g hg hc => by
 rcases ha with e | e
 · exact h g (by rw [← e]; exact hg) hc
 ·
  rw [e] at hg
  injection hg with e2
  have := (hb.own.lt g hc).2
  omega
theorem OwnI.other {wr w' : World} {B : Nat} {v : Value} {I : List (List UInt8)} {o : Obj} {row : Option Nat} (h : OwnI wr B v I) (hg : (wr.alloc o).grownBy w' row) (hne : ∀ g, v.ownBlock = some g → row ≠ some g) : OwnI w' B v I :=
 ⟨own_kept h.own (fun g hv => by
  have hlt := (h.own.lt g hv).2
  rw [hg.block g (by simp; omega) (fun e => hne g hv e.symm), heap_alloc_old _ _ hlt]), h.len⟩
theorem Ids.other {wr w' : World} {sb sn B : Nat} {S : List (List UInt8)} {v : Value} {I : List (List UInt8)} {o : Obj} (h : Ids wr sb sn S) (ho : OwnI wr B v I) (hs : sb < B) (hg : (wr.alloc o).grownBy w' v.ownBlock) : Ids w' sb sn S :=
 (h.alloc o).kept hg (fun e => by have := (ho.own.lt sb e.symm).1; omega)
theorem OwnI.cut {w : World} {B n cap : Nat} {ao : Option Addr} {I : List (List UInt8)} {x : List UInt8} (h : OwnI w B (.slice ao n cap) (I ++ [x])) : OwnI w B (.slice ao I.length cap) I ∧ (I.length : Int) + 1 ≤ cap := by
 have hl := h.own.1
 rcases h.own.2 with ⟨_, h0⟩ | ⟨g, c, cur, hv, hb, hh, h1, h2, h3, h4⟩
 · simp at h0
 ·
  simp only [Value.slice.injEq] at hv
  obtain ⟨rfl, hn, rfl⟩ := hv
  have hil : ∀ i ∈ I, i.length = 32 := fun i hi => h.len i (by simp [hi])
  have hfl : ((I.map idC).flatten).length = I.length * 32 := by rw [flatK_len _ (ids_len hil)]; simp
  simp only [List.length_append, List.length_singleton] at h1 h4
  refine ⟨⟨⟨by rw [hfl], .inr ⟨g, cap, cur, rfl, hb, hh, by omega, h2, h3, ?_⟩⟩, hil⟩, by omega⟩
  have h5 : (cur.toList.take ((I.length + 1) * 32)).take (I.length * 32) = (I.map idC).flatten := by
   rw [h4, List.map_append, List.flatten_append, List.take_append_of_le_length (by omega), List.take_of_length_le (by omega)]
  rw [List.take_take, Nat.min_eq_left (by omega)] at h5
  exact h5
theorem ids_flat_at {w : World} {a : Addr} {n cap : Nat} {I : List (List UInt8)} (h : IdsAt w (.slice (some a) n cap) I) (hl : ∀ i ∈ I, i.length = 32) : ∀ j u, (I.map idC).flatten[j]? = some u → w.cell? (a.add j) = some u := fun j u hu => by
 have hfl : ((I.map idC).flatten).length = I.length * 32 := by rw [flatK_len _ (ids_len hl)]; simp
 have hj : j < I.length * 32 := by have := (List.getElem?_eq_some_iff.1 hu).1; omega
 have hq : j / 32 < I.length := by omega
 have h0 : (I.map idC)[j / 32]? = some (idC I[j / 32]) := by rw [List.getElem?_map, List.getElem?_eq_getElem hq]; rfl
 have h2 : j % 32 < (idC I[j / 32]).length := by rw [idC_length, hl _ (List.getElem_mem hq)]; omega
 have h3 := flatK_get (I.map idC) (ids_len hl) (j / 32) _ h0 (j % 32) _ (List.getElem?_eq_getElem h2)
 rw [show j / 32 * 32 + j % 32 = j by omega, hu] at h3
 obtain ⟨a', e, _, hc⟩ := h.elem (j / 32) _ h0
 injection e with e
 subst e
 have := hc (j % 32) _ (List.getElem?_eq_getElem h2)
 rw [add_add, show j / 32 * 32 + j % 32 = j by omega] at this
 rw [this, ← h3]
theorem ids_flat_one (I : List (List UInt8)) : ∀ v ∈ (I.map idC).flatten, v.oneCell' = true := fun v hv => by
 obtain ⟨c, hc, hv⟩ := List.mem_flatten.1 hv
 obtain ⟨i, _, rfl⟩ := List.mem_map.1 hc
 exact idC_one i v hv
theorem eql_nilI (w : World) (a : Option Addr) (n c : Nat) : (binOp .eql 34 (.slice a n c) (.slice none 0 0)).run Tryz.prog w = .ok (.bool a.isNone) w := Lib.run_eql_slice_nil w _ _ a n c 0 0 Tryz.underlying34
theorem cloneI_any (v : Value) (I : List (List UInt8)) (w : World) (hI : IdsAt w v I) (hid : ∀ i ∈ I, i.length = 32) (hl : I.length ≤ 100000) :
  Calls Tryz.prog 41 #[v] w fun r w' => ∃ v', r = .returned v' ∧ OwnI w' w.heap.size v' I ∧ Below w.heap.size w w' := by
 have hlen : ((I.map idC).flatten).length = I.length * 32 := by rw [flatK_len _ (ids_len hid)]; simp
 obtain ⟨ao, cap, rfl⟩ := hI.form
 rw [List.length_map] at hI ⊢
 obtain ⟨i0, hi, hz0, hz1, hz2⟩ := info_parts infoIdz
 have HI := Lib.hid hI
 have HD := Lib.hid hid
 clear hI hid
 have hq := eql_nilI w
 cases ao with
 | none =>
   have HN := Lib.hid (show I = [] by
    rcases HI.out.out with ⟨_, h0⟩ | ⟨a, c, h0, _⟩
    · simpa using h0
    · simp at h0)
   clear hlen
   go_enter Tryz.func41, Tryz.ntmps41
   go_wp2_with fail
   go_ret
   exact ⟨_, rfl, by rw [HN.out]; exact OwnI.nil _ _, Below.refl _ _⟩
 | some a =>
   have HC := Lib.hid (ids_flat_at (RowsAt.below HI.out (below_new w (.cells #[] 42))) HD.out)
   have HLEN := Lib.hid hlen
   clear hlen
   go_enter Tryz.func41, Tryz.ntmps41
   go_wp2_with (at_builtin; refine wpList_append_own _ rfl _ _ 34 rfl w.heap.size 42 i0 _ 32 32 Tryz.underlying34 hi hz0 hz1 hz2 rfl (by decide) _ _ _ rfl (World.ownsRow_made w #[] 0 (Nat.le_refl _) (Nat.zero_le _) rfl) a I.length cap ((I.map idC).flatten) rfl ?qc1 ?qc2 ?qc3 ?qc4 ?qc5 ?qc6 ?_)
   case qc1 => exact HLEN.out
   case qc2 => exact HC.out
   case qc3 => exact ids_flat_one I
   case qc4 => unfold maxLen; omega
   case qc5 => omega
   case qc6 => simp
   intro v' w1 hown hgrow hnil
   have hb := ((Below.refl _ w).alloc (Nat.le_refl _) (.cells #[] 42)).grown hgrow (by simp) (by intro k hk; simp [Value.ownBlock] at hk; omega)
   have HO := Lib.hid (show OwnI w1 w.heap.size v' I from ⟨by simpa using hown, HD.out⟩)
   clear hown hgrow hnil
   go_wp2_with fail
   go_ret
   exact ⟨_, rfl, HO.out, hb⟩
theorem st_lk {ops : Array Oper} {rest : List Oper} {op : Oper} {a : Act} {w : World} {Q : Exit → Act → World → Prop} {x y : Operand} {l : List UInt8 × Int} {c : Array Value} (ho : op.op = .store 97 x y) (hx : a.eval x = .pointer (some ⟨w.heap.size, 0, none⟩)) (hy : a.eval y = .agg (lkC l).toArray) (hg : op.guard = none) (hc : c.size = 33) (hid : l.1.length = 32)
  (h : wpList Tryz.prog ops Q rest (a.put op.dst undef) (w.alloc (.cells (lkC l).toArray 97))) : wpList Tryz.prog ops Q (op :: rest) a (w.alloc (.cells c 97)) :=
 st_new 33 ho hx hy hg hc info52 (by simp [lkC_length, hid]) (all_oneCell_toArray (lkC_one l)) h
def Gr.ob (L : List St.It) (id : List UInt8) : Option Ob := if St.has L id then (L[St.pos L id]?).bind fun r => Rm.dec r.text.data.toList else none
theorem Gr.ob_at {L : List St.It} (hs : St.Srt L) {k : Nat} {r : St.It} (hr : L[k]? = some r) : Gr.ob L r.id = Rm.dec r.text.data.toList := by
 unfold Gr.ob
 rw [St.has_of hr rfl, if_pos rfl, St.pos_eq hs hr, hr]; rfl
theorem Gr.ob_none {L : List St.It} {id : List UInt8} (h : St.has L id = false) : Gr.ob L id = none := by unfold Gr.ob; rw [h]; rfl
def Gr.lk (o : Ob) : List (List UInt8) := (linksL o).map (·.1)
def Gr.cutO (o : Ob) : Ob := { o with pars := [] }
def Gr.nx (L : List St.It) (cut : List (List UInt8)) (id : List UInt8) : List (List UInt8) := match Gr.ob L id with
 | none => []
 | some o => Gr.lk (if id ∈ cut then Gr.cutO o else o)
def Gr.Dec (L : List St.It) : Prop := ∀ r ∈ L, ∃ o, Rm.dec r.text.data.toList = some o
theorem Gr.has_ob {L : List St.It} {id : List UInt8} (hd : Gr.Dec L) (hs : St.Srt L) (h : St.has L id = true) : ∃ (k : Nat) (r : St.It) (o : Ob), L[k]? = some r ∧ r.id = id ∧ Rm.dec r.text.data.toList = some o ∧ Gr.ob L id = some o := by
 obtain ⟨r, hr, he⟩ := St.has_at hs h
 obtain ⟨o, ho⟩ := hd r (List.mem_of_getElem? hr)
 exact ⟨_, r, o, hr, he, ho, by rw [← he, Gr.ob_at hs hr, ho]⟩
theorem Gr.links_ids {o : Ob} (h : Rm.Ids o) : ∀ l ∈ linksL o, l.1.length = 32 := fun l hl => by
 unfold linksL at hl
 split at hl
 · obtain ⟨e, he, rfl⟩ := List.mem_map.1 hl; exact h.e e he
 ·
  split at hl
  ·
   rcases List.mem_cons.1 hl with rfl | hl
   · exact h.tr
   · obtain ⟨p, hp, rfl⟩ := List.mem_map.1 hl; exact h.p p hp
  ·
   split at hl
   · rw [List.mem_singleton.1 hl]; exact h.ta
   · cases hl
end Go.Proofs.YtfckfjndnhjpoaaGreatDoor
end
section
namespace Go.Proofs.YtfckfjndnhjpoaaGreatDoor
open Go.RowKit
theorem OwnI.form {w : World} {B : Nat} {v : Value} {I : List (List UInt8)} (h : OwnI w B v I) : ∃ ao cap, v = .slice ao I.length cap := by simpa using h.rows.form
structure Rs (w wr : World) (B sb sn cb cn : Nat) (tv mv wv : Value) (T M W S SC : List (List UInt8)) : Prop where
 t : OwnI wr B tv T
 m : OwnI wr B mv M
 q : OwnI wr B wv W
 s : Ids wr sb sn S
 c : Ids wr cb cn SC
 tm : Ap tv mv
 tq : Ap tv wv
 mq : Ap mv wv
 sB : sb < B
 cB : cb < sb
 bel : Below w.heap.size w wr
 wB : w.heap.size ≤ cb
 BB : B ≤ wr.heap.size
theorem Rs.below {w wr w' : World} {B sb sn cb cn : Nat} {tv mv wv : Value} {T M W S SC : List (List UInt8)} (h : Rs w wr B sb sn cb cn tv mv wv T M W S SC) (hb : Below wr.heap.size wr w') : Rs w w' B sb sn cb cn tv mv wv T M W S SC :=
 ⟨h.t.below hb, h.m.below hb, h.q.below hb, h.s.below hb, h.c.below hb, h.tm, h.tq, h.mq, h.sB, h.cB, h.bel.trans (hb.mono h.bel.size), h.wB, Nat.le_trans h.BB hb.size⟩
theorem Rs.cut {w wr : World} {B sb sn cb cn n cap : Nat} {tv mv : Value} {ao : Option Addr} {T M W S SC : List (List UInt8)} {x : List UInt8} (h : Rs w wr B sb sn cb cn tv mv (.slice ao n cap) T M (W ++ [x]) S SC) : Rs w wr B sb sn cb cn tv mv (.slice ao W.length cap) T M W S SC :=
 ⟨h.t, h.m, h.q.cut.1, h.s, h.c, h.tm, (fun g hg hc => h.tq g hg (by rw [own_cap ao n cap W.length cap]; exact hc)), (fun g hg hc => h.mq g hg (by rw [own_cap ao n cap W.length cap]; exact hc)), h.sB, h.cB, h.bel, h.wB, h.BB⟩
theorem own_far {w w' : World} {B sb : Nat} {v : Value} {I : List (List UInt8)} (h : OwnI w B v I) (hg : w.grownBy w' (some sb)) (hs : sb < B) : OwnI w' B v I :=
 ⟨own_kept h.own (fun g hv => by
  obtain ⟨h1, h2⟩ := h.own.lt g hv
  exact hg.block g h2 (by simp; omega)), h.len⟩
theorem Rs.added {w wr w' : World} {B sb sn cb cn sn' : Nat} {tv mv wv : Value} {T M W S S' SC : List (List UInt8)} (h : Rs w wr B sb sn cb cn tv mv wv T M W S SC) (hs : Ids w' sb sn' S') (hg : wr.grownBy w' (some sb)) : Rs w w' B sb sn' cb cn tv mv wv T M W S' SC :=
 ⟨own_far h.t hg h.sB, own_far h.m hg h.sB, own_far h.q hg h.sB, hs, h.c.kept hg (by simp; have := h.cB; omega), h.tm, h.tq, h.mq, h.sB, h.cB,
  h.bel.grown hg h.bel.size (fun k hk => by injection hk with e; have := h.wB; have := h.cB; omega), h.wB, Nat.le_trans h.BB hg.size⟩
theorem Rs.grown {w wr w' : World} {B sb sn cb cn : Nat} {tv mv wv v : Value} {I : List (List UInt8)} {o : Obj} {T M W S SC : List (List UInt8)} (h : Rs w wr B sb sn cb cn tv mv wv T M W S SC) (hv : OwnI wr B v I) (hg : (wr.alloc o).grownBy w' v.ownBlock) : Ids w' sb sn S ∧ Ids w' cb cn SC ∧ Below w.heap.size w w' ∧ B ≤ w'.heap.size := by
 have hs := hg.size
 have ha : (wr.alloc o).heap.size = wr.heap.size + 1 := by simp
 have h1 := h.wB
 have h2 := h.cB
 have h3 := h.sB
 have h4 := h.BB
 exact ⟨h.s.other hv h.sB hg, h.c.other hv (by omega) hg, (h.bel.alloc h.bel.size o).grown hg (by omega) (fun k hk => by have := (hv.own.lt k hk).1; omega), by omega⟩
theorem Rs.pushT {w wr w' : World} {B sb sn cb cn : Nat} {tv tv' mv wv : Value} {o : Obj} {T T' M W S SC : List (List UInt8)} (h : Rs w wr B sb sn cb cn tv mv wv T M W S SC) (h1 : OwnI w' B tv' T') (hg : (wr.alloc o).grownBy w' tv.ownBlock) (hv : tv'.ownBlock = tv.ownBlock ∨ tv'.ownBlock = some (wr.heap.size + 1)) : Rs w w' B sb sn cb cn tv' mv wv T' M W S SC := by
 obtain ⟨a1, a2, a3, a4⟩ := h.grown h.t hg
 exact ⟨h1, h.m.other hg (fun g hm hc => h.tm g hc hm), h.q.other hg (fun g hm hc => h.tq g hc hm), a1, a2, h.tm.next h.m hv, h.tq.next h.q hv, h.mq, h.sB, h.cB, a3, h.wB, a4⟩
theorem Rs.pushM {w wr w' : World} {B sb sn cb cn : Nat} {tv mv mv' wv : Value} {o : Obj} {T M M' W S SC : List (List UInt8)} (h : Rs w wr B sb sn cb cn tv mv wv T M W S SC) (h1 : OwnI w' B mv' M') (hg : (wr.alloc o).grownBy w' mv.ownBlock) (hv : mv'.ownBlock = mv.ownBlock ∨ mv'.ownBlock = some (wr.heap.size + 1)) : Rs w w' B sb sn cb cn tv mv' wv T M' W S SC := by
 obtain ⟨a1, a2, a3, a4⟩ := h.grown h.m hg
 exact ⟨h.t.other hg (fun g hm hc => h.tm g hm hc), h1, h.q.other hg (fun g hm hc => h.mq g hc hm), a1, a2, (h.tm.symm.next h.t hv).symm, h.tq, h.mq.next h.q hv, h.sB, h.cB, a3, h.wB, a4⟩
theorem Rs.pushQ {w wr w' : World} {B sb sn cb cn : Nat} {tv mv wv wv' : Value} {o : Obj} {T M W W' S SC : List (List UInt8)} (h : Rs w wr B sb sn cb cn tv mv wv T M W S SC) (h1 : OwnI w' B wv' W') (hg : (wr.alloc o).grownBy w' wv.ownBlock) (hv : wv'.ownBlock = wv.ownBlock ∨ wv'.ownBlock = some (wr.heap.size + 1)) : Rs w w' B sb sn cb cn tv mv wv' T M W' S SC := by
 obtain ⟨a1, a2, a3, a4⟩ := h.grown h.q hg
 exact ⟨h.t.other hg (fun g hm hc => h.tq g hm hc), h.m.other hg (fun g hm hc => h.mq g hm hc), h1, a1, a2, h.tm, (h.tq.symm.next h.t hv).symm, (h.mq.symm.next h.m hv).symm, h.sB, h.cB, a3, h.wB, a4⟩
theorem Rs.boxed {w wr : World} {B sb sn cb cn g i : Nat} {tv mv wv u : Value} {c : Array Value} {T M W S SC : List (List UInt8)} (h : Rs w wr B sb sn cb cn tv mv wv T M W S SC) (hb : wr.heap[g]? = some (.cells c 54 (0, 0))) (hg : B ≤ g) : Rs w (wr.setCell ⟨g, i, none⟩ u) B sb sn cb cn tv mv wv T M W S SC := by
 have hgr : wr.grownBy (wr.setCell ⟨g, i, none⟩ u) (some g) := grown_setCell wr ⟨g, i, none⟩ u
 have hk : ∀ {v : Value} {I : List (List UInt8)}, OwnI wr B v I → OwnI (wr.setCell ⟨g, i, none⟩ u) B v I := fun ho => ⟨own_kept ho.own (fun k hk => hgr.block k (ho.own.lt k hk).2 (fun e => own_box ho.own hb (by decide) (by rw [hk]; exact e.symm))), ho.len⟩
 have h1 := h.wB
 have h2 := h.cB
 have h3 := h.sB
 exact ⟨hk h.t, hk h.m, hk h.q, h.s.kept hgr (by simp; omega), h.c.kept hgr (by simp; omega), h.tm, h.tq, h.mq, h.sB, h.cB, h.bel.grown hgr h.bel.size (fun k hk => by injection hk with e; omega), h.wB, Nat.le_trans h.BB hgr.size⟩
theorem Gr.ids_cut {o : Ob} (h : Rm.Ids o) : Rm.Ids (Gr.cutO o) := ⟨h.e, (fun p hp => by cases hp), h.tr, h.ta, h.ti⟩
def lenV : Value → Nat
 | .slice _ n _ => n
 | _ => 0
theorem Gr.tlen {nx : Gr.Id → List Gr.Id} {L : List St.It} {F W S T M : List Gr.Id} (h : Gr.Dfs nx (St.has L) F W S T M) : T.length ≤ L.length := by
 have := Gr.nodup_len (A := T) (B := idsOf L) h.tn (fun x hx => by
  have h1 := h.th x hx
  unfold St.has at h1
  rw [List.any_eq_true] at h1
  obtain ⟨r, hr, he⟩ := h1
  exact List.mem_map.2 ⟨r, hr, by simpa using he⟩)
 simpa [idsOf] using this
theorem ObAt.struck {w : World} {cs : Array Value} {o : Ob} {ao bo : Option Addr} {ca cb : Nat} (h : ObAt w cs o ao bo ca cb) : ObAt w (cs.setIfInBounds 35 (.slice none 0 0)) (Gr.cutO o) ao none ca 0 := by
 have hs := h.F.size
 have ne : ∀ i, i ≠ 35 → (cs.setIfInBounds 35 (.slice none 0 0))[i]? = cs[i]? := fun i hi => by rw [Array.getElem?_setIfInBounds, if_neg (by omega)]
 refine ⟨⟨?_, ?_, ?_, fun j v hv => ?_, ?_, ?_, ?_, fun j v hv => ?_, ?_, ?_, h.F.trl, h.F.tal, by simpa using hs, ?_⟩, h.E, RowsAt.nil _ _, h.eid, h.enm, fun p hp => (by cases hp), h.el, (show (0 : Nat) ≤ maxLen from Nat.zero_le _), h.nm, h.ti⟩
 · rw [ne _ (by decide)]; exact h.F.c0
 · rw [ne _ (by decide)]; exact h.F.c1
 · rw [ne _ (by decide)]; exact h.F.c2
 ·
  have hj : j < 32 := by
   have := (List.getElem?_eq_some_iff.1 hv).1
   rw [idC_length] at this
   have h2 : (Gr.cutO o).tree.length = 32 := h.F.trl
   omega
  rw [ne _ (by omega)]; exact h.F.tr j v hv
 · rw [Array.getElem?_setIfInBounds, if_pos rfl, if_pos (by omega)]; rfl
 · rw [ne _ (by decide)]; exact h.F.c36
 · rw [ne _ (by decide)]; exact h.F.c37
 · rw [ne _ (by omega)]; exact h.F.ta j v hv
 · rw [ne _ (by decide)]; exact h.F.c70
 · rw [ne _ (by decide)]; exact h.F.c71
 ·
  rw [Array.all_eq_true]
  intro i hi
  have h1 := h.F.one
  rw [Array.all_eq_true] at h1
  rw [Array.getElem_setIfInBounds (by simpa using hi)]
  split
  · rfl
  · exact h1 i (by simpa using hi)
theorem Gr.few {o : Ob} (h : o.ents.length ≤ 64) (h2 : o.pars.length ≤ 8) : (linksL o).length ≤ 64 := by
 unfold linksL
 split
 · simpa using h
 ·
  split
  · simp; omega
  · split <;> simp
end Go.Proofs.YtfckfjndnhjpoaaGreatDoor
end
