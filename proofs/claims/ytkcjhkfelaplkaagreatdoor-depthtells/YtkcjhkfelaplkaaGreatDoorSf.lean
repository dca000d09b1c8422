/-
  A CONTRACT OF THE LIBRARY THAT THIS SEAT USES, laid at its program by the shelf's own command, in plain words: SlLaysF0.
-/
import Derived.Shelf.SlGeneric
import Derived.Shelf.SlSortCmp.WholeK
import Derived.Ground.SlsfProg
import Derived.Test.YtkcjhkfelaplkaaGreatDoorProg
import Derived.Test.YtkcjhkfelaplkaaGreatDoorSa
import Derived.Test.YtkcjhkfelaplkaaGreatDoorSb
import Derived.Shelf.SlSortCmp.NoneTotal
import Derived.Test.YtkcjhkfelaplkaaGreatDoorSc
import Derived.Test.YtkcjhkfelaplkaaGreatDoorQy
import Derived.Test.YtkcjhkfelaplkaaGreatDoorQa
set_option linter.unusedVariables false
set_option linter.unusedSimpArgs false
set_option maxHeartbeats 8000000
set_option maxRecDepth 100000
section
namespace Go.Proofs
open Go.Shelf
def Tryz.sortDp_ren : Go.Shelf.Ren := ⟨fun | 6 => 44 | 15 => 82 | 14 => 81 | 28 => 122 | 29 => 123 | 20 => 114 | 21 => 115 | 22 => 116 | 23 => 117 | 24 => 118 | 25 => 119 | 26 => 120 | 27 => 121 | 46 => 163 | 47 => 164 | 48 => 165 | 49 => 166 | 50 => 167 | 57 => 189 | n => n, fun | 22 => 37 | 24 => 48 | 25 => 107 | 3 => 3 | 39 => 154 | 0 => 0 | 53 => 57 | 55 => 199 | 4 => 4 | 46 => 192 | 45 => 191 | 50 => 187 | 5 => 5 | 9 => 9 | 66 => 234 | 70 => 238 | 76 => 261 | 77 => 262 | n => n, fun | n => n⟩
theorem Tryz.sortDp : Go.Proofs.SlLaysF0.n6 Tryz.prog Tryz.sortDp_ren := {
 mixed := by kernel_rfl
 f6 := ⟨Tryz.f44.name, by decide, Tryz.func44.trans (congrArg some (by kernel_rfl))⟩
 f14 := ⟨Tryz.f81.name, by decide, Tryz.func81.trans (congrArg some (by kernel_rfl))⟩
 f15 := Tryz.func82.trans (congrArg some (by kernel_rfl))
 f20 := ⟨Tryz.f114.name, by decide, Tryz.func114.trans (congrArg some (by kernel_rfl))⟩
 f21 := ⟨Tryz.f115.name, by decide, Tryz.func115.trans (congrArg some (by kernel_rfl))⟩
 f22 := ⟨Tryz.f116.name, by decide, Tryz.func116.trans (congrArg some (by kernel_rfl))⟩
 f23 := ⟨Tryz.f117.name, by decide, Tryz.func117.trans (congrArg some (by kernel_rfl))⟩
 f24 := ⟨Tryz.f118.name, by decide, Tryz.func118.trans (congrArg some (by kernel_rfl))⟩
 f25 := ⟨Tryz.f119.name, by decide, Tryz.func119.trans (congrArg some (by kernel_rfl))⟩
 f26 := ⟨Tryz.f120.name, by decide, Tryz.func120.trans (congrArg some (by kernel_rfl))⟩
 f27 := ⟨Tryz.f121.name, by decide, Tryz.func121.trans (congrArg some (by kernel_rfl))⟩
 f28 := Tryz.func122.trans (congrArg some (by kernel_rfl))
 f29 := Tryz.func123.trans (congrArg some (by kernel_rfl))
 f46 := ⟨Tryz.f163.name, by decide, Tryz.func163.trans (congrArg some (by kernel_rfl))⟩
 f47 := Tryz.func164.trans (congrArg some (by kernel_rfl))
 f48 := Tryz.func165.trans (congrArg some (by kernel_rfl))
 f49 := ⟨Tryz.f166.name, by decide, Tryz.func166.trans (congrArg some (by kernel_rfl))⟩
 f50 := ⟨Tryz.f167.name, by decide, Tryz.func167.trans (congrArg some (by kernel_rfl))⟩
 f57 := ⟨Tryz.f189.name, by decide, Tryz.func189.trans (congrArg some (by kernel_rfl))⟩
 t0 := Tryz.underlying0
 a0 := Tryz.isAgg0
 z0 := Tryz.sizeOf0
 v0 := Tryz.zeroValue0
 t3 := Tryz.underlying3
 a3 := Tryz.isAgg3
 z3 := Tryz.sizeOf3
 v3 := Tryz.zeroValue3
 t4 := Tryz.underlying4
 a4 := Tryz.isAgg4
 z4 := Tryz.sizeOf4
 v4 := Tryz.zeroValue4
 t5 := Tryz.underlying5
 a5 := Tryz.isAgg5
 z5 := Tryz.sizeOf5
 v5 := Tryz.zeroValue5
 t9 := Tryz.underlying9
 a9 := Tryz.isAgg9
 z9 := Tryz.sizeOf9
 v9 := Tryz.zeroValue9
 t22 := Tryz.underlying37
 a22 := Tryz.isAgg37
 z22 := Tryz.sizeOf37
 v22 := Tryz.zeroValue37
 t25 := Tryz.underlying107
 a25 := Tryz.isAgg107
 z25 := Tryz.sizeOf107
 v25 := Tryz.zeroValue107
 t39 := Tryz.underlying154
 a39 := Tryz.isAgg154
 z39 := Tryz.sizeOf154
 v39 := Tryz.zeroValue154
 t45 := Tryz.underlying191
 a45 := Tryz.isAgg191
 z45 := Tryz.sizeOf191
 v45 := Tryz.zeroValue191
 t46 := Tryz.underlying192
 a46 := Tryz.isAgg192
 z46 := Tryz.sizeOf192
 v46 := Tryz.zeroValue192
 t50 := Tryz.underlying187
 a50 := Tryz.isAgg187
 z50 := Tryz.sizeOf187
 v50 := Tryz.zeroValue187
 t53 := Tryz.underlying57
 a53 := Tryz.isAgg57
 z53 := Tryz.sizeOf57
 v53 := Tryz.zeroValue57
 t55 := Tryz.underlying199
 a55 := Tryz.isAgg199
 z55 := Tryz.sizeOf199
 v55 := Tryz.zeroValue199
 t66 := Tryz.underlying234
 a66 := Tryz.isAgg234
 z66 := Tryz.sizeOf234
 v66 := Tryz.zeroValue234
 t70 := Tryz.underlying238
 a70 := Tryz.isAgg238
 z70 := Tryz.sizeOf238
 v70 := Tryz.zeroValue238
 t76 := Tryz.underlying261
 a76 := Tryz.isAgg261
 z76 := Tryz.sizeOf261
 v76 := Tryz.zeroValue261
 t77 := Tryz.underlying262
 a77 := Tryz.isAgg262
 z77 := Tryz.sizeOf262
 v77 := Tryz.zeroValue262 }
end Go.Proofs
end
section
namespace Go.Proofs.YtkcjhkfelaplkaaGreatDoor
open Go.RowKit Go.Sort
abbrev Dp.I := { d : List UInt8 × Nat // d.1.length = 32 }
instance : Inhabited Dp.I := ⟨⟨(zId, 0), zId_len⟩⟩
def Dp.enc (x : Dp.I) : List Value := Dp.C x.1
def Dp.cf (x y : Dp.I) : Int := Gr.cfL x.1.1 y.1.1
theorem Dp.ltOf_cf (x y : Dp.I) : ltOf Dp.cf x y = St.lt x.1.1 y.1.1 := by
 unfold ltOf Dp.cf Gr.cfL
 cases St.lt x.1.1 y.1.1 with
 | true => simp
 | false => by_cases h : x.1.1 = y.1.1 <;> simp [h]
theorem Dp.swo : SWO (ltOf Dp.cf) where
 irrefl x := by rw [Dp.ltOf_cf]; exact St.lt_irrefl _
 trans x y z h1 h2 := by rw [Dp.ltOf_cf] at *; exact St.lt_trans h1 h2
 ntrans x y z h1 h2 := by
  rw [Dp.ltOf_cf] at *
  cases h : St.lt x.1.1 z.1.1 with
  | false => rfl
  | true =>
    rcases St.lt_tri (a := x.1.1) (b := y.1.1) (by rw [x.2, y.2]) with k | k | k
    · rw [k] at h1; cases h1
    · rw [k] at h; rw [h] at h2; cases h2
    · rw [St.lt_trans k h] at h2; cases h2
theorem of1_l (x y : List UInt8 × Nat) (hx : x.1.length = 32) (hy : y.1.length = 32) (w : World) :
  Calls Tryz.prog 45 #[.agg (Dp.C x).toArray, .agg (Dp.C y).toArray] w fun r w' => r = .returned (.int .i64 (Gr.cfL x.1 y.1)) ∧ RowKit.Below w.heap.size w w' ∧ w.drawn ≤ w'.drawn := by
 have HX2 := Lib.hid (dp_id (d := x) (row_news (show ((w.alloc (.cells (Dp.C x).toArray 48)).alloc (.cells (Dp.C y).toArray 48)).heap[w.heap.size]? = some (.cells (Dp.C x).toArray 48) from heap_alloc2_old _ _ _)))
 have HY2 := Lib.hid (dp_id (d := y) (row_news (new2 w (.cells (Dp.C x).toArray 48) (.cells (Dp.C y).toArray 48))))
 have HB2 := Lib.hid (below2 w (.cells (Dp.C x).toArray 48) (.cells (Dp.C y).toArray 48))
 have HCM := Lib.hid (dpcompare_l x.1 y.1 hx hy ((w.alloc (.cells (Dp.C x).toArray 48)).alloc (.cells (Dp.C y).toArray 48)))
 have HD2 := Lib.hid (show w.drawn ≤ ((w.alloc (.cells (Dp.C x).toArray 48)).alloc (.cells (Dp.C y).toArray 48)).drawn from Nat.le_refl _)
 have HXL := Lib.hid hx
 have HYL := Lib.hid hy
 clear hx hy
 go_enter Tryz.func45, Tryz.ntmps45
 go_wp2_with (first
  | ((with_reducible refine ld_id (l := x.1) (x := .tmp 5) (p := ⟨w.heap.size, 0, none⟩) ?_ ?_ ?_ HX2.out HXL.out ?_); rfl; rfl; rfl)
  | ((with_reducible refine ld_id (l := y.1) (x := .tmp 7) (p := ⟨w.heap.size + 1, 0, none⟩) ?_ ?_ ?_ HY2.out HYL.out ?_); rfl; rfl; rfl))
 with_reducible refine HCM.out.mono ?_
 rintro r w2 ⟨rfl, hb, hd⟩
 have HB3 := Lib.hid (HB2.out.trans (hb.mono HB2.out.size))
 have HD3 := Lib.hid (Nat.le_trans HD2.out hd)
 clear hb hd HCM
 go_wp2_with fail
 go_ret
 exact ⟨rfl, HB3.out, HD3.out⟩
theorem Dp.eg1 : ∀ args w, (callFunc 45 args).run Tryz.prog w = .ok (.enter 45 args) w := enters_of Tryz.func45 (by kernel_rfl) rfl
theorem Dp.enc_len (x : Dp.I) : (Dp.enc x).length = 33 := Dp.C_length x.2
theorem Dp.enc_one (x : Dp.I) : ∀ v ∈ Dp.enc x, v.oneCell' = true := Dp.C_one x.1
theorem Dp.cmp1 (blk off size : Nat) (w : World) : CmpLays Tryz.prog 45 #[] Dp.enc 33 Dp.cf blk off size w := fun m os dk hs x y => by
 have h := of1_l x.1 y.1 x.2 y.2 (sortWorldK Dp.enc 33 w blk off m dk os)
 simp only [Array.append_empty]
 exact h.mono fun e w' ⟨h1, h2, h3⟩ => ⟨h1, grow_of h2 h3⟩
def Dp.subs (I : List (List UInt8 × Nat)) (h : ∀ i ∈ I, i.1.length = 32) : List Dp.I := I.attach.map fun x => ⟨x.1, h x.1 x.2⟩
theorem Dp.subs_map (I : List (List UInt8 × Nat)) (h : ∀ i ∈ I, i.1.length = 32) : (Dp.subs I h).map (·.1) = I := by
 unfold Dp.subs
 rw [List.map_map]
 exact List.attach_map_subtype_val I
theorem Dp.subs_len (I : List (List UInt8 × Nat)) (h : ∀ i ∈ I, i.1.length = 32) : (Dp.subs I h).length = I.length := by unfold Dp.subs; simp
theorem Dp.subs_enc (I : List (List UInt8 × Nat)) (h : ∀ i ∈ I, i.1.length = 32) : ((Dp.subs I h).toArray.toList.map Dp.enc) = I.map Dp.C := by
 conv => rhs; rw [← Dp.subs_map I h]
 simp [Dp.enc, Function.comp_def]
def Dp.Sorted (O : List (List UInt8 × Nat)) : Prop := ∀ (i j : Nat) (x y : List UInt8 × Nat), i < j → O[i]? = some x → O[j]? = some y → St.lt y.1 x.1 = false
theorem sortD_any (w : World) (base : Nat) (v : Value) (O : List (List UInt8 × Nat)) (h : OwnD 48 w base v O) (hn : O.length ≤ 100000) :
  Calls Tryz.prog 44 #[v, .func (.func 45) #[] #[]] w fun r w' => r = .returned (.tuple #[]) ∧ ∃ O', O'.Perm O ∧ Dp.Sorted O' ∧ OwnD 48 w' base v O' ∧ w.grownBy w' v.ownBlock := by
 rcases Nat.eq_zero_or_pos O.length with h0 | h0
 ·
  have hI : O = [] := List.eq_nil_of_length_eq_zero h0
  subst hI
  obtain ⟨ao, cap, rfl⟩ := h.form
  have := AnyF.slices_SortFunc_none Tryz.sortDp ao cap (.func (.func 45) #[] #[]) w
  refine Calls.mono this fun e w' ⟨h1, h2⟩ => ⟨h1, [], .refl _, fun i j x y _ hx => by simp at hx, ?_, ?_⟩
  · subst h2; exact h
  · subst h2; exact World.grownBy.refl _ _
 ·
  obtain ⟨g, cap, rfl, hb, hlt⟩ := h.own.form h0
  have hsz : (Dp.subs O h.len).toArray.size = O.length := by simp [Dp.subs_len]
  have hH := holdsK_own (w := w) (base := base) (g := g) (cap := cap) (n := O.length) Dp.enc 33 Dp.enc_len (Dp.subs O h.len).toArray hsz (by rw [Dp.subs_enc]; exact h.own)
  have hc := AnyQ.slices_SortFunc Tryz.sortDp 33 Tryz.isAgg48 Tryz.sizeOf48 Dp.enc Dp.enc_len Dp.enc_one Dp.cf Dp.swo 45 #[] g 0 cap (Dp.subs O h.len).toArray w Dp.eg1 (Dp.cmp1 _ _ _ _) hH hlt (by omega)
  rw [hsz] at hc
  refine Calls.mono hc fun e w' ⟨h1, d', n, os, hp, hs, hw⟩ => ⟨h1, d'.toList.map (·.1), ?_, ?_, ?_, ?_⟩
  ·
   have h3 := hp.2.2
   have e1 : (d'.extract 0 O.length).toList = d'.toList := by
    have : d'.size = O.length := by rw [hp.1, hsz]
    rw [← this]; simp
   have e2 : ((Dp.subs O h.len).toArray.extract 0 O.length).toList = Dp.subs O h.len := by
    have h9 : (Dp.subs O h.len).length = O.length := Dp.subs_len _ _
    simp [h9, List.take_of_length_le]
   rw [e1, e2] at h3
   have := h3.map (·.1)
   rwa [Dp.subs_map] at this
  ·
   intro i j x y hij hx hy
   rw [List.getElem?_map] at hx hy
   have hjs : j < d'.size := by
    cases hq : d'.toList[j]? with
    | none => rw [hq] at hy; simp at hy
    | some z => have := (List.getElem?_eq_some_iff.1 hq).1; simpa using this
   have hjn : j < O.length := by rw [hp.1, hsz] at hjs; exact hjs
   have := hs i j (Nat.zero_le _) hij hjn
   rw [Dp.ltOf_cf, getElem!_pos d' j hjs, getElem!_pos d' i (by omega)] at this
   rw [List.getElem?_eq_getElem (by simpa using hjs)] at hy
   rw [List.getElem?_eq_getElem (by simp; omega)] at hx
   simp only [Option.map_some, Option.some.injEq, Array.getElem_toList] at hx hy
   rw [← hx, ← hy]; exact this
  ·
   have hsz' : d'.size = O.length := by rw [hp.1, hsz]
   rcases h.own.2 with ⟨hv', _⟩ | ⟨g', c', cur, hv', hb', hh, h1', h2', h3', h4'⟩
   · cases hv'
   ·
    simp only [Value.slice.injEq, Option.some.injEq, Addr.mk.injEq, and_true] at hv'
    obtain ⟨rfl, _, rfl⟩ := hv'
    have hle : (d'.toList.map (·.1)).length = O.length := by simp [hsz']
    have h5 := own_sortedK (w := w) (base := base) (os := os) (m := n) Dp.enc 33 Dp.enc_len d' hsz' hb' hh h1' h2' h3'
    rw [← hw] at h5
    refine ⟨?_, fun i hi => ?_⟩
    · rw [hle, List.map_map]; exact h5
    ·
     obtain ⟨x, _, rfl⟩ := List.mem_map.1 hi
     exact x.2
  ·
   rw [hw]
   refine ⟨rfl, rfl, rfl, size_sortWorldK_c .., fun k hk hne => ?_⟩
   have hkg : k ≠ g := fun e => hne (by rw [e]; rfl)
   unfold sortWorldK
   rw [heap_grow_old _ _ (by rw [size_putRowK]; exact hk)]
   unfold putRowK putRow mapBlock
   simp only [Array.getElem?_modify]
   rw [if_neg (fun e => hkg e.symm)]
   rfl
end Go.Proofs.YtkcjhkfelaplkaaGreatDoor
end
section
namespace Go.Proofs.YtkcjhkfelaplkaaGreatDoor
open Go.RowKit
theorem end_nil (w : World) (id : List UInt8) (hil : id.length = 32) :
  Calls Tryz.prog 41 #[.pointer none, .agg (idC id).toArray] w fun r w' => r = .returned (.tuple #[.agg (idC zId).toArray, .bool false]) ∧ Below w.heap.size w w' := by
 have hz24 := (zero_of_info zero24).1
 have HB2 := Lib.hid (below2 w (.cells (idC id).toArray 46) (.cells (idC zId).toArray 46))
 have HX2 := Lib.hid (new2 w (.cells (idC id).toArray 46) (.cells (idC zId).toArray 46))
 have hsz : w.heap.size ≤ w.heap.size + 1 := by omega
 have HLE := Lib.hid (len_nil)
 clear hil
 go_enter Tryz.func41, Tryz.ntmps41
 go_wp2_with fail
 refine (HLE.out _).mono ?_
 rintro r w2 ⟨rfl, rfl⟩
 go_wp2_with fail
 go_loopw [10] (fun i wr => i = .int .i64 0 ∧ Hid (wr = (w.alloc (.cells (idC id).toArray 46)).alloc (.cells (idC zId).toArray 46))) (fun i _ => 0)
 case atStart => exact ⟨rfl, rfl⟩
 case round =>
  obtain ⟨rfl, HW⟩ := hrel
  have hw := HW.out
  subst hw
  go_wp2_with (first
   | ((with_reducible refine bd_zid ?_ ?_ ?_); rfl; rfl)
   | ((with_reducible refine st_idg (l := zId) (x := .tmp 4) (y := .tmp 28) (g := w.heap.size + 1) ?_ ?_ ?_ ?_ HX2.out ?_ ?_ ?_); rfl; rfl; rfl; rfl; rfl; rfl))
  refine bodyPost_ret (results_cell_tmp (fn := Tryz.f41) (p := 4) (q := 5) (by rfl) _ _ (w.heap.size + 1) _ _ _ _ (by rfl) (setRow_heap _ _ _ _ _ _ HX2.out) Tryz.underlying46 rfl (by rw [List.size_toArray]; exact idsize rfl)) rfl ⟨rfl, below_setRow HB2.out (by omega) _⟩
theorem fine_bad (n : Int) (hn : n < 1 ∨ 1048576 < n) (w : World) : Calls Tryz.prog 40 #[.int .i64 n] w fun r w' => r = .returned (.bool false) ∧ w' = w := by
 rcases hn with hn | hn
 ·
  have h1 : ¬ (1 : Int) ≤ n := by omega
  go_enter Tryz.func40, Tryz.ntmps40
  go_wp2_with fail
  go_ret
  exact ⟨rfl, rfl⟩
 ·
  have h1 : (1 : Int) ≤ n := by omega
  have h2 : ¬ n ≤ (1048576 : Int) := by omega
  go_enter Tryz.func40, Tryz.ntmps40
  go_wp2_with fail
  go_ret
  exact ⟨rfl, rfl⟩
theorem fine_good (n : Int) (h1 : 1 ≤ n) (h2 : n ≤ 1048576) (w : World) : Calls Tryz.prog 40 #[.int .i64 n] w fun r w' => r = .returned (.bool true) ∧ w' = w := by
 go_enter Tryz.func40, Tryz.ntmps40
 go_wp2_with fail
 go_ret
 exact ⟨rfl, rfl⟩
theorem of_bad (w : World) (sp v : Value) (n : Int) (hn : n < 1 ∨ 1048576 < n) : Calls Tryz.prog 12 #[sp, v, .int .i64 n] w fun r w' => r = .returned (.tuple #[.slice none 0 0, .int .i64 1]) ∧ w' = w := by
 have HF := Lib.hid (fine_bad n hn w)
 clear hn
 go_enter Tryz.func12, Tryz.ntmps12
 go_wp2_with fail
 with_reducible refine HF.out.mono ?_
 rintro r w2 ⟨rfl, rfl⟩
 go_wp2_with fail
 go_ret2
 exact ⟨rfl, rfl⟩
theorem bound_bad (w : World) (sp v : Value) (n : Int) (hn : n < 1 ∨ 1048576 < n) : Calls Tryz.prog 13 #[sp, v, .int .i64 n] w fun r w' => r = .returned (.tuple #[.slice none 0 0, .slice none 0 0, .int .i64 1]) ∧ w' = w := by
 have HF := Lib.hid (of_bad w sp v n hn)
 clear hn
 go_enter Tryz.func13, Tryz.ntmps13
 go_wp2_with fail
 with_reducible refine HF.out.mono ?_
 rintro r w2 ⟨rfl, rfl⟩
 go_wp2_with fail
 refine bodyPost_ret (results_tmp3 rfl _ _ _) rfl ?_
 exact ⟨rfl, rfl⟩
theorem parents_none (w : World) (g : Nat) (sp mp : Value) (most : Int) (h : w.heap[g]? = some (.cells #[sp, mp, .slice none 0 0] 100 (0, 0))) :
  Calls Tryz.prog 43 #[.pointer (some ⟨g, 0, none⟩), .int .i64 most] w fun r w' => r = .returned (.tuple #[]) ∧ w' = w := by
 have c2 : w.cell? ⟨g, 2, none⟩ = some (.slice none 0 0) := by rw [cell_of_row _ _ 2 _ _ _ h]; rfl
 clear h
 go_enter Tryz.func43, Tryz.ntmps43
 go_wp2_with fail
 go_loopw [4] (fun i wr => i = .int .i64 0 ∧ wr = w) (fun i _ => 0)
 case atStart => exact ⟨rfl, rfl⟩
 case round =>
  obtain ⟨rfl, rfl⟩ := hrel
  go_wp2_with fail
  refine bodyPost_end (results_none rfl _ _ _) rfl ?_
  exact ⟨rfl, rfl⟩
theorem of_nil (w : World) (v : Value) (I : List (List UInt8)) (n : Int) (h : IdsAt w v I) (hl : ∀ i ∈ I, i.length = 32) (hI : I.length ≤ 1000) (h1 : 1 ≤ n) (h2 : n ≤ 1048576) :
  Calls Tryz.prog 12 #[.pointer none, v, .int .i64 n] w fun r w' => r = .returned (.tuple #[.slice none 0 0, .int .i64 0]) ∧ Below w.heap.size w w' := by
 obtain ⟨ao, cap, rfl⟩ : ∃ ao cap, v = .slice ao I.length cap := by simpa using RowsAt.form h
 have HF := Lib.hid (fine_good n h1 h2 w)
 have HH := Lib.hid h
 have HL := Lib.hid hl
 have hmm := @run_makeMap Tryz.prog
 clear h h1 h2 hl
 go_enter Tryz.func12, Tryz.ntmps12
 go_wp2_with fail
 with_reducible refine HF.out.mono ?_
 rintro r w2 ⟨rfl, rfl⟩
 clear HF
 go_wp2_with fail
 have HB2 := Lib.hid (below2 w2 (.map #[] 0) (.cells #[.pointer none, .map (some w2.heap.size), .slice none 0 0] 100))
 have HX2 := Lib.hid (new2 w2 (.map #[] 0) (.cells #[.pointer none, .map (some w2.heap.size), .slice none 0 0] 100))
 generalize (w2.alloc (.map #[] 0)).alloc (.cells #[.pointer none, .map (some w2.heap.size), .slice none 0 0] 100) = w3 at *
 clear hmm
 go_loopw [21] (fun i wr => ∃ (k : Nat), k ≤ I.length ∧ i = .int .i64 k ∧ Hid (wr.heap[w2.heap.size + 1]? = some (.cells #[.pointer none, .map (some w2.heap.size), .slice none 0 0] 100 (0, 0))) ∧ Hid (Below w2.heap.size w2 wr)) (fun i _ => I.length - (intOf i).toNat)
 case atStart => exact ⟨0, by omega, rfl, HX2.out, HB2.out⟩
 case round =>
  obtain ⟨k, hk, rfl, HX, HB⟩ := hrel
  clear HX2 HB2
  by_cases hlt : k < I.length
  ·
   have hlt' : (k : Int) < (I.length : Int) := by omega
   have hk0 : (0 : Int) ≤ (k : Int) := by omega
   obtain ⟨id, hi⟩ : ∃ id, I[k]? = some id := ⟨I[k], List.getElem?_eq_getElem hlt⟩
   have HID := Lib.hid (HL.out id (List.mem_of_getElem? hi))
   obtain ⟨a, rfl, _, hc⟩ := (HH.out.below HB.out).elem k (idC id) (by rw [List.getElem?_map, hi]; rfl)
   have HC := Lib.hid hc
   have HR := Lib.hid (row_news (heap_alloc_new wr (.cells (idC id).toArray 46)))
   have HEN := Lib.hid (end_nil (wr.alloc (.cells (idC id).toArray 46)) id HID.out)
   have HBA := Lib.hid (below_new wr (.cells (idC id).toArray 46))
   have hz := (Array.getElem?_eq_some_iff.1 HX.out).1
   have HZL := Lib.hid (show zId.length = 32 from rfl)
   clear hc hi
   go_wp2_with (first
    | ((with_reducible refine ld_id (l := id) (x := .tmp 23) ?_ ?_ ?_ HC.out HID.out ?_); rfl; rfl; rfl)
    | ((with_reducible apply st_id (hl := HID.out)); rfl; rfl; rfl; rfl; rfl)
    | ((with_reducible refine ld_id (l := id) (x := .tmp 10) (p := ⟨wr.heap.size, 0, none⟩) ?_ ?_ ?_ HR.out HID.out ?_); rfl; rfl; rfl))
   with_reducible refine HEN.out.mono ?_
   rintro r w4 ⟨rfl, hb4⟩
   have hbb : Below wr.heap.size wr w4 := HBA.out.trans (hb4.mono HBA.out.size)
   have HB4 := Lib.hid ((HB.out.trans (hbb.mono HB.out.size)).alloc (Nat.le_trans HB.out.size hbb.size) (.cells (idC zId).toArray 46))
   have HX4 := Lib.hid (((hbb.alloc hbb.size (.cells (idC zId).toArray 46)).block _ hz).trans HX.out)
   clear hb4 hbb HEN
   go_wp2_with ((with_reducible apply st_id (hl := HZL.out)); rfl; rfl; rfl; rfl; rfl)
   go_roundw
   case rel => exact ⟨k + 1, by omega, by go_num, HX4, HB4⟩
   case measure => simp [intOf]; omega
  ·
   have hlt' : ¬ (k : Int) < (I.length : Int) := by omega
   have HPA := Lib.hid (parents_none wr (w2.heap.size + 1) (.pointer none) (.map (some w2.heap.size)) n HX.out)
   have HSN := Lib.hid (show Calls Tryz.prog 44 #[.slice none 0 0, .func (.func 45) #[] #[]] wr fun e w' => e = .returned (.tuple #[]) ∧ w' = wr from AnyF.slices_SortFunc_none Tryz.sortDp none 0 (.func (.func 45) #[] #[]) wr)
   have c2 : wr.cell? ⟨w2.heap.size + 1, 2, none⟩ = some (.slice none 0 0) := by rw [cell_of_row _ _ 2 _ _ _ HX.out]; rfl
   go_wp2_with fail
   with_reducible refine HPA.out.mono ?_
   rintro r w4 ⟨rfl, hw4⟩
   subst hw4
   go_wp2_with fail
   with_reducible refine HSN.out.mono ?_
   rintro r w5 ⟨rfl, hw5⟩
   subst hw5
   go_wp2_with fail
   go_ret2
   exact ⟨rfl, HB.out⟩
end Go.Proofs.YtkcjhkfelaplkaaGreatDoor
end
