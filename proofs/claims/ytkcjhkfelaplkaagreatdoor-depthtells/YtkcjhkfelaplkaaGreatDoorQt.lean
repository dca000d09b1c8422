/-
  WALKS OF LAYER 12: Less once more (layer 2's walk), with that it only draws on.
-/
import Derived.Test.YtkcjhkfelaplkaaGreatDoorQi
import Derived.Test.YtkcjhkfelaplkaaGreatDoorQk
import Derived.Test.YtkcjhkfelaplkaaGreatDoorQq
import Derived.Test.YtkcjhkfelaplkaaGreatDoorQh
import Derived.Shelf.SlSortCmp.WholeK
import Derived.Shelf.SlSortCmp.NoneTotal
import Derived.Test.YtkcjhkfelaplkaaGreatDoorQs
import Derived.Test.YtkcjhkfelaplkaaGreatDoorQd
import Derived.Test.YtkcjhkfelaplkaaGreatDoorQa
set_option linter.unusedVariables false
set_option linter.unusedSimpArgs false
set_option maxHeartbeats 8000000
set_option maxRecDepth 100000
section
namespace Go.Proofs.YtkcjhkfelaplkaaGreatDoor
open Go.RowKit
namespace S2
end S2
end Go.Proofs.YtkcjhkfelaplkaaGreatDoor
end
section
namespace Go.Proofs.YtkcjhkfelaplkaaGreatDoor
open Go.RowKit Go.Sort
abbrev Gr.I := { l : List UInt8 // l.length = 32 }
theorem zId_len : zId.length = 32 := by decide
instance : Inhabited Gr.I := ⟨⟨zId, zId_len⟩⟩
def Gr.enc (x : Gr.I) : List Value := idC x.1
def Gr.cfL (a b : List UInt8) : Int := if St.lt a b then -1 else if a = b then 0 else 1
def Gr.cf (x y : Gr.I) : Int := Gr.cfL x.1 y.1
theorem Gr.ltOf_cf (x y : Gr.I) : ltOf Gr.cf x y = St.lt x.1 y.1 := by
 unfold ltOf Gr.cf Gr.cfL
 cases St.lt x.1 y.1 with
 | true => simp
 | false => by_cases h : x.1 = y.1 <;> simp [h]
theorem Gr.swo : SWO (ltOf Gr.cf) where
 irrefl x := by rw [Gr.ltOf_cf]; exact St.lt_irrefl _
 trans x y z h1 h2 := by rw [Gr.ltOf_cf] at *; exact St.lt_trans h1 h2
 ntrans x y z h1 h2 := by
  rw [Gr.ltOf_cf] at *
  cases h : St.lt x.1 z.1 with
  | false => rfl
  | true =>
    rcases St.lt_tri (a := x.1) (b := y.1) (by rw [x.2, y.2]) with k | k | k
    · rw [k] at h1; cases h1
    · rw [k] at h; rw [h] at h2; cases h2
    · rw [St.lt_trans k h] at h2; cases h2
theorem grow_of {w w' : World} (hb : RowKit.Below w.heap.size w w') (hd : w.drawn ≤ w'.drawn) : ∃ q os', w' = grow (w.drewN q) os' := by
 refine ⟨w'.drawn - w.drawn, w'.heap.extract w.heap.size w'.heap.size, ?_⟩
 cases w with
 | mk heap tape drawn os output =>
   cases w' with
   | mk heap' tape' drawn' os' output' =>
     obtain ⟨h1, h2, h3, h4, h5⟩ := hb
     simp only at h1 h2 h3 h4 h5 hd
     subst h1 h2 h3
     simp only [grow, World.drewN, World.mk.injEq, and_true, true_and]
     refine ⟨?_, by omega⟩
     apply Array.ext_getElem?
     intro i
     rw [Array.getElem?_append]
     by_cases hi : i < heap.size
     · rw [if_pos hi]; exact h5 i hi
     ·
      rw [if_neg hi, Array.getElem?_extract]
      by_cases hi' : i < heap'.size
      · rw [if_pos (by omega)]; congr 1; omega
      · rw [if_neg (by omega), Array.getElem?_eq_none (by omega)]
end Go.Proofs.YtkcjhkfelaplkaaGreatDoor
end
section
namespace Go.Proofs.YtkcjhkfelaplkaaGreatDoor
open Go.RowKit Go.Sort
theorem Gr.enc_len (x : Gr.I) : (Gr.enc x).length = 32 := by unfold Gr.enc; rw [idC_length]; exact x.2
theorem Gr.enc_one (x : Gr.I) : ∀ v ∈ Gr.enc x, v.oneCell' = true := idC_one x.1
def Gr.subs (I : List (List UInt8)) (h : ∀ i ∈ I, i.length = 32) : List Gr.I := I.attach.map fun x => ⟨x.1, h x.1 x.2⟩
theorem Gr.subs_map (I : List (List UInt8)) (h : ∀ i ∈ I, i.length = 32) : (Gr.subs I h).map (·.1) = I := by
 unfold Gr.subs
 rw [List.map_map]
 exact List.attach_map_subtype_val I
theorem Gr.subs_len (I : List (List UInt8)) (h : ∀ i ∈ I, i.length = 32) : (Gr.subs I h).length = I.length := by unfold Gr.subs; simp
theorem Gr.subs_get (I : List (List UInt8)) (h : ∀ i ∈ I, i.length = 32) (j : Nat) (hj : j < I.length) : ((Gr.subs I h).toArray[j]!).1 = I[j] := by
 have h1 := Gr.subs_map I h
 have hl := Gr.subs_len I h
 rw [getElem!_pos _ j (by simpa [hl] using hj)]
 have h2 : ((Gr.subs I h).map (·.1))[j]? = I[j]? := by rw [h1]
 rw [List.getElem?_map, List.getElem?_eq_getElem (by omega), List.getElem?_eq_getElem hj] at h2
 simpa using h2
theorem holds_of_own {w : World} {base g cap : Nat} {I : List (List UInt8)} (h : OwnI w base (.slice (some ⟨g, 0, none⟩) I.length cap) I) : HoldsK Gr.enc 32 w g 0 (Gr.subs I h.len).toArray := by
 intro j hj
 have hl := Gr.subs_len I h.len
 rw [size_flatK] at hj
 have hj' : j < I.length * 32 := by simpa [hl] using hj
 have hfl : ((I.map idC).flatten).length = I.length * 32 := by rw [flatK_len _ (ids_len h.len)]; simp
 have hq : j / 32 < I.length := by omega
 have hc := h.own.cellAt j (by omega)
 rw [Nat.zero_add]
 refine ⟨?_, h.own.frozenAt j⟩
 rw [hc, get_flatK _ _ _ j hj]
 have h1 := flatK_get (I.map idC) (ids_len h.len) (j / 32) (idC I[j / 32]) (by rw [List.getElem?_map, List.getElem?_eq_getElem hq]; rfl) (j % 32)
 have h2 : j % 32 < (idC I[j / 32]).length := by rw [idC_length, h.len _ (List.getElem_mem hq)]; omega
 have h3 := h1 _ (List.getElem?_eq_getElem h2)
 rw [show j / 32 * 32 + j % 32 = j by omega] at h3
 have h4 : Gr.enc (Gr.subs I h.len).toArray[j / 32]! = idC I[j / 32] := by unfold Gr.enc; rw [Gr.subs_get I h.len _ hq]
 rw [h3, h4]
 show some _ = some (id _)
 rw [List.getElem!_eq_getElem?_getD, List.getElem?_eq_getElem h2]; rfl
theorem sorted_grown {w : World} {g n : Nat} {d : Array Gr.I} {os : Array Obj} : w.grownBy (sortWorldK Gr.enc 32 w g 0 n d os) (some g) := by
 refine ⟨rfl, rfl, rfl, size_sortWorldK_c .., fun k hk hne => ?_⟩
 have hkg : k ≠ g := fun e => hne (by rw [e])
 unfold sortWorldK
 rw [heap_grow_old _ _ (by rw [size_putRowK]; exact hk)]
 unfold putRowK putRow mapBlock
 simp only [Array.getElem?_modify]
 rw [if_neg (fun e => hkg e.symm)]
 rfl
end Go.Proofs.YtkcjhkfelaplkaaGreatDoor
end
section
namespace Go.Proofs.YtkcjhkfelaplkaaGreatDoor
open Go.RowKit
def Ap (a b : Value) : Prop := ∀ g, a.ownBlock = some g → b.ownBlock ≠ some g
theorem Ap.symm {a b : Value} (h : Ap a b) : Ap b a := fun g hg hc => h g hc hg
theorem OwnI.other {wr w' : World} {B : Nat} {v : Value} {I : List (List UInt8)} {o : Obj} {row : Option Nat} (h : OwnI wr B v I) (hg : (wr.alloc o).grownBy w' row) (hne : ∀ g, v.ownBlock = some g → row ≠ some g) : OwnI w' B v I :=
 ⟨own_kept h.own (fun g hv => by
  have hlt := (h.own.lt g hv).2
  rw [hg.block g (by simp; omega) (fun e => hne g hv e.symm), heap_alloc_old _ _ hlt]), h.len⟩
theorem Ids.other {wr w' : World} {sb sn B : Nat} {S : List (List UInt8)} {v : Value} {I : List (List UInt8)} {o : Obj} (h : Ids wr sb sn S) (ho : OwnI wr B v I) (hs : sb < B) (hg : (wr.alloc o).grownBy w' v.ownBlock) : Ids w' sb sn S :=
 (h.alloc o).kept hg (fun e => by have := (ho.own.lt sb e.symm).1; omega)
theorem OwnI.cut {w : World} {B n cap : Nat} {ao : Option Addr} {I : List (List UInt8)} {x : List UInt8} (h : OwnI w B (.slice ao n cap) (I ++ [x])) : OwnI w B (.slice ao I.length cap) I ∧ (I.length : Int) + 1 ≤ cap := by
 have hl := h.own.1
 rcases h.own.2 with ⟨_, h0⟩ | ⟨g, c, cur, hv, hb, hh, h1, h2, h3, h4⟩
 · simp at h0
 ·
  simp only [Value.slice.injEq] at hv
  obtain ⟨rfl, hn, rfl⟩ := hv
  have hil : ∀ i ∈ I, i.length = 32 := fun i hi => h.len i (by simp [hi])
  have hfl : ((I.map idC).flatten).length = I.length * 32 := by rw [flatK_len _ (ids_len hil)]; simp
  simp only [List.length_append, List.length_singleton] at h1 h4
  refine ⟨⟨⟨by rw [hfl], .inr ⟨g, cap, cur, rfl, hb, hh, by omega, h2, h3, ?_⟩⟩, hil⟩, by omega⟩
  have h5 : (cur.toList.take ((I.length + 1) * 32)).take (I.length * 32) = (I.map idC).flatten := by
   rw [h4, List.map_append, List.flatten_append, List.take_append_of_le_length (by omega), List.take_of_length_le (by omega)]
  rw [List.take_take, Nat.min_eq_left (by omega)] at h5
  exact h5
theorem ids_flat_at {w : World} {a : Addr} {n cap : Nat} {I : List (List UInt8)} (h : IdsAt w (.slice (some a) n cap) I) (hl : ∀ i ∈ I, i.length = 32) : ∀ j u, (I.map idC).flatten[j]? = some u → w.cell? (a.add j) = some u := fun j u hu => by
 have hfl : ((I.map idC).flatten).length = I.length * 32 := by rw [flatK_len _ (ids_len hl)]; simp
 have hj : j < I.length * 32 := by have := (List.getElem?_eq_some_iff.1 hu).1; omega
 have hq : j / 32 < I.length := by omega
 have h0 : (I.map idC)[j / 32]? = some (idC I[j / 32]) := by rw [List.getElem?_map, List.getElem?_eq_getElem hq]; rfl
 have h2 : j % 32 < (idC I[j / 32]).length := by rw [idC_length, hl _ (List.getElem_mem hq)]; omega
 have h3 := flatK_get (I.map idC) (ids_len hl) (j / 32) _ h0 (j % 32) _ (List.getElem?_eq_getElem h2)
 rw [show j / 32 * 32 + j % 32 = j by omega, hu] at h3
 obtain ⟨a', e, _, hc⟩ := h.elem (j / 32) _ h0
 injection e with e
 subst e
 have := hc (j % 32) _ (List.getElem?_eq_getElem h2)
 rw [add_add, show j / 32 * 32 + j % 32 = j by omega] at this
 rw [this, ← h3]
theorem ids_flat_one (I : List (List UInt8)) : ∀ v ∈ (I.map idC).flatten, v.oneCell' = true := fun v hv => by
 obtain ⟨c, hc, hv⟩ := List.mem_flatten.1 hv
 obtain ⟨i, _, rfl⟩ := List.mem_map.1 hc
 exact idC_one i v hv
theorem eql_nilI (w : World) (a : Option Addr) (n c : Nat) : (binOp .eql 34 (.slice a n c) (.slice none 0 0)).run Tryz.prog w = .ok (.bool a.isNone) w := Lib.run_eql_slice_nil w _ _ a n c 0 0 Tryz.underlying34
theorem cloneI_any (v : Value) (I : List (List UInt8)) (w : World) (hI : IdsAt w v I) (hid : ∀ i ∈ I, i.length = 32) (hl : I.length ≤ 100000) :
  Calls Tryz.prog 71 #[v] w fun r w' => ∃ v', r = .returned v' ∧ OwnI w' w.heap.size v' I ∧ Below w.heap.size w w' := by
 have hlen : ((I.map idC).flatten).length = I.length * 32 := by rw [flatK_len _ (ids_len hid)]; simp
 obtain ⟨ao, cap, rfl⟩ := hI.form
 rw [List.length_map] at hI ⊢
 obtain ⟨i0, hi, hz0, hz1, hz2⟩ := info_parts infoIdz
 have HI := Lib.hid hI
 have HD := Lib.hid hid
 clear hI hid
 have hq := eql_nilI w
 cases ao with
 | none =>
   have HN := Lib.hid (show I = [] by
    rcases HI.out.out with ⟨_, h0⟩ | ⟨a, c, h0, _⟩
    · simpa using h0
    · simp at h0)
   clear hlen
   go_enter Tryz.func71, Tryz.ntmps71
   go_wp2_with fail
   go_ret
   exact ⟨_, rfl, by rw [HN.out]; exact OwnI.nil _ _, Below.refl _ _⟩
 | some a =>
   have HC := Lib.hid (ids_flat_at (RowsAt.below HI.out (below_new w (.cells #[] 46))) HD.out)
   have HLEN := Lib.hid hlen
   clear hlen
   go_enter Tryz.func71, Tryz.ntmps71
   go_wp2_with (at_builtin; refine wpList_append_own _ rfl _ _ 34 rfl w.heap.size 46 i0 _ 32 32 Tryz.underlying34 hi hz0 hz1 hz2 rfl (by decide) _ _ _ rfl (World.ownsRow_made w #[] 0 (Nat.le_refl _) (Nat.zero_le _) rfl) a I.length cap ((I.map idC).flatten) rfl ?qc1 ?qc2 ?qc3 ?qc4 ?qc5 ?qc6 ?_)
   case qc1 => exact HLEN.out
   case qc2 => exact HC.out
   case qc3 => exact ids_flat_one I
   case qc4 => unfold maxLen; omega
   case qc5 => omega
   case qc6 => simp
   intro v' w1 hown hgrow hnil
   have hb := ((Below.refl _ w).alloc (Nat.le_refl _) (.cells #[] 46)).grown hgrow (by simp) (by intro k hk; simp [Value.ownBlock] at hk; omega)
   have HO := Lib.hid (show OwnI w1 w.heap.size v' I from ⟨by simpa using hown, HD.out⟩)
   clear hown hgrow hnil
   go_wp2_with fail
   go_ret
   exact ⟨_, rfl, HO.out, hb⟩
def Gr.ob (L : List St.It) (id : List UInt8) : Option Ob := if St.has L id then (L[St.pos L id]?).bind fun r => Rm.dec r.text.data.toList else none
theorem Gr.ob_at {L : List St.It} (hs : St.Srt L) {k : Nat} {r : St.It} (hr : L[k]? = some r) : Gr.ob L r.id = Rm.dec r.text.data.toList := by
 unfold Gr.ob
 rw [St.has_of hr rfl, if_pos rfl, St.pos_eq hs hr, hr]; rfl
theorem Gr.ob_none {L : List St.It} {id : List UInt8} (h : St.has L id = false) : Gr.ob L id = none := by unfold Gr.ob; rw [h]; rfl
def Gr.lk (o : Ob) : List (List UInt8) := (linksL o).map (·.1)
def Gr.cutO (o : Ob) : Ob := { o with pars := [] }
def Gr.nx (L : List St.It) (cut : List (List UInt8)) (id : List UInt8) : List (List UInt8) := match Gr.ob L id with
 | none => []
 | some o => Gr.lk (if id ∈ cut then Gr.cutO o else o)
def Gr.Dec (L : List St.It) : Prop := ∀ r ∈ L, ∃ o, Rm.dec r.text.data.toList = some o
theorem Gr.has_ob {L : List St.It} {id : List UInt8} (hd : Gr.Dec L) (hs : St.Srt L) (h : St.has L id = true) : ∃ (k : Nat) (r : St.It) (o : Ob), L[k]? = some r ∧ r.id = id ∧ Rm.dec r.text.data.toList = some o ∧ Gr.ob L id = some o := by
 obtain ⟨r, hr, he⟩ := St.has_at hs h
 obtain ⟨o, ho⟩ := hd r (List.mem_of_getElem? hr)
 exact ⟨_, r, o, hr, he, ho, by rw [← he, Gr.ob_at hs hr, ho]⟩
end Go.Proofs.YtkcjhkfelaplkaaGreatDoor
end
section
namespace Go.Proofs.YtkcjhkfelaplkaaGreatDoor
open Go.RowKit
theorem OwnI.form {w : World} {B : Nat} {v : Value} {I : List (List UInt8)} (h : OwnI w B v I) : ∃ ao cap, v = .slice ao I.length cap := by simpa using h.rows.form
structure Rs (w wr : World) (B sb sn cb cn : Nat) (tv mv wv : Value) (T M W S SC : List (List UInt8)) : Prop where
 t : OwnI wr B tv T
 m : OwnI wr B mv M
 q : OwnI wr B wv W
 s : Ids wr sb sn S
 c : Ids wr cb cn SC
 tm : Ap tv mv
 tq : Ap tv wv
 mq : Ap mv wv
 sB : sb < B
 cB : cb < sb
 bel : Below w.heap.size w wr
 wB : w.heap.size ≤ cb
 BB : B ≤ wr.heap.size
theorem Rs.cut {w wr : World} {B sb sn cb cn n cap : Nat} {tv mv : Value} {ao : Option Addr} {T M W S SC : List (List UInt8)} {x : List UInt8} (h : Rs w wr B sb sn cb cn tv mv (.slice ao n cap) T M (W ++ [x]) S SC) : Rs w wr B sb sn cb cn tv mv (.slice ao W.length cap) T M W S SC :=
 ⟨h.t, h.m, h.q.cut.1, h.s, h.c, h.tm, (fun g hg hc => h.tq g hg (by rw [own_cap ao n cap W.length cap]; exact hc)), (fun g hg hc => h.mq g hg (by rw [own_cap ao n cap W.length cap]; exact hc)), h.sB, h.cB, h.bel, h.wB, h.BB⟩
theorem own_far {w w' : World} {B sb : Nat} {v : Value} {I : List (List UInt8)} (h : OwnI w B v I) (hg : w.grownBy w' (some sb)) (hs : sb < B) : OwnI w' B v I :=
 ⟨own_kept h.own (fun g hv => by
  obtain ⟨h1, h2⟩ := h.own.lt g hv
  exact hg.block g h2 (by simp; omega)), h.len⟩
theorem Rs.added {w wr w' : World} {B sb sn cb cn sn' : Nat} {tv mv wv : Value} {T M W S S' SC : List (List UInt8)} (h : Rs w wr B sb sn cb cn tv mv wv T M W S SC) (hs : Ids w' sb sn' S') (hg : wr.grownBy w' (some sb)) : Rs w w' B sb sn' cb cn tv mv wv T M W S' SC :=
 ⟨own_far h.t hg h.sB, own_far h.m hg h.sB, own_far h.q hg h.sB, hs, h.c.kept hg (by simp; have := h.cB; omega), h.tm, h.tq, h.mq, h.sB, h.cB,
  h.bel.grown hg h.bel.size (fun k hk => by injection hk with e; have := h.wB; have := h.cB; omega), h.wB, Nat.le_trans h.BB hg.size⟩
end Go.Proofs.YtkcjhkfelaplkaaGreatDoor
end
