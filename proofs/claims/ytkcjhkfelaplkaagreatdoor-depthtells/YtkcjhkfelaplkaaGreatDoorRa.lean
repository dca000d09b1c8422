/-
  WALKS OF LAYER 12: the law GraphReaches, with what its examples answer handed in.
-/
import Derived.Test.YtkcjhkfelaplkaaGreatDoorQz
import Derived.Test.YtkcjhkfelaplkaaGreatDoorQy
import Derived.Test.YtkcjhkfelaplkaaGreatDoorQp
import Derived.Test.YtkcjhkfelaplkaaGreatDoorQa
set_option linter.unusedVariables false
set_option linter.unusedSimpArgs false
set_option maxHeartbeats 8000000
set_option maxRecDepth 100000
section
namespace Go.Proofs.YtkcjhkfelaplkaaGreatDoor
open Go.RowKit
theorem sameids2_any (w : World) (v1 v2 : Value) (I : List (List UInt8)) (h1 : IdsAt w v1 I) (h2 : IdsAt w v2 I) (hl : ∀ i ∈ I, i.length = 32) (hn : I.length ≤ 100000) :
  Calls Tryz.prog 17 #[v1, v2] w fun r w' => r = .returned (.bool true) ∧ Below w.heap.size w w' := by
 obtain ⟨ao, c1, rfl⟩ : ∃ ao cap, v1 = .slice ao I.length cap := by simpa using RowsAt.form h1
 obtain ⟨bo, c2, rfl⟩ : ∃ ao cap, v2 = .slice ao I.length cap := by simpa using RowsAt.form h2
 have H1 := Lib.hid h1
 have H2 := Lib.hid h2
 have HL := Lib.hid hl
 clear h1 h2 hl
 go_enter Tryz.func17, Tryz.ntmps17
 go_wp2_with fail
 go_loopw [5] (fun i wr => ∃ (k : Nat), k ≤ I.length ∧ i = .int .i64 k ∧ Hid (Below w.heap.size w wr)) (fun i _ => I.length - (intOf i).toNat)
 case atStart => exact ⟨0, by omega, rfl, Below.refl _ _⟩
 case round =>
  obtain ⟨k, hk, rfl, HB⟩ := hrel
  by_cases hlt : k < I.length
  ·
   have hlt' : (k : Int) < (I.length : Int) := by omega
   have hk0 : (0 : Int) ≤ (k : Int) := by omega
   obtain ⟨id, hx⟩ : ∃ x, I[k]? = some x := ⟨I[k], List.getElem?_eq_getElem hlt⟩
   have hxl := HL.out id (List.mem_of_getElem? hx)
   obtain ⟨a, rfl, _, hc⟩ := (RowsAt.below H1.out HB.out).elem k (idC id) (by simp [hx])
   obtain ⟨b, rfl, _, hd⟩ := (RowsAt.below H2.out HB.out).elem k (idC id) (by simp [hx])
   have HC1 := Lib.hid (show ∀ j u, (idC id)[j]? = some u → wr.drew.cell? ((a.add (k * 32)).add j) = some u from hc)
   have HC2 := Lib.hid (show ∀ j u, (idC id)[j]? = some u → wr.drew.cell? ((b.add (k * 32)).add j) = some u from hd)
   have HXL := Lib.hid hxl
   have hq : ∀ W, (Op.equalIn 10000 46 (.agg (idC id).toArray) (.agg (idC id).toArray)).run Tryz.prog W = .ok true W := fun W => by
    have := eq_id id id hxl hxl W; simpa using this
   clear hx hxl hc hd
   go_wp2_with fail
   refine rgn_still (by kernel_rfl) (by kernel_rfl) ?_
   repeat still_step
   (with_reducible apply still_id (hc := HC1.out) (hl := HXL.out))
   rfl
   rfl
   rfl
   repeat still_step
   (with_reducible apply still_id (hc := HC2.out) (hl := HXL.out))
   rfl
   rfl
   rfl
   repeat still_step
   refine wpStill_nil ?_
   go_wp2_with fail
   go_roundw
   case rel => exact ⟨k + 1, by omega, by go_num, HB.out.drew⟩
   case measure => simp [intOf]; omega
  ·
   go_wp2_with fail
   go_ret
   exact ⟨rfl, HB.out⟩
theorem hi_size : (Tryz.prog.info? 25).map (·.size) = some 4 := by kernel_rfl
theorem hi_under : Tryz.prog.underlying 25 = some (.struct (Tryz.prog.fieldsOf 25)) := by kernel_rfl
theorem ld_hi {ops : Array Oper} {rest : List Oper} {op : Oper} {a : Act} {w : World} {Q : Exit → Act → World → Prop} {x : Operand} {p : Addr} {c : List Value} (ho : op.op = .load 25 x) (hx : a.eval x = .pointer (some p)) (hg : op.guard = none) (hc : ∀ j v, c[j]? = some v → w.cell? (p.add j) = some v) (hl : c.length = 4)
  (h : wpList Tryz.prog ops Q rest (a.put op.dst (.agg c.toArray)) w) : wpList Tryz.prog ops Q (op :: rest) a w :=
 wpList_load_at hg 25 x ho p hx _ _ hc hi_under rfl (by rw [hl]; exact hi_size) h
end Go.Proofs.YtkcjhkfelaplkaaGreatDoor
end
section
namespace Go.Proofs.YtkcjhkfelaplkaaGreatDoor
open Go.RowKit
structure Lw (w W : World) (hv : List Value) (mb b : Nat) (mv v' : Value) (L : List St.It) (B kk : Nat) : Prop where
 bel : Below w.heap.size w W
 kin : S2.KIn W
 hist : W.heap[w.heap.size]? = some (.cells hv.toArray 25)
 mbox : W.heap[mb]? = some (.cells #[mv] 28)
 dst : R.DSt B kk W mv L
 pst : PSt W b b v' L
theorem Lw.below {w W W' : World} {hv : List Value} {mb b : Nat} {mv v' : Value} {L : List St.It} {B kk : Nat} (h : Lw w W hv mb b mv v' L B kk) (hb : Below W.heap.size W W') : Lw w W' hv mb b mv v' L B kk :=
 ⟨h.bel.trans (hb.mono h.bel.size), h.kin.step hb, (hb.block _ (Array.getElem?_eq_some_iff.1 h.hist).1).trans h.hist, (hb.block _ (Array.getElem?_eq_some_iff.1 h.mbox).1).trans h.mbox, h.dst.below hb, h.pst.below hb⟩
theorem Lw.m0 {w W : World} {hv : List Value} {mb b : Nat} {mv v' : Value} {L : List St.It} {B kk : Nat} (h : Lw w W hv mb b mv v' L B kk) : W.cell? ⟨mb, 0, none⟩ = some mv := by rw [cell_of_row _ _ 0 _ _ _ h.mbox]; rfl
theorem dst_dec {B kk : Nat} {W : World} {mv : Value} {L : List St.It} (h : R.DSt B kk W mv L) : Gr.Dec L := fun r hr => by
 obtain ⟨i, hi⟩ := List.getElem?_of_mem hr
 obtain ⟨C, _, hI⟩ := h.rows
 have hl : i < C.length := by rw [hI.len]; exact (List.getElem?_eq_some_iff.1 hi).1
 obtain ⟨o, _, _, _, _, _, _, _, _, hd, _⟩ := hI.at_ i _ r (List.getElem?_eq_getElem hl) hi
 exact ⟨o, hd⟩
end Go.Proofs.YtkcjhkfelaplkaaGreatDoor
end
