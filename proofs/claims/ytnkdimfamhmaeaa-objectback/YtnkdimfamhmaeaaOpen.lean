/-
  LAYER 4: an object that comes in, opened: its cells, and what lies behind its slices.
-/
import Derived.Test.YtnkdimfamhmaeaaValid
import Derived.ProofKit
import Derived.OpenShut
import Derived.SizedLaws
import Derived.Deep.Slices
import Derived.ChangeSame
import Derived.Carry
namespace Go.Proofs.Ytnkdimfamhmaeaa
open Go.ChangeShapes Go.WideShapes Go.ChangeAt Go.RowKit Go.Deep
set_option linter.unusedVariables false
set_option linter.unusedSimpArgs false

theorem k8 : Try.prog.cellsOf 5 = 1 := by kernel_rfl
theorem kI : Try.prog.cellsOf 3 = 1 := by kernel_rfl
theorem kS : Try.prog.cellsOf 9 = 1 := by kernel_rfl
theorem kU : Try.prog.cellsOf 26 = 1 := by kernel_rfl
theorem kId : Try.prog.cellsOf 24 = 32 := by kernel_rfl
theorem kEn : Try.prog.cellsOf 39 = 34 := by kernel_rfl
theorem kOb : Try.prog.cellsOf 28 = 72 := by kernel_rfl
theorem kEs : Try.prog.cellsOf 22 = 1 := by kernel_rfl
theorem kPs : Try.prog.cellsOf 25 = 1 := by kernel_rfl

def byteOf : Value → UInt8
  | .int _ n => UInt8.ofNat n.toNat
  | _ => 0
theorem bv_byteOf {z : Int} (h : (Lit.int .u8 z).wf = true) : bv (byteOf (.int .u8 z)) = .int .u8 z := by
  simp [Lit.wf, IntKind.min, IntKind.max, IntKind.signed, IntKind.bits] at h
  have : z.toNat % 256 = z.toNat := by omega
  simp [bv, byteOf, UInt8.toNat_ofNat', this]
  omega
theorem one_at {cs : List Value} {k : Nat} {v : Value} (h : (cs.drop k).take 1 = [v]) : cs[k]? = some v := by
  have := congrArg (·[0]?) h
  simpa [List.getElem?_take, List.getElem?_drop] using this
theorem many_at {cs l : List Value} {k n : Nat} (h : (cs.drop k).take n = l) (hl : l.length = n) : ∀ j v, l[j]? = some v → cs[k + j]? = some v := fun j v hv => by
  have hj := (List.getElem?_eq_some_iff.1 hv).1
  rw [← h, List.getElem?_take, if_pos (by omega), List.getElem?_drop] at hv
  exact hv
theorem list_of {α : Type} {P : Nat → α → Prop} : ∀ n : Nat, (∀ i, i < n → ∃ e, P i e) → ∃ l : List α, l.length = n ∧ ∀ i e, l[i]? = some e → P i e
  | 0, _ => ⟨[], rfl, fun i e h => by simp at h⟩
  | n + 1, h => by
    obtain ⟨l, hl, hp⟩ := list_of n (fun i hi => h i (by omega))
    obtain ⟨e, he⟩ := h n (by omega)
    refine ⟨l ++ [e], by simp [hl], fun i x hx => ?_⟩
    by_cases hi : i < n
    · rw [List.getElem?_append_left (by omega)] at hx
      exact hp i x hx
    · have hin : i < n + 1 := by
        have := (List.getElem?_eq_some_iff.1 hx).1
        simp [hl] at this; omega
      have : i = n := by omega
      subst this
      rw [List.getElem?_append_right (by omega), hl] at hx
      simp at hx; subst hx; exact he

section
variable {H : Type} {enc : TypeId × Value → H} {w : World} {base : Nat} {spare : Nat → Bool} {held : Bool} {fuel : Nat} {cs : List Value} {x : DataW H × List MemPlace}
theorem open_idl (h : DataW.trod enc Try.prog w base spare held fuel 24 cs = some x) : ∃ l : List UInt8, cs = idC l ∧ l.length = 32 := by
  obtain ⟨ys, m, _, ex, hlen, hl, hel⟩ := DataW.trod_array Try.underlying24 h
  rw [k8] at hel
  rw [kId] at hlen
  have key : ∀ (i : Nat) (hi : i < 32), ∃ z, cs[i]? = some (.int .u8 z) ∧ (Lit.int .u8 z).wf = true := by
    intro i hi
    have k := hel i hi
    rw [List.getElem?_eq_getElem (by omega)] at k
    obtain ⟨z, e1, e2, e3⟩ := DataW.trod_int Try.underlying5 k
    exact ⟨z, by simpa using one_at e1, e3⟩
  refine ⟨cs.map byteOf, ?_, by simpa using hlen⟩
  apply List.ext_getElem?
  intro i
  by_cases hi : i < 32
  · obtain ⟨z, e1, e3⟩ := key i hi
    simp only [idC, List.map_map, List.getElem?_map, e1, Option.map_some, Function.comp_apply, bv_byteOf e3]
  · rw [List.getElem?_eq_none (by omega), List.getElem?_eq_none (by simp [idC]; omega)]
theorem open_en (h : DataW.trod enc Try.prog w base spare held fuel 39 cs = some x) : ∃ e : En, cs = enC e ∧ e.id.length = 32 ∧ e.name.size ≤ maxLen := by
  obtain ⟨xs, n, _, _, hlen, hl, hg⟩ := DataW.trod_struct Try.underlying39 h
  have hl3 : xs.length = 3 := hl
  rw [kEn] at hlen
  have g0 : DataW.trod enc Try.prog w base spare held n 9 ((cs.drop 0).take (Try.prog.cellsOf 9)) = xs[0]? := hg 0 _ rfl
  have g1 : DataW.trod enc Try.prog w base spare held n 3 ((cs.drop 1).take (Try.prog.cellsOf 3)) = xs[1]? := hg 1 _ rfl
  have g2 : DataW.trod enc Try.prog w base spare held n 24 ((cs.drop 2).take (Try.prog.cellsOf 24)) = xs[2]? := hg 2 _ rfl
  rw [kS, List.getElem?_eq_getElem (by omega)] at g0
  rw [kI, List.getElem?_eq_getElem (by omega)] at g1
  rw [kId, List.getElem?_eq_getElem (by omega)] at g2
  obtain ⟨s, e0, _, hs⟩ := DataW.trod_string Try.underlying9 g0
  obtain ⟨k, e1, _, _⟩ := DataW.trod_int Try.underlying3 g1
  obtain ⟨l, e2, h32⟩ := open_idl g2
  match cs, hlen, e0, e1, e2 with
  | c0 :: c1 :: r, hlen, e0, e1, e2 =>
    simp at e0 e1
    have hr : r.length = 32 := by simpa using hlen
    have e2' : r.take 32 = idC l := by simpa using e2
    rw [List.take_of_length_le (by omega)] at e2'
    exact ⟨⟨s, k, l⟩, by rw [e0, e1, e2']; rfl, h32, hs⟩
  | [c0], hlen, _, _, _ => simp at hlen
  | [], hlen, _, _, _ => simp at hlen
theorem open_es (h : DataW.trod enc Try.prog w base (fun _ => true) held fuel 22 cs = some x) :
    ∃ (es : List En) (ao : Option Addr) (ca : Nat), cs = [.slice ao es.length ca] ∧ RowsAt w (.slice ao es.length ca) 34 (es.map enC) ∧ (∀ e ∈ es, e.id.length = 32 ∧ e.name.size ≤ maxLen) ∧ es.length ≤ maxLen := by
  rcases open_slice Try.underlying22 h with ⟨rfl, _⟩ | ⟨a, len, cap, m, n, D, Pl, hcs, hb, hl, hm, hmm, hx, hi⟩
  · exact ⟨[], none, 0, rfl, RowsAt.nil w 34, (fun e he => by cases he), Nat.zero_le _⟩
  · have hm' : m = cap := by simpa using hmm
    rw [kEn] at hi
    obtain ⟨es, hlen, hes⟩ := list_of (P := fun i (e : En) => (∀ j x, (enC e)[j]? = some x → w.cell? ((a.add (i * 34)).add j) = some x) ∧ e.id.length = 32 ∧ e.name.size ≤ maxLen) len (fun i hi' => by
      obtain ⟨cs', hc, ht⟩ := hi i (by omega)
      obtain ⟨e, he, h1, h2⟩ := open_en ht
      obtain ⟨_, hcl, hat⟩ := World.cells?_some hc
      refine ⟨e, fun j x hx => ?_, h1, h2⟩
      have hj := (List.getElem?_eq_some_iff.1 hx).1
      rw [enC_length, h1] at hj
      rw [hat j (by omega), he]; exact hx)
    subst hlen
    refine ⟨es, some a, cap, hcs, ⟨.inr ⟨a, cap, by simp, fun i c hc => ?_⟩⟩, fun e he => ?_, by omega⟩
    · rw [List.getElem?_map] at hc
      cases hq : es[i]? with
      | none => rw [hq] at hc; simp at hc
      | some e =>
        rw [hq] at hc
        simp at hc
        subst hc
        exact ⟨by rw [enC_length, (hes i e hq).2.1], (hes i e hq).1⟩
    · obtain ⟨i, hi', rfl⟩ := List.getElem_of_mem he
      exact (hes i _ (List.getElem?_eq_getElem hi')).2
theorem open_ps (h : DataW.trod enc Try.prog w base (fun _ => true) held fuel 25 cs = some x) :
    ∃ (ps : List (List UInt8)) (bo : Option Addr) (cb : Nat), cs = [.slice bo ps.length cb] ∧ RowsAt w (.slice bo ps.length cb) 32 (ps.map idC) ∧ (∀ p ∈ ps, p.length = 32) ∧ ps.length ≤ maxLen := by
  rcases open_slice Try.underlying25 h with ⟨rfl, _⟩ | ⟨a, len, cap, m, n, D, Pl, hcs, hb, hl, hm, hmm, hx, hi⟩
  · exact ⟨[], none, 0, rfl, RowsAt.nil w 32, (fun e he => by cases he), Nat.zero_le _⟩
  · have hm' : m = cap := by simpa using hmm
    rw [kId] at hi
    obtain ⟨ps, hlen, hes⟩ := list_of (P := fun i (l : List UInt8) => (∀ j x, (idC l)[j]? = some x → w.cell? ((a.add (i * 32)).add j) = some x) ∧ l.length = 32) len (fun i hi' => by
      obtain ⟨cs', hc, ht⟩ := hi i (by omega)
      obtain ⟨l, he, h1⟩ := open_idl ht
      obtain ⟨_, hcl, hat⟩ := World.cells?_some hc
      refine ⟨l, fun j x hx => ?_, h1⟩
      have hj := (List.getElem?_eq_some_iff.1 hx).1
      rw [idC_length, h1] at hj
      rw [hat j (by omega), he]; exact hx)
    subst hlen
    refine ⟨ps, some a, cap, hcs, ⟨.inr ⟨a, cap, by simp, fun i c hc => ?_⟩⟩, fun e he => ?_, by omega⟩
    · rw [List.getElem?_map] at hc
      cases hq : ps[i]? with
      | none => rw [hq] at hc; simp at hc
      | some e =>
        rw [hq] at hc
        simp at hc
        subst hc
        exact ⟨by rw [idC_length, (hes i e hq).2], (hes i e hq).1⟩
    · obtain ⟨i, hi', rfl⟩ := List.getElem_of_mem he
      exact (hes i _ (List.getElem?_eq_getElem hi')).2
theorem slice_one (ao : Option Addr) (n c : Nat) : (Value.slice ao n c).oneCell' = true := rfl
theorem open_obl (h : DataW.trod enc Try.prog w base (fun _ => true) held fuel 28 cs = some x) :
    ∃ (o : Ob) (ao bo : Option Addr) (ca cb : Nat), ObAt w cs.toArray o ao bo ca cb ∧ o.data.size ≤ maxLen ∧ o.text.size ≤ maxLen := by
  obtain ⟨xs, n, _, _, hlen, hl, hg⟩ := DataW.trod_struct Try.underlying28 h
  have hl3 : xs.length = 10 := hl
  rw [kOb] at hlen
  have g0 : DataW.trod enc Try.prog w base (fun _ => true) held n 3 ((cs.drop 0).take (Try.prog.cellsOf 3)) = xs[0]? := hg 0 _ rfl
  have g1 : DataW.trod enc Try.prog w base (fun _ => true) held n 9 ((cs.drop 1).take (Try.prog.cellsOf 9)) = xs[1]? := hg 1 _ rfl
  have g2 : DataW.trod enc Try.prog w base (fun _ => true) held n 22 ((cs.drop 2).take (Try.prog.cellsOf 22)) = xs[2]? := hg 2 _ rfl
  have g3 : DataW.trod enc Try.prog w base (fun _ => true) held n 24 ((cs.drop 3).take (Try.prog.cellsOf 24)) = xs[3]? := hg 3 _ rfl
  have g4 : DataW.trod enc Try.prog w base (fun _ => true) held n 25 ((cs.drop 35).take (Try.prog.cellsOf 25)) = xs[4]? := hg 4 _ rfl
  have g5 : DataW.trod enc Try.prog w base (fun _ => true) held n 26 ((cs.drop 36).take (Try.prog.cellsOf 26)) = xs[5]? := hg 5 _ rfl
  have g6 : DataW.trod enc Try.prog w base (fun _ => true) held n 9 ((cs.drop 37).take (Try.prog.cellsOf 9)) = xs[6]? := hg 6 _ rfl
  have g7 : DataW.trod enc Try.prog w base (fun _ => true) held n 24 ((cs.drop 38).take (Try.prog.cellsOf 24)) = xs[7]? := hg 7 _ rfl
  have g8 : DataW.trod enc Try.prog w base (fun _ => true) held n 3 ((cs.drop 70).take (Try.prog.cellsOf 3)) = xs[8]? := hg 8 _ rfl
  have g9 : DataW.trod enc Try.prog w base (fun _ => true) held n 9 ((cs.drop 71).take (Try.prog.cellsOf 9)) = xs[9]? := hg 9 _ rfl
  rw [kI, List.getElem?_eq_getElem (by omega)] at g0 g8
  rw [kS, List.getElem?_eq_getElem (by omega)] at g1 g6 g9
  rw [kEs, List.getElem?_eq_getElem (by omega)] at g2
  rw [kPs, List.getElem?_eq_getElem (by omega)] at g4
  rw [kId, List.getElem?_eq_getElem (by omega)] at g3 g7
  rw [kU, List.getElem?_eq_getElem (by omega)] at g5
  obtain ⟨k, e0, _, _⟩ := DataW.trod_int Try.underlying3 g0
  obtain ⟨d, e1, _, hd⟩ := DataW.trod_string Try.underlying9 g1
  obtain ⟨es, ao, ca, e2, hE, hee, hel⟩ := open_es g2
  obtain ⟨tr, e3, ht⟩ := open_idl g3
  obtain ⟨ps, bo, cb, e4, hP, hpp, hpl⟩ := open_ps g4
  obtain ⟨ti, e5, _, hti⟩ := DataW.trod_int Try.underlying26 g5
  obtain ⟨te, e6, _, hte⟩ := DataW.trod_string Try.underlying9 g6
  obtain ⟨ta, e7, hta⟩ := open_idl g7
  obtain ⟨f, e8, _, _⟩ := DataW.trod_int Try.underlying3 g8
  obtain ⟨nm, e9, _, hnm⟩ := DataW.trod_string Try.underlying9 g9
  simp [Lit.wf, IntKind.min, IntKind.max, IntKind.signed, IntKind.bits] at hti
  obtain ⟨tn, rfl⟩ := Int.eq_ofNat_of_zero_le hti.1
  have H3 := many_at e3 (by rw [idC_length, ht])
  have H7 := many_at e7 (by rw [idC_length, hta])
  refine ⟨⟨k, d, es, tr, ps, tn, te, ta, f, nm⟩, ao, bo, ca, cb, ⟨⟨?_, ?_, ?_, ?_, ?_, ?_, ?_, ?_, ?_, ?_, ht, hta, ?_, ?_⟩, hE, hP, fun e he => (hee e he).1, fun e he => (hee e he).2, hpp, hel, hpl, hnm, (show tn < 4294967296 by omega)⟩, hd, hte⟩
  · simpa using one_at e0
  · simpa using one_at e1
  · simpa using one_at e2
  · intro j v hv; simpa using H3 j v hv
  · simpa using one_at e4
  · simpa using one_at e5
  · simpa using one_at e6
  · intro j v hv; simpa using H7 j v hv
  · simpa using one_at e8
  · simpa using one_at e9
  · simpa using hlen
  · refine all_oneCell_toArray (fun v hv => ?_)
    obtain ⟨i, hi, rfl⟩ := List.getElem_of_mem hv
    have hci : cs[i]? = some cs[i] := List.getElem?_eq_getElem hi
    have put : ∀ {u : Value}, cs[i]? = some u → u.oneCell' = true → (cs[i]).oneCell' = true := fun {u} h1 h2 => by rw [hci] at h1; rw [Option.some.inj h1]; exact h2
    rcases (by omega : i = 0 ∨ i = 1 ∨ i = 2 ∨ (3 ≤ i ∧ i < 35) ∨ i = 35 ∨ i = 36 ∨ i = 37 ∨ (38 ≤ i ∧ i < 70) ∨ i = 70 ∨ i = 71) with rfl | rfl | rfl | hh | rfl | rfl | rfl | hh | rfl | rfl
    · exact put (one_at e0) rfl
    · exact put (one_at e1) rfl
    · exact put (one_at e2) rfl
    · have hl' : i - 3 < (idC tr).length := by rw [idC_length, ht]; omega
      have := H3 (i - 3) _ (List.getElem?_eq_getElem hl')
      rw [show 3 + (i - 3) = i by omega] at this
      exact put this (idC_one _ _ (List.getElem_mem hl'))
    · exact put (one_at e4) rfl
    · exact put (one_at e5) rfl
    · exact put (one_at e6) rfl
    · have hl' : i - 38 < (idC ta).length := by rw [idC_length, hta]; omega
      have := H7 (i - 38) _ (List.getElem?_eq_getElem hl')
      rw [show 38 + (i - 38) = i by omega] at this
      exact put this (idC_one _ _ (List.getElem_mem hl'))
    · exact put (one_at e8) rfl
    · exact put (one_at e9) rfl
end
end Go.Proofs.Ytnkdimfamhmaeaa
