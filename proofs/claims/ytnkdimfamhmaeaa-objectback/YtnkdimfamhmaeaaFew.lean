/-
  WALKS OF LAYER 4: few (knapsacklaw04).
-/
import Derived.Test.YtnkdimfamhmaeaaEncode2
namespace Go.Proofs.Ytnkdimfamhmaeaa
open Go.RowKit
set_option linter.unusedVariables false
set_option linter.unusedSimpArgs false

/-- An object such as is gone through. -/
structure FewP (o : Ob) : Prop where
  e : o.ents.length ≤ 70
  p : o.pars.length ≤ 20
  d : o.data.size ≤ 5000
  t : o.text.size ≤ 5000
  n : o.name.size ≤ 100
  en : ∀ e ∈ o.ents, e.name.size ≤ 100

def FewR (o : Ob) (r : Ending) : Prop := ∃ b, r = .returned (.bool b) ∧ (b = true → FewP o)

set_option maxHeartbeats 1000000 in
set_option maxRecDepth 100000 in
theorem few_any (cs : Array Value) (o : Ob) (ao bo : Option Addr) (ca cb : Nat) (w : World) (h : ObAt w cs o ao bo ca cb) (hd : o.data.size ≤ maxLen) (ht : o.text.size ≤ maxLen) :
    Calls Try.prog 4 #[.agg cs] w fun r w' => FewR o r ∧ Below w.heap.size w w' := by
  have C2 := Lib.hid h.F.c2
  have c2 := h.F.c2
  have c35 := h.F.c35
  have c1 := h.F.c1
  have c37 := h.F.c37
  have c71 := h.F.c71
  have hel := h.el
  have hpl := h.pl
  have hnm := h.nm
  unfold maxLen at hel hpl hnm hd ht
  have HE := Lib.hid h.E
  have HD := Lib.hid h.eid
  have HNN := Lib.hid h.enm
  have K0 := Kp.box w cs 28
  clear h
  go_enter Try.func4, Try.ntmps4
  go_wp2
  all_goals first
    | (go_ret
       exact ⟨⟨false, rfl, fun h => by cases h⟩, K0.below⟩)
    | skip
  go_loopw [3] (fun i wr => ∃ (k : Nat), k ≤ o.ents.length ∧ i = .int .i64 k ∧ Hid (∀ e ∈ o.ents.take k, e.name.size ≤ 100) ∧ Kp w cs 28 wr) (fun i _ => o.ents.length - (intOf i).toNat)
  case atStart => exact ⟨0, by omega, rfl, fun e he => by simp at he, K0⟩
  case round =>
    clear K0
    obtain ⟨k, hk, rfl, HS, K1⟩ := hrel
    have c2' := K1.cell C2.out
    by_cases hlt : k < o.ents.length
    · have hlt' : (k : Int) < (o.ents.length : Int) := by omega
      obtain ⟨e, he⟩ : ∃ e, o.ents[k]? = some e := ⟨o.ents[k], List.getElem?_eq_getElem hlt⟩
      obtain ⟨a, rfl, hc⟩ := ent_cells (HE.out.below K1.below) k e he
      have hcn : wr.cell? (a.add (k * 34)) = some (.string e.name) := by simpa [Addr.add] using hc 0 (.string e.name) rfl
      have hne := HNN.out e (List.mem_of_getElem? he)
      unfold maxLen at hne
      have HT := Lib.hid (fun h100 : e.name.size ≤ 100 => (by
        intro x hx
        obtain ⟨hk3, rfl⟩ := List.getElem?_eq_some_iff.1 he
        rw [List.take_succ_eq_append_getElem hk3, List.mem_append, List.mem_singleton] at hx
        rcases hx with hx | rfl
        · exact HS.out x hx
        · exact h100 : ∀ x ∈ o.ents.take (k + 1), x.name.size ≤ 100))
      clear hc he
      go_wp2
      all_goals first
        | (go_ret
           exact ⟨⟨false, rfl, fun h => by cases h⟩, K1.below⟩)
        | exact ⟨⟨k + 1, by omega, by go_num, HT.out (by omega), K1⟩, by simp [intOf]; omega⟩
    · have HT := Lib.hid (show ∀ e ∈ o.ents, e.name.size ≤ 100 by
        have := HS.out
        rwa [List.take_of_length_le (by omega)] at this)
      go_wp2
      go_ret
      exact ⟨⟨true, rfl, fun _ => ⟨by omega, by omega, by omega, by omega, by omega, HT.out⟩⟩, K1.below⟩
end Go.Proofs.Ytnkdimfamhmaeaa
