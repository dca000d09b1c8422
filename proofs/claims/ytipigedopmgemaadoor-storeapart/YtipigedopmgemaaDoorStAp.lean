/-
  WALKS OF LAYER 11: what StoreApart wants of Put and With (Put of a store's rows downwards; one text for both; what stands behind a Put).
-/
import Derived.Test.YtipigedopmgemaaDoorStKn
namespace Go.Proofs.YtipigedopmgemaaDoor
open Go.RowKit
set_option linter.unusedVariables false
set_option linter.unusedSimpArgs false

/-- The document's store stands behind a Put. -/
theorem DSt.afterKept {w w' : World} {sv v : Value} {L L0 : List St.It} {base b : Nat} (h : DSt w sv L) (hp : PSt w base b v L0) (hk : Kept w w' b v) : DSt w' sv L :=
  h.kept (fun g cs hh => hk.block g (Array.getElem?_eq_some_iff.1 hh).1 (fun e => by subst e; rw [hp.box] at hh; simp at hh) (own_box hp.own hh (by decide)))
theorem box_afterKept {w w' : World} {v : Value} {L0 : List St.It} {base b g : Nat} {c : Array Value} (hb : w.heap[g]? = some (Obj.cells c 27 (0, 0))) (hp : PSt w base b v L0) (hk : Kept w w' b v) : w'.heap[g]? = some (Obj.cells c 27 (0, 0)) :=
  (hk.block g (Array.getElem?_eq_some_iff.1 hb).1 (fun e => by subst e; rw [hp.box] at hb; simp at hb) (own_box hp.own hb (by decide))).trans hb
/-- Another store, made later, stands behind a Put. -/
theorem PSt.afterKept {w w' : World} {v v2 : Value} {L0 L2 : List St.It} {base b base2 b2 : Nat} (h : PSt w base2 b2 v2 L2) (hp : PSt w base b v L0) (hk : Kept w w' b v) (hb : b < base2) (ho : ∀ g, v.ownBlock = some g → g < base2) : PSt w' base2 b2 v2 L2 := by
  have hge := h.ge
  refine ⟨(hk.block b2 h.lt (by omega) (fun e => by have := ho _ e.symm; omega)).trans h.box, own_kept h.own (fun g hg => ?_), h.ge, h.len, h.srt, h.few⟩
  have h2 := h.own.lt g hg
  exact hk.block g h2.2 (by omega) (fun e => by have := ho _ e.symm; omega)

end Go.Proofs.YtipigedopmgemaaDoor
