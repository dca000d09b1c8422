/-
  WALKS OF LAYER 4: fieldsValid.
-/
import Derived.Test.YtcicfjfbnbkkcaaDoorEnts
namespace Go.Proofs.YtcicfjfbnbkkcaaDoor
open Go.RowKit
set_option linter.unusedVariables false
set_option linter.unusedSimpArgs false

/-- An object in memory, its sizes such as a machine has. -/
structure ObAt (w : World) (cs : Array Value) (o : Ob) (ao bo : Option Addr) (ca cb : Nat) : Prop where
  F : ObF cs o (.slice ao o.ents.length ca) (.slice bo o.pars.length cb)
  E : RowsAt w (.slice ao o.ents.length ca) 34 (o.ents.map enC)
  P : RowsAt w (.slice bo o.pars.length cb) 32 (o.pars.map idC)
  eid : ∀ e ∈ o.ents, e.id.length = 32
  enm : ∀ e ∈ o.ents, e.name.size ≤ maxLen
  pid : ∀ p ∈ o.pars, p.length = 32
  el : o.ents.length ≤ maxLen
  pl : o.pars.length ≤ maxLen
  nm : o.name.size ≤ maxLen
  ti : o.time < 4294967296
theorem ObAt.below {w w' : World} {cs : Array Value} {o : Ob} {ao bo : Option Addr} {ca cb : Nat} (h : ObAt w cs o ao bo ca cb) (hb : Below w.heap.size w w') : ObAt w' cs o ao bo ca cb :=
  ⟨h.F, h.E.below hb, h.P.below hb, h.eid, h.enm, h.pid, h.el, h.pl, h.nm, h.ti⟩

/-- An object that may be, but for the length of its encoding. -/
def validB (o : Ob) : Bool := foreignZ o && (if o.kind = 1 then true else if o.kind = 2 then (decide (o.ents.length ≤ 64) && entsOk .empty o.ents) else if o.kind = 3 then decide (o.pars.length ≤ 8) else if o.kind = 4 then (decide (1 ≤ o.of ∧ o.of ≤ 4) && nameOk o.name) else false)

set_option maxHeartbeats 1000000 in
set_option maxRecDepth 100000 in
theorem fieldsValid_any (cs : Array Value) (o : Ob) (ao bo : Option Addr) (ca cb : Nat) (w : World) (h : ObAt w cs o ao bo ca cb) :
    Calls Tryd.prog 16 #[.agg cs] w fun r w' => r = .returned (.bool (validB o)) ∧ Below w.heap.size w w' := by
  have H1 := Lib.hid (fun W => foreign_any cs o _ _ _ _ W h.F)
  have H2 := Lib.hid (fun W (hb : Below w.heap.size w W) => entriesValid_any o.ents ao ca W (h.E.below hb) h.eid h.enm h.el)
  have H3 := Lib.hid (fun W => name_any o.name W h.nm)
  have HZ := Lib.hid (show validB o = (foreignZ o && (if o.kind = 1 then true else if o.kind = 2 then (decide (o.ents.length ≤ 64) && entsOk .empty o.ents) else if o.kind = 3 then decide (o.pars.length ≤ 8) else if o.kind = 4 then (decide (1 ≤ o.of ∧ o.of ≤ 4) && nameOk o.name) else false)) from rfl)
  have HS := Lib.hid h.F.size
  have C0 := Lib.hid h.F.c0
  have C2 := Lib.hid h.F.c2
  have C35 := Lib.hid h.F.c35
  have C70 := Lib.hid h.F.c70
  have C71 := Lib.hid h.F.c71
  have K0 := Kp.box w cs 29
  have hpl := h.pl
  unfold maxLen at hpl
  generalize validB o = z at HZ
  generalize foreignZ o = b1 at H1 HZ
  generalize (decide (o.ents.length ≤ 64) && entsOk .empty o.ents) = b2 at H2 HZ
  generalize nameOk o.name = b3 at H3 HZ
  have H4 := Lib.hid (fun W => isKind_any o.of W)
  generalize decide (1 ≤ o.of ∧ o.of ≤ 4) = b4 at H4 HZ
  generalize o.kind = k at HZ C0
  clear h
  go_enter Tryd.func16, Tryd.ntmps16
  go_wp2_with (first
    | (go_at_call 32; ((with_reducible refine (H1.out _).mono ?_); rintro r wx ⟨rfl, hx⟩; have kx := K0.step hx; have c0 := kx.cell C0.out; have c2 := kx.cell C2.out; have c35 := kx.cell C35.out; have c70 := kx.cell C70.out; have c71 := kx.cell C71.out; clear hx))
    | (go_at_call 33; ((with_reducible refine (H2.out _ (Kp.below (by assumption))).mono ?_); rintro r wy ⟨rfl, hx⟩; have ky := Kp.step (by assumption) hx; clear hx))
    | (go_at_call 34; ((with_reducible refine (H4.out _).mono ?_); rintro r wy ⟨rfl, rfl⟩))
    | (go_at_call 11; ((with_reducible refine (H3.out _).mono ?_); rintro r wy ⟨rfl, rfl⟩))
    | ((with_reducible apply load_ob (k := K0) (hs := HS.out)); rfl; rfl; rfl))
  all_goals
    go_ret
    exact ⟨ret_bool (by rw [HZ.out]; simp_all <;> omega), Kp.below (by assumption)⟩
end Go.Proofs.YtcicfjfbnbkkcaaDoor
