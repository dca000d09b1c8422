/-
  WALKS OF LAYER 4: entriesValid.
  WALKS OF LAYER 4: fieldsValid.
  WALKS OF LAYER 4: oneByte; treeBody.
  WALKS OF LAYER 4: commitBody, body, Encode.
  WALKS OF LAYER 4: body, Encode.
  WALKS OF LAYER 4: Encode.
  WALKS OF LAYER 4: the document's own body (knapsackref04.body).
  WALKS OF LAYER 4: the document's own body (knapsackref04.body), of blobs, commits and tags.
-/
import Derived.Test.YtipigedopmgemaaDoorLa
import Derived.Deep.RegionHeld3
section
namespace Go.Proofs.YtipigedopmgemaaDoor
open Go.RowKit
set_option linter.unusedVariables false
set_option linter.unusedSimpArgs false

/-- A name behind another one. -/
def gtB (last name : ByteArray) : Bool := !(Op.bytesLess name.toList last.toList || name.toList == last.toList)
/-- Entries that may be, behind a name. -/
def entsOk : ByteArray → List En → Bool
  | _, [] => true
  | last, e :: r => nameOk e.name && gtB last e.name && (e.kind == 1 || e.kind == 2) && entsOk e.name r

set_option maxHeartbeats 1000000 in
set_option maxRecDepth 100000 in
theorem entriesValid_any (es : List En) (ao : Option Addr) (cap : Nat) (w : World) (hR : RowsAt w (.slice ao es.length cap) 34 (es.map enC)) (hid : ∀ e ∈ es, e.id.length = 32) (hn : ∀ e ∈ es, e.name.size ≤ maxLen) (hl : es.length ≤ maxLen) :
    Calls Tryd.prog 62 #[.slice ao es.length cap] w fun r w' => r = .returned (.bool (decide (es.length ≤ 64) && entsOk .empty es)) ∧ Below w.heap.size w w' := by
  unfold maxLen at hl
  have HR := Lib.hid hR
  have HN := Lib.hid hn
  have HD := Lib.hid hid
  clear hR hn hid
  generalize hZ : (decide (es.length ≤ 64) && entsOk .empty es) = z
  have HZ := Lib.hid hZ
  clear hZ
  by_cases h64 : es.length ≤ 64
  · have h64' : ¬ (64 : Int) < (es.length : Int) := by omega
    go_enter Tryd.func62, Tryd.ntmps62
    go_wp2
    go_loopw [3, 11] (fun l i wr => ∃ (k : Nat) (last : ByteArray), k ≤ es.length ∧ i = .int .i64 k ∧ l = .string last ∧ Hid (z = entsOk last (es.drop k)) ∧ Below w.heap.size w wr) (fun _ i _ => es.length - (intOf i).toNat)
    case atStart => exact ⟨0, .empty, by omega, rfl, rfl, by rw [← HZ.out]; simp [Hid, h64], Below.refl _ _⟩
    case round =>
      obtain ⟨k, last, hk, rfl, rfl, HE, hb⟩ := hrel
      by_cases hlt : k < es.length
      · have hlt' : (k : Int) < (es.length : Int) := by omega
        obtain ⟨e, he⟩ : ∃ e, es[k]? = some e := ⟨es[k], List.getElem?_eq_getElem hlt⟩
        obtain ⟨a, rfl, hc⟩ := ent_cells (HR.out.below hb) k e he
        have HC := Lib.hid hc
        have hmem := List.mem_of_getElem? he
        have HL := Lib.hid (HD.out e hmem)
        have HM := Lib.hid (HN.out e hmem)
        have n0 : (enC e)[0]? = some (.string e.name) := rfl
        have n1 : (enC e)[1]? = some (.int .i64 e.kind) := rfl
        have HNM := Lib.hid (fun W => name_any e.name W HM.out)
        have HS := Lib.hid (show z = (nameOk e.name && gtB last e.name && (e.kind == 1 || e.kind == 2) && entsOk e.name (es.drop (k + 1))) by
          obtain ⟨hk2, rfl⟩ := List.getElem?_eq_some_iff.1 he
          rw [HE.out, List.drop_eq_getElem_cons hk2]; rfl)
        clear hc he hmem
        generalize nameOk e.name = nb at HNM HS
        go_wp2_with (first
          | (go_at_call 64; ((with_reducible refine (HNM.out _).mono ?_); rintro r wx ⟨rfl, rfl⟩))
          | ((with_reducible apply ld_en (hc := HC.out) (hid := HL.out)); rfl; rfl; rfl)
          | ((with_reducible apply st_en (hid := HL.out)); rfl; rfl; rfl; rfl; rfl))
        all_goals first
          | (go_ret; exact ⟨ret_bool (by rw [HS.out]; unfold gtB; simp_all <;> (intro h1 h2; rcases ‹Op.bytesLess _ _ = true ∨ _› with h | h <;> simp_all)), hb.alloc (by have := hb.size; omega) _⟩)
          | exact ⟨⟨k + 1, e.name, by omega, by go_num, rfl, by rw [HS.out]; simp only [Hid]; unfold gtB; simp_all, hb.alloc (by have := hb.size; omega) _⟩, by simp [intOf]; omega⟩
      · have HS := Lib.hid (show z = true by rw [HE.out, List.drop_of_length_le (by omega)]; rfl)
        go_wp2
        go_ret
        exact ⟨ret_bool (by rw [HS.out]), hb⟩
  · have h64' : (64 : Int) < (es.length : Int) := by omega
    have HS := Lib.hid (show z = false by rw [← HZ.out]; simp [h64])
    go_enter Tryd.func62, Tryd.ntmps62
    go_wp2
    go_ret
    exact ⟨ret_bool (by rw [HS.out]), Below.refl _ _⟩
end Go.Proofs.YtipigedopmgemaaDoor
end

section
namespace Go.Proofs.YtipigedopmgemaaDoor
open Go.RowKit
set_option linter.unusedVariables false
set_option linter.unusedSimpArgs false

/-- An object in memory, its sizes such as a machine has. -/
structure ObAt (w : World) (cs : Array Value) (o : Ob) (ao bo : Option Addr) (ca cb : Nat) : Prop where
  F : ObF cs o (.slice ao o.ents.length ca) (.slice bo o.pars.length cb)
  E : RowsAt w (.slice ao o.ents.length ca) 34 (o.ents.map enC)
  P : RowsAt w (.slice bo o.pars.length cb) 32 (o.pars.map idC)
  eid : ∀ e ∈ o.ents, e.id.length = 32
  enm : ∀ e ∈ o.ents, e.name.size ≤ maxLen
  pid : ∀ p ∈ o.pars, p.length = 32
  el : o.ents.length ≤ maxLen
  pl : o.pars.length ≤ maxLen
  nm : o.name.size ≤ maxLen
  ti : o.time < 4294967296
theorem ObAt.below {w w' : World} {cs : Array Value} {o : Ob} {ao bo : Option Addr} {ca cb : Nat} (h : ObAt w cs o ao bo ca cb) (hb : Below w.heap.size w w') : ObAt w' cs o ao bo ca cb :=
  ⟨h.F, h.E.below hb, h.P.below hb, h.eid, h.enm, h.pid, h.el, h.pl, h.nm, h.ti⟩

/-- An object that may be, but for the length of its encoding. -/
def validB (o : Ob) : Bool := foreignZ o && (if o.kind = 1 then true else if o.kind = 2 then (decide (o.ents.length ≤ 64) && entsOk .empty o.ents) else if o.kind = 3 then decide (o.pars.length ≤ 8) else if o.kind = 4 then (decide (1 ≤ o.of ∧ o.of ≤ 4) && nameOk o.name) else false)

set_option maxHeartbeats 1000000 in
set_option maxRecDepth 100000 in
theorem fieldsValid_any (cs : Array Value) (o : Ob) (ao bo : Option Addr) (ca cb : Nat) (w : World) (h : ObAt w cs o ao bo ca cb) :
    Calls Tryd.prog 44 #[.agg cs] w fun r w' => r = .returned (.bool (validB o)) ∧ Below w.heap.size w w' := by
  have H1 := Lib.hid (fun W => foreign_any cs o _ _ _ _ W h.F)
  have H2 := Lib.hid (fun W (hb : Below w.heap.size w W) => entriesValid_any o.ents ao ca W (h.E.below hb) h.eid h.enm h.el)
  have H3 := Lib.hid (fun W => name_any o.name W h.nm)
  have HZ := Lib.hid (show validB o = (foreignZ o && (if o.kind = 1 then true else if o.kind = 2 then (decide (o.ents.length ≤ 64) && entsOk .empty o.ents) else if o.kind = 3 then decide (o.pars.length ≤ 8) else if o.kind = 4 then (decide (1 ≤ o.of ∧ o.of ≤ 4) && nameOk o.name) else false)) from rfl)
  have HS := Lib.hid h.F.size
  have C0 := Lib.hid h.F.c0
  have C2 := Lib.hid h.F.c2
  have C35 := Lib.hid h.F.c35
  have C70 := Lib.hid h.F.c70
  have C71 := Lib.hid h.F.c71
  have K0 := Kp.box w cs 42
  have hpl := h.pl
  unfold maxLen at hpl
  generalize validB o = z at HZ
  generalize foreignZ o = b1 at H1 HZ
  generalize (decide (o.ents.length ≤ 64) && entsOk .empty o.ents) = b2 at H2 HZ
  generalize nameOk o.name = b3 at H3 HZ
  have H4 := Lib.hid (fun W => isKind_any o.of W)
  generalize decide (1 ≤ o.of ∧ o.of ≤ 4) = b4 at H4 HZ
  generalize o.kind = k at HZ C0
  clear h
  go_enter Tryd.func44, Tryd.ntmps44
  go_wp2_with (first
    | (go_at_call 61; ((with_reducible refine (H1.out _).mono ?_); rintro r wx ⟨rfl, hx⟩; have kx := K0.step hx; have c0 := kx.cell C0.out; have c2 := kx.cell C2.out; have c35 := kx.cell C35.out; have c70 := kx.cell C70.out; have c71 := kx.cell C71.out; clear hx))
    | (go_at_call 62; ((with_reducible refine (H2.out _ (Kp.below (by assumption))).mono ?_); rintro r wy ⟨rfl, hx⟩; have ky := Kp.step (by assumption) hx; clear hx))
    | (go_at_call 63; ((with_reducible refine (H4.out _).mono ?_); rintro r wy ⟨rfl, rfl⟩))
    | (go_at_call 64; ((with_reducible refine (H3.out _).mono ?_); rintro r wy ⟨rfl, rfl⟩))
    | ((with_reducible apply load_ob (k := K0) (hs := HS.out)); rfl; rfl; rfl))
  all_goals
    go_ret
    exact ⟨ret_bool (by rw [HZ.out]; simp_all <;> omega), Kp.below (by assumption)⟩
end Go.Proofs.YtipigedopmgemaaDoor
end

section
namespace Go.Proofs.YtipigedopmgemaaDoor
open Go.RowKit
set_option linter.unusedVariables false
set_option linter.unusedSimpArgs false

def byteK (k : Int) : UInt8 := k.toNat.toUInt8
theorem byteK_nat {k : Int} (h0 : 0 ≤ k) (h1 : k < 256) : k = ((byteK k).toNat : Int) := by
  have : (byteK k).toNat = k.toNat := by simp [byteK, Nat.toUInt8]; omega
  omega

set_option maxRecDepth 100000 in
theorem one_any (k : Int) (w : World) (h0 : 0 ≤ k) (h1 : k < 256) :
    Calls Tryd.prog 34 #[.int .i64 k] w fun r w' => r = .returned (.string ⟨#[byteK k]⟩) ∧ Below w.heap.size w w' := by
  have hcv := conv_one w (byteK k) k (byteK_nat h0 h1)
  go_enter Tryd.func34, Tryd.ntmps34
  go_wp2
  go_ret
  exact ⟨rfl, (Below.refl _ _).alloc (Nat.le_refl _) _⟩

/-! ### A builder of the call's own -/
theorem grown_of_below {W W' : World} (hb : Below W.heap.size W W') : W.grownBy W' none := ⟨hb.os, hb.tape, hb.output, hb.size, fun i hi _ => hb.block i hi⟩
theorem bAt_below {B b : Nat} {p : Value} {bs : List Value} {W W' : World} (h : Lib.BuilderAtF 131 5 B b p bs W) (hb : Below W.heap.size W W') : Lib.BuilderAtF 131 5 B b p bs W' := by
  have hlt := h.lt
  obtain ⟨hB, v, hbk, hown, hne⟩ := h
  exact ⟨hB, v, (hb.block b hlt).trans hbk, hown.kept (grown_of_below hb) (by cases hv : v.ownBlock <;> simp), hne⟩
/-- A builder in block B, made by a call that began in w, holding acc. -/
structure Bd (w : World) (B : Nat) (acc : List UInt8) (W : World) : Prop where
  b : Lib.IsBuilderF 131 5 B B (Lib.byteCells acc) W
  below : Below w.heap.size w W
  le : w.heap.size ≤ B
theorem Bd.lt {w W : World} {B : Nat} {acc : List UInt8} (h : Bd w B acc W) : B < W.heap.size := h.b.elim (fun x => x.lt) (fun x => x.lt)
theorem Bd.step {w W W' : World} {B : Nat} {acc : List UInt8} (h : Bd w B acc W) (hb : Below W.heap.size W W') : Bd w B acc W' :=
  ⟨h.b.elim (fun x => .inl (bAt_below x hb)) (fun x => .inr (bAt_below x hb)), h.below.trans (hb.mono h.below.size), h.le⟩
theorem Bd.alloc {w W : World} {B : Nat} {acc : List UInt8} (h : Bd w B acc W) (o : Obj) : Bd w B acc (W.alloc o) := h.step ((Below.refl _ _).alloc (Nat.le_refl _) _)
theorem Bd.fresh (w W : World) (h : Below w.heap.size w W) : Bd w W.heap.size [] (W.alloc (.cells #[.pointer none, .slice none 0 0] 131)) :=
  ⟨.of (Lib.fresh_isBuilder _ _ W), h.alloc h.size _, h.size⟩
theorem strCells_eq (s : ByteArray) : Lib.strCells s = Lib.byteCells s.data.toList := by
  simp [Lib.strCells, Lib.byteCells]
theorem bd_write {w W : World} {B : Nat} {acc : List UInt8} (h : Bd w B acc W) (s : ByteArray) (hl : acc.length + s.size ≤ 140737488355328) :
    Calls Tryd.prog 85 #[.pointer (some ⟨B, 0, none⟩), .string s] W fun r w' => r = .returned (.tuple #[.int .i64 s.size, .nilIface]) ∧ Bd w B (acc ++ s.data.toList) w' ∧ Lib.OthersKept 5 (some B) W w' := by
  refine (bwrite B B (Lib.byteCells acc) s W h.b (by simp [Lib.byteCells]; omega) (by have := h.lt; omega)).mono ?_
  rintro r w' ⟨h1, h2, h3, h4⟩
  refine ⟨h1, ⟨.inr ?_, h.below.trans (h3.mono h.le), h.le⟩, h4⟩
  rw [strCells_eq] at h2
  simpa [Lib.byteCells] using h2
theorem bd_string {w W : World} {B : Nat} {acc : List UInt8} (h : Bd w B acc W) :
    Calls Tryd.prog 86 #[.pointer (some ⟨B, 0, none⟩)] W fun r w' => r = .returned (.string ⟨acc.toArray⟩) ∧ Below w.heap.size w w' := by
  refine (Tryd.Builder_String_any_k B B acc W h.b (by have := h.lt; omega)).mono ?_
  rintro r w' ⟨h1, _, h3, _⟩
  exact ⟨h1, h.below.trans (h3.mono h.le)⟩
theorem kept_block {W W' : World} {B g : Nat} {cs : Array Value} {t : TypeId} (h : Lib.OthersKept 5 (some B) W W') (hg : W.heap[g]? = some (.cells cs t)) (hne : g ≠ B) (ht : t ≠ 5) : W'.heap[g]? = some (.cells cs t) :=
  h g _ hg (by simpa using hne) (fun c fz he => by simp only [Obj.cells.injEq] at he; exact ht he.2.1)
theorem below_block {W W' : World} {g : Nat} {x : Obj} (h : Below W.heap.size W W') (hg : W.heap[g]? = some x) : W'.heap[g]? = some x := (h.block _ (Array.getElem?_eq_some_iff.1 hg).1).trans hg

/-! ### treeBody -/
def enB (e : En) : List UInt8 := byteK e.kind :: ((textOf e.name).data.toList ++ e.id)
theorem text_len (t : ByteArray) (h : t.size ≤ 5000) : (textOf t).size ≤ t.size + 10 := by
  have hl := Lib.uvarint_length64 (x := t.size) (by omega)
  unfold textOf
  rw [← size_list, put_list]; simp; omega
theorem enB_len (e : En) (h : e.name.size ≤ 40) (hi : e.id.length = 32) : (enB e).length ≤ 100 := by
  have := text_len e.name (by omega)
  rw [← size_list] at this
  simp [enB] at this ⊢; omega
theorem ents_len : ∀ es : List En, (∀ e ∈ es, e.name.size ≤ 40 ∧ e.id.length = 32) → (es.flatMap enB).length ≤ 100 * es.length
  | [], _ => by simp
  | e :: r, h => by
    have h1 := enB_len e (h e (by simp)).1 (h e (by simp)).2
    have h2 := ents_len r (fun x hx => h x (by simp [hx]))
    simp only [List.flatMap_cons, List.length_append, List.length_cons]; omega

end Go.Proofs.YtipigedopmgemaaDoor
end

section
namespace Go.Proofs.YtipigedopmgemaaDoor
open Go.RowKit
set_option linter.unusedVariables false
set_option linter.unusedSimpArgs false

theorem pars_len : ∀ ps : List (List UInt8), (∀ p ∈ ps, p.length = 32) → ps.flatten.length = 32 * ps.length
  | [], _ => rfl
  | p :: r, h => by
    have h1 := h p (by simp)
    have h2 := pars_len r (fun x hx => h x (by simp [hx]))
    simp only [List.flatten_cons, List.length_append, List.length_cons]; omega
theorem take_flat (ps : List (List UInt8)) (k : Nat) (e : List UInt8) (h : ps[k]? = some e) : (ps.take (k + 1)).flatten = (ps.take k).flatten ++ e := by
  obtain ⟨hk, rfl⟩ := List.getElem?_eq_some_iff.1 h
  rw [List.take_succ_eq_append_getElem hk, List.flatten_append]
  simp
def commitL (o : Ob) : List UInt8 := (((o.tree ++ Lib.uvarint o.pars.length) ++ o.pars.flatten) ++ Lib.uvarint o.time) ++ (textOf o.text).data.toList

end Go.Proofs.YtipigedopmgemaaDoor
end

section
namespace Go.Proofs.YtipigedopmgemaaDoor
open Go.RowKit
set_option linter.unusedVariables false
set_option linter.unusedSimpArgs false

def tagL (o : Ob) : List UInt8 := byteK o.of :: (o.target ++ (textOf o.name).data.toList)
/-- The body of an object that may be. -/
def bodyL (o : Ob) : List UInt8 := if o.kind = 1 then o.data.data.toList else if o.kind = 2 then o.ents.flatMap enB else if o.kind = 3 then commitL o else tagL o
/-- What is asked of an object whose body is written. -/
structure Fit (o : Ob) : Prop where
  k : 1 ≤ o.kind ∧ o.kind ≤ 4
  d : o.data.size ≤ 5000
  t : o.text.size ≤ 5000
  n : o.name.size ≤ 100
  e : o.kind = 2 → o.ents.length ≤ 64 ∧ ∀ e ∈ o.ents, e.name.size ≤ 40 ∧ 0 ≤ e.kind ∧ e.kind < 256
  p : o.kind = 3 → o.pars.length ≤ 8
  f : o.kind = 4 → 0 ≤ o.of ∧ o.of < 256

theorem entsOk_all : ∀ (es : List En) (last : ByteArray), entsOk last es = true → ∀ e ∈ es, nameOk e.name = true ∧ (e.kind = 1 ∨ e.kind = 2)
  | [], _, _, _, he => by simp at he
  | e :: r, last, h, x, hx => by
    simp only [entsOk, Bool.and_eq_true, Bool.or_eq_true, beq_iff_eq] at h
    rcases List.mem_cons.1 hx with rfl | hx
    · exact ⟨h.1.1.1, h.1.2⟩
    · exact entsOk_all r e.name h.2 x hx
theorem nameOk_size {s : ByteArray} (h : nameOk s = true) : 1 ≤ s.size ∧ s.size ≤ 40 := by
  simp only [nameOk, Bool.and_eq_true, decide_eq_true_eq] at h
  exact ⟨h.1.1, h.1.2⟩
theorem fit_of {o : Ob} (h : validB o = true) (hd : o.data.size ≤ 5000) (ht : o.text.size ≤ 5000) (hn : o.name.size ≤ 100) : Fit o := by
  unfold validB at h
  rw [Bool.and_eq_true] at h
  obtain ⟨_, h⟩ := h
  by_cases e1 : o.kind = 1
  · exact ⟨by omega, hd, ht, hn, by omega, by omega, by omega⟩
  by_cases e2 : o.kind = 2
  · rw [if_neg e1, if_pos e2, Bool.and_eq_true, decide_eq_true_eq] at h
    refine ⟨by omega, hd, ht, hn, fun _ => ⟨h.1, fun e he => ?_⟩, by omega, by omega⟩
    have := entsOk_all _ _ h.2 e he
    have h1 := nameOk_size this.1
    exact ⟨h1.2, by omega, by omega⟩
  by_cases e3 : o.kind = 3
  · rw [if_neg e1, if_neg e2, if_pos e3, decide_eq_true_eq] at h
    exact ⟨by omega, hd, ht, hn, by omega, fun _ => h, by omega⟩
  by_cases e4 : o.kind = 4
  · rw [if_neg e1, if_neg e2, if_neg e3, if_pos e4, Bool.and_eq_true, decide_eq_true_eq] at h
    exact ⟨by omega, hd, ht, hn, by omega, by omega, fun _ => by omega⟩
  · rw [if_neg e1, if_neg e2, if_neg e3, if_neg e4] at h
    cases h
theorem body_len {o : Ob} (ft : Fit o) (ei : ∀ e ∈ o.ents, e.id.length = 32) (pi : ∀ p ∈ o.pars, p.length = 32) (ht : o.tree.length = 32) (hg : o.target.length = 32) (hti : o.time < 4294967296) : (bodyL o).length ≤ 10000 := by
  unfold bodyL
  have hk := ft.k
  split
  · have := ft.d; rw [size_list]; omega
  split
  · rename_i e2
    have := ents_len o.ents (fun e he => ⟨((ft.e e2).2 e he).1, ei e he⟩)
    have := (ft.e e2).1
    omega
  split
  · rename_i e3
    have h1 := pars_len o.pars pi
    have h2 := ft.p e3
    have h3 := text_len o.text ft.t
    have h4 := Lib.uvarint_length64 (x := o.pars.length) (by omega)
    have h5 := Lib.uvarint_length64 (x := o.time) (by omega)
    have h6 := ft.t
    rw [← size_list] at h3
    simp only [commitL, List.length_append]; omega
  · have h3 := text_len o.name (by have := ft.n; omega)
    have := ft.n
    rw [← size_list] at h3
    simp only [tagL, List.length_append, List.length_cons]; omega

/-- The encoding of an object that may be. -/
def encS (o : Ob) : ByteArray := ⟨#[byteK o.kind]⟩ ++ textOf ⟨(bodyL o).toArray⟩
def encOk (o : Ob) : Bool := validB o && decide ((encS o).size ≤ 4096)
end Go.Proofs.YtipigedopmgemaaDoor
end

section
namespace Go.Proofs.YtipigedopmgemaaDoor
open Go.RowKit
set_option linter.unusedVariables false
set_option linter.unusedSimpArgs false

/-- What Encode hands back. -/
def endE (ok : Bool) (s : ByteArray) : Ending := match ok with
  | true => .returned (.tuple #[.string s, .int .i64 0])
  | false => .returned (.tuple #[.string ⟨#[]⟩, .int .i64 1])
/-- The whole object out of its box, in a region that draws its order. -/
theorem yieldsIf_ob {ops : Array Oper} {S : World → Prop} {op : Oper} {a : Act} {w0 : World} {cs : Array Value} {x : Operand} (hw : Region.wanted op (yielded ops a.tmps) = true) (ho : op.op = .load 42 x)
    (hx : a.eval x = .pointer (some ⟨w0.heap.size, 0, none⟩)) (hS : ∀ W, S W → Kp w0 cs 42 W) (hs : cs.size = 72) : YieldsIf Tryd.prog ops S op (.agg cs) a :=
  yieldsIf_load_mid (cs := cs.toList) hw _ x ho w0.heap.size 0 hx (d := _) (fun W h j v hv => by rw [cell_of_row _ _ _ cs _ (0, 0) (hS W h).held, Nat.zero_add]; simpa using hv) Tryd.underlying42 rfl (by rw [Array.length_toList]; exact obsize hs)

end Go.Proofs.YtipigedopmgemaaDoor
end

section
namespace Go.Proofs.YtipigedopmgemaaDoor
open Go.RowKit
set_option linter.unusedVariables false
set_option linter.unusedSimpArgs false

set_option maxRecDepth 100000 in
theorem bytes_any (l : List UInt8) (w : World) (hl : l.length = 32) :
    Calls Tryd.prog 54 #[.agg (idC l).toArray] w fun r w' => r = .returned (.string ⟨l.toArray⟩) ∧ Below w.heap.size w w' := by
  have hcv := conv_idm (w.alloc (.cells (idC l).toArray 35)) w.heap.size 0 l hl (id_rid (heap_alloc_last w _))
  go_enter Tryd.func54, Tryd.ntmps54
  go_wp2
  go_ret
  exact ⟨rfl, (Below.refl _ _).alloc (Nat.le_refl _) _⟩

theorem add_add_mid (a : Addr) (n k : Nat) (hk : k ≠ 0) : (a.add n).add k = ⟨a.block, a.off + n + k, none⟩ := by
  unfold Addr.add
  rw [if_neg hk]
  split
  · subst_vars; simp
  · rfl
theorem en_range {w : World} {a : Addr} {n : Nat} {e : En} (hc : ∀ j x, (enC e)[j]? = some x → w.cell? ((a.add n).add j) = some x) : w.rangeAt a.block (a.off + n + 2) (idC e.id) := fun j v hv => by
  have h := hc (j + 2) v (by simpa [enC] using hv)
  rw [add_add_mid a n (j + 2) (by omega)] at h
  rw [show a.off + n + 2 + j = a.off + n + (j + 2) by omega]
  exact h

set_option maxHeartbeats 2000000 in
set_option maxRecDepth 100000 in
theorem refbody_tree (cs : Array Value) (o : Ob) (ao bo : Option Addr) (ca cb : Nat) (w : World) (h : ObAt w cs o ao bo ca cb) (ft : Fit o) (hk : o.kind = 2) (hd0 : o.data = ⟨#[]⟩) :
    Calls Tryd.prog 36 #[.agg cs] w fun r w' => r = .returned (.string ⟨(bodyL o).toArray⟩) ∧ Below w.heap.size w w' := by
  have HM := Lib.hid (show bodyL o = o.ents.flatMap enB by simp [bodyL, hk])
  generalize bodyL o = M at HM
  have hf := ft.e hk
  have HF := Lib.hid hf.2
  have h64 := hf.1
  have C0 := Lib.hid (show cs[0]? = some (.int .i64 2) by rw [h.F.c0, hk])
  have c1 := h.F.c1
  rw [hd0] at c1
  have C2 := Lib.hid h.F.c2
  have HE := Lib.hid h.E
  have HI := Lib.hid h.eid
  have K0 := Kp.box w cs 42
  clear h ft hk hf hd0
  go_enter Tryd.func36, Tryd.ntmps36
  go_wp2
  go_loopw [3, 4] (fun s i wr => ∃ (k : Nat) (acc : ByteArray), k ≤ o.ents.length ∧ i = .int .i64 k ∧ s = .string acc ∧ Hid (acc.data.toList = (o.ents.take k).flatMap enB) ∧ Kp w cs 42 wr) (fun _ i _ => o.ents.length - (intOf i).toNat)
  case atStart => exact ⟨0, ⟨#[]⟩, by omega, rfl, rfl, rfl, K0⟩
  case round =>
    clear K0 c1
    obtain ⟨k, acc, hk, rfl, rfl, HA, K1⟩ := hrel
    have c2 := K1.cell C2.out
    by_cases hlt : k < o.ents.length
    · have hlt' : (k : Int) < (o.ents.length : Int) := by omega
      have hk0 : (0 : Int) ≤ (k : Int) := by omega
      obtain ⟨e, he⟩ : ∃ e, o.ents[k]? = some e := ⟨o.ents[k], List.getElem?_eq_getElem hlt⟩
      have hmem := List.mem_of_getElem? he
      obtain ⟨a, ea, _⟩ := ent_cells (HE.out.below K1.below) k e he
      subst ea
      have HCC := Lib.hid (fun W (hb : Below w.heap.size w W) => (by
        obtain ⟨a', e', h'⟩ := ent_cells (HE.out.below hb) k e he
        cases e'
        exact h' : ∀ j x, (enC e)[j]? = some x → W.cell? ((a.add (k * 34)).add j) = some x))
      obtain ⟨hnm, hk1, hk2⟩ := HF.out e hmem
      have HL := Lib.hid (HI.out e hmem)
      have HT := Lib.hid (show ((acc ++ ⟨#[byteK e.kind]⟩) ++ textOf e.name ++ ⟨e.id.toArray⟩).data.toList = (o.ents.take (k + 1)).flatMap enB by
        obtain ⟨hk3, rfl⟩ := List.getElem?_eq_some_iff.1 he
        rw [List.take_succ_eq_append_getElem hk3, List.flatMap_append, ← HA.out]
        simp [enB, ByteArray.data_append])
      have hal : acc.size ≤ 10000 := by
        have := ents_len (o.ents.take k) (fun x hx => ⟨(HF.out x (List.mem_of_mem_take hx)).1, HI.out x (List.mem_of_mem_take hx)⟩)
        rw [← HA.out, size_list, List.length_take] at this; omega
      have htl := text_len e.name (by omega)
      have hs1 : ¬ 9223372036854775807 < acc.size + 1 := by omega
      have hs2 : ¬ 9223372036854775807 < acc.size + 1 + (textOf e.name).size := by omega
      have hs3 : ¬ 9223372036854775807 < acc.size + 1 + (textOf e.name).size + e.id.length := by have := HL.out; omega
      have u24 := Tryd.underlying35
      have i24 := idsize HL.out
      have hA1 := add_add_mid a (k * 34) 1 (by decide)
      have hA2 := add_add_mid a (k * 34) 2 (by decide)
      have HMK := Lib.hid (fun W (q : Kp w cs 42 W) => (⟨q, q.cell C2.out, by simpa [Addr.add] using HCC.out W q.below 0 (.string e.name) rfl, by rw [← hA1]; exact HCC.out W q.below 1 _ rfl, en_range (HCC.out W q.below)⟩ : Kp w cs 42 W ∧ W.cell? ⟨w.heap.size, 2, none⟩ = some (.slice (some a) o.ents.length ca) ∧ W.cell? (a.add (k * 34)) = some (.string e.name) ∧ W.cell? ⟨a.block, a.off + k * 34 + 1, none⟩ = some (.int .i64 e.kind) ∧ W.rangeAt a.block (a.off + k * 34 + 2) (idC e.id)))
      clear he hmem
      go_wp2_with fail
      go_region_held3 (fun w' => Kp w cs 42 w' ∧ w'.cell? ⟨w.heap.size, 2, none⟩ = some (.slice (some a) o.ents.length ca) ∧ w'.cell? (a.add (k * 34)) = some (.string e.name) ∧ w'.cell? ⟨a.block, a.off + k * 34 + 1, none⟩ = some (.int .i64 e.kind) ∧ w'.rangeAt a.block (a.off + k * 34 + 2) (idC e.id))
        (first | exact HMK.out _ K1.drew | (refine HMK.out _ (Kp.step ?_ (by assumption)); exact And.left (by assumption)))
        ((first
          | (go_at_call 34; refine (one_any _ _ hk1 hk2).mono ?_; rintro r wx ⟨rfl, hx⟩)
          | (go_at_call 35; refine (reftext_any _ _ (by omega)).mono ?_; rintro r wx ⟨rfl, hx⟩)
          | (go_at_call 54; refine (bytes_any _ _ HL.out).mono ?_; rintro r wx ⟨rfl, hx⟩)))
      rename_i hH
      go_wp2
      go_roundw
      case rel => exact ⟨k + 1, _, by omega, by go_num, rfl, HT, hH.1⟩
      case measure => simp [intOf]; omega
    · have HT := Lib.hid (show acc.data.toList = M by rw [HA.out, HM.out, List.take_of_length_le (by omega)])
      have c0 := K1.cell C0.out
      go_wp2
      go_ret
      exact ⟨ret_str (bytes_ext (by rw [HT.out])), K1.below⟩
end Go.Proofs.YtipigedopmgemaaDoor
end

section
namespace Go.Proofs.YtipigedopmgemaaDoor
open Go.RowKit
set_option linter.unusedVariables false
set_option linter.unusedSimpArgs false

set_option maxHeartbeats 2000000 in
set_option maxRecDepth 100000 in
theorem refbody_blob (cs : Array Value) (o : Ob) (ao bo : Option Addr) (ca cb : Nat) (w : World) (h : ObAt w cs o ao bo ca cb) (hk : o.kind = 1) (he : o.ents = []) :
    Calls Tryd.prog 36 #[.agg cs] w fun r w' => r = .returned (.string ⟨(bodyL o).toArray⟩) ∧ Below w.heap.size w w' := by
  have HM := Lib.hid (show bodyL o = o.data.data.toList by simp [bodyL, hk])
  generalize bodyL o = M at HM
  have c0 : cs[0]? = some (.int .i64 1) := by rw [h.F.c0, hk]
  have c1 := h.F.c1
  have c2 := h.F.c2
  rw [he] at c2
  clear h hk he
  go_enter Tryd.func36, Tryd.ntmps36
  go_wp2
  go_loop [3, 4] (fun s i => s = .string o.data ∧ i = .int .i64 0) (fun _ _ => 0)
  case atStart => exact ⟨rfl, rfl⟩
  case round =>
    obtain ⟨rfl, rfl⟩ := hrel
    go_wp2
    go_ret
    exact ⟨ret_str (by rw [HM.out]), (Below.refl _ _).alloc (Nat.le_refl _) _⟩

set_option maxHeartbeats 2000000 in
set_option maxRecDepth 100000 in
theorem refbody_tag (cs : Array Value) (o : Ob) (ao bo : Option Addr) (ca cb : Nat) (w : World) (h : ObAt w cs o ao bo ca cb) (ft : Fit o) (hk : o.kind = 4) (he : o.ents = []) (hd : o.data = ⟨#[]⟩) :
    Calls Tryd.prog 36 #[.agg cs] w fun r w' => r = .returned (.string ⟨(bodyL o).toArray⟩) ∧ Below w.heap.size w w' := by
  have HM := Lib.hid (show bodyL o = tagL o by simp [bodyL, hk])
  generalize bodyL o = M at HM
  have c0 : cs[0]? = some (.int .i64 4) := by rw [h.F.c0, hk]
  have c1 := h.F.c1
  rw [hd] at c1
  have c2 := h.F.c2
  rw [he] at c2
  have C70 := Lib.hid h.F.c70
  have C71 := Lib.hid h.F.c71
  have hf := ft.f hk
  have hn := ft.n
  have HL := Lib.hid h.F.tal
  have HR := Lib.hid (fun W (q : Kp w cs 42 W) => h.F.rta q.held)
  have htl := text_len o.name (by omega)
  have hs2 : ¬ 9223372036854775807 < 1 + o.target.length := by have := HL.out; omega
  have hs3 : ¬ 9223372036854775807 < 1 + o.target.length + (textOf o.name).size := by have := HL.out; omega
  have u24 := Tryd.underlying35
  have i24 := idsize HL.out
  have K0 := Kp.box w cs 42
  have HMK := Lib.hid (fun W (q : Kp w cs 42 W) => (⟨q, q.cell C70.out, q.cell C71.out, HR.out W q⟩ : Kp w cs 42 W ∧ W.cell? ⟨w.heap.size, 70, none⟩ = some (.int .i64 o.of) ∧ W.cell? ⟨w.heap.size, 71, none⟩ = some (.string o.name) ∧ W.rangeAt w.heap.size 38 (idC o.target)))
  clear h ft hk he hd
  go_enter Tryd.func36, Tryd.ntmps36
  go_wp2
  go_loop [3, 4] (fun s i => s = .string ⟨#[]⟩ ∧ i = .int .i64 0) (fun _ _ => 0)
  case atStart => exact ⟨rfl, rfl⟩
  case round =>
    obtain ⟨rfl, rfl⟩ := hrel
    go_wp2
    go_region_held3 (fun w' => Kp w cs 42 w' ∧ w'.cell? ⟨w.heap.size, 70, none⟩ = some (.int .i64 o.of) ∧ w'.cell? ⟨w.heap.size, 71, none⟩ = some (.string o.name) ∧ w'.rangeAt w.heap.size 38 (idC o.target))
      (first | exact HMK.out _ K0.drew | (refine HMK.out _ (Kp.step ?_ (by assumption)); exact And.left (by assumption)))
      ((first
        | (go_at_call 34; refine (one_any _ _ hf.1 hf.2).mono ?_; rintro r wx ⟨rfl, hx⟩)
        | (go_at_call 35; refine (reftext_any _ _ (by omega)).mono ?_; rintro r wx ⟨rfl, hx⟩)
        | (go_at_call 54; refine (bytes_any _ _ HL.out).mono ?_; rintro r wx ⟨rfl, hx⟩)))
    rename_i hH
    go_wp2
    go_ret
    refine ⟨ret_str (bytes_ext ?_), hH.1.below⟩
    rw [HM.out]
    simp [tagL, ByteArray.data_append]

set_option maxHeartbeats 2000000 in
set_option maxRecDepth 100000 in
theorem refbody_commit (cs : Array Value) (o : Ob) (ao bo : Option Addr) (ca cb : Nat) (w : World) (h : ObAt w cs o ao bo ca cb) (ft : Fit o) (hk : o.kind = 3) (he : o.ents = []) (hd : o.data = ⟨#[]⟩) :
    Calls Tryd.prog 36 #[.agg cs] w fun r w' => r = .returned (.string ⟨(bodyL o).toArray⟩) ∧ Below w.heap.size w w' := by
  have HM := Lib.hid (show bodyL o = commitL o by simp [bodyL, hk])
  generalize bodyL o = M at HM
  have C0 := Lib.hid (show cs[0]? = some (.int .i64 3) by rw [h.F.c0, hk])
  have c0 := C0.out
  have c1 := h.F.c1
  rw [hd] at c1
  have c2 := h.F.c2
  rw [he] at c2
  have C35 := Lib.hid h.F.c35
  have C36 := Lib.hid h.F.c36
  have C37 := Lib.hid h.F.c37
  have HP := Lib.hid h.P
  have HD := Lib.hid h.pid
  have hp := ft.p hk
  have ht := ft.t
  have hti := h.ti
  have HL := Lib.hid h.F.trl
  have HR := Lib.hid (fun W (q : Kp w cs 42 W) => h.F.rtr q.held)
  have hu1 := Lib.uvarint_length64 (x := o.pars.length) (by omega)
  have hu2 := Lib.uvarint_length64 (x := o.time) (by omega)
  have hp00 : ¬ 9223372036854775807 < o.tree.length := by have := HL.out; omega
  have hp0 : ¬ 9223372036854775807 < o.tree.length + (Lib.uvarint o.pars.length).length := by have := HL.out; omega
  have hwu : IntKind.u64.wrap (o.pars.length : Int) = (o.pars.length : Int) := by simp [IntKind.wrap, IntKind.bits, IntKind.signed]; omega
  have hU24 := Tryd.underlying35
  have hI24 := idsize HL.out
  have K0 := Kp.box w cs 42
  have HMK := Lib.hid (fun W (q : Kp w cs 42 W) => (⟨q, q.cell C35.out, HR.out W q⟩ : Kp w cs 42 W ∧ W.cell? ⟨w.heap.size, 35, none⟩ = some (.slice bo o.pars.length cb) ∧ W.rangeAt w.heap.size 3 (idC o.tree)))
  clear h ft hk he hd
  go_enter Tryd.func36, Tryd.ntmps36
  go_wp2
  go_loop [3, 4] (fun s i => s = .string ⟨#[]⟩ ∧ i = .int .i64 0) (fun _ _ => 0)
  case atStart => exact ⟨rfl, rfl⟩
  case round =>
    obtain ⟨rfl, rfl⟩ := hrel
    go_wp2
    go_region_held3 (fun w' => Kp w cs 42 w' ∧ w'.cell? ⟨w.heap.size, 35, none⟩ = some (.slice bo o.pars.length cb) ∧ w'.rangeAt w.heap.size 3 (idC o.tree))
      (first | exact HMK.out _ K0.drew | (refine HMK.out _ (Kp.step ?_ (by assumption)); exact And.left (by assumption)))
      ((first
        | (go_at_call 53; refine (refput_any o.pars.length _ (by omega)).mono ?_; rintro r wx ⟨rfl, hx⟩)
        | (go_at_call 54; refine (bytes_any _ _ HL.out).mono ?_; rintro r wx ⟨rfl, hx⟩)))
    rename_i hH
    have K1 := hH.1
    clear hH hU24 hI24 K0 HMK
    generalize hA0 : (({ data := #[] } : ByteArray) ++ { data := o.tree.toArray } ++ { data := (Lib.uvarint o.pars.length).toArray }) = acc0
    have HA0 := Lib.hid (show acc0.data.toList = o.tree ++ Lib.uvarint o.pars.length ++ (o.pars.take 0).flatten by rw [← hA0]; simp [ByteArray.data_append])
    clear hA0
    go_wp2
    go_loopw [3, 5] (fun s i wr => ∃ (k : Nat) (acc : ByteArray), k ≤ o.pars.length ∧ i = .int .i64 k ∧ s = .string acc ∧ Hid (acc.data.toList = o.tree ++ Lib.uvarint o.pars.length ++ (o.pars.take k).flatten) ∧ Kp w cs 42 wr) (fun _ i _ => o.pars.length - (intOf i).toNat)
    case atStart => exact ⟨0, acc0, by omega, rfl, rfl, HA0, K1⟩
    case round =>
      clear K1 HA0
      obtain ⟨k, acc, hk, rfl, rfl, HA, K1⟩ := hrel
      have c35 := K1.cell C35.out
      have hal : acc.size ≤ 1000 := by
        have h1 := pars_len (o.pars.take k) (fun x hx => HD.out x (List.mem_of_mem_take hx))
        have h2 := congrArg List.length HA.out
        rw [size_list, List.length_append, List.length_append, h1, List.length_take, HL.out] at h2; omega
      by_cases hlt : k < o.pars.length
      · have hlt' : (k : Int) < (o.pars.length : Int) := by omega
        obtain ⟨e, he⟩ : ∃ e, o.pars[k]? = some e := ⟨o.pars[k], List.getElem?_eq_getElem hlt⟩
        obtain ⟨a, rfl, hc⟩ := par_cells (HP.out.below K1.below) k e he
        have HCC := Lib.hid hc
        have HLE := Lib.hid (HD.out e (List.mem_of_getElem? he))
        have HT := Lib.hid (show (acc ++ ⟨e.toArray⟩).data.toList = o.tree ++ Lib.uvarint o.pars.length ++ (o.pars.take (k + 1)).flatten by
          rw [take_flat _ _ _ he, ← List.append_assoc, ← HA.out]; simp [ByteArray.data_append])
        have hs1 : ¬ 9223372036854775807 < acc.size + e.length := by have := HLE.out; omega
        clear hc he
        go_wp2_with (first
          | (go_at_call 54; refine (bytes_any _ _ HLE.out).mono ?_; rintro r wy ⟨rfl, hy⟩)
          | ((with_reducible apply ld_id (hc := HCC.out) (hl := HLE.out)); rfl; rfl; rfl))
        go_roundw
        case rel => exact ⟨k + 1, _, by omega, by go_num, rfl, HT, K1.step hy⟩
        case measure => simp [intOf]; omega
      · have HT := Lib.hid (show acc.data.toList = o.tree ++ Lib.uvarint o.pars.length ++ o.pars.flatten by rw [HA.out, List.take_of_length_le (by omega)])
        have hxl := text_len o.text ht
        have hs1 : ¬ 9223372036854775807 < acc.size + (Lib.uvarint o.time).length := by omega
        have hs2 : ¬ 9223372036854775807 < acc.size + (Lib.uvarint o.time).length + (textOf o.text).size := by omega
        have hwt : IntKind.u64.wrap (o.time : Int) = (o.time : Int) := by simp [IntKind.wrap, IntKind.bits, IntKind.signed]; omega
        have HMK := Lib.hid (fun W (q : Kp w cs 42 W) => (⟨q, q.cell C36.out, q.cell C37.out, q.cell C0.out⟩ : Kp w cs 42 W ∧ W.cell? ⟨w.heap.size, 36, none⟩ = some (.int .u32 (o.time : Int)) ∧ W.cell? ⟨w.heap.size, 37, none⟩ = some (.string o.text) ∧ W.cell? ⟨w.heap.size, 0, none⟩ = some (.int .i64 3)))
        go_wp2
        go_region_held3 (fun w' => Kp w cs 42 w' ∧ w'.cell? ⟨w.heap.size, 36, none⟩ = some (.int .u32 (o.time : Int)) ∧ w'.cell? ⟨w.heap.size, 37, none⟩ = some (.string o.text) ∧ w'.cell? ⟨w.heap.size, 0, none⟩ = some (.int .i64 3))
          (first | exact HMK.out _ K1.drew | (refine HMK.out _ (Kp.step ?_ (by assumption)); exact And.left (by assumption)))
          ((first
            | (go_at_call 53; refine (refput_any o.time _ (by omega)).mono ?_; rintro r wx ⟨rfl, hx⟩)
            | (go_at_call 35; refine (reftext_any _ _ (by omega)).mono ?_; rintro r wx ⟨rfl, hx⟩)))
        rename_i hH
        go_wp2
        go_ret
        refine ⟨ret_str (bytes_ext ?_), hH.1.below⟩
        rw [HM.out]
        simp only [ByteArray.data_append, Array.toList_append, HT.out, commitL]
end Go.Proofs.YtipigedopmgemaaDoor
end
