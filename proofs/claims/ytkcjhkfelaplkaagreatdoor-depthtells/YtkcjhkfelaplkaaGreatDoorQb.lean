/-
  WALKS OF LAYER 4: entriesValid. WALKS OF LAYER 4: fieldsValid. WALKS OF LAYER 4: oneByte; treeBody. WALKS OF LAYER 4: co
-/
import Derived.Test.YtkcjhkfelaplkaaGreatDoorQa
import Derived.Deep.RegionHeld3
import Derived.Great.Walk
set_option linter.unusedVariables false
set_option linter.unusedSimpArgs false
set_option maxHeartbeats 8000000
set_option maxRecDepth 100000
section
section
namespace Go.Proofs.YtkcjhkfelaplkaaGreatDoor
open Go.RowKit
def gtB (last name : ByteArray) : Bool := !(Op.bytesLess name.toList last.toList || name.toList == last.toList)
def entsOk : ByteArray → List En → Bool
 | _, [] => true
 | last, e :: r => nameOk e.name && gtB last e.name && (e.kind == 1 || e.kind == 2) && entsOk e.name r
theorem entriesValid_any (es : List En) (ao : Option Addr) (cap : Nat) (w : World) (hR : RowsAt w (.slice ao es.length cap) 34 (es.map enC)) (hid : ∀ e ∈ es, e.id.length = 32) (hn : ∀ e ∈ es, e.name.size ≤ maxLen) (hl : es.length ≤ maxLen) :
  Calls Tryz.prog 151 #[.slice ao es.length cap] w fun r w' => r = .returned (.bool (decide (es.length ≤ 64) && entsOk .empty es)) ∧ Below w.heap.size w w' := by
 unfold maxLen at hl
 have HR := Lib.hid hR
 have HN := Lib.hid hn
 have HD := Lib.hid hid
 clear hR hn hid
 generalize hZ : (decide (es.length ≤ 64) && entsOk .empty es) = z
 have HZ := Lib.hid hZ
 clear hZ
 by_cases h64 : es.length ≤ 64
 ·
  have h64' : ¬ (64 : Int) < (es.length : Int) := by omega
  go_enter Tryz.func151, Tryz.ntmps151
  go_wp2
  go_loopw [3, 11] (fun l i wr => ∃ (k : Nat) (last : ByteArray), k ≤ es.length ∧ i = .int .i64 k ∧ l = .string last ∧ Hid (z = entsOk last (es.drop k)) ∧ Below w.heap.size w wr) (fun _ i _ => es.length - (intOf i).toNat)
  case atStart => exact ⟨0, .empty, by omega, rfl, rfl, by rw [← HZ.out]; simp [Hid, h64], Below.refl _ _⟩
  case round =>
   obtain ⟨k, last, hk, rfl, rfl, HE, hb⟩ := hrel
   by_cases hlt : k < es.length
   ·
    have hlt' : (k : Int) < (es.length : Int) := by omega
    obtain ⟨e, he⟩ : ∃ e, es[k]? = some e := ⟨es[k], List.getElem?_eq_getElem hlt⟩
    obtain ⟨a, rfl, hc⟩ := ent_cells (HR.out.below hb) k e he
    have HC := Lib.hid hc
    have hmem := List.mem_of_getElem? he
    have HL := Lib.hid (HD.out e hmem)
    have HM := Lib.hid (HN.out e hmem)
    have n0 : (enC e)[0]? = some (.string e.name) := rfl
    have n1 : (enC e)[1]? = some (.int .i64 e.kind) := rfl
    have HNM := Lib.hid (fun W => name_any e.name W HM.out)
    have HS := Lib.hid (show z = (nameOk e.name && gtB last e.name && (e.kind == 1 || e.kind == 2) && entsOk e.name (es.drop (k + 1))) by
     obtain ⟨hk2, rfl⟩ := List.getElem?_eq_some_iff.1 he
     rw [HE.out, List.drop_eq_getElem_cons hk2]; rfl)
    clear hc he hmem
    generalize nameOk e.name = nb at HNM HS
    go_wp2_with (first
     | (go_at_call 153; ((with_reducible refine (HNM.out _).mono ?_); rintro r wx ⟨rfl, rfl⟩))
     | ((with_reducible apply ld_en (hc := HC.out) (hid := HL.out)); rfl; rfl; rfl)
     | ((with_reducible apply st_en (hid := HL.out)); rfl; rfl; rfl; rfl; rfl))
    all_goals first
     | (go_ret; exact ⟨ret_bool (by rw [HS.out]; unfold gtB; simp_all <;> (intro h1 h2; rcases ‹Op.bytesLess _ _ = true ∨ _› with h | h <;> simp_all)), hb.alloc (by have := hb.size; omega) _⟩)
     | exact ⟨⟨k + 1, e.name, by omega, by go_num, rfl, by rw [HS.out]; simp only [Hid]; unfold gtB; simp_all, hb.alloc (by have := hb.size; omega) _⟩, by simp [intOf]; omega⟩
   ·
    have HS := Lib.hid (show z = true by rw [HE.out, List.drop_of_length_le (by omega)]; rfl)
    go_wp2
    go_ret
    exact ⟨ret_bool (by rw [HS.out]), hb⟩
 ·
  have h64' : (64 : Int) < (es.length : Int) := by omega
  have HS := Lib.hid (show z = false by rw [← HZ.out]; simp [h64])
  go_enter Tryz.func151, Tryz.ntmps151
  go_wp2
  go_ret
  exact ⟨ret_bool (by rw [HS.out]), Below.refl _ _⟩
end Go.Proofs.YtkcjhkfelaplkaaGreatDoor
end
section
namespace Go.Proofs.YtkcjhkfelaplkaaGreatDoor
open Go.RowKit
structure ObAt (w : World) (cs : Array Value) (o : Ob) (ao bo : Option Addr) (ca cb : Nat) : Prop where
 F : ObF cs o (.slice ao o.ents.length ca) (.slice bo o.pars.length cb)
 E : RowsAt w (.slice ao o.ents.length ca) 34 (o.ents.map enC)
 P : RowsAt w (.slice bo o.pars.length cb) 32 (o.pars.map idC)
 eid : ∀ e ∈ o.ents, e.id.length = 32
 enm : ∀ e ∈ o.ents, e.name.size ≤ maxLen
 pid : ∀ p ∈ o.pars, p.length = 32
 el : o.ents.length ≤ maxLen
 pl : o.pars.length ≤ maxLen
 nm : o.name.size ≤ maxLen
 ti : o.time < 4294967296
theorem ObAt.below {w w' : World} {cs : Array Value} {o : Ob} {ao bo : Option Addr} {ca cb : Nat} (h : ObAt w cs o ao bo ca cb) (hb : Below w.heap.size w w') : ObAt w' cs o ao bo ca cb :=
 ⟨h.F, h.E.below hb, h.P.below hb, h.eid, h.enm, h.pid, h.el, h.pl, h.nm, h.ti⟩
def validB (o : Ob) : Bool := foreignZ o && (if o.kind = 1 then true else if o.kind = 2 then (decide (o.ents.length ≤ 64) && entsOk .empty o.ents) else if o.kind = 3 then decide (o.pars.length ≤ 8) else if o.kind = 4 then (decide (1 ≤ o.of ∧ o.of ≤ 4) && nameOk o.name) else false)
theorem fieldsValid_any (cs : Array Value) (o : Ob) (ao bo : Option Addr) (ca cb : Nat) (w : World) (h : ObAt w cs o ao bo ca cb) :
  Calls Tryz.prog 110 #[.agg cs] w fun r w' => r = .returned (.bool (validB o)) ∧ Below w.heap.size w w' := by
 have H1 := Lib.hid (fun W => foreign_any cs o _ _ _ _ W h.F)
 have H2 := Lib.hid (fun W (hb : Below w.heap.size w W) => entriesValid_any o.ents ao ca W (h.E.below hb) h.eid h.enm h.el)
 have H3 := Lib.hid (fun W => name_any o.name W h.nm)
 have HZ := Lib.hid (show validB o = (foreignZ o && (if o.kind = 1 then true else if o.kind = 2 then (decide (o.ents.length ≤ 64) && entsOk .empty o.ents) else if o.kind = 3 then decide (o.pars.length ≤ 8) else if o.kind = 4 then (decide (1 ≤ o.of ∧ o.of ≤ 4) && nameOk o.name) else false)) from rfl)
 have HS := Lib.hid h.F.size
 have C0 := Lib.hid h.F.c0
 have C2 := Lib.hid h.F.c2
 have C35 := Lib.hid h.F.c35
 have C70 := Lib.hid h.F.c70
 have C71 := Lib.hid h.F.c71
 have K0 := Kp.box w cs 59
 have hpl := h.pl
 unfold maxLen at hpl
 generalize validB o = z at HZ
 generalize foreignZ o = b1 at H1 HZ
 generalize (decide (o.ents.length ≤ 64) && entsOk .empty o.ents) = b2 at H2 HZ
 generalize nameOk o.name = b3 at H3 HZ
 have H4 := Lib.hid (fun W => isKind_any o.of W)
 generalize decide (1 ≤ o.of ∧ o.of ≤ 4) = b4 at H4 HZ
 generalize o.kind = k at HZ C0
 clear h
 go_enter Tryz.func110, Tryz.ntmps110
 go_wp2_with (first
  | (go_at_call 150; ((with_reducible refine (H1.out _).mono ?_); rintro r wx ⟨rfl, hx⟩; have kx := K0.step hx; have c0 := kx.cell C0.out; have c2 := kx.cell C2.out; have c35 := kx.cell C35.out; have c70 := kx.cell C70.out; have c71 := kx.cell C71.out; clear hx))
  | (go_at_call 151; ((with_reducible refine (H2.out _ (Kp.below (by assumption))).mono ?_); rintro r wy ⟨rfl, hx⟩; have ky := Kp.step (by assumption) hx; clear hx))
  | (go_at_call 152; ((with_reducible refine (H4.out _).mono ?_); rintro r wy ⟨rfl, rfl⟩))
  | (go_at_call 153; ((with_reducible refine (H3.out _).mono ?_); rintro r wy ⟨rfl, rfl⟩))
  | ((with_reducible apply load_ob (k := K0) (hs := HS.out)); rfl; rfl; rfl))
 all_goals
  go_ret
  exact ⟨ret_bool (by rw [HZ.out]; simp_all <;> omega), Kp.below (by assumption)⟩
end Go.Proofs.YtkcjhkfelaplkaaGreatDoor
end
section
namespace Go.Proofs.YtkcjhkfelaplkaaGreatDoor
open Go.RowKit
def byteK (k : Int) : UInt8 := k.toNat.toUInt8
theorem byteK_nat {k : Int} (h0 : 0 ≤ k) (h1 : k < 256) : k = ((byteK k).toNat : Int) := by
 have : (byteK k).toNat = k.toNat := by simp [byteK, Nat.toUInt8]; omega
 omega
theorem one_any (k : Int) (w : World) (h0 : 0 ≤ k) (h1 : k < 256) :
  Calls Tryz.prog 100 #[.int .i64 k] w fun r w' => r = .returned (.string ⟨#[byteK k]⟩) ∧ Below w.heap.size w w' := by
 have hcv := conv_one w (byteK k) k (byteK_nat h0 h1)
 go_enter Tryz.func100, Tryz.ntmps100
 go_wp2
 go_ret
 exact ⟨rfl, (Below.refl _ _).alloc (Nat.le_refl _) _⟩
/-! ### A builder of the call's own -/
theorem grown_of_below {W W' : World} (hb : Below W.heap.size W W') : W.grownBy W' none := ⟨hb.os, hb.tape, hb.output, hb.size, fun i hi _ => hb.block i hi⟩
theorem bAt_below {B b : Nat} {p : Value} {bs : List Value} {W W' : World} (h : Lib.BuilderAtF 256 5 B b p bs W) (hb : Below W.heap.size W W') : Lib.BuilderAtF 256 5 B b p bs W' := by
 have hlt := h.lt
 obtain ⟨hB, v, hbk, hown, hne⟩ := h
 exact ⟨hB, v, (hb.block b hlt).trans hbk, hown.kept (grown_of_below hb) (by cases hv : v.ownBlock <;> simp), hne⟩
structure Bd (w : World) (B : Nat) (acc : List UInt8) (W : World) : Prop where
 b : Lib.IsBuilderF 256 5 B B (Lib.byteCells acc) W
 below : Below w.heap.size w W
 le : w.heap.size ≤ B
theorem Bd.lt {w W : World} {B : Nat} {acc : List UInt8} (h : Bd w B acc W) : B < W.heap.size := h.b.elim (fun x => x.lt) (fun x => x.lt)
theorem Bd.step {w W W' : World} {B : Nat} {acc : List UInt8} (h : Bd w B acc W) (hb : Below W.heap.size W W') : Bd w B acc W' :=
 ⟨h.b.elim (fun x => .inl (bAt_below x hb)) (fun x => .inr (bAt_below x hb)), h.below.trans (hb.mono h.below.size), h.le⟩
theorem Bd.alloc {w W : World} {B : Nat} {acc : List UInt8} (h : Bd w B acc W) (o : Obj) : Bd w B acc (W.alloc o) := h.step ((Below.refl _ _).alloc (Nat.le_refl _) _)
theorem Bd.fresh (w W : World) (h : Below w.heap.size w W) : Bd w W.heap.size [] (W.alloc (.cells #[.pointer none, .slice none 0 0] 256)) :=
 ⟨.of (Lib.fresh_isBuilder _ _ W), h.alloc h.size _, h.size⟩
/-! ### treeBody -/
def enB (e : En) : List UInt8 := byteK e.kind :: ((textOf e.name).data.toList ++ e.id)
theorem text_len (t : ByteArray) (h : t.size ≤ 5000) : (textOf t).size ≤ t.size + 10 := by
 have hl := Lib.uvarint_length64 (x := t.size) (by omega)
 unfold textOf
 rw [← size_list, put_list]; simp; omega
theorem enB_len (e : En) (h : e.name.size ≤ 40) (hi : e.id.length = 32) : (enB e).length ≤ 100 := by
 have := text_len e.name (by omega)
 rw [← size_list] at this
 simp [enB] at this ⊢; omega
theorem ents_len : ∀ es : List En, (∀ e ∈ es, e.name.size ≤ 40 ∧ e.id.length = 32) → (es.flatMap enB).length ≤ 100 * es.length
 | [], _ => by simp
 | e :: r, h => by
   have h1 := enB_len e (h e (by simp)).1 (h e (by simp)).2
   have h2 := ents_len r (fun x hx => h x (by simp [hx]))
   simp only [List.flatMap_cons, List.length_append, List.length_cons]; omega
end Go.Proofs.YtkcjhkfelaplkaaGreatDoor
end
section
namespace Go.Proofs.YtkcjhkfelaplkaaGreatDoor
open Go.RowKit
theorem pars_len : ∀ ps : List (List UInt8), (∀ p ∈ ps, p.length = 32) → ps.flatten.length = 32 * ps.length
 | [], _ => rfl
 | p :: r, h => by
   have h1 := h p (by simp)
   have h2 := pars_len r (fun x hx => h x (by simp [hx]))
   simp only [List.flatten_cons, List.length_append, List.length_cons]; omega
theorem take_flat (ps : List (List UInt8)) (k : Nat) (e : List UInt8) (h : ps[k]? = some e) : (ps.take (k + 1)).flatten = (ps.take k).flatten ++ e := by
 obtain ⟨hk, rfl⟩ := List.getElem?_eq_some_iff.1 h
 rw [List.take_succ_eq_append_getElem hk, List.flatten_append]
 simp
def commitL (o : Ob) : List UInt8 := (((o.tree ++ Lib.uvarint o.pars.length) ++ o.pars.flatten) ++ Lib.uvarint o.time) ++ (textOf o.text).data.toList
end Go.Proofs.YtkcjhkfelaplkaaGreatDoor
end
section
namespace Go.Proofs.YtkcjhkfelaplkaaGreatDoor
open Go.RowKit
def tagL (o : Ob) : List UInt8 := byteK o.of :: (o.target ++ (textOf o.name).data.toList)
def bodyL (o : Ob) : List UInt8 := if o.kind = 1 then o.data.data.toList else if o.kind = 2 then o.ents.flatMap enB else if o.kind = 3 then commitL o else tagL o
structure Fit (o : Ob) : Prop where
 k : 1 ≤ o.kind ∧ o.kind ≤ 4
 d : o.data.size ≤ 5000
 t : o.text.size ≤ 5000
 n : o.name.size ≤ 100
 e : o.kind = 2 → o.ents.length ≤ 64 ∧ ∀ e ∈ o.ents, e.name.size ≤ 40 ∧ 0 ≤ e.kind ∧ e.kind < 256
 p : o.kind = 3 → o.pars.length ≤ 8
 f : o.kind = 4 → 0 ≤ o.of ∧ o.of < 256
theorem entsOk_all : ∀ (es : List En) (last : ByteArray), entsOk last es = true → ∀ e ∈ es, nameOk e.name = true ∧ (e.kind = 1 ∨ e.kind = 2)
 | [], _, _, _, he => by simp at he
 | e :: r, last, h, x, hx => by
   simp only [entsOk, Bool.and_eq_true, Bool.or_eq_true, beq_iff_eq] at h
   rcases List.mem_cons.1 hx with rfl | hx
   · exact ⟨h.1.1.1, h.1.2⟩
   · exact entsOk_all r e.name h.2 x hx
theorem nameOk_size {s : ByteArray} (h : nameOk s = true) : 1 ≤ s.size ∧ s.size ≤ 40 := by
 simp only [nameOk, Bool.and_eq_true, decide_eq_true_eq] at h
 exact ⟨h.1.1, h.1.2⟩
theorem fit_of {o : Ob} (h : validB o = true) (hd : o.data.size ≤ 5000) (ht : o.text.size ≤ 5000) (hn : o.name.size ≤ 100) : Fit o := by
 unfold validB at h
 rw [Bool.and_eq_true] at h
 obtain ⟨_, h⟩ := h
 by_cases e1 : o.kind = 1
 · exact ⟨by omega, hd, ht, hn, by omega, by omega, by omega⟩
 by_cases e2 : o.kind = 2
 ·
  rw [if_neg e1, if_pos e2, Bool.and_eq_true, decide_eq_true_eq] at h
  refine ⟨by omega, hd, ht, hn, fun _ => ⟨h.1, fun e he => ?_⟩, by omega, by omega⟩
  have := entsOk_all _ _ h.2 e he
  have h1 := nameOk_size this.1
  exact ⟨h1.2, by omega, by omega⟩
 by_cases e3 : o.kind = 3
 ·
  rw [if_neg e1, if_neg e2, if_pos e3, decide_eq_true_eq] at h
  exact ⟨by omega, hd, ht, hn, by omega, fun _ => h, by omega⟩
 by_cases e4 : o.kind = 4
 ·
  rw [if_neg e1, if_neg e2, if_neg e3, if_pos e4, Bool.and_eq_true, decide_eq_true_eq] at h
  exact ⟨by omega, hd, ht, hn, by omega, by omega, fun _ => by omega⟩
 ·
  rw [if_neg e1, if_neg e2, if_neg e3, if_neg e4] at h
  cases h
theorem body_len {o : Ob} (ft : Fit o) (ei : ∀ e ∈ o.ents, e.id.length = 32) (pi : ∀ p ∈ o.pars, p.length = 32) (ht : o.tree.length = 32) (hg : o.target.length = 32) (hti : o.time < 4294967296) : (bodyL o).length ≤ 10000 := by
 unfold bodyL
 have hk := ft.k
 split
 · have := ft.d; rw [size_list]; omega
 split
 ·
  rename_i e2
  have := ents_len o.ents (fun e he => ⟨((ft.e e2).2 e he).1, ei e he⟩)
  have := (ft.e e2).1
  omega
 split
 ·
  rename_i e3
  have h1 := pars_len o.pars pi
  have h2 := ft.p e3
  have h3 := text_len o.text ft.t
  have h4 := Lib.uvarint_length64 (x := o.pars.length) (by omega)
  have h5 := Lib.uvarint_length64 (x := o.time) (by omega)
  have h6 := ft.t
  rw [← size_list] at h3
  simp only [commitL, List.length_append]; omega
 ·
  have h3 := text_len o.name (by have := ft.n; omega)
  have := ft.n
  rw [← size_list] at h3
  simp only [tagL, List.length_append, List.length_cons]; omega
def encS (o : Ob) : ByteArray := ⟨#[byteK o.kind]⟩ ++ textOf ⟨(bodyL o).toArray⟩
def encOk (o : Ob) : Bool := validB o && decide ((encS o).size ≤ 4096)
end Go.Proofs.YtkcjhkfelaplkaaGreatDoor
end
section
namespace Go.Proofs.YtkcjhkfelaplkaaGreatDoor
open Go.RowKit
theorem yieldsIf_ob {ops : Array Oper} {S : World → Prop} {op : Oper} {a : Act} {w0 : World} {cs : Array Value} {x : Operand} (hw : Region.wanted op (yielded ops a.tmps) = true) (ho : op.op = .load 59 x)
  (hx : a.eval x = .pointer (some ⟨w0.heap.size, 0, none⟩)) (hS : ∀ W, S W → Kp w0 cs 59 W) (hs : cs.size = 72) : YieldsIf Tryz.prog ops S op (.agg cs) a :=
 yieldsIf_load_mid (cs := cs.toList) hw _ x ho w0.heap.size 0 hx (d := _) (fun W h j v hv => by rw [cell_of_row _ _ _ cs _ (0, 0) (hS W h).held, Nat.zero_add]; simpa using hv) Tryz.underlying59 rfl (by rw [Array.length_toList]; exact obsize hs)
end Go.Proofs.YtkcjhkfelaplkaaGreatDoor
end
section
namespace Go.Proofs.YtkcjhkfelaplkaaGreatDoor
open Go.RowKit
theorem bytes_any (l : List UInt8) (w : World) (hl : l.length = 32) :
  Calls Tryz.prog 135 #[.agg (idC l).toArray] w fun r w' => r = .returned (.string ⟨l.toArray⟩) ∧ Below w.heap.size w w' := by
 have hcv := conv_idm (w.alloc (.cells (idC l).toArray 46)) w.heap.size 0 l hl (id_rid (heap_alloc_last w _))
 go_enter Tryz.func135, Tryz.ntmps135
 go_wp2
 go_ret
 exact ⟨rfl, (Below.refl _ _).alloc (Nat.le_refl _) _⟩
theorem add_add_mid (a : Addr) (n k : Nat) (hk : k ≠ 0) : (a.add n).add k = ⟨a.block, a.off + n + k, none⟩ := by
 unfold Addr.add
 rw [if_neg hk]
 split
 · subst_vars; simp
 · rfl
theorem en_range {w : World} {a : Addr} {n : Nat} {e : En} (hc : ∀ j x, (enC e)[j]? = some x → w.cell? ((a.add n).add j) = some x) : w.rangeAt a.block (a.off + n + 2) (idC e.id) := fun j v hv => by
 have h := hc (j + 2) v (by simpa [enC] using hv)
 rw [add_add_mid a n (j + 2) (by omega)] at h
 rw [show a.off + n + 2 + j = a.off + n + (j + 2) by omega]
 exact h
theorem refbody_tree (cs : Array Value) (o : Ob) (ao bo : Option Addr) (ca cb : Nat) (w : World) (h : ObAt w cs o ao bo ca cb) (ft : Fit o) (hk : o.kind = 2) (hd0 : o.data = ⟨#[]⟩) :
  Calls Tryz.prog 102 #[.agg cs] w fun r w' => r = .returned (.string ⟨(bodyL o).toArray⟩) ∧ Below w.heap.size w w' := by
 have HM := Lib.hid (show bodyL o = o.ents.flatMap enB by simp [bodyL, hk])
 generalize bodyL o = M at HM
 have hf := ft.e hk
 have HF := Lib.hid hf.2
 have h64 := hf.1
 have C0 := Lib.hid (show cs[0]? = some (.int .i64 2) by rw [h.F.c0, hk])
 have c1 := h.F.c1
 rw [hd0] at c1
 have C2 := Lib.hid h.F.c2
 have HE := Lib.hid h.E
 have HI := Lib.hid h.eid
 have K0 := Kp.box w cs 59
 clear h ft hk hf hd0
 go_enter Tryz.func102, Tryz.ntmps102
 go_wp2
 go_loopw [3, 4] (fun s i wr => ∃ (k : Nat) (acc : ByteArray), k ≤ o.ents.length ∧ i = .int .i64 k ∧ s = .string acc ∧ Hid (acc.data.toList = (o.ents.take k).flatMap enB) ∧ Kp w cs 59 wr) (fun _ i _ => o.ents.length - (intOf i).toNat)
 case atStart => exact ⟨0, ⟨#[]⟩, by omega, rfl, rfl, rfl, K0⟩
 case round =>
  clear K0 c1
  obtain ⟨k, acc, hk, rfl, rfl, HA, K1⟩ := hrel
  have c2 := K1.cell C2.out
  by_cases hlt : k < o.ents.length
  ·
   have hlt' : (k : Int) < (o.ents.length : Int) := by omega
   have hk0 : (0 : Int) ≤ (k : Int) := by omega
   obtain ⟨e, he⟩ : ∃ e, o.ents[k]? = some e := ⟨o.ents[k], List.getElem?_eq_getElem hlt⟩
   have hmem := List.mem_of_getElem? he
   obtain ⟨a, ea, _⟩ := ent_cells (HE.out.below K1.below) k e he
   subst ea
   have HCC := Lib.hid (fun W (hb : Below w.heap.size w W) => (by
    obtain ⟨a', e', h'⟩ := ent_cells (HE.out.below hb) k e he
    cases e'
    exact h' : ∀ j x, (enC e)[j]? = some x → W.cell? ((a.add (k * 34)).add j) = some x))
   obtain ⟨hnm, hk1, hk2⟩ := HF.out e hmem
   have HL := Lib.hid (HI.out e hmem)
   have HT := Lib.hid (show ((acc ++ ⟨#[byteK e.kind]⟩) ++ textOf e.name ++ ⟨e.id.toArray⟩).data.toList = (o.ents.take (k + 1)).flatMap enB by
    obtain ⟨hk3, rfl⟩ := List.getElem?_eq_some_iff.1 he
    rw [List.take_succ_eq_append_getElem hk3, List.flatMap_append, ← HA.out]
    simp [enB, ByteArray.data_append])
   have hal : acc.size ≤ 10000 := by
    have := ents_len (o.ents.take k) (fun x hx => ⟨(HF.out x (List.mem_of_mem_take hx)).1, HI.out x (List.mem_of_mem_take hx)⟩)
    rw [← HA.out, size_list, List.length_take] at this; omega
   have htl := text_len e.name (by omega)
   have hs1 : ¬ 9223372036854775807 < acc.size + 1 := by omega
   have hs2 : ¬ 9223372036854775807 < acc.size + 1 + (textOf e.name).size := by omega
   have hs3 : ¬ 9223372036854775807 < acc.size + 1 + (textOf e.name).size + e.id.length := by have := HL.out; omega
   have u24 := Tryz.underlying46
   have i24 := idsize HL.out
   have hA1 := add_add_mid a (k * 34) 1 (by decide)
   have hA2 := add_add_mid a (k * 34) 2 (by decide)
   have HMK := Lib.hid (fun W (q : Kp w cs 59 W) => (⟨q, q.cell C2.out, by simpa [Addr.add] using HCC.out W q.below 0 (.string e.name) rfl, by rw [← hA1]; exact HCC.out W q.below 1 _ rfl, en_range (HCC.out W q.below)⟩ : Kp w cs 59 W ∧ W.cell? ⟨w.heap.size, 2, none⟩ = some (.slice (some a) o.ents.length ca) ∧ W.cell? (a.add (k * 34)) = some (.string e.name) ∧ W.cell? ⟨a.block, a.off + k * 34 + 1, none⟩ = some (.int .i64 e.kind) ∧ W.rangeAt a.block (a.off + k * 34 + 2) (idC e.id)))
   clear he hmem
   go_wp2_with fail
   go_region_held3 (fun w' => Kp w cs 59 w' ∧ w'.cell? ⟨w.heap.size, 2, none⟩ = some (.slice (some a) o.ents.length ca) ∧ w'.cell? (a.add (k * 34)) = some (.string e.name) ∧ w'.cell? ⟨a.block, a.off + k * 34 + 1, none⟩ = some (.int .i64 e.kind) ∧ w'.rangeAt a.block (a.off + k * 34 + 2) (idC e.id))
    (first | exact HMK.out _ K1.drew | (refine HMK.out _ (Kp.step ?_ (by assumption)); exact And.left (by assumption)))
    ((first
      | (go_at_call 100; refine (one_any _ _ hk1 hk2).mono ?_; rintro r wx ⟨rfl, hx⟩)
      | (go_at_call 101; refine (reftext_any _ _ (by omega)).mono ?_; rintro r wx ⟨rfl, hx⟩)
      | (go_at_call 135; refine (bytes_any _ _ HL.out).mono ?_; rintro r wx ⟨rfl, hx⟩)))
   rename_i hH
   go_wp2
   go_roundw
   case rel => exact ⟨k + 1, _, by omega, by go_num, rfl, HT, hH.1⟩
   case measure => simp [intOf]; omega
  ·
   have HT := Lib.hid (show acc.data.toList = M by rw [HA.out, HM.out, List.take_of_length_le (by omega)])
   have c0 := K1.cell C0.out
   go_wp2
   go_ret
   exact ⟨ret_str (bytes_ext (by rw [HT.out])), K1.below⟩
end Go.Proofs.YtkcjhkfelaplkaaGreatDoor
end
section
namespace Go.Proofs.YtkcjhkfelaplkaaGreatDoor
open Go.RowKit
theorem refbody_blob (cs : Array Value) (o : Ob) (ao bo : Option Addr) (ca cb : Nat) (w : World) (h : ObAt w cs o ao bo ca cb) (hk : o.kind = 1) (he : o.ents = []) :
  Calls Tryz.prog 102 #[.agg cs] w fun r w' => r = .returned (.string ⟨(bodyL o).toArray⟩) ∧ Below w.heap.size w w' := by
 have HM := Lib.hid (show bodyL o = o.data.data.toList by simp [bodyL, hk])
 generalize bodyL o = M at HM
 have c0 : cs[0]? = some (.int .i64 1) := by rw [h.F.c0, hk]
 have c1 := h.F.c1
 have c2 := h.F.c2
 rw [he] at c2
 clear h hk he
 go_enter Tryz.func102, Tryz.ntmps102
 go_wp2
 go_loop [3, 4] (fun s i => s = .string o.data ∧ i = .int .i64 0) (fun _ _ => 0)
 case atStart => exact ⟨rfl, rfl⟩
 case round =>
  obtain ⟨rfl, rfl⟩ := hrel
  go_wp2
  go_ret
  exact ⟨ret_str (by rw [HM.out]), (Below.refl _ _).alloc (Nat.le_refl _) _⟩
theorem refbody_tag (cs : Array Value) (o : Ob) (ao bo : Option Addr) (ca cb : Nat) (w : World) (h : ObAt w cs o ao bo ca cb) (ft : Fit o) (hk : o.kind = 4) (he : o.ents = []) (hd : o.data = ⟨#[]⟩) :
  Calls Tryz.prog 102 #[.agg cs] w fun r w' => r = .returned (.string ⟨(bodyL o).toArray⟩) ∧ Below w.heap.size w w' := by
 have HM := Lib.hid (show bodyL o = tagL o by simp [bodyL, hk])
 generalize bodyL o = M at HM
 have c0 : cs[0]? = some (.int .i64 4) := by rw [h.F.c0, hk]
 have c1 := h.F.c1
 rw [hd] at c1
 have c2 := h.F.c2
 rw [he] at c2
 have C70 := Lib.hid h.F.c70
 have C71 := Lib.hid h.F.c71
 have hf := ft.f hk
 have hn := ft.n
 have HL := Lib.hid h.F.tal
 have HR := Lib.hid (fun W (q : Kp w cs 59 W) => h.F.rta q.held)
 have htl := text_len o.name (by omega)
 have hs2 : ¬ 9223372036854775807 < 1 + o.target.length := by have := HL.out; omega
 have hs3 : ¬ 9223372036854775807 < 1 + o.target.length + (textOf o.name).size := by have := HL.out; omega
 have u24 := Tryz.underlying46
 have i24 := idsize HL.out
 have K0 := Kp.box w cs 59
 have HMK := Lib.hid (fun W (q : Kp w cs 59 W) => (⟨q, q.cell C70.out, q.cell C71.out, HR.out W q⟩ : Kp w cs 59 W ∧ W.cell? ⟨w.heap.size, 70, none⟩ = some (.int .i64 o.of) ∧ W.cell? ⟨w.heap.size, 71, none⟩ = some (.string o.name) ∧ W.rangeAt w.heap.size 38 (idC o.target)))
 clear h ft hk he hd
 go_enter Tryz.func102, Tryz.ntmps102
 go_wp2
 go_loop [3, 4] (fun s i => s = .string ⟨#[]⟩ ∧ i = .int .i64 0) (fun _ _ => 0)
 case atStart => exact ⟨rfl, rfl⟩
 case round =>
  obtain ⟨rfl, rfl⟩ := hrel
  go_wp2
  go_region_held3 (fun w' => Kp w cs 59 w' ∧ w'.cell? ⟨w.heap.size, 70, none⟩ = some (.int .i64 o.of) ∧ w'.cell? ⟨w.heap.size, 71, none⟩ = some (.string o.name) ∧ w'.rangeAt w.heap.size 38 (idC o.target))
   (first | exact HMK.out _ K0.drew | (refine HMK.out _ (Kp.step ?_ (by assumption)); exact And.left (by assumption)))
   ((first
     | (go_at_call 100; refine (one_any _ _ hf.1 hf.2).mono ?_; rintro r wx ⟨rfl, hx⟩)
     | (go_at_call 101; refine (reftext_any _ _ (by omega)).mono ?_; rintro r wx ⟨rfl, hx⟩)
     | (go_at_call 135; refine (bytes_any _ _ HL.out).mono ?_; rintro r wx ⟨rfl, hx⟩)))
  rename_i hH
  go_wp2
  go_ret
  refine ⟨ret_str (bytes_ext ?_), hH.1.below⟩
  rw [HM.out]
  simp [tagL, ByteArray.data_append]
theorem refbody_commit (cs : Array Value) (o : Ob) (ao bo : Option Addr) (ca cb : Nat) (w : World) (h : ObAt w cs o ao bo ca cb) (ft : Fit o) (hk : o.kind = 3) (he : o.ents = []) (hd : o.data = ⟨#[]⟩) :
  Calls Tryz.prog 102 #[.agg cs] w fun r w' => r = .returned (.string ⟨(bodyL o).toArray⟩) ∧ Below w.heap.size w w' := by
 have HM := Lib.hid (show bodyL o = commitL o by simp [bodyL, hk])
 generalize bodyL o = M at HM
 have C0 := Lib.hid (show cs[0]? = some (.int .i64 3) by rw [h.F.c0, hk])
 have c0 := C0.out
 have c1 := h.F.c1
 rw [hd] at c1
 have c2 := h.F.c2
 rw [he] at c2
 have C35 := Lib.hid h.F.c35
 have C36 := Lib.hid h.F.c36
 have C37 := Lib.hid h.F.c37
 have HP := Lib.hid h.P
 have HD := Lib.hid h.pid
 have hp := ft.p hk
 have ht := ft.t
 have hti := h.ti
 have HL := Lib.hid h.F.trl
 have HR := Lib.hid (fun W (q : Kp w cs 59 W) => h.F.rtr q.held)
 have hu1 := Lib.uvarint_length64 (x := o.pars.length) (by omega)
 have hu2 := Lib.uvarint_length64 (x := o.time) (by omega)
 have hp00 : ¬ 9223372036854775807 < o.tree.length := by have := HL.out; omega
 have hp0 : ¬ 9223372036854775807 < o.tree.length + (Lib.uvarint o.pars.length).length := by have := HL.out; omega
 have hwu : IntKind.u64.wrap (o.pars.length : Int) = (o.pars.length : Int) := by simp [IntKind.wrap, IntKind.bits, IntKind.signed]; omega
 have hU24 := Tryz.underlying46
 have hI24 := idsize HL.out
 have K0 := Kp.box w cs 59
 have HMK := Lib.hid (fun W (q : Kp w cs 59 W) => (⟨q, q.cell C35.out, HR.out W q⟩ : Kp w cs 59 W ∧ W.cell? ⟨w.heap.size, 35, none⟩ = some (.slice bo o.pars.length cb) ∧ W.rangeAt w.heap.size 3 (idC o.tree)))
 clear h ft hk he hd
 go_enter Tryz.func102, Tryz.ntmps102
 go_wp2
 go_loop [3, 4] (fun s i => s = .string ⟨#[]⟩ ∧ i = .int .i64 0) (fun _ _ => 0)
 case atStart => exact ⟨rfl, rfl⟩
 case round =>
  obtain ⟨rfl, rfl⟩ := hrel
  go_wp2
  go_region_held3 (fun w' => Kp w cs 59 w' ∧ w'.cell? ⟨w.heap.size, 35, none⟩ = some (.slice bo o.pars.length cb) ∧ w'.rangeAt w.heap.size 3 (idC o.tree))
   (first | exact HMK.out _ K0.drew | (refine HMK.out _ (Kp.step ?_ (by assumption)); exact And.left (by assumption)))
   ((first
     | (go_at_call 134; refine (refput_any o.pars.length _ (by omega)).mono ?_; rintro r wx ⟨rfl, hx⟩)
     | (go_at_call 135; refine (bytes_any _ _ HL.out).mono ?_; rintro r wx ⟨rfl, hx⟩)))
  rename_i hH
  have K1 := hH.1
  clear hH hU24 hI24 K0 HMK
  generalize hA0 : (({ data := #[] } : ByteArray) ++ { data := o.tree.toArray } ++ { data := (Lib.uvarint o.pars.length).toArray }) = acc0
  have HA0 := Lib.hid (show acc0.data.toList = o.tree ++ Lib.uvarint o.pars.length ++ (o.pars.take 0).flatten by rw [← hA0]; simp [ByteArray.data_append])
  clear hA0
  go_wp2
  go_loopw [3, 5] (fun s i wr => ∃ (k : Nat) (acc : ByteArray), k ≤ o.pars.length ∧ i = .int .i64 k ∧ s = .string acc ∧ Hid (acc.data.toList = o.tree ++ Lib.uvarint o.pars.length ++ (o.pars.take k).flatten) ∧ Kp w cs 59 wr) (fun _ i _ => o.pars.length - (intOf i).toNat)
  case atStart => exact ⟨0, acc0, by omega, rfl, rfl, HA0, K1⟩
  case round =>
   clear K1 HA0
   obtain ⟨k, acc, hk, rfl, rfl, HA, K1⟩ := hrel
   have c35 := K1.cell C35.out
   have hal : acc.size ≤ 1000 := by
    have h1 := pars_len (o.pars.take k) (fun x hx => HD.out x (List.mem_of_mem_take hx))
    have h2 := congrArg List.length HA.out
    rw [size_list, List.length_append, List.length_append, h1, List.length_take, HL.out] at h2; omega
   by_cases hlt : k < o.pars.length
   ·
    have hlt' : (k : Int) < (o.pars.length : Int) := by omega
    obtain ⟨e, he⟩ : ∃ e, o.pars[k]? = some e := ⟨o.pars[k], List.getElem?_eq_getElem hlt⟩
    obtain ⟨a, rfl, hc⟩ := par_cells (HP.out.below K1.below) k e he
    have HCC := Lib.hid hc
    have HLE := Lib.hid (HD.out e (List.mem_of_getElem? he))
    have HT := Lib.hid (show (acc ++ ⟨e.toArray⟩).data.toList = o.tree ++ Lib.uvarint o.pars.length ++ (o.pars.take (k + 1)).flatten by
     rw [take_flat _ _ _ he, ← List.append_assoc, ← HA.out]; simp [ByteArray.data_append])
    have hs1 : ¬ 9223372036854775807 < acc.size + e.length := by have := HLE.out; omega
    clear hc he
    go_wp2_with (first
     | (go_at_call 135; refine (bytes_any _ _ HLE.out).mono ?_; rintro r wy ⟨rfl, hy⟩)
     | ((with_reducible apply ld_id (hc := HCC.out) (hl := HLE.out)); rfl; rfl; rfl))
    go_roundw
    case rel => exact ⟨k + 1, _, by omega, by go_num, rfl, HT, K1.step hy⟩
    case measure => simp [intOf]; omega
   ·
    have HT := Lib.hid (show acc.data.toList = o.tree ++ Lib.uvarint o.pars.length ++ o.pars.flatten by rw [HA.out, List.take_of_length_le (by omega)])
    have hxl := text_len o.text ht
    have hs1 : ¬ 9223372036854775807 < acc.size + (Lib.uvarint o.time).length := by omega
    have hs2 : ¬ 9223372036854775807 < acc.size + (Lib.uvarint o.time).length + (textOf o.text).size := by omega
    have hwt : IntKind.u64.wrap (o.time : Int) = (o.time : Int) := by simp [IntKind.wrap, IntKind.bits, IntKind.signed]; omega
    have HMK := Lib.hid (fun W (q : Kp w cs 59 W) => (⟨q, q.cell C36.out, q.cell C37.out, q.cell C0.out⟩ : Kp w cs 59 W ∧ W.cell? ⟨w.heap.size, 36, none⟩ = some (.int .u32 (o.time : Int)) ∧ W.cell? ⟨w.heap.size, 37, none⟩ = some (.string o.text) ∧ W.cell? ⟨w.heap.size, 0, none⟩ = some (.int .i64 3)))
    go_wp2
    go_region_held3 (fun w' => Kp w cs 59 w' ∧ w'.cell? ⟨w.heap.size, 36, none⟩ = some (.int .u32 (o.time : Int)) ∧ w'.cell? ⟨w.heap.size, 37, none⟩ = some (.string o.text) ∧ w'.cell? ⟨w.heap.size, 0, none⟩ = some (.int .i64 3))
     (first | exact HMK.out _ K1.drew | (refine HMK.out _ (Kp.step ?_ (by assumption)); exact And.left (by assumption)))
     ((first
       | (go_at_call 134; refine (refput_any o.time _ (by omega)).mono ?_; rintro r wx ⟨rfl, hx⟩)
       | (go_at_call 101; refine (reftext_any _ _ (by omega)).mono ?_; rintro r wx ⟨rfl, hx⟩)))
    rename_i hH
    go_wp2
    go_ret
    refine ⟨ret_str (bytes_ext ?_), hH.1.below⟩
    rw [HM.out]
    simp only [ByteArray.data_append, Array.toList_append, HT.out, commitL]
end Go.Proofs.YtkcjhkfelaplkaaGreatDoor
end
end
section
section
namespace Go.Proofs.YtkcjhkfelaplkaaGreatDoor
open Go.RowKit
theorem st_id2 {ops : Array Oper} {rest : List Oper} {op : Oper} {a : Act} {w : World} {Q : Exit → Act → World → Prop} {x y : Operand} {g : Nat} {l : List UInt8} {c : Array Value} (ho : op.op = .store 46 x y) (hx : a.eval x = .pointer (some ⟨g, 0, none⟩)) (hy : a.eval y = .agg (idC l).toArray) (hg : op.guard = none) (hc : c.size = 32) (hgs : g = w.heap.size) (hl : l.length = 32)
  (h : wpList Tryz.prog ops Q rest (a.put op.dst undef) (w.alloc (.cells (idC l).toArray 46))) : wpList Tryz.prog ops Q (op :: rest) a (w.alloc (.cells c 46)) := by
 subst hgs; exact st_id ho hx hy hg hc hl h
theorem ldg_idm {ops : Array Oper} {rest : List Oper} {op : Oper} {a : Act} {w : World} {Q : Exit → Act → World → Prop} {x : Operand} {l : List UInt8} {b o : Nat} (ho : op.op = .load 46 x) (hx : a.eval x = .pointer (some ⟨b, o, none⟩)) (hw : Region.wanted op (yielded ops a.tmps) = true) (hc : w.rangeAt b o (idC l)) (hl : l.length = 32)
  (h : wpList Tryz.prog ops Q rest (a.put op.dst (.agg (idC l).toArray)) w) : wpList Tryz.prog ops Q (op :: rest) a w :=
 wpList_load_mid_g hw 46 x ho b o hx _ _ hc Tryz.underlying46 rfl (idsize hl) h
theorem built_zid : Tryz.prog.built 46 [] = some (idC zId).toArray := by kernel_rfl
theorem bd_zid {ops : Array Oper} {rest : List Oper} {op : Oper} {a : Act} {w : World} {Q : Exit → Act → World → Prop} (ho : op.op = .build 46 #[]) (hg : op.guard = none)
  (h : wpList Tryz.prog ops Q rest (a.put op.dst (.agg (idC zId).toArray)) w) : wpList Tryz.prog ops Q (op :: rest) a w :=
 wpList_build_as hg _ _ ho _ (by simpa using built_zid) h
theorem less_tri : ∀ a b : List UInt8, Op.bytesLess a b = !(Op.bytesLess b a || b == a)
 | [], [] => rfl
 | [], _ :: _ => by simp [Op.bytesLess]
 | _ :: _, [] => by simp [Op.bytesLess]
 | x :: a, y :: b => by
   have ih := less_tri a b
   simp only [Op.bytesLess, ih]
   rcases Nat.lt_trichotomy x.toNat y.toNat with h | h | h
   ·
    have h1 : x < y := UInt8.lt_iff_toNat_lt.2 h
    have h2 : ¬ y < x := fun c => by have := UInt8.lt_iff_toNat_lt.1 c; omega
    have h3 : y ≠ x := fun c => by rw [c] at h; omega
    simp [h1, h2, h3]
   ·
    have h0 : x = y := UInt8.toNat_inj.1 h
    subst h0
    have h2 : ¬ x < x := fun c => by have := UInt8.lt_iff_toNat_lt.1 c; omega
    simp [h2]
   ·
    have h1 : ¬ x < y := fun c => by have := UInt8.lt_iff_toNat_lt.1 c; omega
    have h2 : y < x := UInt8.lt_iff_toNat_lt.2 h
    have h3 : x ≠ y := fun c => by rw [c] at h; omega
    simp [h1, h2, h3]
theorem gtB_eq (a b : ByteArray) : gtB a b = Op.bytesLess a.toList b.toList := by rw [less_tri a.toList b.toList]; rfl
theorem gt_empty {s : ByteArray} (h : nameOk s = true) : gtB ⟨#[]⟩ s = true := by
 rw [gtB_eq]
 have h1 := (nameOk_size h).1
 have h2 : (ByteArray.mk #[]).toList = [] := by rw [ByteArray.toList_eq]
 rw [h2]
 cases hs : s.toList with
 | nil =>
   have := congrArg List.length hs
   rw [ByteArray.toList_eq, size_list] at this
   simp only [List.length_nil] at this; omega
 | cons x r => rfl
theorem isEmpty_len {α : Type} (l : List α) : l.isEmpty = decide (l.length = 0) := by cases l <;> simp
theorem may_blob (cs : Array Value) (o : Ob) (ao bo : Option Addr) (ca cb : Nat) (w : World) (h : ObAt w cs o ao bo ca cb) (hk : o.kind = 1) :
  Calls Tryz.prog 99 #[.agg cs] w fun r w' => r = .returned (.bool (validB o)) ∧ Below w.heap.size w w' := by
 have HZ := Lib.hid (show validB o = (treeZ o && commitZ o && tagZ o) by simp [validB, foreignZ, hk])
 generalize validB o = z at HZ
 have HZ1 := Lib.hid (show blobZ o = o.data.toList.isEmpty from rfl)
 have HZ2 := Lib.hid (show treeZ o = decide (o.ents.length = 0) from isEmpty_len _)
 have HZ3 := Lib.hid (show commitZ o = (decide (o.tree = zId) && decide (o.pars.length = 0) && decide (o.time = 0) && o.text.toList.isEmpty) by rw [← isEmpty_len]; rfl)
 have HZ4 := Lib.hid (show tagZ o = (decide (o.target = zId) && decide (o.of = 0) && o.name.toList.isEmpty) from rfl)
 generalize blobZ o = z1 at HZ HZ1
 generalize treeZ o = z2 at HZ HZ2
 generalize commitZ o = z3 at HZ HZ3
 generalize tagZ o = z4 at HZ HZ4
 have c0 : cs[0]? = some (.int .i64 1) := by rw [h.F.c0, hk]
 have c1 := h.F.c1
 have c2 := h.F.c2
 have c35 := h.F.c35
 have c36 := h.F.c36
 have c37 := h.F.c37
 have c70 := h.F.c70
 have c71 := h.F.c71
 have hpl := h.pl
 have hel := h.el
 unfold maxLen at hpl hel
 have hq3 := fun W => eq_id o.tree zId h.F.trl rfl W
 have hq7 := fun W => eq_id o.target zId h.F.tal rfl W
 have HT := Lib.hid h.F.trl
 have HG := Lib.hid h.F.tal
 have HO := Lib.hid (show zId.length = 32 from rfl)
 have HNM := Lib.hid (fun W => refname_any o.name W h.nm)
 generalize decide (o.tree = zId) = tz at hq3 HZ3
 generalize decide (o.target = zId) = gz at hq7 HZ4
 have E0 := heap_alloc2_old w (.cells cs 59) (.cells (idC zId).toArray 46)
 have E1 := heap_alloc2_new w (.cells cs 59) (.cells (idC zId).toArray 46)
 have RT := Lib.hid (h.F.rtr E0)
 have RG := Lib.hid (h.F.rta E0)
 have RO := Lib.hid (id_rid E1)
 clear E0 E1 h hk
 generalize o.ents.length = ne at c2 HZ2 hel HZ
 generalize o.pars.length = np at c35 HZ3 hpl HZ
 generalize nameOk o.name = nb at HNM HZ
 have hB := ((Below.refl w.heap.size w).alloc (Nat.le_refl _) (.cells cs 59)).alloc (by simp) (.cells (idC zId).toArray 46)
 go_enter Tryz.func99, Tryz.ntmps99
 go_wp2_with (first
  | (go_at_call 133; ((with_reducible refine (HNM.out _).mono ?_); rintro r wx ⟨rfl, rfl⟩))
  | ((with_reducible refine bd_zid ?_ ?_ ?_); rfl; rfl)
  | ((with_reducible refine st_id2 (x := .tmp 3) (y := .tmp 16) (g := w.heap.size + 1) ?_ ?_ ?_ ?_ ?_ ?_ HO.out ?_); rfl; rfl; rfl; rfl; rfl; simp)
  | ((fail_if_success (fail_if_success go_guarded)); (with_reducible refine ldg_idm (x := .tmp 40) ?_ ?_ ?_ RT.out HT.out ?_); rfl; rfl; kernel_rfl)
  | ((fail_if_success (fail_if_success go_guarded)); (with_reducible refine ldg_idm (x := .tmp 3) ?_ ?_ ?_ RO.out HO.out ?_); rfl; rfl; kernel_rfl)
  | ((with_reducible refine ld_idm (x := .tmp 64) ?_ ?_ ?_ RG.out HG.out ?_); rfl; rfl; rfl)
  | ((with_reducible refine ld_idm (x := .tmp 3) ?_ ?_ ?_ RO.out HO.out ?_); rfl; rfl; rfl))
 all_goals first
  | (go_ret
     refine ⟨ret_bool ?_, hB⟩
     rw [HZ.out]
     have e1 := HZ1.out
     have e2 := HZ2.out
     have e3 := HZ3.out
     have e4 := HZ4.out
     simp_all <;> omega)
  | skip
 obtain rfl : ne = 0 := by omega
 go_loop [5] (fun i => i = .int .i64 0) (fun _ => 0)
 case atStart => rfl
 case round =>
  subst hrel
  go_wp2
  go_ret
  refine ⟨ret_bool ?_, hB⟩
  rw [HZ.out]
  have e1 := HZ1.out
  have e2 := HZ2.out
  have e3 := HZ3.out
  have e4 := HZ4.out
  simp_all <;> omega
theorem may_commit (cs : Array Value) (o : Ob) (ao bo : Option Addr) (ca cb : Nat) (w : World) (h : ObAt w cs o ao bo ca cb) (hk : o.kind = 3) :
  Calls Tryz.prog 99 #[.agg cs] w fun r w' => r = .returned (.bool (validB o)) ∧ Below w.heap.size w w' := by
 have HZ := Lib.hid (show validB o = (blobZ o && treeZ o && tagZ o && decide (o.pars.length ≤ 8)) by simp [validB, foreignZ, hk])
 generalize validB o = z at HZ
 have HZ1 := Lib.hid (show blobZ o = o.data.toList.isEmpty from rfl)
 have HZ2 := Lib.hid (show treeZ o = decide (o.ents.length = 0) from isEmpty_len _)
 have HZ3 := Lib.hid (show commitZ o = (decide (o.tree = zId) && decide (o.pars.length = 0) && decide (o.time = 0) && o.text.toList.isEmpty) by rw [← isEmpty_len]; rfl)
 have HZ4 := Lib.hid (show tagZ o = (decide (o.target = zId) && decide (o.of = 0) && o.name.toList.isEmpty) from rfl)
 generalize blobZ o = z1 at HZ HZ1
 generalize treeZ o = z2 at HZ HZ2
 generalize commitZ o = z3 at HZ HZ3
 generalize tagZ o = z4 at HZ HZ4
 have c0 : cs[0]? = some (.int .i64 3) := by rw [h.F.c0, hk]
 have c1 := h.F.c1
 have c2 := h.F.c2
 have c35 := h.F.c35
 have c36 := h.F.c36
 have c37 := h.F.c37
 have c70 := h.F.c70
 have c71 := h.F.c71
 have hpl := h.pl
 have hel := h.el
 unfold maxLen at hpl hel
 have hq3 := fun W => eq_id o.tree zId h.F.trl rfl W
 have hq7 := fun W => eq_id o.target zId h.F.tal rfl W
 have HT := Lib.hid h.F.trl
 have HG := Lib.hid h.F.tal
 have HO := Lib.hid (show zId.length = 32 from rfl)
 have HNM := Lib.hid (fun W => refname_any o.name W h.nm)
 generalize decide (o.tree = zId) = tz at hq3 HZ3
 generalize decide (o.target = zId) = gz at hq7 HZ4
 have E0 := heap_alloc2_old w (.cells cs 59) (.cells (idC zId).toArray 46)
 have E1 := heap_alloc2_new w (.cells cs 59) (.cells (idC zId).toArray 46)
 have RT := Lib.hid (h.F.rtr E0)
 have RG := Lib.hid (h.F.rta E0)
 have RO := Lib.hid (id_rid E1)
 clear E0 E1 h hk
 generalize o.ents.length = ne at c2 HZ2 hel HZ
 generalize o.pars.length = np at c35 HZ3 hpl HZ
 generalize nameOk o.name = nb at HNM HZ
 have hB := ((Below.refl w.heap.size w).alloc (Nat.le_refl _) (.cells cs 59)).alloc (by simp) (.cells (idC zId).toArray 46)
 go_enter Tryz.func99, Tryz.ntmps99
 go_wp2_with (first
  | (go_at_call 133; ((with_reducible refine (HNM.out _).mono ?_); rintro r wx ⟨rfl, rfl⟩))
  | ((with_reducible refine bd_zid ?_ ?_ ?_); rfl; rfl)
  | ((with_reducible refine st_id2 (x := .tmp 3) (y := .tmp 16) (g := w.heap.size + 1) ?_ ?_ ?_ ?_ ?_ ?_ HO.out ?_); rfl; rfl; rfl; rfl; rfl; simp)
  | ((fail_if_success (fail_if_success go_guarded)); (with_reducible refine ldg_idm (x := .tmp 40) ?_ ?_ ?_ RT.out HT.out ?_); rfl; rfl; kernel_rfl)
  | ((fail_if_success (fail_if_success go_guarded)); (with_reducible refine ldg_idm (x := .tmp 3) ?_ ?_ ?_ RO.out HO.out ?_); rfl; rfl; kernel_rfl)
  | ((with_reducible refine ld_idm (x := .tmp 64) ?_ ?_ ?_ RG.out HG.out ?_); rfl; rfl; rfl)
  | ((with_reducible refine ld_idm (x := .tmp 3) ?_ ?_ ?_ RO.out HO.out ?_); rfl; rfl; rfl))
 all_goals first
  | (go_ret
     refine ⟨ret_bool ?_, hB⟩
     rw [HZ.out]
     have e1 := HZ1.out
     have e2 := HZ2.out
     have e3 := HZ3.out
     have e4 := HZ4.out
     simp_all <;> omega)
  | skip
 obtain rfl : ne = 0 := by omega
 go_loop [5] (fun i => i = .int .i64 0) (fun _ => 0)
 case atStart => rfl
 case round =>
  subst hrel
  go_wp2
  go_ret
  refine ⟨ret_bool ?_, hB⟩
  rw [HZ.out]
  have e1 := HZ1.out
  have e2 := HZ2.out
  have e3 := HZ3.out
  have e4 := HZ4.out
  simp_all <;> omega
end Go.Proofs.YtkcjhkfelaplkaaGreatDoor
end
section
namespace Go.Proofs.YtkcjhkfelaplkaaGreatDoor
open Go.RowKit
theorem len32 {l : List UInt8} (h : l.length = 32) : ∃ x0 x1 x2 x3 x4 x5 x6 x7 x8 x9 x10 x11 x12 x13 x14 x15 x16 x17 x18 x19 x20 x21 x22 x23 x24 x25 x26 x27 x28 x29 x30 x31 : UInt8, l = [x0, x1, x2, x3, x4, x5, x6, x7, x8, x9, x10, x11, x12, x13, x14, x15, x16, x17, x18, x19, x20, x21, x22, x23, x24, x25, x26, x27, x28, x29, x30, x31] := by
 rcases l with _ | ⟨x0, l⟩
 · simp at h
 rcases l with _ | ⟨x1, l⟩
 · simp at h
 rcases l with _ | ⟨x2, l⟩
 · simp at h
 rcases l with _ | ⟨x3, l⟩
 · simp at h
 rcases l with _ | ⟨x4, l⟩
 · simp at h
 rcases l with _ | ⟨x5, l⟩
 · simp at h
 rcases l with _ | ⟨x6, l⟩
 · simp at h
 rcases l with _ | ⟨x7, l⟩
 · simp at h
 rcases l with _ | ⟨x8, l⟩
 · simp at h
 rcases l with _ | ⟨x9, l⟩
 · simp at h
 rcases l with _ | ⟨x10, l⟩
 · simp at h
 rcases l with _ | ⟨x11, l⟩
 · simp at h
 rcases l with _ | ⟨x12, l⟩
 · simp at h
 rcases l with _ | ⟨x13, l⟩
 · simp at h
 rcases l with _ | ⟨x14, l⟩
 · simp at h
 rcases l with _ | ⟨x15, l⟩
 · simp at h
 rcases l with _ | ⟨x16, l⟩
 · simp at h
 rcases l with _ | ⟨x17, l⟩
 · simp at h
 rcases l with _ | ⟨x18, l⟩
 · simp at h
 rcases l with _ | ⟨x19, l⟩
 · simp at h
 rcases l with _ | ⟨x20, l⟩
 · simp at h
 rcases l with _ | ⟨x21, l⟩
 · simp at h
 rcases l with _ | ⟨x22, l⟩
 · simp at h
 rcases l with _ | ⟨x23, l⟩
 · simp at h
 rcases l with _ | ⟨x24, l⟩
 · simp at h
 rcases l with _ | ⟨x25, l⟩
 · simp at h
 rcases l with _ | ⟨x26, l⟩
 · simp at h
 rcases l with _ | ⟨x27, l⟩
 · simp at h
 rcases l with _ | ⟨x28, l⟩
 · simp at h
 rcases l with _ | ⟨x29, l⟩
 · simp at h
 rcases l with _ | ⟨x30, l⟩
 · simp at h
 rcases l with _ | ⟨x31, l⟩
 · simp at h
 rcases l with _ | ⟨y, l⟩
 · exact ⟨_, _, _, _, _, _, _, _, _, _, _, _, _, _, _, _, _, _, _, _, _, _, _, _, _, _, _, _, _, _, _, _, rfl⟩
 · simp at h
theorem built_en (n : ByteArray) (k : Int) (l : List UInt8) (h : l.length = 32) : Tryz.prog.built 178 [(0, .string n), (1, .int .i64 k), (2, .agg (idC l).toArray)] = some (enC ⟨n, k, l⟩).toArray := by
 obtain ⟨x0, x1, x2, x3, x4, x5, x6, x7, x8, x9, x10, x11, x12, x13, x14, x15, x16, x17, x18, x19, x20, x21, x22, x23, x24, x25, x26, x27, x28, x29, x30, x31, rfl⟩ := len32 h
 kernel_rfl
theorem builtS_en (n : ByteArray) (k : Int) (l : List UInt8) (h : l.length = 32) : Tryz.prog.builtSlice 178 1 [(0, .agg (enC ⟨n, k, l⟩).toArray)] = some (enC ⟨n, k, l⟩).toArray := by
 obtain ⟨x0, x1, x2, x3, x4, x5, x6, x7, x8, x9, x10, x11, x12, x13, x14, x15, x16, x17, x18, x19, x20, x21, x22, x23, x24, x25, x26, x27, x28, x29, x30, x31, rfl⟩ := len32 h
 kernel_rfl
theorem builtS_id (l : List UInt8) (h : l.length = 32) : Tryz.prog.builtSlice 46 1 [(0, .agg (idC l).toArray)] = some (idC l).toArray := by
 obtain ⟨x0, x1, x2, x3, x4, x5, x6, x7, x8, x9, x10, x11, x12, x13, x14, x15, x16, x17, x18, x19, x20, x21, x22, x23, x24, x25, x26, x27, x28, x29, x30, x31, rfl⟩ := len32 h
 kernel_rfl
def obC (o : Ob) (ev pv : Value) : List Value := .int .i64 o.kind :: .string o.data :: ev :: (idC o.tree ++ (pv :: .int .u32 (o.time : Int) :: .string o.text :: (idC o.target ++ [.int .i64 o.of, .string o.name])))
theorem obC_F (o : Ob) (ev pv : Value) (h1 : o.tree.length = 32) (h2 : o.target.length = 32) (he : ev.oneCell' = true) (hp : pv.oneCell' = true) : ObF (obC o ev pv).toArray o ev pv := by
 have e1 : (idC o.tree).length = 32 := by rw [idC_length, h1]
 have e2 : (idC o.target).length = 32 := by rw [idC_length, h2]
 have g : ∀ j, (obC o ev pv).toArray[35 + j]? = (pv :: .int .u32 (o.time : Int) :: .string o.text :: (idC o.target ++ [.int .i64 o.of, .string o.name]))[j]? := fun j => by
  rw [List.getElem?_toArray, show 35 + j = (32 + j) + 1 + 1 + 1 by omega]
  simp only [obC, List.getElem?_cons_succ]
  rw [List.getElem?_append_right (by omega), e1]
  congr 1; omega
 have g2 : ∀ j, (obC o ev pv).toArray[70 + j]? = ([.int .i64 o.of, .string o.name] : List Value)[j]? := fun j => by
  rw [show 70 + j = 35 + (35 + j) by omega, g, show 35 + j = (32 + j) + 1 + 1 + 1 by omega]
  simp only [List.getElem?_cons_succ]
  rw [List.getElem?_append_right (by omega), e2]
  congr 1; omega
 refine ⟨rfl, rfl, rfl, fun j v hv => ?_, g 0, g 1, g 2, fun j v hv => ?_, g2 0, g2 1, h1, h2, ?_, ?_⟩
 ·
  have hj := (List.getElem?_eq_some_iff.1 hv).1
  rw [List.getElem?_toArray, show 3 + j = j + 1 + 1 + 1 by omega]
  simp only [obC, List.getElem?_cons_succ]
  rw [List.getElem?_append_left hj]; exact hv
 ·
  have hj := (List.getElem?_eq_some_iff.1 hv).1
  rw [show 38 + j = 35 + (j + 1 + 1 + 1) by omega, g]
  simp only [List.getElem?_cons_succ]
  rw [List.getElem?_append_left hj]; exact hv
 · simp [obC, e1, e2]
 ·
  refine all_oneCell_toArray (fun v hv => ?_)
  simp only [obC, List.mem_cons, List.mem_append, List.not_mem_nil, or_false] at hv
  rcases hv with rfl | rfl | rfl | h | rfl | rfl | rfl | h | rfl | rfl
  all_goals first | rfl | exact he | exact hp | exact idC_one _ _ h
def noOb : Ob := ⟨0, ⟨#[]⟩, [], zId, [], 0, ⟨#[]⟩, zId, 0, ⟨#[]⟩⟩
def nilV : Value := .slice none 0 0
theorem built_none : Tryz.prog.built 59 [] = some (obC noOb nilV nilV).toArray := by kernel_rfl
theorem built_blob (d : ByteArray) : Tryz.prog.built 59 [(0, .int .i64 1), (1, .string d)] = some (obC { noOb with kind := 1, data := d } nilV nilV).toArray := by kernel_rfl
theorem built_tree (ev : Value) (ao : Option Addr) (n c : Nat) (h : ev = .slice ao n c) (es : List En) : Tryz.prog.built 59 [(0, .int .i64 2), (2, ev)] = some (obC { noOb with kind := 2, ents := es } ev nilV).toArray := by
 subst h; kernel_rfl
theorem built_commit (l : List UInt8) (h : l.length = 32) (pv : Value) (bo : Option Addr) (n c : Nat) (hp : pv = .slice bo n c) (ps : List (List UInt8)) (ti : Nat) (te : ByteArray) : Tryz.prog.built 59 [(0, .int .i64 3), (3, .agg (idC l).toArray), (4, pv), (5, .int .u32 (ti : Int)), (6, .string te)] = some (obC { noOb with kind := 3, tree := l, pars := ps, time := ti, text := te } nilV pv).toArray := by
 subst hp
 obtain ⟨x0, x1, x2, x3, x4, x5, x6, x7, x8, x9, x10, x11, x12, x13, x14, x15, x16, x17, x18, x19, x20, x21, x22, x23, x24, x25, x26, x27, x28, x29, x30, x31, rfl⟩ := len32 h
 kernel_rfl
theorem built_tag (l : List UInt8) (h : l.length = 32) (f : Int) (nm : ByteArray) : Tryz.prog.built 59 [(0, .int .i64 4), (8, .int .i64 f), (7, .agg (idC l).toArray), (9, .string nm)] = some (obC { noOb with kind := 4, target := l, of := f, name := nm } nilV nilV).toArray := by
 obtain ⟨x0, x1, x2, x3, x4, x5, x6, x7, x8, x9, x10, x11, x12, x13, x14, x15, x16, x17, x18, x19, x20, x21, x22, x23, x24, x25, x26, x27, x28, x29, x30, x31, rfl⟩ := len32 h
 kernel_rfl
end Go.Proofs.YtkcjhkfelaplkaaGreatDoor
end
section
namespace Go.Proofs.YtkcjhkfelaplkaaGreatDoor
open Go.RowKit
def Rd (w : World) (g : Nat) (s : ByteArray) (b : Bool) : Prop := w.heap[g]? = some (.cells #[.string s, .bool b] 181)
theorem Rd.c0 {w : World} {g : Nat} {s : ByteArray} {b : Bool} (h : Rd w g s b) : w.cell? ⟨g, 0, none⟩ = some (.string s) := (Lib.cell_of_heap h 0)
theorem Rd.c1 {w : World} {g : Nat} {s : ByteArray} {b : Bool} (h : Rd w g s b) : w.cell? ⟨g, 1, none⟩ = some (.bool b) := (Lib.cell_of_heap h 1)
theorem Rd.f {w : World} {g : Nat} {s : ByteArray} {b : Bool} (h : Rd w g s b) (j : Nat) : w.frozen? ⟨g, j, none⟩ = false := Lib.frozen_of_heap h j
theorem Rd.set0 {w : World} {g : Nat} {s : ByteArray} {b : Bool} (h : Rd w g s b) (t : ByteArray) : Rd (w.setCell ⟨g, 0, none⟩ (.string t)) g t b := by
 have := heap_setCell_same w g 0 _ _ (.string t) h
 simpa [Rd] using this
theorem Rd.set1 {w : World} {g : Nat} {s : ByteArray} {b : Bool} (h : Rd w g s b) (c : Bool) : Rd (w.setCell ⟨g, 1, none⟩ (.bool c)) g s c := by
 have := heap_setCell_same w g 1 _ _ (.bool c) h
 simpa [Rd] using this
theorem grown_set (w : World) (g i : Nat) (v : Value) : w.grownBy (w.setCell ⟨g, i, none⟩ v) (some g) :=
 ⟨rfl, rfl, rfl, by simp [World.setCell], fun k _ hk => Below.heap_setCell _ _ _ _ (fun e => hk (by simp [e]))⟩
theorem grown_trans {a b c : World} {g : Nat} (h : a.grownBy b (some g)) (k : b.grownBy c (some g)) : a.grownBy c (some g) :=
 ⟨k.os.trans h.os, k.tape.trans h.tape, k.output.trans h.output, Nat.le_trans h.size k.size, fun i hi hne => (k.block i (Nat.lt_of_lt_of_le hi h.size) hne).trans (h.block i hi hne)⟩
theorem ret_int {k : IntKind} {a b : Int} (h : a = b) : Ending.returned (.int k a) = .returned (.int k b) := by rw [h]
theorem fail_any (g : Nat) (s : ByteArray) (b : Bool) (w : World) (h : Rd w g s b) :
  Calls Tryz.prog 144 #[.pointer (some ⟨g, 0, none⟩)] w fun r w' => r = .returned (.tuple #[]) ∧ Rd w' g ⟨#[]⟩ true ∧ w.grownBy w' (some g) := by
 have c0 := h.c0
 have f0 := h.f 0
 have h1 := h.set0 ⟨#[]⟩
 have c1 := h1.c1
 have f1 := h1.f 1
 have H2 := Lib.hid (h1.set1 true)
 clear h h1
 go_enter Tryz.func144, Tryz.ntmps144
 go_wp2
 go_end0
 exact ⟨rfl, H2.out, grown_trans (grown_set _ _ _ _) (grown_set _ _ _ _)⟩
theorem kind_none (g : Nat) (b : Bool) (w : World) (h : Rd w g ⟨#[]⟩ b) :
  Calls Tryz.prog 106 #[.pointer (some ⟨g, 0, none⟩)] w fun r w' => r = .returned (.int .i64 0) ∧ Rd w' g ⟨#[]⟩ true ∧ w.grownBy w' (some g) := by
 have c0 := h.c0
 have HF := Lib.hid (fail_any g _ b w h)
 clear h
 go_enter Tryz.func106, Tryz.ntmps106
 go_wp2_with fail
 refine HF.out.mono ?_
 rintro r w1 ⟨rfl, h1, h2⟩
 go_wp2
 go_ret
 exact ⟨rfl, h1, h2⟩
theorem kind_some (g : Nat) (s : ByteArray) (b : Bool) (w : World) (h : Rd w g s b) (h0 : 0 < s.size) (hs : s.size ≤ maxLen) :
  Calls Tryz.prog 106 #[.pointer (some ⟨g, 0, none⟩)] w fun r w' => r = .returned (.int .i64 ((s[0]).toNat : Int)) ∧ Rd w' g (s.extract 1 s.size) b ∧ w.grownBy w' (some g) := by
 unfold maxLen at hs
 have c0 := h.c0
 have f0 := h.f 0
 have hne : ¬ s.toList = [] := fun hc => by
  have := congrArg List.length hc
  rw [ByteArray.toList_eq, size_list] at this
  simp only [List.length_nil] at this; omega
 have hne2 : s.toList.isEmpty = false := by simpa using hne
 have h0' : (0 : Int) < (s.size : Int) := by omega
 have H2 := Lib.hid (h.set0 (s.extract 1 s.size))
 clear h
 go_enter Tryz.func106, Tryz.ntmps106
 go_wp2
 go_ret
 exact ⟨ret_int (by have h := (s[0]).toNat_lt; unfold wrap64; omega), H2.out, grown_set _ _ _ _⟩
theorem ended_any (g : Nat) (s : ByteArray) (b : Bool) (w : World) (h : Rd w g s b) :
  Calls Tryz.prog 109 #[.pointer (some ⟨g, 0, none⟩)] w fun r w' => r = .returned (.bool (!b && s.toList.isEmpty)) ∧ w = w' := by
 have c0 := h.c0
 have c1 := h.c1
 clear h
 cases b
 ·
  go_enter Tryz.func109, Tryz.ntmps109
  go_wp2
  go_ret
  exact ⟨ret_bool (by simp), rfl⟩
 ·
  go_enter Tryz.func109, Tryz.ntmps109
  go_wp2
  go_ret
  exact ⟨ret_bool (by simp), rfl⟩
theorem rtext_bad (g : Nat) (s : ByteArray) (b : Bool) (w : World) (h : Rd w g s b) (ht : Calls Tryz.prog 145 #[.string s] w fun r w' => r = .returned (.tuple #[.string ⟨#[]⟩, .string ⟨#[]⟩, .int .i64 2]) ∧ ∃ n, w' = w.drewN n) :
  Calls Tryz.prog 107 #[.pointer (some ⟨g, 0, none⟩)] w fun r w' => r = .returned (.string ⟨#[]⟩) ∧ Rd w' g ⟨#[]⟩ true ∧ w.grownBy w' (some g) := by
 have c0 := h.c0
 have HT := Lib.hid ht
 have HF := Lib.hid (fun n => fail_any g s b (w.drewN n) h)
 clear h ht
 go_enter Tryz.func107, Tryz.ntmps107
 go_wp2_with fail
 refine HT.out.mono ?_
 rintro r w1 ⟨rfl, n, rfl⟩
 go_wp2_with fail
 refine (HF.out n).mono ?_
 rintro r w2 ⟨rfl, h1, h2⟩
 go_wp2
 go_ret
 exact ⟨rfl, h1, ⟨h2.os, h2.tape, h2.output, h2.size, h2.block⟩⟩
end Go.Proofs.YtkcjhkfelaplkaaGreatDoor
end
section
namespace Go.Proofs.YtkcjhkfelaplkaaGreatDoor
open Go.RowKit
theorem bd_obz {ops : Array Oper} {rest : List Oper} {op : Oper} {a : Act} {w : World} {Q : Exit → Act → World → Prop} {z : Array Value} (ho : op.op = .build 59 #[]) (hg : op.guard = none) (hz : Tryz.prog.built 59 [] = some z)
  (h : wpList Tryz.prog ops Q rest (a.put op.dst (.agg z)) w) : wpList Tryz.prog ops Q (op :: rest) a w :=
 wpList_build_as hg _ _ ho _ (by simpa using hz) h
theorem zero28 : (Tryz.prog.info? 59).map (fun i => (i.zero, i.size)) = some (some (.agg (obC noOb nilV nilV).toArray), 72) := by kernel_rfl
theorem results_cell_tmp {P : Program} {fn : Func} {p q : Tmp} {ty : TypeId} (h : fn.results = #[.cell p ty, .tmp q]) (tmps : Array Value) (w : World) (g : Nat) (t : TypeId) (cs : Array Value) (fr : Nat × Nat) (d : TypeDesc)
  (hp : tmps.getD p undef = .pointer (some ⟨g, 0, none⟩)) (hg : w.heap[g]? = some (.cells cs t fr))
  (hu : P.underlying ty = some d) (hd : (match d with | .struct _ | .array _ _ => true | _ => false) = true) (hi : (P.info? ty).map (·.size) = some cs.size) :
  (results fn tmps).run P w = .ok (.tuple #[.agg cs, tmps.getD q undef]) w := by
 have hp' : tmps[p]?.getD undef = .pointer (some ⟨g, 0, none⟩) := by simpa using hp
 simp [results, h, hp', asAddr, run_loadVar_row w g t ty cs fr d hg hu hd hi]
theorem st_obr {ops : Array Oper} {rest : List Oper} {op : Oper} {a : Act} {w : World} {Q : Exit → Act → World → Prop} {x y : Operand} {g : Nat} {cs c : Array Value} (ho : op.op = .store 59 x y) (hx : a.eval x = .pointer (some ⟨g, 0, none⟩)) (hy : a.eval y = .agg cs) (hgd : op.guard = none)
  (hg : w.heap[g]? = some (.cells c 59)) (hc : c.size = 72) (hs : cs.size = 72) (h1 : cs.all (·.oneCell') = true)
  (h : wpList Tryz.prog ops Q rest (a.put op.dst undef) (w.setRow g cs)) : wpList Tryz.prog ops Q (op :: rest) a w :=
 wpList_store_row hgd _ x y ho g cs hx hy _ c hg (obsize hs) (by rw [hc, hs]) h1 h
theorem below_setRow {B : Nat} {a w : World} (h : Below B a w) {g : Nat} (hg : B ≤ g) (cs : Array Value) : Below B a (w.setRow g cs) := by
 refine ⟨h.os, h.tape, h.output, Nat.le_trans h.size (by simp [World.setRow]), fun k hk => ?_⟩
 rw [← h.block k hk]
 simp only [World.setRow, Array.getElem?_modify]
 rw [if_neg (by omega)]
theorem noF : ObF (obC noOb nilV nilV).toArray noOb nilV nilV := obC_F noOb nilV nilV rfl rfl rfl rfl
end Go.Proofs.YtkcjhkfelaplkaaGreatDoor
end
section
namespace Go.Proofs.YtkcjhkfelaplkaaGreatDoor
open Go.RowKit
end Go.Proofs.YtkcjhkfelaplkaaGreatDoor
end
end
