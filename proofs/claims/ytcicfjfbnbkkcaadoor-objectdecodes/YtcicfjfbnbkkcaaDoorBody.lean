/-
  WALKS OF LAYER 4: oneByte; treeBody.
-/
import Derived.Test.YtcicfjfbnbkkcaaDoorValid
namespace Go.Proofs.YtcicfjfbnbkkcaaDoor
open Go.RowKit
set_option linter.unusedVariables false
set_option linter.unusedSimpArgs false

def byteK (k : Int) : UInt8 := k.toNat.toUInt8
theorem byteK_nat {k : Int} (h0 : 0 ≤ k) (h1 : k < 256) : k = ((byteK k).toNat : Int) := by
  have : (byteK k).toNat = k.toNat := by simp [byteK, Nat.toUInt8]; omega
  omega

set_option maxRecDepth 100000 in
theorem oneByte_any (k : Int) (w : World) (h0 : 0 ≤ k) (h1 : k < 256) :
    Calls Tryd.prog 22 #[.int .i64 k] w fun r w' => r = .returned (.string ⟨#[byteK k]⟩) ∧ Below w.heap.size w w' := by
  have hcv := conv_one w (byteK k) k (byteK_nat h0 h1)
  go_enter Tryd.func22, Tryd.ntmps22
  go_wp2
  go_ret
  exact ⟨rfl, (Below.refl _ _).alloc (Nat.le_refl _) _⟩
set_option maxRecDepth 100000 in
theorem one_any (k : Int) (w : World) (h0 : 0 ≤ k) (h1 : k < 256) :
    Calls Tryd.prog 40 #[.int .i64 k] w fun r w' => r = .returned (.string ⟨#[byteK k]⟩) ∧ Below w.heap.size w w' := by
  have hcv := conv_one w (byteK k) k (byteK_nat h0 h1)
  go_enter Tryd.func40, Tryd.ntmps40
  go_wp2
  go_ret
  exact ⟨rfl, (Below.refl _ _).alloc (Nat.le_refl _) _⟩

/-! ### A builder of the call's own -/
theorem grown_of_below {W W' : World} (hb : Below W.heap.size W W') : W.grownBy W' none := ⟨hb.os, hb.tape, hb.output, hb.size, fun i hi _ => hb.block i hi⟩
theorem bAt_below {B b : Nat} {p : Value} {bs : List Value} {W W' : World} (h : Lib.BuilderAtF 92 5 B b p bs W) (hb : Below W.heap.size W W') : Lib.BuilderAtF 92 5 B b p bs W' := by
  have hlt := h.lt
  obtain ⟨hB, v, hbk, hown, hne⟩ := h
  exact ⟨hB, v, (hb.block b hlt).trans hbk, hown.kept (grown_of_below hb) (by cases hv : v.ownBlock <;> simp), hne⟩
/-- A builder in block B, made by a call that began in w, holding acc. -/
structure Bd (w : World) (B : Nat) (acc : List UInt8) (W : World) : Prop where
  b : Lib.IsBuilderF 92 5 B B (Lib.byteCells acc) W
  below : Below w.heap.size w W
  le : w.heap.size ≤ B
theorem Bd.lt {w W : World} {B : Nat} {acc : List UInt8} (h : Bd w B acc W) : B < W.heap.size := h.b.elim (fun x => x.lt) (fun x => x.lt)
theorem Bd.step {w W W' : World} {B : Nat} {acc : List UInt8} (h : Bd w B acc W) (hb : Below W.heap.size W W') : Bd w B acc W' :=
  ⟨h.b.elim (fun x => .inl (bAt_below x hb)) (fun x => .inr (bAt_below x hb)), h.below.trans (hb.mono h.below.size), h.le⟩
theorem Bd.alloc {w W : World} {B : Nat} {acc : List UInt8} (h : Bd w B acc W) (o : Obj) : Bd w B acc (W.alloc o) := h.step ((Below.refl _ _).alloc (Nat.le_refl _) _)
theorem Bd.fresh (w W : World) (h : Below w.heap.size w W) : Bd w W.heap.size [] (W.alloc (.cells #[.pointer none, .slice none 0 0] 92)) :=
  ⟨.of (Lib.fresh_isBuilder _ _ W), h.alloc h.size _, h.size⟩
theorem strCells_eq (s : ByteArray) : Lib.strCells s = Lib.byteCells s.data.toList := by
  simp [Lib.strCells, Lib.byteCells]
theorem bd_write {w W : World} {B : Nat} {acc : List UInt8} (h : Bd w B acc W) (s : ByteArray) (hl : acc.length + s.size ≤ 140737488355328) :
    Calls Tryd.prog 64 #[.pointer (some ⟨B, 0, none⟩), .string s] W fun r w' => r = .returned (.tuple #[.int .i64 s.size, .nilIface]) ∧ Bd w B (acc ++ s.data.toList) w' ∧ Lib.OthersKept 5 (some B) W w' := by
  refine (bwrite B B (Lib.byteCells acc) s W h.b (by simp [Lib.byteCells]; omega) (by have := h.lt; omega)).mono ?_
  rintro r w' ⟨h1, h2, h3, h4⟩
  refine ⟨h1, ⟨.inr ?_, h.below.trans (h3.mono h.le), h.le⟩, h4⟩
  rw [strCells_eq] at h2
  simpa [Lib.byteCells] using h2
theorem bd_string {w W : World} {B : Nat} {acc : List UInt8} (h : Bd w B acc W) :
    Calls Tryd.prog 65 #[.pointer (some ⟨B, 0, none⟩)] W fun r w' => r = .returned (.string ⟨acc.toArray⟩) ∧ Below w.heap.size w w' := by
  refine (Tryd.Builder_String_any_k B B acc W h.b (by have := h.lt; omega)).mono ?_
  rintro r w' ⟨h1, _, h3, _⟩
  exact ⟨h1, h.below.trans (h3.mono h.le)⟩
theorem kept_block {W W' : World} {B g : Nat} {cs : Array Value} {t : TypeId} (h : Lib.OthersKept 5 (some B) W W') (hg : W.heap[g]? = some (.cells cs t)) (hne : g ≠ B) (ht : t ≠ 5) : W'.heap[g]? = some (.cells cs t) :=
  h g _ hg (by simpa using hne) (fun c fz he => by simp only [Obj.cells.injEq] at he; exact ht he.2.1)
theorem below_block {W W' : World} {g : Nat} {x : Obj} (h : Below W.heap.size W W') (hg : W.heap[g]? = some x) : W'.heap[g]? = some x := (h.block _ (Array.getElem?_eq_some_iff.1 hg).1).trans hg

/-! ### treeBody -/
def enB (e : En) : List UInt8 := byteK e.kind :: ((textOf e.name).data.toList ++ e.id)
theorem text_len (t : ByteArray) (h : t.size ≤ 5000) : (textOf t).size ≤ t.size + 10 := by
  have hl := Lib.uvarint_length64 (x := t.size) (by omega)
  unfold textOf
  rw [← size_list, put_list]; simp; omega
theorem enB_len (e : En) (h : e.name.size ≤ 40) (hi : e.id.length = 32) : (enB e).length ≤ 100 := by
  have := text_len e.name (by omega)
  rw [← size_list] at this
  simp [enB] at this ⊢; omega
theorem ents_len : ∀ es : List En, (∀ e ∈ es, e.name.size ≤ 40 ∧ e.id.length = 32) → (es.flatMap enB).length ≤ 100 * es.length
  | [], _ => by simp
  | e :: r, h => by
    have h1 := enB_len e (h e (by simp)).1 (h e (by simp)).2
    have h2 := ents_len r (fun x hx => h x (by simp [hx]))
    simp only [List.flatMap_cons, List.length_append, List.length_cons]; omega

set_option maxHeartbeats 1000000 in
set_option maxRecDepth 100000 in
theorem treeBody_any (es : List En) (ao : Option Addr) (cap : Nat) (w : World) (hR : RowsAt w (.slice ao es.length cap) 34 (es.map enC)) (hk : ∀ e ∈ es, (e.name.size ≤ 40 ∧ e.id.length = 32) ∧ 0 ≤ e.kind ∧ e.kind < 256) (hl : es.length ≤ 100) :
    Calls Tryd.prog 50 #[.slice ao es.length cap] w fun r w' => r = .returned (.string ⟨(es.flatMap enB).toArray⟩) ∧ Below w.heap.size w w' := by
  have HR := Lib.hid hR
  have HK := Lib.hid hk
  clear hR hk
  have B0 := Bd.fresh w w (Below.refl _ _)
  go_enter Tryd.func50, Tryd.ntmps50
  go_wp2
  go_loopw [8] (fun i wr => ∃ (k : Nat), k ≤ es.length ∧ i = .int .i64 k ∧ Bd w w.heap.size ((es.take k).flatMap enB) wr) (fun i _ => es.length - (intOf i).toNat)
  case atStart => exact ⟨0, by omega, rfl, B0⟩
  case round =>
    clear B0
    obtain ⟨k, hk, rfl, hb⟩ := hrel
    by_cases hlt : k < es.length
    · have hlt' : (k : Int) < (es.length : Int) := by omega
      obtain ⟨e, he⟩ : ∃ e, es[k]? = some e := ⟨es[k], List.getElem?_eq_getElem hlt⟩
      obtain ⟨a, rfl, hc⟩ := ent_cells (HR.out.below hb.below) k e he
      have HC := Lib.hid hc
      obtain ⟨⟨hnm, hid⟩, hk0, hk1⟩ := HK.out e (List.mem_of_getElem? he)
      have HL := Lib.hid hid
      have n0 : (enC e)[0]? = some (.string e.name) := rfl
      have n1 : (enC e)[1]? = some (.int .i64 e.kind) := rfl
      have hacc : ((es.take k).flatMap enB).length ≤ 10000 := by
        have := ents_len (es.take k) (fun x hx => (HK.out x (List.mem_of_mem_take hx)).1)
        simp at this; simp; omega
      have HT := Lib.hid (show (es.take (k + 1)).flatMap enB = (((es.take k).flatMap enB ++ [byteK e.kind]) ++ (textOf e.name).data.toList) ++ e.id by
        obtain ⟨hk2, rfl⟩ := List.getElem?_eq_some_iff.1 he
        rw [List.take_succ_eq_append_getElem hk2, List.flatMap_append]; simp [enB])
      have htl := text_len e.name (by omega)
      clear hc he hid
      generalize (es.take k).flatMap enB = acc at hb hacc HT
      go_wp2_with (first
        | ((with_reducible apply ld_en (hc := HC.out) (hid := HL.out)); rfl; rfl; rfl)
        | ((with_reducible apply st_en (hid := HL.out)); rfl; rfl; rfl; rfl; rfl))
      have hne : wr.heap.size ≠ w.heap.size := by have := hb.lt; omega
      refine (oneByte_any _ _ hk0 hk1).mono ?_
      rintro r w2 ⟨rfl, hx⟩
      have E2 := Lib.hid (below_block hx (heap_alloc_last wr _))
      have D2 := (hb.alloc _).step hx
      clear hx hb
      go_wp2_with fail
      refine (bd_write D2 _ (by have h2 : (ByteArray.mk #[byteK e.kind]).size = 1 := rfl; omega)).mono ?_
      rintro r w3 ⟨rfl, D3, k3⟩
      have E3 := Lib.hid (kept_block k3 E2.out hne (by decide))
      have c3 := (Lib.cell_of_heap E3.out 0).trans n0
      clear E2 D2 k3
      go_wp2_with fail
      refine (text_any _ _ (by omega)).mono ?_
      rintro r w4 ⟨rfl, hx⟩
      have E4 := Lib.hid (below_block hx E3.out)
      have D4 := D3.step hx
      clear hx E3 D3 c3
      go_wp2_with fail
      refine (bd_write D4 _ (by rw [List.length_append]; have h2 : [byteK e.kind].length = 1 := rfl; omega)).mono ?_
      rintro r w5 ⟨rfl, D5, k5⟩
      have E5 := Lib.hid (kept_block k5 E4.out hne (by decide))
      have hcv := conv_idm w5 wr.heap.size 2 e.id HL.out (en_rid E5.out)
      clear E4 D4 k5
      go_wp2_with fail
      refine (bd_write D5 _ (by have h1 := HL.out; have h2 : (ByteArray.mk e.id.toArray).size = e.id.length := rfl; have h3 := size_list (textOf e.name); have h4 : [byteK e.kind].length = 1 := rfl; rw [List.length_append, List.length_append]; omega)).mono ?_
      rintro r w6 ⟨rfl, D6, k6⟩
      go_wp2
      go_roundw
      case rel => exact ⟨k + 1, by omega, by go_num, by rw [HT.out]; exact D6⟩
      case measure => simp [intOf]; omega
    · have HT := Lib.hid (show es.take k = es from List.take_of_length_le (by omega))
      rw [HT.out] at hb
      go_wp2_with fail
      refine (bd_string hb).mono ?_
      rintro r w2 ⟨rfl, hx⟩
      go_wp2
      go_ret
      exact ⟨rfl, hx⟩
end Go.Proofs.YtcicfjfbnbkkcaaDoor
