/-
  WALKS OF LAYER 4: body, Encode.
-/
import Derived.Test.YtcicfjfbnbkkcaaDoorCommit
import Derived.Deep.RegionHeld3
namespace Go.Proofs.YtcicfjfbnbkkcaaDoor
open Go.RowKit
set_option linter.unusedVariables false
set_option linter.unusedSimpArgs false

def tagL (o : Ob) : List UInt8 := byteK o.of :: (o.target ++ (textOf o.name).data.toList)
/-- The body of an object that may be. -/
def bodyL (o : Ob) : List UInt8 := if o.kind = 1 then o.data.data.toList else if o.kind = 2 then o.ents.flatMap enB else if o.kind = 3 then commitL o else tagL o
/-- What is asked of an object whose body is written. -/
structure Fit (o : Ob) : Prop where
  k : 1 ≤ o.kind ∧ o.kind ≤ 4
  d : o.data.size ≤ 5000
  t : o.text.size ≤ 5000
  n : o.name.size ≤ 100
  e : o.kind = 2 → o.ents.length ≤ 64 ∧ ∀ e ∈ o.ents, e.name.size ≤ 40 ∧ 0 ≤ e.kind ∧ e.kind < 256
  p : o.kind = 3 → o.pars.length ≤ 8
  f : o.kind = 4 → 0 ≤ o.of ∧ o.of < 256

set_option maxHeartbeats 1000000 in
set_option maxRecDepth 100000 in
theorem body_tag (cs : Array Value) (o : Ob) (ao bo : Option Addr) (ca cb : Nat) (w : World) (h : ObAt w cs o ao bo ca cb) (ft : Fit o) (hk : o.kind = 4) :
    Calls Tryd.prog 24 #[.agg cs] w fun r w' => r = .returned (.string ⟨(bodyL o).toArray⟩) ∧ Below w.heap.size w w' := by
  have HM := Lib.hid (show bodyL o = tagL o by simp [bodyL, hk])
  generalize bodyL o = M at HM
  have c0 := h.F.c0
  rw [hk] at c0
  have c70 := h.F.c70
  have c71 := h.F.c71
  have hf := ft.f hk
  have hn := ft.n
  have HT := Lib.hid h.F.tal
  have hcv := fun W (hW : W.heap[w.heap.size]? = some (.cells cs 29)) => conv_idm W w.heap.size 38 o.target HT.out (h.F.rta hW)
  have HCV := Lib.hid hcv
  have C70 := Lib.hid c70
  have C71 := Lib.hid c71
  clear hcv
  have htl := text_len o.name (by omega)
  have hs1 : ¬ 9223372036854775807 < 1 + o.target.length := by have := HT.out; omega
  have hs2 : ¬ 9223372036854775807 < 1 + o.target.length + (textOf o.name).size := by have := HT.out; omega
  clear h ft hk
  have K0 := Kp.box w cs 29
  have HMK := Lib.hid (fun W (k : Kp w cs 29 W) => (⟨k, k.cell C70.out, k.cell C71.out, HCV.out W k.held⟩ : Kp w cs 29 W ∧ W.cell? ⟨w.heap.size, 70, none⟩ = some (.int .i64 o.of) ∧ W.cell? ⟨w.heap.size, 71, none⟩ = some (.string o.name) ∧ (convert 55 9 (.slice (some ⟨w.heap.size, 38, none⟩) 32 32)).run Tryd.prog W = .ok (.string ⟨o.target.toArray⟩) W))
  go_enter Tryd.func24, Tryd.ntmps24
  go_wp2_with fail
  go_region_held3 (fun w' => Kp w cs 29 w' ∧ w'.cell? ⟨w.heap.size, 70, none⟩ = some (.int .i64 o.of) ∧ w'.cell? ⟨w.heap.size, 71, none⟩ = some (.string o.name) ∧ (convert 55 9 (.slice (some ⟨w.heap.size, 38, none⟩) 32 32)).run Tryd.prog w' = .ok (.string ⟨o.target.toArray⟩) w')
    (first | exact HMK.out _ K0.drew | (refine HMK.out _ (Kp.step ?_ (by assumption)); exact And.left (by assumption)))
    ((first
      | (go_at_call 22; refine (oneByte_any _ _ hf.1 hf.2).mono ?_; rintro r wx ⟨rfl, hx⟩)
      | (go_at_call 23; refine (text_any _ _ (by omega)).mono ?_; rintro r wx ⟨rfl, hx⟩)))
  all_goals
    go_wp2
    go_ret
    refine ⟨ret_str ?_, Kp.below (And.left (by assumption))⟩
    rw [HM.out]
    apply bytes_ext
    simp [tagL, ByteArray.data_append]

set_option maxHeartbeats 1000000 in
set_option maxRecDepth 100000 in
theorem body_any (cs : Array Value) (o : Ob) (ao bo : Option Addr) (ca cb : Nat) (w : World) (h : ObAt w cs o ao bo ca cb) (ft : Fit o) :
    Calls Tryd.prog 24 #[.agg cs] w fun r w' => r = .returned (.string ⟨(bodyL o).toArray⟩) ∧ Below w.heap.size w w' := by
  have hk := ft.k
  rcases (by omega : o.kind = 1 ∨ o.kind = 2 ∨ o.kind = 3 ∨ o.kind = 4) with e | e | e | e
  · have HM := Lib.hid (show bodyL o = o.data.data.toList by simp [bodyL, e])
    generalize bodyL o = M at HM
    have c0 := h.F.c0
    rw [e] at c0
    have c1 := h.F.c1
    clear h ft hk e
    go_enter Tryd.func24, Tryd.ntmps24
    go_wp2
    go_ret
    exact ⟨ret_str (by rw [HM.out]), (Below.refl _ _).alloc (Nat.le_refl _) _⟩
  · have HM := Lib.hid (show bodyL o = o.ents.flatMap enB by simp [bodyL, e])
    generalize bodyL o = M at HM
    have hf := ft.e e
    have c0 := h.F.c0
    rw [e] at c0
    have c2 := h.F.c2
    have HT := Lib.hid (fun W (hb : Below w.heap.size w W) => treeBody_any o.ents ao ca W (h.E.below hb) (fun x hx => ⟨⟨(hf.2 x hx).1, h.eid x hx⟩, (hf.2 x hx).2⟩) (by omega))
    clear h ft hk e hf
    go_enter Tryd.func24, Tryd.ntmps24
    go_wp2_with fail
    refine (HT.out _ ((Below.refl _ _).alloc (Nat.le_refl _) _)).mono ?_
    rintro r w1 ⟨rfl, hx⟩
    go_wp2
    go_ret
    exact ⟨ret_str (by rw [HM.out]), ((Below.refl _ _).alloc (Nat.le_refl _) _).trans (hx.mono (by simp))⟩
  · have HM := Lib.hid (show bodyL o = commitL o by simp [bodyL, e])
    generalize bodyL o = M at HM
    have c0 := h.F.c0
    rw [e] at c0
    have HS := Lib.hid h.F.size
    have hp := ft.p e
    have ht := ft.t
    have HT := Lib.hid (fun W (hb : Below w.heap.size w W) => commitBody_any cs o ao bo ca cb W (h.below hb) (by omega) ht)
    have K0 := Kp.box w cs 29
    clear h ft hk e
    go_enter Tryd.func24, Tryd.ntmps24
    go_wp2_with (first
      | (go_at_call 51; refine (HT.out _ K0.below).mono ?_; rintro r w1 ⟨rfl, hx⟩)
      | ((with_reducible apply load_ob (k := K0) (hs := HS.out)); rfl; rfl; rfl))
    go_ret
    exact ⟨ret_str (by rw [HM.out]), (K0.step hx).below⟩
  · exact body_tag cs o ao bo ca cb w h ft e

theorem entsOk_all : ∀ (es : List En) (last : ByteArray), entsOk last es = true → ∀ e ∈ es, nameOk e.name = true ∧ (e.kind = 1 ∨ e.kind = 2)
  | [], _, _, _, he => by simp at he
  | e :: r, last, h, x, hx => by
    simp only [entsOk, Bool.and_eq_true, Bool.or_eq_true, beq_iff_eq] at h
    rcases List.mem_cons.1 hx with rfl | hx
    · exact ⟨h.1.1.1, h.1.2⟩
    · exact entsOk_all r e.name h.2 x hx
theorem nameOk_size {s : ByteArray} (h : nameOk s = true) : 1 ≤ s.size ∧ s.size ≤ 40 := by
  simp only [nameOk, Bool.and_eq_true, decide_eq_true_eq] at h
  exact ⟨h.1.1, h.1.2⟩
theorem fit_of {o : Ob} (h : validB o = true) (hd : o.data.size ≤ 5000) (ht : o.text.size ≤ 5000) (hn : o.name.size ≤ 100) : Fit o := by
  unfold validB at h
  rw [Bool.and_eq_true] at h
  obtain ⟨_, h⟩ := h
  by_cases e1 : o.kind = 1
  · exact ⟨by omega, hd, ht, hn, by omega, by omega, by omega⟩
  by_cases e2 : o.kind = 2
  · rw [if_neg e1, if_pos e2, Bool.and_eq_true, decide_eq_true_eq] at h
    refine ⟨by omega, hd, ht, hn, fun _ => ⟨h.1, fun e he => ?_⟩, by omega, by omega⟩
    have := entsOk_all _ _ h.2 e he
    have h1 := nameOk_size this.1
    exact ⟨h1.2, by omega, by omega⟩
  by_cases e3 : o.kind = 3
  · rw [if_neg e1, if_neg e2, if_pos e3, decide_eq_true_eq] at h
    exact ⟨by omega, hd, ht, hn, by omega, fun _ => h, by omega⟩
  by_cases e4 : o.kind = 4
  · rw [if_neg e1, if_neg e2, if_neg e3, if_pos e4, Bool.and_eq_true, decide_eq_true_eq] at h
    exact ⟨by omega, hd, ht, hn, by omega, by omega, fun _ => by omega⟩
  · rw [if_neg e1, if_neg e2, if_neg e3, if_neg e4] at h
    cases h
theorem body_len {o : Ob} (ft : Fit o) (ei : ∀ e ∈ o.ents, e.id.length = 32) (pi : ∀ p ∈ o.pars, p.length = 32) (ht : o.tree.length = 32) (hg : o.target.length = 32) (hti : o.time < 4294967296) : (bodyL o).length ≤ 10000 := by
  unfold bodyL
  have hk := ft.k
  split
  · have := ft.d; rw [size_list]; omega
  split
  · rename_i e2
    have := ents_len o.ents (fun e he => ⟨((ft.e e2).2 e he).1, ei e he⟩)
    have := (ft.e e2).1
    omega
  split
  · rename_i e3
    have h1 := pars_len o.pars pi
    have h2 := ft.p e3
    have h3 := text_len o.text ft.t
    have h4 := Lib.uvarint_length64 (x := o.pars.length) (by omega)
    have h5 := Lib.uvarint_length64 (x := o.time) (by omega)
    have h6 := ft.t
    rw [← size_list] at h3
    simp only [commitL, List.length_append]; omega
  · have h3 := text_len o.name (by have := ft.n; omega)
    have := ft.n
    rw [← size_list] at h3
    simp only [tagL, List.length_append, List.length_cons]; omega

/-- The encoding of an object that may be. -/
def encS (o : Ob) : ByteArray := ⟨#[byteK o.kind]⟩ ++ textOf ⟨(bodyL o).toArray⟩
def encOk (o : Ob) : Bool := validB o && decide ((encS o).size ≤ 4096)
end Go.Proofs.YtcicfjfbnbkkcaaDoor
