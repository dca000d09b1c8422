/-
  THE MATHEMATICS OF LAYER 4: the document's guess: the object that bytes may be the encoding of; of an encoding it is the object.
-/
import Derived.Test.YtcicfjfbnbkkcaaDoorRdMath2
namespace Go.Proofs.YtcicfjfbnbkkcaaDoor
open Go.RowKit
set_option linter.unusedVariables false
set_option linter.unusedSimpArgs false
namespace Rm

def idG (l : List UInt8) : List UInt8 := l.take 32 ++ List.replicate (32 - l.length) 0
theorem idG_len (l : List UInt8) : (idG l).length = 32 := by unfold idG; simp; omega
def getG (l : List UInt8) : Nat × Nat := match vget l with
  | none => (0, 0)
  | some p => p
def takeG (l : List UInt8) : List UInt8 × Nat := match vget l with
  | none => ([], 0)
  | some (n, k) => if l.length - k < n then ([], 0) else ((l.drop k).take n, k + n)
/-- What stands behind an entry's name. -/
def restG (t : List UInt8) : List UInt8 := t.drop (1 + (takeG (t.drop 1)).2)
def enG (t : List UInt8) : En := ⟨⟨(takeG (t.drop 1)).1.toArray⟩, kindV t, idG (restG t)⟩
def treeG : Nat → List UInt8 → List En → List En
  | 0, _, acc => acc
  | k + 1, t, acc => if t = [] then acc else treeG k ((restG t).drop 32) (acc ++ [enG t])
def parsG : Nat → List UInt8 → List (List UInt8) → List (List UInt8) × List UInt8
  | 0, t, acc => (acc, t)
  | k + 1, t, acc => parsG k (t.drop 32) (acc ++ [idG t])
def cgA (t : List UInt8) : List UInt8 := (t.drop 32).drop (getG (t.drop 32)).2
def cgN (t : List UInt8) : Nat := min (getG (t.drop 32)).1 9
def cgP (t : List UInt8) : List (List UInt8) × List UInt8 := parsG (cgN t) (cgA t) []
def cgT (t : List UInt8) : Nat := (getG (cgP t).2).1 % 4294967296
def cgX (t : List UInt8) : List UInt8 := (takeG ((cgP t).2.drop (getG (cgP t).2).2)).1
def commitG (t : List UInt8) : Ob := { noOb with kind := 3, tree := idG t, pars := (cgP t).1, time := cgT t, text := ⟨(cgX t).toArray⟩ }
def tagG (t : List UInt8) : Ob := { noOb with kind := 4, target := idG (t.drop 1), of := kindV t, name := ⟨(takeG ((t.drop 1).drop 32)).1.toArray⟩ }
def bodyG (k : Int) (t : List UInt8) : Ob := if k = 1 then { noOb with kind := 1, data := ⟨t.toArray⟩ } else if k = 2 then { noOb with kind := 2, ents := treeG 65 t [] } else if k = 3 then commitG t else if k = 4 then tagG t else { noOb with kind := k }
def guessF (l : List UInt8) : Ob := if (takeG (l.drop 1)).2 = 0 then noOb else bodyG (kindV l) (takeG (l.drop 1)).1

/-! ### sizes -/
theorem takeG_len (l : List UInt8) : (takeG l).1.length ≤ l.length ∧ (takeG l).2 ≤ l.length := by
  unfold takeG; split
  · simp
  · rename_i n k h
    have := vget_bd h
    split
    · simp
    · rw [List.length_take, List.length_drop]; omega
theorem getG_le (l : List UInt8) : (getG l).2 ≤ l.length ∧ (getG l).1 < 18446744073709551616 := by
  unfold getG; split
  · simp
  · rename_i p h
    have := vget_bd (n := p.1) (k := p.2) h
    omega
theorem treeG_len : ∀ (k : Nat) (t : List UInt8) (acc : List En), (treeG k t acc).length ≤ acc.length + k
  | 0, t, acc => Nat.le_refl _
  | k + 1, t, acc => by
    unfold treeG; split
    · omega
    · have := treeG_len k ((restG t).drop 32) (acc ++ [enG t])
      simp at this; omega
theorem parsG_len : ∀ (k : Nat) (t : List UInt8) (acc : List (List UInt8)), (parsG k t acc).1.length = acc.length + k ∧ (parsG k t acc).2.length ≤ t.length
  | 0, t, acc => ⟨rfl, Nat.le_refl _⟩
  | k + 1, t, acc => by
    have := parsG_len k (t.drop 32) (acc ++ [idG t])
    unfold parsG
    refine ⟨by rw [this.1]; simp; omega, Nat.le_trans this.2 ?_⟩
    rw [List.length_drop]; omega

/-! ### of an encoding -/
theorem takeG_fwd (t : ByteArray) (r : List UInt8) (h : t.size < 18446744073709551616) : takeG ((textOf t).data.toList ++ r) = (t.data.toList, (textOf t).data.toList.length) := by
  have he : (textOf t).data.toList = Go.Lib.uvarint t.size ++ t.data.toList := by
    unfold textOf
    rw [ByteArray.data_append, Array.toList_append]
  have hv := vget_put t.size h (t.data.toList ++ r)
  have hs := size_list t
  unfold takeG
  rw [he, List.append_assoc, hv]
  simp only
  rw [if_neg (by rw [List.length_append, List.length_append]; omega), List.drop_left' rfl, List.take_left' hs, List.length_append, hs]
theorem idG_fwd (i r : List UInt8) (h : i.length = 32) : idG (i ++ r) = i ∧ (i ++ r).drop 32 = r := by
  unfold idG
  rw [List.take_left' h, List.drop_left' h, List.length_append, show 32 - (i.length + r.length) = 0 by omega]
  exact ⟨by simp, rfl⟩
theorem getG_fwd (n : Nat) (r : List UInt8) (h : n < 18446744073709551616) : getG (Go.Lib.uvarint n ++ r) = (n, (Go.Lib.uvarint n).length) := by
  unfold getG; rw [vget_put n h r]
theorem enG_fwd (e : En) (r : List UInt8) (hn : e.name.size < 18446744073709551616) (h0 : 0 ≤ e.kind) (h1 : e.kind < 256) (hi : e.id.length = 32) : enG (enB e ++ r) = e ∧ (restG (enB e ++ r)).drop 32 = r := by
  have hl : enB e ++ r = byteK e.kind :: ((textOf e.name).data.toList ++ (e.id ++ r)) := by simp [enB]
  have hd : (enB e ++ r).drop 1 = (textOf e.name).data.toList ++ (e.id ++ r) := by rw [hl]; rfl
  have ht := takeG_fwd e.name (e.id ++ r) hn
  have hr : restG (enB e ++ r) = e.id ++ r := by
    unfold restG
    rw [hd, ht, ← List.drop_drop, hd, List.drop_left' rfl]
  have hi2 := idG_fwd e.id r hi
  refine ⟨?_, by rw [hr]; exact hi2.2⟩
  unfold enG
  rw [hr, hd, ht, hi2.1, hl]
  have hk : kindV (byteK e.kind :: ((textOf e.name).data.toList ++ (e.id ++ r))) = e.kind := (byteK_nat h0 h1).symm
  rw [hk]
theorem treeG_fwd : ∀ (es : List En) (k : Nat) (acc : List En), (∀ e ∈ es, e.name.size < 18446744073709551616 ∧ 0 ≤ e.kind ∧ e.kind < 256 ∧ e.id.length = 32) → es.length ≤ k → treeG k (es.flatMap enB) acc = acc ++ es
  | [], k, acc, _, _ => by cases k <;> simp [treeG]
  | e :: r, k, acc, h, hk => by
    obtain ⟨h1, h2, h3, h4⟩ := h e (by simp)
    obtain ⟨k, rfl⟩ : ∃ k', k = k' + 1 := ⟨k - 1, by simp at hk; omega⟩
    have hne : enB e ++ r.flatMap enB ≠ [] := fun hc => enB_ne e (List.append_eq_nil_iff.1 hc).1
    rw [List.flatMap_cons]
    unfold treeG
    obtain ⟨f1, f2⟩ := enG_fwd e (r.flatMap enB) h1 h2 h3 h4
    rw [if_neg hne, f1, f2, treeG_fwd r k _ (fun x hx => h x (by simp [hx])) (by simp at hk; omega)]
    simp
theorem parsG_fwd : ∀ (ps : List (List UInt8)) (acc : List (List UInt8)) (r : List UInt8), (∀ p ∈ ps, p.length = 32) → parsG ps.length (ps.flatten ++ r) acc = (acc ++ ps, r)
  | [], acc, r, _ => by simp [parsG]
  | p :: ps, acc, r, h => by
    have ei := idG_fwd p (ps.flatten ++ r) (h p (by simp))
    have ih := parsG_fwd ps (acc ++ [p]) r (fun x hx => h x (by simp [hx]))
    rw [List.length_cons, List.flatten_cons, List.append_assoc]
    show parsG ps.length ((p ++ (ps.flatten ++ r)).drop 32) (acc ++ [idG (p ++ (ps.flatten ++ r))]) = _
    rw [ei.1, ei.2, ih]
    simp

theorem bodyG_fwd {o : Ob} (hv : validB o = true) (ft : Fit o) (ei : ∀ e ∈ o.ents, e.id.length = 32) (pi : ∀ p ∈ o.pars, p.length = 32) (ht : o.tree.length = 32) (hg : o.target.length = 32) (hti : o.time < 4294967296) : bodyG o.kind (bodyL o) = o := by
  have hv2 := hv
  unfold validB foreignZ at hv2
  simp only [Bool.and_eq_true, Bool.or_eq_true, beq_iff_eq, blobZ, treeZ, commitZ, tagZ, decide_eq_true_eq, List.isEmpty_iff] at hv2
  obtain ⟨⟨⟨⟨z1, z2⟩, z3⟩, z4⟩, _⟩ := hv2
  have hk := ft.k
  unfold bodyG
  by_cases e1 : o.kind = 1
  · rw [if_pos e1]
    have b2 := z2.resolve_left (by omega)
    obtain ⟨⟨⟨c1, c2⟩, c3⟩, c4⟩ := z3.resolve_left (by omega)
    obtain ⟨⟨d1, d2⟩, d3⟩ := z4.resolve_left (by omega)
    refine ob_ext e1.symm ?_ b2.symm c1.symm c2.symm c3.symm (empty_of c4).symm d1.symm d2.symm (empty_of d3).symm
    show (⟨(bodyL o).toArray⟩ : ByteArray) = o.data
    simp [bodyL, e1]
  rw [if_neg e1]
  have b1 := empty_of (z1.resolve_left e1)
  by_cases e2 : o.kind = 2
  · rw [if_pos e2]
    obtain ⟨⟨⟨c1, c2⟩, c3⟩, c4⟩ := z3.resolve_left (by omega)
    obtain ⟨⟨d1, d2⟩, d3⟩ := z4.resolve_left (by omega)
    have hb : bodyL o = o.ents.flatMap enB := by simp [bodyL, e2]
    have hf := treeG_fwd o.ents 65 [] (fun e he => ⟨by have := ((ft.e e2).2 e he).1; omega, ((ft.e e2).2 e he).2.1, ((ft.e e2).2 e he).2.2, ei e he⟩) (by have := (ft.e e2).1; omega)
    rw [← hb, List.nil_append] at hf
    rw [hf]
    exact ob_ext e2.symm b1.symm rfl c1.symm c2.symm c3.symm (empty_of c4).symm d1.symm d2.symm (empty_of d3).symm
  rw [if_neg e2]
  have b2 := z2.resolve_left e2
  by_cases e3 : o.kind = 3
  · rw [if_pos e3]
    obtain ⟨⟨d1, d2⟩, d3⟩ := z4.resolve_left (by omega)
    have hb : bodyL o = o.tree ++ (Lib.uvarint o.pars.length ++ (o.pars.flatten ++ (Lib.uvarint o.time ++ ((textOf o.text).data.toList ++ [])))) := by simp [bodyL, e3, commitL]
    have i0 := idG_fwd o.tree (Lib.uvarint o.pars.length ++ (o.pars.flatten ++ (Lib.uvarint o.time ++ ((textOf o.text).data.toList ++ [])))) ht
    have hp := ft.p e3
    have i1 := getG_fwd o.pars.length (o.pars.flatten ++ (Lib.uvarint o.time ++ ((textOf o.text).data.toList ++ []))) (by omega)
    have i2 := parsG_fwd o.pars [] (Lib.uvarint o.time ++ ((textOf o.text).data.toList ++ [])) pi
    have i3 := getG_fwd o.time ((textOf o.text).data.toList ++ []) (by omega)
    have i4 := takeG_fwd o.text [] (by have := ft.t; omega)
    rw [← hb] at i0
    have hA : cgA (bodyL o) = o.pars.flatten ++ (Lib.uvarint o.time ++ ((textOf o.text).data.toList ++ [])) := by unfold cgA; rw [i0.2, i1, List.drop_left' rfl]
    have hN : cgN (bodyL o) = o.pars.length := by unfold cgN; rw [i0.2, i1]; simp only; omega
    have hP : cgP (bodyL o) = (o.pars, Lib.uvarint o.time ++ ((textOf o.text).data.toList ++ [])) := by unfold cgP; rw [hA, hN]; exact i2
    have hT : cgT (bodyL o) = o.time := by unfold cgT; rw [hP, i3]; simp only; omega
    have hX : cgX (bodyL o) = o.text.data.toList := by unfold cgX; rw [hP, i3, List.drop_left' rfl, i4]
    unfold commitG
    rw [hP, hT, hX, i0.1]
    exact ob_ext e3.symm b1.symm b2.symm rfl rfl rfl (mk_list o.text) d1.symm d2.symm (empty_of d3).symm
  · rw [if_neg e3]
    have e4 : o.kind = 4 := by omega
    rw [if_pos e4]
    obtain ⟨⟨⟨c1, c2⟩, c3⟩, c4⟩ := z3.resolve_left e3
    have hf := ft.f e4
    have hb : bodyL o = byteK o.of :: (o.target ++ ((textOf o.name).data.toList ++ [])) := by simp [bodyL, e4, tagL]
    have hd : (bodyL o).drop 1 = o.target ++ ((textOf o.name).data.toList ++ []) := by rw [hb]; rfl
    have i1 := idG_fwd o.target ((textOf o.name).data.toList ++ []) hg
    have i2 := takeG_fwd o.name [] (by have := ft.n; omega)
    unfold tagG
    rw [hd, i1.1, i1.2, i2, hb]
    refine ob_ext e4.symm b1.symm b2.symm c1.symm c2.symm c3.symm (empty_of c4).symm rfl ?_ (mk_list o.name)
    exact (byteK_nat hf.1 hf.2).symm

/-- Of an encoding it is the object. -/
theorem guess_fwd {o : Ob} (hv : validB o = true) (ft : Fit o) (ei : ∀ e ∈ o.ents, e.id.length = 32) (pi : ∀ p ∈ o.pars, p.length = 32) (ht : o.tree.length = 32) (hg : o.target.length = 32) (hti : o.time < 4294967296) : guessF (encS o).data.toList = o := by
  have hk := ft.k
  have hbl := body_len ft ei pi ht hg hti
  have hl : (encS o).data.toList = byteK o.kind :: ((textOf ⟨(bodyL o).toArray⟩).data.toList ++ []) := by
    unfold encS
    rw [ByteArray.data_append, Array.toList_append, List.append_nil]; rfl
  have i1 := takeG_fwd ⟨(bodyL o).toArray⟩ [] (by rw [mk_size]; omega)
  have hd : (encS o).data.toList.drop 1 = (textOf ⟨(bodyL o).toArray⟩).data.toList ++ [] := by rw [hl]; rfl
  have hk2 : kindV (encS o).data.toList = o.kind := by rw [hl]; exact (byteK_nat (by omega) (by omega)).symm
  have hpos : (textOf ⟨(bodyL o).toArray⟩).data.toList.length ≠ 0 := by
    rw [textOf_list, List.length_append]
    have := Go.Lib.uvarint_pos (bodyL o).length
    omega
  unfold guessF
  rw [hd, i1, hk2]
  simp only
  rw [if_neg hpos]
  exact bodyG_fwd hv ft ei pi ht hg hti

end Rm
end Go.Proofs.YtcicfjfbnbkkcaaDoor
