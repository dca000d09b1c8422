/-
  THE MATHEMATICS OF LAYER 4, the way back: a body read, bytes decoded; decoding and encoding undo one another.
-/
import Derived.Test.YtcicfjfbnbkkcaaDoorRdMath
import Derived.Test.YtcicfjfbnbkkcaaDoorBuilt
namespace Go.Proofs.YtcicfjfbnbkkcaaDoor
open Go.RowKit
set_option linter.unusedVariables false
set_option linter.unusedSimpArgs false
namespace Rm

def maxT : Nat := 4294967295
/-- A body read: the object, what is left, and whether there was a fault. -/
def blobF (t : List UInt8) : Ob × (List UInt8 × Bool) := ({ noOb with kind := 1, data := ⟨t.toArray⟩ }, [], false)
def treeB (t : List UInt8) : Ob × (List UInt8 × Bool) := ({ noOb with kind := 2, ents := (treeF t.length false t []).1 }, [], (treeF t.length false t []).2)
/-- A commit's count, its parents, and what is left behind them. -/
def cmN (t : List UInt8) : Nat := numV 8 (idR false t).1
def cmS (t : List UInt8) : List UInt8 × Bool := numR 8 (idR false t).2 (idR false t).1
def cmP (t : List UInt8) : List (List UInt8) × (List UInt8 × Bool) := parsF (cmN t) (cmS t).2 (cmS t).1 []
def cmT (t : List UInt8) : Nat := numV maxT (cmP t).2.1
def cmU (t : List UInt8) : List UInt8 × Bool := numR maxT (cmP t).2.2 (cmP t).2.1
def cmX (t : List UInt8) : List UInt8 := textV (cmU t).1
def commitB (t : List UInt8) : Ob × (List UInt8 × Bool) := ({ noOb with kind := 3, tree := idV t, pars := (cmP t).1, time := cmT t, text := ⟨(cmX t).toArray⟩ }, textR (cmU t).2 (cmU t).1)
def tgI (t : List UInt8) : List UInt8 × Bool := idR (kindR false t).2 (kindR false t).1
def tagB (t : List UInt8) : Ob × (List UInt8 × Bool) := ({ noOb with kind := 4, target := idV (kindR false t).1, of := kindV t, name := ⟨(textV (tgI t).1).toArray⟩ }, textR (tgI t).2 (tgI t).1)
def bodyF (k : Int) (t : List UInt8) : Ob × (List UInt8 × Bool) := if k = 1 then blobF t else if k = 2 then treeB t else if k = 3 then commitB t else tagB t

/-- The text that an encoding's body is, and what is left. -/
def bdV (l : List UInt8) : List UInt8 := textV (kindR false l).1
def bdR (l : List UInt8) : List UInt8 × Bool := textR (kindR false l).2 (kindR false l).1
/-- The first half of Decode went well. -/
def okA (l : List UInt8) : Bool := decide (bdR l = ([], false)) && decide (1 ≤ kindV l ∧ kindV l ≤ 4)
/-- The second half did. -/
def okB (l : List UInt8) : Bool := decide ((bodyF (kindV l) (bdV l)).2 = ([], false)) && validB (bodyF (kindV l) (bdV l)).1
def dec (l : List UInt8) : Option Ob := if l.length ≤ 4096 ∧ okA l = true ∧ okB l = true then some (bodyF (kindV l) (bdV l)).1 else none

theorem pr_of {α β : Type} {p : α × β} {b : β} (h : p.2 = b) : p = (p.1, b) := by rw [← h]
theorem pr_of3 {α β γ : Type} {p : α × (β × γ)} {b : γ} (h : p.2.2 = b) : p = (p.1, p.2.1, b) := by rw [← h]
theorem mk_size (t : List UInt8) : (ByteArray.mk t.toArray).size = t.length := by rw [← size_list]

theorem body_inv {k : Int} {t : List UInt8} (h0 : 1 ≤ k) (h1 : k ≤ 4) (h : (bodyF k t).2 = ([], false)) : (bodyF k t).1.kind = k ∧ bodyL (bodyF k t).1 = t := by
  unfold bodyF at *
  by_cases e1 : k = 1
  · subst e1
    rw [if_pos rfl]
    exact ⟨rfl, by simp [bodyL, blobF]⟩
  rw [if_neg e1] at h ⊢
  by_cases e2 : k = 2
  · subst e2
    rw [if_pos rfl] at h ⊢
    have hb : (treeF t.length false t []).2 = false := congrArg Prod.snd h
    obtain ⟨_, es, he, hl⟩ := tree_inv t.length false t [] (treeF t.length false t []).1 (Nat.le_refl _) (pr_of hb)
    refine ⟨rfl, ?_⟩
    show (treeF t.length false t []).1.flatMap enB = t
    rw [he, List.nil_append]
    exact hl.symm
  rw [if_neg e2] at h ⊢
  by_cases e3 : k = 3
  · subst e3
    rw [if_pos rfl] at h ⊢
    obtain ⟨g4, f4⟩ := text_inv (show textR (cmU t).2 (cmU t).1 = ([], false) from h)
    obtain ⟨g3, f3, _⟩ := num_inv (show numR maxT (cmP t).2.2 (cmP t).2.1 = ((cmU t).1, false) from pr_of g4)
    obtain ⟨g2, ps, e2', hlen, f2⟩ := pars_inv (cmN t) (cmS t).2 (cmS t).1 [] (cmP t).1 (cmP t).2.1 (pr_of3 g3)
    obtain ⟨g1, f1, _⟩ := num_inv (show numR 8 (idR false t).2 (idR false t).1 = ((cmS t).1, false) from pr_of g2)
    obtain ⟨_, f0⟩ := id_inv (show idR false t = ((idR false t).1, false) from pr_of g1)
    refine ⟨rfl, ?_⟩
    rw [List.nil_append] at e2'
    rw [List.append_nil] at f4
    show commitL (commitB t).1 = t
    unfold commitL
    show (((idV t ++ Lib.uvarint (cmP t).1.length) ++ (cmP t).1.flatten) ++ Lib.uvarint (cmT t)) ++ (textOf ⟨(cmX t).toArray⟩).data.toList = t
    have r4 : (textOf ⟨(cmX t).toArray⟩).data.toList = (cmU t).1 := f4.symm
    have r3 : Lib.uvarint (cmT t) ++ (cmU t).1 = (cmP t).2.1 := f3.symm
    have r2 : (cmP t).1.flatten ++ (cmP t).2.1 = (cmS t).1 := by rw [e2']; exact f2.symm
    have r1 : Lib.uvarint (cmP t).1.length ++ (cmS t).1 = (idR false t).1 := by rw [e2', hlen]; exact f1.symm
    rw [List.append_assoc, r4, r3, List.append_assoc, r2, List.append_assoc, r1]
    exact f0.symm
  · rw [if_neg e3] at h ⊢
    obtain ⟨g3, f3⟩ := text_inv (show textR (tgI t).2 (tgI t).1 = ([], false) from h)
    obtain ⟨g2, f2⟩ := id_inv (show idR (kindR false t).2 (kindR false t).1 = ((tgI t).1, false) from pr_of g3)
    obtain ⟨_, f1, _⟩ := kind_inv (show kindR false t = ((kindR false t).1, false) from pr_of g2)
    have hk : k = 4 := by omega
    subst hk
    refine ⟨rfl, ?_⟩
    rw [List.append_nil] at f3
    show tagL (tagB t).1 = t
    unfold tagL
    show byteK (kindV t) :: (idV (kindR false t).1 ++ (textOf ⟨(textV (tgI t).1).toArray⟩).data.toList) = t
    rw [← f3, ← f2]
    exact f1.symm

/-- What is decoded has that encoding. -/
theorem dec_inv {l : List UInt8} {o : Ob} (h : dec l = some o) : validB o = true ∧ (encS o).data.toList = l ∧ l.length ≤ 4096 ∧ okA l = true ∧ okB l = true ∧ o = (bodyF (kindV l) (bdV l)).1 := by
  unfold dec at h
  split at h
  · rename_i hc
    obtain ⟨hl, ha, hb⟩ := hc
    simp only [Option.some.injEq] at h
    subst h
    have ha' := ha
    have hb' := hb
    unfold okA at ha'
    unfold okB at hb'
    simp only [Bool.and_eq_true, decide_eq_true_eq] at ha' hb'
    obtain ⟨a1, a2, a3⟩ := ha'
    obtain ⟨b1, b2⟩ := hb'
    obtain ⟨hk, hbl⟩ := body_inv a2 a3 b1
    obtain ⟨g2, f2⟩ := text_inv (show textR (kindR false l).2 (kindR false l).1 = ([], false) from a1)
    obtain ⟨_, f1, _⟩ := kind_inv (show kindR false l = ((kindR false l).1, false) from pr_of g2)
    refine ⟨b2, ?_, hl, ha, hb, rfl⟩
    unfold encS
    rw [hbl, hk, ByteArray.data_append, Array.toList_append]
    rw [List.append_nil] at f2
    show byteK (kindV l) :: (textOf ⟨(bdV l).toArray⟩).data.toList = l
    rw [show (textOf ⟨(bdV l).toArray⟩).data.toList = (kindR false l).1 from f2.symm]
    exact f1.symm
  · cases h

theorem ob_ext {a b : Ob} (h1 : a.kind = b.kind) (h2 : a.data = b.data) (h3 : a.ents = b.ents) (h4 : a.tree = b.tree) (h5 : a.pars = b.pars) (h6 : a.time = b.time) (h7 : a.text = b.text) (h8 : a.target = b.target) (h9 : a.of = b.of) (h10 : a.name = b.name) : a = b := by
  cases a; cases b; simp_all
theorem empty_of {b : ByteArray} (h : b.toList = []) : b = ⟨#[]⟩ := by
  apply bytes_ext
  rw [ByteArray.toList_eq] at h
  rw [h]
theorem mk_list (b : ByteArray) : (⟨b.data.toList.toArray⟩ : ByteArray) = b := by simp

theorem body_fwd {o : Ob} (hv : validB o = true) (ft : Fit o) (ei : ∀ e ∈ o.ents, e.id.length = 32) (pi : ∀ p ∈ o.pars, p.length = 32) (ht : o.tree.length = 32) (hg : o.target.length = 32) (hti : o.time < 4294967296) : bodyF o.kind (bodyL o) = (o, [], false) := by
  have hv2 := hv
  unfold validB foreignZ at hv2
  simp only [Bool.and_eq_true, Bool.or_eq_true, beq_iff_eq, blobZ, treeZ, commitZ, tagZ, decide_eq_true_eq, List.isEmpty_iff] at hv2
  obtain ⟨⟨⟨⟨z1, z2⟩, z3⟩, z4⟩, _⟩ := hv2
  have hk := ft.k
  unfold bodyF
  by_cases e1 : o.kind = 1
  · rw [if_pos e1]
    have b2 := z2.resolve_left (by omega)
    obtain ⟨⟨⟨c1, c2⟩, c3⟩, c4⟩ := z3.resolve_left (by omega)
    obtain ⟨⟨d1, d2⟩, d3⟩ := z4.resolve_left (by omega)
    refine Prod.ext (ob_ext e1.symm ?_ b2.symm c1.symm c2.symm c3.symm (empty_of c4).symm d1.symm d2.symm (empty_of d3).symm) rfl
    show (⟨(bodyL o).toArray⟩ : ByteArray) = o.data
    simp [bodyL, e1]
  rw [if_neg e1]
  have b1 := empty_of (z1.resolve_left e1)
  by_cases e2 : o.kind = 2
  · rw [if_pos e2]
    obtain ⟨⟨⟨c1, c2⟩, c3⟩, c4⟩ := z3.resolve_left (by omega)
    obtain ⟨⟨d1, d2⟩, d3⟩ := z4.resolve_left (by omega)
    have hb : bodyL o = o.ents.flatMap enB := by simp [bodyL, e2]
    have hf := tree_fwd o.ents (bodyL o).length [] (fun e he => ⟨by have := ((ft.e e2).2 e he).1; omega, ((ft.e e2).2 e he).2.1, ((ft.e e2).2 e he).2.2, ei e he⟩) (by rw [hb]; exact Nat.le_refl _)
    rw [← hb, List.nil_append] at hf
    unfold treeB
    rw [hf]
    exact Prod.ext (ob_ext e2.symm b1.symm rfl c1.symm c2.symm c3.symm (empty_of c4).symm d1.symm d2.symm (empty_of d3).symm) rfl
  rw [if_neg e2]
  have b2 := z2.resolve_left e2
  by_cases e3 : o.kind = 3
  · rw [if_pos e3]
    obtain ⟨⟨d1, d2⟩, d3⟩ := z4.resolve_left (by omega)
    have hb : bodyL o = o.tree ++ (Lib.uvarint o.pars.length ++ (o.pars.flatten ++ (Lib.uvarint o.time ++ ((textOf o.text).data.toList ++ [])))) := by simp [bodyL, e3, commitL]
    have i0 := id_fwd false o.tree (Lib.uvarint o.pars.length ++ (o.pars.flatten ++ (Lib.uvarint o.time ++ ((textOf o.text).data.toList ++ [])))) ht
    have i1 := num_fwd 8 false o.pars.length (o.pars.flatten ++ (Lib.uvarint o.time ++ ((textOf o.text).data.toList ++ []))) (ft.p e3) (by omega)
    have i2 := pars_fwd o.pars [] (Lib.uvarint o.time ++ ((textOf o.text).data.toList ++ [])) pi
    have i3 := num_fwd maxT false o.time ((textOf o.text).data.toList ++ []) (by unfold maxT; omega) (by unfold maxT; omega)
    have i4 := text_fwd false o.text [] (by have := ft.t; omega)
    rw [← hb] at i0
    have hS : cmS (bodyL o) = (o.pars.flatten ++ (Lib.uvarint o.time ++ ((textOf o.text).data.toList ++ [])), false) := by unfold cmS; rw [i0.1]; exact i1.1
    have hN : cmN (bodyL o) = o.pars.length := by unfold cmN; rw [i0.1]; exact i1.2
    have hP : cmP (bodyL o) = (o.pars, Lib.uvarint o.time ++ ((textOf o.text).data.toList ++ []), false) := by unfold cmP; rw [hS, hN]; exact i2
    have hT : cmT (bodyL o) = o.time := by unfold cmT; rw [hP]; exact i3.2
    have hU : cmU (bodyL o) = ((textOf o.text).data.toList ++ [], false) := by unfold cmU; rw [hP]; exact i3.1
    have hX : cmX (bodyL o) = o.text.data.toList := by unfold cmX; rw [hU]; exact i4.2
    unfold commitB
    rw [hP, hT, hU, hX, i0.2]
    refine Prod.ext (ob_ext e3.symm b1.symm b2.symm rfl rfl rfl ?_ d1.symm d2.symm (empty_of d3).symm) i4.1
    exact mk_list o.text
  · rw [if_neg e3]
    have e4 : o.kind = 4 := by omega
    obtain ⟨⟨⟨c1, c2⟩, c3⟩, c4⟩ := z3.resolve_left e3
    have hf := ft.f e4
    have hb : bodyL o = byteK o.of :: (o.target ++ ((textOf o.name).data.toList ++ [])) := by simp [bodyL, e4, tagL]
    have i0 := kind_fwd false o.of (o.target ++ ((textOf o.name).data.toList ++ [])) hf.1 hf.2
    have i1 := id_fwd false o.target ((textOf o.name).data.toList ++ []) hg
    have i2 := text_fwd false o.name [] (by have := ft.n; omega)
    rw [← hb] at i0
    have hI : tgI (bodyL o) = ((textOf o.name).data.toList ++ [], false) := by unfold tgI; rw [i0.1]; exact i1.1
    unfold tagB
    rw [hI, i0.1, i0.2]
    refine Prod.ext (ob_ext e4.symm b1.symm b2.symm c1.symm c2.symm c3.symm (empty_of c4).symm i1.2 rfl ?_) i2.1
    show (⟨(textV ((textOf o.name).data.toList ++ [])).toArray⟩ : ByteArray) = o.name
    rw [i2.2]

/-- What was encoded is decoded as it was. -/
theorem dec_fwd {o : Ob} (hv : validB o = true) (ft : Fit o) (ei : ∀ e ∈ o.ents, e.id.length = 32) (pi : ∀ p ∈ o.pars, p.length = 32) (ht : o.tree.length = 32) (hg : o.target.length = 32) (hti : o.time < 4294967296) (hs : (encS o).size ≤ 4096) : dec (encS o).data.toList = some o := by
  have hk := ft.k
  have hbl := body_len ft ei pi ht hg hti
  have hl : (encS o).data.toList = byteK o.kind :: ((textOf ⟨(bodyL o).toArray⟩).data.toList ++ []) := by
    unfold encS
    rw [ByteArray.data_append, Array.toList_append, List.append_nil]; rfl
  have i0 := kind_fwd false o.kind ((textOf ⟨(bodyL o).toArray⟩).data.toList ++ []) (by omega) (by omega)
  have i1 := text_fwd false ⟨(bodyL o).toArray⟩ [] (by rw [mk_size]; omega)
  rw [← hl] at i0
  have hV : bdV (encS o).data.toList = bodyL o := by unfold bdV; rw [i0.1]; exact i1.2
  have hR : bdR (encS o).data.toList = ([], false) := by unfold bdR; rw [i0.1]; exact i1.1
  have hB := body_fwd hv ft ei pi ht hg hti
  unfold dec okA okB
  rw [hV, hR, i0.2, hB, size_list]
  rw [if_pos ⟨hs, by simp; omega, by simp [hv]⟩]

end Rm
end Go.Proofs.YtcicfjfbnbkkcaaDoor
