/-
  WALKS OF LAYER 4: the reader's steps over their mathematics.
-/
import Derived.Test.YtcicfjfbnbkkcaaDoorReaderId2
import Derived.Test.YtcicfjfbnbkkcaaDoorRdMath2
namespace Go.Proofs.YtcicfjfbnbkkcaaDoor
open Go.RowKit
set_option linter.unusedVariables false
set_option linter.unusedSimpArgs false

/-- A reader in block g: what is left, as a list. -/
def Rl (w : World) (g : Nat) (s : List UInt8 × Bool) : Prop := Rd w g ⟨s.1.toArray⟩ s.2
theorem extract_l (s : ByteArray) (a b : Nat) : (s.extract a b).data.toList = (s.data.toList.drop a).take (b - a) := by
  rw [show s.extract a b = (ByteArray.mk s.data.toList.toArray).extract a b by simp, ByteArray.extract_mk]
theorem extract_r (s : ByteArray) (a : Nat) : (s.extract a s.size).data.toList = s.data.toList.drop a := by
  rw [extract_l, List.take_of_length_le]; rw [List.length_drop, size_list]; omega
theorem rd_l {w : World} {g : Nat} {s : ByteArray} {b : Bool} {p : List UInt8 × Bool} (h : Rd w g s b) (h1 : s.data.toList = p.1) (h2 : b = p.2) : Rl w g p := by
  unfold Rl
  rw [← h1, ← h2]
  exact h
/-- The end of a step of the reader. -/
def Took (g : Nat) (v : Value) (p : List UInt8 × Bool) (w : World) (r : Ending) (w' : World) : Prop := r = .returned v ∧ Rl w' g p ∧ w.grownBy w' (some g)

theorem kind_l (g : Nat) (l : List UInt8) (b : Bool) (w : World) (h : Rl w g (l, b)) (hl : l.length ≤ 1000000) :
    Calls Tryd.prog 12 #[.pointer (some ⟨g, 0, none⟩)] w (Took g (.int .i64 (Rm.kindV l)) (Rm.kindR b l) w) := by
  cases l with
  | nil => exact (kind_none g b w h).mono fun e w' ⟨h1, h2, h3⟩ => ⟨h1, rd_l h2 rfl rfl, h3⟩
  | cons x t =>
    have hs : (ByteArray.mk (x :: t).toArray).size = t.length + 1 := by rw [Rm.mk_size]; rfl
    refine (kind_some g ⟨(x :: t).toArray⟩ b w h (by rw [hs]; omega) (by rw [hs]; unfold maxLen; simp at hl; omega)).mono fun e w' ⟨h1, h2, h3⟩ => ⟨h1, rd_l h2 ?_ rfl, h3⟩
    rw [extract_r]; rfl

theorem text_l (g : Nat) (l : List UInt8) (b : Bool) (w : World) (h : Rl w g (l, b)) (hl : l.length ≤ 1000000) :
    Calls Tryd.prog 13 #[.pointer (some ⟨g, 0, none⟩)] w (Took g (.string ⟨(Rm.textV l).toArray⟩) (Rm.textR b l) w) := by
  have hs : (ByteArray.mk l.toArray).size = l.length := Rm.mk_size l
  have hm : (ByteArray.mk l.toArray).size ≤ maxLen := by rw [hs]; unfold maxLen; omega
  have hd : (ByteArray.mk l.toArray).data.toList = l := by simp
  have h' : Rd w g ⟨l.toArray⟩ b := h
  cases hv : Rm.vget l with
  | none =>
    have hn : ∀ e, ¬ Vi.Ok (ByteArray.mk l.toArray).data.toList e := by rw [hd]; exact Rm.vget_none hv
    have ht : Rm.vtake l = none := by unfold Rm.vtake; rw [hv]
    unfold Rm.textV Rm.textR
    rw [ht]
    exact (rtext_bad g _ b w h' ((take_none _ w hm hn).mono fun e w' ⟨h1, h2⟩ => ⟨h1, 0, h2.symm⟩)).mono fun e w' ⟨h1, h2, h3⟩ => ⟨h1, rd_l h2 rfl rfl, h3⟩
  | some p =>
    obtain ⟨n, k⟩ := p
    have hbd := Rm.vget_bd hv
    obtain ⟨e, he, rfl, rfl⟩ := Rm.vget_some hv
    have he' : Vi.Ok (ByteArray.mk l.toArray).data.toList e := by rw [hd]; exact he
    by_cases hlt : l.length - (e + 1) < Vi.val (l.take (e + 1))
    · have ht : Rm.vtake l = none := by unfold Rm.vtake; rw [hv]; simp only; rw [if_pos hlt]
      unfold Rm.textV Rm.textR
      rw [ht]
      exact (rtext_bad g _ b w h' (take_short _ w hm e he' (by rw [hs, hd]; exact hlt))).mono fun e w' ⟨h1, h2, h3⟩ => ⟨h1, rd_l h2 rfl rfl, h3⟩
    · have ht : Rm.vtake l = some ((l.drop (e + 1)).take (Vi.val (l.take (e + 1))), l.drop (e + 1 + Vi.val (l.take (e + 1)))) := by unfold Rm.vtake; rw [hv]; simp only; rw [if_neg hlt]
      unfold Rm.textV Rm.textR
      rw [ht]
      have htk := take_ok ⟨l.toArray⟩ w hm e he' (by rw [hs, hd]; omega)
      refine (rtext_ok g ⟨l.toArray⟩ _ _ b w h' htk).mono fun r w' ⟨h1, h2, h3⟩ => ⟨?_, rd_l h2 ?_ rfl, h3⟩
      · rw [h1]
        refine congrArg (fun x => Ending.returned (.string x)) (bytes_ext ?_)
        rw [extract_l, extract_r, hd, List.drop_zero, Nat.sub_zero]
      · rw [extract_l, extract_r, hd, List.drop_drop, List.take_of_length_le]
        rw [List.length_drop, hs]; omega

theorem id_l (g : Nat) (l : List UInt8) (b : Bool) (w : World) (h : Rl w g (l, b)) (hl : l.length ≤ 1000000) :
    Calls Tryd.prog 54 #[.pointer (some ⟨g, 0, none⟩)] w (Took g (.agg (idC (Rm.idV l)).toArray) (Rm.idR b l) w) := by
  have hs : (ByteArray.mk l.toArray).size = l.length := Rm.mk_size l
  have hd : (ByteArray.mk l.toArray).data.toList = l := by simp
  unfold Rm.idV Rm.idR
  by_cases h32 : l.length < 32
  · rw [if_pos h32, if_pos h32]
    exact (id_short g _ b w h (by rw [hs]; exact h32)).mono fun e w' ⟨h1, h2, h3⟩ => ⟨h1, rd_l h2 rfl rfl, h3⟩
  · rw [if_neg h32, if_neg h32]
    refine (id_ok g ⟨l.toArray⟩ b w h (by rw [hs]; omega) (by rw [hs]; unfold maxLen; omega)).mono fun e w' ⟨h1, h2, h3⟩ => ⟨h1, rd_l h2 ?_ rfl, h3⟩
    rw [extract_r]

theorem num_l (g : Nat) (l : List UInt8) (b : Bool) (m : Nat) (w : World) (h : Rl w g (l, b)) (hl : l.length ≤ 1000000) :
    Calls Tryd.prog 55 #[.pointer (some ⟨g, 0, none⟩), .int .u64 m] w (Took g (.int .u64 (Rm.numV m l)) (Rm.numR m b l) w) := by
  have hs : (ByteArray.mk l.toArray).size = l.length := Rm.mk_size l
  have hm : (ByteArray.mk l.toArray).size ≤ maxLen := by rw [hs]; unfold maxLen; omega
  have hd : (ByteArray.mk l.toArray).data.toList = l := by simp
  have h' : Rd w g ⟨l.toArray⟩ b := h
  unfold Rm.numV Rm.numR
  cases hv : Rm.vget l with
  | none =>
    have hn : ∀ e, ¬ Vi.Ok (ByteArray.mk l.toArray).data.toList e := by rw [hd]; exact Rm.vget_none hv
    exact (number_none g _ m b w h' (get_none _ w hm hn)).mono fun e w' ⟨h1, h2, h3⟩ => ⟨h1, rd_l h2 rfl rfl, h3⟩
  | some p =>
    obtain ⟨n, k⟩ := p
    obtain ⟨e, he, rfl, rfl⟩ := Rm.vget_some hv
    have he' : Vi.Ok (ByteArray.mk l.toArray).data.toList e := by rw [hd]; exact he
    simp only
    have hg := get_ok ⟨l.toArray⟩ w hm e he'
    rw [hd] at hg
    by_cases hlt : m < Vi.val (l.take (e + 1))
    · rw [if_pos hlt, if_pos hlt]
      exact (number_big g _ _ _ m b w h' hlt hg).mono fun e w' ⟨h1, h2, h3⟩ => ⟨h1, rd_l h2 rfl rfl, h3⟩
    · rw [if_neg hlt, if_neg hlt]
      refine (number_ok g ⟨l.toArray⟩ _ _ m b w h' (by omega) hg).mono fun e w' ⟨h1, h2, h3⟩ => ⟨h1, rd_l h2 ?_ rfl, h3⟩
      rw [extract_r]

end Go.Proofs.YtcicfjfbnbkkcaaDoor
