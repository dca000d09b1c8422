/-
  THE MATHEMATICS OF LAYER 4, the way back: what the reader's steps take off the beginning of bytes, the object that bytes are decoded to, and that decoding undoes encoding.
-/
import Derived.Test.YtcicfjfbnbkkcaaDoorEncode2
namespace Go.Proofs.YtcicfjfbnbkkcaaDoor
open Go.RowKit
set_option linter.unusedVariables false
set_option linter.unusedSimpArgs false
namespace Rm

def endAt : List UInt8 → Nat
  | [] => 0
  | b :: r => if 128 ≤ b.toNat then endAt r + 1 else 0
theorem endAt_eq : ∀ (l : List UInt8) (e : Nat) (h : e < l.length), (∀ (j : Nat) (h : j < l.length), j < e → 128 ≤ l[j].toNat) → l[e].toNat < 128 → endAt l = e
  | [], e, h, _, _ => absurd h (by simp)
  | b :: r, 0, _, _, hl => by
    have hl' : b.toNat < 128 := hl
    simp only [endAt]; rw [if_neg (by omega)]
  | b :: r, e + 1, h, hm, hl => by
    have h0 : 128 ≤ b.toNat := hm 0 (by simp) (by omega)
    simp only [endAt]; rw [if_pos h0, endAt_eq r e (by simpa using h) (fun j hj hje => hm (j + 1) (by simpa using hj) (by omega)) hl]
theorem endAt_more : ∀ (l : List UInt8) (j : Nat) (h : j < l.length), j < endAt l → 128 ≤ l[j].toNat
  | [], j, h, _ => absurd h (by simp)
  | b :: r, j, h, hj => by
    by_cases hb : 128 ≤ b.toNat
    · simp only [endAt, if_pos hb] at hj
      cases j with
      | zero => exact hb
      | succ j => exact endAt_more r j (by simpa using h) (by omega)
    · simp only [endAt, if_neg hb] at hj; omega
theorem endAt_last : ∀ (l : List UInt8) (h : endAt l < l.length), l[endAt l].toNat < 128
  | [], h => absurd h (by simp)
  | b :: r, h => by
    by_cases hb : 128 ≤ b.toNat
    · have he : endAt (b :: r) = endAt r + 1 := by simp only [endAt, if_pos hb]
      have hr : endAt r < r.length := by rw [he] at h; simpa using h
      have := endAt_last r hr
      have key : ∀ (k : Nat) (hk : k = endAt r + 1) (h : k < (b :: r).length), ((b :: r)[k]).toNat < 128 := by
        intro k hk h; subst hk; simpa using this
      exact key _ he _
    · have he : endAt (b :: r) = 0 := by simp only [endAt, if_neg hb]
      have key : ∀ (k : Nat) (hk : k = 0) (h : k < (b :: r).length), ((b :: r)[k]).toNat < 128 := by
        intro k hk h; subst hk; show b.toNat < 128; omega
      exact key _ he _
/-- The number that bytes begin with, and how many bytes it has. -/
def vget (l : List UInt8) : Option (Nat × Nat) :=
  if endAt l < 10 ∧ endAt l < l.length ∧ (0 < endAt l → (l.getD (endAt l) 0).toNat ≠ 0) ∧ (endAt l = 9 → (l.getD (endAt l) 0).toNat ≤ 1) then some (Vi.val (l.take (endAt l + 1)), endAt l + 1) else none
theorem getD_at (l : List UInt8) (e : Nat) (h : e < l.length) : l.getD e 0 = l[e] := by simp [h]
theorem vget_ok {l : List UInt8} {e : Nat} (h : Vi.Ok l e) : vget l = some (Vi.val (l.take (e + 1)), e + 1) := by
  have he := endAt_eq l e h.lt h.more h.last
  have hlt := h.lt
  unfold vget
  rw [he, if_pos ⟨h.lt10, h.lt, fun h0 => by rw [getD_at l e hlt]; exact h.least h0, fun h9 => by rw [getD_at l e hlt]; exact h.fits h9⟩]
theorem vget_some {l : List UInt8} {n k : Nat} (h : vget l = some (n, k)) : ∃ e, Vi.Ok l e ∧ n = Vi.val (l.take (e + 1)) ∧ k = e + 1 := by
  unfold vget at h
  split at h
  · rename_i hc
    obtain ⟨h1, h2, h3, h4⟩ := hc
    simp only [Option.some.injEq, Prod.mk.injEq] at h
    rw [getD_at l _ h2] at h3 h4
    exact ⟨endAt l, ⟨h1, h2, endAt_more l, endAt_last l h2, h3, h4⟩, h.1.symm, h.2.symm⟩
  · cases h
theorem vget_none {l : List UInt8} (h : vget l = none) : ∀ e, ¬ Vi.Ok l e := fun e he => by rw [vget_ok he] at h; cases h
theorem vget_bd {l : List UInt8} {n k : Nat} (h : vget l = some (n, k)) : 1 ≤ k ∧ k ≤ l.length ∧ k ≤ 10 ∧ n < 18446744073709551616 := by
  obtain ⟨e, he, rfl, rfl⟩ := vget_some h
  have := he.lt; have := he.lt10
  exact ⟨by omega, by omega, by omega, he.val_lt⟩
theorem vget_put (n : Nat) (hn : n < 18446744073709551616) (s : List UInt8) : vget (Go.Lib.uvarint n ++ s) = some (n, (Go.Lib.uvarint n).length) := by
  have hp := Go.Lib.uvarint_pos n
  rw [vget_ok (Vi.ok_put n hn s), Vi.val_put, show (Go.Lib.uvarint n).length - 1 + 1 = (Go.Lib.uvarint n).length by omega]
/-- What was got was put so. -/
theorem vget_back {l : List UInt8} {n k : Nat} (h : vget l = some (n, k)) : l = Go.Lib.uvarint n ++ l.drop k := by
  obtain ⟨e, he, rfl, rfl⟩ := vget_some h
  rw [he.back, List.take_append_drop]

def kindV : List UInt8 → Int
  | [] => 0
  | x :: _ => x.toNat
def kindR (b : Bool) : List UInt8 → List UInt8 × Bool
  | [] => ([], true)
  | _ :: r => (r, b)
def vtake (l : List UInt8) : Option (List UInt8 × List UInt8) :=
  match vget l with
  | none => none
  | some (n, k) => if l.length - k < n then none else some ((l.drop k).take n, l.drop (k + n))
def textV (l : List UInt8) : List UInt8 := match vtake l with
  | none => []
  | some (t, _) => t
def textR (b : Bool) (l : List UInt8) : List UInt8 × Bool := match vtake l with
  | none => ([], true)
  | some (_, r) => (r, b)
def idV (l : List UInt8) : List UInt8 := if l.length < 32 then zId else l.take 32
def idR (b : Bool) (l : List UInt8) : List UInt8 × Bool := if l.length < 32 then ([], true) else (l.drop 32, b)
def numV (m : Nat) (l : List UInt8) : Nat := match vget l with
  | none => 0
  | some (n, _) => if m < n then 0 else n
def numR (m : Nat) (b : Bool) (l : List UInt8) : List UInt8 × Bool := match vget l with
  | none => ([], true)
  | some (n, k) => if m < n then ([], true) else (l.drop k, b)

theorem idV_len (l : List UInt8) : (idV l).length = 32 := by
  unfold idV; split
  · rfl
  · rw [List.length_take]; omega

/-! ### taken off: what stood there -/
theorem kind_inv {b : Bool} {l r : List UInt8} (h : kindR b l = (r, false)) : b = false ∧ l = byteK (kindV l) :: r ∧ 0 ≤ kindV l ∧ kindV l < 256 := by
  cases l with
  | nil => simp [kindR] at h
  | cons x t =>
    simp only [kindR, Prod.mk.injEq] at h
    obtain ⟨rfl, rfl⟩ := h
    have hx := x.toNat_lt
    refine ⟨rfl, ?_, by simp only [kindV]; omega, by simp only [kindV]; omega⟩
    congr 1
    have := byteK_nat (k := kindV (x :: t)) (by simp only [kindV]; omega) (by simp only [kindV]; omega)
    simp only [kindV] at this ⊢
    exact UInt8.toNat_inj.1 (by omega)
theorem textOf_list (t : List UInt8) : (textOf ⟨t.toArray⟩).data.toList = Go.Lib.uvarint t.length ++ t := by
  unfold textOf
  rw [ByteArray.data_append, Array.toList_append]
  have : (ByteArray.mk t.toArray).size = t.length := by rw [← size_list]
  rw [this]
theorem text_inv {b : Bool} {l r : List UInt8} (h : textR b l = (r, false)) : b = false ∧ l = (textOf ⟨(textV l).toArray⟩).data.toList ++ r := by
  unfold textR at h
  split at h
  · simp at h
  · rename_i t r' hv
    simp only [Prod.mk.injEq] at h
    obtain ⟨rfl, rfl⟩ := h
    refine ⟨rfl, ?_⟩
    unfold textV
    rw [hv]
    unfold vtake at hv
    split at hv
    · cases hv
    · rename_i n k hg
      split at hv
      · cases hv
      · rename_i hle
        simp only [Option.some.injEq, Prod.mk.injEq] at hv
        obtain ⟨rfl, rfl⟩ := hv
        have hb := vget_bd hg
        show l = (textOf ⟨((l.drop k).take n).toArray⟩).data.toList ++ l.drop (k + n)
        rw [textOf_list, List.length_take, List.length_drop, Nat.min_eq_left (by omega), List.append_assoc, ← List.drop_drop, List.take_append_drop]
        exact vget_back hg
theorem id_inv {b : Bool} {l r : List UInt8} (h : idR b l = (r, false)) : b = false ∧ l = idV l ++ r := by
  unfold idR at h
  unfold idV
  split at h
  · simp at h
  · rename_i hlt
    simp only [Prod.mk.injEq] at h
    obtain ⟨rfl, rfl⟩ := h
    rw [if_neg hlt]
    exact ⟨rfl, (List.take_append_drop 32 l).symm⟩
theorem num_inv {m : Nat} {b : Bool} {l r : List UInt8} (h : numR m b l = (r, false)) : b = false ∧ l = Go.Lib.uvarint (numV m l) ++ r ∧ numV m l ≤ m := by
  unfold numR at h
  unfold numV
  split at h
  · simp at h
  · rename_i n k hg
    split at h
    · simp at h
    · rename_i hle
      simp only [Prod.mk.injEq] at h
      obtain ⟨rfl, rfl⟩ := h
      rw [if_neg hle]
      exact ⟨rfl, vget_back hg, by omega⟩

/-! ### put there: what is taken off -/
theorem text_fwd (b : Bool) (t : ByteArray) (r : List UInt8) (h : t.size < 18446744073709551616) : textR b ((textOf t).data.toList ++ r) = (r, b) ∧ textV ((textOf t).data.toList ++ r) = t.data.toList := by
  have he : (textOf t).data.toList = Go.Lib.uvarint t.size ++ t.data.toList := by
    unfold textOf
    rw [ByteArray.data_append, Array.toList_append]
  have hv := vget_put t.size h (t.data.toList ++ r)
  have ht : vtake ((textOf t).data.toList ++ r) = some (t.data.toList, r) := by
    unfold vtake
    rw [he, List.append_assoc, hv]
    simp only
    have hs := size_list t
    rw [if_neg (by rw [List.length_append, List.length_append]; omega), List.drop_left' rfl, List.take_left' hs, ← List.append_assoc, List.drop_left' (by rw [List.length_append, hs])]
  unfold textR textV
  rw [ht]
  exact ⟨rfl, rfl⟩
theorem id_fwd (b : Bool) (i r : List UInt8) (h : i.length = 32) : idR b (i ++ r) = (r, b) ∧ idV (i ++ r) = i := by
  unfold idR idV
  rw [if_neg (by rw [List.length_append]; omega), if_neg (by rw [List.length_append]; omega), List.drop_left' h, List.take_left' h]
  exact ⟨rfl, rfl⟩
theorem num_fwd (m : Nat) (b : Bool) (n : Nat) (r : List UInt8) (h : n ≤ m) (hm : m < 18446744073709551616) : numR m b (Go.Lib.uvarint n ++ r) = (r, b) ∧ numV m (Go.Lib.uvarint n ++ r) = n := by
  unfold numR numV
  rw [vget_put n (by omega) r]
  simp only
  rw [if_neg (by omega), if_neg (by omega), List.drop_left' rfl]
  exact ⟨rfl, rfl⟩
theorem kind_fwd (b : Bool) (k : Int) (r : List UInt8) (h0 : 0 ≤ k) (h1 : k < 256) : kindR b (byteK k :: r) = (r, b) ∧ kindV (byteK k :: r) = k := ⟨rfl, (byteK_nat h0 h1).symm⟩

/-! ### a tree's entries -/
def oneEn (b : Bool) (l : List UInt8) : En × (List UInt8 × Bool) :=
  (⟨⟨(textV (kindR b l).1).toArray⟩, kindV l, idV (textR (kindR b l).2 (kindR b l).1).1⟩,
   idR (textR (kindR b l).2 (kindR b l).1).2 (textR (kindR b l).2 (kindR b l).1).1)
def treeF : Nat → Bool → List UInt8 → List En → List En × Bool
  | 0, b, _, acc => (acc, b)
  | k + 1, b, l, acc => if l = [] then (acc, b) else treeF k (oneEn b l).2.2 (oneEn b l).2.1 (acc ++ [(oneEn b l).1])
theorem treeF_nil (k : Nat) (b : Bool) (acc : List En) : treeF k b [] acc = (acc, b) := by cases k <;> simp [treeF]
theorem treeF_step {k : Nat} {b : Bool} {l : List UInt8} {acc : List En} (h : l ≠ []) : treeF (k + 1) b l acc = treeF k (oneEn b l).2.2 (oneEn b l).2.1 (acc ++ [(oneEn b l).1]) := by simp [treeF, h]
theorem one_len (b : Bool) (l : List UInt8) (h : l ≠ []) : (oneEn b l).2.1.length < l.length := by
  have h1 : (kindR b l).1.length < l.length := by cases l with
    | nil => exact absurd rfl h
    | cons x r => simp [kindR]
  have h2 : ∀ b' l', (textR b' l').1.length ≤ l'.length := fun b' l' => by
    unfold textR; split
    · simp
    · rename_i t r hv
      unfold vtake at hv
      split at hv
      · cases hv
      · split at hv
        · cases hv
        · simp only [Option.some.injEq, Prod.mk.injEq] at hv
          obtain ⟨_, rfl⟩ := hv
          rw [List.length_drop]; omega
  have h3 : ∀ b' l', (idR b' l').1.length ≤ l'.length := fun b' l' => by
    unfold idR; split
    · simp
    · rw [List.length_drop]; omega
  have e2 := h2 (kindR b l).2 (kindR b l).1
  have e3 := h3 (textR (kindR b l).2 (kindR b l).1).2 (textR (kindR b l).2 (kindR b l).1).1
  show (idR _ _).1.length < l.length
  omega
theorem one_inv {b : Bool} {l r : List UInt8} (h : (oneEn b l).2 = (r, false)) : b = false ∧ l = enB (oneEn b l).1 ++ r ∧ 0 ≤ (oneEn b l).1.kind ∧ (oneEn b l).1.kind < 256 := by
  have h3 := id_inv (show idR (textR (kindR b l).2 (kindR b l).1).2 (textR (kindR b l).2 (kindR b l).1).1 = (r, false) from h)
  obtain ⟨e3, f3⟩ := h3
  obtain ⟨e2, f2⟩ := text_inv (b := (kindR b l).2) (l := (kindR b l).1) (r := (textR (kindR b l).2 (kindR b l).1).1) (by rw [← e3])
  obtain ⟨e1, f1, g1, g2⟩ := kind_inv (b := b) (l := l) (r := (kindR b l).1) (by rw [← e2])
  refine ⟨e1, ?_, g1, g2⟩
  show l = (byteK (kindV l) :: ((textOf ⟨(textV (kindR b l).1).toArray⟩).data.toList ++ idV (textR (kindR b l).2 (kindR b l).1).1)) ++ r
  rw [List.cons_append, List.append_assoc, ← f3, ← f2]
  exact f1
theorem tree_inv : ∀ (k : Nat) (b : Bool) (l : List UInt8) (acc res : List En), l.length ≤ k → treeF k b l acc = (res, false) → b = false ∧ ∃ es, res = acc ++ es ∧ l = es.flatMap enB
  | 0, b, l, acc, res, hk, h => by
    obtain rfl := List.eq_nil_of_length_eq_zero (Nat.le_zero.1 hk)
    simp only [treeF, Prod.mk.injEq] at h
    exact ⟨h.2, [], by rw [← h.1, List.append_nil], rfl⟩
  | k + 1, b, l, acc, res, hk, h => by
    by_cases hl : l = []
    · subst hl
      rw [treeF_nil, Prod.mk.injEq] at h
      exact ⟨h.2, [], by rw [← h.1, List.append_nil], rfl⟩
    · rw [treeF_step hl] at h
      have hlt := one_len b l hl
      obtain ⟨hb, es, rfl, he⟩ := tree_inv k _ _ _ _ (by omega) h
      obtain ⟨g1, g2, _⟩ := one_inv (b := b) (l := l) (r := (oneEn b l).2.1) (by rw [← hb])
      refine ⟨g1, (oneEn b l).1 :: es, by simp, ?_⟩
      rw [List.flatMap_cons, ← he]; exact g2
theorem one_fwd (b : Bool) (e : En) (r : List UInt8) (hn : e.name.size < 18446744073709551616) (h0 : 0 ≤ e.kind) (h1 : e.kind < 256) (hi : e.id.length = 32) : oneEn b (enB e ++ r) = (e, r, b) := by
  have ek := kind_fwd b e.kind ((textOf e.name).data.toList ++ (e.id ++ r)) h0 h1
  have et := text_fwd b e.name (e.id ++ r) hn
  have ei := id_fwd b e.id r hi
  have hl : enB e ++ r = byteK e.kind :: ((textOf e.name).data.toList ++ (e.id ++ r)) := by simp [enB]
  unfold oneEn
  rw [hl, ek.1, ek.2]
  simp only
  rw [et.1, et.2]
  simp only
  rw [ei.1, ei.2]
theorem enB_ne (e : En) : enB e ≠ [] := by simp [enB]
theorem tree_fwd : ∀ (es : List En) (k : Nat) (acc : List En), (∀ e ∈ es, e.name.size < 18446744073709551616 ∧ 0 ≤ e.kind ∧ e.kind < 256 ∧ e.id.length = 32) → (es.flatMap enB).length ≤ k → treeF k false (es.flatMap enB) acc = (acc ++ es, false)
  | [], k, acc, _, _ => by rw [List.flatMap_nil, treeF_nil, List.append_nil]
  | e :: r, k, acc, h, hk => by
    obtain ⟨h1, h2, h3, h4⟩ := h e (by simp)
    have hne : enB e ++ r.flatMap enB ≠ [] := fun hc => enB_ne e (List.append_eq_nil_iff.1 hc).1
    rw [List.flatMap_cons] at hk ⊢
    have hp : 0 < (enB e).length := List.length_pos_iff.2 (enB_ne e)
    rw [List.length_append] at hk
    obtain ⟨k, rfl⟩ : ∃ k', k = k' + 1 := ⟨k - 1, by omega⟩
    rw [treeF_step hne, one_fwd false e _ h1 h2 h3 h4]
    simp only
    rw [tree_fwd r k _ (fun x hx => h x (by simp [hx])) (by omega)]
    simp

/-! ### a commit's parents -/
def parsF : Nat → Bool → List UInt8 → List (List UInt8) → List (List UInt8) × (List UInt8 × Bool)
  | 0, b, l, acc => (acc, l, b)
  | k + 1, b, l, acc => parsF k (idR b l).2 (idR b l).1 (acc ++ [idV l])
theorem pars_inv : ∀ (k : Nat) (b : Bool) (l : List UInt8) (acc res : List (List UInt8)) (r : List UInt8), parsF k b l acc = (res, r, false) → b = false ∧ ∃ ps, res = acc ++ ps ∧ ps.length = k ∧ l = ps.flatten ++ r
  | 0, b, l, acc, res, r, h => by
    simp only [parsF, Prod.mk.injEq] at h
    exact ⟨h.2.2, [], by rw [← h.1, List.append_nil], rfl, by rw [← h.2.1]; rfl⟩
  | k + 1, b, l, acc, res, r, h => by
    obtain ⟨hb, ps, rfl, hl, he⟩ := pars_inv k _ _ _ _ _ h
    obtain ⟨g1, g2⟩ := id_inv (b := b) (l := l) (r := (idR b l).1) (by rw [← hb])
    refine ⟨g1, idV l :: ps, by simp, by simp [hl], ?_⟩
    rw [List.flatten_cons, List.append_assoc, ← he]; exact g2
theorem pars_fwd : ∀ (ps : List (List UInt8)) (acc : List (List UInt8)) (r : List UInt8), (∀ p ∈ ps, p.length = 32) → parsF ps.length false (ps.flatten ++ r) acc = (acc ++ ps, r, false)
  | [], acc, r, _ => by simp [parsF]
  | p :: ps, acc, r, h => by
    have ei := id_fwd false p (ps.flatten ++ r) (h p (by simp))
    rw [List.length_cons, List.flatten_cons, List.append_assoc]
    show parsF ps.length (idR false (p ++ (ps.flatten ++ r))).2 (idR false (p ++ (ps.flatten ++ r))).1 (acc ++ [idV (p ++ (ps.flatten ++ r))]) = _
    rw [ei.1, ei.2]
    simp only
    rw [pars_fwd ps _ r (fun x hx => h x (by simp [hx]))]
    simp
theorem pars_len (k : Nat) (b : Bool) (l : List UInt8) (acc : List (List UInt8)) (h : ∀ p ∈ acc, p.length = 32) : (∀ p ∈ (parsF k b l acc).1, p.length = 32) ∧ (parsF k b l acc).1.length = acc.length + k := by
  induction k generalizing b l acc with
  | zero => exact ⟨h, rfl⟩
  | succ k ih =>
    have := ih (idR b l).2 (idR b l).1 (acc ++ [idV l]) (fun p hp => by
      rcases List.mem_append.1 hp with hp | hp
      · exact h p hp
      · rw [List.mem_singleton.1 hp]; exact idV_len l)
    refine ⟨this.1, ?_⟩
    show (parsF k _ _ _).1.length = _
    rw [this.2]; simp; omega

end Rm
end Go.Proofs.YtcicfjfbnbkkcaaDoor
