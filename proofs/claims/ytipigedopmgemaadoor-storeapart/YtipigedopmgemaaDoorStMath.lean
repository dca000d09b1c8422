/-
  THE MATHEMATICS OF LAYER 11, no program: items by rising ids; where an id stands; one item more; the same items put in either order.
-/
import Derived.ProofKit
namespace Go.Proofs.YtipigedopmgemaaDoor
set_option linter.unusedVariables false
set_option linter.unusedSimpArgs false

/-- Whether the first byte in which two ids differ is smaller in the first one. -/
def St.lt : List UInt8 → List UInt8 → Bool
  | x :: r, y :: q => if x = y then St.lt r q else decide (x.toNat < y.toNat)
  | _, _ => false
theorem St.lt_irrefl : ∀ a : List UInt8, St.lt a a = false
  | [] => rfl
  | x :: r => by simp [St.lt, St.lt_irrefl r]
theorem St.lt_trans : ∀ {a b c : List UInt8}, St.lt a b = true → St.lt b c = true → St.lt a c = true
  | [], _, _, h, _ => by simp [St.lt] at h
  | _ :: _, [], _, h, _ => by simp [St.lt] at h
  | _ :: _, _ :: _, [], _, h => by simp [St.lt] at h
  | x :: r, y :: q, z :: p, h, k => by
    unfold St.lt at h k ⊢
    by_cases e : x = y
    · subst e
      rw [if_pos rfl] at h
      by_cases e2 : x = z
      · subst e2
        rw [if_pos rfl] at k ⊢
        exact St.lt_trans h k
      · rw [if_neg e2] at k ⊢; exact k
    · rw [if_neg e, decide_eq_true_eq] at h
      by_cases e2 : y = z
      · subst e2
        rw [if_neg e, decide_eq_true_eq]; exact h
      · rw [if_neg e2, decide_eq_true_eq] at k
        have : ¬ x = z := fun e3 => by subst e3; omega
        rw [if_neg this, decide_eq_true_eq]; omega
theorem St.lt_tri : ∀ {a b : List UInt8}, a.length = b.length → St.lt a b = true ∨ a = b ∨ St.lt b a = true
  | [], [], _ => .inr (.inl rfl)
  | [], _ :: _, h => by simp at h
  | _ :: _, [], h => by simp at h
  | x :: r, y :: q, h => by
    unfold St.lt
    by_cases e : x = y
    · subst e
      rw [if_pos rfl, if_pos rfl]
      rcases St.lt_tri (a := r) (b := q) (by simpa using h) with h1 | h1 | h1
      · exact .inl h1
      · exact .inr (.inl (by rw [h1]))
      · exact .inr (.inr h1)
    · rw [if_neg e, if_neg (fun k => e k.symm), decide_eq_true_eq, decide_eq_true_eq]
      have : x.toNat ≠ y.toNat := fun k => e (UInt8.toNat_inj.1 k)
      omega
theorem St.lt_asymm {a b : List UInt8} (h : St.lt a b = true) : St.lt b a = false := by
  cases hq : St.lt b a with
  | false => rfl
  | true => have := St.lt_trans h hq; rw [St.lt_irrefl] at this; cases this
theorem St.lt_ne {a b : List UInt8} (h : St.lt a b = true) : a ≠ b := fun e => by subst e; rw [St.lt_irrefl] at h; cases h

/-- An item: an encoding under its id. -/
structure St.It where
  id : List UInt8
  text : ByteArray
def St.Srt (L : List St.It) : Prop := L.Pairwise (fun a b => St.lt a.id b.id = true)
def St.Len (L : List St.It) : Prop := ∀ r ∈ L, r.id.length = 32
/-- Where an id stands, or would stand. -/
def St.pos (L : List St.It) (id : List UInt8) : Nat := L.findIdx (fun r => !St.lt r.id id)
def St.has (L : List St.It) (id : List UInt8) : Bool := L.any (fun r => decide (r.id = id))
/-- One item more. -/
def St.put (L : List St.It) (x : St.It) : List St.It := if St.has L x.id then L else L.take (St.pos L x.id) ++ x :: L.drop (St.pos L x.id)

theorem St.pos_le (L : List St.It) (id : List UInt8) : St.pos L id ≤ L.length := List.findIdx_le_length
theorem St.pos_before {L : List St.It} {id : List UInt8} {j : Nat} {r : St.It} (hj : j < St.pos L id) (hr : L[j]? = some r) : St.lt r.id id = true := by
  obtain ⟨h, rfl⟩ := List.getElem?_eq_some_iff.1 hr
  have := List.not_of_lt_findIdx hj
  simpa using this
theorem St.pos_from {L : List St.It} {id : List UInt8} (hs : St.Srt L) {j : Nat} {r : St.It} (hj : St.pos L id ≤ j) (hr : L[j]? = some r) : St.lt r.id id = false := by
  obtain ⟨h, rfl⟩ := List.getElem?_eq_some_iff.1 hr
  have hp : St.pos L id < L.length := by omega
  have h0 : St.lt (L[St.pos L id]).id id = false := by
    have := List.findIdx_getElem (w := hp)
    simp only [Bool.not_eq_true'] at this
    exact this
  rcases Nat.eq_or_lt_of_le hj with e | e
  · subst e; exact h0
  · cases hq : St.lt (L[j]).id id with
    | false => rfl
    | true =>
      have := List.pairwise_iff_getElem.1 hs _ _ hp h e
      rw [St.lt_trans this hq] at h0; cases h0
theorem St.pos_eq {L : List St.It} (hs : St.Srt L) {j : Nat} {r : St.It} (hr : L[j]? = some r) : St.pos L r.id = j := by
  rcases Nat.lt_trichotomy (St.pos L r.id) j with h | h | h
  · obtain ⟨hj, e⟩ := List.getElem?_eq_some_iff.1 hr
    have hp : St.pos L r.id < L.length := by omega
    have h1 := St.pos_from hs (Nat.le_refl _) (List.getElem?_eq_getElem hp)
    have h2 := List.pairwise_iff_getElem.1 hs _ _ hp hj h
    rw [e, h1] at h2; cases h2
  · exact h
  · have := St.pos_before h hr
    rw [St.lt_irrefl] at this; cases this
theorem St.has_of {L : List St.It} {id : List UInt8} {j : Nat} {r : St.It} (hr : L[j]? = some r) (h : r.id = id) : St.has L id = true := by
  unfold St.has
  rw [List.any_eq_true]
  exact ⟨r, List.mem_of_getElem? hr, by simpa using h⟩
theorem St.has_at {L : List St.It} {id : List UInt8} (hs : St.Srt L) (h : St.has L id = true) : ∃ r, L[St.pos L id]? = some r ∧ r.id = id := by
  unfold St.has at h
  rw [List.any_eq_true] at h
  obtain ⟨r, hr, he⟩ := h
  obtain ⟨j, hj⟩ := List.getElem?_of_mem hr
  have e : r.id = id := by simpa using he
  refine ⟨r, ?_, e⟩
  rw [← e, St.pos_eq hs hj]; exact hj
theorem St.has_not {L : List St.It} {id : List UInt8} (h : St.has L id = false) {j : Nat} {r : St.It} (hr : L[j]? = some r) : r.id ≠ id := fun e => by
  rw [St.has_of hr e] at h; cases h
/-- Behind where an id would stand are greater ids. -/
theorem St.pos_ahead {L : List St.It} {id : List UInt8} (hs : St.Srt L) (hl : St.Len L) (hil : id.length = 32) (h : St.has L id = false) {j : Nat} {r : St.It} (hr : L[j]? = some r) : St.lt id r.id = decide (St.pos L id ≤ j) := by
  by_cases hj : St.pos L id ≤ j
  · rw [decide_eq_true hj]
    have h1 := St.pos_from hs hj hr
    rcases St.lt_tri (a := id) (b := r.id) (by rw [hil, hl r (List.mem_of_getElem? hr)]) with h2 | h2 | h2
    · exact h2
    · exact absurd h2.symm (St.has_not h hr)
    · rw [h2] at h1; cases h1
  · rw [decide_eq_false hj]
    exact St.lt_asymm (St.pos_before (by omega) hr)
theorem St.srt_append {A B : List St.It} : St.Srt (A ++ B) ↔ St.Srt A ∧ St.Srt B ∧ ∀ a ∈ A, ∀ b ∈ B, St.lt a.id b.id = true := List.pairwise_append
theorem St.put_srt {L : List St.It} {x : St.It} (hs : St.Srt L) (hl : St.Len L) (hx : x.id.length = 32) : St.Srt (St.put L x) := by
  unfold St.put
  cases hq : St.has L x.id with
  | true => simpa using hs
  | false =>
    simp only [Bool.false_eq_true, if_false]
    have h0 : L.take (St.pos L x.id) ++ L.drop (St.pos L x.id) = L := List.take_append_drop _ _
    rw [← h0] at hs
    obtain ⟨h1, h2, h3⟩ := St.srt_append.1 hs
    have hs' : St.Srt L := by rw [← h0]; exact hs
    have ha : ∀ a ∈ L.take (St.pos L x.id), St.lt a.id x.id = true := fun a ha => by
      obtain ⟨j, hj⟩ := List.getElem?_of_mem ha
      rw [List.getElem?_take] at hj
      split at hj
      · rename_i hlt; exact St.pos_before hlt hj
      · cases hj
    have hb : ∀ b ∈ L.drop (St.pos L x.id), St.lt x.id b.id = true := fun b hb => by
      obtain ⟨j, hj⟩ := List.getElem?_of_mem hb
      rw [List.getElem?_drop] at hj
      have := St.pos_ahead hs' hl hx hq hj
      rw [this]; simp
    refine St.srt_append.2 ⟨h1, List.pairwise_cons.2 ⟨hb, h2⟩, fun a ha' b hb' => ?_⟩
    rcases List.mem_cons.1 hb' with rfl | hb'
    · exact ha a ha'
    · exact h3 a ha' b hb'
theorem St.put_mem {L : List St.It} {x r : St.It} (h : r ∈ St.put L x) : r ∈ L ∨ r = x := by
  unfold St.put at h
  split at h
  · exact .inl h
  · rw [List.mem_append, List.mem_cons] at h
    rcases h with h | h | h
    · exact .inl (List.mem_of_mem_take h)
    · exact .inr h
    · exact .inl (List.mem_of_mem_drop h)
theorem St.put_lens {L : List St.It} {x : St.It} (hl : St.Len L) (hx : x.id.length = 32) : St.Len (St.put L x) := fun r hr => by
  rcases St.put_mem hr with h | rfl
  · exact hl r h
  · exact hx
theorem St.put_length (L : List St.It) (x : St.It) : (St.put L x).length ≤ L.length + 1 := by
  unfold St.put
  split
  · omega
  · simp; omega
theorem St.put_has {L : List St.It} {x : St.It} (h : St.has L x.id = true) : St.put L x = L := by unfold St.put; rw [if_pos h]
theorem St.put_new {L : List St.It} {x : St.It} (h : St.has L x.id = false) : St.put L x = L.take (St.pos L x.id) ++ x :: L.drop (St.pos L x.id) := by unfold St.put; rw [if_neg (by rw [h]; decide)]
theorem St.nil_srt : St.Srt [] := List.Pairwise.nil
theorem St.take_srt {L : List St.It} (h : St.Srt L) (k : Nat) : St.Srt (L.take k) := List.Pairwise.sublist (List.take_sublist k L) h
theorem St.drop_srt {L : List St.It} (h : St.Srt L) (k : Nat) : St.Srt (L.drop k) := List.Pairwise.sublist (List.drop_sublist k L) h
/-- Put in rising order. -/
theorem St.put_up {L : List St.It} (hs : St.Srt L) {k : Nat} {x : St.It} (hx : L[k]? = some x) : St.put (L.take k) x = L.take (k + 1) := by
  obtain ⟨hk, rfl⟩ := List.getElem?_eq_some_iff.1 hx
  have hlt : ∀ (j : Nat) (r : St.It), (L.take k)[j]? = some r → St.lt r.id (L[k]).id = true := fun j r hj => by
    rw [List.getElem?_take] at hj
    split at hj
    · rename_i hjk
      obtain ⟨hj', rfl⟩ := List.getElem?_eq_some_iff.1 hj
      exact List.pairwise_iff_getElem.1 hs _ _ hj' hk hjk
    · cases hj
  have hno : St.has (L.take k) (L[k]).id = false := by
    cases hq : St.has (L.take k) (L[k]).id with
    | false => rfl
    | true =>
      obtain ⟨r, hr, he⟩ := St.has_at (St.take_srt hs k) hq
      exact absurd he (St.lt_ne (hlt _ _ hr))
  have hp : St.pos (L.take k) (L[k]).id = k := by
    unfold St.pos
    have : (L.take k).findIdx (fun r => !St.lt r.id (L[k]).id) = (L.take k).length := List.findIdx_eq_length.2 (fun r hr => by
      obtain ⟨j, hj⟩ := List.getElem?_of_mem hr
      rw [hlt j r hj]; rfl)
    rw [this, List.length_take]; omega
  rw [St.put_new hno, hp, List.take_take, Nat.min_self, List.drop_eq_nil_of_le (by simp; omega), List.take_succ_eq_append_getElem hk]
/-- Put in falling order. -/
theorem St.put_down {L : List St.It} (hs : St.Srt L) {k : Nat} {x : St.It} (hx : L[k]? = some x) : St.put (L.drop (k + 1)) x = L.drop k := by
  obtain ⟨hk, rfl⟩ := List.getElem?_eq_some_iff.1 hx
  have hlt : ∀ (j : Nat) (r : St.It), (L.drop (k + 1))[j]? = some r → St.lt (L[k]).id r.id = true := fun j r hj => by
    rw [List.getElem?_drop] at hj
    obtain ⟨hj', rfl⟩ := List.getElem?_eq_some_iff.1 hj
    exact List.pairwise_iff_getElem.1 hs _ _ hk hj' (by omega)
  have hno : St.has (L.drop (k + 1)) (L[k]).id = false := by
    cases hq : St.has (L.drop (k + 1)) (L[k]).id with
    | false => rfl
    | true =>
      obtain ⟨r, hr, he⟩ := St.has_at (St.drop_srt hs _) hq
      exact absurd he.symm (St.lt_ne (hlt _ _ hr))
  have hp : St.pos (L.drop (k + 1)) (L[k]).id = 0 := by
    rcases Nat.eq_zero_or_pos (St.pos (L.drop (k + 1)) (L[k]).id) with h | h
    · exact h
    · have hne : 0 < (L.drop (k + 1)).length := by have := St.pos_le (L.drop (k + 1)) (L[k]).id; omega
      have h1 := St.pos_before h (List.getElem?_eq_getElem hne)
      have h2 := hlt 0 _ (List.getElem?_eq_getElem hne)
      rw [St.lt_asymm h2] at h1; cases h1
  rw [St.put_new hno, hp, List.take_zero, List.drop_zero, List.nil_append, List.drop_eq_getElem_cons hk]

/-- What the document's With has made behind k items. -/
def St.ins (L : List St.It) (x : St.It) (k : Nat) : List St.It := if k ≤ St.pos L x.id then L.take k else L.take (St.pos L x.id) ++ x :: (L.take k).drop (St.pos L x.id)
theorem St.ins_zero (L : List St.It) (x : St.It) : St.ins L x 0 = [] := by unfold St.ins; rw [if_pos (Nat.zero_le _)]; rfl
theorem St.ins_step {L : List St.It} {x : St.It} {k : Nat} {r : St.It} (hr : L[k]? = some r) : St.ins L x (k + 1) = (if St.pos L x.id = k then St.ins L x k ++ [x] else St.ins L x k) ++ [r] := by
  obtain ⟨hk, rfl⟩ := List.getElem?_eq_some_iff.1 hr
  unfold St.ins
  rcases Nat.lt_trichotomy (St.pos L x.id) k with h | h | h
  · rw [if_neg (by omega), if_neg (by omega), if_neg (by omega), List.take_succ_eq_append_getElem hk, List.drop_append_of_le_length (by simp; omega)]
    simp
  · rw [if_neg (by omega), if_pos h, if_pos (by omega), List.take_succ_eq_append_getElem hk, List.drop_append_of_le_length (by simp; omega), h, List.drop_eq_nil_of_le (by simp; omega)]
    simp
  · rw [if_pos (by omega), if_neg (by omega), if_pos (by omega), List.take_succ_eq_append_getElem hk]
theorem St.ins_end {L : List St.It} {x : St.It} (h : St.has L x.id = false) : St.put L x = if St.pos L x.id < L.length then St.ins L x L.length else St.ins L x L.length ++ [x] := by
  rw [St.put_new h]
  have := St.pos_le L x.id
  unfold St.ins
  by_cases hlt : St.pos L x.id < L.length
  · rw [if_pos hlt, if_neg (by omega), List.take_length]
  · have e : St.pos L x.id = L.length := by omega
    rw [if_neg hlt, if_pos (by omega), e, List.take_length, List.drop_length]
theorem St.ins_len (L : List St.It) (x : St.It) (k : Nat) : (St.ins L x k).length ≤ L.length + 1 := by
  unfold St.ins
  split
  · simp; omega
  · simp; omega
theorem St.ins_mem {L : List St.It} {x r : St.It} {k : Nat} (h : r ∈ St.ins L x k) : r ∈ L ∨ r = x := by
  unfold St.ins at h
  split at h
  · exact .inl (List.mem_of_mem_take h)
  · rw [List.mem_append, List.mem_cons] at h
    rcases h with h | h | h
    · exact .inl (List.mem_of_mem_take h)
    · exact .inr h
    · exact .inl (List.mem_of_mem_take (List.mem_of_mem_drop h))

end Go.Proofs.YtipigedopmgemaaDoor
