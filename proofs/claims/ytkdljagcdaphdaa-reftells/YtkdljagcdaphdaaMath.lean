/-
  THE MATHEMATICS OF LAYER 9 (no program): names, refs that may be, what a name stands for, a ref set or deleted, updates.
-/
import Derived.Test.YtkdljagcdaphdaaRows
import Derived.Sort.Walk0
namespace Go.Proofs.Ytkdljagcdaphdaa
set_option linter.unusedVariables false
set_option linter.unusedSimpArgs false
namespace Rf

/-- A ref. -/
structure R where
  name : ByteArray
  id : List UInt8
/-- An update. -/
structure U where
  name : ByteArray
  old : List UInt8
  new : List UInt8
def zid : List UInt8 := List.replicate 32 0
def lt (a b : ByteArray) : Bool := Op.bytesLess a.toList b.toList
def badB (c : UInt8) : Bool := decide (c.toNat < 33) || decide (126 < c.toNat)
/-- A name that may be. -/
def nameOk (s : ByteArray) : Bool := decide (1 ≤ s.size) && decide (s.size ≤ 40) && !s.data.toList.any badB

theorem lt_eq (a b : ByteArray) : lt a b = decide (a.data.toList < b.data.toList) := by
  unfold lt; rw [Go.Proofs.bytesLess_eq, ByteArray.toList_eq, ByteArray.toList_eq]
theorem bytes_ext {a b : ByteArray} (h : a.data.toList = b.data.toList) : a = b := by
  cases a with | mk x => cases b with | mk y => congr 1; exact Array.toList_inj.1 h
theorem lt_irrefl (a : ByteArray) : lt a a = false := by rw [lt_eq]; simp
theorem lt_trans {a b c : ByteArray} (h : lt a b = true) (k : lt b c = true) : lt a c = true := by
  rw [lt_eq, decide_eq_true_iff] at *; exact List.lt_trans h k
theorem lt_asymm {a b : ByteArray} (h : lt a b = true) : lt b a = false := by
  rw [Bool.eq_false_iff]; intro k
  have := lt_trans h k
  rw [lt_irrefl] at this; cases this
theorem lt_tri {a b : ByteArray} (h : lt a b = false) (k : lt b a = false) : a = b := by
  rw [lt_eq, decide_eq_false_iff_not] at *
  exact bytes_ext (List.le_antisymm (List.not_lt.1 k) (List.not_lt.1 h))
theorem lt_ne {a b : ByteArray} (h : lt a b = true) : a ≠ b := fun e => by rw [e, lt_irrefl] at h; cases h
theorem beq_iff (a b : ByteArray) : (a.toList == b.toList) = decide (a = b) := by
  rw [Bool.eq_iff_iff, beq_iff_eq, decide_eq_true_iff, ByteArray.toList_eq, ByteArray.toList_eq]
  exact ⟨bytes_ext, fun e => by rw [e]⟩
/-- 'a <= b'. -/
theorem leq_iff (a b : ByteArray) : (Op.bytesLess a.toList b.toList || a.toList == b.toList) = !lt b a := by
  rw [beq_iff]
  show (lt a b || decide (a = b)) = !lt b a
  cases h : lt b a
  · cases k : lt a b
    · simp [lt_tri k h]
    · rfl
  · have := lt_asymm h
    rw [this]
    have hn : a ≠ b := fun e => by rw [e, lt_irrefl] at h; cases h
    simp [hn]

def okr (r : R) : Bool := nameOk r.name && !decide (r.id = zid)
def aft : Option ByteArray → ByteArray → Bool
  | none, _ => true
  | some p, n => lt p n
def fineF : Option ByteArray → List R → Bool
  | _, [] => true
  | last, r :: t => okr r && aft last r.name && fineF (some r.name) t
/-- Refs that may be. -/
def fine (L : List R) : Bool := decide (L.length ≤ 64) && fineF none L
def Srt (L : List R) : Prop := L.Pairwise (fun a b => lt a.name b.name = true)
theorem fineF_iff : ∀ (L : List R) (last : Option ByteArray), fineF last L = true ↔ (∀ r ∈ L, okr r = true ∧ aft last r.name = true) ∧ Srt L
  | [], last => by simp [fineF, Srt]
  | r :: t, last => by
    have ih := fineF_iff t (some r.name)
    unfold Srt at *
    simp only [fineF, Bool.and_eq_true, ih, List.mem_cons, List.pairwise_cons]
    constructor
    · rintro ⟨⟨h1, h2⟩, h3, h4⟩
      refine ⟨?_, fun x hx => (h3 x hx).2, h4⟩
      rintro x (rfl | hx)
      · exact ⟨h1, h2⟩
      · refine ⟨(h3 x hx).1, ?_⟩
        cases last with
        | none => rfl
        | some p => exact lt_trans h2 (h3 x hx).2
    · rintro ⟨h1, h2, h3⟩
      exact ⟨h1 r (.inl rfl), fun x hx => ⟨(h1 x (.inr hx)).1, h2 x hx⟩, h3⟩
theorem fine_iff (L : List R) : fine L = true ↔ L.length ≤ 64 ∧ (∀ r ∈ L, okr r = true) ∧ Srt L := by
  unfold fine
  rw [Bool.and_eq_true, decide_eq_true_iff, fineF_iff]
  simp [aft]

def find : List R → ByteArray → Option (List UInt8)
  | [], _ => none
  | r :: t, n => if r.name = n then some r.id else find t n
theorem find_none {L : List R} {n : ByteArray} : find L n = none ↔ ∀ r ∈ L, r.name ≠ n := by
  induction L with
  | nil => simp [find]
  | cons r t ih => unfold find; split <;> simp_all
theorem find_some {L : List R} {n : ByteArray} {i : List UInt8} (h : find L n = some i) : ∃ r ∈ L, r.name = n ∧ r.id = i := by
  induction L with
  | nil => simp [find] at h
  | cons r t ih =>
    unfold find at h
    split at h
    · exact ⟨r, by simp, by assumption, by simpa using h⟩
    · obtain ⟨x, hx, h2⟩ := ih h; exact ⟨x, by simp [hx], h2⟩

/-- The ref itself, or nothing of none. -/
def one (n : ByteArray) (id : List UInt8) : List R := if id = zid then [] else [⟨n, id⟩]
def put : List R → ByteArray → List UInt8 → List R
  | [], n, id => one n id
  | r :: t, n, id => if lt r.name n then r :: put t n id else one n id ++ (if r.name = n then t else r :: t)
/-- The document's Set. -/
def setD : Bool → List R → ByteArray → List UInt8 → List R
  | done, [], n, id => if done then [] else [⟨n, id⟩]
  | done, r :: t, n, id => (if !done && !lt r.name n then [⟨n, id⟩] else []) ++ ((if r.name = n then [] else [r]) ++ setD (done || !lt r.name n) t n id)
theorem setD_done : ∀ (L : List R) (n : ByteArray) (id : List UInt8), (∀ r ∈ L, r.name ≠ n) → setD true L n id = L
  | [], n, id, _ => rfl
  | r :: t, n, id, h => by
    unfold setD
    rw [if_neg (h r (by simp)), Bool.true_or, setD_done t n id (fun x hx => h x (by simp [hx]))]
    rfl
theorem setD_put : ∀ (L : List R) (n : ByteArray) (id : List UInt8), Srt L → setD (decide (id = zid)) L n id = put L n id
  | [], n, id, _ => by simp [setD, put, one]
  | r :: t, n, id, h => by
    have h2 := List.pairwise_cons.1 h
    unfold setD put
    by_cases hl : lt r.name n = true
    · have hn : r.name ≠ n := lt_ne hl
      have ih := setD_put t n id h2.2
      simp only [hl, Bool.not_true, Bool.and_false, Bool.false_eq_true, if_false, if_neg hn, Bool.or_false, if_true, List.nil_append]
      rw [ih]; rfl
    · have hl' : lt r.name n = false := by simpa using hl
      have hne : ∀ x ∈ t, x.name ≠ n := fun x hx e => by
        have := h2.1 x hx
        rw [e, hl'] at this; cases this
      simp only [hl', Bool.not_false, Bool.and_true, Bool.or_true, if_false, Bool.false_eq_true]
      rw [setD_done t n id hne]
      unfold one
      by_cases hz : id = zid
      · by_cases hn : r.name = n <;> simp [hz, hn]
      · by_cases hn : r.name = n <;> simp [hz, hn]

def fromI (L : List R) (n : ByteArray) : Nat := L.findIdx (fun r => !lt r.name n)
def toI (L : List R) (n : ByteArray) : Nat := match L[fromI L n]? with | some r => if r.name = n then fromI L n + 1 else fromI L n | none => fromI L n
theorem put_cut : ∀ (L : List R) (n : ByteArray) (id : List UInt8), put L n id = L.take (fromI L n) ++ (one n id ++ L.drop (toI L n))
  | [], n, id => by simp [put, fromI, toI]
  | r :: t, n, id => by
    have ih := put_cut t n id
    unfold put
    by_cases hl : lt r.name n = true
    · have e : fromI (r :: t) n = fromI t n + 1 := by unfold fromI; rw [List.findIdx_cons]; simp [hl]
      have e2 : toI (r :: t) n = toI t n + 1 := by
        unfold toI; rw [e, List.getElem?_cons_succ]
        cases t[fromI t n]? with
        | none => rfl
        | some x => simp only []; split <;> rfl
      rw [e, e2, if_pos hl, ih]; rfl
    · have hl' : lt r.name n = false := by simpa using hl
      have e : fromI (r :: t) n = 0 := by unfold fromI; rw [List.findIdx_cons]; simp [hl']
      have e2 : toI (r :: t) n = if r.name = n then 1 else 0 := by
        unfold toI; rw [e, List.getElem?_cons_zero]
      rw [e, e2, if_neg hl]
      by_cases hn : r.name = n <;> simp [hn]
theorem find_put : ∀ (L : List R) (n : ByteArray) (id : List UInt8) (m : ByteArray), Srt L → find (put L n id) m = if m = n then (if id = zid then none else some id) else find L m
  | [], n, id, m, _ => by
    unfold put one
    by_cases hz : id = zid
    · simp [hz, find]
    · by_cases hm : m = n
      · simp [hz, hm, find]
      · have : n ≠ m := Ne.symm hm
        simp [hz, hm, find, this]
  | r :: t, n, id, m, h => by
    have h2 := List.pairwise_cons.1 h
    unfold put
    by_cases hl : lt r.name n = true
    · have hn : r.name ≠ n := lt_ne hl
      rw [if_pos hl]
      unfold find
      rw [find_put t n id m h2.2]
      by_cases hm : m = n
      · subst hm; simp [hn]
      · by_cases hr : r.name = m <;> simp [hm, hr]
    · rw [if_neg hl]
      have hl' : lt r.name n = false := by simpa using hl
      have hne : ∀ x ∈ t, x.name ≠ n := fun x hx e => by
        have := h2.1 x hx
        rw [e, hl'] at this; cases this
      have hfn : find t n = none := find_none.2 hne
      unfold one
      by_cases hm : m = n
      · subst hm
        by_cases hz : id = zid
        · by_cases hr : r.name = m
          · simp [hz, hr, hfn]
          · simp [hz, hr, find, hfn]
        · simp [hz, find]
      · have hmn : n ≠ m := Ne.symm hm
        by_cases hz : id = zid
        · by_cases hr : r.name = n
          · have : r.name ≠ m := fun e => hm (e ▸ hr)
            simp [hz, hr, hm, find, hmn]
          · simp [hz, hr, hm]
        · by_cases hr : r.name = n
          · simp [hz, hr, hm, find, hmn]
          · simp [hz, hr, hm, find, hmn]
theorem put_mem {L : List R} {n : ByteArray} {id : List UInt8} {x : R} (h : x ∈ put L n id) : (x = ⟨n, id⟩ ∧ id ≠ zid) ∨ x ∈ L := by
  induction L with
  | nil => simp only [put, one] at h; split at h <;> simp_all
  | cons r t ih =>
    unfold put at h
    split at h
    · rcases List.mem_cons.1 h with rfl | h
      · exact .inr (by simp)
      · rcases ih h with h | h
        · exact .inl h
        · exact .inr (by simp [h])
    · rcases List.mem_append.1 h with h | h
      · unfold one at h; split at h <;> simp_all
      · split at h
        · exact .inr (by simp [h])
        · exact .inr h
theorem put_srt : ∀ (L : List R) (n : ByteArray) (id : List UInt8), Srt L → Srt (put L n id)
  | [], n, id, _ => by unfold put one; split <;> simp [Srt]
  | r :: t, n, id, h => by
    have h2 := List.pairwise_cons.1 h
    unfold put
    by_cases hl : lt r.name n = true
    · rw [if_pos hl]
      refine List.pairwise_cons.2 ⟨fun x hx => ?_, put_srt t n id h2.2⟩
      rcases put_mem hx with ⟨rfl, _⟩ | hx
      · exact hl
      · exact h2.1 x hx
    · rw [if_neg hl]
      have hl' : lt r.name n = false := by simpa using hl
      have hgt : ∀ x ∈ (if r.name = n then t else r :: t), lt n x.name = true := fun x hx => by
        split at hx
        · have := h2.1 x hx; rwa [‹r.name = n›] at this
        · rename_i hn
          have hr : lt n r.name = true := by
            cases k : lt n r.name
            · exact absurd (lt_tri hl' k) hn
            · rfl
          rcases List.mem_cons.1 hx with rfl | hx
          · exact hr
          · exact lt_trans hr (h2.1 x hx)
      have hs : Srt (if r.name = n then t else r :: t) := by split; exact h2.2; exact h
      unfold one
      split
      · exact hs
      · exact List.pairwise_cons.2 ⟨hgt, hs⟩
theorem put_len : ∀ (L : List R) (n : ByteArray) (id : List UInt8), Srt L → (put L n id).length + (if find L n = none then 0 else 1) = L.length + (if id = zid then 0 else 1)
  | [], n, id, _ => by unfold put one find; split <;> simp
  | r :: t, n, id, h => by
    have h2 := List.pairwise_cons.1 h
    unfold put find
    by_cases hl : lt r.name n = true
    · have hn : r.name ≠ n := lt_ne hl
      have ih := put_len t n id h2.2
      rw [if_pos hl, if_neg hn]
      simp only [List.length_cons]; omega
    · rw [if_neg hl]
      have hl' : lt r.name n = false := by simpa using hl
      have hne : ∀ x ∈ t, x.name ≠ n := fun x hx e => by
        have := h2.1 x hx
        rw [e, hl'] at this; cases this
      have hfn : find t n = none := find_none.2 hne
      unfold one
      by_cases hr : r.name = n
      · by_cases hz : id = zid <;> simp [hr, hz] <;> omega
      · by_cases hz : id = zid <;> simp [hr, hz, hfn] <;> omega

/-! ### updates -/
def hasN (seen : List ByteArray) (n : ByteArray) : Bool := seen.any (fun x => decide (x = n))
def wrong (L : List R) (seen : List ByteArray) (u : U) : Nat :=
  if (nameOk u.name = false ∨ (u.old = zid ∧ u.new = zid)) ∨ hasN seen u.name = true then 8 else if (find L u.name).getD zid ≠ u.old then 10 else if find L u.name = none ∧ L.length = 64 then 3 else 0
def nxt (L : List R) (seen : List ByteArray) (u : U) : List R := if wrong L seen u = 0 then put L u.name u.new else L
def run : List R → List ByteArray → List U → List R × List Nat
  | L, _, [] => (L, [])
  | L, seen, u :: t => ((run (nxt L seen u) (seen ++ [u.name]) t).1, wrong L seen u :: (run (nxt L seen u) (seen ++ [u.name]) t).2)
def errs (es : List Nat) : Bool := es.any (fun e => !decide (e = 0))
def mark (e : Nat) : Nat := if e = 0 then 12 else e
def upd (L : List R) (us : List U) (all : Bool) : List R × List Nat :=
  if all && errs (run L [] us).2 then (L, (run L [] us).2.map mark) else run L [] us
theorem nxt_fine {L : List R} {seen : List ByteArray} {u : U} (h : fine L = true) : fine (nxt L seen u) = true := by
  unfold nxt
  split
  · rename_i hw
    obtain ⟨h1, h2, h3⟩ := (fine_iff L).1 h
    have hl := put_len L u.name u.new h3
    unfold wrong at hw
    split at hw
    · cases hw
    · rename_i h8
      split at hw
      · cases hw
      · rename_i h10
        split at hw
        · cases hw
        · rename_i h64
          have hnm : nameOk u.name = true := by
            cases k : nameOk u.name
            · exact absurd (.inl (.inl k)) h8
            · rfl
          refine (fine_iff _).2 ⟨?_, fun r hr => ?_, put_srt _ _ _ h3⟩
          · by_cases hf : find L u.name = none
            · have : L.length ≠ 64 := fun e => h64 ⟨hf, e⟩
              rw [if_pos hf] at hl
              split at hl <;> omega
            · rw [if_neg hf] at hl
              split at hl <;> omega
          · rcases put_mem hr with ⟨rfl, hz⟩ | hr
            · unfold okr; simp [hnm, hz]
            · exact h2 r hr
  · exact h
theorem run_fine : ∀ (us : List U) (L : List R) (seen : List ByteArray), fine L = true → fine (run L seen us).1 = true
  | [], L, seen, h => h
  | u :: t, L, seen, h => run_fine t _ _ (nxt_fine h)
theorem run_len : ∀ (us : List U) (L : List R) (seen : List ByteArray), (run L seen us).2.length = us.length
  | [], L, seen => rfl
  | u :: t, L, seen => by simp [run, run_len t]
theorem upd_fine {L : List R} {us : List U} {all : Bool} (h : fine L = true) : fine (upd L us all).1 = true := by
  unfold upd; split
  · exact h
  · exact run_fine _ _ _ h
theorem upd_len (L : List R) (us : List U) (all : Bool) : (upd L us all).2.length = us.length := by
  unfold upd; split <;> simp [run_len]

end Rf
end Go.Proofs.Ytkdljagcdaphdaa
