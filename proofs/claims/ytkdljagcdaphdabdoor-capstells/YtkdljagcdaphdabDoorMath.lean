/-
  THE MATHEMATICS OF LAYER 10 (no program): words, lists of words that may be, their text, what is chosen.
-/
import Derived.Test.YtkdljagcdaphdabDoorRows
import Derived.Sort.Walk0
import Derived.Lib.Join
import Derived.Lib.Split
import Derived.Lib.IndexBytes
import Derived.Lib.IndexLaws
import Derived.Lib.SplitLaws
namespace Go.Proofs.YtkdljagcdaphdabDoor
set_option linter.unusedVariables false
set_option linter.unusedSimpArgs false
namespace Cp

def lt (a b : ByteArray) : Bool := Op.bytesLess a.toList b.toList
theorem lt_eq (a b : ByteArray) : lt a b = decide (a.data.toList < b.data.toList) := by
  unfold lt; rw [Go.Proofs.bytesLess_eq, ByteArray.toList_eq, ByteArray.toList_eq]
theorem bytes_ext {a b : ByteArray} (h : a.data.toList = b.data.toList) : a = b := by
  cases a with | mk x => cases b with | mk y => congr 1; exact Array.toList_inj.1 h
theorem lt_irrefl (a : ByteArray) : lt a a = false := by rw [lt_eq]; simp
theorem lt_trans {a b c : ByteArray} (h : lt a b = true) (k : lt b c = true) : lt a c = true := by
  rw [lt_eq, decide_eq_true_iff] at *; exact List.lt_trans h k
theorem lt_asymm {a b : ByteArray} (h : lt a b = true) : lt b a = false := by
  rw [Bool.eq_false_iff]; intro k
  have := lt_trans h k
  rw [lt_irrefl] at this; cases this
theorem lt_tri {a b : ByteArray} (h : lt a b = false) (k : lt b a = false) : a = b := by
  rw [lt_eq, decide_eq_false_iff_not] at *
  exact bytes_ext (List.le_antisymm (List.not_lt.1 k) (List.not_lt.1 h))
theorem lt_ne {a b : ByteArray} (h : lt a b = true) : a ≠ b := fun e => by rw [e, lt_irrefl] at h; cases h
theorem beq_iff (a b : ByteArray) : (a.toList == b.toList) = decide (a = b) := by
  rw [Bool.eq_iff_iff, beq_iff_eq, decide_eq_true_iff, ByteArray.toList_eq, ByteArray.toList_eq]
  exact ⟨bytes_ext, fun e => by rw [e]⟩
/-- 'a <= b'. -/
theorem leq_iff (a b : ByteArray) : (Op.bytesLess a.toList b.toList || a.toList == b.toList) = !lt b a := by
  rw [beq_iff]
  show (lt a b || decide (a = b)) = !lt b a
  cases h : lt b a
  · cases k : lt a b
    · simp [lt_tri k h]
    · rfl
  · have := lt_asymm h
    rw [this]
    have hn : a ≠ b := fun e => by rw [e, lt_irrefl] at h; cases h
    simp [hn]


def okB (c : UInt8) : Bool := (decide (97 ≤ c.toNat) && decide (c.toNat ≤ 122)) || (decide (48 ≤ c.toNat) && decide (c.toNat ≤ 57)) || decide (c.toNat = 45)
/-- A word that may be. -/
def wordOk (s : ByteArray) : Bool := decide (1 ≤ s.size) && decide (s.size ≤ 20) && s.data.toList.all okB
def aft : Option ByteArray → ByteArray → Bool
  | none, _ => true
  | some p, n => lt p n
def fineF : Option ByteArray → List ByteArray → Bool
  | _, [] => true
  | last, r :: t => wordOk r && aft last r && fineF (some r) t
/-- Words that may be. -/
def fine (L : List ByteArray) : Bool := decide (L.length ≤ 20) && fineF none L
theorem fineF_ok : ∀ (L : List ByteArray) (last : Option ByteArray), fineF last L = true → ∀ r ∈ L, wordOk r = true
  | [], _, _, r, hr => by cases hr
  | x :: t, last, h, r, hr => by
    simp only [fineF, Bool.and_eq_true] at h
    rcases List.mem_cons.1 hr with rfl | hr
    · exact h.1.1
    · exact fineF_ok t _ h.2 r hr
theorem fine_ok {L : List ByteArray} (h : fine L = true) : ∀ r ∈ L, wordOk r = true := by
  unfold fine at h; simp only [Bool.and_eq_true] at h
  exact fineF_ok L none h.2
theorem fine_len {L : List ByteArray} (h : fine L = true) : L.length ≤ 20 := by
  unfold fine at h; simp only [Bool.and_eq_true, decide_eq_true_iff] at h; exact h.1
theorem word_no {s : ByteArray} (h : wordOk s = true) : 32 ∉ s.data.toList := fun q => by
  unfold wordOk at h; simp only [Bool.and_eq_true] at h
  have := List.all_eq_true.1 h.2 _ q
  exact absurd this (by decide)
theorem word_size {s : ByteArray} (h : wordOk s = true) : 1 ≤ s.size ∧ s.size ≤ 20 := by
  unfold wordOk at h; simp only [Bool.and_eq_true, decide_eq_true_iff] at h; exact h.1
/-- Words' text. -/
def textL (L : List ByteArray) : List UInt8 := Lib.join (L.map (·.data.toList)) [32]
theorem text_nil : textL [] = [] := rfl
theorem text_one (x : ByteArray) : textL [x] = x.data.toList := Lib.join_one _ _
theorem text_cons2 (x y : ByteArray) (t : List ByteArray) : textL (x :: y :: t) = x.data.toList ++ 32 :: textL (y :: t) := by
  unfold textL
  rw [List.map_cons, List.map_cons, Lib.join_cons, Lib.join_cons]
  simp [Lib.joinTail]
theorem text_snoc (L : List ByteArray) (x : ByteArray) (h : L ≠ []) : textL (L ++ [x]) = textL L ++ 32 :: x.data.toList := by
  cases L with
  | nil => exact absurd rfl h
  | cons y t =>
    unfold textL
    rw [List.cons_append, List.map_cons, List.map_cons, Lib.join_cons, Lib.join_cons, List.map_append]
    simp [Lib.joinTail]
theorem text_last (L : List ByteArray) (x y : ByteArray) (c : UInt8) (h : y.data.toList = x.data.toList ++ [c]) : textL (L ++ [y]) = textL (L ++ [x]) ++ [c] := by
  cases L with
  | nil => rw [List.nil_append, List.nil_append, text_one, text_one, h]
  | cons z t =>
    rw [text_snoc _ _ (by simp), text_snoc _ _ (by simp), h]; simp
theorem text_len : ∀ (L : List ByteArray), (∀ s ∈ L, s.size ≤ 100) → (textL L).length ≤ 101 * L.length
  | [], _ => by simp [text_nil]
  | [x], h => by have := h x (by simp); rw [text_one]; simp at this ⊢; omega
  | x :: y :: t, h => by
    have ih := text_len (y :: t) (fun s hs => h s (by simp at hs ⊢; right; exact hs))
    have := h x (by simp)
    rw [text_cons2]
    simp at this ih ⊢; omega
theorem text_long : ∀ (L : List ByteArray), L.length ≤ (textL L).length + 1
  | [] => by simp
  | [x] => by simp
  | x :: y :: t => by
    have ih := text_long (y :: t)
    rw [text_cons2]
    simp at ih ⊢; omega
theorem ext_take (s : ByteArray) (i : Nat) : (s.extract 0 i).data.toList = s.data.toList.take i := by
  simp only [ByteArray.data_extract, Array.toList_extract, List.extract_eq_take_drop]; simp
theorem ext_drop (s : ByteArray) (i : Nat) : (s.extract i s.size).data.toList = s.data.toList.drop i := by
  simp only [ByteArray.data_extract, Array.toList_extract, List.extract_eq_take_drop]
  rw [List.take_of_length_le (by simp)]
def sp : ByteArray := ⟨#[32]⟩
theorem indexB_sp (s : ByteArray) : Lib.indexB s sp = Lib.indexByte s.data.toList 32 := Lib.index_one _ _
theorem index_no {s : ByteArray} (h : 32 ∉ s.data.toList) : Lib.indexB s sp = -1 := by
  rw [indexB_sp]
  have h1 := Lib.indexByte_ge s.data.toList 32
  by_cases hq : Lib.indexByte s.data.toList 32 = -1
  · exact hq
  · obtain ⟨i, hi⟩ : ∃ i : Nat, Lib.indexByte s.data.toList 32 = (i : Int) := ⟨(Lib.indexByte s.data.toList 32).toNat, by omega⟩
    exact absurd (List.mem_of_getElem? (Lib.indexByte_some hi).1) h
theorem index_at {s : ByteArray} {i : Nat} (h : Lib.indexB s sp = (i : Int)) : i < s.size ∧ s.data.toList = (s.extract 0 i).data.toList ++ 32 :: (s.extract (i + 1) s.size).data.toList := by
  rw [indexB_sp] at h
  obtain ⟨h1, h2⟩ := Lib.indexByte_some h
  have hi : i < s.data.toList.length := (List.getElem?_eq_some_iff.1 h1).1
  refine ⟨by simpa using hi, ?_⟩
  rw [ext_take, ext_drop]
  have : s.data.toList[i] = 32 := (List.getElem?_eq_some_iff.1 h1).2
  conv => lhs; rw [← List.take_append_drop i s.data.toList, List.drop_eq_getElem_cons hi, this]
theorem index_fst {s x : ByteArray} {r : List UInt8} (h : s.data.toList = x.data.toList ++ 32 :: r) (hx : 32 ∉ x.data.toList) : Lib.indexB s sp = (x.size : Int) := by
  rw [indexB_sp]
  have h1 := Lib.indexByte_ge s.data.toList 32
  have hl : s.data.toList[x.size]? = some 32 := by rw [h, List.getElem?_append_right (by simp)]; simp
  by_cases hq : Lib.indexByte s.data.toList 32 = -1
  · exact absurd hl (Lib.indexByte_none hq x.size)
  · obtain ⟨i, hi⟩ : ∃ i : Nat, Lib.indexByte s.data.toList 32 = (i : Int) := ⟨(Lib.indexByte s.data.toList 32).toNat, by omega⟩
    obtain ⟨g1, g2⟩ := Lib.indexByte_some hi
    rw [hi]
    rcases Nat.lt_trichotomy i x.size with hlt | heq | hgt
    · rw [h, List.getElem?_append_left (by simpa using hlt)] at g1
      exact absurd (List.mem_of_getElem? g1) hx
    · rw [heq]
    · exact absurd hl (g2 x.size hgt)
/-- The text of what is split is the text. -/
theorem split_text : ∀ (k : Nat) (s : ByteArray), textL (Lib.splitB sp 0 k s) = s.data.toList ∧ Lib.splitB sp 0 k s ≠ []
  | 0, s => ⟨by rw [Lib.splitB_zero]; exact text_one s, by rw [Lib.splitB_zero]; simp⟩
  | k + 1, s => by
    rcases Lib.indexB_cases s sp with h | ⟨i, h, _⟩
    · rw [Lib.splitB_miss _ _ _ _ h]; exact ⟨text_one s, by simp⟩
    · rw [Lib.splitB_hit _ _ _ _ _ h]
      obtain ⟨ih1, ih2⟩ := split_text k (s.extract (i + sp.size) s.size)
      refine ⟨?_, by simp⟩
      cases hq : Lib.splitB sp 0 k (s.extract (i + sp.size) s.size) with
      | nil => exact absurd hq ih2
      | cons y t =>
        rw [hq] at ih1
        rw [text_cons2, ih1, Nat.add_zero]
        exact (index_at h).2.symm
/-- What has a text of words without spaces is split into them. -/
theorem text_split : ∀ (L : List ByteArray) (k : Nat) (s : ByteArray), L ≠ [] → (∀ x ∈ L, 32 ∉ x.data.toList) → textL L = s.data.toList → L.length ≤ k + 1 → Lib.splitB sp 0 k s = L
  | [], _, _, h, _, _, _ => absurd rfl h
  | [x], k, s, _, hx, ht, _ => by
    rw [text_one] at ht
    have e : x = s := bytes_ext ht
    subst e
    exact Lib.splitB_miss _ _ _ _ (index_no (hx x (by simp)))
  | x :: y :: t, 0, s, _, _, _, hl => by simp at hl
  | x :: y :: t, k + 1, s, _, hx, ht, hl => by
    rw [text_cons2] at ht
    have hi := index_fst ht.symm (hx x (by simp))
    rw [Lib.splitB_hit _ _ _ _ _ hi, Nat.add_zero]
    have e1 : s.extract 0 x.size = x := bytes_ext (by rw [ext_take, ← ht, List.take_left' (by simp)])
    have e2 : (s.extract (x.size + sp.size) s.size).data.toList = textL (y :: t) := by
      rw [ext_drop, ← ht, show sp.size = 1 from rfl, List.drop_append, List.drop_eq_nil_of_le (by simp)]
      simp
    rw [e1, text_split (y :: t) k _ (by simp) (fun z hz => hx z (by simp at hz ⊢; right; exact hz)) e2.symm (by simp at hl ⊢; omega)]
/-- The words that a text is. -/
def Is (s : List UInt8) (L : List ByteArray) : Prop := fine L = true ∧ textL L = s
theorem Is.split {s : ByteArray} {L : List ByteArray} (h : Is s.data.toList L) (hs : s.data.toList ≠ []) (k : Nat) (hk : L.length ≤ k + 1) : Lib.splitB sp 0 k s = L :=
  text_split L k s (fun e => hs (by rw [← h.2, e]; rfl)) (fun x hx => word_no (fine_ok h.1 x hx)) h.2 hk
theorem Is.uniq {s : ByteArray} {L M : List ByteArray} (h : Is s.data.toList L) (k : Is s.data.toList M) : L = M := by
  by_cases hs : s.data.toList = []
  · have z : ∀ L, Is s.data.toList L → L = [] := fun L h => by
      cases L with
      | nil => rfl
      | cons x t =>
        exfalso
        have hx := word_size (fine_ok h.1 x (by simp))
        have ht := h.2
        rw [hs] at ht
        cases t with
        | nil =>
          rw [text_one] at ht
          have h9 : x.data.toList.length = 0 := by rw [ht]; rfl
          have h8 : x.data.toList.length = x.size := rfl
          omega
        | cons y t => rw [text_cons2] at ht; have h9 := congrArg List.length ht; simp at h9
    rw [z L h, z M k]
  · have h1 := fine_len h.1
    have h2 := fine_len k.1
    rw [← h.split hs 20 (by omega), k.split hs 20 (by omega)]

/-! ### what is chosen -/
def hasW (L : List ByteArray) (n : ByteArray) : Bool := L.any (fun x => decide (x = n))
def k0 : ByteArray := ⟨#[97, 116, 111, 109, 105, 99]⟩
def k1 : ByteArray := ⟨#[98, 97, 110, 100]⟩
def k2 : ByteArray := ⟨#[100, 101, 101, 112, 101, 110]⟩
def k3 : ByteArray := ⟨#[111, 102, 115]⟩
def k4 : ByteArray := ⟨#[116, 104, 105, 110]⟩
def known : List ByteArray := [k0, k1, k2, k3, k4]
def choose (A B : List ByteArray) : List ByteArray := known.filter (fun k => hasW A k && hasW B k)
theorem choose_comm (A B : List ByteArray) : choose A B = choose B A := by
  unfold choose; congr 1; funext k; exact Bool.and_comm _ _
theorem has_choose {A B : List ByteArray} {k : ByteArray} (hk : k ∈ known) : hasW (choose A B) k = (hasW A k && hasW B k) := by
  unfold hasW choose
  cases h : ((A.any fun x => decide (x = k)) && (B.any fun x => decide (x = k))) with
  | true =>
    refine List.any_eq_true.2 ⟨k, List.mem_filter.2 ⟨hk, ?_⟩, by simp⟩
    exact h
  | false =>
    rw [List.any_eq_false]
    intro x hx hq
    have hx2 := (List.mem_filter.1 hx).2
    have e : x = k := by simpa using hq
    subst e
    have h2 : ((A.any fun y => decide (y = x)) && (B.any fun y => decide (y = x))) = true := hx2
    rw [h] at h2; cases h2
theorem choose_again (A B : List ByteArray) : choose (choose A B) A = choose A B := by
  show known.filter _ = known.filter _
  refine List.filter_congr (fun k hk => ?_)
  rw [has_choose hk]
  cases hasW A k <;> cases hasW B k <;> rfl
theorem choose_once (A B : List ByteArray) : choose B (choose A B) = choose A B := by
  show known.filter _ = known.filter _
  refine List.filter_congr (fun k hk => ?_)
  rw [has_choose hk]
  cases hasW A k <;> cases hasW B k <;> rfl
theorem fine_sub (f : ByteArray → Bool) : fine (known.filter f) = true := by
  unfold known
  cases h0 : f k0 <;> cases h1 : f k1 <;> cases h2 : f k2 <;> cases h3 : f k3 <;> cases h4 : f k4 <;> simp only [List.filter_cons, List.filter_nil, h0, h1, h2, h3, h4, if_true, if_false, Bool.false_eq_true] <;> kernel_rfl
theorem choose_fine (A B : List ByteArray) : fine (choose A B) = true := fine_sub _
theorem choose_len (A B : List ByteArray) : (choose A B).length ≤ 5 := List.length_filter_le _ _
end Cp
end Go.Proofs.YtkdljagcdaphdabDoor
