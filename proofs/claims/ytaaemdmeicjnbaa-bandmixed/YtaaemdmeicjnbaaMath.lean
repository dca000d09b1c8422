/-
  MATHEMATICS OF LAYER 8: streams cut into lines of a channel, and the streams of lines (no program).
-/
import Derived.Test.YtaaemdmeicjnbaaProg
import Derived.Lib.Hide
import Derived.Laws.Strings
import Derived.WalkKit
import Derived.WalkSpells
import Derived.WalkLawsBesides
import Derived.Lib.ConvBytes
namespace Go.Proofs.Ytaaemdmeicjnbaa
set_option linter.unusedVariables false
set_option linter.unusedSimpArgs false
namespace Pk

/-- A line. -/
structure Ln where
  kind : Int
  load : ByteArray
theorem Ln.ext' {a b : Ln} (h1 : a.kind = b.kind) (h2 : a.load = b.load) : a = b := by cases a; cases b; simp_all

theorem size_list (b : ByteArray) : b.data.toList.length = b.size := rfl
theorem bytes_ext {a b : ByteArray} (h : a.data.toList = b.data.toList) : a = b := by
  cases a; cases b; simp only at h; rw [Array.toList_inj.1 h]
theorem extract_data (s : ByteArray) (a b : Nat) : (s.extract a b).data.toList = (s.data.toList.drop a).take (b - a) := by
  rw [← ByteArray.toList_eq, show s.extract a b = (ByteArray.mk s.data.toList.toArray).extract a b by simp, ByteArray.extract_mk, ByteArray.toList_eq]
theorem extract_size (s : ByteArray) (a b : Nat) (h : b ≤ s.size) : (s.extract a b).size = b - a := by
  rw [← size_list, extract_data, List.length_take, List.length_drop, size_list]; omega
theorem data_append (a b : ByteArray) : (a ++ b).data.toList = a.data.toList ++ b.data.toList := by rw [ByteArray.data_append]; simp

/-! ### Put -/
/-- The line of a piece. -/
def ln (c : UInt8) (p : ByteArray) : Ln := ⟨0, (⟨#[c]⟩ : ByteArray) ++ p⟩
/-- A stream in pieces of n bytes. -/
def cut (c : UInt8) (n : Nat) : Nat → ByteArray → List Ln
  | 0, _ => []
  | k + 1, s => if s.size = 0 then [] else ln c (s.extract 0 (min n s.size)) :: cut c n k (s.extract (min n s.size) s.size)
def put (c : UInt8) (n : Nat) (s : ByteArray) : List Ln := cut c n s.size s
theorem cut_nil {c : UInt8} {n : Nat} : ∀ {k : Nat} {s : ByteArray}, s.size = 0 → cut c n k s = []
  | 0, _, _ => rfl
  | k + 1, s, h => by simp [cut, h]
theorem cut_step {c : UInt8} {n k : Nat} {s : ByteArray} (h : 0 < s.size) : cut c n (k + 1) s = ln c (s.extract 0 (min n s.size)) :: cut c n k (s.extract (min n s.size) s.size) := by
  rw [cut, if_neg (by omega)]
theorem rest_size (s : ByteArray) (n : Nat) (h : n ≤ s.size) : (s.extract n s.size).size = s.size - n := extract_size s n s.size (Nat.le_refl _)
theorem cut_len (c : UInt8) (n : Nat) (hn : 0 < n) : ∀ (k : Nat) (s : ByteArray), (cut c n k s).length ≤ s.size
  | 0, _ => Nat.zero_le _
  | k + 1, s => by
    by_cases h : s.size = 0
    · rw [cut_nil h]; simp
    · rw [cut_step (by omega), List.length_cons]
      have h1 := cut_len c n hn k (s.extract (min n s.size) s.size)
      rw [rest_size s _ (by omega)] at h1
      omega
theorem put_len (c : UInt8) (n : Nat) (hn : 0 < n) (s : ByteArray) : (put c n s).length ≤ s.size := cut_len c n hn _ s
theorem extract_extract (s : ByteArray) (j a b : Nat) (hb : b ≤ s.size - j) (hj : j ≤ s.size) : (s.extract j s.size).extract a b = s.extract (j + a) (j + b) := by
  apply bytes_ext
  rw [extract_data, extract_data, extract_data]
  have hl := size_list s
  rw [List.take_of_length_le (l := List.drop j _) (by rw [List.length_drop]; omega), List.drop_drop]
  congr 1; omega
/-- The next piece, of the stream's rest that begins at j. -/
theorem cut_at {c : UInt8} {n k j i : Nat} {s : ByteArray} (hj : j < i) (hi : i ≤ s.size) (he : i - j = min n (s.size - j)) :
    cut c n (k + 1) (s.extract j s.size) = ln c (s.extract j i) :: cut c n k (s.extract i s.size) := by
  have h1 := rest_size s j (by omega)
  rw [cut_step (by omega), h1, ← he, extract_extract s j _ _ (by omega) (by omega), extract_extract s j _ _ (by omega) (by omega)]
  rw [show j + 0 = j by omega, show j + (i - j) = i by omega, show j + (s.size - j) = s.size by omega]
theorem extract_push (s : ByteArray) (j i : Nat) (hj : j ≤ i) (hi : i < s.size) : s.extract j i ++ s.extract i (i + 1) = s.extract j (i + 1) := by
  apply bytes_ext
  rw [data_append, extract_data, extract_data, extract_data, show i + 1 - j = (i - j) + 1 by omega, List.take_add, List.drop_drop, show j + (i - j) = i by omega, show i + 1 - i = 1 by omega]
theorem all_extract (s : ByteArray) : s.extract 0 s.size = s := by
  apply bytes_ext
  rw [extract_data, List.drop_zero, Nat.sub_zero, ← size_list, List.take_length]
theorem extract_nil (s : ByteArray) (i : Nat) : s.extract i i = .empty := by
  apply bytes_ext
  rw [extract_data]; simp

/-! ### Get -/
/-- The byte that a line's payload begins with. -/
def ch (p : Ln) : Nat := (p.load.data.toList.getD 0 0).toNat
/-- The bytes behind it. -/
def tl (p : Ln) : List UInt8 := p.load.data.toList.drop 1
/-- Is it a line of a channel? -/
def okl (p : Ln) : Bool := decide (p.kind = 0) && (decide (2 ≤ p.load.size) && (decide (p.load.size ≤ 1000) && (decide (1 ≤ ch p) && decide (ch p ≤ 3))))
theorem okl_iff (p : Ln) : okl p = true ↔ p.kind = 0 ∧ 2 ≤ p.load.size ∧ p.load.size ≤ 1000 ∧ 1 ≤ ch p ∧ ch p ≤ 3 := by simp [okl]
/-- A channel's stream. -/
def strm (d : Nat) (L : List Ln) : List UInt8 := L.flatMap fun p => if ch p = d then tl p else []
theorem strm_append (d : Nat) (A B : List Ln) : strm d (A ++ B) = strm d A ++ strm d B := by simp [strm]
theorem strm_one (d : Nat) (p : Ln) : strm d [p] = if ch p = d then tl p else [] := by simp [strm]
theorem strm_nil (d : Nat) : strm d [] = [] := rfl
theorem strm_len (d : Nat) : ∀ (L : List Ln), (∀ p ∈ L, p.load.size ≤ 1000) → (strm d L).length ≤ 1000 * L.length
  | [], _ => by simp [strm]
  | p :: L, h => by
    have h1 := strm_len d L (fun q hq => h q (List.mem_cons_of_mem _ hq))
    have h2 := h p List.mem_cons_self
    have h3 : (tl p).length ≤ 1000 := by simp only [tl, List.length_drop, size_list]; omega
    rw [show p :: L = [p] ++ L from rfl, strm_append, strm_one, List.length_append, List.length_append]
    split <;> simp <;> omega
theorem tl_ne {p : Ln} (h : okl p = true) : tl p ≠ [] := fun e => by
  rw [okl_iff] at h
  have h1 : (tl p).length = p.load.size - 1 := by simp [tl, size_list]
  rw [e] at h1
  simp at h1; omega
theorem tl_extract (p : Ln) : (p.load.extract 1 p.load.size).data.toList = tl p := by
  rw [extract_data, tl, List.take_of_length_le]
  rw [List.length_drop, size_list]
  omega
theorem strm_empty {d : Nat} {L : List Ln} (h : ∀ p ∈ L, ch p ≠ d) : strm d L = [] := by
  rw [strm, List.flatMap_eq_nil_iff]
  intro p hp
  rw [if_neg (h p hp)]
theorem strm_ne {d : Nat} {L : List Ln} {p : Ln} (hp : p ∈ L) (hd : ch p = d) (h : okl p = true) : strm d L ≠ [] := fun e => by
  rw [strm, List.flatMap_eq_nil_iff] at e
  have := e p hp
  rw [if_pos hd] at this
  exact tl_ne h this

/-! ### Of what is put just that is got -/
theorem ch_ln (c : UInt8) (p : ByteArray) : ch (ln c p) = c.toNat := by simp [ch, ln, data_append]
theorem tl_ln (c : UInt8) (p : ByteArray) : tl (ln c p) = p.data.toList := by simp [tl, ln, data_append]
theorem size_ln (c : UInt8) (p : ByteArray) : (ln c p).load.size = 1 + p.size := by
  simp only [ln]; rw [ByteArray.size_append]; rfl
theorem cut_mem {c : UInt8} {n : Nat} (hn : 0 < n) : ∀ {k : Nat} {s : ByteArray} {p : Ln}, p ∈ cut c n k s → ∃ q : ByteArray, p = ln c q ∧ 0 < q.size ∧ q.size ≤ n
  | 0, _, _, h => by simp [cut] at h
  | k + 1, s, p, h => by
    by_cases h0 : s.size = 0
    · rw [cut_nil h0] at h; cases h
    · rw [cut_step (by omega)] at h
      rcases List.mem_cons.1 h with rfl | h
      · exact ⟨_, rfl, by rw [extract_size _ _ _ (by omega)]; omega, by rw [extract_size _ _ _ (by omega)]; omega⟩
      · exact cut_mem hn h
theorem put_mem {c : UInt8} {n : Nat} {s : ByteArray} {p : Ln} (hc : 1 ≤ c.toNat ∧ c.toNat ≤ 3) (hn : 0 < n) (h9 : n ≤ 999) (h : p ∈ put c n s) : okl p = true ∧ ch p = c.toNat := by
  obtain ⟨q, rfl, h1, h2⟩ := cut_mem hn h
  refine ⟨?_, ch_ln _ _⟩
  rw [okl_iff, ch_ln, size_ln]
  exact ⟨rfl, by omega, by omega, hc⟩
theorem cut_strm (c : UInt8) (n : Nat) (hn : 0 < n) : ∀ (k : Nat) (s : ByteArray), s.size ≤ k → strm c.toNat (cut c n k s) = s.data.toList
  | 0, s, h => by
    have : s.data.toList.length = 0 := by rw [size_list]; omega
    rw [List.eq_nil_of_length_eq_zero this]; rfl
  | k + 1, s, h => by
    by_cases h0 : s.size = 0
    · have : s.data.toList.length = 0 := by rw [size_list]; omega
      rw [cut_nil h0, List.eq_nil_of_length_eq_zero this]; rfl
    · rw [cut_step (by omega), show ∀ (a : Ln) l, a :: l = [a] ++ l from fun _ _ => rfl, strm_append, strm_one, if_pos (ch_ln _ _), tl_ln,
        cut_strm c n hn k _ (by rw [rest_size s _ (by omega)]; omega), extract_data, extract_data]
      have hl := size_list s
      rw [List.drop_zero, Nat.sub_zero, List.take_of_length_le (l := List.drop _ _) (by rw [List.length_drop]; omega), List.take_append_drop]
theorem put_strm (c : UInt8) (n : Nat) (hn : 0 < n) (s : ByteArray) : strm c.toNat (put c n s) = s.data.toList := cut_strm c n hn _ s (Nat.le_refl _)

end Pk
end Go.Proofs.Ytaaemdmeicjnbaa
