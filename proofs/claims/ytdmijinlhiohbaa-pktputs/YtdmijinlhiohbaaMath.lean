/-
  MATHEMATICS OF LAYER 7: lines of bytes with four figures ahead (no program). Of what is put just that is got; of what is got just that is put.
-/
import Derived.Test.YtdmijinlhiohbaaProg
import Derived.Lib.Hide
import Derived.Laws.Strings
import Derived.WalkKit
import Derived.WalkSpells
import Derived.WalkLawsBesides
import Derived.Lib.ConvBytes
namespace Go.Proofs.Ytdmijinlhiohbaa
set_option linter.unusedVariables false
set_option linter.unusedSimpArgs false
namespace Pk

/-- A line. -/
structure Ln where
  kind : Int
  load : ByteArray
theorem Ln.ext' {a b : Ln} (h1 : a.kind = b.kind) (h2 : a.load = b.load) : a = b := by cases a; cases b; simp_all

theorem size_list (b : ByteArray) : b.data.toList.length = b.size := rfl
theorem bytes_ext {a b : ByteArray} (h : a.data.toList = b.data.toList) : a = b := by
  cases a; cases b; simp only at h; rw [Array.toList_inj.1 h]
theorem extract_data (s : ByteArray) (a b : Nat) : (s.extract a b).data.toList = (s.data.toList.drop a).take (b - a) := by
  rw [← ByteArray.toList_eq, show s.extract a b = (ByteArray.mk s.data.toList.toArray).extract a b by simp, ByteArray.extract_mk, ByteArray.toList_eq]

/-! ### Figures -/
def hexd (n : Nat) : UInt8 := UInt8.ofNat (if n < 10 then 48 + n else 87 + n)
def figs : ByteArray := ⟨#[48, 49, 50, 51, 52, 53, 54, 55, 56, 57, 97, 98, 99, 100, 101, 102]⟩
/-- The number of a figure; below 0: it is none. -/
def unfig (c : UInt8) : Int := if 48 ≤ c.toNat ∧ c.toNat < 58 then (c.toNat : Int) - 48 else if 97 ≤ c.toNat ∧ c.toNat < 103 then (c.toNat : Int) - 87 else -1
theorem unfig_hexd : ∀ n : Fin 16, unfig (hexd n.val) = (n.val : Int) := by decide +kernel
theorem unfig_hexd' (n : Nat) (h : n < 16) : unfig (hexd n) = n := unfig_hexd ⟨n, h⟩
theorem unfig_all : ∀ c : Fin 256, 0 ≤ unfig (UInt8.ofNat c.val) → unfig (UInt8.ofNat c.val) < 16 ∧ hexd (unfig (UInt8.ofNat c.val)).toNat = UInt8.ofNat c.val := by decide +kernel
theorem unfig_at (c : UInt8) (h : 0 ≤ unfig c) : unfig c < 16 ∧ hexd (unfig c).toNat = c := by
  have h1 := unfig_all ⟨c.toNat, c.toNat_lt⟩
  rw [show UInt8.ofNat (Fin.mk c.toNat c.toNat_lt).val = c by simp] at h1
  exact h1 h
theorem unfig_lt (c : UInt8) : -1 ≤ unfig c ∧ unfig c < 16 := by
  unfold unfig; split
  · omega
  · split <;> omega

/-- A number's four figures. -/
def fig (n : Nat) : List UInt8 := [hexd (n / 4096), hexd (n / 256 % 16), hexd (n / 16 % 16), hexd (n % 16)]
theorem fig_length (n : Nat) : (fig n).length = 4 := rfl

/-- What the first k figures come to. -/
def val (l : List UInt8) : Nat → Nat
  | 0 => 0
  | k + 1 => val l k * 16 + (unfig (l.getD k 0)).toNat
/-- Whether the first k bytes are figures. -/
def good (l : List UInt8) : Nat → Bool
  | 0 => true
  | k + 1 => good l k && decide (0 ≤ unfig (l.getD k 0))
theorem val_lt (l : List UInt8) : ∀ k, val l k < 16 ^ k
  | 0 => Nat.one_pos
  | k + 1 => by
    have := val_lt l k
    have h2 := unfig_lt (l.getD k 0)
    rw [val, Nat.pow_succ]; omega
theorem good_down (l : List UInt8) (j k : Nat) (h : good l (j + k) = true) : good l j = true := by
  induction k with
  | zero => exact h
  | succ k ih =>
    rw [show j + (k + 1) = (j + k) + 1 by omega, good, Bool.and_eq_true] at h
    exact ih h.1

/-- The number that a text begins with. -/
def rd (l : List UInt8) : Option Nat := if 4 ≤ l.length ∧ good l 4 = true then some (val l 4) else none
theorem rd_some {l : List UInt8} {n : Nat} (h : rd l = some n) : 4 ≤ l.length ∧ n < 65536 ∧ l.take 4 = fig n := by
  unfold rd at h
  split at h
  · rename_i hh
    obtain ⟨h4, hg⟩ := hh
    simp only [Option.some.injEq] at h
    match l, h4 with
    | a :: b :: c :: d :: r, h4 =>
      simp only [good, Bool.true_and, Bool.and_eq_true, decide_eq_true_eq] at hg
      obtain ⟨⟨⟨ga, gb⟩, gc⟩, gd⟩ := hg
      have ga' : 0 ≤ unfig a := ga
      have gb' : 0 ≤ unfig b := gb
      have gc' : 0 ≤ unfig c := gc
      have gd' : 0 ≤ unfig d := gd
      obtain ⟨a1, a2⟩ := unfig_at a ga'
      obtain ⟨b1, b2⟩ := unfig_at b gb'
      obtain ⟨c1, c2⟩ := unfig_at c gc'
      obtain ⟨d1, d2⟩ := unfig_at d gd'
      have hv : n = (((unfig a).toNat * 16 + (unfig b).toNat) * 16 + (unfig c).toNat) * 16 + (unfig d).toNat := by
        rw [← h]; simp [val]
      refine ⟨h4, by omega, ?_⟩
      unfold fig
      rw [show n / 4096 = (unfig a).toNat by omega, show n / 256 % 16 = (unfig b).toNat by omega, show n / 16 % 16 = (unfig c).toNat by omega, show n % 16 = (unfig d).toNat by omega, a2, b2, c2, d2]
      rfl
  · cases h
theorem rd_fig {l : List UInt8} {n : Nat} (hn : n < 65536) (h : l.take 4 = fig n) : rd l = some n := by
  have hl : 4 ≤ l.length := by
    have := congrArg List.length h
    rw [List.length_take, fig_length] at this; omega
  match l, hl with
  | a :: b :: c :: d :: r, hl =>
    simp only [fig, List.take_succ_cons, List.take_zero, List.cons.injEq, and_true] at h
    obtain ⟨rfl, rfl, rfl, rfl⟩ := h
    have h0 := unfig_hexd' (n / 4096) (by omega)
    have h1 := unfig_hexd' (n / 256 % 16) (by omega)
    have h2 := unfig_hexd' (n / 16 % 16) (by omega)
    have h3 := unfig_hexd' (n % 16) (by omega)
    unfold rd
    rw [if_pos]
    · congr 1
      simp only [val, List.getD_cons_zero, List.getD_cons_succ, h0, h1, h2, h3]
      omega
    · refine ⟨hl, ?_⟩
      simp only [good, List.getD_cons_zero, List.getD_cons_succ, h0, h1, h2, h3, Bool.true_and, Bool.and_eq_true, decide_eq_true_eq]
      omega
theorem fig_inj {n m : Nat} (hn : n < 65536) (hm : m < 65536) (h : fig n = fig m) : n = m := by
  have h1 := rd_fig (l := fig n) hn rfl
  have h2 := rd_fig (l := fig n) hm (by rw [h]; rfl)
  rw [h1] at h2; exact Option.some.inj h2

/-! ### A line -/
def fine (p : Ln) : Bool := decide (p.kind = 0 ∧ p.load.size ≤ 1000) || decide ((p.kind = 1 ∨ p.kind = 2) ∧ p.load.size = 0)
/-- The number that a line's figures give. -/
def hd (p : Ln) : Nat := if p.kind = 1 then 0 else if p.kind = 2 then 1 else 4 + p.load.size
def enc (p : Ln) : List UInt8 := fig (hd p) ++ p.load.data.toList
theorem enc_length (p : Ln) : (enc p).length = 4 + p.load.size := by simp [enc, fig_length]
theorem fine_iff (p : Ln) : fine p = true ↔ (p.kind = 0 ∧ p.load.size ≤ 1000) ∨ ((p.kind = 1 ∨ p.kind = 2) ∧ p.load.size = 0) := by
  simp [fine]
theorem empty_of {b : ByteArray} (h : b.size = 0) : b = .empty := by
  apply bytes_ext
  have : b.data.toList.length = 0 := h
  rw [List.eq_nil_of_length_eq_zero this]; rfl

def get (s : ByteArray) : Option (Ln × Nat) :=
  match rd s.data.toList with
  | none => none
  | some n => if n = 0 then some (⟨1, .empty⟩, 4) else if n = 1 then some (⟨2, .empty⟩, 4) else if 4 ≤ n ∧ n ≤ 1004 ∧ n ≤ s.size then some (⟨0, s.extract 4 n⟩, n) else none
theorem get_none_rd {s : ByteArray} (h : rd s.data.toList = none) : get s = none := by unfold get; rw [h]
theorem get_of_rd {s : ByteArray} {n : Nat} (h : rd s.data.toList = some n) : get s = if n = 0 then some (⟨1, .empty⟩, 4) else if n = 1 then some (⟨2, .empty⟩, 4) else if 4 ≤ n ∧ n ≤ 1004 ∧ n ≤ s.size then some (⟨0, s.extract 4 n⟩, n) else none := by unfold get; rw [h]

theorem get_bd {s : ByteArray} {p : Ln} {n : Nat} (h : get s = some (p, n)) : 4 ≤ n ∧ n ≤ s.size ∧ p.load.size ≤ 1000 := by
  cases hr : rd s.data.toList with
  | none => rw [get_none_rd hr] at h; cases h
  | some m =>
    have h4 := (rd_some hr).1
    rw [size_list] at h4
    rw [get_of_rd hr] at h
    split at h
    · cases h; exact ⟨by omega, by omega, by decide⟩
    · split at h
      · cases h; exact ⟨by omega, by omega, by decide⟩
      · split at h
        · rename_i hh
          cases h
          refine ⟨hh.1, hh.2.2, ?_⟩
          simp only [ByteArray.size_extract]; omega
        · cases h
theorem get_inv {s : ByteArray} {p : Ln} {n : Nat} (h : get s = some (p, n)) : fine p = true ∧ n = (enc p).length ∧ s.data.toList = enc p ++ (s.extract n s.size).data.toList := by
  have hbd := get_bd h
  cases hr : rd s.data.toList with
  | none => rw [get_none_rd hr] at h; cases h
  | some m =>
    obtain ⟨h4, hm, ht⟩ := rd_some hr
    rw [size_list] at h4
    rw [get_of_rd hr] at h
    have hdrop : ∀ k, (s.extract k s.size).data.toList = s.data.toList.drop k := fun k => by
      rw [extract_data, List.take_of_length_le]; simp
    split at h
    · rename_i h0
      subst h0; cases h
      refine ⟨by decide, rfl, ?_⟩
      rw [hdrop]
      show _ = (fig 0 ++ []) ++ _
      rw [List.append_nil, ← ht, List.take_append_drop]
    · split at h
      · rename_i h0 h1
        subst h1; cases h
        refine ⟨by decide, rfl, ?_⟩
        rw [hdrop]
        show _ = (fig 1 ++ []) ++ _
        rw [List.append_nil, ← ht, List.take_append_drop]
      · split at h
        · rename_i h0 h1 hh
          cases h
          have hsz : (s.extract 4 n).size = n - 4 := by simp only [ByteArray.size_extract]; omega
          refine ⟨?_, ?_, ?_⟩
          · rw [fine_iff]; exact .inl ⟨rfl, by simp only [hsz]; omega⟩
          · rw [enc_length]; simp only [hsz]; omega
          · rw [hdrop]
            show _ = (fig (4 + (s.extract 4 n).size) ++ (s.extract 4 n).data.toList) ++ _
            rw [hsz, show 4 + (n - 4) = n by omega, ← ht, extract_data]
            rw [List.append_assoc]
            have e1 : s.data.toList.drop n = (s.data.toList.drop 4).drop (n - 4) := by rw [List.drop_drop]; congr 1; omega
            rw [e1, List.take_append_drop, List.take_append_drop]
        · cases h
theorem get_enc (p : Ln) (hp : fine p = true) (s : ByteArray) (r : List UInt8) (hs : s.data.toList = enc p ++ r) : get s = some (p, (enc p).length) := by
  rw [fine_iff] at hp
  have hsz : s.size = (enc p).length + r.length := by rw [← size_list, hs, List.length_append]
  have hl := enc_length p
  have ht : s.data.toList.take 4 = fig (hd p) := by
    rw [hs, enc, List.append_assoc, List.take_append_of_le_length (Nat.le_of_eq (fig_length _).symm), List.take_of_length_le (Nat.le_of_eq (fig_length _))]
  rcases hp with ⟨h0, h1⟩ | ⟨h0, h1⟩
  · have hh : hd p = 4 + p.load.size := by unfold hd; rw [if_neg (by omega), if_neg (by omega)]
    rw [hh] at ht
    have hr := rd_fig (by omega) ht
    rw [get_of_rd hr, if_neg (by omega), if_neg (by omega), if_pos ⟨by omega, by omega, by omega⟩]
    congr 1
    rw [hl]
    congr 1
    refine Ln.ext' h0.symm (bytes_ext ?_)
    rw [extract_data, hs, enc, hh, List.append_assoc, List.drop_append_of_le_length (Nat.le_of_eq (fig_length _).symm), List.drop_of_length_le (Nat.le_of_eq (fig_length _)), List.nil_append, List.take_append_of_le_length (by rw [size_list]; omega), List.take_of_length_le (by rw [size_list]; omega)]
  · have he := empty_of h1
    rcases h0 with h0 | h0
    · have hh : hd p = 0 := by unfold hd; rw [if_pos h0]
      rw [hh] at ht
      rw [get_of_rd (rd_fig (by omega) ht), if_pos rfl, hl, h1]
      congr 1; congr 1
      exact Ln.ext' h0.symm he.symm
    · have hh : hd p = 1 := by unfold hd; rw [if_neg (by omega), if_pos h0]
      rw [hh] at ht
      rw [get_of_rd (rd_fig (by omega) ht), if_neg (by decide), if_pos rfl, hl, h1]
      congr 1; congr 1
      exact Ln.ext' h0.symm he.symm
/-- The document's way: the first number whose figures stand ahead. -/
theorem get_at {s : ByteArray} {n : Nat} (h : s.data.toList.take 4 = fig n) (h4 : 4 ≤ n) (h1 : n ≤ 1004) (hs : n ≤ s.size) : get s = some (⟨0, s.extract 4 n⟩, n) := by
  rw [get_of_rd (rd_fig (by omega) h), if_neg (by omega), if_neg (by omega), if_pos ⟨h4, h1, hs⟩]
theorem get_zero {s : ByteArray} (h : s.data.toList.take 4 = fig 0) : get s = some (⟨1, .empty⟩, 4) := by
  rw [get_of_rd (rd_fig (by omega) h), if_pos rfl]
theorem get_one {s : ByteArray} (h : s.data.toList.take 4 = fig 1) : get s = some (⟨2, .empty⟩, 4) := by
  rw [get_of_rd (rd_fig (by omega) h), if_neg (by decide), if_pos rfl]
theorem get_short {s : ByteArray} (h : s.size < 4) : get s = none := by
  refine get_none_rd ?_
  unfold rd
  rw [if_neg]
  rw [size_list]; omega
theorem get_no {s : ByteArray} (h0 : s.data.toList.take 4 ≠ fig 0) (h1 : s.data.toList.take 4 ≠ fig 1) (h : ∀ n, 4 ≤ n → n ≤ 1004 → n ≤ s.size → s.data.toList.take 4 ≠ fig n) : get s = none := by
  cases hr : rd s.data.toList with
  | none => exact get_none_rd hr
  | some m =>
    obtain ⟨h4, hm, ht⟩ := rd_some hr
    rw [get_of_rd hr]
    split
    · rename_i h'; subst h'; exact absurd ht h0
    · split
      · rename_i h'; subst h'; exact absurd ht h1
      · split
        · rename_i h'; exact absurd ht (h m h'.1 h'.2.1 h'.2.2)
        · rfl

/-! ### Lines -/
def all : Nat → ByteArray → Option (List Ln)
  | 0, _ => some []
  | k + 1, s => if s.size = 0 then some [] else match get s with
    | none => none
    | some (p, n) => (all k (s.extract n s.size)).map (p :: ·)
theorem all_nil (k : Nat) : all k .empty = some [] := by cases k <;> rfl
theorem all_bad {k : Nat} {s : ByteArray} (hk : s.size ≤ k) (hs : s.size ≠ 0) (h : get s = none) : all k s = none := by
  obtain ⟨k, rfl⟩ : ∃ k', k = k' + 1 := ⟨k - 1, by omega⟩
  rw [all, if_neg hs, h]
theorem all_step {k : Nat} {s : ByteArray} {p : Ln} {n : Nat} (hs : s.size ≠ 0) (h : get s = some (p, n)) : all (k + 1) s = (all k (s.extract n s.size)).map (p :: ·) := by
  rw [all, if_neg hs, h]
theorem map_push (o : Option (List Ln)) (acc : List Ln) (p : Ln) : (o.map (p :: ·)).map (acc ++ ·) = o.map ((acc ++ [p]) ++ ·) := by
  cases o <;> simp
theorem rest_size {s : ByteArray} {p : Ln} {n : Nat} (h : get s = some (p, n)) : (s.extract n s.size).size = s.size - n ∧ 4 ≤ n ∧ n ≤ s.size := by
  have := get_bd h
  refine ⟨?_, this.1, this.2.1⟩
  simp only [ByteArray.size_extract]; omega
theorem all_inv : ∀ (k : Nat) (s : ByteArray) (L : List Ln), s.size ≤ k → all k s = some L → L.all fine = true ∧ L.flatMap enc = s.data.toList ∧ L.length * 4 ≤ s.size ∧ ∀ p ∈ L, p.load.size ≤ 1000
  | 0, s, L, hk, h => by
    simp only [all, Option.some.injEq] at h
    subst h
    refine ⟨rfl, ?_, by simp, by simp⟩
    rw [empty_of (show s.size = 0 by omega)]; rfl
  | k + 1, s, L, hk, h => by
    by_cases hs : s.size = 0
    · rw [empty_of hs, all_nil] at h
      cases h
      refine ⟨rfl, ?_, by simp, by simp⟩
      rw [empty_of hs]; rfl
    · cases hg : get s with
      | none => rw [all_bad hk hs hg] at h; cases h
      | some q =>
        obtain ⟨p, n⟩ := q
        rw [all_step hs hg] at h
        obtain ⟨h1, h2, h3⟩ := rest_size hg
        cases hq : all k (s.extract n s.size) with
        | none => rw [hq] at h; cases h
        | some M =>
          rw [hq] at h
          simp only [Option.map_some, Option.some.injEq] at h
          subst h
          obtain ⟨i1, i2, i3, i4⟩ := all_inv k _ M (by omega) hq
          obtain ⟨g1, g2, g3⟩ := get_inv hg
          refine ⟨by rw [List.all_cons, g1, i1]; rfl, ?_, ?_, ?_⟩
          · rw [List.flatMap_cons, i2]; exact g3.symm
          · rw [List.length_cons]; omega
          · intro x hx
            rcases List.mem_cons.1 hx with rfl | hx
            · exact (get_bd hg).2.2
            · exact i4 x hx
theorem all_enc : ∀ (L : List Ln) (k : Nat) (s : ByteArray), s.size ≤ k → L.all fine = true → s.data.toList = L.flatMap enc → all k s = some L
  | [], k, s, hk, hf, hs => by
    have : s = .empty := bytes_ext (by rw [hs]; rfl)
    rw [this]; exact all_nil k
  | p :: L, k, s, hk, hf, hs => by
    rw [List.all_cons, Bool.and_eq_true] at hf
    rw [List.flatMap_cons] at hs
    have hg := get_enc p hf.1 s _ hs
    obtain ⟨h1, h2, h3⟩ := rest_size hg
    have hz : s.size ≠ 0 := by omega
    obtain ⟨k, rfl⟩ : ∃ k', k = k' + 1 := ⟨k - 1, by omega⟩
    rw [all_step hz hg, all_enc L k _ (by omega) hf.2 ?_]
    · rfl
    · rw [extract_data, hs, List.drop_append_of_le_length (Nat.le_refl _), List.drop_of_length_le (Nat.le_refl _), List.nil_append, List.take_of_length_le]
      rw [← size_list, hs, List.length_append]; omega
end Pk
end Go.Proofs.Ytdmijinlhiohbaa
