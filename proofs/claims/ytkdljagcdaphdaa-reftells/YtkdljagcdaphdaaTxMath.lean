/-
  THE MATHEMATICS OF LAYER 9's TEXTS (no program): a ref's line, refs' text; a text has one list of refs at most.
-/
import Derived.Test.YtkdljagcdaphdaaHx
namespace Go.Proofs.Ytkdljagcdaphdaa
set_option linter.unusedVariables false
set_option linter.unusedSimpArgs false
namespace S2
theorem good_hex (a : List UInt8) (ha : a.length = 32) : goodTo (hexL a) 64 ∧ (List.range 32).map (unpair (hexL a)) = a := by
  have key : ∀ (l : List UInt8) (i : Nat), i < l.length → (hexL l).getD (2 * i) 0 = hexd ((l.getD i 0).toNat / 16) ∧ (hexL l).getD (2 * i + 1) 0 = hexd ((l.getD i 0).toNat % 16) := by
    intro l
    induction l with
    | nil => intro i hi; simp at hi
    | cons x r ih =>
      intro i hi
      match i with
      | 0 => simp [hexL]
      | i + 1 =>
        have := ih i (by simpa using hi)
        have e1 : 2 * (i + 1) = 2 * i + 1 + 1 := by omega
        have e2 : 2 * (i + 1) + 1 = 2 * i + 1 + 1 + 1 := by omega
        rw [e2, e1]
        simpa [hexL] using this
  have uf : ∀ n, n < 16 → unfig (hexd n) = (n : Int) := fun n hn => unfig_hexd ⟨n, hn⟩
  constructor
  · intro j hj
    rcases (show j = 2 * (j / 2) ∨ j = 2 * (j / 2) + 1 by omega) with e | e
    · rw [e, (key a (j / 2) (by omega)).1, uf _ (by have := (a.getD (j / 2) 0).toNat_lt; omega)]; omega
    · rw [e, (key a (j / 2) (by omega)).2, uf _ (by omega)]; omega
  · apply List.ext_getElem (by simp [ha])
    intro i h1 h2
    have hi : i < 32 := by simpa using h1
    simp only [List.getElem_map, List.getElem_range, unpair]
    have hx := (a.getD i 0).toNat_lt
    rw [(key a i (by omega)).1, (key a i (by omega)).2, uf _ (by omega), uf _ (by omega)]
    have e : a[i] = a.getD i 0 := by rw [List.getD_eq_getElem?_getD, List.getElem?_eq_getElem h2]; rfl
    rw [e]
    simp only [Int.toNat_natCast]
    rw [show (a.getD i 0).toNat / 16 * 16 + (a.getD i 0).toNat % 16 = (a.getD i 0).toNat by omega]
    simp
/-- The id that 64 figures are. -/
def unL (l : List UInt8) : List UInt8 := (List.range 32).map (unpair l)
theorem unL_len (l : List UInt8) : (unL l).length = 32 := by simp [unL]
theorem pairs_all : ∀ (n : Nat) (l : List UInt8), l.length = 2 * n → (List.range n).flatMap (fun i => [l.getD (2 * i) 0, l.getD (2 * i + 1) 0]) = l
  | 0, l, h => by
    have : l = [] := List.eq_nil_of_length_eq_zero (by omega)
    simp [this]
  | n + 1, [], h => by simp at h
  | n + 1, [_], h => by simp at h; omega
  | n + 1, x :: y :: t, h => by
    have ih := pairs_all n t (by simp at h; omega)
    rw [List.range_succ_eq_map, List.flatMap_cons, List.flatMap_map]
    have e : (fun i : Nat => [(x :: y :: t).getD (2 * (i + 1)) 0, (x :: y :: t).getD (2 * (i + 1) + 1) 0]) = fun i => [t.getD (2 * i) 0, t.getD (2 * i + 1) 0] := by
      funext i
      rw [show 2 * (i + 1) = 2 * i + 1 + 1 by omega]
      simp
    show [_, _] ++ List.flatMap (fun i : Nat => [(x :: y :: t).getD (2 * (i + 1)) 0, (x :: y :: t).getD (2 * (i + 1) + 1) 0]) (List.range n) = _
    rw [e, ih]
    simp
theorem fm_congr {α β : Type} {f g : α → List β} : ∀ {l : List α}, (∀ x ∈ l, f x = g x) → l.flatMap f = l.flatMap g
  | [], _ => rfl
  | x :: t, h => by rw [List.flatMap_cons, List.flatMap_cons, h x (by simp), fm_congr (fun y hy => h y (by simp [hy]))]
theorem hex_unL (l : List UInt8) (hl : l.length = 64) (hg : goodTo l 64) : hexL (unL l) = l := by
  unfold hexL unL
  rw [List.flatMap_map]
  have h := pairs_all 32 l hl
  refine Eq.trans ?_ h
  refine fm_congr ?_
  intro i hi
  have hi32 : i < 32 := by simpa using hi
  have h1 := hg (2 * i) (by omega)
  have h2 := hg (2 * i + 1) (by omega)
  have r1 := unfig_range (l.getD (2 * i) 0)
  have r2 := unfig_range (l.getD (2 * i + 1) 0)
  have e1 := hexd_unfig (l.getD (2 * i) 0) h1
  have e2 := hexd_unfig (l.getD (2 * i + 1) 0) h2
  have hv : (unpair l i).toNat = (unfig (l.getD (2 * i) 0)).toNat * 16 + (unfig (l.getD (2 * i + 1) 0)).toNat := by
    unfold unpair
    rw [UInt8.toNat_ofNat']
    omega
  rw [hv, show ((unfig (l.getD (2 * i) 0)).toNat * 16 + (unfig (l.getD (2 * i + 1) 0)).toNat) / 16 = (unfig (l.getD (2 * i) 0)).toNat by omega, show ((unfig (l.getD (2 * i) 0)).toNat * 16 + (unfig (l.getD (2 * i + 1) 0)).toNat) % 16 = (unfig (l.getD (2 * i + 1) 0)).toNat by omega, e1, e2]
theorem hexd_no : ∀ n : Fin 16, hexd n.val ≠ 10 ∧ hexd n.val ≠ 32 := by decide
theorem hex_no {a : List UInt8} {c : UInt8} (h : c ∈ hexL a) : c ≠ 10 ∧ c ≠ 32 := by
  unfold hexL at h
  obtain ⟨x, _, hx⟩ := List.mem_flatMap.1 h
  have hlt := x.toNat_lt
  simp at hx
  rcases hx with rfl | rfl
  · exact hexd_no ⟨x.toNat / 16, by omega⟩
  · exact hexd_no ⟨x.toNat % 16, by omega⟩
theorem unL_hex (a : List UInt8) (ha : a.length = 32) : unL (hexL a) = a := (good_hex a ha).2
end S2
namespace Rf
open S2

def bodyL (r : R) : List UInt8 := hexL r.id ++ 32 :: r.name.data.toList
def lineL (r : R) : List UInt8 := bodyL r ++ [10]
/-- Refs' text. -/
def textL (L : List R) : List UInt8 := L.flatMap lineL
def Ok32 (L : List R) : Prop := ∀ r ∈ L, r.id.length = 32
theorem first_unique {c : UInt8} : ∀ {A B X Y : List UInt8}, c ∉ A → c ∉ B → A ++ c :: X = B ++ c :: Y → A = B ∧ X = Y
  | [], [], X, Y, _, _, h => by simpa using h
  | [], b :: B, X, Y, _, hB, h => by
    simp at h; exact absurd (by rw [h.1]; simp) hB
  | a :: A, [], X, Y, hA, _, h => by
    simp at h; exact absurd (by rw [← h.1]; simp) hA
  | a :: A, b :: B, X, Y, hA, hB, h => by
    simp at h
    obtain ⟨h1, h2⟩ := first_unique (fun q => hA (by simp [q])) (fun q => hB (by simp [q])) h.2
    exact ⟨by rw [h.1, h1], h2⟩
theorem name_no {n : ByteArray} (h : nameOk n = true) : 10 ∉ n.data.toList ∧ 32 ∉ n.data.toList := by
  unfold nameOk at h
  simp only [Bool.and_eq_true, Bool.not_eq_true'] at h
  have h2 := h.2
  rw [List.any_eq_false] at h2
  exact ⟨fun q => h2 _ q (by decide), fun q => h2 _ q (by decide)⟩
theorem body_no {r : R} (h : okr r = true) : 10 ∉ bodyL r := by
  unfold okr at h
  simp only [Bool.and_eq_true] at h
  intro q
  rcases List.mem_append.1 q with q | q
  · exact (hex_no q).1 rfl
  · rcases List.mem_cons.1 q with q | q
    · exact absurd q (by decide)
    · exact (name_no h.1).1 q
theorem text_cons (r : R) (t : List R) : textL (r :: t) = bodyL r ++ 10 :: textL t := by simp [textL, lineL]
theorem text_snoc (L : List R) (r : R) : textL (L ++ [r]) = textL L ++ (bodyL r ++ [10]) := by simp [textL, lineL]
theorem cons_inv {L : List R} {line rest : List UInt8} (h : ∀ r ∈ L, okr r = true) (hno : 10 ∉ line) (e : textL L = line ++ 10 :: rest) : ∃ r t, L = r :: t ∧ bodyL r = line ∧ textL t = rest := by
  cases L with
  | nil => simp [textL] at e
  | cons r t =>
    rw [text_cons] at e
    obtain ⟨h1, h2⟩ := first_unique (body_no (h r (by simp))) hno e
    exact ⟨r, t, rfl, h1, h2⟩
theorem no_ten {L : List R} (h : 10 ∉ textL L) : L = [] := by
  cases L with
  | nil => rfl
  | cons r t => rw [text_cons] at h; exact absurd (by simp) h
theorem body_inj {r : R} {figs nm : List UInt8} (hno : 32 ∉ figs) (e : bodyL r = figs ++ 32 :: nm) : hexL r.id = figs ∧ r.name.data.toList = nm := first_unique (fun q => (hex_no q).2 rfl) hno e
theorem body_has (r : R) : 32 ∈ bodyL r := by simp [bodyL]
theorem id_inj {a b : List UInt8} (ha : a.length = 32) (hb : b.length = 32) (h : hexL a = hexL b) : a = b := by rw [← unL_hex a ha, h, unL_hex b hb]
/-- The refs that a text is. -/
def Is (s : List UInt8) (L : List R) : Prop := fine L = true ∧ Ok32 L ∧ textL L = s
/-- What is left of a text, whatever refs it is. -/
def Pre (s : List UInt8) (acc : List R) (rest : List UInt8) : Prop := ∀ L, Is s L → ∃ L', L = acc ++ L' ∧ textL L' = rest
theorem Pre.start (s : List UInt8) : Pre s [] s := fun L h => ⟨L, rfl, h.2.2⟩
theorem Is.ok {s : List UInt8} {L : List R} (h : Is s L) : ∀ r ∈ L, okr r = true := ((fine_iff L).1 h.1).2.1
theorem Pre.none {s : List UInt8} {acc : List R} {rest : List UInt8} (h : Pre s acc rest) (h0 : rest ≠ []) (hno : 10 ∉ rest) (L : List R) : ¬ Is s L := fun q => by
  obtain ⟨L', e, ht⟩ := h L q
  rw [← ht] at hno
  rw [no_ten hno] at ht
  exact h0 (by rw [← ht]; rfl)
theorem Pre.line {s : List UInt8} {acc : List R} {line rest : List UInt8} (h : Pre s acc (line ++ 10 :: rest)) (hno : 10 ∉ line) (L : List R) (q : Is s L) : ∃ r t, L = acc ++ r :: t ∧ bodyL r = line ∧ textL t = rest ∧ r.id.length = 32 ∧ okr r = true := by
  obtain ⟨L', e, ht⟩ := h L q
  obtain ⟨r, t, e2, h1, h2⟩ := cons_inv (fun r hr => q.ok r (by rw [e]; simp [hr])) hno ht
  subst e2
  exact ⟨r, t, e, h1, h2, q.2.1 r (by rw [e]; simp), q.ok r (by rw [e]; simp)⟩
theorem Pre.next {s : List UInt8} {acc : List R} {line rest : List UInt8} {x : R} (h : Pre s acc (line ++ 10 :: rest)) (hno : 10 ∉ line) (hx : ∀ r : R, r.id.length = 32 → okr r = true → bodyL r = line → r = x) : Pre s (acc ++ [x]) rest := fun L q => by
  obtain ⟨r, t, e, h1, h2, h3, h4⟩ := h.line hno L q
  have := hx r h3 h4 h1
  subst this
  exact ⟨t, by rw [e]; simp, h2⟩
theorem Pre.bad {s : List UInt8} {acc : List R} {line rest : List UInt8} (h : Pre s acc (line ++ 10 :: rest)) (hno : 10 ∉ line) (hx : ∀ r : R, r.id.length = 32 → okr r = true → bodyL r ≠ line) (L : List R) : ¬ Is s L := fun q => by
  obtain ⟨r, t, e, h1, h2, h3, h4⟩ := h.line hno L q
  exact hx r h3 h4 h1
theorem Pre.fin {s : List UInt8} {acc : List R} {rest : List UInt8} (h : Pre s acc rest) (hno : 10 ∉ rest) {L : List R} (q : Is s L) : L = acc := by
  obtain ⟨L', e, ht⟩ := h L q
  rw [← ht] at hno
  rw [e, no_ten hno, List.append_nil]
theorem r_ext {a b : R} (h1 : a.name.data.toList = b.name.data.toList) (h2 : a.id = b.id) : a = b := by
  cases a; cases b; simp at h1 h2; rw [h2]; congr 1; exact bytes_ext (by simpa using h1)
theorem text_inj : ∀ {L M : List R}, (∀ r ∈ L, okr r = true) → (∀ r ∈ M, okr r = true) → Ok32 L → Ok32 M → textL L = textL M → L = M
  | [], [], _, _, _, _, _ => rfl
  | [], m :: M, _, _, _, _, e => by rw [text_cons] at e; simp [textL] at e
  | l :: L, M, hL, hM, kL, kM, e => by
    rw [text_cons] at e
    obtain ⟨r, t, rfl, h1, h2⟩ := cons_inv hM (body_no (hL l (by simp))) e.symm
    obtain ⟨g1, g2⟩ := body_inj (r := r) (fun q => (hex_no q).2 rfl) h1
    have : l = r := r_ext g2.symm (id_inj (kL l (by simp)) (kM r (by simp)) g1.symm)
    subst this
    rw [text_inj (fun x hx => hL x (by simp [hx])) (fun x hx => hM x (by simp [hx])) (fun x hx => kL x (by simp [hx])) (fun x hx => kM x (by simp [hx])) h2.symm]
theorem Is.uniq {s : List UInt8} {L M : List R} (h : Is s L) (k : Is s M) : L = M := text_inj h.ok k.ok h.2.1 k.2.1 (by rw [h.2.2, k.2.2])
theorem text_len (L : List R) (h : Ok32 L) : 66 * L.length ≤ (textL L).length := by
  induction L with
  | nil => simp
  | cons r t ih =>
    have h1 := ih (fun x hx => h x (by simp [hx]))
    have h2 := hexL_length r.id
    rw [h r (by simp)] at h2
    rw [text_cons]
    simp [bodyL, h2]; omega
theorem text_name {L : List R} {r : R} (h : r ∈ L) : r.name.size ≤ (textL L).length := by
  induction L with
  | nil => cases h
  | cons x t ih =>
    rw [text_cons]
    rcases List.mem_cons.1 h with rfl | h
    · simp [bodyL]; omega
    · have := ih h; simp; omega
theorem text_most (L : List R) (h : Ok32 L) (hn : ∀ r ∈ L, r.name.size ≤ 100) : (textL L).length ≤ 166 * L.length := by
  induction L with
  | nil => simp [textL]
  | cons r t ih =>
    have h1 := ih (fun x hx => h x (by simp [hx])) (fun x hx => hn x (by simp [hx]))
    have h2 := hexL_length r.id
    rw [h r (by simp)] at h2
    have h3 := hn r (by simp)
    rw [text_cons]
    simp [bodyL, h2] at h3 ⊢; omega
end Rf
end Go.Proofs.Ytkdljagcdaphdaa
