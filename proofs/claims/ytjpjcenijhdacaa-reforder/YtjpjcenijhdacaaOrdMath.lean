/-
  THE MATHEMATICS OF LAYER 9: updates that all hold come to the same in the other order.
-/
import Derived.Test.YtjpjcenijhdacaaMath
namespace Go.Proofs.Ytjpjcenijhdacaa
set_option linter.unusedVariables false
set_option linter.unusedSimpArgs false
namespace Rf

theorem hasN_snoc (S : List ByteArray) (a n : ByteArray) : hasN (S ++ [a]) n = (hasN S n || decide (a = n)) := by simp [hasN]
/-- Why an update can't be done, but for the limit. -/
def bad (L : List R) (S : List ByteArray) (u : U) : Prop := ((nameOk u.name = false ∨ (u.old = zid ∧ u.new = zid)) ∨ hasN S u.name = true) ∨ (find L u.name).getD zid ≠ u.old
theorem wrong_zero {L : List R} {S : List ByteArray} {u : U} (h : L.length < 64) : wrong L S u = 0 ↔ ¬ bad L S u := by
  unfold wrong bad
  by_cases h1 : (nameOk u.name = false ∨ (u.old = zid ∧ u.new = zid)) ∨ hasN S u.name = true
  · rw [if_pos h1]; simp [h1]
  · rw [if_neg h1]
    by_cases h2 : (find L u.name).getD zid ≠ u.old
    · rw [if_pos h2]; simp [h2]
    · rw [if_neg h2, if_neg (fun hh => by omega)]
      simp only [true_iff]
      rintro (h | h)
      · exact h1 h
      · exact h2 h
def Good (L : List R) (S : List ByteArray) (us : List U) : Prop := us.Pairwise (fun a b => a.name ≠ b.name) ∧ ∀ u ∈ us, ¬ bad L S u
theorem put_len_le {L : List R} {n : ByteArray} {id : List UInt8} (h : Srt L) : (put L n id).length ≤ L.length + 1 := by
  have := put_len L n id h
  split at this <;> split at this <;> omega
theorem bad_next {L : List R} {S : List ByteArray} {u x : U} (hs : Srt L) (hne : u.name ≠ x.name) : bad (put L u.name u.new) (S ++ [u.name]) x ↔ bad L S x := by
  unfold bad
  have hf := find_put L u.name u.new x.name hs
  rw [if_neg (Ne.symm hne)] at hf
  rw [hf, hasN_snoc]
  simp [hne]
theorem good_run : ∀ (us : List U) (L : List R) (S : List ByteArray), fine L = true → L.length + us.length ≤ 64 → (errs (run L S us).2 = false ↔ Good L S us)
  | [], L, S, hf, hl => by simp [run, errs, Good]
  | u :: t, L, S, hf, hl => by
    have hs := ((fine_iff L).1 hf).2.2
    have hll : L.length < 64 := by simp at hl; omega
    have e : errs (run L S (u :: t)).2 = (!decide (wrong L S u = 0) || errs (run (nxt L S u) (S ++ [u.name]) t).2) := rfl
    rw [e]
    by_cases hw : wrong L S u = 0
    · have hn : nxt L S u = put L u.name u.new := by unfold nxt; rw [if_pos hw]
      have hfn := nxt_fine (seen := S) (u := u) hf
      rw [hn] at hfn ⊢
      have ih := good_run t (put L u.name u.new) (S ++ [u.name]) hfn (by have := put_len_le (n := u.name) (id := u.new) hs; simp at hl; omega)
      simp only [hw, decide_true, Bool.not_true, Bool.false_or]
      rw [ih]
      have hb := (wrong_zero hll).1 hw
      unfold Good
      rw [List.pairwise_cons]
      constructor
      · rintro ⟨h1, h2⟩
        have hne : ∀ x ∈ t, u.name ≠ x.name := fun x hx hh => h2 x hx (.inl (.inr (by rw [hasN_snoc]; simp [hh])))
        refine ⟨⟨hne, h1⟩, fun x hx => ?_⟩
        rcases List.mem_cons.1 hx with rfl | hx
        · exact hb
        · exact fun hh => h2 x hx ((bad_next hs (hne x hx)).2 hh)
      · rintro ⟨⟨hne, h1⟩, h2⟩
        exact ⟨h1, fun x hx hh => h2 x (by simp [hx]) ((bad_next hs (hne x hx)).1 hh)⟩
    · have : (!decide (wrong L S u = 0)) = true := by simp [hw]
      rw [this, Bool.true_or]
      constructor
      · intro h; cases h
      · intro h; exact absurd ((wrong_zero hll).2 (h.2 u (by simp))) hw
def val (u : U) : Option (List UInt8) := if u.new = zid then none else some u.new
def eff : List U → ByteArray → Option (List UInt8) → Option (List UInt8)
  | [], _, d => d
  | u :: t, n, d => if u.name = n then val u else eff t n d
theorem eff_none : ∀ (us : List U) (n : ByteArray) (d : Option (List UInt8)), (∀ u ∈ us, u.name ≠ n) → eff us n d = d
  | [], n, d, _ => rfl
  | u :: t, n, d, h => by unfold eff; rw [if_neg (h u (by simp))]; exact eff_none t n d (fun x hx => h x (by simp [hx]))
theorem eff_mem : ∀ (us : List U) (n : ByteArray) (d : Option (List UInt8)), us.Pairwise (fun a b => a.name ≠ b.name) → ∀ u ∈ us, u.name = n → eff us n d = val u
  | [], n, d, _, u, hu, _ => by simp at hu
  | x :: t, n, d, hp, u, hu, hn => by
    have h2 := List.pairwise_cons.1 hp
    unfold eff
    rcases List.mem_cons.1 hu with rfl | hu
    · rw [if_pos hn]
    · rw [if_neg (fun e => h2.1 u hu (e.trans hn.symm))]
      exact eff_mem t n d h2.2 u hu hn
theorem run_find : ∀ (us : List U) (L : List R) (S : List ByteArray), fine L = true → L.length + us.length ≤ 64 → Good L S us → ∀ n, find (run L S us).1 n = eff us n (find L n)
  | [], L, S, hf, hl, hg, n => rfl
  | u :: t, L, S, hf, hl, hg, n => by
    have hs := ((fine_iff L).1 hf).2.2
    have hll : L.length < 64 := by simp at hl; omega
    have hw := (wrong_zero hll).2 (hg.2 u (by simp))
    have hn : nxt L S u = put L u.name u.new := by unfold nxt; rw [if_pos hw]
    have hfn := nxt_fine (seen := S) (u := u) hf
    have h2 := List.pairwise_cons.1 hg.1
    have e : (run L S (u :: t)).1 = (run (nxt L S u) (S ++ [u.name]) t).1 := rfl
    rw [e, hn]
    rw [hn] at hfn
    rw [run_find t _ _ hfn (by have := put_len_le (n := u.name) (id := u.new) hs; simp at hl; omega) ⟨h2.2, fun x hx hh => hg.2 x (by simp [hx]) ((bad_next hs (h2.1 x hx)).1 hh)⟩ n]
    rw [find_put L u.name u.new n hs]
    show _ = (if u.name = n then val u else eff t n (find L n))
    by_cases hq : n = u.name
    · subst hq
      rw [if_pos rfl, if_pos rfl]
      exact eff_none t _ _ (fun x hx hh => h2.1 x hx hh.symm)
    · rw [if_neg hq, if_neg (Ne.symm hq)]
theorem eff_rev (us : List U) (hp : us.Pairwise (fun a b => a.name ≠ b.name)) (n : ByteArray) (d : Option (List UInt8)) : eff us.reverse n d = eff us n d := by
  have hp2 : us.reverse.Pairwise (fun a b => a.name ≠ b.name) := List.pairwise_reverse.2 (hp.imp (fun h => Ne.symm h))
  by_cases h : ∃ u ∈ us, u.name = n
  · obtain ⟨u, hu, hn⟩ := h
    rw [eff_mem us n d hp u hu hn, eff_mem us.reverse n d hp2 u (by simpa using hu) hn]
  · have h1 : ∀ u ∈ us, u.name ≠ n := fun u hu hn => h ⟨u, hu, hn⟩
    rw [eff_none us n d h1, eff_none us.reverse n d (fun u hu => h1 u (by simpa using hu))]
theorem ext_find : ∀ (A B : List R), Srt A → Srt B → (∀ n, find A n = find B n) → A = B
  | [], [], _, _, _ => rfl
  | [], b :: t, _, _, h => by have := h b.name; simp [find] at this
  | a :: s, [], _, _, h => by have := h a.name; simp [find] at this
  | a :: s, b :: t, ha, hb, h => by
    have h1 := List.pairwise_cons.1 ha
    have h2 := List.pairwise_cons.1 hb
    have hna : ∀ {x y : R} {l : List R}, lt x.name y.name = true → (∀ z ∈ l, lt y.name z.name = true) → find (y :: l) x.name = none := fun hxy hl => find_none.2 (fun r hr e => by
      rcases List.mem_cons.1 hr with rfl | hr
      · rw [e, lt_irrefl] at hxy; cases hxy
      · have := lt_trans hxy (hl r hr); rw [e, lt_irrefl] at this; cases this)
    have hn : a.name = b.name := by
      cases k1 : lt a.name b.name with
      | true =>
        have := h a.name
        rw [hna k1 h2.1] at this; simp [find] at this
      | false =>
        cases k2 : lt b.name a.name with
        | true =>
          have := h b.name
          rw [hna k2 h1.1] at this; simp [find] at this
        | false => exact lt_tri k1 k2
    have hi : a.id = b.id := by
      have := h a.name
      simp [find, hn] at this; exact this
    have hab : a = b := by cases a; cases b; simp_all
    subst hab
    rw [ext_find s t h1.2 h2.2 (fun n => by
      have := h n
      unfold find at this
      by_cases hq : a.name = n
      · subst hq
        rw [find_none.2 (fun r hr e => lt_ne (h1.1 r hr) e.symm), find_none.2 (fun r hr e => lt_ne (h2.1 r hr) e.symm)]
      · rwa [if_neg hq, if_neg hq] at this)]
/-- The other order. -/
theorem upd_rev {L : List R} {us : List U} (hf : fine L = true) (hl : L.length + us.length ≤ 64) (he : errs (run L [] us).2 = false) : (upd L us.reverse true).1 = (upd L us true).1 := by
  have hg := (good_run us L [] hf hl).1 he
  have hg2 : Good L [] us.reverse := ⟨List.pairwise_reverse.2 (hg.1.imp (fun h => Ne.symm h)), fun u hu => hg.2 u (by simpa using hu)⟩
  have he2 := (good_run us.reverse L [] hf (by simpa using hl)).2 hg2
  unfold upd
  rw [he, he2]
  simp only [Bool.and_false, Bool.false_eq_true, if_false]
  refine ext_find _ _ ((fine_iff _).1 (run_fine _ _ _ hf)).2.2 ((fine_iff _).1 (run_fine _ _ _ hf)).2.2 (fun n => ?_)
  rw [run_find _ _ _ hf (by simpa using hl) hg2 n, run_find _ _ _ hf hl hg n, eff_rev us hg.1]
theorem mark_ne (e : Nat) : mark e ≠ 0 := by unfold mark; split <;> omega
theorem upd_errs {L : List R} {us : List U} (he : errs (run L [] us).2 = true) : (upd L us true).1 = L ∧ (∀ e ∈ (upd L us true).2, e ≠ 0) ∧ 0 < us.length := by
  unfold upd
  rw [he]
  refine ⟨rfl, fun e hx => ?_, ?_⟩
  · simp at hx
    obtain ⟨x, _, rfl⟩ := hx
    exact mark_ne x
  · rcases us with _ | ⟨u, t⟩
    · simp [run, errs] at he
    · simp
theorem upd_none {L : List R} {us : List U} (he : errs (run L [] us).2 = false) : ∀ e ∈ (upd L us true).2, e = 0 := by
  unfold upd
  rw [he]
  intro e hx
  have hx' : e ∈ (run L [] us).2 := by simpa using hx
  unfold errs at he
  have := List.any_eq_false.1 he e hx'
  simpa using this

end Rf
end Go.Proofs.Ytjpjcenijhdacaa
