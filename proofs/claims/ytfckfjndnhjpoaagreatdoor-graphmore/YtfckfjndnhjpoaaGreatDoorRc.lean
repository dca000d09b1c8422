/-
  LAYER 12: what a heap is (mathematics).
-/
import Derived.Lib.Hide
import Derived.Test.YtfckfjndnhjpoaaGreatDoorQk
import Derived.Shelf.SlSortCmp.KitK
import Derived.Test.YtfckfjndnhjpoaaGreatDoorQa
set_option linter.unusedVariables false
set_option linter.unusedSimpArgs false
set_option maxHeartbeats 8000000
set_option maxRecDepth 100000
section
namespace Go.Proofs.YtfckfjndnhjpoaaGreatDoor
structure Hp.Ord {α : Type} (lt : α → α → Bool) : Prop where
 asy : ∀ a b, lt a b = true → lt b a = false
 nt : ∀ a b c, lt a b = false → lt b c = false → lt a c = false
theorem Hp.Ord.tr {α : Type} {lt : α → α → Bool} (h : Hp.Ord lt) {a b c : α} (h1 : lt a c = true) (h2 : lt b c = false) : lt b a = false := by
 cases hb : lt b a with
 | false => rfl
 | true =>
   have := h.nt _ _ _ (h.asy _ _ hb) (h2)
   rw [h1] at this; cases this
def Hp.sw {α : Type} (f : Nat → α) (i j : Nat) : Nat → α := fun k => if k = i then f j else if k = j then f i else f k
def Hp.Is {α : Type} (lt : α → α → Bool) (f : Nat → α) (n : Nat) : Prop := ∀ k, 0 < k → k < n → lt (f k) (f ((k - 1) / 2)) = false
def Hp.Up {α : Type} (lt : α → α → Bool) (f : Nat → α) (n j : Nat) : Prop :=
 j < n ∧ (∀ k, 0 < k → k < n → k ≠ j → lt (f k) (f ((k - 1) / 2)) = false) ∧ ∀ k, 0 < k → k < n → (k - 1) / 2 = j → 0 < j → lt (f k) (f ((j - 1) / 2)) = false
theorem Hp.Up.start {α : Type} {lt : α → α → Bool} {f : Nat → α} {n : Nat} (h : Hp.Is lt f n) : Hp.Up lt f (n + 1) n :=
 ⟨by omega, fun k h0 h1 h2 => h k h0 (by omega), fun k h0 h1 h2 h3 => by omega⟩
theorem Hp.Up.end_ {α : Type} {lt : α → α → Bool} {f : Nat → α} {n j : Nat} (h : Hp.Up lt f n j) (hj : j = 0 ∨ lt (f j) (f ((j - 1) / 2)) = false) : Hp.Is lt f n := fun k h0 h1 => by
 by_cases hk : k = j
 ·
  subst hk
  rcases hj with h2 | h2
  · omega
  · exact h2
 · exact h.2.1 k h0 h1 hk
theorem Hp.Up.step {α : Type} {lt : α → α → Bool} (ho : Hp.Ord lt) {f : Nat → α} {n j : Nat} (h : Hp.Up lt f n j) (hj : 0 < j) (hl : lt (f j) (f ((j - 1) / 2)) = true) : Hp.Up lt (Hp.sw f ((j - 1) / 2) j) n ((j - 1) / 2) := by
 obtain ⟨h1, h2, h3⟩ := h
 generalize hi : (j - 1) / 2 = i at *
 have hij : i < j := by omega
 have si : Hp.sw f i j i = f j := by simp [Hp.sw]
 have sj : Hp.sw f i j j = f i := by unfold Hp.sw; rw [if_neg (by omega), if_pos rfl]
 have sk : ∀ k, k ≠ i → k ≠ j → Hp.sw f i j k = f k := fun k a b => by unfold Hp.sw; rw [if_neg a, if_neg b]
 refine ⟨by omega, fun k k0 k1 k2 => ?_, fun k k0 k1 k2 i0 => ?_⟩
 ·
  by_cases e : k = j
  · subst e; rw [hi, si, sj]; exact ho.asy _ _ hl
  ·
   rw [sk k k2 e]
   by_cases e1 : (k - 1) / 2 = j
   · rw [e1, sj]; exact h3 k k0 k1 e1 hj
   ·
    by_cases e2 : (k - 1) / 2 = i
    ·
     rw [e2, si]
     have := h2 k k0 k1 e
     rw [e2] at this
     exact ho.tr hl this
    · rw [sk _ e2 e1]; exact h2 k k0 k1 e
 ·
  have p : (i - 1) / 2 < i := by omega
  rw [sk ((i - 1) / 2) (by omega) (by omega)]
  have hii := h2 i i0 (by omega) (by omega)
  by_cases e : k = j
  · subst e; rw [sj]; exact hii
  ·
   rw [sk k (by omega) e]
   have := h2 k k0 k1 e
   rw [k2] at this
   exact ho.nt _ _ _ this hii
def Hp.Dn {α : Type} (lt : α → α → Bool) (f : Nat → α) (n i : Nat) : Prop :=
 (∀ k, 0 < k → k < n → (k - 1) / 2 ≠ i → lt (f k) (f ((k - 1) / 2)) = false) ∧ ∀ k, 0 < k → k < n → (k - 1) / 2 = i → 0 < i → lt (f k) (f ((i - 1) / 2)) = false
theorem Hp.Dn.end0 {α : Type} {lt : α → α → Bool} {f : Nat → α} {n i : Nat} (h : Hp.Dn lt f n i) (hi : n ≤ 2 * i + 1) : Hp.Is lt f n := fun k h0 h1 => h.1 k h0 h1 (by omega)
theorem Hp.Dn.end_ {α : Type} {lt : α → α → Bool} (ho : Hp.Ord lt) {f : Nat → α} {n i j : Nat} (h : Hp.Dn lt f n i) (hj : j = 2 * i + 1 ∨ j = 2 * i + 2) (hc : ∀ k, k < n → k = 2 * i + 1 ∨ k = 2 * i + 2 → lt (f k) (f j) = false) (hl : lt (f j) (f i) = false) : Hp.Is lt f n := fun k h0 h1 => by
 by_cases e : (k - 1) / 2 = i
 ·
  rw [e]
  exact ho.nt _ _ _ (hc k h1 (by omega)) hl
 · exact h.1 k h0 h1 e
theorem Hp.Dn.step {α : Type} {lt : α → α → Bool} (ho : Hp.Ord lt) {f : Nat → α} {n i j : Nat} (h : Hp.Dn lt f n i) (hj : j = 2 * i + 1 ∨ j = 2 * i + 2) (hn : j < n) (hc : ∀ k, k < n → k = 2 * i + 1 ∨ k = 2 * i + 2 → lt (f k) (f j) = false) (hl : lt (f j) (f i) = true) : Hp.Dn lt (Hp.sw f i j) n j := by
 obtain ⟨h1, h2⟩ := h
 have si : Hp.sw f i j i = f j := by simp [Hp.sw]
 have sj : Hp.sw f i j j = f i := by unfold Hp.sw; rw [if_neg (by omega), if_pos rfl]
 have sk : ∀ k, k ≠ i → k ≠ j → Hp.sw f i j k = f k := fun k a b => by unfold Hp.sw; rw [if_neg a, if_neg b]
 refine ⟨fun k k0 k1 k2 => ?_, fun k k0 k1 k2 j0 => ?_⟩
 ·
  by_cases e : (k - 1) / 2 = i
  ·
   rw [e, si]
   by_cases ej : k = j
   · subst ej; rw [sj]; exact ho.asy _ _ hl
   · rw [sk k (by omega) ej]; exact hc k k1 (by omega)
  ·
   by_cases ei : k = i
   ·
    subst ei
    rw [si, sk _ (by omega) k2]
    exact h2 j (by omega) hn (by omega) k0
   ·
    have ej : k ≠ j := by omega
    rw [sk k ei ej, sk _ e k2]
    exact h1 k k0 k1 e
 ·
  have e : (j - 1) / 2 = i := by omega
  rw [e, si, sk k (by omega) (by omega)]
  have := h1 k k0 k1 (by omega)
  rw [k2] at this
  exact this
theorem Hp.Dn.start {α : Type} {lt : α → α → Bool} {f : Nat → α} {n : Nat} (h : Hp.Is lt f (n + 1)) : Hp.Dn lt (Hp.sw f 0 n) n 0 := by
 refine ⟨fun k k0 k1 k2 => ?_, fun k k0 k1 k2 j0 => by omega⟩
 have : Hp.sw f 0 n k = f k := by unfold Hp.sw; rw [if_neg (by omega), if_neg (by omega)]
 rw [this]
 have : Hp.sw f 0 n ((k - 1) / 2) = f ((k - 1) / 2) := by unfold Hp.sw; rw [if_neg (by omega), if_neg (by omega)]
 rw [this]
 exact h k k0 (by omega)
theorem Hp.Is.root {α : Type} {lt : α → α → Bool} (ho : Hp.Ord lt) {f : Nat → α} {n : Nat} (h : Hp.Is lt f n) : ∀ k, k < n → lt (f k) (f 0) = false := by
 intro k
 induction k using Nat.strongRecOn with
 | ind k ih =>
   intro hk
   by_cases h0 : k = 0
   ·
    subst h0
    cases hb : lt (f 0) (f 0) with
    | false => rfl
    | true => have := ho.asy _ _ hb; rw [hb] at this; cases this
   · exact ho.nt _ _ _ (h k (by omega) hk) (ih ((k - 1) / 2) (by omega) (by omega))
theorem Hp.Is.congr {α : Type} {lt : α → α → Bool} {f g : Nat → α} {n : Nat} (h : Hp.Is lt f n) (he : ∀ k, k < n → f k = g k) : Hp.Is lt g n := fun k h0 h1 => by
 rw [← he k h1, ← he _ (show (k - 1) / 2 < n by omega)]; exact h k h0 h1
theorem Hp.Up.congr {α : Type} {lt : α → α → Bool} {f g : Nat → α} {n j : Nat} (h : Hp.Up lt f n j) (he : ∀ k, k < n → f k = g k) : Hp.Up lt g n j :=
 ⟨h.1, fun k h0 h1 h2 => by rw [← he k h1, ← he _ (show (k - 1) / 2 < n by omega)]; exact h.2.1 k h0 h1 h2, fun k h0 h1 h2 h3 => by
  rw [← he k h1, ← he _ (show (j - 1) / 2 < n by have := h.1; omega)]; exact h.2.2 k h0 h1 h2 h3⟩
theorem Hp.Dn.congr {α : Type} {lt : α → α → Bool} {f g : Nat → α} {n i : Nat} (h : Hp.Dn lt f n i) (he : ∀ k, k < n → f k = g k) : Hp.Dn lt g n i :=
 ⟨fun k h0 h1 h2 => by rw [← he k h1, ← he _ (show (k - 1) / 2 < n by omega)]; exact h.1 k h0 h1 h2, fun k h0 h1 h2 h3 => by
  rw [← he k h1, ← he _ (show (i - 1) / 2 < n by omega)]; exact h.2 k h0 h1 h2 h3⟩
def Hp.swl {α : Type} (L : List α) (i j : Nat) (x y : α) : List α := (L.set i y).set j x
theorem Hp.swl_len {α : Type} (L : List α) (i j : Nat) (x y : α) : (Hp.swl L i j x y).length = L.length := by simp [Hp.swl]
theorem Hp.swl_perm {α : Type} {L : List α} {i j : Nat} {x y : α} (hi : L[i]? = some x) (hj : L[j]? = some y) : (Hp.swl L i j x y).Perm L := by
 obtain ⟨h1, e1⟩ := List.getElem?_eq_some_iff.1 hi
 obtain ⟨h2, e2⟩ := List.getElem?_eq_some_iff.1 hj
 have h := Array.swap_perm (xs := L.toArray) (i := i) (j := j) (by simpa using h1) (by simpa using h2)
 have h3 := Array.perm_iff_toList_perm.1 h
 have h4 : (L.toArray.swap i j (by simpa using h1) (by simpa using h2)).toList = Hp.swl L i j x y := by
  rw [Array.swap_def]
  simp [Hp.swl, e1, e2]
 rw [h4] at h3
 simpa using h3
theorem Hp.swl_get {α : Type} {L : List α} {d : α} {i j : Nat} {x y : α} (hi : L[i]? = some x) (hj : L[j]? = some y) (k : Nat) : (Hp.swl L i j x y).getD k d = Hp.sw (fun k => L.getD k d) i j k := by
 obtain ⟨h1, e1⟩ := List.getElem?_eq_some_iff.1 hi
 obtain ⟨h2, e2⟩ := List.getElem?_eq_some_iff.1 hj
 unfold Hp.sw Hp.swl
 simp only [List.getD_eq_getElem?_getD, hi, hj, Option.getD_some]
 rw [List.getElem?_set, List.getElem?_set]
 simp only [List.length_set]
 by_cases a : k = i
 ·
  subst a
  by_cases b : j = k
  ·
   subst b
   rw [if_pos rfl, if_pos h1, if_pos rfl]
   simp; rw [← e1, ← e2]
  · rw [if_neg b, if_pos rfl, if_pos h1, if_pos rfl]; rfl
 ·
  rw [if_neg a]
  by_cases b : j = k
  · subst b; rw [if_pos rfl, if_pos h2, if_pos rfl]; rfl
  · rw [if_neg b, if_neg (fun e => a e.symm), if_neg (fun e => b e.symm)]
end Go.Proofs.YtfckfjndnhjpoaaGreatDoor
end
section
namespace Go.Proofs.YtfckfjndnhjpoaaGreatDoor
inductive Wk {α : Type} (ah : α → α → Bool) (pr : α → List α) : List α → List α → List α → Prop
 | done {S O : List α} : (∀ x ∈ S, x ∈ O) → Wk ah pr S O O
 | more {S S' O R : List α} {x : α} : x ∈ S → x ∉ O → (∀ y ∈ S, y ∉ O → y ≠ x → ah x y = true) → (∀ y, y ∈ S' ↔ y ∈ S ∨ y ∈ pr x) → Wk ah pr S' (O ++ [x]) R → Wk ah pr S O R
theorem Wk.congr {α : Type} {ah : α → α → Bool} {pr : α → List α} {S S2 O R : List α} (h : Wk ah pr S O R) (he : ∀ x, x ∈ S ↔ x ∈ S2) : Wk ah pr S2 O R := by
 cases h with
 | done h1 => exact .done fun x hx => h1 x ((he x).2 hx)
 | more h1 h2 h3 h4 h5 => exact .more ((he _).1 h1) h2 (fun y hy => h3 y ((he y).2 hy)) (fun y => by rw [h4 y, he y]) h5
theorem Wk.same {α : Type} {ah : α → α → Bool} {pr : α → List α} (hsy : ∀ a b, ah a b = true → ah b a = false) {S O R : List α} (h : Wk ah pr S O R) : ∀ {R2 : List α}, Wk ah pr S O R2 → R = R2 := by
 induction h with
 | done h1 =>
   intro R2 h2
   cases h2 with
   | done _ => rfl
   | more k1 k2 _ _ _ => exact absurd (h1 _ k1) k2
 | more h1 h2 h3 h4 h5 ih =>
   rename_i S S' O R x
   intro R2 k
   cases k with
   | done k1 => exact absurd (k1 _ h1) h2
   | more k1 k2 k3 k4 k5 =>
     rename_i T y
     have e : y = x := by
      by_cases e : y = x
      · exact e
      ·
       have a := h3 y k1 k2 e
       have b := k3 x h1 h2 (fun e2 => e e2.symm)
       rw [hsy _ _ a] at b; cases b
     subst e
     exact ih (k5.congr fun z => by rw [k4 z, h4 z])
theorem Wk.keeps {α : Type} {ah : α → α → Bool} {pr : α → List α} {S O R : List α} (h : Wk ah pr S O R) (hO : O.Nodup) (hs : ∀ x ∈ O, x ∈ S) : R.Nodup ∧ (∃ R', R = O ++ R') ∧ (∀ x ∈ S, x ∈ R) ∧ ∀ (i : Nat) (x : α), O.length ≤ i → R[i]? = some x → x ∈ S ∨ ∃ k y, k < i ∧ R[k]? = some y ∧ x ∈ pr y := by
 induction h with
 | done h1 => exact ⟨hO, ⟨[], by simp⟩, h1, fun i x hi hx => by rw [List.getElem?_eq_none hi] at hx; cases hx⟩
 | more h1 h2 h3 h4 h5 ih =>
   rename_i S S' O R x
   have hn : (O ++ [x]).Nodup := by
    rw [List.nodup_append]
    exact ⟨hO, by simp, fun a ha b hb => by rw [List.mem_singleton.1 hb]; exact fun e => h2 (e ▸ ha)⟩
   obtain ⟨i1, ⟨R', i2⟩, i3, i4⟩ := ih hn (fun y hy => by
    rw [h4 y]
    rcases List.mem_append.1 hy with k | k
    · exact .inl (hs y k)
    · rw [List.mem_singleton.1 k]; exact .inl h1)
   refine ⟨i1, ⟨x :: R', by rw [i2]; simp⟩, fun y hy => i3 y ((h4 y).2 (.inl hy)), fun i y hi hy => ?_⟩
   by_cases e : i = O.length
   ·
    have : R[O.length]? = some x := by rw [i2, List.append_assoc, List.getElem?_append_right (Nat.le_refl _)]; simp
    rw [e, this] at hy
    injection hy with hy
    exact .inl (hy ▸ h1)
   ·
    rcases i4 i y (by simp; omega) hy with k | k
    ·
     rcases (h4 y).1 k with k | k
     · exact .inl k
     · exact .inr ⟨O.length, x, by omega, by rw [i2, List.append_assoc, List.getElem?_append_right (Nat.le_refl _)]; simp, k⟩
    · exact .inr k
theorem Wk.least {α : Type} {ah : α → α → Bool} {pr : α → List α} {P : α → Prop} (hp : ∀ x y, P x → y ∈ pr x → P y) {S O R : List α} (h : Wk ah pr S O R) (hS : ∀ x ∈ S, P x) (hO : ∀ x ∈ O, P x) : ∀ x ∈ R, P x := by
 induction h with
 | done h1 => exact hO
 | more h1 h2 h3 h4 h5 ih =>
   refine ih (fun y hy => ?_) (fun y hy => ?_)
   ·
    rcases (h4 y).1 hy with k | k
    · exact hS y k
    · exact hp _ y (hS _ h1) k
   ·
    rcases List.mem_append.1 hy with k | k
    · exact hO y k
    · rw [List.mem_singleton.1 k]; exact hS _ h1
end Go.Proofs.YtfckfjndnhjpoaaGreatDoor
end
section
namespace Go.Proofs.YtfckfjndnhjpoaaGreatDoor
open Go.RowKit Go.Sort
structure Cd where
 id : List UInt8
 time : Nat
 par : Value
 idl : id.length = 32
 tml : time < 4294967296
 parl : par.oneCell' = true
instance : Inhabited Cd := ⟨⟨zId, 0, .slice none 0 0, by decide, by decide, rfl⟩⟩
def cdC (c : Cd) : List Value := idC c.id ++ [.int .u32 (c.time : Int), c.par]
theorem cdC_length (c : Cd) : (cdC c).length = 34 := by simp [cdC, idC_length, c.idl]
theorem cdC_one (c : Cd) : ∀ v ∈ cdC c, v.oneCell' = true := by
 intro v hv
 simp only [cdC, List.mem_append, List.mem_cons, List.not_mem_nil, or_false] at hv
 rcases hv with h | rfl | rfl
 · exact idC_one _ _ h
 · rfl
 · exact c.parl
def Cd.lt (a b : Cd) : Bool := if a.time = b.time then St.lt a.id b.id else decide (b.time < a.time)
theorem Cd.ord : Hp.Ord Cd.lt where
 asy a b h := by
  unfold Cd.lt at *
  by_cases e : a.time = b.time
  · rw [if_pos e] at h; rw [if_pos e.symm]; exact St.lt_asymm h
  ·
   rw [if_neg e] at h; rw [if_neg (fun k => e k.symm)]
   simp at h ⊢; omega
 nt a b c h1 h2 := by
  unfold Cd.lt at *
  by_cases e : a.time = b.time
  ·
   rw [if_pos e] at h1
   by_cases f : b.time = c.time
   ·
    rw [if_pos f] at h2; rw [if_pos (e.trans f)]
    cases h : St.lt a.id c.id with
    | false => rfl
    | true =>
      rcases St.lt_tri (a := a.id) (b := b.id) (by rw [a.idl, b.idl]) with k | k | k
      · rw [k] at h1; cases h1
      · rw [k, h2] at h; cases h
      · rw [St.lt_trans k h] at h2; cases h2
   ·
    rw [if_neg f] at h2; rw [if_neg (fun k => f (e ▸ k))]
    simp at h2 ⊢; omega
  ·
   rw [if_neg e] at h1
   simp at h1
   by_cases f : b.time = c.time
   · rw [if_neg (fun k => e (k.trans f.symm))]; simp; omega
   ·
    rw [if_neg f] at h2
    simp at h2
    rw [if_neg (by omega)]; simp; omega
def zCd : List Value := idC zId ++ [.int .u32 0, .slice none 0 0]
theorem infoCd : (Tryz.prog.info? 109).map (fun i => (i.zero, i.size, i.bytes)) = some (some (.agg zCd.toArray), 34, 64) := by kernel_rfl
theorem infoCz : (Tryz.prog.info? 109).map (·.size) = some 34 := by kernel_rfl
theorem cdsize (c : Cd) : (Tryz.prog.info? 109).map (·.size) = some (cdC c).length := by rw [cdC_length]; exact infoCz
theorem underCd : Tryz.prog.underlying 109 = some (.struct (Tryz.prog.fieldsOf 109)) := by kernel_rfl
structure OwnC (w : World) (base : Nat) (v : Value) (C : List Cd) : Prop where
 own : w.ownsRow base 109 34 v C.length (C.map cdC).flatten
theorem cds_len {C : List Cd} : ∀ c ∈ C.map cdC, c.length = 34 := fun c hc => by
 obtain ⟨x, _, rfl⟩ := List.mem_map.1 hc; exact cdC_length x
theorem OwnC.nil (w : World) (base : Nat) : OwnC w base (.slice none 0 0) [] := ⟨World.ownsRow_nil _ _ _ _⟩
theorem OwnC.below {w w' : World} {base : Nat} {v : Value} {C : List Cd} (h : OwnC w base v C) (hb : Below w.heap.size w w') : OwnC w' base v C := ⟨own_bel h.own hb⟩
theorem OwnC.rows {w : World} {base : Nat} {v : Value} {C : List Cd} (h : OwnC w base v C) : RowsAt w v 34 (C.map cdC) := own_rowsK (C := C.map cdC) (by simpa using h.own) cds_len
theorem OwnC.form {w : World} {B : Nat} {v : Value} {C : List Cd} (h : OwnC w B v C) : ∃ ao cap, v = .slice ao C.length cap := by simpa using h.rows.form
theorem cd_id {w : World} {p : Addr} {c : Cd} (h : ∀ j x, (cdC c)[j]? = some x → w.cell? (p.add j) = some x) : ∀ j x, (idC c.id)[j]? = some x → w.cell? (p.add j) = some x := fun j x hx => h j x (by
 simp only [cdC]
 rw [List.getElem?_append_left (List.getElem?_eq_some_iff.1 hx).1]; exact hx)
theorem cd_time {w : World} {p : Addr} {c : Cd} (h : ∀ j x, (cdC c)[j]? = some x → w.cell? (p.add j) = some x) : w.cell? (p.add 32) = some (.int .u32 (c.time : Int)) := h 32 _ (by
 simp only [cdC]
 rw [List.getElem?_append_right (by rw [idC_length, c.idl]; omega), idC_length, c.idl]; rfl)
theorem splice_app {α : Type} (A X c : List α) (n : Nat) : splice (A ++ X) (A.length + n) c = A ++ splice X n c := by
 unfold splice
 rw [List.take_length_add_append, show A.length + n + c.length = A.length + (n + c.length) by omega, List.drop_length_add_append, List.append_assoc]
theorem flatK_set {k : Nat} : ∀ (C : List (List Value)), (∀ c ∈ C, c.length = k) → ∀ (i : Nat) (c : List Value), i < C.length → c.length = k → (C.set i c).flatten = splice C.flatten (i * k) c
 | [], _, i, c, h, _ => by simp at h
 | a :: r, hk, 0, c, _, hc => by
   have ha : a.length = k := hk a (by simp)
   simp [splice, hc, ← ha]
 | a :: r, hk, i + 1, c, h, hc => by
   have ha : a.length = k := hk a (by simp)
   rw [List.set_cons_succ, List.flatten_cons, List.flatten_cons, flatK_set r (fun x hx => hk x (by simp [hx])) i c (by simpa using h) hc, show (i + 1) * k = a.length + i * k by rw [Nat.succ_mul]; omega, splice_app]
theorem splice_take {α : Type} (L vs : List α) (o m : Nat) (h : o + vs.length ≤ m) (hm : m ≤ L.length) : (splice L o vs).take m = splice (L.take m) o vs := by
 unfold splice
 have hl : (L.take o).length = o := by rw [List.length_take, Nat.min_eq_left (by omega)]
 have h1 : (L.take o).take m = L.take o := List.take_of_length_le (by omega)
 have h2 : vs.take (m - o) = vs := List.take_of_length_le (by omega)
 rw [List.take_append, hl, h1, List.take_append, h2, List.take_take, Nat.min_eq_left (by omega), List.drop_take, show m - o - vs.length = m - (o + vs.length) by omega]
theorem splice_length {α : Type} (L vs : List α) (o : Nat) (h : o + vs.length ≤ L.length) : (splice L o vs).length = L.length := by
 unfold splice; simp; omega
theorem OwnC.set {w : World} {base : Nat} {g n cap i : Nat} {C : List Cd} (h : OwnC w base (.slice (some ⟨g, 0, none⟩) n cap) C) (c : Cd) (hi : i < C.length) : OwnC (w.setCells g (i * 34) (cdC c)) base (.slice (some ⟨g, 0, none⟩) n cap) (C.set i c) := by
 have hl := h.own.1
 rcases h.own.2 with ⟨hv, h0⟩ | ⟨g', c', cur, hv, hb, hh, h1, h2, h3, h4⟩
 · cases hv
 ·
  simp only [Value.slice.injEq, Option.some.injEq, Addr.mk.injEq, and_true] at hv
  obtain ⟨rfl, rfl, rfl⟩ := hv
  have hfl : ((C.map cdC).flatten).length = C.length * 34 := by rw [flatK_len _ cds_len]; simp
  have hcl := cdC_length c
  have hcu : C.length * 34 ≤ cur.toList.length := by
   rw [← hfl, ← h4]; rw [List.length_take]; omega
  have hset := setCells_row g 109 (cdC c) (i * 34) w cur.toList (by simpa using hh) (by omega)
  have hfs : ((C.set i c).map cdC).flatten = splice (C.map cdC).flatten (i * 34) (cdC c) := by
   rw [List.map_set]
   exact flatK_set (C.map cdC) cds_len i (cdC c) (by simpa using hi) hcl
  refine ⟨by rw [hfs, splice_length _ _ _ (by omega)]; simpa using hl, .inr ⟨g, cap, (splice cur.toList (i * 34) (cdC c)).toArray, by simp, hb, hset, by simpa using h1, ?_, ?_, ?_⟩⟩
  · exact h2
  · rw [List.size_toArray, splice_length _ _ _ (by omega)]; simpa using h3
  · rw [List.length_set, List.toList_toArray, splice_take _ _ _ _ (by omega) hcu, h4, hfs]
theorem OwnC.cut {w : World} {B n cap : Nat} {ao : Option Addr} {C : List Cd} {x : Cd} (h : OwnC w B (.slice ao n cap) (C ++ [x])) : OwnC w B (.slice ao C.length cap) C ∧ (C.length : Int) + 1 ≤ cap := by
 have hl := h.own.1
 rcases h.own.2 with ⟨_, h0⟩ | ⟨g, c, cur, hv, hb, hh, h1, h2, h3, h4⟩
 · simp at h0
 ·
  simp only [Value.slice.injEq] at hv
  obtain ⟨rfl, hn, rfl⟩ := hv
  have hfl : ((C.map cdC).flatten).length = C.length * 34 := by rw [flatK_len _ cds_len]; simp
  simp only [List.length_append, List.length_singleton] at h1 h4
  refine ⟨⟨⟨by rw [hfl], .inr ⟨g, cap, cur, rfl, hb, hh, by omega, h2, h3, ?_⟩⟩⟩, by omega⟩
  have h5 : (cur.toList.take ((C.length + 1) * 34)).take (C.length * 34) = (C.map cdC).flatten := by
   rw [h4, List.map_append, List.flatten_append, List.take_append_of_le_length (by omega), List.take_of_length_le (by omega)]
  rw [List.take_take, Nat.min_eq_left (by omega)] at h5
  exact h5
theorem wp_ap_cd {op : Oper} {a : Act} {wr : World} {K : Act → World → Prop} {Q : Exit → Act → World → Prop} {v : Value} {C : List Cd} {c : Cd} {base : Nat} (s x : Operand)
  (ho : op.op = .call { callee := .builtin .append, args := #[s, x], argTypes := #[103, 103] }) (hs : a.eval s = v) (hx : a.eval x = .slice (some ⟨wr.heap.size, 0, none⟩) 1 1)
  (h : OwnC wr base v C) (hb : base ≤ wr.heap.size) (hl : C.length ≤ 2000)
  (hK : ∀ v' w', Hid (OwnC w' base v' (C ++ [c])) → Hid ((wr.alloc (.cells (cdC c).toArray 109)).grownBy w' v.ownBlock) → Hid (v'.ownBlock = v.ownBlock ∨ v'.ownBlock = some (wr.heap.size + 1)) → K (a.put op.dst v') w') : op.wp Tryz.prog a (wr.alloc (.cells (cdC c).toArray 109)) K Q := by
 obtain ⟨i0, hi, hz0, hz1, hz2⟩ := info_parts infoCd
 obtain ⟨v', w', hr, h1, h2, _, h4⟩ := run_append_own_at (P := Tryz.prog) (wr.alloc (.cells (cdC c).toArray 109)) base 103 op.type 109 i0 _ 34 64 Tryz.underlying103 hi hz0 hz1 hz2 (by decide) (by decide) v C.length (C.map cdC).flatten (World.ownsRow.alloc h.own _) ⟨wr.heap.size, 0, none⟩ 1 1 (cdC c) (by rw [cdC_length]) (row_news (heap_alloc_new _ _)) (cdC_one c) (by unfold maxLen; omega) (by omega) (by simp; omega)
 have h5 : v'.ownBlock = v.ownBlock ∨ v'.ownBlock = some (wr.heap.size + 1) := by simpa using h4
 have hO : OwnC w' base v' (C ++ [c]) := ⟨by
  have := own_pushK (C := C.map cdC) (c := cdC c) (by simpa using h1)
  rw [show (C ++ [c]).map cdC = C.map cdC ++ [cdC c] by simp, show (C ++ [c]).length = (C.map cdC ++ [cdC c]).length by simp]
  exact this⟩
 unfold Oper.wp execOp
 simp only [ho, resolve, invoke, builtin, Sem.run_bind, Sem.run_pure, Result.andThen_ok, List.map_toArray, List.map_cons, List.map_nil, hs, hx, hr]
 exact hK _ _ hO h2 h5
end Go.Proofs.YtfckfjndnhjpoaaGreatDoor
end
section
namespace Go.Proofs.YtfckfjndnhjpoaaGreatDoor
open Go.RowKit Go.Sort
theorem wrapnil (P : Program) (t : TypeId) (a : Addr) (x y : String) (w : World) : (Builtin.ssaWrapNilChk_ #[t] t #[.pointer (some a), strVal x, strVal y]).run P w = .ok (.pointer (some a)) w := rfl
theorem underCp : Tryz.prog.underlying 157 = some (.pointer 103) := by kernel_rfl
theorem meth_v {nm : String} {f : FuncId} (hk : ((Tryz.prog.info? 157).bind (fun i => i.methods.find? (·.name == nm))).map (fun m => (m.path.toList, m.func)) = some ([], some (f, false))) (p : Addr) (v : Value) (w : World) (h : w.cell? p = some v) (N : Nat) (hN : 0 < N) : (method N 157 (.pointer (some p)) nm).run Tryz.prog w = .ok (f, v) w := by
 obtain ⟨M, rfl⟩ : ∃ M, N = M + 1 := ⟨N - 1, by omega⟩
 cases hi : Tryz.prog.info? 157 with
 | none => rw [hi] at hk; cases hk
 | some i =>
   rw [hi] at hk
   cases hm : i.methods.find? (·.name == nm) with
   | none => simp [hm] at hk
   | some m =>
     simp only [Option.bind_some, hm, Option.map_some, Option.some.injEq, Prod.mk.injEq] at hk
     obtain ⟨hp, hf⟩ := hk
     have hu := fun w => run_underlying (P := Tryz.prog) underCp w
     have hpe : m.path.isEmpty = true := by
      have : m.path = #[] := by apply Array.ext'; simpa using hp
      rw [this]; rfl
     have hti := fun w => run_typeInfo (P := Tryz.prog) w hi
     unfold method
     simp only [Sem.run_bind, hti, Result.andThen_ok, hm, hp, follow, hf, Sem.run_pure, receiverAt, hu, Place.get, hpe, if_true, wrapnil, asAddr]
     simp [loadVar, go_sem, h]
theorem meth_p {nm : String} {f : FuncId} (hk : ((Tryz.prog.info? 157).bind (fun i => i.methods.find? (·.name == nm))).map (fun m => (m.path.toList, m.func)) = some ([], some (f, true))) (p : Addr) (w : World) (N : Nat) (hN : 0 < N) : (method N 157 (.pointer (some p)) nm).run Tryz.prog w = .ok (f, .pointer (some p)) w := by
 obtain ⟨M, rfl⟩ : ∃ M, N = M + 1 := ⟨N - 1, by omega⟩
 cases hi : Tryz.prog.info? 157 with
 | none => rw [hi] at hk; cases hk
 | some i =>
   rw [hi] at hk
   cases hm : i.methods.find? (·.name == nm) with
   | none => simp [hm] at hk
   | some m =>
     simp only [Option.bind_some, hm, Option.map_some, Option.some.injEq, Prod.mk.injEq] at hk
     obtain ⟨hp, hf⟩ := hk
     have hu := fun w => run_underlying (P := Tryz.prog) underCp w
     have hti := fun w => run_typeInfo (P := Tryz.prog) w hi
     unfold method
     simp only [Sem.run_bind, hti, Result.andThen_ok, hm, hp, follow, hf, Sem.run_pure, receiverAt, hu, Place.get]
theorem mLen : ((Tryz.prog.info? 157).bind (fun i => i.methods.find? (·.name == "Len"))).map (fun m => (m.path.toList, m.func)) = some ([], some (205, false)) := by kernel_rfl
theorem mLess : ((Tryz.prog.info? 157).bind (fun i => i.methods.find? (·.name == "Less"))).map (fun m => (m.path.toList, m.func)) = some ([], some (206, false)) := by kernel_rfl
theorem mSwap : ((Tryz.prog.info? 157).bind (fun i => i.methods.find? (·.name == "Swap"))).map (fun m => (m.path.toList, m.func)) = some ([], some (207, false)) := by kernel_rfl
theorem mPush : ((Tryz.prog.info? 157).bind (fun i => i.methods.find? (·.name == "Push"))).map (fun m => (m.path.toList, m.func)) = some ([], some (209, true)) := by kernel_rfl
theorem mPop : ((Tryz.prog.info? 157).bind (fun i => i.methods.find? (·.name == "Pop"))).map (fun m => (m.path.toList, m.func)) = some ([], some (208, true)) := by kernel_rfl
theorem len_cd (ao : Option Addr) (n cap : Nat) (w : World) : Calls Tryz.prog 205 #[.slice ao n cap] w fun r w' => r = .returned (.int .i64 n) ∧ w = w' := by
 go_enter Tryz.func205, Tryz.ntmps205
 go_wp2_with fail
 go_ret
 exact ⟨rfl, rfl⟩
theorem less_cd (w : World) (base : Nat) (v : Value) (C : List Cd) (i j : Nat) (x y : Cd) (h : OwnC w base v C) (hi : C[i]? = some x) (hj : C[j]? = some y) (hn : C.length ≤ 100000) :
  Calls Tryz.prog 206 #[v, .int .i64 i, .int .i64 j] w fun r w' => r = .returned (.bool (Cd.lt x y)) ∧ Below w.heap.size w w' := by
 have hil : i < C.length := (List.getElem?_eq_some_iff.1 hi).1
 have hjl : j < C.length := (List.getElem?_eq_some_iff.1 hj).1
 obtain ⟨ao, cap, rfl⟩ := h.form
 obtain ⟨g, cap', he, hb, hlt⟩ := h.own.form (by omega)
 obtain ⟨a, e, _, hci⟩ := h.rows.elem i (cdC x) (by rw [List.getElem?_map, hi]; rfl)
 obtain ⟨a', e', _, hcj⟩ := h.rows.elem j (cdC y) (by rw [List.getElem?_map, hj]; rfl)
 subst e
 injection e' with e'
 subst e'
 simp only [Value.slice.injEq, Option.some.injEq] at he
 obtain ⟨rfl, _, rfl⟩ := he
 have hix : (i : Int) < (C.length : Int) := by omega
 have hjx : (j : Int) < (C.length : Int) := by omega
 have hi0 : (0 : Int) ≤ (i : Int) := by omega
 have hj0 : (0 : Int) ≤ (j : Int) := by omega
 have hti : w.drew.cell? ⟨g, i * 34 + 32, none⟩ = some (.int .u32 (x.time : Int)) := by have := cd_time hci; rwa [Addr.add_mid, Addr.add_mid, Nat.zero_add] at this
 have htj : w.drew.cell? ⟨g, j * 34 + 32, none⟩ = some (.int .u32 (y.time : Int)) := by have := cd_time hcj; rwa [Addr.add_mid, Addr.add_mid, Nat.zero_add] at this
 have HTI := Lib.hid hti
 have HTJ := Lib.hid htj
 have HII := Lib.hid (show ∀ k u, (idC x.id)[k]? = some u → w.drew.drew.cell? ((⟨g, i * 34, none⟩ : Addr).add k) = some u from by have := cd_id hci; rwa [Addr.add_mid, Nat.zero_add] at this)
 have HIJ := Lib.hid (show ∀ k u, (idC y.id)[k]? = some u → w.drew.drew.cell? ((⟨g, j * 34, none⟩ : Addr).add k) = some u from by have := cd_id hcj; rwa [Addr.add_mid, Nat.zero_add] at this)
 have HXL := Lib.hid x.idl
 have HYL := Lib.hid y.idl
 have HLS := Lib.hid (fun W => less_id x.id y.id W x.idl y.idl)
 have HLT := Lib.hid (show Cd.lt x y = if x.time = y.time then St.lt x.id y.id else decide (y.time < x.time) from rfl)
 generalize Cd.lt x y = z at HLT ⊢
 clear hi hj hci hcj h
 by_cases he : x.time = y.time
 ·
  have hne : ((x.time : Int) != (y.time : Int)) = false := by simp [he]
  rw [if_pos he] at HLT
  have hz := HLT.out
  subst hz
  clear HLT he
  go_enter Tryz.func206, Tryz.ntmps206
  go_wp2_with fail
  refine rgn_still (by kernel_rfl) (by kernel_rfl) ?_
  repeat still_step
  refine wpStill_nil ?_
  clear hti htj
  go_wp2_with fail
  refine rgn_tail 10 (by kernel_rfl) (by kernel_rfl) ?_
  simp only [List.take_succ_cons, List.take_zero, List.drop_succ_cons, List.drop_zero]
  repeat still_step
  (with_reducible apply still_id (hc := HII.out) (hl := HXL.out))
  rfl
  rfl
  rfl
  repeat still_step
  (with_reducible apply still_id (hc := HIJ.out) (hl := HYL.out))
  rfl
  rfl
  rfl
  repeat still_step
  refine wpStill_nil ?_
  go_wp2_with fail
  refine (HLS.out _).mono ?_
  rintro r w2 ⟨rfl, hb2⟩
  go_wp2_with fail
  go_ret
  exact ⟨rfl, (Below.refl _ w).drew.drew.trans hb2⟩
 ·
  have hne : ((x.time : Int) != (y.time : Int)) = true := by simp; omega
  rw [if_neg he] at HLT
  have hz : z = decide (y.time < x.time) := HLT.out
  subst hz
  clear HLT he
  go_enter Tryz.func206, Tryz.ntmps206
  go_wp2_with fail
  refine rgn_still (by kernel_rfl) (by kernel_rfl) ?_
  repeat still_step
  refine wpStill_nil ?_
  have hti2 : w.drew.drew.cell? ⟨g, i * 34 + 32, none⟩ = some (.int .u32 (x.time : Int)) := hti
  have htj2 : w.drew.drew.cell? ⟨g, j * 34 + 32, none⟩ = some (.int .u32 (y.time : Int)) := htj
  go_wp2_with fail
  refine rgn_still (by kernel_rfl) (by kernel_rfl) ?_
  repeat still_step
  refine wpStill_nil ?_
  go_wp2_with fail
  go_ret
  exact ⟨rfl, (Below.refl _ w).drew.drew⟩
theorem swap_cd (w : World) (base g cap : Nat) (C : List Cd) (i j : Nat) (x y : Cd) (h : OwnC w base (.slice (some ⟨g, 0, none⟩) C.length cap) C) (hi : C[i]? = some x) (hj : C[j]? = some y) (hn : C.length ≤ 100000) :
  Calls Tryz.prog 207 #[.slice (some ⟨g, 0, none⟩) C.length cap, .int .i64 i, .int .i64 j] w fun r w' => r = .returned (.tuple #[]) ∧ w' = (w.drew.setCells g (i * 34) (cdC y)).setCells g (j * 34) (cdC x) := by
 have hil : i < C.length := (List.getElem?_eq_some_iff.1 hi).1
 have hjl : j < C.length := (List.getElem?_eq_some_iff.1 hj).1
 have hix : (i : Int) < (C.length : Int) := by omega
 have hjx : (j : Int) < (C.length : Int) := by omega
 have hi0 : (0 : Int) ≤ (i : Int) := by omega
 have hj0 : (0 : Int) ≤ (j : Int) := by omega
 have HL := Lib.hid (show ∀ (k : Nat) (z : Cd), C[k]? = some z → w.drew.rangeAt g (k * 34) (cdC z) from fun k z hk => by
  obtain ⟨a, e, _, hc⟩ := h.rows.elem k (cdC z) (by rw [List.getElem?_map, hk]; rfl)
  injection e with e
  subst e
  intro q v hv
  have := hc q v hv
  rwa [Addr.add_mid, Addr.add_mid, Nat.zero_add] at this)
 have HT := Lib.hid (show ∀ (k : Nat), k < C.length → w.drew.there g (k * 34) 34 from fun k hk q hq => by
  have hfl : ((C.map cdC).flatten).length = C.length * 34 := by rw [flatK_len _ cds_len]; simp
  have hc := h.own.cellAt (k * 34 + q) (by omega)
  exact ⟨by show (w.cell? _).isSome = true; rw [hc, List.getElem?_eq_getElem (by rw [hfl]; omega)]; rfl, h.own.frozenAt _⟩)
 have HT1 := Lib.hid (show w.drew.there g (i * 34) (cdC y).toArray.size by rw [List.size_toArray, cdC_length]; exact HT.out i hil)
 have HT2 := Lib.hid (show (w.drew.setCells g (i * 34) (cdC y).toArray.toList).there g (j * 34) (cdC x).toArray.size by rw [List.size_toArray, cdC_length]; exact World.there_setCells (HT.out j hjl) _ _ _)
 have HZ1 := Lib.hid (show (Tryz.prog.info? 109).map (·.size) = some (cdC y).toArray.size by rw [List.size_toArray]; exact cdsize y)
 have HZ2 := Lib.hid (show (Tryz.prog.info? 109).map (·.size) = some (cdC x).toArray.size by rw [List.size_toArray]; exact cdsize x)
 have HO1 := Lib.hid (all_oneCell_toArray (cdC_one y))
 have HO2 := Lib.hid (all_oneCell_toArray (cdC_one x))
 clear h HT
 go_enter Tryz.func207, Tryz.ntmps207
 go_wp2_with fail
 refine wp_region_noPanic ?_
 refine wp_region_held_drew (S := (fun _ => True)) (by kernel_rfl) trivial (fun hH => ?_)
 refine tk (i := 0) (v := ?_) ?_ ?_
 rotate_left
 · intro w' hSw; go_simp; try rfl
 try simp only [q0]
 refine tk (i := 1) (v := ?_) ?_ ?_
 rotate_left
 · intro w' hSw; go_simp; try rfl
 try simp only [q0]
 refine tk (i := 2) (v := ?_) ?_ ?_
 rotate_left
 · intro w' hSw; go_simp; try rfl
 try simp only [q0]
 refine tk (i := 3) (v := ?_) ?_ ?_
 rotate_left
 · intro w' hSw; go_simp; try rfl
 try simp only [q0]
 refine tk (i := 4) (v := ?_) ?_ ?_
 rotate_left
 · intro w' hSw; go_simp; try rfl
 try simp only [q0]
 refine tk (i := 5) (v := ?_) ?_ ?_
 rotate_left
 · intro w' hSw; go_simp; try rfl
 try simp only [q0]
 refine tk (i := 6) (v := ?_) ?_ ?_
 rotate_left
 · intro w' hSw; go_simp; try rfl
 try simp only [q0]
 refine tk (i := 8) (v := ?_) ?_ ?_
 rotate_left
 · intro w' hSw; go_simp; try rfl
 try simp only [q0]
 refine tk (i := 9) (v := ?_) ?_ ?_
 rotate_left
 · intro w' hSw; go_simp; try rfl
 try simp only [q0]
 refine tk (i := 10) (v := ?_) ?_ ?_
 rotate_left
 · intro w' hSw; go_simp; try rfl
 try simp only [q0]
 refine wpAnyH_ready (rs := [7, 11]) (by kernel_rfl) (by simp) ?_
 refine AllReadyH.cons rfl (fun K hK => ?_) (AllReadyH.cons rfl (fun K hK => ?_) AllReadyH.nil)
 ·
  rw [if_pos (by rfl)]
  refine wp_load_mid 109 (.tmp 12) rfl g (j * 34) rfl _ _ (HL.out j y hj) underCd rfl (cdsize y) ?_
  refine hK.out _ _ trivial (fun _ => ?_)
  clear hK K
  try simp only [q0]
  refine wpAnyH_ready (rs := [11]) (by kernel_rfl) (by simp) ?_
  refine AllReadyH.cons rfl (fun K hK => ?_) AllReadyH.nil
  rw [if_pos (by rfl)]
  refine wp_load_mid 109 (.tmp 16) rfl g (i * 34) rfl _ _ (HL.out i x hi) underCd rfl (cdsize x) ?_
  refine hK.out _ _ trivial (fun _ => ?_)
  clear hK K
  try simp only [q0]
  refine tk (i := 12) (v := ?_) ?_ ?_
  rotate_left
  · intro w' hSw; go_simp; try rfl
  try simp only [q0]
  refine wpAnyH_ready (rs := [13]) (by kernel_rfl) (by simp) ?_
  refine AllReadyH.cons rfl (fun K hK => ?_) AllReadyH.nil
  rw [if_pos (by rfl)]
  refine wp_store_mid 109 (.tmp 18) (.tmp 13) rfl g (i * 34) (cdC y).toArray rfl rfl HT1.out HZ1.out HO1.out ?_
  refine hK.out _ _ trivial (fun _ => ?_)
  clear hK K
  try simp only [q0]
  refine tk (i := 14) (v := ?_) ?_ ?_
  rotate_left
  · intro w' hSw; go_simp; try rfl
  try simp only [q0]
  refine wpAnyH_ready (rs := [15]) (by kernel_rfl) (by simp) ?_
  refine AllReadyH.cons rfl (fun K hK => ?_) AllReadyH.nil
  rw [if_pos (by rfl)]
  refine wp_store_mid 109 (.tmp 19) (.tmp 17) rfl g (j * 34) (cdC x).toArray rfl rfl HT2.out HZ2.out HO2.out ?_
  refine hK.out _ _ trivial (fun _ => ?_)
  clear hK K
  try simp only [q0]
  refine wpAnyH_done (by kernel_rfl) ?_ _
  refine NoPanic.normal ?_
  go_wp2_with fail
  refine bodyPost_end (results_none rfl _ _ _) rfl ?_
  exact ⟨rfl, rfl⟩
 ·
  rw [if_pos (by rfl)]
  refine wp_load_mid 109 (.tmp 16) rfl g (i * 34) rfl _ _ (HL.out i x hi) underCd rfl (cdsize x) ?_
  refine hK.out _ _ trivial (fun _ => ?_)
  clear hK K
  try simp only [q0]
  refine wpAnyH_ready (rs := [7]) (by kernel_rfl) (by simp) ?_
  refine AllReadyH.cons rfl (fun K hK => ?_) AllReadyH.nil
  rw [if_pos (by rfl)]
  refine wp_load_mid 109 (.tmp 12) rfl g (j * 34) rfl _ _ (HL.out j y hj) underCd rfl (cdsize y) ?_
  refine hK.out _ _ trivial (fun _ => ?_)
  clear hK K
  try simp only [q0]
  refine tk (i := 12) (v := ?_) ?_ ?_
  rotate_left
  · intro w' hSw; go_simp; try rfl
  try simp only [q0]
  refine wpAnyH_ready (rs := [13]) (by kernel_rfl) (by simp) ?_
  refine AllReadyH.cons rfl (fun K hK => ?_) AllReadyH.nil
  rw [if_pos (by rfl)]
  refine wp_store_mid 109 (.tmp 18) (.tmp 13) rfl g (i * 34) (cdC y).toArray rfl rfl HT1.out HZ1.out HO1.out ?_
  refine hK.out _ _ trivial (fun _ => ?_)
  clear hK K
  try simp only [q0]
  refine tk (i := 14) (v := ?_) ?_ ?_
  rotate_left
  · intro w' hSw; go_simp; try rfl
  try simp only [q0]
  refine wpAnyH_ready (rs := [15]) (by kernel_rfl) (by simp) ?_
  refine AllReadyH.cons rfl (fun K hK => ?_) AllReadyH.nil
  rw [if_pos (by rfl)]
  refine wp_store_mid 109 (.tmp 19) (.tmp 17) rfl g (j * 34) (cdC x).toArray rfl rfl HT2.out HZ2.out HO2.out ?_
  refine hK.out _ _ trivial (fun _ => ?_)
  clear hK K
  try simp only [q0]
  refine wpAnyH_done (by kernel_rfl) ?_ _
  refine NoPanic.normal ?_
  go_wp2_with fail
  refine bodyPost_end (results_none rfl _ _ _) rfl ?_
  exact ⟨rfl, rfl⟩
end Go.Proofs.YtfckfjndnhjpoaaGreatDoor
end
