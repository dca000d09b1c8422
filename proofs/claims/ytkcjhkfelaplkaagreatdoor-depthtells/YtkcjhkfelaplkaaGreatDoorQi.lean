/-
  THE MATHEMATICS OF LAYER 11, no program: items by rising ids; where an id stands; one item more; the same items put in e
-/
import Derived.ProofKit
import Derived.Test.YtkcjhkfelaplkaaGreatDoorQa
import Derived.WalkKit
import Derived.WalkSpells
import Derived.WalkLawsBesides
import Derived.Lib.Hide
import Derived.IntWalk
import Derived.OwnWalk
import Derived.Laws.CopyOwn
import Derived.Deep.Heap
import Derived.Deep.Cut
import Derived.Deep.RegionWith
import Derived.Deep.RegionHeld3
import Derived.Deep.RegionLaw
import Derived.Deep.AppendLies
import Derived.Great.Walk
import Derived.Sort.Walk0
import Derived.Lib.Overlaps
import Derived.Lib.AppendZerosOnto
import Derived.Lib.SliceRun
import Derived.Shelf.Abstract
import Derived.BigQuiet
import Derived.Deep.QuietTactic
import Derived.Test.YtkcjhkfelaplkaaGreatDoorQg
import Derived.StillTailTactics
set_option linter.unusedVariables false
set_option linter.unusedSimpArgs false
set_option maxHeartbeats 8000000
set_option maxRecDepth 100000
section
namespace Go.Proofs.YtkcjhkfelaplkaaGreatDoor
def St.lt : List UInt8 → List UInt8 → Bool
 | x :: r, y :: q => if x = y then St.lt r q else decide (x.toNat < y.toNat)
 | _, _ => false
theorem St.lt_irrefl : ∀ a : List UInt8, St.lt a a = false
 | [] => rfl
 | x :: r => by simp [St.lt, St.lt_irrefl r]
theorem St.lt_trans : ∀ {a b c : List UInt8}, St.lt a b = true → St.lt b c = true → St.lt a c = true
 | [], _, _, h, _ => by simp [St.lt] at h
 | _ :: _, [], _, h, _ => by simp [St.lt] at h
 | _ :: _, _ :: _, [], _, h => by simp [St.lt] at h
 | x :: r, y :: q, z :: p, h, k => by
   unfold St.lt at h k ⊢
   by_cases e : x = y
   ·
    subst e
    rw [if_pos rfl] at h
    by_cases e2 : x = z
    ·
     subst e2
     rw [if_pos rfl] at k ⊢
     exact St.lt_trans h k
    · rw [if_neg e2] at k ⊢; exact k
   ·
    rw [if_neg e, decide_eq_true_eq] at h
    by_cases e2 : y = z
    ·
     subst e2
     rw [if_neg e, decide_eq_true_eq]; exact h
    ·
     rw [if_neg e2, decide_eq_true_eq] at k
     have : ¬ x = z := fun e3 => by subst e3; omega
     rw [if_neg this, decide_eq_true_eq]; omega
theorem St.lt_tri : ∀ {a b : List UInt8}, a.length = b.length → St.lt a b = true ∨ a = b ∨ St.lt b a = true
 | [], [], _ => .inr (.inl rfl)
 | [], _ :: _, h => by simp at h
 | _ :: _, [], h => by simp at h
 | x :: r, y :: q, h => by
   unfold St.lt
   by_cases e : x = y
   ·
    subst e
    rw [if_pos rfl, if_pos rfl]
    rcases St.lt_tri (a := r) (b := q) (by simpa using h) with h1 | h1 | h1
    · exact .inl h1
    · exact .inr (.inl (by rw [h1]))
    · exact .inr (.inr h1)
   ·
    rw [if_neg e, if_neg (fun k => e k.symm), decide_eq_true_eq, decide_eq_true_eq]
    have : x.toNat ≠ y.toNat := fun k => e (UInt8.toNat_inj.1 k)
    omega
theorem St.lt_asymm {a b : List UInt8} (h : St.lt a b = true) : St.lt b a = false := by
 cases hq : St.lt b a with
 | false => rfl
 | true => have := St.lt_trans h hq; rw [St.lt_irrefl] at this; cases this
theorem St.lt_ne {a b : List UInt8} (h : St.lt a b = true) : a ≠ b := fun e => by subst e; rw [St.lt_irrefl] at h; cases h
structure St.It where
 id : List UInt8
 text : ByteArray
def St.Srt (L : List St.It) : Prop := L.Pairwise (fun a b => St.lt a.id b.id = true)
def St.Len (L : List St.It) : Prop := ∀ r ∈ L, r.id.length = 32
def St.pos (L : List St.It) (id : List UInt8) : Nat := L.findIdx (fun r => !St.lt r.id id)
def St.has (L : List St.It) (id : List UInt8) : Bool := L.any (fun r => decide (r.id = id))
def St.put (L : List St.It) (x : St.It) : List St.It := if St.has L x.id then L else L.take (St.pos L x.id) ++ x :: L.drop (St.pos L x.id)
theorem St.pos_le (L : List St.It) (id : List UInt8) : St.pos L id ≤ L.length := List.findIdx_le_length
theorem St.pos_before {L : List St.It} {id : List UInt8} {j : Nat} {r : St.It} (hj : j < St.pos L id) (hr : L[j]? = some r) : St.lt r.id id = true := by
 obtain ⟨h, rfl⟩ := List.getElem?_eq_some_iff.1 hr
 have := List.not_of_lt_findIdx hj
 simpa using this
theorem St.pos_from {L : List St.It} {id : List UInt8} (hs : St.Srt L) {j : Nat} {r : St.It} (hj : St.pos L id ≤ j) (hr : L[j]? = some r) : St.lt r.id id = false := by
 obtain ⟨h, rfl⟩ := List.getElem?_eq_some_iff.1 hr
 have hp : St.pos L id < L.length := by omega
 have h0 : St.lt (L[St.pos L id]).id id = false := by
  have := List.findIdx_getElem (w := hp)
  simp only [Bool.not_eq_true'] at this
  exact this
 rcases Nat.eq_or_lt_of_le hj with e | e
 · subst e; exact h0
 ·
  cases hq : St.lt (L[j]).id id with
  | false => rfl
  | true =>
    have := List.pairwise_iff_getElem.1 hs _ _ hp h e
    rw [St.lt_trans this hq] at h0; cases h0
theorem St.pos_eq {L : List St.It} (hs : St.Srt L) {j : Nat} {r : St.It} (hr : L[j]? = some r) : St.pos L r.id = j := by
 rcases Nat.lt_trichotomy (St.pos L r.id) j with h | h | h
 ·
  obtain ⟨hj, e⟩ := List.getElem?_eq_some_iff.1 hr
  have hp : St.pos L r.id < L.length := by omega
  have h1 := St.pos_from hs (Nat.le_refl _) (List.getElem?_eq_getElem hp)
  have h2 := List.pairwise_iff_getElem.1 hs _ _ hp hj h
  rw [e, h1] at h2; cases h2
 · exact h
 ·
  have := St.pos_before h hr
  rw [St.lt_irrefl] at this; cases this
theorem St.has_of {L : List St.It} {id : List UInt8} {j : Nat} {r : St.It} (hr : L[j]? = some r) (h : r.id = id) : St.has L id = true := by
 unfold St.has
 rw [List.any_eq_true]
 exact ⟨r, List.mem_of_getElem? hr, by simpa using h⟩
theorem St.has_at {L : List St.It} {id : List UInt8} (hs : St.Srt L) (h : St.has L id = true) : ∃ r, L[St.pos L id]? = some r ∧ r.id = id := by
 unfold St.has at h
 rw [List.any_eq_true] at h
 obtain ⟨r, hr, he⟩ := h
 obtain ⟨j, hj⟩ := List.getElem?_of_mem hr
 have e : r.id = id := by simpa using he
 refine ⟨r, ?_, e⟩
 rw [← e, St.pos_eq hs hj]; exact hj
theorem St.has_not {L : List St.It} {id : List UInt8} (h : St.has L id = false) {j : Nat} {r : St.It} (hr : L[j]? = some r) : r.id ≠ id := fun e => by
 rw [St.has_of hr e] at h; cases h
theorem St.pos_ahead {L : List St.It} {id : List UInt8} (hs : St.Srt L) (hl : St.Len L) (hil : id.length = 32) (h : St.has L id = false) {j : Nat} {r : St.It} (hr : L[j]? = some r) : St.lt id r.id = decide (St.pos L id ≤ j) := by
 by_cases hj : St.pos L id ≤ j
 ·
  rw [decide_eq_true hj]
  have h1 := St.pos_from hs hj hr
  rcases St.lt_tri (a := id) (b := r.id) (by rw [hil, hl r (List.mem_of_getElem? hr)]) with h2 | h2 | h2
  · exact h2
  · exact absurd h2.symm (St.has_not h hr)
  · rw [h2] at h1; cases h1
 ·
  rw [decide_eq_false hj]
  exact St.lt_asymm (St.pos_before (by omega) hr)
theorem St.srt_append {A B : List St.It} : St.Srt (A ++ B) ↔ St.Srt A ∧ St.Srt B ∧ ∀ a ∈ A, ∀ b ∈ B, St.lt a.id b.id = true := List.pairwise_append
theorem St.put_srt {L : List St.It} {x : St.It} (hs : St.Srt L) (hl : St.Len L) (hx : x.id.length = 32) : St.Srt (St.put L x) := by
 unfold St.put
 cases hq : St.has L x.id with
 | true => simpa using hs
 | false =>
   simp only [Bool.false_eq_true, if_false]
   have h0 : L.take (St.pos L x.id) ++ L.drop (St.pos L x.id) = L := List.take_append_drop _ _
   rw [← h0] at hs
   obtain ⟨h1, h2, h3⟩ := St.srt_append.1 hs
   have hs' : St.Srt L := by rw [← h0]; exact hs
   have ha : ∀ a ∈ L.take (St.pos L x.id), St.lt a.id x.id = true := fun a ha => by
    obtain ⟨j, hj⟩ := List.getElem?_of_mem ha
    rw [List.getElem?_take] at hj
    split at hj
    · rename_i hlt; exact St.pos_before hlt hj
    · cases hj
   have hb : ∀ b ∈ L.drop (St.pos L x.id), St.lt x.id b.id = true := fun b hb => by
    obtain ⟨j, hj⟩ := List.getElem?_of_mem hb
    rw [List.getElem?_drop] at hj
    have := St.pos_ahead hs' hl hx hq hj
    rw [this]; simp
   refine St.srt_append.2 ⟨h1, List.pairwise_cons.2 ⟨hb, h2⟩, fun a ha' b hb' => ?_⟩
   rcases List.mem_cons.1 hb' with rfl | hb'
   · exact ha a ha'
   · exact h3 a ha' b hb'
theorem St.put_mem {L : List St.It} {x r : St.It} (h : r ∈ St.put L x) : r ∈ L ∨ r = x := by
 unfold St.put at h
 split at h
 · exact .inl h
 ·
  rw [List.mem_append, List.mem_cons] at h
  rcases h with h | h | h
  · exact .inl (List.mem_of_mem_take h)
  · exact .inr h
  · exact .inl (List.mem_of_mem_drop h)
theorem St.put_lens {L : List St.It} {x : St.It} (hl : St.Len L) (hx : x.id.length = 32) : St.Len (St.put L x) := fun r hr => by
 rcases St.put_mem hr with h | rfl
 · exact hl r h
 · exact hx
theorem St.put_length (L : List St.It) (x : St.It) : (St.put L x).length ≤ L.length + 1 := by
 unfold St.put
 split
 · omega
 · simp; omega
theorem St.put_has {L : List St.It} {x : St.It} (h : St.has L x.id = true) : St.put L x = L := by unfold St.put; rw [if_pos h]
theorem St.put_new {L : List St.It} {x : St.It} (h : St.has L x.id = false) : St.put L x = L.take (St.pos L x.id) ++ x :: L.drop (St.pos L x.id) := by unfold St.put; rw [if_neg (by rw [h]; decide)]
theorem St.nil_srt : St.Srt [] := List.Pairwise.nil
theorem St.take_srt {L : List St.It} (h : St.Srt L) (k : Nat) : St.Srt (L.take k) := List.Pairwise.sublist (List.take_sublist k L) h
theorem St.put_up {L : List St.It} (hs : St.Srt L) {k : Nat} {x : St.It} (hx : L[k]? = some x) : St.put (L.take k) x = L.take (k + 1) := by
 obtain ⟨hk, rfl⟩ := List.getElem?_eq_some_iff.1 hx
 have hlt : ∀ (j : Nat) (r : St.It), (L.take k)[j]? = some r → St.lt r.id (L[k]).id = true := fun j r hj => by
  rw [List.getElem?_take] at hj
  split at hj
  ·
   rename_i hjk
   obtain ⟨hj', rfl⟩ := List.getElem?_eq_some_iff.1 hj
   exact List.pairwise_iff_getElem.1 hs _ _ hj' hk hjk
  · cases hj
 have hno : St.has (L.take k) (L[k]).id = false := by
  cases hq : St.has (L.take k) (L[k]).id with
  | false => rfl
  | true =>
    obtain ⟨r, hr, he⟩ := St.has_at (St.take_srt hs k) hq
    exact absurd he (St.lt_ne (hlt _ _ hr))
 have hp : St.pos (L.take k) (L[k]).id = k := by
  unfold St.pos
  have : (L.take k).findIdx (fun r => !St.lt r.id (L[k]).id) = (L.take k).length := List.findIdx_eq_length.2 (fun r hr => by
   obtain ⟨j, hj⟩ := List.getElem?_of_mem hr
   rw [hlt j r hj]; rfl)
  rw [this, List.length_take]; omega
 rw [St.put_new hno, hp, List.take_take, Nat.min_self, List.drop_eq_nil_of_le (by simp; omega), List.take_succ_eq_append_getElem hk]
def St.ins (L : List St.It) (x : St.It) (k : Nat) : List St.It := if k ≤ St.pos L x.id then L.take k else L.take (St.pos L x.id) ++ x :: (L.take k).drop (St.pos L x.id)
theorem St.ins_zero (L : List St.It) (x : St.It) : St.ins L x 0 = [] := by unfold St.ins; rw [if_pos (Nat.zero_le _)]; rfl
theorem St.ins_step {L : List St.It} {x : St.It} {k : Nat} {r : St.It} (hr : L[k]? = some r) : St.ins L x (k + 1) = (if St.pos L x.id = k then St.ins L x k ++ [x] else St.ins L x k) ++ [r] := by
 obtain ⟨hk, rfl⟩ := List.getElem?_eq_some_iff.1 hr
 unfold St.ins
 rcases Nat.lt_trichotomy (St.pos L x.id) k with h | h | h
 ·
  rw [if_neg (by omega), if_neg (by omega), if_neg (by omega), List.take_succ_eq_append_getElem hk, List.drop_append_of_le_length (by simp; omega)]
  simp
 ·
  rw [if_neg (by omega), if_pos h, if_pos (by omega), List.take_succ_eq_append_getElem hk, List.drop_append_of_le_length (by simp; omega), h, List.drop_eq_nil_of_le (by simp; omega)]
  simp
 · rw [if_pos (by omega), if_neg (by omega), if_pos (by omega), List.take_succ_eq_append_getElem hk]
theorem St.ins_end {L : List St.It} {x : St.It} (h : St.has L x.id = false) : St.put L x = if St.pos L x.id < L.length then St.ins L x L.length else St.ins L x L.length ++ [x] := by
 rw [St.put_new h]
 have := St.pos_le L x.id
 unfold St.ins
 by_cases hlt : St.pos L x.id < L.length
 · rw [if_pos hlt, if_neg (by omega), List.take_length]
 ·
  have e : St.pos L x.id = L.length := by omega
  rw [if_neg hlt, if_pos (by omega), e, List.take_length, List.drop_length]
theorem St.ins_len (L : List St.It) (x : St.It) (k : Nat) : (St.ins L x k).length ≤ L.length + 1 := by
 unfold St.ins
 split
 · simp; omega
 · simp; omega
end Go.Proofs.YtkcjhkfelaplkaaGreatDoor
end
section
namespace Go.Proofs.YtkcjhkfelaplkaaGreatDoor
open Go.RowKit
theorem below_new (w : World) (o : Obj) : Below w.heap.size w (w.alloc o) := (Below.refl _ _).alloc (Nat.le_refl _) _
def zIt : List Value := idC zId ++ [Value.string ⟨#[]⟩]
def itC (r : St.It) : List Value := idC r.id ++ [.string r.text]
theorem itC_length (r : St.It) : (itC r).length = r.id.length + 1 := by simp [itC, idC]
theorem itC_one (r : St.It) : ∀ v ∈ itC r, v.oneCell' = true := by
 intro v hv; simp only [itC, List.mem_append, List.mem_singleton] at hv
 rcases hv with h | rfl
 · exact idC_one _ _ h
 · rfl
theorem infoIt : (Tryz.prog.info? 148).map (fun i => (i.zero, i.size, i.bytes)) = some (some (.agg zIt.toArray), 33, 48) := by kernel_rfl
theorem infoIz : (Tryz.prog.info? 148).map (·.size) = some 33 := by kernel_rfl
theorem underIt : Tryz.prog.underlying 148 = some (.struct (Tryz.prog.fieldsOf 148)) := by kernel_rfl
theorem itsize {r : St.It} (h : r.id.length = 32) : (Tryz.prog.info? 148).map (·.size) = some (itC r).length := by rw [itC_length, h]; exact infoIz
def ItsAt (w : World) (v : Value) (L : List St.It) : Prop := RowsAt w v 33 (L.map itC)
theorem ItsAt.form {w : World} {v : Value} {L : List St.It} (h : ItsAt w v L) : ∃ ao cap, v = .slice ao L.length cap := by simpa using RowsAt.form h
theorem ItsAt.below {w w' : World} {v : Value} {L : List St.It} (h : ItsAt w v L) (hb : Below w.heap.size w w') : ItsAt w' v L := RowsAt.below h hb
theorem ItsAt.elem {w : World} {ao : Option Addr} {n cap : Nat} {L : List St.It} (h : ItsAt w (.slice ao n cap) L) (i : Nat) (r : St.It) (hi : L[i]? = some r) :
  ∃ a, ao = some a ∧ r.id.length = 32 ∧ ∀ j x, (itC r)[j]? = some x → w.cell? ((a.add (i * 33)).add j) = some x := by
 obtain ⟨a, h1, h2, h3⟩ := RowsAt.elem h i (itC r) (by simp [hi])
 rw [itC_length] at h2
 exact ⟨a, h1, by omega, h3⟩
theorem ItsAt.len {w : World} {v : Value} {L : List St.It} (h : ItsAt w v L) : ∀ r ∈ L, r.id.length = 32 := fun r hr => by
 obtain ⟨ao, cap, rfl⟩ := h.form
 obtain ⟨i, hi⟩ := List.getElem?_of_mem hr
 obtain ⟨a, _, h2, _⟩ := h.elem i r hi
 exact h2
theorem it_id {w : World} {p : Addr} {r : St.It} (h : ∀ j x, (itC r)[j]? = some x → w.cell? (p.add j) = some x) : ∀ j x, (idC r.id)[j]? = some x → w.cell? (p.add j) = some x := fun j x hx => h j x (by
 simp only [itC]
 rw [List.getElem?_append_left (List.getElem?_eq_some_iff.1 hx).1]; exact hx)
theorem it_text {w : World} {p : Addr} {r : St.It} (h : ∀ j x, (itC r)[j]? = some x → w.cell? (p.add j) = some x) (hl : r.id.length = 32) : w.cell? (p.add 32) = some (.string r.text) := h 32 _ (by
 simp only [itC]
 rw [List.getElem?_append_right (by rw [idC_length]; omega), idC_length, hl]; rfl)
theorem own_bel {w w' : World} {B e k n : Nat} {v : Value} {xs : List Value} (h : w.ownsRow B e k v n xs) (hb : Below w.heap.size w w') : w'.ownsRow B e k v n xs := by
 refine ⟨h.1, h.2.imp id ?_⟩
 rintro ⟨g, cap, cur, hv, hg, hh, hrest⟩
 have hlt : g < w.heap.size := (Array.getElem?_eq_some_iff.1 hh).1
 exact ⟨g, cap, cur, hv, hg, (hb.block g hlt).trans hh, hrest⟩
def OwnF (w : World) (base : Nat) (v : Value) (L : List St.It) : Prop := w.ownsRow base 148 33 v L.length (L.flatMap itC)
theorem flat_len (L : List St.It) (h : ∀ r ∈ L, r.id.length = 32) : (L.flatMap itC).length = L.length * 33 := by
 induction L with
 | nil => rfl
 | cons r t ih =>
   rw [List.flatMap_cons, List.length_append, ih (fun x hx => h x (by simp [hx])), itC_length, h r (by simp), List.length_cons]; omega
theorem it_flat_get (L : List St.It) : (∀ r ∈ L, r.id.length = 32) → ∀ (i : Nat) (p : St.It), L[i]? = some p → ∀ (j : Nat) (x : Value), (itC p)[j]? = some x → (L.flatMap itC)[i * 33 + j]? = some x := by
 induction L with
 | nil => intro _ i l hi; simp at hi
 | cons a r ih =>
   intro h i l hi j x hx
   have ha : (itC a).length = 33 := by rw [itC_length, h a (by simp)]
   rw [List.flatMap_cons]
   cases i with
   | zero =>
     simp at hi; subst hi
     have hj : j < 33 := by
      have := (List.getElem?_eq_some_iff.1 hx).1; omega
     rw [Nat.zero_mul, Nat.zero_add, List.getElem?_append_left (by omega)]
     exact hx
   | succ i =>
     simp at hi
     rw [List.getElem?_append_right (by omega), show (i + 1) * 33 + j - (itC a).length = i * 33 + j by omega]
     exact ih (fun x hx => h x (by simp [hx])) i l hi j x hx
theorem OwnF.rows {w : World} {base : Nat} {v : Value} {L : List St.It} (h : OwnF w base v L) (hid : ∀ r ∈ L, r.id.length = 32) : ItsAt w v L := by
 refine ⟨?_⟩
 rcases h.2 with ⟨rfl, h0⟩ | ⟨g, cap, cur, rfl, hg, hb⟩
 ·
  exact .inl ⟨rfl, by have : L = [] := by simpa using h0
                      simp [this]⟩
 ·
  refine .inr ⟨⟨g, 0, none⟩, cap, by simp, fun i cs hi => ?_⟩
  rw [List.getElem?_map] at hi
  cases hq : L[i]? with
  | none => simp [hq] at hi
  | some r =>
    simp [hq] at hi; subst hi
    refine ⟨by rw [itC_length, hid r (List.mem_of_getElem? hq)], fun j x hx => ?_⟩
    have := World.ownsRow.cells h (g := g) rfl (i * 33 + j) x (it_flat_get L hid i r hq j x hx)
    rw [Addr.add_mid] at this
    rw [Addr.add_mid, Addr.add_mid]
    simpa [Nat.add_assoc] using this
theorem own_nil (w : World) (base : Nat) : OwnF w base (.slice none 0 0) [] := World.ownsRow_nil _ _ _ _
theorem own_push {w : World} {base : Nat} {v : Value} {L : List St.It} {p : St.It} (h : w.ownsRow base 148 33 v (L.length + 1) (L.flatMap itC ++ itC p)) : OwnF w base v (L ++ [p]) := by
 unfold OwnF
 rw [List.flatMap_append, List.length_append]
 simpa using h
theorem row_news {w : World} {g : Nat} {l : List Value} {t : TypeId} (h : w.heap[g]? = some (.cells l.toArray t)) : ∀ j u, l[j]? = some u → w.cell? ((⟨g, 0, none⟩ : Addr).add j) = some u := fun j u hu => by
 rw [Addr.add_mid, Nat.zero_add, cell_of_row _ _ _ _ t (0, 0) h]
 simpa using hu
theorem below_grown {w w' : World} (h : Below w.heap.size w w') : w.grownBy w' none := ⟨h.os, h.tape, h.output, h.size, fun k hk _ => h.block k hk⟩
theorem drop_app {α : Type} (A B : List α) (n : Nat) (h : A.length = n) : (A ++ B).drop n = B := by subst h; exact List.drop_left
theorem take_app {α : Type} (A B : List α) (n : Nat) (h : A.length = n) : (A ++ B).take n = A := by subst h; exact List.take_left
theorem take_app2 {α : Type} (A B : List α) (n k : Nat) (h : A.length = n) : (A ++ B).take (n + k) = A ++ B.take k := by
 subst h; rw [List.take_append, List.take_of_length_le (by omega), Nat.add_sub_cancel_left]
theorem splice_cons {α : Type} (L : List α) (o : Nat) (v : α) (r : List α) (h : o < L.length) : splice (L.set o v) (o + 1) r = splice L o (v :: r) := by
 unfold splice
 rw [List.take_set, List.drop_set_of_lt (by omega), List.length_cons, show o + (r.length + 1) = o + 1 + r.length by omega]
 rw [List.take_succ_eq_append_getElem h, List.set_append_right _ _ (by simp; omega)]
 simp [Nat.min_eq_left (Nat.le_of_lt h)]
theorem setCells_row (b : Nat) (t : TypeId) : ∀ (vs : List Value) (o : Nat) (w : World) (cur : List Value), w.heap[b]? = some (.cells cur.toArray t (0, 0)) → o + vs.length ≤ cur.length → (w.setCells b o vs).heap[b]? = some (.cells (splice cur o vs).toArray t (0, 0))
 | [], o, w, cur, h, hl => by simpa [World.setCells, splice] using h
 | v :: r, o, w, cur, h, hl => by
   have hl' : o + (r.length + 1) ≤ cur.length := by simpa using hl
   rw [World.setCells]
   have h1 := heap_setCell_same w b o cur.toArray t v h
   have e : cur.toArray.setIfInBounds o v = (cur.set o v).toArray := by simp
   rw [e] at h1
   have := setCells_row b t r (o + 1) _ (cur.set o v) h1 (by simp; omega)
   rw [this, splice_cons _ _ _ _ (by omega)]
theorem grown_setCell (w : World) (a : Addr) (u : Value) : w.grownBy (w.setCell a u) (some a.block) :=
 ⟨rfl, rfl, rfl, by simp [World.setCell], fun k hk hne => Below.heap_setCell _ _ _ _ (fun e => hne (by rw [e]))⟩
theorem grown_refl (w : World) (row : Option Nat) : w.grownBy w row := ⟨rfl, rfl, rfl, Nat.le_refl _, fun _ _ _ => rfl⟩
theorem grown_setCells (b : Nat) : ∀ (vs : List Value) (o : Nat) (w : World), w.grownBy (w.setCells b o vs) (some b)
 | [], o, w => grown_refl w _
 | v :: r, o, w => (grown_setCell w ⟨b, o, none⟩ v).trans (grown_setCells b r (o + 1) _)
theorem grown_drew (w : World) (row : Option Nat) : w.grownBy w.drew row := ⟨rfl, rfl, rfl, Nat.le_refl _, fun _ _ _ => rfl⟩
theorem row_at {w : World} {g : Nat} {cur : List Value} {t : TypeId} (h : w.heap[g]? = some (.cells cur.toArray t (0, 0))) (o : Nat) (x : Value) (hx : cur[o]? = some x) : w.cell? ⟨g, o, none⟩ = some x := by
 rw [cell_of_row _ _ o _ _ _ h]; simpa using hx
theorem row_there {w : World} {g : Nat} {cur : List Value} {t : TypeId} (h : w.heap[g]? = some (.cells cur.toArray t (0, 0))) (o : Nat) (ho : o < cur.length) : (w.cell? ⟨g, o, none⟩).isSome = true := by
 rw [row_at h o _ (List.getElem?_eq_getElem ho)]; rfl
theorem row_free {w : World} {g : Nat} {cur : List Value} {t : TypeId} (h : w.heap[g]? = some (.cells cur.toArray t (0, 0))) (o : Nat) : w.frozen? ⟨g, o, none⟩ = false := frozen_of_row _ _ o _ _ h
section
variable {P : Program}
theorem run_copy_k (w : World) (dT sT ty elem : TypeId) (k b o dLen dCap : Nat) (a : Addr) (sLen sCap n : Nat) (cs : List Value)
  (hu : P.underlying dT = some (.slice elem)) (hs : (P.info? elem).map (·.size) = some k) (hn : Nat.min sLen dLen = n) (hl0 : cs.length = n * k)
  (hsrc : ∀ j v, cs[j]? = some v → w.cell? (a.add j) = some v) (hc : ∀ j, j < cs.length → (w.cell? ⟨b, o + j, none⟩).isSome = true) (hf : ∀ j, j < cs.length → w.frozen? ⟨b, o + j, none⟩ = false) (h1 : ∀ v ∈ cs, v.oneCell' = true) :
  (Builtin.copy_ #[dT, sT] ty #[.slice (some ⟨b, o, none⟩) dLen dCap, .slice (some a) sLen sCap]).run P w = .ok (goInt n) (w.setCells b o cs) := by
 have hl := run_loadCells_list (P := P) w a cs hsrc
 have hst := run_storeCells_cells (P := P) b o cs 0 w (by simpa using hc) (by simpa using hf) h1
 rw [hl0] at hl
 cases hq : P.info? elem with
 | none => simp [hq] at hs
 | some i =>
   have hi : i.size = k := by simpa [hq] using hs
   simp [Builtin.copy_, run_underlying hu, Builtin.lenOf, Builtin.firstCells, sizeOf, typeInfo, hq, hi, hn, hl, hst]
theorem wpList_copy_k {w : World} {ops : Array Oper} {rest : List Oper} {o : Oper} {a : Act} {Q : Exit → Act → World → Prop} (hgd : o.guard = none) (d s : Operand) (dT sT : TypeId)
  (ho : o.op = .call { callee := .builtin .copy, args := #[d, s], argTypes := #[dT, sT] }) (elem : TypeId) (k : Nat) (hu : P.underlying dT = some (.slice elem)) (hs : (P.info? elem).map (·.size) = some k)
  (g off dLen dCap : Nat) (ad : Addr) (sLen sCap n : Nat) (hd : a.eval d = .slice (some ⟨g, off, none⟩) dLen dCap) (hx : a.eval s = .slice (some ad) sLen sCap) (hn : Nat.min sLen dLen = n)
  (cur : List Value) (t : TypeId) (hg : w.heap[g]? = some (.cells cur.toArray t (0, 0))) (cs : List Value) (hl0 : cs.length = n * k)
  (hsrc : ∀ j v, cs[j]? = some v → w.cell? (ad.add j) = some v) (hfit : off + cs.length ≤ cur.length) (h1 : ∀ v ∈ cs, v.oneCell' = true)
  (h : ∀ w', Hid (w'.heap[g]? = some (.cells (splice cur off cs).toArray t (0, 0))) → w.grownBy w' (some g) → wpList P ops Q rest (a.put o.dst (goInt n)) w') : wpList P ops Q (o :: rest) a w := by
 refine wpList_plain hgd fun K hK => ?_
 have hrun := run_copy_k (P := P) w dT sT o.type elem k g off dLen dCap ad sLen sCap n cs hu hs hn hl0 hsrc (fun j hj => row_there hg _ (by omega)) (fun j _ => row_free hg _) h1
 unfold Oper.wp execOp
 simp only [ho, resolve, invoke, builtin, Sem.run_bind, Sem.run_pure, Result.andThen_ok, List.map_toArray, List.map_cons, List.map_nil, hd, hx, hrun]
 exact hK _ _ (h _ (setCells_row g t cs off w cur hg hfit) (grown_setCells g cs off w))
theorem step_copy_k {w : World} {ops : Array Oper} {o : Oper} {a : Act} {K : Act → World → Prop} {Q : Exit → Act → World → Prop} {E : Prop} (hgd : o.guard = none) (d s : Operand) (dT sT : TypeId)
  (ho : o.op = .call { callee := .builtin .copy, args := #[d, s], argTypes := #[dT, sT] }) (elem : TypeId) (k : Nat) (hu : P.underlying dT = some (.slice elem)) (hs : (P.info? elem).map (·.size) = some k)
  (g off dLen dCap : Nat) (ad : Addr) (sLen sCap n : Nat) (hd : a.eval d = .slice (some ⟨g, off, none⟩) dLen dCap) (hx : a.eval s = .slice (some ad) sLen sCap) (hn : Nat.min sLen dLen = n)
  (cur : List Value) (t : TypeId) (hg : w.heap[g]? = some (.cells cur.toArray t (0, 0))) (cs : List Value) (hl0 : cs.length = n * k)
  (hsrc : ∀ j v, cs[j]? = some v → w.cell? (ad.add j) = some v) (hfit : off + cs.length ≤ cur.length) (h1 : ∀ v ∈ cs, v.oneCell' = true)
  (h : ∀ w', Hid (w'.heap[g]? = some (.cells (splice cur off cs).toArray t (0, 0))) → w.grownBy w' (some g) → K (a.put o.dst (goInt n)) w') :
  if Region.wanted o (yielded ops a.tmps) = true then Oper.wp P o a w K Q else E := by
 have hw : Region.wanted o (yielded ops a.tmps) = true := by simp [Region.wanted, hgd]
 rw [if_pos hw]
 have hrun := run_copy_k (P := P) w dT sT o.type elem k g off dLen dCap ad sLen sCap n cs hu hs hn hl0 hsrc (fun j hj => row_there hg _ (by omega)) (fun j _ => row_free hg _) h1
 unfold Oper.wp execOp
 simp only [ho, resolve, invoke, builtin, Sem.run_bind, Sem.run_pure, Result.andThen_ok, List.map_toArray, List.map_cons, List.map_nil, hd, hx, hrun]
 exact h _ (setCells_row g t cs off w cur hg hfit) (grown_setCells g cs off w)
end
/-! ### slices.Clone -/
theorem add_add (p : Addr) (i j : Nat) : (p.add i).add j = p.add (i + j) := by
 unfold Addr.add
 by_cases hi : i = 0
 · simp [hi]
 ·
  by_cases hj : j = 0
  · simp [hi, hj]
  · simp [hi, hj]; omega
theorem it_flat_at : ∀ (L : List St.It), (∀ r ∈ L, r.id.length = 32) → ∀ (j : Nat) (u : Value), (L.flatMap itC)[j]? = some u → ∃ i r q, L[i]? = some r ∧ (itC r)[q]? = some u ∧ j = i * 33 + q
 | [], _, j, u, h => by simp at h
 | a :: t, hid, j, u, h => by
   have ha : (itC a).length = 33 := by rw [itC_length, hid a (by simp)]
   rw [List.flatMap_cons] at h
   by_cases hj : j < 33
   ·
    rw [List.getElem?_append_left (by omega)] at h
    exact ⟨0, a, j, rfl, h, by omega⟩
   ·
    rw [List.getElem?_append_right (by omega), ha] at h
    obtain ⟨i, r, q, h1, h2, h3⟩ := it_flat_at t (fun x hx => hid x (by simp [hx])) (j - 33) u h
    exact ⟨i + 1, r, q, by simpa using h1, h2, by omega⟩
theorem ItsAt.cells {w : World} {a : Addr} {n cap : Nat} {L : List St.It} (h : ItsAt w (.slice (some a) n cap) L) : ∀ j u, (L.flatMap itC)[j]? = some u → w.cell? (a.add j) = some u := fun j u hu => by
 obtain ⟨i, r, q, h1, h2, h3⟩ := it_flat_at L h.len j u hu
 obtain ⟨a', e, _, hc⟩ := h.elem i r h1
 cases e
 have := hc q u h2
 rw [add_add, ← h3] at this
 exact this
theorem flat_one (L : List St.It) : ∀ v ∈ L.flatMap itC, v.oneCell' = true := fun v hv => by
 obtain ⟨r, _, h⟩ := List.mem_flatMap.1 hv
 exact itC_one r v h
theorem flat_take (L : List St.It) (h : ∀ r ∈ L, r.id.length = 32) (i : Nat) (hi : i ≤ L.length) : (L.flatMap itC).take (i * 33) = (L.take i).flatMap itC := by
 have h1 : (L.take i).flatMap itC ++ (L.drop i).flatMap itC = L.flatMap itC := by rw [← List.flatMap_append, List.take_append_drop]
 have h2 := flat_len (L.take i) (fun r hr => h r (List.mem_of_mem_take hr))
 rw [List.length_take, Nat.min_eq_left hi] at h2
 rw [← h1, ← h2, List.take_left]
theorem flat_drop (L : List St.It) (h : ∀ r ∈ L, r.id.length = 32) (i : Nat) (hi : i ≤ L.length) : (L.flatMap itC).drop (i * 33) = (L.drop i).flatMap itC := by
 have h1 : (L.take i).flatMap itC ++ (L.drop i).flatMap itC = L.flatMap itC := by rw [← List.flatMap_append, List.take_append_drop]
 have h2 := flat_len (L.take i) (fun r hr => h r (List.mem_of_mem_take hr))
 rw [List.length_take, Nat.min_eq_left hi] at h2
 rw [← h1, ← h2, List.drop_left]
theorem OwnF.open_ {w : World} {base : Nat} {v : Value} {L : List St.It} (h : OwnF w base v L) (hne : 0 < L.length) :
  ∃ g cap cur, v = .slice (some ⟨g, 0, none⟩) L.length cap ∧ base ≤ g ∧ w.heap[g]? = some (.cells (cur : List Value).toArray 148 (0, 0)) ∧ L.length ≤ cap ∧ cap ≤ maxLen ∧ cur.length = cap * 33 ∧ cur.take (L.length * 33) = L.flatMap itC := by
 rcases h.2 with ⟨_, h0⟩ | ⟨g, cap, cur, hv, hb, hh, h1, h2, h3, h4⟩
 · omega
 · exact ⟨g, cap, cur.toList, hv, hb, by simpa using hh, h1, h2, by simpa using h3, h4⟩
theorem OwnF.shut {w : World} {base g cap : Nat} {cur : List Value} {L : List St.It} (hb : base ≤ g) (hh : w.heap[g]? = some (.cells cur.toArray 148 (0, 0))) (h1 : L.length ≤ cap) (h2 : cap ≤ maxLen) (h3 : cur.length = cap * 33) (h4 : cur.take (L.length * 33) = L.flatMap itC) (hid : ∀ r ∈ L, r.id.length = 32) :
  OwnF w base (.slice (some ⟨g, 0, none⟩) L.length cap) L := ⟨flat_len L hid, .inr ⟨g, cap, cur.toArray, rfl, hb, hh, h1, h2, by simpa using h3, by simpa using h4⟩⟩
theorem overlaps_no (w : World) (vb g : Nat) (c cur : Array Value) (hv : w.heap[vb]? = some (.cells c 148 (0, 0))) (hg : w.heap[g]? = some (.cells cur 148 (0, 0))) (hne : vb ≠ g) (hk : cur.size ≠ 0) (o : Nat) (lb cb : Nat) :
  (callFunc 161 #[.slice (some ⟨vb, 0, none⟩) 1 1, .slice (some ⟨g, o, none⟩) lb cb]).run Tryz.prog w = .ok (.value (.bool false)) w := by
 rw [run_callFunc_extern Tryz.func161 (by kernel_rfl) (by kernel_rfl) (by kernel_rfl) (e := Extern.SlicesOverlaps.overlaps #[140, 140] #[4]) (by kernel_rfl),
  Lib.run_overlaps_apart w 140 4 148 Tryz.underlying140 33 (fun w => by
   obtain ⟨i0, hi, _, hz1, _⟩ := info_parts infoIt
   simp [Go.sizeOf, typeInfo, hi, hz1]) ⟨vb, 0, none⟩ ⟨g, o, none⟩ 1 1 lb cb hne 148 148 c.size cur.size (by simp [World.shape?, hv]) (by simp [World.shape?, hg]) hk (frozen_of_row _ _ _ _ _ hv) (frozen_of_row _ _ _ _ _ hv)]
 rfl
theorem insert_room (g cap i m vb : Nat) (cur : List Value) (r : St.It) (w : World) (hg : w.heap[g]? = some (.cells cur.toArray 148 (0, 0))) (hv : w.heap[vb]? = some (.cells (itC r).toArray 148 (0, 0))) (hne : vb ≠ g) (hrl : r.id.length = 32)
  (hcl : cur.length = cap * 33) (hm : i + 1 + m + 1 ≤ cap) (hcm : cap ≤ 9223372036854775807) (h1 : ∀ v ∈ cur.take ((i + 1 + m) * 33), v.oneCell' = true) :
  Calls Tryz.prog 113 #[.slice (some ⟨g, 0, none⟩) (i + 1 + m) cap, .int .i64 (i : Int), .slice (some ⟨vb, 0, none⟩) 1 1] w fun e w' =>
   e = .returned (.slice (some ⟨g, 0, none⟩) (i + 1 + m + 1) cap) ∧ (∃ cur' : List Value, w'.heap[g]? = some (.cells cur'.toArray 148 (0, 0)) ∧ cur'.length = cap * 33 ∧ cur'.take ((i + 1 + m + 1) * 33) = cur.take (i * 33) ++ (itC r ++ (cur.take ((i + 1 + m) * 33)).drop (i * 33))) ∧ w.grownBy w' (some g) := by
 have hvlt : vb < w.heap.size := (Array.getElem?_eq_some_iff.1 hv).1
 have hov := overlaps_no w vb g _ _ hv hg hne (by simp [hcl]; omega) ((i + 1) * 33)
 have HG := Lib.hid hg
 have HV := Lib.hid hv
 have HCL := Lib.hid hcl
 have HRL := Lib.hid (show (itC r).length = 33 by rw [itC_length, hrl])
 obtain ⟨news, hnews⟩ : ∃ news, news = (cur.take ((i + 1 + m) * 33)).drop (i * 33) := ⟨_, rfl⟩
 have HNL := Lib.hid (show news.length = (m + 1) * 33 by rw [hnews]; simp; omega)
 have HN1 := Lib.hid (show ∀ v ∈ news, v.oneCell' = true from fun v hv => h1 v (by rw [hnews] at hv; exact List.mem_of_mem_drop hv))
 have HNC := Lib.hid (show ∀ j v, news[j]? = some v → w.drew.cell? ((⟨g, i * 33, none⟩ : Addr).add j) = some v from fun j v hj => by
  rw [Addr.add_mid]
  refine row_at (w := w.drew) hg _ _ ?_
  rw [hnews, List.getElem?_drop, List.getElem?_take] at hj
  split at hj
  · exact hj
  · cases hj)
 have HNW := Lib.hid hnews
 clear hg hcl h1 hnews hv
 have b1 : (0 : Int) ≤ (i : Int) := by omega
 have b3 : ((i : Int) == (i : Int) + 1 + (m : Int)) = false := beq_eq_false_iff_ne.2 (by omega)
 have b4 : ¬ cap = i := by omega
 have b5 : ¬ cap = i + 1 := by omega
 have b6 : (i : Int) ≤ (i : Int) + 1 + (m : Int) := by omega
 have b7 : ¬ (cap : Int) < (i : Int) + 1 + (m : Int) + 1 := by omega
 have b8 : (i : Int) ≤ (i : Int) + 1 + (m : Int) + 1 := by omega
 have b9 : (i : Int) + 1 ≤ (i : Int) + 1 + (m : Int) + 1 := by omega
 have e3 : ((i : Int) + 1).toNat = i + 1 := by omega
 have e4 : IntKind.i64.wrap ((i : Int) + 1) = (i : Int) + 1 := IntWalk.i64_in _ (by omega)
 have b0 : (0 : Int) ≤ (i : Int) + 1 := by omega
 go_enter Tryz.func113, Tryz.ntmps113
 go_wp2_with (simp only [hov])
 go_region_law (refine step_copy_k rfl (.tmp 73) (.tmp 76) 140 140 rfl 148 33 Tryz.underlying140 infoIz g ((i + 1) * 33) (i + 1 + m + 1 - (i + 1)) (cap - (i + 1)) ⟨g, i * 33, none⟩ (i + 1 + m + 1 - i) (cap - i) (m + 1) (by simp [Act.eval, Act.put]) (by simp [Act.eval, Act.put]) (by simp only [Nat.min_def]; split <;> omega) cur 148 HG.out news HNL.out HNC.out (by rw [HNL.out, HCL.out]; omega) HN1.out ?_; intro w1 HG1 hgr1)
 have HC1 := Lib.hid (show (splice cur ((i + 1) * 33) news).length = cap * 33 by rw [length_splice _ _ _ (by rw [HNL.out, HCL.out]; omega), HCL.out])
 have HT1 := Lib.hid (show (splice cur ((i + 1) * 33) news).take (i * 33) = cur.take (i * 33) ∧ ((splice cur ((i + 1) * 33) news).drop ((i + 1) * 33)).take ((m + 1) * 33) = news by
  unfold splice
  have hl : (cur.take ((i + 1) * 33)).length = (i + 1) * 33 := by rw [List.length_take, HCL.out]; omega
  refine ⟨?_, ?_⟩
  · rw [List.take_append_of_le_length (by omega), List.take_take, Nat.min_eq_left (by omega)]
  · rw [drop_app _ _ _ hl, take_app _ _ _ HNL.out])
 have HV1 := Lib.hid (row_news ((hgr1.block vb hvlt (by simpa using hne)).trans HV.out))
 generalize splice cur ((i + 1) * 33) news = cur1 at *
 have HGR := Lib.hid ((grown_drew w (some g)).trans hgr1)
 clear hgr1 hov
 go_wp2_with ((with_reducible refine wpList_copy_k (P := Tryz.prog) ?_ (.tmp 80) (.tmp 81) 140 140 ?_ 148 33 Tryz.underlying140 infoIz g (i * 33) (i + 1 + m + 1 - i) (cap - i) ⟨vb, 0, none⟩ 1 1 1 ?_ ?_ ?_ cur1 148 HG1.out (itC r) ?_ HV1.out ?_ (itC_one r) ?_); rfl; rfl; rfl; rfl; (simp only [Nat.min_def]; split <;> omega); (rw [HRL.out]); (rw [HRL.out, HC1.out]; omega); intro w2 HG2 hgr2)
 go_ret
 refine ⟨rfl, ⟨_, HG2.out, ?_, ?_⟩, HGR.out.trans hgr2⟩
 · rw [length_splice _ _ _ (by rw [HRL.out, HC1.out]; omega), HC1.out]
 ·
  unfold splice
  have hl : (cur.take (i * 33)).length = i * 33 := by rw [List.length_take, HCL.out]; omega
  rw [HT1.out.1, HRL.out, show (i + 1 + m + 1) * 33 = i * 33 + (33 + (m + 1) * 33) by omega, take_app2 _ _ _ _ hl, take_app2 _ _ _ _ HRL.out, show i * 33 + 33 = (i + 1) * 33 by omega, HT1.out.2, HNW.out]
theorem wpList_zeros {P : Program} {w : World} {ops : Array Oper} {rest : List Oper} {o : Oper} {a : Act} {Q : Exit → Act → World → Prop} (hgd : o.guard = none) (d s : Operand) (t t' : TypeId)
  (ho : o.op = .call { callee := .builtin .append, args := #[d, s], argTypes := #[t, t'] }) (v v' : Value) (x : Int) (k : Nat) (hd : a.eval d = v) (hx : a.eval s = .int .i64 x) (hk : x = (k : Int)) {w' : World}
  (hr : ∀ ty, (Builtin.append_ #[t, t'] ty #[v, .int .i64 (k : Int)]).run P w = .ok v' w') (h : wpList P ops Q rest (a.put o.dst v') w') : wpList P ops Q (o :: rest) a w := by
 refine wpList_plain hgd fun K hK => ?_
 subst hk
 unfold Oper.wp execOp
 simp only [ho, resolve, invoke, builtin, Sem.run_bind, Sem.run_pure, Result.andThen_ok, List.map_toArray, List.map_cons, List.map_nil, hd, hx, hr]
 exact hK _ _ h
theorem own_cap (ao : Option Addr) (n c n' c' : Nat) : (Value.slice ao n c).ownBlock = (Value.slice ao n' c').ownBlock := by cases ao <;> rfl
theorem zeros_row (w : World) (g cap i k : Nat) (cur : List Value) (hg : w.heap[g]? = some (.cells cur.toArray 148 (0, 0))) (hcl : cur.length = cap * 33) (hi : i ≤ cap) (hk : 0 < k) (hr : cap < i + k) (hb : i + k ≤ 1000) :
  ∃ (G : Nat) (ROW : List Value) (w' : World), i + k ≤ G ∧ G ≤ maxLen ∧ ROW.length = G * 33 ∧ Hid (ROW.take (i * 33) = cur.take (i * 33)) ∧ Hid (w'.heap[w.heap.size]? = some (.cells ROW.toArray 148 (0, 0))) ∧ Hid (w.grownBy w' none) ∧ w.heap.size < w'.heap.size ∧
   ∀ ty, (Builtin.append_ #[140, 3] ty #[.slice (some ⟨g, 0, none⟩) i cap, .int .i64 (k : Int)]).run Tryz.prog w = .ok (.slice (some ⟨w.heap.size, 0, none⟩) (i + k) G) w' := by
 obtain ⟨i0, hi0, hz0, hz1, hz2⟩ := info_parts infoIt
 have hold : (Builtin.firstCells i0.size i (.slice (some ⟨g, 0, none⟩) i cap)).run Tryz.prog w.drew = .ok (cur.take (i * 33)).toArray w.drew := by
  rw [hz1]
  exact run_firstCells_some w.drew 33 i ⟨g, 0, none⟩ i cap (cur.take (i * 33)) (by rw [List.length_take, hcl]; omega) (fun j v hj => by
   rw [Addr.add_mid, Nat.zero_add]
   rw [List.getElem?_take] at hj
   split at hj
   · exact row_at (w := w.drew) hg _ _ hj
   · cases hj)
 have hge := grownCap_ge w (i + k) cap 148
 have hle := grownCap_le_maxLen w (i + k) cap 148 (by unfold maxLen; omega)
 have hrun := fun ty => Lib.run_append_grow_zeros (P := Tryz.prog) w 140 3 ty 148 i0 _ .i64 .i64 Tryz.underlying140 Tryz.underlying3 hi0 hz0 (some ⟨g, 0, none⟩) i cap _ hold k hk (by omega) hr (by omega) (by rw [hz2]; omega) (by rw [hz2]; exact growslice_fits hr (by omega))
 generalize hG : grownCap w (i + k) cap 148 = G at hrun hge hle
 generalize hR : ((cur.take (i * 33)).toArray ++ Builtin.zeroCells (Value.agg zIt.toArray).cells k ++ Builtin.zeroCells (Value.agg zIt.toArray).cells (G - (i + k))) = ROW at hrun
 refine ⟨G, ROW.toList, w.drew.alloc (.cells ROW 148), hge, hle, ?_, ?_, ?_, ?_, ?_, hrun⟩
 ·
  have hz : (Value.agg zIt.toArray).cells.size = 33 := rfl
  rw [← hR]
  simp only [Array.length_toList, Array.size_append, size_zeroCells, hz, List.size_toArray, List.length_take, hcl]
  rw [Nat.min_eq_left (by omega), ← Nat.add_mul, ← Nat.add_mul]
  congr 1; omega
 ·
  show _ = _
  rw [← hR, Array.toList_append, Array.toList_append, List.append_assoc]
  exact take_app _ _ _ (by simp [hcl]; omega)
 ·
  show _ = _
  rw [Array.toArray_toList]; exact heap_alloc_new w.drew _
 · exact ⟨rfl, rfl, rfl, by simp, fun k hk _ => Below.heap_alloc w.drew _ k hk⟩
 · simp
theorem insert_grow (g i m vb : Nat) (cur : List Value) (r : St.It) (w : World) (hg : w.heap[g]? = some (.cells cur.toArray 148 (0, 0))) (hv : w.heap[vb]? = some (.cells (itC r).toArray 148 (0, 0))) (hrl : r.id.length = 32)
  (hcl : cur.length = (i + 1 + m) * 33) (hsm : i + 1 + m ≤ 64) (h1 : ∀ v ∈ cur, v.oneCell' = true) :
  Calls Tryz.prog 113 #[.slice (some ⟨g, 0, none⟩) (i + 1 + m) (i + 1 + m), .int .i64 (i : Int), .slice (some ⟨vb, 0, none⟩) 1 1] w fun e w' =>
   ∃ G, e = .returned (.slice (some ⟨w.heap.size, 0, none⟩) (i + 1 + m + 1) G) ∧ i + 1 + m + 1 ≤ G ∧ G ≤ maxLen ∧ (∃ cur' : List Value, w'.heap[w.heap.size]? = some (.cells cur'.toArray 148 (0, 0)) ∧ cur'.length = G * 33 ∧ cur'.take ((i + 1 + m + 1) * 33) = cur.take (i * 33) ++ (itC r ++ cur.drop (i * 33))) ∧ w.grownBy w' none := by
 have hvlt : vb < w.heap.size := (Array.getElem?_eq_some_iff.1 hv).1
 have hglt : g < w.heap.size := (Array.getElem?_eq_some_iff.1 hg).1
 obtain ⟨G, ROW, w0, hG1, hG2, hRL, HRT, HG0, HGR0, hsz, hzr⟩ := zeros_row w g (i + 1 + m) i (m + 2) cur hg hcl (by omega) (by omega) (by omega) (by omega)
 have HRL0 := Lib.hid hRL
 have HZR := Lib.hid hzr
 have HGM := Lib.hid hG2
 have hG3 := hG2
 unfold maxLen at hG3
 have HV0 := Lib.hid (row_news ((HGR0.out.block vb hvlt (by simp)).trans hv))
 have HO0 := Lib.hid ((HGR0.out.block g hglt (by simp)).trans hg)
 have HCL := Lib.hid hcl
 have HRL := Lib.hid (show (itC r).length = 33 by rw [itC_length, hrl])
 have H1 := Lib.hid h1
 clear hg hcl h1 hv hRL hzr hG2
 have b1 : (0 : Int) ≤ (i : Int) := by omega
 have b3 : ((i : Int) == (i : Int) + 1 + (m : Int)) = false := beq_eq_false_iff_ne.2 (by omega)
 have b4 : ¬ i + 1 + m = i := by omega
 have b6 : (i : Int) ≤ (i : Int) + 1 + (m : Int) := by omega
 have b7 : (i : Int) + 1 + (m : Int) < (i : Int) + 1 + (m : Int) + 1 := by omega
 have b10 : ¬ G = i := by omega
 have b11 : ¬ G = i + 1 := by omega
 go_enter Tryz.func113, Tryz.ntmps113
 go_wp2_with (first
  | (at_builtin; refine wpList_zeros (P := Tryz.prog) rfl (.tmp 34) (.tmp 39) 140 3 rfl (.slice (some ⟨g, 0, none⟩) i (i + 1 + m)) (.slice (some ⟨w.heap.size, 0, none⟩) (i + (m + 2)) G) _ (m + 2) rfl rfl (by omega) HZR.out ?_)
  | ((with_reducible refine wpList_copy_k (P := Tryz.prog) ?_ (.tmp 43) (.tmp 44) 140 140 ?_ 148 33 Tryz.underlying140 infoIz w.heap.size (i * 33) (m + 2) (G - i) ⟨vb, 0, none⟩ 1 1 1 ?_ ?_ ?_ ROW 148 HG0.out (itC r) ?_ HV0.out ?_ (itC_one r) ?_); rfl; rfl; rfl; rfl; (simp only [Nat.min_def]; split <;> omega); (rw [HRL.out]); (rw [HRL.out, HRL0.out]; omega); intro w1 HG1 hgr1))
 have HO1 := Lib.hid ((hgr1.block g (by omega) (by simp; omega)).trans HO0.out)
 have HC1 := Lib.hid (show (splice ROW (i * 33) (itC r)).length = G * 33 by rw [length_splice _ _ _ (by rw [HRL.out, HRL0.out]; omega), HRL0.out])
 have HT1 := Lib.hid (show (splice ROW (i * 33) (itC r)).take ((i + 1) * 33) = cur.take (i * 33) ++ itC r by
  unfold splice
  have hl : (ROW.take (i * 33)).length = i * 33 := by rw [List.length_take, HRL0.out]; omega
  rw [show (i + 1) * 33 = i * 33 + 33 by omega, take_app2 _ _ _ _ hl, take_app _ _ _ HRL.out, HRT.out])
 generalize splice ROW (i * 33) (itC r) = cur1 at *
 have HGR := Lib.hid (HGR0.out.andThen hgr1 (fun j hj => by cases hj; exact .inl (Nat.le_refl _)))
 obtain ⟨news, hnews⟩ : ∃ news, news = cur.drop (i * 33) := ⟨_, rfl⟩
 have HNL := Lib.hid (show news.length = (m + 1) * 33 by rw [hnews, List.length_drop, HCL.out]; omega)
 have HN1 := Lib.hid (show ∀ v ∈ news, v.oneCell' = true from fun v hv => H1.out v (by rw [hnews] at hv; exact List.mem_of_mem_drop hv))
 have HNC := Lib.hid (show ∀ j v, news[j]? = some v → w1.drew.cell? ((⟨g, i * 33, none⟩ : Addr).add j) = some v from fun j v hj => by
  rw [Addr.add_mid]
  refine row_at (w := w1.drew) HO1.out _ _ ?_
  rwa [hnews, List.getElem?_drop] at hj)
 have HNW := Lib.hid hnews
 clear hgr1 hnews
 have e3 : ((i : Int) + 1).toNat = i + 1 := by omega
 have e4 : IntKind.i64.wrap ((i : Int) + 1) = (i : Int) + 1 := IntWalk.i64_in _ (by omega)
 have b0 : (0 : Int) ≤ (i : Int) + 1 := by omega
 have b9 : (i : Int) + 1 ≤ (i : Int) + ((m : Int) + 2) := by omega
 have e5 : i + (m + 2) - (i + 1) = m + 1 := by omega
 have e6 : i + 1 + m - i = m + 1 := by omega
 go_region_law (refine step_copy_k rfl (.tmp 50) (.tmp 53) 140 140 rfl 148 33 Tryz.underlying140 infoIz w.heap.size ((i + 1) * 33) (m + 1) (G - (i + 1)) ⟨g, i * 33, none⟩ (m + 1) (m + 1) (m + 1) (by simp [Act.eval, Act.put]) (by simp [Act.eval, Act.put]) (by simp only [Nat.min_def]; split <;> omega) cur1 148 HG1.out news HNL.out HNC.out (by rw [HNL.out, HC1.out]; omega) HN1.out ?_; intro w2 HG2 hgr2)
 have HGR2 := Lib.hid ((HGR.out.trans (grown_drew w1 none)).andThen hgr2 (fun j hj => by cases hj; exact .inl (Nat.le_refl _)))
 clear hgr2
 go_wp2_with fail
 go_ret
 refine ⟨G, by rw [show i + 1 + m + 1 = i + (m + 2) by omega]; rfl, by omega, HGM.out, ⟨_, HG2.out, ?_, ?_⟩, HGR2.out⟩
 · rw [length_splice _ _ _ (by rw [HNL.out, HC1.out]; omega), HC1.out]
 ·
  unfold splice
  have hl : (cur.take (i * 33) ++ itC r).length = (i + 1) * 33 := by rw [List.length_append, HRL.out, List.length_take, HCL.out]; omega
  rw [HT1.out, show (i + 1 + m + 1) * 33 = (i + 1) * 33 + (m + 1) * 33 by omega, take_app2 _ _ _ _ hl, take_app _ _ _ HNL.out, HNW.out, List.append_assoc]
theorem insert_end (v : Value) (L : List St.It) (base vb : Nat) (r : St.It) (w : World) (h : OwnF w base v L) (hv : w.heap[vb]? = some (.cells (itC r).toArray 148 (0, 0))) (hrl : r.id.length = 32) (hl : L.length ≤ 64) (hbase : base ≤ w.heap.size) :
  Calls Tryz.prog 113 #[v, .int .i64 (L.length : Int), .slice (some ⟨vb, 0, none⟩) 1 1] w fun e w' =>
   ∃ v', e = .returned v' ∧ OwnF w' base v' (L ++ [r]) ∧ w.grownBy w' v.ownBlock ∧ (v'.ownBlock = v.ownBlock ∨ v'.ownBlock = some w.heap.size) := by
 obtain ⟨i0, hi0, hz0, hz1, hz2⟩ := info_parts infoIt
 have HV := Lib.hid (row_news hv)
 have HRL := Lib.hid (show (itC r).length = 1 * 33 by rw [itC_length, hrl])
 have HO := Lib.hid h
 obtain ⟨ao, cap, hform, hcap, hc63⟩ : ∃ ao cap, v = .slice ao L.length cap ∧ L.length ≤ cap ∧ cap ≤ 9223372036854775807 := by
  rcases h.2 with ⟨h0, h1⟩ | ⟨g, cap, cur, h0, _, _, h1, h2, _⟩
  · exact ⟨none, 0, by rw [h0, h1], by omega, by omega⟩
  · exact ⟨_, cap, h0, h1, by unfold maxLen at h2; omega⟩
 subst hform
 clear h hv
 have b1 : (0 : Int) ≤ (L.length : Int) := by omega
 go_enter Tryz.func113, Tryz.ntmps113
 go_wp2_with (at_builtin; refine wpList_append_own_at _ rfl _ _ 140 rfl base 148 i0 _ 33 48 Tryz.underlying140 hi0 hz0 hz1 hz2 rfl (by decide) _ _ _ rfl HO.out ⟨vb, 0, none⟩ 1 1 (itC r) rfl HRL.out HV.out (itC_one r) (by unfold maxLen; omega) (by omega) hbase ?_)
 all_goals
  intro v' w1 hown hgrow _ hat
  have HOW := Lib.hid (own_push hown)
  clear hown
  go_wp2_with fail
  go_ret
  exact ⟨_, rfl, HOW.out, by first | exact hgrow | (rw [own_cap ao L.length cap L.length L.length]; exact hgrow), by first | exact hat | (rw [own_cap ao L.length cap L.length L.length]; exact hat)⟩
theorem insert_own (v : Value) (L : List St.It) (base vb i : Nat) (r : St.It) (w : World) (h : OwnF w base v L) (hid : ∀ r ∈ L, r.id.length = 32) (hv : w.heap[vb]? = some (.cells (itC r).toArray 148 (0, 0))) (hne : v.ownBlock ≠ some vb) (hrl : r.id.length = 32) (hi : i ≤ L.length) (hl : L.length ≤ 64) (hbase : base ≤ w.heap.size) :
  Calls Tryz.prog 113 #[v, .int .i64 (i : Int), .slice (some ⟨vb, 0, none⟩) 1 1] w fun e w' =>
   ∃ v', e = .returned v' ∧ OwnF w' base v' (L.take i ++ (r :: L.drop i)) ∧ w.grownBy w' v.ownBlock ∧ (v'.ownBlock = v.ownBlock ∨ v'.ownBlock = some w.heap.size) := by
 by_cases hie : i = L.length
 ·
  subst hie
  refine (insert_end v L base vb r w h hv hrl hl hbase).mono ?_
  rintro e w' ⟨v', rfl, h1, h2, h3⟩
  exact ⟨v', rfl, by rw [List.take_length, List.drop_length]; exact h1, h2, h3⟩
 ·
  obtain ⟨g, cap, cur, rfl, hb, hh, h1, h2, h3, h4⟩ := h.open_ (by omega)
  have hm := h2
  unfold maxLen at hm
  obtain ⟨m, hmm⟩ : ∃ m, L.length = i + 1 + m := ⟨L.length - (i + 1), by omega⟩
  have hlen : (L.take i ++ (r :: L.drop i)).length = i + 1 + m + 1 := by simp; omega
  have hid2 : ∀ x ∈ L.take i ++ (r :: L.drop i), x.id.length = 32 := fun x hx => by
   rcases List.mem_append.1 hx with h | h
   · exact hid x (List.mem_of_mem_take h)
   ·
    rcases List.mem_cons.1 h with rfl | h
    · exact hrl
    · exact hid x (List.mem_of_mem_drop h)
  have hc1 : cur.take (i * 33) = (L.take i).flatMap itC := by
   rw [← flat_take L hid i (by omega), ← h4, List.take_take, Nat.min_eq_left (by omega)]
  have hc2 : (cur.take ((i + 1 + m) * 33)).drop (i * 33) = (L.drop i).flatMap itC := by
   rw [← hmm, h4, flat_drop L hid _ (by omega)]
  have hfl : (L.take i ++ (r :: L.drop i)).flatMap itC = (L.take i).flatMap itC ++ (itC r ++ (L.drop i).flatMap itC) := by
   rw [List.flatMap_append, List.flatMap_cons]
  rw [hmm] at h1 ⊢
  by_cases hroom : i + 1 + m + 1 ≤ cap
  ·
   refine (insert_room g cap i m vb cur r w hh hv (fun e => hne (by rw [e]; rfl)) hrl h3 hroom (by omega) (by rw [← hmm, h4]; exact flat_one L)).mono ?_
   rintro e w' ⟨rfl, ⟨cur', hg', hl', ht'⟩, hgr⟩
   refine ⟨_, rfl, ?_, hgr, .inl rfl⟩
   have := OwnF.shut (L := L.take i ++ (r :: L.drop i)) hb hg' (by omega) h2 hl' (by rw [hlen, ht', hc1, hc2, hfl]) hid2
   rwa [hlen] at this
  ·
   have hce : cap = i + 1 + m := by omega
   subst hce
   have hcur : cur.take ((i + 1 + m) * 33) = cur := List.take_of_length_le (by omega)
   refine (insert_grow g i m vb cur r w hh hv hrl h3 (by omega) (by rw [← hcur, ← hmm, h4]; exact flat_one L)).mono ?_
   rintro e w' ⟨G, rfl, hG1, hG2, ⟨cur', hg', hl', ht'⟩, hgr⟩
   refine ⟨_, rfl, ?_, hgr.but _, .inr rfl⟩
   rw [hcur] at hc2
   have := OwnF.shut (L := L.take i ++ (r :: L.drop i)) hbase hg' (by omega) hG2 hl' (by rw [hlen, ht', hc1, hc2, hfl]) hid2
   rwa [hlen] at this
end Go.Proofs.YtkcjhkfelaplkaaGreatDoor
end
section
namespace Go.Proofs.YtkcjhkfelaplkaaGreatDoor
open Go.RowKit
def PredI (g : Nat) (lb : Array Value) (p : Nat → Bool) (n : Nat) (w : World) : Prop :=
 ∀ (W : World) (k : Nat), Below w.heap.size w W → k < n → Calls Tryz.prog g (#[.int .i64 (k : Int)] ++ lb) W fun e w' => e = .returned (.bool (p k)) ∧ Below W.heap.size W w'
theorem search_any (p : Nat → Bool) (f n : Nat) (g : Nat) (lb : Array Value) (eg : ∀ args w, (callFunc g args).run Tryz.prog w = .ok (.enter g args) w) (w : World) (hn : n ≤ 1000) (hf : f ≤ n) (h1 : ∀ k, k < f → p k = false) (h2 : ∀ k, f ≤ k → k < n → p k = true) (hp : PredI g lb p n w) :
  Calls Tryz.prog 159 #[.int .i64 (n : Int), .func (.func g) #[] lb] w fun r w' => r = .returned (.int .i64 (f : Int)) ∧ Below w.heap.size w w' := by
 have HP := Lib.hid hp
 have H1 := Lib.hid h1
 have H2 := Lib.hid h2
 clear hp h1 h2
 go_enter Tryz.func159, Tryz.ntmps159
 go_wp2_with fail
 go_loopw [5, 6] (fun i j wr => ∃ (a b : Nat), a ≤ f ∧ f ≤ b ∧ b ≤ n ∧ i = .int .i64 a ∧ j = .int .i64 b ∧ Below w.heap.size w wr) (fun i j _ => (intOf j).toNat - (intOf i).toNat)
 case atStart => exact ⟨0, n, by omega, hf, Nat.le_refl _, rfl, rfl, Below.refl _ _⟩
 case round =>
  obtain ⟨a, b, ha, hb, hbn, rfl, rfl, hbw⟩ := hrel
  by_cases hlt : a < b
  ·
   have hlt' : (a : Int) < (b : Int) := by omega
   obtain ⟨m, hm⟩ : ∃ m, m = (a + b) / 2 := ⟨_, rfl⟩
   have hm1 : a ≤ m := by omega
   have hm2 : m < b := by omega
   have hmn : m < n := by omega
   have hm' : ((a : Int) + (b : Int)) / 2 = (m : Int) := by omega
   have hcall := HP.out wr m hbw hmn
   have hbs := hbw.size
   by_cases hfm : f ≤ m
   ·
    rw [H2.out m hfm hmn] at hcall
    clear hm
    go_wp2_with (go_at_fn g; refine hcall.mono ?_; rintro r wx ⟨rfl, hbx⟩)
    go_roundw
    case rel => exact ⟨a, m, by omega, by omega, by omega, rfl, by go_num, hbw.trans (hbx.mono (by omega))⟩
    case measure => simp [intOf]; omega
   ·
    rw [H1.out m (by omega)] at hcall
    clear hm
    go_wp2_with (go_at_fn g; refine hcall.mono ?_; rintro r wx ⟨rfl, hbx⟩)
    go_roundw
    case rel => exact ⟨m + 1, b, by omega, by omega, by omega, by go_num, rfl, hbw.trans (hbx.mono (by omega))⟩
    case measure => simp [intOf]; omega
  ·
   have : a = f := by omega
   subst this
   go_wp2_with fail
   go_ret
   exact ⟨rfl, hbw⟩
end Go.Proofs.YtkcjhkfelaplkaaGreatDoor
end
section
namespace Go.Proofs.YtkcjhkfelaplkaaGreatDoor
open Go.RowKit
theorem rgn_tail {P : Program} {id : Nat} {Q : Exit → Act → World → Prop} {a : Act} {w : World} {l : List Oper} (n : Nat) (hm : P.follows .mixedOrders = true) (hB : Region.lexTailB .any l.toArray n = true)
  (h : wpStill P l.toArray w.drew (fun a' => wpList P l.toArray Q (l.drop n) a' w.drew) (l.take n) a) : (Code.region id l.toArray true).wp P Q a w := wp_region_still_tail n hm hB h
theorem rgn_still {P : Program} {id : Nat} {Q : Exit → Act → World → Prop} {a : Act} {w : World} {l : List Oper} (hm : P.follows .mixedOrders = true) (hB : Region.lexB .any l.toArray = true)
  (h : wpStill P l.toArray w.drew (fun a' => Q .normal a' w.drew) l a) : (Code.region id l.toArray true).wp P Q a w := wp_region_still_lit hm hB h
theorem still_at {ops : Array Oper} {w : World} {Q : Act → Prop} {a : Act} {o : Oper} {rest : List Oper} {cs : List Value} {ty : TypeId} {x : Operand} {p : Addr} {d : TypeDesc} (ho : o.op = .load ty x) (hx : a.eval x = .pointer (some p)) (hg : o.guard = none)
  (hc : ∀ j v, cs[j]? = some v → w.cell? (p.add j) = some v) (hu : Tryz.prog.underlying ty = some d) (hd : d.isRow = true) (hi : (Tryz.prog.info? ty).map (·.size) = some cs.length)
  (h : wpStill Tryz.prog ops w Q rest (a.put o.dst (.agg cs.toArray))) : wpStill Tryz.prog ops w Q (o :: rest) a := by
 refine wpStill_step fun K hK => ?_
 rw [if_pos (by simp [Region.wanted, hg])]
 unfold Oper.still execOp
 simp only [ho, hx, Instr.loadAt, Instr.sureAddr, Sem.run_bind, Sem.run_pure, Result.andThen_ok, run_loadVar_at w p ty cs d hc hu hd hi]
 exact ⟨rfl, hK _ h⟩
theorem still_id {ops : Array Oper} {w : World} {Q : Act → Prop} {a : Act} {o : Oper} {rest : List Oper} {l : List UInt8} {x : Operand} {p : Addr} (ho : o.op = .load 46 x) (hx : a.eval x = .pointer (some p)) (hg : o.guard = none)
  (hc : ∀ j v, (idC l)[j]? = some v → w.cell? (p.add j) = some v) (hl : l.length = 32)
  (h : wpStill Tryz.prog ops w Q rest (a.put o.dst (.agg (idC l).toArray))) : wpStill Tryz.prog ops w Q (o :: rest) a :=
 still_at ho hx hg hc Tryz.underlying46 rfl (idsize hl) h
theorem lt_same : ∀ a b : List UInt8, S2.ltB a b = St.lt a b
 | [], [] => rfl
 | [], _ :: _ => rfl
 | _ :: _, [] => rfl
 | x :: r, y :: q => by unfold S2.ltB St.lt; rw [lt_same r q]
theorem idA_same (l : List UInt8) (h : l.length = 32) : S2.idA l = (idC l).toArray := by
 unfold S2.idA idC
 rw [h]; simp
 intro x _; rfl
theorem less_id (a b : List UInt8) (w : World) (ha : a.length = 32) (hb : b.length = 32) :
  Calls Tryz.prog 94 #[.agg (idC a).toArray, .agg (idC b).toArray] w fun r w' => r = .returned (.bool (St.lt a b)) ∧ Below w.heap.size w w' := by
 have := S2.less_any a b w ha hb
 rwa [idA_same a ha, idA_same b hb, lt_same] at this
theorem refless_id (a b : List UInt8) (w : World) (ha : a.length = 32) (hb : b.length = 32) :
  Calls Tryz.prog 49 #[.agg (idC a).toArray, .agg (idC b).toArray] w fun r w' => r = .returned (.bool (St.lt a b)) ∧ Below w.heap.size w w' := by
 have := S2.refless_any a b w ha hb
 rwa [idA_same a ha, idA_same b hb, lt_same] at this
structure PSt (w : World) (base b : Nat) (v : Value) (L : List St.It) : Prop where
 box : w.heap[b]? = some (.cells #[v] 142)
 own : OwnF w base v L
 ge : base ≤ b
 len : St.Len L
 srt : St.Srt L
 few : L.length ≤ 63
theorem PSt.below {w w' : World} {base b : Nat} {v : Value} {L : List St.It} (h : PSt w base b v L) (hb : Below w.heap.size w w') : PSt w' base b v L :=
 ⟨(hb.block b (Array.getElem?_eq_some_iff.1 h.box).1).trans h.box, own_bel h.own hb, h.ge, h.len, h.srt, h.few⟩
theorem PSt.cell {w : World} {base b : Nat} {v : Value} {L : List St.It} (h : PSt w base b v L) : w.cell? ⟨b, 0, none⟩ = some v := by
 rw [cell_of_row _ _ 0 _ _ _ h.box]; rfl
theorem PSt.lt {w : World} {base b : Nat} {v : Value} {L : List St.It} (h : PSt w base b v L) : b < w.heap.size := (Array.getElem?_eq_some_iff.1 h.box).1
theorem PSt.form {w : World} {base b : Nat} {v : Value} {L : List St.It} (h : PSt w base b v L) : ∃ ao cap, v = .slice ao L.length cap := (h.own.rows h.len).form
theorem PSt.elem {w : World} {base b : Nat} {ao : Option Addr} {n cap : Nat} {L : List St.It} (h : PSt w base b (.slice ao n cap) L) (i : Nat) (r : St.It) (hi : L[i]? = some r) :
  ∃ a, ao = some a ∧ r.id.length = 32 ∧ ∀ j x, (itC r)[j]? = some x → w.cell? ((a.add (i * 33)).add j) = some x := (h.own.rows h.len).elem i r hi
theorem place1_any (W : World) (base b b2 b3 k : Nat) (v : Value) (L : List St.It) (id : List UInt8) (r : St.It) (h : PSt W base b v L) (h2 : W.cell? ⟨b2, 0, none⟩ = some (.pointer (some ⟨b, 0, none⟩))) (h3 : ∀ j x, (idC id)[j]? = some x → W.cell? ((⟨b3, 0, none⟩ : Addr).add j) = some x) (hil : id.length = 32) (hr : L[k]? = some r) :
  Calls Tryz.prog 160 #[.int .i64 (k : Int), .pointer (some ⟨b2, 0, none⟩), .pointer (some ⟨b3, 0, none⟩)] W fun e w' => e = .returned (.bool (!St.lt r.id id)) ∧ Below W.heap.size W w' := by
 have hkl : k < L.length := (List.getElem?_eq_some_iff.1 hr).1
 have hfew := h.few
 obtain ⟨ao, cap, rfl⟩ := h.form
 obtain ⟨a, rfl, hrl, hc⟩ := h.elem k r hr
 have HC := Lib.hid (show ∀ j x, (idC r.id)[j]? = some x → W.drew.cell? ((a.add (k * 33)).add j) = some x from it_id hc)
 have HI := Lib.hid (show ∀ j x, (idC id)[j]? = some x → W.drew.cell? ((⟨b3, 0, none⟩ : Addr).add j) = some x from h3)
 have HL1 := Lib.hid hrl
 have HL2 := Lib.hid hil
 have c2 : W.drew.cell? ⟨b2, 0, none⟩ = some (.pointer (some ⟨b, 0, none⟩)) := h2
 have cb : W.drew.cell? ⟨b, 0, none⟩ = some (.slice (some a) L.length cap) := h.cell
 have g1 : (k : Int) < (L.length : Int) := by omega
 have g2 : (0 : Int) ≤ (k : Int) := by omega
 have HLS := Lib.hid (fun W => less_id r.id id W hrl hil)
 clear h h2 h3 hr hrl hil hc hfew
 go_enter Tryz.func160, Tryz.ntmps160
 go_wp2_with fail
 refine rgn_tail 9 (by kernel_rfl) (by kernel_rfl) ?_
 simp only [List.take_succ_cons, List.take_zero, List.drop_succ_cons, List.drop_zero]
 repeat still_step
 (with_reducible apply still_id (hc := HC.out) (hl := HL1.out))
 rfl
 rfl
 rfl
 (with_reducible apply still_id (hc := HI.out) (hl := HL2.out))
 rfl
 rfl
 rfl
 refine wpStill_nil ?_
 go_wp2_with fail
 refine (HLS.out _).mono ?_
 rintro e w1 ⟨rfl, hb1⟩
 go_wp2_with fail
 go_ret
 exact ⟨rfl, (Below.refl _ _).drew.trans hb1⟩
end Go.Proofs.YtkcjhkfelaplkaaGreatDoor
end
section
namespace Go.Proofs.YtkcjhkfelaplkaaGreatDoor
open Go.RowKit
theorem still_idg {ops : Array Oper} {w : World} {Q : Act → Prop} {a : Act} {o : Oper} {rest : List Oper} {l : List UInt8} {x : Operand} {p : Addr} (ho : o.op = .load 46 x) (hx : a.eval x = .pointer (some p)) (hw : Region.wanted o (yielded ops a.tmps) = true)
  (hc : ∀ j v, (idC l)[j]? = some v → w.cell? (p.add j) = some v) (hl : l.length = 32)
  (h : wpStill Tryz.prog ops w Q rest (a.put o.dst (.agg (idC l).toArray))) : wpStill Tryz.prog ops w Q (o :: rest) a := by
 refine wpStill_step fun K hK => ?_
 rw [if_pos hw]
 unfold Oper.still execOp
 simp only [ho, hx, Instr.loadAt, Instr.sureAddr, Sem.run_bind, Sem.run_pure, Result.andThen_ok, run_loadVar_at w p 46 (idC l) _ hc Tryz.underlying46 rfl (idsize hl)]
 exact ⟨rfl, hK _ h⟩
theorem egP1 : ∀ args w, (callFunc 160 args).run Tryz.prog w = .ok (.enter 160 args) w := fun args w => by
 have h1 : decide (Tryz.f160.name = "runtime.NumGoroutine") = false := by kernel_rfl
 have h2 : Tryz.f160.body.isNone = false := by kernel_rfl
 have h1' : ¬ Tryz.f160.name = "runtime.NumGoroutine" := by simpa using h1
 have h2' : ¬ Tryz.f160.body = none := fun e => by rw [e] at h2; cases h2
 simp [callFunc, run_program, Tryz.func160, h1', h2']
theorem box_cell (w : World) (v : Value) (t : TypeId) : (w.alloc (.cells #[v] t)).cell? ⟨w.heap.size, 0, none⟩ = some v := by
 rw [cell_of_row _ _ 0 _ _ _ (heap_alloc_new _ _)]; rfl
theorem box2_cell (w : World) (v : Value) (t : TypeId) (o : Obj) : ((w.alloc (.cells #[v] t)).alloc o).cell? ⟨w.heap.size, 0, none⟩ = some v := by
 rw [((Below.refl _ _).alloc (Nat.le_refl _) o : Below (w.alloc (.cells #[v] t)).heap.size _ _).cell (by simp)]
 exact box_cell w v t
theorem below2 (w : World) (o1 o2 : Obj) : Below w.heap.size w ((w.alloc o1).alloc o2) := ((Below.refl _ _).alloc (Nat.le_refl _) _).alloc (by simp) _
theorem new2 (w : World) (o1 o2 : Obj) : ((w.alloc o1).alloc o2).heap[w.heap.size + 1]? = some o2 := by
 have := heap_alloc_new (w.alloc o1) o2
 simpa using this
theorem bel_drewN {B : Nat} {w w' : World} (h : Below B w w') (n : Nat) : Below B w (w'.drewN n) := ⟨h.os, h.tape, h.output, h.size, h.block⟩
def plP (L : List St.It) (id : List UInt8) (k : Nat) : Bool := match L[k]? with
 | some r => !St.lt r.id id
 | none => true
theorem plP_at {L : List St.It} {id : List UInt8} {k : Nat} {r : St.It} (h : L[k]? = some r) : plP L id k = !St.lt r.id id := by unfold plP; rw [h]
theorem has_lt {L : List St.It} {id : List UInt8} {r : St.It} (hs : St.Srt L) (hr : L[St.pos L id]? = some r) : St.has L id = decide (r.id = id) := by
 by_cases e : r.id = id
 · rw [decide_eq_true e, St.has_of hr e]
 ·
  rw [decide_eq_false e]
  cases hq : St.has L id with
  | false => rfl
  | true =>
    obtain ⟨r', hr', he⟩ := St.has_at hs hq
    rw [hr] at hr'; cases hr'; exact absurd he e
theorem has_ge {L : List St.It} {id : List UInt8} (hs : St.Srt L) (h : ¬ St.pos L id < L.length) : St.has L id = false := by
 cases hq : St.has L id with
 | false => rfl
 | true =>
   obtain ⟨r', hr', he⟩ := St.has_at hs hq
   exact absurd (List.getElem?_eq_some_iff.1 hr').1 h
theorem place_any (w : World) (base b : Nat) (v : Value) (L : List St.It) (id : List UInt8) (h : PSt w base b v L) (hil : id.length = 32) :
  Calls Tryz.prog 112 #[.pointer (some ⟨b, 0, none⟩), .agg (idC id).toArray] w fun r w' => r = .returned (.tuple #[.int .i64 (St.pos L id : Int), .bool (St.has L id)]) ∧ Below w.heap.size w w' := by
 have hfew := h.few
 have hpl := St.pos_le L id
 have HS := Lib.hid h.srt
 obtain ⟨ao, cap, rfl⟩ := h.form
 have HB2 := Lib.hid (below2 w)
 have HX2 := Lib.hid (box2_cell w)
 have HN2 := Lib.hid (new2 w)
 have HP := Lib.hid h
 have HIL := Lib.hid hil
 have hlt := h.lt
 have cb := h.cell
 have HSE := Lib.hid (show ∀ W, Below w.heap.size w W → W.cell? ⟨w.heap.size, 0, none⟩ = some (.pointer (some ⟨b, 0, none⟩)) → (∀ j x, (idC id)[j]? = some x → W.cell? ((⟨w.heap.size + 1, 0, none⟩ : Addr).add j) = some x) → w.heap.size + 2 ≤ W.heap.size →
   PredI 160 #[.pointer (some ⟨w.heap.size, 0, none⟩), .pointer (some ⟨w.heap.size + 1, 0, none⟩)] (plP L id) L.length W from fun W hb h2 h3 hz W2 k hb2 hk => by
  have hr := List.getElem?_eq_getElem hk
  rw [plP_at hr]
  refine place1_any W2 base b _ _ k _ L id _ ((h.below hb).below hb2) ?_ (fun j x hx => ?_) hil hr
  · rw [hb2.cell (by show w.heap.size < _; omega)]; exact h2
  ·
   have := h3 j x hx
   rw [hb2.cell (World.block_lt_of_cell? _ _ this)]; exact this)
 have HH := Lib.hid (fun r (hr : L[St.pos L id]? = some r) => has_lt (id := id) h.srt hr)
 have HG := Lib.hid (has_ge (id := id) h.srt)
 have HF1 := Lib.hid (show ∀ k, k < St.pos L id → plP L id k = false from fun k hk => by
  have hr := List.getElem?_eq_getElem (show k < L.length by omega)
  rw [plP_at hr, St.pos_before hk hr]; rfl)
 have HF2 := Lib.hid (show ∀ k, St.pos L id ≤ k → k < L.length → plP L id k = true from fun k hk hk2 => by
  have hr := List.getElem?_eq_getElem hk2
  rw [plP_at hr, St.pos_from h.srt hk hr]; rfl)
 generalize hpos : St.pos L id = pos at *
 generalize hhas : St.has L id = has at *
 clear h hil hpos hhas
 go_enter Tryz.func112, Tryz.ntmps112
 go_wp2_with fail
 refine (search_any (plP L id) pos L.length 160 #[.pointer (some ⟨w.heap.size, 0, none⟩), .pointer (some ⟨w.heap.size + 1, 0, none⟩)] egP1 _ (by omega) hpl HF1.out HF2.out (HSE.out _ (HB2.out _ _) (HX2.out _ _ _) (row_news (HN2.out _ _)) (by simp))).mono ?_
 rintro r w3 ⟨rfl, hb3⟩
 have hb03 := (HB2.out _ _).trans (hb3.mono (show w.heap.size ≤ _ by simp; omega))
 have HP3 := Lib.hid (HP.out.below hb03)
 have c3 := (hb3.cell (p := ⟨w.heap.size, 0, none⟩) (by simp; omega)).trans (HX2.out _ _ _)
 have HN3 := Lib.hid (row_news ((hb3.block (w.heap.size + 1) (by simp)).trans (HN2.out _ _)))
 clear hb3 HSE HX2 HN2 HB2 cb
 have c3' : w3.drew.cell? ⟨w.heap.size, 0, none⟩ = some (.pointer (some ⟨b, 0, none⟩)) := c3
 have cb' : w3.drew.cell? ⟨b, 0, none⟩ = some (.slice ao L.length cap) := HP3.out.cell
 have cb : w3.cell? ⟨b, 0, none⟩ = some (.slice ao L.length cap) := HP3.out.cell
 by_cases hpp : pos < L.length
 ·
  obtain ⟨r, hr⟩ : ∃ r, L[pos]? = some r := ⟨L[pos], List.getElem?_eq_getElem hpp⟩
  obtain ⟨a, rfl, hrl, hc⟩ := HP3.out.elem pos r hr
  have HC := Lib.hid (show ∀ j x, (idC r.id)[j]? = some x → w3.drew.cell? ((a.add (pos * 33)).add j) = some x from it_id hc)
  have HI := Lib.hid (show ∀ j x, (idC id)[j]? = some x → w3.drew.cell? ((⟨w.heap.size + 1, 0, none⟩ : Addr).add j) = some x from HN3.out)
  have HL1 := Lib.hid hrl
  have hq := fun W => eq_id r.id id hrl HIL.out W
  have HHH := Lib.hid (HH.out r hr)
  clear HP3
  have g1 : decide ((pos : Int) < (L.length : Int)) = true := by simp; omega
  have g2 : decide (pos < L.length) = true := by simp; omega
  have g3 : (pos : Int) < (L.length : Int) := by omega
  have g4 : (0 : Int) ≤ (pos : Int) := by omega
  clear hr hrl hc
  go_wp2_with fail
  refine rgn_still (by kernel_rfl) (by kernel_rfl) ?_
  repeat still_step
  (with_reducible apply still_idg (hc := HC.out) (hl := HL1.out))
  rfl
  rfl
  kernel_rfl
  (with_reducible apply still_idg (hc := HI.out) (hl := HIL.out))
  rfl
  rfl
  kernel_rfl
  repeat still_step
  refine wpStill_nil ?_
  go_wp2_with fail
  go_ret2
  exact ⟨by rw [HHH.out]; rfl, hb03.drew⟩
 ·
  have HGG := Lib.hid (HG.out hpp)
  have g1 : decide ((pos : Int) < (L.length : Int)) = false := by simp; omega
  have g2 : decide (pos < L.length) = false := by simp; omega
  have g3 : ¬ (pos : Int) < (L.length : Int) := by omega
  go_wp2_with fail
  go_quiet (fail)
  go_wp2_with fail
  go_ret2
  exact ⟨by rw [HGG.out]; rfl, bel_drewN hb03 _⟩
end Go.Proofs.YtkcjhkfelaplkaaGreatDoor
end
