/-
  LAYER 13: rows that a call owns, sorted: elements of k cells.
-/
import Derived.Test.YtkcjhkfelaplkaaBase
import Derived.Shelf.SlSortCmp.NoneTotal
namespace Go.Proofs.Ytkcjhkfelaplkaa
open Go.RowKit Go.Sort
set_option linter.unusedVariables false
set_option linter.unusedSimpArgs false

section
variable {α : Type} [Inhabited α]
theorem flatK_list (enc : α → List Value) (k : Nat) (hk : ∀ x, (enc x).length = k) (d : Array α) : (flatK enc k d).toList = (d.toList.map enc).flatten := by
  have hC : ∀ c ∈ d.toList.map enc, c.length = k := fun c hc => by
    obtain ⟨x, _, rfl⟩ := List.mem_map.1 hc
    exact hk x
  have hl : ((d.toList.map enc).flatten).length = d.size * k := by
    have := flatK_len _ hC
    rw [List.length_map] at this; exact this
  apply List.ext_getElem
  · rw [hl]; simp
  · intro t h1 h2
    have ht : t < d.size * k := by rw [hl] at h2; exact h2
    have hk0 : 0 < k := by
      rcases Nat.eq_zero_or_pos k with h | h
      · subst h; simp at ht
      · exact h
    have hq : t / k < d.size := (Nat.div_lt_iff_lt_mul hk0).2 ht
    have hm : t % k < k := Nat.mod_lt _ hk0
    have e1 : (enc d[t / k]!)[t % k]? = some ((enc d[t / k]!)[t % k]!) := by
      rw [List.getElem!_eq_getElem?_getD, List.getElem?_eq_getElem (by rw [hk]; exact hm)]; rfl
    have h3 := flatK_get (d.toList.map enc) hC (t / k) (enc d[t / k]!) (by rw [List.getElem?_map, getElem!_pos d _ hq]; simp [hq]) (t % k) _ e1
    have e2 : t / k * k + t % k = t := by rw [Nat.mul_comm]; exact Nat.div_add_mod t k
    rw [e2] at h3
    have h4 := get_flatK enc k d t ht
    have h5 : (flatK enc k d)[t]! = (flatK enc k d).toList[t] := by
      rw [getElem!_pos _ t (by simpa using ht)]; simp
    rw [← h5, h4]
    rw [List.getElem?_eq_getElem (by rw [hl]; exact ht)] at h3
    exact (Option.some.inj h3).symm
theorem own_sortedK {w : World} {base g cap n m : Nat} {e : TypeId} {os : Array Obj} {cur : Array Value} (enc : α → List Value) (k : Nat) (hk : ∀ x, (enc x).length = k) (d : Array α) (hl : d.size = n) (hb : base ≤ g) (hh : w.heap[g]? = some (.cells cur e (0, 0)))
    (h1 : n ≤ cap) (h2 : cap ≤ maxLen) (h3 : cur.size = cap * k) : (sortWorldK enc k w g 0 m d os).ownsRow base e k (.slice (some ⟨g, 0, none⟩) n cap) n ((d.toList.map enc).flatten) := by
  have hC : ∀ c ∈ d.toList.map enc, c.length = k := fun c hc => by
    obtain ⟨x, _, rfl⟩ := List.mem_map.1 hc
    exact hk x
  have hlen : ((d.toList.map enc).flatten).length = n * k := by
    have := flatK_len _ hC
    rw [List.length_map] at this; rw [← hl]; exact this
  have hg : g < w.heap.size := (Array.getElem?_eq_some_iff.1 hh).1
  refine ⟨hlen, .inr ⟨g, cap, putCells id 0 (flatK enc k d) cur, rfl, hb, ?_, h1, h2, by simp [putCells, h3], ?_⟩⟩
  · unfold sortWorldK
    rw [heap_grow_old _ _ (by rw [size_putRowK]; exact hg)]
    unfold putRowK putRow mapBlock
    simp [Sort.ahead, Array.getElem?_modify, hh, onCells]
  · have hle : n * k ≤ cap * k := Nat.mul_le_mul_right k h1
    rw [← flatK_list enc k hk d]
    apply List.ext_getElem?
    intro j
    by_cases hj : j < n * k
    · rw [List.getElem?_take_of_lt hj, Array.getElem?_toList, Array.getElem?_toList]
      have hs : j < (flatK enc k d).size := by rw [size_flatK, hl]; exact hj
      unfold putCells
      rw [Array.getElem?_mapIdx, Array.getElem?_eq_getElem (by omega : j < cur.size), Option.map_some, if_pos ⟨Nat.zero_le _, by omega⟩, Array.getElem?_eq_getElem hs, Nat.sub_zero, getElem!_pos _ j hs]
      rfl
    · rw [List.getElem?_take_eq_none (by omega), List.getElem?_eq_none (by simp [hl]; omega)]
theorem holdsK_own {w : World} {base g cap n : Nat} {e : TypeId} (enc : α → List Value) (k : Nat) (hk : ∀ x, (enc x).length = k) (d : Array α) (hl : d.size = n) (h : w.ownsRow base e k (.slice (some ⟨g, 0, none⟩) n cap) n ((d.toList.map enc).flatten)) : HoldsK enc k w g 0 d := by
  intro j hj
  rw [size_flatK, hl] at hj
  rw [Nat.zero_add]
  refine ⟨?_, h.frozenAt j⟩
  rw [h.cellAt j hj, ← flatK_list enc k hk d]
  have hs : j < (flatK enc k d).size := by rw [size_flatK, hl]; exact hj
  rw [Array.getElem?_toList, Array.getElem?_eq_getElem hs, getElem!_pos _ j hs]
  rfl
end
end Go.Proofs.Ytkcjhkfelaplkaa
