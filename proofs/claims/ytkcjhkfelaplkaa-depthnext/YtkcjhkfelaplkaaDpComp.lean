/-
  LAYER 13: rows of ids of one's own: a place set anew, the tail cleared; what slices.Compact leaves of a sorted row.
-/
import Derived.Test.YtkcjhkfelaplkaaDpCmp
import Derived.Test.YtkcjhkfelaplkaaBase
import Derived.Lib.SlicesCompact
namespace Go.Proofs.Ytkcjhkfelaplkaa
open Go.RowKit Go.Sort
set_option linter.unusedVariables false
set_option linter.unusedSimpArgs false

theorem OwnI.set {w : World} {base : Nat} {g n cap i : Nat} {C : List (List UInt8)} (h : OwnI w base (.slice (some ⟨g, 0, none⟩) n cap) C) (c : List UInt8) (hcl : c.length = 32) (hi : i < C.length) : OwnI (w.setCells g (i * 32) (idC c)) base (.slice (some ⟨g, 0, none⟩) n cap) (C.set i c) := by
  have hl := h.own.1
  rcases h.own.2 with ⟨hv, h0⟩ | ⟨g', c', cur, hv, hb, hh, h1, h2, h3, h4⟩
  · cases hv
  · simp only [Value.slice.injEq, Option.some.injEq, Addr.mk.injEq, and_true] at hv
    obtain ⟨rfl, rfl, rfl⟩ := hv
    have hfl : ((C.map idC).flatten).length = C.length * 32 := by rw [flatK_len _ (ids_len h.len)]; simp
    have hcl2 : (idC c).length = 32 := by rw [idC_length, hcl]
    have hcu : C.length * 32 ≤ cur.toList.length := by
      rw [← hfl, ← h4]; rw [List.length_take]; omega
    have hset := setCells_row g 28 (idC c) (i * 32) w cur.toList (by simpa using hh) (by omega)
    have hfs : ((C.set i c).map idC).flatten = splice (C.map idC).flatten (i * 32) (idC c) := by
      rw [List.map_set]
      exact flatK_set (C.map idC) (ids_len h.len) i (idC c) (by simpa using hi) hcl2
    refine ⟨⟨by rw [hfs, splice_length _ _ _ (by omega)]; simpa using hl, .inr ⟨g, cap, (splice cur.toList (i * 32) (idC c)).toArray, by simp, hb, hset, by simpa using h1, ?_, ?_, ?_⟩⟩, fun x hx => ?_⟩
    · exact h2
    · rw [List.size_toArray, splice_length _ _ _ (by omega)]; simpa using h3
    · rw [List.length_set, List.toList_toArray, splice_take _ _ _ _ (by omega) hcu, h4, hfs]
    · rcases List.mem_or_eq_of_mem_set hx with k | k
      · exact h.len x k
      · rw [k]; exact hcl
/-- What is cleared behind k is of no account. -/
theorem OwnI.cleared {w : World} {base g n cap k : Nat} {C : List (List UInt8)} (h : OwnI w base (.slice (some ⟨g, 0, none⟩) n cap) C) (vs : List Value) (hk : k ≤ C.length) (hv : vs.length = (C.length - k) * 32) : OwnI (w.setCells g (k * 32) vs) base (.slice (some ⟨g, 0, none⟩) k cap) (C.take k) := by
  have hl := h.own.1
  rcases h.own.2 with ⟨hv', h0⟩ | ⟨g', c', cur, hv', hb, hh, h1, h2, h3, h4⟩
  · cases hv'
  · simp only [Value.slice.injEq, Option.some.injEq, Addr.mk.injEq, and_true] at hv'
    obtain ⟨rfl, rfl, rfl⟩ := hv'
    have hfl : ((C.map idC).flatten).length = C.length * 32 := by rw [flatK_len _ (ids_len h.len)]; simp
    have hfk : (((C.take k).map idC).flatten).length = k * 32 := by
      rw [flatK_len _ (ids_len fun i hi => h.len i (List.mem_of_mem_take hi))]; simp [Nat.min_eq_left hk]
    have hcu : C.length * 32 ≤ cur.toList.length := by
      rw [← hfl, ← h4]; rw [List.length_take]; omega
    have hset := setCells_row g 28 vs (k * 32) w cur.toList (by simpa using hh) (by rw [hv]; omega)
    have hkl : (C.take k).length = k := by simp [Nat.min_eq_left hk]
    refine ⟨⟨by rw [hfk, hkl], .inr ⟨g, cap, (splice cur.toList (k * 32) vs).toArray, by rw [hkl], hb, hset, by rw [hkl]; omega, h2, ?_, ?_⟩⟩, fun x hx => h.len x (List.mem_of_mem_take hx)⟩
    · rw [List.size_toArray, splice_length _ _ _ (by rw [hv]; omega)]; simpa using h3
    · rw [hkl, List.toList_toArray]
      unfold splice
      rw [List.take_append_of_le_length (by rw [List.length_take]; omega), List.take_of_length_le (by rw [List.length_take]; omega)]
      have h5 : (cur.toList.take (C.length * 32)).take (k * 32) = ((C.take k).map idC).flatten := by
        rw [h4]
        have h6 : (C.map idC).flatten = ((C.take k).map idC).flatten ++ ((C.drop k).map idC).flatten := by
          rw [← List.flatten_append, ← List.map_append, List.take_append_drop]
        rw [h6, List.take_append_of_le_length (by omega), List.take_of_length_le (by omega)]
      rw [List.take_take, Nat.min_eq_left (by omega)] at h5
      exact h5
theorem OwnI.cutTo {w : World} {base g n cap k : Nat} {C : List (List UInt8)} (h : OwnI w base (.slice (some ⟨g, 0, none⟩) n cap) C) (hk : k ≤ C.length) : OwnI w base (.slice (some ⟨g, 0, none⟩) k cap) (C.take k) := by
  rcases h.own.2 with ⟨hv', h0⟩ | ⟨g', c', cur, hv', hb, hh, h1, h2, h3, h4⟩
  · cases hv'
  · simp only [Value.slice.injEq, Option.some.injEq, Addr.mk.injEq, and_true] at hv'
    obtain ⟨rfl, rfl, rfl⟩ := hv'
    have hfl : ((C.map idC).flatten).length = C.length * 32 := by rw [flatK_len _ (ids_len h.len)]; simp
    have hfk : (((C.take k).map idC).flatten).length = k * 32 := by
      rw [flatK_len _ (ids_len fun i hi => h.len i (List.mem_of_mem_take hi))]; simp [Nat.min_eq_left hk]
    have hkl : (C.take k).length = k := by simp [Nat.min_eq_left hk]
    refine ⟨⟨by rw [hfk, hkl], .inr ⟨g, cap, cur, by rw [hkl], hb, hh, by rw [hkl]; omega, h2, h3, ?_⟩⟩, fun x hx => h.len x (List.mem_of_mem_take hx)⟩
    rw [hkl]
    have h5 : (cur.toList.take (C.length * 32)).take (k * 32) = ((C.take k).map idC).flatten := by
      rw [h4]
      have h6 : (C.map idC).flatten = ((C.take k).map idC).flatten ++ ((C.drop k).map idC).flatten := by
        rw [← List.flatten_append, ← List.map_append, List.take_append_drop]
      rw [h6, List.take_append_of_le_length (by omega), List.take_of_length_le (by omega)]
    rw [List.take_take, Nat.min_eq_left (by omega)] at h5
    exact h5
section
variable {P : Program}
/-- clear of m elements: with what does not matter. -/
theorem run_clear_k (w : World) (t e : TypeId) (z : List Value) (ht : P.underlying t = some (.slice e)) (hv : ∀ w, (zeroValue e).run P w = .ok (.agg z.toArray) w) (h1 : ∀ v ∈ z, v.oneCell' = true) (b o m c : Nat) (hm : 0 < m) (hz : 0 < z.length)
    (hc : ∀ j, j < m * z.length → (w.cell? ⟨b, o + j, none⟩).isSome = true) (hf : ∀ j, j < m * z.length → w.frozen? ⟨b, o + j, none⟩ = false) :
    ∃ vs : List Value, vs.length = m * z.length ∧ ∀ ty, (Builtin.clear_ #[t] ty #[.slice (some ⟨b, o, none⟩) m c]).run P w = .ok (.tuple #[]) (w.setCells b o vs) := by
  obtain ⟨vs, hvs⟩ : ∃ vs, (Builtin.zeroCells (Value.agg z.toArray).cells m).toList = vs := ⟨_, rfl⟩
  have hl : vs.length = m * z.length := by rw [← hvs]; simp [Builtin.zeroCells, Value.cells]
  have ho : ∀ v ∈ vs, v.oneCell' = true := fun v hv' => by
    rw [← hvs] at hv'
    simp only [Builtin.zeroCells, Value.cells, Array.toList_map, List.mem_map] at hv'
    obtain ⟨i, _, rfl⟩ := hv'
    have hlt : i % z.toArray.size < z.toArray.size := Nat.mod_lt _ (by simpa using hz)
    rw [getElem!_pos z.toArray (i % z.toArray.size) hlt]
    exact h1 _ (by simp)
  refine ⟨vs, hl, fun ty => ?_⟩
  have hst := run_storeCells_cells (P := P) b o vs 0 w (by rw [hl]; simpa using hc) (by rw [hl]; simpa using hf) ho
  simp only [Nat.add_zero] at hst
  obtain ⟨m', rfl⟩ : ∃ m', m = m' + 1 := ⟨m - 1, by omega⟩
  simp [Builtin.clear_, run_underlying ht, hv, hvs, hst]
end
theorem zeroId_run (w : World) : (zeroValue 28).run Try.prog w = .ok (.agg (idC zId).toArray) w := by
  obtain ⟨i0, hi, hz0, hz1, hz2⟩ := info_parts infoIdz
  simp [zeroValue, typeInfo, hi, hz0]
theorem clear_ids {w : World} {base g cap k : Nat} {C : List (List UInt8)} (h : OwnI w base (.slice (some ⟨g, 0, none⟩) C.length cap) C) (hk : k < C.length) (c : Nat) :
    ∃ w', (∀ ty, (Builtin.clear_ #[22] ty #[.slice (some ⟨g, k * 32, none⟩) (C.length - k) c]).run Try.prog w = .ok (.tuple #[]) w') ∧ OwnI w' base (.slice (some ⟨g, 0, none⟩) k cap) (C.take k) ∧ w.grownBy w' (some g) := by
  have hfl : ((C.map idC).flatten).length = C.length * 32 := by rw [flatK_len _ (ids_len h.len)]; simp
  have hz : (idC zId).length = 32 := by decide
  have hsum : k * 32 + (C.length - k) * 32 = C.length * 32 := by rw [← Nat.add_mul]; congr 1; omega
  obtain ⟨vs, h1, h2⟩ := run_clear_k (P := Try.prog) w 22 28 (idC zId) Try.underlying22 zeroId_run (idC_one zId) g (k * 32) (C.length - k) c (by omega) (by rw [hz]; decide)
    (fun j hj => by
      rw [hz] at hj
      rw [h.own.cellAt (k * 32 + j) (by omega), List.getElem?_eq_getElem (by omega)]; rfl)
    (fun j hj => h.own.frozenAt _)
  rw [hz] at h1
  exact ⟨_, h2, h.cleared vs (by omega) h1, grown_setCells g vs _ w⟩
/-- What is left of a sorted row: it rises, and has the same ids. -/
theorem dp_compact_upto (d : Array (List UInt8)) (hl : ∀ x ∈ d.toList, x.length = 32) (hs : ∀ (i j : Nat) (x y : List UInt8), i < j → d.toList[i]? = some x → d.toList[j]? = some y → St.lt y x = false) : ∀ m, m ≤ d.size → Gr.Up (Lib.compactUpTo d m) ∧ (∀ x, x ∈ Lib.compactUpTo d m ↔ ∃ j, j < m ∧ d.toList[j]? = some x)
  | 0, _ => by
    refine ⟨?_, fun x => ?_⟩
    · exact List.Pairwise.nil
    · simp [Lib.compactUpTo]
  | m + 1, hm => by
    obtain ⟨h1, h2⟩ := dp_compact_upto d hl hs m (by omega)
    have hget : ∀ j, j < d.size → d.toList[j]? = some d[j]! := fun j hj => by
      rw [List.getElem?_eq_getElem (by simpa using hj), getElem!_pos d j hj]; simp
    rw [Lib.compactUpTo_succ]
    by_cases hk : Lib.keeps d m = true
    · rw [if_pos hk]
      refine ⟨?_, fun x => ?_⟩
      · unfold Gr.Up
        rw [List.pairwise_append]
        refine ⟨h1, List.pairwise_singleton _ _, fun a ha b hb => ?_⟩
        rw [List.mem_singleton.1 hb]
        obtain ⟨j, hj, hx⟩ := (h2 a).1 ha
        have hmm := hget m (by omega)
        have hla := hl a (List.mem_of_getElem? hx)
        have hlm := hl d[m]! (List.mem_of_getElem? hmm)
        -- the one ahead of m
        have hp := hget (m - 1) (by omega)
        have hne : d[m]! ≠ d[m - 1]! := by
          unfold Lib.keeps at hk
          rcases of_decide_eq_true hk with k | k
          · omega
          · exact k
        have hlp := hl d[m - 1]! (List.mem_of_getElem? hp)
        have hpm : St.lt d[m - 1]! d[m]! = true := by
          rcases St.lt_tri (a := d[m - 1]!) (b := d[m]!) (by rw [hlp, hlm]) with k | k | k
          · exact k
          · exact absurd k.symm hne
          · have := hs (m - 1) m _ _ (by omega) hp hmm; rw [this] at k; cases k
        rcases Nat.lt_or_ge j (m - 1) with hj2 | hj2
        · have h3 := hs j (m - 1) _ _ hj2 hx hp
          rcases St.lt_tri (a := a) (b := d[m - 1]!) (by rw [hla, hlp]) with k | k | k
          · exact St.lt_trans k hpm
          · rw [k]; exact hpm
          · rw [h3] at k; cases k
        · have : j = m - 1 := by omega
          subst this
          rw [hp] at hx
          injection hx with hx
          rw [← hx]; exact hpm
      · rw [List.mem_append, List.mem_singleton, h2 x]
        constructor
        · rintro (⟨j, hj, hx⟩ | rfl)
          · exact ⟨j, by omega, hx⟩
          · exact ⟨m, by omega, hget m (by omega)⟩
        · rintro ⟨j, hj, hx⟩
          by_cases e : j = m
          · subst e
            rw [hget j (by omega)] at hx
            injection hx with hx
            exact .inr hx.symm
          · exact .inl ⟨j, by omega, hx⟩
    · rw [if_neg hk, List.append_nil]
      refine ⟨h1, fun x => ?_⟩
      rw [h2 x]
      constructor
      · rintro ⟨j, hj, hx⟩; exact ⟨j, by omega, hx⟩
      · rintro ⟨j, hj, hx⟩
        by_cases e : j = m
        · subst e
          have hk2 : ¬ (j = 0 ∨ d[j]! ≠ d[j - 1]!) := fun k => hk (by unfold Lib.keeps; exact decide_eq_true k)
          have h0 : j ≠ 0 := fun e => hk2 (.inl e)
          have he : d[j]! = d[j - 1]! := by
            by_cases e : d[j]! = d[j - 1]!
            · exact e
            · exact absurd (.inr e) hk2
          refine ⟨j - 1, by omega, ?_⟩
          rw [hget (j - 1) (by omega), ← he, ← hx, hget j (by omega)]
        · exact ⟨j, by omega, hx⟩
theorem dp_compact (I : List (List UInt8)) (hl : ∀ x ∈ I, x.length = 32) (hs : ∀ (i j : Nat) (x y : List UInt8), i < j → I[i]? = some x → I[j]? = some y → St.lt y x = false) : Gr.Up (Lib.compact I) ∧ ∀ x, x ∈ Lib.compact I ↔ x ∈ I := by
  obtain ⟨h1, h2⟩ := dp_compact_upto I.toArray (by simpa using hl) (by simpa using hs) I.length (by simp)
  refine ⟨h1, fun x => ?_⟩
  unfold Lib.compact
  rw [h2 x]
  constructor
  · rintro ⟨j, _, hj⟩; exact List.mem_of_getElem? (by simpa using hj)
  · intro hx
    obtain ⟨j, hj⟩ := List.getElem?_of_mem hx
    exact ⟨j, (List.getElem?_eq_some_iff.1 hj).1, by simpa using hj⟩
end Go.Proofs.Ytkcjhkfelaplkaa
