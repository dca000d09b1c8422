/-
  WALKS OF LAYER 13: slices.SortFunc of a row of ids, by depth's compare.
-/
import Derived.Test.YtkcjhkfelaplkaaDpCmp
import Derived.Test.YtkcjhkfelaplkaaSortShelf
import Derived.Shelf.SlSortCmp.NoneTotal
namespace Go.Proofs.Ytkcjhkfelaplkaa
open Go.RowKit Go.Sort
set_option linter.unusedVariables false
set_option linter.unusedSimpArgs false

theorem Dp.eg : ∀ args w, (callFunc 14 args).run Try.prog w = .ok (.enter 14 args) w := enters_of Try.func14 (by kernel_rfl) rfl
theorem Dp.cmp (blk off size : Nat) (w : World) : CmpLays Try.prog 14 #[] Gr.enc 32 Gr.cf blk off size w := fun m os dk hs x y => by
  have h := dpcompare_l x.1 y.1 x.2 y.2 (sortWorldK Gr.enc 32 w blk off m dk os)
  simp only [Array.append_empty]
  exact h.mono fun e w' ⟨h1, h2, h3⟩ => ⟨h1, grow_of h2 h3⟩
set_option maxRecDepth 100000 in
theorem dpsort_any (w : World) (base : Nat) (v : Value) (I : List (List UInt8)) (h : OwnI w base v I) (hn : I.length ≤ 100000) :
    Calls Try.prog 13 #[v, .func (.func 14) #[] #[]] w fun r w' => r = .returned (.tuple #[]) ∧ ∃ I', I'.Perm I ∧ (∀ (i j : Nat) (x y : List UInt8), i < j → I'[i]? = some x → I'[j]? = some y → St.lt y x = false) ∧ OwnI w' base v I' ∧ w.grownBy w' v.ownBlock := by
  rcases Nat.eq_zero_or_pos I.length with h0 | h0
  · have hI : I = [] := List.eq_nil_of_length_eq_zero h0
    subst hI
    obtain ⟨ao, cap, rfl⟩ := h.rows.form
    have := AnyF.slices_SortFunc_none Try.sortId ao cap (.func (.func 14) #[] #[]) w
    refine Calls.mono this fun e w' ⟨h1, h2⟩ => ⟨h1, [], .refl _, fun i j x y _ hx => by simp at hx, ?_, ?_⟩
    · subst h2; exact h
    · subst h2; exact World.grownBy.refl _ _
  · obtain ⟨g, cap, rfl, hb, hlt⟩ := h.own.form h0
    have hH := holds_of_own h
    have hsz : (Gr.subs I h.len).toArray.size = I.length := by simp [Gr.subs_len]
    have hc := AnyQ.slices_SortFunc Try.sortId 32 Try.isAgg28 Try.sizeOf28 Gr.enc Gr.enc_len Gr.enc_one Gr.cf Gr.swo 14 #[] g 0 cap (Gr.subs I h.len).toArray w Dp.eg (Dp.cmp _ _ _ _) hH hlt (by omega)
    rw [hsz] at hc
    refine Calls.mono hc fun e w' ⟨h1, d', n, os, hp, hs, hw⟩ => ⟨h1, d'.toList.map (·.1), ?_, ?_, ?_, ?_⟩
    · have h3 := hp.2.2
      have e1 : (d'.extract 0 I.length).toList = d'.toList := by
        have : d'.size = I.length := by rw [hp.1, hsz]
        rw [← this]; simp
      have e2 : ((Gr.subs I h.len).toArray.extract 0 I.length).toList = Gr.subs I h.len := by
        have h9 : (Gr.subs I h.len).length = I.length := Gr.subs_len _ _
        simp [h9, List.take_of_length_le]
      rw [e1, e2] at h3
      have := h3.map (·.1)
      rwa [Gr.subs_map] at this
    · intro i j x y hij hx hy
      rw [List.getElem?_map] at hx hy
      have hjs : j < d'.size := by
        cases hq : d'.toList[j]? with
        | none => rw [hq] at hy; simp at hy
        | some z => have := (List.getElem?_eq_some_iff.1 hq).1; simpa using this
      have hjn : j < I.length := by rw [hp.1, hsz] at hjs; exact hjs
      have := hs i j (Nat.zero_le _) hij hjn
      rw [Gr.ltOf_cf, getElem!_pos d' j hjs, getElem!_pos d' i (by omega)] at this
      rw [List.getElem?_eq_getElem (by simpa using hjs)] at hy
      rw [List.getElem?_eq_getElem (by simp; omega)] at hx
      simp only [Option.map_some, Option.some.injEq, Array.getElem_toList] at hx hy
      rw [← hx, ← hy]; exact this
    · have hsz' : d'.size = I.length := by rw [hp.1, hsz]
      rcases h.own.2 with ⟨hv', _⟩ | ⟨g', c', cur, hv', hb', hh, h1', h2', h3', h4'⟩
      · cases hv'
      · simp only [Value.slice.injEq, Option.some.injEq, Addr.mk.injEq, and_true] at hv'
        obtain ⟨rfl, _, rfl⟩ := hv'
        have hle : (d'.toList.map (·.1)).length = I.length := by simp [hsz']
        have h5 := own_sortedK (w := w) (base := base) (os := os) (m := n) Gr.enc 32 Gr.enc_len d' hsz' hb' hh h1' h2' h3'
        rw [← hw] at h5
        refine ⟨?_, fun i hi => ?_⟩
        · rw [hle, List.map_map]; exact h5
        · obtain ⟨x, _, rfl⟩ := List.mem_map.1 hi
          exact x.2
    · rw [hw]; exact sorted_grown
end Go.Proofs.Ytkcjhkfelaplkaa
