/-
  LAYER 13: ids that are appended to a new row (no program).
-/
import Derived.Test.YtkcjhkfelaplkaaBase
namespace Go.Proofs.Ytkcjhkfelaplkaa
open Go.RowKit
set_option linter.unusedVariables false
set_option linter.unusedSimpArgs false

theorem dpwp_apI {op : Oper} {a : Act} {w : World} {K : Act → World → Prop} {Q : Exit → Act → World → Prop} {v jv : Value} {I J : List (List UInt8)} {base : Nat} (s x : Operand)
    (ho : op.op = .call { callee := .builtin .append, args := #[s, x], argTypes := #[22, 22] }) (hs : a.eval s = v) (hx : a.eval x = jv)
    (h : OwnI w base v I) (hJ : IdsAt w jv J) (hJl : ∀ i ∈ J, i.length = 32) (hb : base ≤ w.heap.size) (hl : I.length + J.length ≤ 100000)
    (hK : ∀ v' w', OwnI w' base v' (I ++ J) → w.grownBy w' v.ownBlock → K (a.put op.dst v') w') : op.wp Try.prog a w K Q := by
  obtain ⟨i0, hi, hz0, hz1, hz2⟩ := info_parts infoIdz
  obtain ⟨ao, cap, rfl⟩ : ∃ ao cap, jv = .slice ao J.length cap := by simpa using RowsAt.form hJ
  have hfl : ((J.map idC).flatten).length = J.length * 32 := by rw [flatK_len _ (ids_len hJl)]; simp
  cases ao with
  | none =>
    have hn : J = [] ∧ cap = 0 := by
      rcases hJ.out with ⟨h1, h0⟩ | ⟨a', c, h0, _⟩
      · have : J = [] := by simpa using h0
        subst this
        simp at h1
        exact ⟨rfl, h1⟩
      · simp at h0
    obtain ⟨rfl, rfl⟩ := hn
    have hrun := run_append_owned_none (P := Try.prog) (w := w) base 22 op.type 28 i0 32 Try.underlying22 hi v I.length _ h.own
    unfold Oper.wp
    simp [execOp, ho, resolve, invoke, builtin, hs, hx, hrun, Result.andThen]
    exact hK v w (by simpa using h) (World.grownBy.refl _ _)
  | some ad =>
    refine wp_append_own _ s x 22 ho base 28 i0 _ 32 32 Try.underlying22 hi hz0 hz1 hz2 (by decide) (by decide) v I.length (I.map idC).flatten hs h.own ad J.length cap ((J.map idC).flatten) hx hfl (ids_flat_at hJ hJl) (ids_flat_one J) (by unfold maxLen; omega) (by omega) hb ?_
    intro v' w' h1 h2 _
    refine hK v' w' ⟨?_, ?_⟩ h2
    · simpa using h1
    · intro i hi
      rcases List.mem_append.1 hi with h' | h'
      · exact h.len i h'
      · exact hJl i h'
theorem dptake_at2 {w : World} {a : Addr} {n m cap cap' : Nat} {I : List (List UInt8)} (h : IdsAt w (.slice (some a) n cap) I) (hm : m ≤ I.length) : IdsAt w (.slice (some a) m cap') (I.take m) := by
  refine ⟨.inr ⟨a, cap', by simp [Nat.min_eq_left hm], fun i cs hi => ?_⟩⟩
  rw [List.map_take, List.getElem?_take] at hi
  split at hi
  · obtain ⟨a', e, h1, h2⟩ := h.elem i cs hi
    injection e with e
    subst e
    exact ⟨h1, h2⟩
  · cases hi
theorem dprun_bs0 (w : World) : (Instr.buildSlice 22 0 #[]).run Try.prog w = .ok (.slice (some ⟨w.heap.size, 0, none⟩) 0 0) (w.alloc (.cells #[] 28)) := by
  obtain ⟨ie, hie, hz, h1, _⟩ := info_parts infoIdz
  have hu := fun w => run_underlying (P := Try.prog) Try.underlying22 w
  simp [Instr.buildSlice, hu, sizeOf, typeInfo, hie, newRow, Instr.fill]
  rw [show Array.range 0 = #[] from Array.eq_empty_of_size_eq_zero (by simp)]
  simp
theorem dpown_bs0 (w : World) (b : Nat) (hb : b ≤ w.heap.size) : OwnI (w.alloc (.cells #[] 28)) b (.slice (some ⟨w.heap.size, 0, none⟩) 0 0) [] :=
  ⟨⟨by simp, .inr ⟨w.heap.size, 0, #[], rfl, hb, heap_alloc_new _ _, by simp, by unfold maxLen; omega, by simp, by simp⟩⟩, fun i hi => by cases hi⟩
theorem dpapI_at {ops : Array Oper} {rest : List Oper} {op : Oper} {a : Act} {w : World} {Q : Exit → Act → World → Prop} {v jv : Value} {I J : List (List UInt8)} {base : Nat} (s x : Operand)
    (ho : op.op = .call { callee := .builtin .append, args := #[s, x], argTypes := #[22, 22] }) (hg : op.guard = none) (hs : a.eval s = v) (hx : a.eval x = jv)
    (h : OwnI w base v I) (hJ : IdsAt w jv J) (hJl : ∀ i ∈ J, i.length = 32) (hb : base ≤ w.heap.size) (hl : I.length + J.length ≤ 100000)
    (hK : ∀ v' w', Hid (OwnI w' base v' (I ++ J)) → Hid (Below base w w') → wpList Try.prog ops Q rest (a.put op.dst v') w') : wpList Try.prog ops Q (op :: rest) a w :=
  wpList_step fun K hKK => by
    rw [if_pos (by simp [Region.wanted, hg])]
    exact dpwp_apI s x ho hs hx h hJ hJl hb hl (fun v' w' h1 h2 => hKK _ _ (hK v' w' h1 ((Below.refl base w).grown h2 hb (fun k hk => (h.own.lt k hk).1))))
end Go.Proofs.Ytkcjhkfelaplkaa
