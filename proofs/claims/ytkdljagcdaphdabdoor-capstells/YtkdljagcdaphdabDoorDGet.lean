/-
  WALKS OF LAYER 10: the document's Get.
-/
import Derived.Test.YtkdljagcdaphdabDoorGetW
namespace Go.Proofs.YtkdljagcdaphdabDoor
open Go.RowKit
set_option linter.unusedVariables false
set_option linter.unusedSimpArgs false

/-- What the document's Get answers. -/
def DGetP (s : ByteArray) (w : World) (r : Ending) (w' : World) : Prop :=
  (∃ L v, Cp.Is s.data.toList L ∧ StrsAt w' v L ∧ r = .returned (.tuple #[v, .bool true]) ∧ Below w.heap.size w w') ∨ ((∀ L, ¬ Cp.Is s.data.toList L) ∧ r = .returned (.tuple #[.slice none 0 0, .bool false]) ∧ Below w.heap.size w w')
/-- Where the document's Get stands: the words so far, in a block of its own. -/
structure Gs (w wr : World) (g n cap : Nat) (P : List ByteArray) : Prop where
  own : wr.ownsRow w.heap.size 9 1 (.slice (some ⟨g, 0, none⟩) n cap) n (P.map Value.string)
  bel : Below w.heap.size w wr
theorem Gs.len {w wr : World} {g n cap : Nat} {P : List ByteArray} (h : Gs w wr g n cap P) : P.length = n := by have := h.own.1; simpa using this
theorem Gs.set {w wr : World} {g n cap : Nat} {P : List ByteArray} {x y : ByteArray} (h : Gs w wr g (n + 1) cap (P ++ [x])) : Gs w (wr.setCell ⟨g, n, none⟩ (.string y)) g (n + 1) cap (P ++ [y]) := by
  have hl := h.len
  have hp : P.length = n := by simpa using hl
  refine ⟨?_, h.bel.setCell (World.ownsRow.lt h.own g rfl).1 _⟩
  have := (World.ownsRow.stored h.own n (.string y)).1
  rw [List.map_append, List.set_append_right _ _ (by simp [hp])] at this
  rw [List.map_append]
  simpa [hp] using this
theorem Gs.cell {w wr : World} {g n cap : Nat} {P : List ByteArray} {x : ByteArray} (h : Gs w wr g (n + 1) cap (P ++ [x])) : wr.cell? ⟨g, n, none⟩ = some (.string x) ∧ wr.frozen? ⟨g, n, none⟩ = false := by
  have hl := h.len
  have hp : P.length = n := by simpa using hl
  refine ⟨?_, World.ownsRow.frozenAt h.own n⟩
  rw [World.ownsRow.cellAt h.own n (by omega), List.map_append, List.getElem?_append_right (by simp [hp])]
  simp [hp]
theorem Gs.rows {w wr : World} {g n cap : Nat} {P : List ByteArray} (h : Gs w wr g n cap P) : StrsAt wr (.slice (some ⟨g, 0, none⟩) n cap) P := by
  have hl := h.len
  subst hl
  exact OwnS.rows (B := w.heap.size) h.own
theorem Gs.push {ops : Array Oper} {rest : List Oper} {op : Oper} {a : Act} {Q : Exit → Act → World → Prop} {w wr : World} {g n cap : Nat} {P : List ByteArray} {r : ByteArray} (s x : Operand)
    (ho : op.op = .call { callee := .builtin .append, args := #[s, x], argTypes := #[22, 22] }) (hg : op.guard = none) (hs : a.eval s = .slice (some ⟨g, 0, none⟩) n cap) (hx : a.eval x = .slice (some ⟨wr.heap.size, 0, none⟩) 1 1)
    (h : Gs w wr g n cap P) (hl : n ≤ 1000)
    (hK : ∀ g' cap' w', Hid (Gs w w' g' (n + 1) cap' (P ++ [r])) → wpList Tryd.prog ops Q rest (a.put op.dst (.slice (some ⟨g', 0, none⟩) (n + 1) cap')) w') : wpList Tryd.prog ops Q (op :: rest) a (wr.alloc (.cells #[.string r] 9)) := by
  obtain ⟨i0, hi, hz0, hz1, hz2⟩ := info_parts infoStr
  have hlt := h.bel.size
  refine wpList_append_own _ hg s x 22 ho w.heap.size 9 i0 _ 1 16 Tryd.underlying22 hi hz0 hz1 hz2 rfl (by decide) _ n (P.map Value.string) hs (World.ownsRow.alloc h.own _) ⟨wr.heap.size, 0, none⟩ 1 1 [.string r] hx rfl (one_cell (heap_alloc_new _ _)) (by intro u hu; simp at hu; subst hu; rfl) (by unfold maxLen; omega) (by omega) (by simp; omega) ?_
  intro v' w' h1 h2 _
  obtain ⟨g', cap', hv, _, _⟩ := World.ownsRow.form h1 (by omega)
  subst hv
  refine hK g' cap' w' ⟨?_, (h.bel.alloc h.bel.size _).grown h2 (by simp; omega) (fun k hk => (World.ownsRow.lt h.own k hk).1)⟩
  rw [List.map_append]
  exact h1
theorem one_ext (s : ByteArray) (k : Nat) (h : k < s.size) : (s.extract k (k + 1)).data.toList = [s[k]] := by
  simp only [ByteArray.data_extract, Array.toList_extract, List.extract_eq_take_drop]
  rw [Nat.add_sub_cancel_left, List.drop_eq_getElem_cons (show k < s.data.toList.length by simpa using h)]
  rfl
theorem text_noinj {s : ByteArray} {P L : List ByteArray} (hP : P ≠ []) (hno : ∀ x ∈ P, 32 ∉ x.data.toList) (ht : Cp.textL P = s.data.toList) (hs : s.data.toList ≠ []) (q : Cp.Is s.data.toList L) : L = P := by
  have h1 := q.split hs (P.length + L.length) (by omega)
  have h2 := Cp.text_split P (P.length + L.length) s hP hno ht (by omega)
  rw [← h1, h2]

set_option maxHeartbeats 1000000 in
set_option maxRecDepth 100000 in
theorem refget_any (s : ByteArray) (w : World) (hs : s.size ≤ 500) : Calls Tryd.prog 12 #[.string s] w (DGetP s w) := by
  by_cases h1 : s = ByteArray.empty
  · have HQ := Lib.hid (show DGetP s w (.returned (.tuple #[.slice none 0 0, .bool true])) w from .inl ⟨[], _, ⟨fine_nil, by rw [h1]; rfl⟩, StrsAt.nil _, rfl, Below.refl _ _⟩)
    subst h1
    go_enter Tryd.func12, Tryd.ntmps12
    go_wp2_with fail
    go_ret2
    exact HQ.out
  · have hne := size_ne h1
    have hnx := not_empty h1
    have hnx2 : s.toList.isEmpty = false := by simpa using hnx
    have hq0 : ¬ s.toList = [] := by rw [ByteArray.toList_eq]; exact list_ne h1
    have HL0 := Lib.hid (list_ne h1)
    have HG0 := Lib.hid (show Gs w (w.alloc (.cells #[.string ⟨#[]⟩] 9)) w.heap.size 1 1 ([] ++ [⟨#[]⟩]) from ⟨by
      refine ⟨by simp, .inr ⟨w.heap.size, 1, #[.string ⟨#[]⟩], rfl, Nat.le_refl _, heap_alloc_new _ _, by omega, by unfold maxLen; omega, by simp, by simp⟩⟩, below_new _ _⟩)
    clear h1
    go_enter Tryd.func12, Tryd.ntmps12
    go_wp2_with fail
    go_loopw [4, 5] (fun v i wr => ∃ (k n g cap : Nat) (P : List ByteArray) (x : ByteArray), k ≤ s.size ∧ n ≤ k ∧ i = .int .i64 k ∧ v = .slice (some ⟨g, 0, none⟩) (n + 1) cap ∧ x.size ≤ k ∧ Hid (∀ y ∈ P ++ [x], 32 ∉ y.data.toList ∧ y.size ≤ 500) ∧ Hid (Cp.textL (P ++ [x]) = s.data.toList.take k) ∧ Hid (Gs w wr g (n + 1) cap (P ++ [x]))) (fun _ i _ => s.size - (intOf i).toNat)
    case atStart => exact ⟨0, 0, w.heap.size, 1, [], ⟨#[]⟩, by omega, by omega, rfl, rfl, by decide, (fun y hy => by simp at hy; subst hy; exact ⟨by simp, by decide⟩), rfl, HG0.out⟩
    case round =>
      obtain ⟨k, n, g, cap, P, x, hk, hnk, rfl, rfl, hxk, HN, HT, HG⟩ := hrel
      by_cases hlt : k < s.size
      · have hlt' : (k : Int) < (s.size : Int) := by omega
        have hk0 : (0 : Int) ≤ (k : Int) := by omega
        by_cases hc : s[k] = 32
        · have hcq : ((s[k].toNat : Int) == 32) = true := by rw [hc]; rfl
          have HT2 := Lib.hid (show Cp.textL ((P ++ [x]) ++ [⟨#[]⟩]) = s.data.toList.take (k + 1) by
            rw [Cp.text_snoc _ _ (by simp), HT.out, take_snoc s k hlt, hc])
          have HN2 := Lib.hid (show ∀ y ∈ (P ++ [x]) ++ [(⟨#[]⟩ : ByteArray)], 32 ∉ y.data.toList ∧ y.size ≤ 500 from fun y hy => by
            rcases List.mem_append.1 hy with h | h
            · exact HN.out y h
            · simp at h; subst h; exact ⟨by simp, by decide⟩)
          clear hc
          go_wp2_with (at_builtin; refine Gs.push (r := ⟨#[]⟩) (.tmp 20) (.tmp 21) rfl rfl rfl rfl HG.out (by omega) ?_; intro g2 cap2 w2 HG2)
          go_roundw
          case rel => exact ⟨k + 1, n + 1, g2, cap2, P ++ [x], ⟨#[]⟩, by omega, by omega, by go_num, rfl, by show (0 : Nat) ≤ _; omega, HN2, HT2, HG2⟩
          case measure => simp [intOf]; omega
        · have hcq : ((s[k].toNat : Int) == 32) = false := beq_eq_false_iff_ne.2 (fun h => hc (UInt8.toNat_inj.1 (by show s[k].toNat = 32; omega)))
          have hy : (x ++ s.extract k (k + 1)).data.toList = x.data.toList ++ [s[k]] := by rw [data_append, one_ext s k hlt]
          have HT2 := Lib.hid (show Cp.textL (P ++ [x ++ s.extract k (k + 1)]) = s.data.toList.take (k + 1) by
            rw [Cp.text_last P x _ s[k] hy, HT.out, take_snoc s k hlt])
          have hex : (s.extract k (k + 1)).size = 1 := by
            simp; omega
          have HN2 := Lib.hid (show ∀ y ∈ P ++ [x ++ s.extract k (k + 1)], 32 ∉ y.data.toList ∧ y.size ≤ 500 from fun y hm => by
            rcases List.mem_append.1 hm with h | h
            · exact HN.out y (by simp [h])
            · simp at h; subst h
              refine ⟨?_, by simp only [ByteArray.size_append]; omega⟩
              rw [hy]
              have h0 := (HN.out x (by simp)).1
              simp only [List.mem_append, List.mem_singleton, not_or]
              exact ⟨h0, fun e => hc e.symm⟩)
          obtain ⟨c0, f0⟩ := HG.out.cell
          have HGS := Lib.hid (HG.out.set (y := x ++ s.extract k (k + 1)))
          have HGD := Lib.hid (show Gs w (wr.drew.setCell ⟨g, n, none⟩ (.string (x ++ s.extract k (k + 1)))) g (n + 1) cap (P ++ [x ++ s.extract k (k + 1)]) from (Gs.set (w := w) (wr := wr.drew) (x := x) ⟨World.ownsRow.kept HG.out.own (row := none) ⟨rfl, rfl, rfl, Nat.le_refl _, fun _ _ _ => rfl⟩ (by simp [Value.ownBlock]), HG.out.bel.drew⟩))
          have e1 : ((n : Int) + 1) - 1 = (n : Int) := by omega
          have e2 : (0 : Int) ≤ (n : Int) := by omega
          have e3 : (n : Int) < (n : Int) + 1 := by omega
          have e4 : (k : Int) + 1 ≤ (s.size : Int) := by omega
          have e5 : (0 : Int) ≤ (k : Int) + 1 := by omega
          have e6 : ((k : Int) + 1).toNat = k + 1 := by omega
          have e7 : IntKind.i64.wrap ((k : Int) + 1) = (k : Int) + 1 := IntWalk.i64_in _ (by omega)
          have e8 : (k : Int) ≤ (k : Int) + 1 := by omega
          have e9 : ¬ 9223372036854775807 < x.size + (s.extract k (k + 1)).size := by omega
          have hxz : (x ++ s.extract k (k + 1)).size ≤ k + 1 := by simp only [ByteArray.size_append]; omega
          have f1 : IntKind.i64.wrap (((n + 1 : Nat) : Int) - 1) = (n : Int) := by rw [show ((n + 1 : Nat) : Int) - 1 = (n : Int) by omega]; exact IntWalk.i64_in _ (by omega)
          have f2 : IntKind.i64.wrap ((n : Int) + 1 - 1) = (n : Int) := by rw [show (n : Int) + 1 - 1 = (n : Int) by omega]; exact IntWalk.i64_in _ (by omega)
          have f3 : IntKind.i64.wrap (n : Int) = (n : Int) := IntWalk.i64_in _ (by omega)
          have f4 : (n : Int) < ((n + 1 : Nat) : Int) := by omega
          have hmn : min (k + 1) s.size - k = 1 := by omega
          have e10 : ¬ 9223372036854775807 < x.size + 1 := by omega
          have e11 : ¬ 9223372036854775807 < x.size + (min (k + 1) s.size - k) := by omega
          clear hc hy HGS hex e9
          go_wp2_with fail
          refine region_tail 17 (by kernel_rfl) (by kernel_rfl) ?_
          simp only [List.take_succ_cons, List.take_zero, List.drop_succ_cons, List.drop_zero]
          repeat still_step
          refine wpStill_nil ?_
          go_wp2_with fail
          go_roundw
          case rel => exact ⟨k + 1, n, g, cap, P, x ++ s.extract k (k + 1), by omega, by omega, by go_num, rfl, hxz, HN2, HT2, HGD⟩
          case measure => simp [intOf]; omega
      · obtain rfl : k = s.size := by omega
        have hlt2 : ¬ (s.size : Int) < (s.size : Int) := by omega
        have HTT := Lib.hid (show Cp.textL (P ++ [x]) = s.data.toList by rw [HT.out, List.take_of_length_le (by simp)])
        have HFN := Lib.hid (reffine_any _ (P ++ [x]) wr HG.out.rows (fun r hr => by have := (HN.out r hr).2; unfold maxLen; omega) (by have := HG.out.len; unfold maxLen; omega))
        clear hlt
        cases hf : Cp.fine (P ++ [x]) with
        | true =>
          rw [hf] at HFN
          have HQ := Lib.hid (show ∀ w', Below wr.heap.size wr w' → DGetP s w (.returned (.tuple #[.slice (some ⟨g, 0, none⟩) (n + 1) cap, .bool true])) w' from fun w' hb => .inl ⟨P ++ [x], _, ⟨hf, HTT.out⟩, HG.out.rows.below hb, rfl, below_step HG.out.bel hb⟩)
          clear hf
          go_wp2_with fail
          refine HFN.out.mono ?_
          rintro r w2 ⟨rfl, hb⟩
          go_wp2_with fail
          go_ret2
          exact HQ.out _ hb
        | false =>
          rw [hf] at HFN
          have HQ := Lib.hid (show ∀ w', Below wr.heap.size wr w' → DGetP s w (.returned (.tuple #[.slice none 0 0, .bool false])) w' from fun w' hb => .inr ⟨(fun L q => by
            have e := text_noinj (by simp) (fun y hy => (HN.out y hy).1) HTT.out HL0.out q
            rw [e] at q
            rw [q.1] at hf
            cases hf), rfl, below_step HG.out.bel hb⟩)
          clear hf
          go_wp2_with fail
          refine HFN.out.mono ?_
          rintro r w2 ⟨rfl, hb⟩
          go_wp2_with fail
          go_ret2
          exact HQ.out _ hb

end Go.Proofs.YtkdljagcdaphdabDoor
