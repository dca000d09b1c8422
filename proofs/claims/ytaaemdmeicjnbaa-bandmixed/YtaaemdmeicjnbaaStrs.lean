/-
  FOUR ROWS OF BYTES IN AN ARRAY (layer 8): what an append onto one of them leaves; valid (band).
-/
import Derived.Test.YtaaemdmeicjnbaaBase
import Derived.OneCell
namespace Go.Proofs.Ytaaemdmeicjnbaa
open Go.RowKit
set_option linter.unusedVariables false
set_option linter.unusedSimpArgs false
open Pk (Ln)

/-! ### append of a string onto a row of the call's own, and where the new row lies -/
section
variable {P : Program} (w : World)
theorem run_append_str_at (base : Nat) (t u ty e : TypeId) (i : TypeInfo) (ht : P.underlying t = some (.slice e)) (hu : P.underlying u = some .string) (hi : P.info? e = some i) (hz : i.zero = some (.int .u8 0))
    (hsize : i.size = 1) (hby : i.bytes = 1)
    (v : Value) (n : Nat) (xs : List Value) (hown : w.ownsRow base e 1 v n xs) (s : ByteArray) (hs : 0 < s.size)
    (h63 : n + s.size ≤ maxLen) (hbytes : n + s.size ≤ 140737488355328) (hbase : base ≤ w.heap.size) :
    ∃ v' w', (Builtin.append_ #[t, u] ty #[v, .string s]).run P w = .ok v' w' ∧ w'.ownsRow base e 1 v' (n + s.size) (xs ++ Lib.strCells s) ∧ w.grownBy w' v.ownBlock ∧
      (v'.ownBlock = v.ownBlock ∨ v'.ownBlock = some w.heap.size) := by
  obtain ⟨v', w', hr, ho, hg, _⟩ := Lib.run_append_own_string (P := P) w base t u ty e i ht hu hi hz hsize hby v n xs hown s h63 hbytes hbase
  refine ⟨v', w', hr, ho, hg, ?_⟩
  have hxl : xs.length = n := by simpa using hown.1
  rcases hown.2 with ⟨rfl, rfl⟩ | ⟨g, cap, cur, rfl, hbg, hh, hnc, hcm, hcs, htake⟩
  · have h1 := run_append_nil_string (P := P) w t u ty e i (.int .u8 0) ht hu hi hz s (by omega) (by unfold maxLen at h63; omega) (by rw [hby]; omega)
    rw [hr] at h1
    injection h1 with h1 h2
    right; rw [h1]; rfl
  · by_cases hroom : n + s.size ≤ cap
    · have hcs' : cur.size = cap := by simpa using hcs
      have h1 := Lib.run_append_room_string (P := P) w t u ty e i ht hu hi hsize g n cap cur hh s hroom (by omega)
      rw [hr] at h1
      injection h1 with h1 h2
      left; rw [h1]; rfl
    · have holds : ∀ j u, xs[j]? = some u → w.cell? ((⟨g, 0, none⟩ : Addr).add j) = some u := hown.cells (g := g) rfl
      have h1 := Lib.run_append_grow_string (P := P) w t u ty e i (.int .u8 0) ht hu hi hz ⟨g, 0, none⟩ n cap xs (by rw [hsize]; simpa using hxl) holds s (by omega) (by unfold maxLen at h63; omega) (by rw [hby]; exact growslice_fits (by omega) (by omega))
      rw [hr] at h1
      injection h1 with h1 h2
      right; rw [h1]; rfl
theorem step_append_str {ops : Array Oper} {o : Oper} {a : Act} {K : Act → World → Prop} {Q : Exit → Act → World → Prop} {E : Prop} (hgd : o.guard = none) (sl x : Operand) (t u : TypeId)
    (ho : o.op = .call { callee := .builtin .append, args := #[sl, x], argTypes := #[t, u] })
    (base : Nat) (e : TypeId) (i : TypeInfo) (ht : P.underlying t = some (.slice e)) (hu : P.underlying u = some .string) (hi : P.info? e = some i) (hz : i.zero = some (.int .u8 0))
    (hsize : i.size = 1) (hby : i.bytes = 1)
    (v : Value) (n : Nat) (xs : List Value) (hsl : a.eval sl = v) (hown : w.ownsRow base e 1 v n xs) (s : ByteArray) (hx : a.eval x = .string s) (hs : 0 < s.size)
    (h63 : n + s.size ≤ maxLen) (hbytes : n + s.size ≤ 140737488355328) (hbase : base ≤ w.heap.size)
    (h : ∀ v' w', w'.ownsRow base e 1 v' (n + s.size) (xs ++ Lib.strCells s) → w.grownBy w' v.ownBlock → (v'.ownBlock = v.ownBlock ∨ v'.ownBlock = some w.heap.size) → K (a.put o.dst v') w') :
    if Region.wanted o (yielded ops a.tmps) = true then Oper.wp P o a w K Q else E := by
  have hw : Region.wanted o (yielded ops a.tmps) = true := by simp [Region.wanted, hgd]
  rw [if_pos hw]
  obtain ⟨v', w', hr, h2, h3, h4⟩ := run_append_str_at (P := P) w base t u o.type e i ht hu hi hz hsize hby v n xs hown s hs h63 hbytes hbase
  unfold Oper.wp execOp
  simp only [ho, resolve, invoke, builtin, Sem.run_bind, Sem.run_pure, Result.andThen_ok, List.map_toArray, List.map_cons, List.map_nil, hsl, hx, hr]
  exact h v' w' h2 h3 h4
end

/-- An array of four rows of bytes, each a call's own, apart from each other. -/
structure Strs (w : World) (base g : Nat) (v : Nat → Value) (X : Nat → List UInt8) : Prop where
  at_ : w.heap[g]? = some (.cells #[v 0, v 1, v 2, v 3] 46)
  own : ∀ i, i < 4 → w.ownsRow base 5 1 (v i) (X i).length (cellsOf (X i))
  far : ∀ i j, i < 4 → j < 4 → i ≠ j → ∀ b, (v i).ownBlock = some b → (v j).ownBlock ≠ some b
theorem Strs.lt {w : World} {base g : Nat} {v : Nat → Value} {X : Nat → List UInt8} (h : Strs w base g v X) : g < w.heap.size := (Array.getElem?_eq_some_iff.1 h.at_).1
theorem Strs.below {w w' : World} {base g : Nat} {v : Nat → Value} {X : Nat → List UInt8} (h : Strs w base g v X) (hb : Below w.heap.size w w') : Strs w' base g v X :=
  ⟨(hb.block g h.lt).trans h.at_, fun i hi => own_below (h.own i hi) hb, h.far⟩
theorem Strs.alloc {w : World} {base g : Nat} {v : Nat → Value} {X : Nat → List UInt8} (h : Strs w base g v X) (o : Obj) : Strs (w.alloc o) base g v X := h.below (below_new w o)
theorem Strs.cell {w : World} {base g : Nat} {v : Nat → Value} {X : Nat → List UInt8} (h : Strs w base g v X) (i : Nat) (hi : i < 4) : w.cell? ⟨g, i, none⟩ = some (v i) := by
  rw [cell_of_row _ _ i _ _ _ h.at_]
  match i, hi with
  | 0, _ => rfl
  | 1, _ => rfl
  | 2, _ => rfl
  | 3, _ => rfl
def upd {α : Type} (f : Nat → α) (c : Nat) (y : α) : Nat → α := fun i => if i = c then y else f i
theorem upd_same {α : Type} (f : Nat → α) (c : Nat) (y : α) : upd f c y c = y := by simp [upd]
theorem upd_other {α : Type} (f : Nat → α) (c : Nat) (y : α) {i : Nat} (h : i ≠ c) : upd f c y i = f i := by simp [upd, h]
/-- Behind the append the array stands as it was. -/
theorem Strs.stands {w w1 : World} {base g : Nat} {v : Nat → Value} {X : Nat → List UInt8} (h : Strs w base g v X) (c : Nat) (hc : c < 4) (hgrow : w.grownBy w1 (v c).ownBlock) : w1.heap[g]? = some (.cells #[v 0, v 1, v 2, v 3] 46) :=
  (hgrow.block g h.lt (own_ne (h.own c hc) h.at_ (by decide))).trans h.at_
theorem Strs.push {w w1 : World} {base g : Nat} {v : Nat → Value} {X : Nat → List UInt8} (h : Strs w base g v X) (c : Nat) (hc : c < 4) (s : List UInt8) (v' : Value)
    (hown : w1.ownsRow base 5 1 v' (X c ++ s).length (cellsOf (X c ++ s))) (hgrow : w.grownBy w1 (v c).ownBlock) (hat : v'.ownBlock = (v c).ownBlock ∨ v'.ownBlock = some w.heap.size) :
    Strs (w1.setCell ⟨g, c, none⟩ v') base g (upd v c v') (upd X c (X c ++ s)) := by
  have hg1 := h.stands c hc hgrow
  refine ⟨?_, fun i hi => ?_, fun i j hi hj hij b hb => ?_⟩
  · rw [held_set hg1]
    match c, hc with
    | 0, _ => rfl
    | 1, _ => rfl
    | 2, _ => rfl
    | 3, _ => rfl
  · by_cases hic : i = c
    · subst hic
      rw [upd_same, upd_same]
      exact ownsRow_setCell_other hown (fun e => own_ne hown hg1 (by decide) e.symm) _
    · rw [upd_other _ _ _ hic, upd_other _ _ _ hic]
      have ho := h.own i hi
      have ho1 : w1.ownsRow base 5 1 (v i) (X i).length (cellsOf (X i)) := by
        refine ⟨ho.1, ?_⟩
        rcases ho.2 with h0 | ⟨b, cap, cur, hv, hbb, hh, hrest⟩
        · exact .inl h0
        · refine .inr ⟨b, cap, cur, hv, hbb, ?_, hrest⟩
          have hlt : b < w.heap.size := (Array.getElem?_eq_some_iff.1 hh).1
          exact (hgrow.block b hlt (fun e => h.far i c hi hc hic b (by rw [hv]; rfl) e.symm)).trans hh
      exact ownsRow_setCell_other ho1 (fun e => own_ne ho1 hg1 (by decide) e.symm) _
  · by_cases hic : i = c
    · subst hic
      rw [upd_same] at hb
      rw [upd_other _ _ _ (Ne.symm hij)]
      rcases hat with e | e
      · rw [e] at hb; exact h.far i j hi hj hij b hb
      · rw [e] at hb
        intro hjb
        have := ((h.own j hj).lt b hjb).2
        cases hb; omega
    · rw [upd_other _ _ _ hic] at hb
      by_cases hjc : j = c
      · subst hjc
        rw [upd_same]
        rcases hat with e | e
        · rw [e]; exact h.far i j hi hj hij b hb
        · rw [e]
          intro hh
          have := ((h.own i hi).lt b hb).2
          cases hh; omega
      · rw [upd_other _ _ _ hjc]
        exact h.far i j hi hj hij b hb

/-! ### valid -/
theorem ch_at (p : Ln) (h : 0 < p.load.size) : Pk.ch p = p.load[0].toNat := by unfold Pk.ch; rw [getD_byte _ _ h]
set_option maxHeartbeats 800000 in
set_option maxRecDepth 100000 in
theorem valid_any (p : Ln) (w : World) (hs : p.load.size ≤ 3000) :
    Calls Try.prog 13 #[lnV p] w fun r w' => r = .returned (.bool (Pk.okl p)) ∧ Below w.heap.size w w' := by
  unfold lnV
  by_cases q1 : p.kind = 0
  · by_cases q2 : p.load.size < 2
    · have HO := Lib.hid (show Pk.okl p = false by rw [Bool.eq_false_iff, ne_eq, Pk.okl_iff]; omega)
      have q2' : (p.load.size : Int) < 2 := by omega
      clear q2
      generalize p.kind = k at *
      generalize p.load = l at *
      subst q1
      go_enter Try.func13, Try.ntmps13
      go_wp2_with fail
      go_ret
      exact ⟨ret_bool HO.out.symm, below_new _ _⟩
    · by_cases q3 : 1000 < p.load.size
      · have HO := Lib.hid (show Pk.okl p = false by rw [Bool.eq_false_iff, ne_eq, Pk.okl_iff]; omega)
        have q2' : ¬ (p.load.size : Int) < 2 := by omega
        have q3' : 1000 < (p.load.size : Int) := by omega
        clear q2 q3
        generalize p.kind = k at *
        generalize p.load = l at *
        subst q1
        go_enter Try.func13, Try.ntmps13
        go_wp2_with fail
        go_ret
        exact ⟨ret_bool HO.out.symm, below_new _ _⟩
      · have q2' : ¬ (p.load.size : Int) < 2 := by omega
        have q3' : ¬ 1000 < (p.load.size : Int) := by omega
        have q0 : 0 < p.load.size := by omega
        have q0' : (0 : Int) < (p.load.size : Int) := by omega
        have hch := ch_at p q0
        by_cases q4 : p.load[0].toNat < 1
        · have HO := Lib.hid (show Pk.okl p = false by rw [Bool.eq_false_iff, ne_eq, Pk.okl_iff, hch]; omega)
          have q4' : (p.load[0].toNat : Int) < 1 := by omega
          clear q2 q3 q4 hch
          generalize p.kind = k at *
          generalize p.load = l at *
          subst q1
          go_enter Try.func13, Try.ntmps13
          go_wp2_with fail
          go_ret
          exact ⟨ret_bool HO.out.symm, below_new _ _⟩
        · have q4' : (1 : Int) ≤ (p.load[0].toNat : Int) := by omega
          by_cases q5 : p.load[0].toNat ≤ 3
          · have HO := Lib.hid (show Pk.okl p = true by rw [Pk.okl_iff, hch]; omega)
            have q5' : (p.load[0].toNat : Int) ≤ 3 := by omega
            clear q2 q3 q4 q5 hch
            generalize p.kind = k at *
            generalize p.load = l at *
            subst q1
            go_enter Try.func13, Try.ntmps13
            go_wp2_with fail
            go_ret
            exact ⟨ret_bool HO.out.symm, below_new _ _⟩
          · have HO := Lib.hid (show Pk.okl p = false by rw [Bool.eq_false_iff, ne_eq, Pk.okl_iff, hch]; omega)
            have q5' : ¬ (p.load[0].toNat : Int) ≤ 3 := by omega
            clear q2 q3 q4 q5 hch
            generalize p.kind = k at *
            generalize p.load = l at *
            subst q1
            go_enter Try.func13, Try.ntmps13
            go_wp2_with fail
            go_ret
            exact ⟨ret_bool HO.out.symm, below_new _ _⟩
  · have HO := Lib.hid (show Pk.okl p = false by rw [Bool.eq_false_iff, ne_eq, Pk.okl_iff]; omega)
    have q1' : (p.kind == 0) = false := beq_eq_false_iff_ne.2 q1
    generalize p.kind = k at *
    generalize p.load = l at *
    go_enter Try.func13, Try.ntmps13
    go_wp2_with fail
    go_ret
    exact ⟨ret_bool HO.out.symm, below_new _ _⟩

end Go.Proofs.Ytaaemdmeicjnbaa
