/-
  WALKS OF LAYER 11: seeds in memory; Few; Grow.
-/
import Derived.Test.YtipigedopmgemaaDoorStMk4
namespace Go.Proofs.YtipigedopmgemaaDoor
open Go.RowKit
set_option linter.unusedVariables false
set_option linter.unusedSimpArgs false

/-- A seed. -/
structure Sd where
  k : Nat
  refs : List UInt8
  t : Nat
  x : ByteArray
def Sd.ok (s : Sd) : Prop := s.refs.length ≤ 10 ∧ s.x.size ≤ 300
instance (s : Sd) : Decidable s.ok := by unfold Sd.ok; infer_instance
/-- Seeds, as an argument brings them. -/
structure SdsAt (w : World) (v : Value) (S : List Sd) : Prop where
  out : (v = .slice none 0 0 ∧ S = []) ∨ ∃ a cap, v = .slice (some a) S.length cap ∧ ∀ (i : Nat) (s : Sd), S[i]? = some s → ∃ rv, ByAt w rv s.refs ∧ ∀ (j : Nat) (u : Value), (sdC s.k rv s.t s.x)[j]? = some u → w.cell? ((a.add (i * 4)).add j) = some u
  k : ∀ s ∈ S, s.k < 256 ∧ s.t < 65536 ∧ s.refs.length ≤ maxLen ∧ s.x.size ≤ maxLen
theorem SdsAt.below {w w' : World} {v : Value} {S : List Sd} (h : SdsAt w v S) (hb : Below w.heap.size w w') : SdsAt w' v S := by
  refine ⟨?_, h.k⟩
  rcases h.out with h0 | ⟨a, cap, hv, hc⟩
  · exact .inl h0
  · refine .inr ⟨a, cap, hv, fun i s hi => ?_⟩
    obtain ⟨rv, h1, h2⟩ := hc i s hi
    exact ⟨rv, h1.below hb, fun j u hu => by rw [hb.cell (World.block_lt_of_cell? w _ (h2 j u hu))]; exact h2 j u hu⟩
theorem SdsAt.form {w : World} {v : Value} {S : List Sd} (h : SdsAt w v S) : ∃ ao cap, v = .slice ao S.length cap := by
  rcases h.out with ⟨rfl, rfl⟩ | ⟨a, cap, rfl, _⟩
  · exact ⟨none, 0, rfl⟩
  · exact ⟨some a, cap, rfl⟩
theorem SdsAt.elem {w : World} {ao : Option Addr} {n cap : Nat} {S : List Sd} (h : SdsAt w (.slice ao n cap) S) (i : Nat) (s : Sd) (hi : S[i]? = some s) : ∃ a rv, ao = some a ∧ ByAt w rv s.refs ∧ ∀ (j : Nat) (u : Value), (sdC s.k rv s.t s.x)[j]? = some u → w.cell? ((a.add (i * 4)).add j) = some u := by
  rcases h.out with ⟨_, rfl⟩ | ⟨a, cap', hv, hc⟩
  · simp at hi
  · simp only [Value.slice.injEq] at hv
    obtain ⟨rv, h1, h2⟩ := hc i s hi
    exact ⟨a, rv, hv.1, h1, h2⟩
/-- Whether seeds are such as are gone through. -/
def goodS (S : List Sd) : Prop := S.length ≤ 20 ∧ ∀ s ∈ S, s.ok
instance (S : List Sd) : Decidable (goodS S) := by unfold goodS; infer_instance

set_option maxHeartbeats 2000000 in
set_option maxRecDepth 100000 in
theorem few_sds (w : World) (v : Value) (S : List Sd) (h : SdsAt w v S) (hl : S.length ≤ maxLen) :
    Calls Tryd.prog 4 #[v, .int .i64 20] w fun r w' => r = .returned (.bool (decide (goodS S))) ∧ Below w.heap.size w w' := by
  unfold maxLen at hl
  obtain ⟨ao, cap, rfl⟩ := h.form
  have HH := Lib.hid h
  generalize hz : decide (goodS S) = z
  have HZ := Lib.hid hz
  clear h hz
  go_enter Tryd.func4, Tryd.ntmps4
  go_wp2_with fail
  go_loopw [5] (fun i wr => ∃ (k : Nat), k ≤ S.length ∧ k ≤ 20 ∧ i = .int .i64 k ∧ Hid (∀ (j : Nat) (s : Sd), j < k → S[j]? = some s → s.ok) ∧ Hid (w = wr)) (fun i _ => 20 - (intOf i).toNat)
  case atStart => exact ⟨0, by omega, by omega, rfl, fun j s hj => absurd hj (by omega), rfl⟩
  case round =>
    obtain ⟨k, hkS, hk20, rfl, HA, hw⟩ := hrel
    have hw' : w = wr := hw.out
    subst hw'
    by_cases hlt : k < S.length
    · have h1' : (k : Int) < (S.length : Int) := by omega
      have hk0' : (0 : Int) ≤ (k : Int) := by omega
      by_cases h20 : k < 20
      · have h2' : (k : Int) < 20 := by omega
        obtain ⟨s, hs⟩ : ∃ s, S[k]? = some s := ⟨S[k], List.getElem?_eq_getElem hlt⟩
        obtain ⟨a, rv, rfl, hR, hc⟩ := HH.out.elem k s hs
        obtain ⟨ro, rc, rfl⟩ := hR.form
        have hb := HH.out.k s (List.mem_of_getElem? hs)
        have e1 := hc 1 (.slice ro s.refs.length rc) rfl
        have e3 := hc 3 (.string s.x) rfl
        rw [add_two a (k * 4) 1 (by decide)] at e1
        rw [add_two a (k * 4) 3 (by decide)] at e3
        have hA1 := add_block a (k * 4)
        have hA2 : (a.add (k * 4)).off = a.off + k * 4 := by unfold Addr.add; split <;> simp_all
        have hb3 := hb.2.2.1
        have hb4 := hb.2.2.2
        unfold maxLen at hb3 hb4
        by_cases hok : s.ok
        · have HA2 := Lib.hid (show ∀ (j : Nat) (y : Sd), j < k + 1 → S[j]? = some y → y.ok from fun j y hj hy => by
            by_cases e : j = k
            · subst e; rw [hs] at hy; cases hy; exact hok
            · exact HA.out j y (by omega) hy)
          have q1 : ¬ (10 : Int) < (s.refs.length : Int) := by have := hok.1; omega
          have q2 : ¬ (300 : Int) < (s.x.size : Int) := by have := hok.2; omega
          clear hs hR hc hok hb
          go_wp2_with fail
          go_roundw
          case rel => exact ⟨k + 1, by omega, by omega, by go_num, HA2, trivial⟩
          case measure => simp [intOf]; omega
        · have HF := Lib.hid (show z = false by
            rw [← HZ.out]
            exact decide_eq_false (fun hg => hok (hg.2 s (List.mem_of_getElem? hs))))
          by_cases q : 10 < s.refs.length
          · have q1 : (10 : Int) < (s.refs.length : Int) := by omega
            clear hs hR hc hok hb
            go_wp2_with fail
            go_ret
            exact ⟨ret_bool HF.out.symm, Below.refl _ _⟩
          · have q1 : ¬ (10 : Int) < (s.refs.length : Int) := by omega
            have q2 : (300 : Int) < (s.x.size : Int) := by
              have : ¬ (s.refs.length ≤ 10 ∧ s.x.size ≤ 300) := hok
              omega
            clear hs hR hc hok hb
            go_wp2_with fail
            go_ret
            exact ⟨ret_bool HF.out.symm, Below.refl _ _⟩
      · have h2' : ¬ (k : Int) < 20 := by omega
        have HF := Lib.hid (show z = false by
          rw [← HZ.out]
          exact decide_eq_false (fun hg => by have := hg.1; omega))
        have h3' : ¬ (S.length : Int) ≤ 20 := by omega
        go_wp2_with fail
        go_ret
        exact ⟨ret_bool (by rw [HF.out]), Below.refl _ _⟩
    · have h1' : ¬ (k : Int) < (S.length : Int) := by omega
      have HF := Lib.hid (show z = true by
        rw [← HZ.out]
        refine decide_eq_true ⟨by omega, fun s hs => ?_⟩
        obtain ⟨i, hi⟩ := List.getElem?_of_mem hs
        have := (List.getElem?_eq_some_iff.1 hi).1
        exact HA.out i s (by omega) hi)
      have h3' : (S.length : Int) ≤ 20 := by omega
      go_wp2_with fail
      go_ret
      exact ⟨ret_bool (by rw [HF.out]), Below.refl _ _⟩

theorem yields_at {ops : Array Oper} {S : World → Prop} {op : Oper} {a : Act} {ty : TypeId} {x : Operand} {p : Addr} {cs : List Value} {d : TypeDesc} (hw : Region.wanted op (yielded ops a.tmps) = true) (ho : op.op = .load ty x) (hx : a.eval x = .pointer (some p)) (hS : ∀ w, S w → ∀ j v, cs[j]? = some v → w.cell? (p.add j) = some v)
    (hu : Tryd.prog.underlying ty = some d) (hd : d.isRow = true) (hi : (Tryd.prog.info? ty).map (·.size) = some cs.length) : YieldsIf Tryd.prog ops S op (.agg cs.toArray) a :=
  .inl ⟨hw, fun w hw' => by
    unfold execOp
    simp only [ho, hx, Instr.loadAt, Instr.sureAddr, Sem.run_bind, Sem.run_pure, Result.andThen_ok, run_loadVar_at w p ty cs d (hS w hw') hu hd hi]⟩
theorem seed_size0 : (Tryd.prog.info? 59).map (·.size) = some 4 := by kernel_rfl
theorem seed_size {k : Nat} {rv : Value} {t : Nat} {x : ByteArray} : (Tryd.prog.info? 59).map (·.size) = some (sdC k rv t x).toList.length := seed_size0
theorem underSeed : Tryd.prog.underlying 59 = some (.struct (Tryd.prog.fieldsOf 59)) := by kernel_rfl
theorem DSt.kept {w w' : World} {v : Value} {L : List St.It} (h : DSt w v L) (hk : ∀ (g : Nat) (cs : Array Value), w.heap[g]? = some (Obj.cells cs 44 (0, 0)) → w'.heap[g]? = w.heap[g]?) : DSt w' v L := by
  obtain ⟨C, h1, h2⟩ := h.rows
  refine ⟨⟨C, ⟨⟨h1.own.1, h1.own.2.imp id ?_⟩, h1.len⟩, h2.len, h2.at_⟩, h.srt, h.few⟩
  rintro ⟨g, cap, cur, hv, hg, hh, hrest⟩
  exact ⟨g, cap, cur, hv, hg, (hk g _ hh).trans hh, hrest⟩

/-- A store stands where a row of ids grows. -/
theorem DSt.grown {wr w' : World} {v iv : Value} {L : List St.It} {I : List (List UInt8)} {base : Nat} {o : Obj} (h : DSt wr v L) (hO : OwnI wr base iv I) (hg : (wr.alloc o).grownBy w' iv.ownBlock) : DSt w' v L :=
  h.kept (fun g cs hh => by
    have hlt := (Array.getElem?_eq_some_iff.1 hh).1
    rw [hg.block g (by simp; omega) (own_box hO.own hh (by decide)), heap_alloc_old _ _ hlt])
/-- A store stands where a box of a store is written. -/
theorem DSt.box {w : World} {v : Value} {L : List St.It} {b : Nat} {c : Array Value} (h : DSt w v L) (hb : w.heap[b]? = some (.cells c 27 (0, 0))) (cs : Array Value) : DSt (w.setRow b cs) v L :=
  h.kept (fun g cs' hh => setRow_other w b g cs (fun e => by subst e; rw [hb] at hh; simp at hh))
theorem OwnI.box {w : World} {base : Nat} {iv : Value} {I : List (List UInt8)} {b : Nat} {c : Array Value} (h : OwnI w base iv I) (hb : w.heap[b]? = some (.cells c 27 (0, 0))) (cs : Array Value) : OwnI (w.setRow b cs) base iv I :=
  ⟨own_kept h.own (fun g hg => setRow_other w b g cs (fun e => own_box h.own hb (by decide) (by rw [hg, e]))), h.len⟩

theorem box_grown {wr w' : World} {iv : Value} {I : List (List UInt8)} {base b : Nat} {c : Array Value} {o : Obj} (hO : OwnI wr base iv I) (hb : wr.heap[b]? = some (Obj.cells c 27 (0, 0))) (hg : (wr.alloc o).grownBy w' iv.ownBlock) : w'.heap[b]? = some (Obj.cells c 27 (0, 0)) := by
  have hlt := (Array.getElem?_eq_some_iff.1 hb).1
  rw [hg.block b (by simp; omega) (own_box hO.own hb (by decide)), heap_alloc_old _ _ hlt]
  exact hb

/-- With of any text. -/
theorem with_any (w : World) (v : Value) (L : List St.It) (s : ByteArray) (h : DSt w v L) (hs : s.size ≤ 5000) (hl : L.length ≤ 61) :
    Calls Tryd.prog 12 #[.agg #[v], .string s] w fun r w' => (r = .returned (.tuple #[.agg #[v], .agg (idC zId).toArray, .bool false]) ∧ Below w.heap.size w w') ∨ (∃ v', r = .returned (.tuple #[.agg #[v'], .agg (idC (shaI s)).toArray, .bool true]) ∧ DSt w' v' (St.put L ⟨shaI s, s⟩) ∧ Below w.heap.size w w') := by
  cases hd : Rm.dec s.data.toList with
  | none => exact (with_bad w v L s h hs hd).mono fun r w' hh => .inl hh
  | some o =>
    cases hh : St.has L (shaI s) with
    | true => exact (with_has w v L s o h hs hd hh).mono fun r w' hh => .inr hh
    | false => exact (with_new w v L s o h hs hd hh hl).mono fun r w' hh => .inr hh

set_option maxHeartbeats 4000000 in
set_option maxRecDepth 100000 in
theorem grow_any (w : World) (v : Value) (S : List Sd) (h : SdsAt w v S) (hg : goodS S) :
    Calls Tryd.prog 6 #[v] w fun r w' => ∃ sv iv L, r = .returned (.tuple #[.agg #[sv], iv]) ∧ DSt w' sv L ∧ L.length ≤ 20 ∧ Below w.heap.size w w' := by
  obtain ⟨ao, cap, rfl⟩ := h.form
  have hS20 := hg.1
  have HG := Lib.hid hg.2
  have HH := Lib.hid h
  have HN0 := Lib.hid (heap_alloc_new w (.cells #[.slice none 0 0] 27))
  have HB2 := Lib.hid (below2 w (.cells #[.slice none 0 0] 27) (.cells #[.slice none 0 0] 27))
  have HX2 := Lib.hid (((below_new (w.alloc (.cells #[.slice none 0 0] 27)) (.cells #[.slice none 0 0] 27)).block w.heap.size (by simp)).trans HN0.out)
  have HN2 := Lib.hid (new2 w (.cells #[.slice none 0 0] 27) (.cells #[.slice none 0 0] 27))
  have HZ2 := Lib.hid (show ((w.alloc (.cells #[.slice none 0 0] 27)).alloc (.cells #[.slice none 0 0] 27)).heap.size = w.heap.size + 2 by simp)
  clear h hg HN0
  go_enter Tryd.func6, Tryd.ntmps6
  go_wp2_with fail
  change Code.wp _ _ _ _ ((w.alloc (.cells #[.slice none 0 0] 27)).alloc (.cells #[.slice none 0 0] 27))
  generalize (w.alloc (.cells #[.slice none 0 0] 27)).alloc (.cells #[.slice none 0 0] 27) = W1 at *
  go_loopw [5, 6] (fun iv i wr => ∃ (k : Nat) (sv : Value) (L : List St.It) (I : List (List UInt8)), k ≤ S.length ∧ i = .int .i64 k ∧ L.length ≤ k ∧ I.length ≤ k ∧ Hid (OwnI wr (w.heap.size + 2) iv I) ∧ Hid (DSt wr sv L) ∧ Hid (wr.heap[w.heap.size]? = some (.cells #[.slice none 0 0] 27)) ∧ Hid (wr.heap[w.heap.size + 1]? = some (.cells #[sv] 27)) ∧ Hid (Below w.heap.size w wr)) (fun _ i _ => S.length - (intOf i).toNat)
  case atStart => exact ⟨0, _, [], [], by omega, rfl, by simp, by simp, OwnI.nil _ _, DSt.nil _, HX2.out, HN2.out, HB2.out⟩
  case round =>
    obtain ⟨k, sv, L, I, hk, rfl, hLk, hIk, HO, HD, H0, H1, HB⟩ := hrel
    obtain ⟨so, sc, hform⟩ := HD.out.form
    subst hform
    have hlt1 := (Array.getElem?_eq_some_iff.1 H1.out).1
    have c1 : wr.cell? ⟨w.heap.size + 1, 0, none⟩ = some (.slice so L.length sc) := by rw [cell_of_row _ _ 0 _ _ _ H1.out]; rfl
    have c1' : wr.drew.cell? ⟨w.heap.size + 1, 0, none⟩ = some (.slice so L.length sc) := c1
    by_cases hlt : k < S.length
    · have hlt' : (k : Int) < (S.length : Int) := by omega
      have hk0 : (0 : Int) ≤ (k : Int) := by omega
      obtain ⟨s, hs⟩ : ∃ s, S[k]? = some s := ⟨S[k], List.getElem?_eq_getElem hlt⟩
      have hok := HG.out s (List.mem_of_getElem? hs)
      have hsk := HH.out.k s (List.mem_of_getElem? hs)
      obtain ⟨a, rv, rfl, hR, hc⟩ := (HH.out.below HB.out).elem k s hs
      have HC := Lib.hid (show ∀ j u, (sdC s.k rv s.t s.x).toList[j]? = some u → wr.drew.cell? ((a.add (k * 4)).add j) = some u from fun j u hu => hc j u (by simpa using hu))
      have HCW := Lib.hid (show ∀ W', Below wr.heap.size wr.drew W' → ∀ j u, (sdC s.k rv s.t s.x).toList[j]? = some u → W'.cell? ((a.add (k * 4)).add j) = some u from fun W' hb j u hu => by
        have h0 := HC.out j u hu
        rw [hb.cell (World.block_lt_of_cell? _ _ h0)]; exact h0)
      have HSF := Lib.hid (show ∀ W', Below wr.heap.size wr.drew W' → W'.cell? ⟨w.heap.size + 1, 0, none⟩ = some (.slice so L.length sc) from fun W' hb => (hb.cell (p := ⟨w.heap.size + 1, 0, none⟩) hlt1).trans c1')
      have HSZ := Lib.hid (show (Tryd.prog.info? 59).map (·.size) = some (sdC s.k rv s.t s.x).toList.length from seed_size)
      have HSU := Lib.hid underSeed
      have HMK := Lib.hid (make_any wr.drew (.slice so L.length sc) _ rv L I s.k s.t s.x s.refs (HD.out.below (Below.refl _ _).drew) (RowsAt.below HO.out.rows (Below.refl _ _).drew) HO.out.len (by omega) (hR.below (Below.refl _ _).drew) hok.1 hsk.1 hsk.2.1 hok.2)
      clear hs hR hc hok hsk
      go_wp2_with fail
      refine wp_region_noPanic ?_
      refine wp_region_held_drew (S := (fun w' => Below wr.heap.size wr.drew w')) (by kernel_rfl) (Below.refl _ _) (fun hH => ?_)
      refine wpAnyH_take (i := 0) (v := ?_) rfl (by kernel_rfl) (by kernel_rfl) (by kernel_rfl) (fun _ _ _ h => h) (Or.inl ⟨by rfl, ?_⟩) (by assumption) ?_
      rotate_left
      · intro w' hSw; have q0 := HSF.out _ hSw; go_simp; try rfl
      try simp only [Act.put, List.getElem_toArray, List.getElem_cons_zero, List.getElem_cons_succ, List.setIfInBounds_toArray, List.set_cons_zero, List.set_cons_succ]
      refine wpAnyH_take (i := 1) (v := ?_) rfl (by kernel_rfl) (by kernel_rfl) (by kernel_rfl) (fun _ _ _ h => h) (Or.inl ⟨by rfl, ?_⟩) (by assumption) ?_
      rotate_left
      · intro w' hSw; go_simp; try rfl
      try simp only [Act.put, List.getElem_toArray, List.getElem_cons_zero, List.getElem_cons_succ, List.setIfInBounds_toArray, List.set_cons_zero, List.set_cons_succ]
      refine wpAnyH_take (i := 2) (v := ?_) rfl (by kernel_rfl) (by kernel_rfl) (by kernel_rfl) (fun _ _ _ h => h) (Or.inl ⟨by rfl, ?_⟩) (by assumption) ?_
      rotate_left
      · intro w' hSw; go_simp; try rfl
      try simp only [Act.put, List.getElem_toArray, List.getElem_cons_zero, List.getElem_cons_succ, List.setIfInBounds_toArray, List.set_cons_zero, List.set_cons_succ]
      refine wpAnyH_take (i := 3) (v := ?_) rfl (by kernel_rfl) (by kernel_rfl) (by kernel_rfl) (fun _ _ _ h => h) (Or.inl ⟨by rfl, ?_⟩) (by assumption) ?_
      rotate_left
      · intro w' hSw; go_simp; try rfl
      try simp only [Act.put, List.getElem_toArray, List.getElem_cons_zero, List.getElem_cons_succ, List.setIfInBounds_toArray, List.set_cons_zero, List.set_cons_succ]
      refine wpAnyH_take (i := 4) (v := ?_) rfl (by kernel_rfl) (by kernel_rfl) (by kernel_rfl) (fun _ _ _ h => h) (Or.inl ⟨by rfl, ?_⟩) (by assumption) ?_
      rotate_left
      · intro w' hSw; go_simp; try rfl
      try simp only [Act.put, List.getElem_toArray, List.getElem_cons_zero, List.getElem_cons_succ, List.setIfInBounds_toArray, List.set_cons_zero, List.set_cons_succ]
      refine wpAnyH_take (i := 5) rfl (by kernel_rfl) (by kernel_rfl) (by kernel_rfl) (fun _ _ _ h => h) (yields_at (p := a.add (k * 4)) (cs := (sdC s.k rv s.t s.x).toList) (by rfl) rfl rfl HCW.out HSU.out rfl HSZ.out) (by assumption) ?_
      try simp only [Act.put, List.getElem_toArray, List.getElem_cons_zero, List.getElem_cons_succ, List.setIfInBounds_toArray, List.set_cons_zero, List.set_cons_succ]
      refine wpAnyH_ready (rs := [6]) (by kernel_rfl) (by simp) ?_
      refine AllReadyH.cons rfl (fun K hK => ?_) AllReadyH.nil
      go_simp
      with_reducible refine HMK.out.mono ?_
      rintro r w2 ⟨cs, o, eo, bo, ca, cb, rfl, hO, hd5, ht5, hb2⟩
      have HB2' := Lib.hid ((Below.refl wr.heap.size wr).drew.trans hb2)
      have HEN := Lib.hid (refencode_any cs o eo bo ca cb w2 hO hd5 ht5)
      have hd2 : Below wr.heap.size wr.drew w2 := hb2
      clear HMK hO
      go_wp2_with fail
      refine hK.out _ _ hd2 (fun hH2 => ?_)
      clear hK K
      try simp only [Act.put, List.getElem_toArray, List.getElem_cons_zero, List.getElem_cons_succ, List.setIfInBounds_toArray, List.set_cons_zero, List.set_cons_succ]
      refine wpAnyH_ready (rs := [7]) (by kernel_rfl) (by simp) ?_
      refine AllReadyH.cons rfl (fun K hK => ?_) AllReadyH.nil
      go_simp
      with_reducible refine HEN.out.mono ?_
      rintro r w3 ⟨hr, hb3⟩
      have HB3 := Lib.hid (HB2'.out.trans (hb3.mono HB2'.out.size))
      have hd3 : Below wr.heap.size wr.drew w3 := hd2.trans (hb3.mono HB2'.out.size)
      cases hq : encOk o with
      | false =>
        rw [hq] at hr
        obtain rfl := (show r = .returned (.tuple #[.string ⟨#[]⟩, .bool false]) from hr)
        have HO3 := Lib.hid (HO.out.below HB3.out)
        have HD3 := Lib.hid (HD.out.below HB3.out)
        have H03 := Lib.hid ((HB3.out.block _ (by omega)).trans H0.out)
        have H13 := Lib.hid ((HB3.out.block _ hlt1).trans H1.out)
        have HBB := Lib.hid (HB.out.trans (HB3.out.mono HB.out.size))
        go_wp2_with fail
        refine hK.out _ _ hd3 (fun hH3 => ?_)
        clear hK K
        try simp only [Act.put, List.getElem_toArray, List.getElem_cons_zero, List.getElem_cons_succ, List.setIfInBounds_toArray, List.set_cons_zero, List.set_cons_succ]
        refine wpAnyH_take (i := 8) (v := ?_) rfl (by kernel_rfl) (by kernel_rfl) (by kernel_rfl) (fun _ _ _ h => h) (Or.inl ⟨by rfl, ?_⟩) (by assumption) ?_
        rotate_left
        · intro w' hSw; go_simp; try rfl
        try simp only [Act.put, List.getElem_toArray, List.getElem_cons_zero, List.getElem_cons_succ, List.setIfInBounds_toArray, List.set_cons_zero, List.set_cons_succ]
        refine wpAnyH_take (i := 9) (v := ?_) rfl (by kernel_rfl) (by kernel_rfl) (by kernel_rfl) (fun _ _ _ h => h) (Or.inl ⟨by rfl, ?_⟩) (by assumption) ?_
        rotate_left
        · intro w' hSw; go_simp; try rfl
        try simp only [Act.put, List.getElem_toArray, List.getElem_cons_zero, List.getElem_cons_succ, List.setIfInBounds_toArray, List.set_cons_zero, List.set_cons_succ]
        refine wpAnyH_take (i := 10) (v := ?_) rfl (by kernel_rfl) (by kernel_rfl) (by kernel_rfl) (fun _ _ _ h => h) (Or.inl ⟨by rfl, ?_⟩) (by assumption) ?_
        rotate_left
        · intro w' hSw; go_simp; try rfl
        try simp only [Act.put, List.getElem_toArray, List.getElem_cons_zero, List.getElem_cons_succ, List.setIfInBounds_toArray, List.set_cons_zero, List.set_cons_succ]
        refine wpAnyH_take (i := 11) (v := ?_) rfl (by kernel_rfl) (by kernel_rfl) (by kernel_rfl) (fun _ _ _ h => h) (Or.inl ⟨by rfl, ?_⟩) (by assumption) ?_
        rotate_left
        · intro w' hSw; go_simp; try rfl
        try simp only [Act.put, List.getElem_toArray, List.getElem_cons_zero, List.getElem_cons_succ, List.setIfInBounds_toArray, List.set_cons_zero, List.set_cons_succ]
        refine wpAnyH_take (i := 12) (v := ?_) rfl (by kernel_rfl) (by kernel_rfl) (by kernel_rfl) (fun _ _ _ h => h) (Or.inl ⟨by rfl, ?_⟩) (by assumption) ?_
        rotate_left
        · intro w' hSw; go_simp; try rfl
        try simp only [Act.put, List.getElem_toArray, List.getElem_cons_zero, List.getElem_cons_succ, List.setIfInBounds_toArray, List.set_cons_zero, List.set_cons_succ]
        refine wpAnyH_done (by kernel_rfl) ?_ _
        refine NoPanic.normal ?_
        clear hb2 hb3 HB3 HB2' HEN HO HD H0 H1 HB c1 c1' hq hr hH hH2 hH3 hd2 hd3
        go_wp2_with fail
        go_roundw
        case rel => exact ⟨k + 1, _, L, I, by omega, by go_num, by omega, by omega, HO3.out, HD3.out, H03.out, H13.out, HBB.out⟩
        case measure => simp [intOf]; omega
      | true =>
        rw [hq] at hr
        obtain rfl := (show r = .returned (.tuple #[.string (encS o), .bool true]) from hr)
        have hsz : (encS o).size ≤ 4096 := by
          unfold encOk at hq
          rw [Bool.and_eq_true, decide_eq_true_eq] at hq
          exact hq.2
        have HO3 := Lib.hid (HO.out.below HB3.out)
        have HD3 := Lib.hid (HD.out.below HB3.out)
        have H03 := Lib.hid ((HB3.out.block _ (by omega)).trans H0.out)
        have H13 := Lib.hid ((HB3.out.block _ hlt1).trans H1.out)
        have HBB := Lib.hid (HB.out.trans (HB3.out.mono HB.out.size))
        have c13 : w3.cell? ⟨w.heap.size + 1, 0, none⟩ = some (.slice so L.length sc) := by rw [cell_of_row _ _ 0 _ _ _ H13.out]; rfl
        have hlt3 : w.heap.size + 1 < w3.heap.size := by have := HB3.out.size; omega
        generalize encS o = es at *
        go_wp2_with fail
        refine hK.out _ _ hd3 (fun hH3 => ?_)
        clear hK K
        try simp only [Act.put, List.getElem_toArray, List.getElem_cons_zero, List.getElem_cons_succ, List.setIfInBounds_toArray, List.set_cons_zero, List.set_cons_succ]
        refine wpAnyH_take (i := 8) (v := ?_) rfl (by kernel_rfl) (by kernel_rfl) (by kernel_rfl) (fun _ _ _ h => h) (Or.inl ⟨by rfl, ?_⟩) (by assumption) ?_
        rotate_left
        · intro w' hSw; go_simp; try rfl
        try simp only [Act.put, List.getElem_toArray, List.getElem_cons_zero, List.getElem_cons_succ, List.setIfInBounds_toArray, List.set_cons_zero, List.set_cons_succ]
        refine wpAnyH_take (i := 9) (v := ?_) rfl (by kernel_rfl) (by kernel_rfl) (by kernel_rfl) (fun _ _ _ h => h) (Or.inl ⟨by rfl, ?_⟩) (by assumption) ?_
        rotate_left
        · intro w' hSw; go_simp; try rfl
        try simp only [Act.put, List.getElem_toArray, List.getElem_cons_zero, List.getElem_cons_succ, List.setIfInBounds_toArray, List.set_cons_zero, List.set_cons_succ]
        refine wpAnyH_take (i := 10) (v := ?_) rfl (by kernel_rfl) (by kernel_rfl) (by kernel_rfl) (fun _ _ _ h => h) (Or.inl ⟨by rfl, ?_⟩) (by assumption) ?_
        rotate_left
        · intro w' hSw; go_simp; try rfl
        try simp only [Act.put, List.getElem_toArray, List.getElem_cons_zero, List.getElem_cons_succ, List.setIfInBounds_toArray, List.set_cons_zero, List.set_cons_succ]
        refine wpAnyH_take (i := 11) (v := ?_) rfl (by kernel_rfl) (by kernel_rfl) (by kernel_rfl) (fun _ _ _ h => h) (Or.inl ⟨by rfl, ?_⟩) (by assumption) ?_
        rotate_left
        · intro w' hSw; go_simp; try rfl
        try simp only [Act.put, List.getElem_toArray, List.getElem_cons_zero, List.getElem_cons_succ, List.setIfInBounds_toArray, List.set_cons_zero, List.set_cons_succ]
        refine wpAnyH_take (i := 12) (v := ?_) rfl (by kernel_rfl) (by kernel_rfl) (by kernel_rfl) (fun _ _ _ h => h) (Or.inl ⟨by rfl, ?_⟩) (by assumption) ?_
        rotate_left
        · intro w' hSw; go_simp; try rfl
        try simp only [Act.put, List.getElem_toArray, List.getElem_cons_zero, List.getElem_cons_succ, List.setIfInBounds_toArray, List.set_cons_zero, List.set_cons_succ]
        refine wpAnyH_done (by kernel_rfl) ?_ _
        refine NoPanic.normal ?_
        clear hb2 hb3 HB3 HB2' HEN HO HD H0 H1 HB c1 c1' hq hr hH hH2 hH3 hd2 hd3
        have HWI := Lib.hid (with_any w3 (.slice so L.length sc) L es HD3.out (by omega) (by omega))
        go_wp2_with fail
        refine HWI.out.mono ?_
        rintro r w4 (⟨rfl, hb4⟩ | ⟨v4, rfl, hd4, hb4⟩)
        · have HO4 := Lib.hid (HO3.out.below hb4)
          have HD4 := Lib.hid (HD3.out.below hb4)
          have H04 := Lib.hid ((hb4.block _ (by omega)).trans H03.out)
          have H14 := Lib.hid ((hb4.block _ hlt3).trans H13.out)
          have HB4 := Lib.hid (HBB.out.trans (hb4.mono HBB.out.size))
          have hz4 : (w4.alloc (.cells #[.slice so L.length sc] 27)).heap.size = w4.heap.size + 1 := by simp
          have HZ4 := Lib.hid hz4.symm
          clear hb4 HWI HO3 HD3 H03 H13 HBB hz4
          go_wp2_with ((with_reducible refine st_id2 (l := zId) (x := .tmp 10) (y := .tmp 36) (g := w4.heap.size + 1) ?_ ?_ ?_ ?_ ?_ HZ4.out ?_ ?_); rfl; rfl; rfl; rfl; rfl; rfl)
          go_roundw
          case rel => exact ⟨k + 1, _, L, I, by omega, by go_num, by omega, by omega, HO4.out.below (below2 w4 _ _), HD4.out.below (below2 w4 _ _), ((below2 w4 _ _).block _ (by have := (Array.getElem?_eq_some_iff.1 H04.out).1; omega)).trans H04.out, ((below2 w4 _ _).block _ (by have := (Array.getElem?_eq_some_iff.1 H14.out).1; omega)).trans H14.out, HB4.out.trans ((below2 w4 _ _).mono HB4.out.size)⟩
          case measure => simp [intOf]; omega
        · obtain ⟨vo, vc, rfl⟩ := hd4.form
          have hlen := St.put_length L ⟨shaI es, es⟩
          have HSL := Lib.hid (shaI_len es)
          generalize St.put L ⟨shaI es, es⟩ = L' at *
          generalize shaI es = sid at *
          have HO4 := Lib.hid (HO3.out.below hb4)
          have HD4 := Lib.hid hd4
          have H04 := Lib.hid ((hb4.block _ (by omega)).trans H03.out)
          have H14 := Lib.hid ((hb4.block _ hlt3).trans H13.out)
          have HB4 := Lib.hid (HBB.out.trans (hb4.mono HBB.out.size))
          have hlt4 := (Array.getElem?_eq_some_iff.1 H14.out).1
          have hz4 : (w4.alloc (.cells #[.slice vo L'.length vc] 27)).heap.size = w4.heap.size + 1 := by simp
          have HZ4 := Lib.hid hz4.symm
          have HB2 := Lib.hid (below2 w4 (.cells #[.slice vo L'.length vc] 27) (.cells (idC sid).toArray 35))
          have HX2 := Lib.hid (((below_new (w4.alloc (.cells #[.slice vo L'.length vc] 27)) (.cells (idC sid).toArray 35)).block w4.heap.size (by simp)).trans (heap_alloc_new w4 (.cells #[.slice vo L'.length vc] 27)))
          have HN2 := Lib.hid (new2 w4 (.cells #[.slice vo L'.length vc] 27) (.cells (idC sid).toArray 35))
          have HZ2' := Lib.hid (show ((w4.alloc (.cells #[.slice vo L'.length vc] 27)).alloc (.cells (idC sid).toArray 35)).heap.size = w4.heap.size + 2 by simp)
          clear hb4 hd4 HWI HO3 HD3 H03 H13 HBB hz4 hlt3 c13
          go_upto_region 10 with ((with_reducible refine st_id2 (l := sid) (x := .tmp 10) (y := .tmp 36) (g := w4.heap.size + 1) ?_ ?_ ?_ ?_ ?_ HZ4.out HSL.out ?_); rfl; rfl; rfl; rfl; rfl)
          generalize (w4.alloc (.cells #[.slice vo L'.length vc] 27)).alloc (.cells (idC sid).toArray 35) = W2 at *
          have HS4 := Lib.hid ((HB2.out.block _ hlt4).trans H14.out)
          have c9 : W2.cell? ⟨w4.heap.size, 0, none⟩ = some (.slice vo L'.length vc) := by rw [cell_of_row _ _ 0 _ _ _ HX2.out]; rfl
          have HD5 := Lib.hid ((HD4.out.below HB2.out).box HS4.out #[.slice vo L'.length vc])
          have HO5 := Lib.hid ((HO4.out.below HB2.out).box HS4.out #[.slice vo L'.length vc])
          have H05 := Lib.hid ((setRow_other W2 (w.heap.size + 1) w.heap.size #[.slice vo L'.length vc] (by omega)).trans ((HB2.out.block _ (by omega)).trans H04.out))
          have H15 := Lib.hid (setRow_heap W2 (w.heap.size + 1) _ #[.slice vo L'.length vc] _ _ HS4.out)
          have HI5 := Lib.hid (row_news ((setRow_other W2 (w.heap.size + 1) (w4.heap.size + 1) #[.slice vo L'.length vc] (by omega)).trans HN2.out))
          have HB5 := Lib.hid (below_setRow (HB4.out.trans (HB2.out.mono HB4.out.size)) (show w.heap.size ≤ w.heap.size + 1 by omega) #[.slice vo L'.length vc])
          have HZ5 := Lib.hid ((setRow_size W2 (w.heap.size + 1) #[.slice vo L'.length vc]).trans HZ2'.out)
          clear HB2 HX2 HN2 HZ4 HO4 HD4 H04 H14 HB4
          go_upto_region 11 with ((with_reducible refine st_st (x := .tmp 4) (y := .tmp 39) (g := w.heap.size + 1) (v := .slice vo L'.length vc) (c := #[.slice so L.length sc]) ?_ ?_ ?_ ?_ HS4.out rfl rfl ?_); rfl; rfl; rfl; rfl)
          clear HS4 HZ2' c9
          generalize W2.setRow (w.heap.size + 1) #[.slice vo L'.length vc] = W3 at *
          go_wp2_with (first
            | ((with_reducible refine ld_id (l := sid) (x := .tmp 10) (p := ⟨w4.heap.size + 1, 0, none⟩) ?_ ?_ ?_ HI5.out HSL.out ?_); rfl; rfl; rfl)
            | ((with_reducible refine bs_id2 (l := sid) (x := .tmp 41) ?_ ?_ ?_ HSL.out ?_); rfl; rfl; rfl)
            | ((with_reducible refine ap_id (.tmp 40) (.tmp 42) ?_ ?_ ?_ ?_ HO5.out (by have := HZ5.out; omega) HSL.out (by omega) (fun v' w' h1 h2 => ?_)); rfl; rfl; rfl; rfl))
          go_roundw
          case rel => exact ⟨k + 1, _, L', I ++ [sid], by omega, by go_num, by omega, by simp; omega, h1.out, HD5.out.grown HO5.out h2.out, box_grown HO5.out H05.out h2.out, box_grown HO5.out H15.out h2.out, (HB5.out.alloc HB5.out.size _).grown h2.out (by have := HZ5.out; simp; omega) (fun k hk => by have := (HO5.out.own.lt k hk).1; omega)⟩
          case measure => simp [intOf]; omega
    · have hlt' : ¬ (k : Int) < (S.length : Int) := by omega
      have HD6 := Lib.hid (HD.out.box H0.out #[.slice so L.length sc])
      have HB6 := Lib.hid (below_setRow HB.out (Nat.le_refl _) #[.slice so L.length sc])
      go_wp2_with ((with_reducible refine st_st (x := .tmp 2) (y := .tmp 44) (g := w.heap.size) (v := .slice so L.length sc) (c := #[.slice none 0 0]) ?_ ?_ ?_ ?_ H0.out rfl rfl ?_); rfl; rfl; rfl; rfl)
      refine bodyPost_ret (results_cell_tmp (fn := Tryd.f6) (p := 2) (q := 3) (by rfl) _ _ w.heap.size _ _ _ _ (by rfl) (setRow_heap _ _ _ _ _ _ H0.out) underSt rfl sizeSt) rfl ?_
      exact ⟨.slice so L.length sc, ⟨_, rfl⟩, L, HD6.out, by omega, HB6.out⟩

end Go.Proofs.YtipigedopmgemaaDoor
