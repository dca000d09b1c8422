/-
  WALKS OF LAYER 9: the document's Wrong.
-/
import Derived.Test.YtkdljagcdaphdaaDSet
namespace Go.Proofs.Ytkdljagcdaphdaa
open Go.RowKit
set_option linter.unusedVariables false
set_option linter.unusedSimpArgs false

theorem still_ldg {ops : Array Oper} {w : World} {Q : Act → Prop} {a : Act} {o : Oper} {rest : List Oper} {cs : List Value} {ty : TypeId} {x : Operand} {p : Addr} {d : TypeDesc} (ho : o.op = .load ty x) (hx : a.eval x = .pointer (some p)) (hw : Region.wanted o (yielded ops a.tmps) = true)
    (hc : ∀ j v, cs[j]? = some v → w.cell? (p.add j) = some v) (hu : Try.prog.underlying ty = some d) (hd : d.isRow = true) (hi : (Try.prog.info? ty).map (·.size) = some cs.length)
    (h : wpStill Try.prog ops w Q rest (a.put o.dst (.agg cs.toArray))) : wpStill Try.prog ops w Q (o :: rest) a := by
  refine wpStill_step fun K hK => ?_
  rw [if_pos hw]
  unfold Oper.still execOp
  simp only [ho, hx, Instr.loadAt, Instr.sureAddr, Sem.run_bind, Sem.run_pure, Result.andThen_ok, run_loadVar_at w p ty cs d hc hu hd hi]
  exact ⟨rfl, hK _ h⟩
theorem still_skip {ops : Array Oper} {w : World} {Q : Act → Prop} {a : Act} {o : Oper} {rest : List Oper} (hw : Region.wanted o (yielded ops a.tmps) = false) (h : wpStill Try.prog ops w Q rest (a.put o.dst undef)) : wpStill Try.prog ops w Q (o :: rest) a := by
  refine wpStill_step fun K hK => ?_
  rw [if_neg (by rw [hw]; decide)]
  exact hK _ h
/-- An update's ids, where they lie. -/
theorem up_mid {w : World} {a : Addr} {n : Nat} {u : Rf.U} (h : ∀ j x, (upC u)[j]? = some x → w.cell? ((a.add n).add j) = some x) (h1 : u.old.length = 32) :
    (∀ j x, (idC u.old)[j]? = some x → w.cell? ((⟨a.block, a.off + n + 1, none⟩ : Addr).add j) = some x) ∧ (∀ j x, (idC u.new)[j]? = some x → w.cell? ((⟨a.block, a.off + n + 33, none⟩ : Addr).add j) = some x) := by
  obtain ⟨g1, g2⟩ := up_id h h1
  rw [add_add_mid a n 1 (by decide)] at g1
  rw [add_add_mid a n 33 (by decide)] at g2
  exact ⟨g1, g2⟩
theorem up_nm {w : World} {a : Addr} {n : Nat} {u : Rf.U} (h : ∀ j x, (upC u)[j]? = some x → w.cell? ((a.add n).add j) = some x) : w.cell? (a.add n) = some (.string u.name) := by
  have := h 0 _ rfl
  simpa [Addr.add] using this
def namesOf (us : List Rf.U) (k : Nat) : List ByteArray := (us.take k).map Rf.U.name
theorem has_step {us : List Rf.U} {k : Nat} {x : Rf.U} (h : us[k]? = some x) (n : ByteArray) : Rf.hasN (namesOf us (k + 1)) n = (Rf.hasN (namesOf us k) n || decide (x.name = n)) := by
  obtain ⟨hk, rfl⟩ := List.getElem?_eq_some_iff.1 h
  unfold Rf.hasN namesOf
  rw [List.take_succ_eq_append_getElem hk, List.map_append, List.any_append]
  simp only [List.map_cons, List.map_nil, List.any_cons, List.any_nil, Bool.or_false]
theorem has_up {us : List Rf.U} {k i : Nat} {x : Rf.U} (h : us[k]? = some x) (hk : k < i) : Rf.hasN (namesOf us i) x.name = true := by
  unfold Rf.hasN namesOf
  refine List.any_eq_true.2 ⟨x.name, List.mem_map.2 ⟨x, ?_, rfl⟩, by simp⟩
  have : (us.take i)[k]? = some x := by rw [List.getElem?_take, if_pos hk]; exact h
  exact List.mem_of_getElem? this
theorem wrong_rest {A B : Prop} [Decidable A] [Decidable B] {x y : Nat} (h : ¬ A) : (if A ∨ B then x else y) = if B then x else y := by
  by_cases hb : B
  · rw [if_pos (.inr hb), if_pos hb]
  · rw [if_neg (fun k => k.elim h hb), if_neg hb]
theorem wrong_len {L : List Rf.R} {u : Rf.U} (hs : Rf.Srt L) (hl : L.length ≤ 64) (hz : ¬ (u.old = Rf.zid ∧ u.new = Rf.zid)) (hf : (Rf.find L u.name).getD Rf.zid = u.old) :
    64 < (Rf.setD (decide (u.new = Rf.zid)) L u.name u.new).length ↔ (Rf.find L u.name = none ∧ L.length = 64) := by
  rw [Rf.setD_put L u.name u.new hs]
  have h := Rf.put_len L u.name u.new hs
  cases hq : Rf.find L u.name with
  | none =>
    rw [hq] at h hf
    have hn : u.new ≠ Rf.zid := fun e => hz ⟨hf.symm, e⟩
    rw [if_pos rfl, if_neg hn] at h
    simp; omega
  | some x =>
    rw [hq] at h
    simp at h ⊢
    split at h <;> omega

set_option maxHeartbeats 1000000 in
set_option maxRecDepth 100000 in
theorem refwrong_a (v uv : Value) (L : List Rf.R) (us : List Rf.U) (i : Nat) (u : Rf.U) (w : World) (hi : us[i]? = some u) (hL : RefsAt w v L) (hs : Rf.Srt L) (hl : L.length ≤ 64) (hU : UpsAt w uv us) (hul : us.length ≤ 64) (hui : ∀ u ∈ us, u.old.length = 32 ∧ u.new.length = 32 ∧ u.name.size ≤ 1000) (hnm : Rf.nameOk u.name = false) (o0 n0 : Bool) (ho0 : decide (u.old = Rf.zid) = o0) (hn0 : decide (u.new = Rf.zid) = n0) :
    Calls Try.prog 38 #[v, uv, .int .i64 i] w fun r w' => r = .returned (.int .i64 (Rf.wrong L (namesOf us i) u : Nat)) ∧ Below w.heap.size w w' := by
  obtain ⟨ao, cap, rfl⟩ := hL.form
  obtain ⟨uo, ucap, rfl⟩ := hU.form
  obtain ⟨hu1, hu2, hu3⟩ := hui u (List.mem_of_getElem? hi)
  have hil : i < us.length := (List.getElem?_eq_some_iff.1 hi).1
  have hil' : (i : Int) < (us.length : Int) := by omega
  have hi0 : (0 : Int) ≤ (i : Int) := by omega
  obtain ⟨a, rfl, _, hc⟩ := hU.elem i u hi
  have HB1 := Lib.hid (below_new w (.cells (idC Rf.zid).toArray 35))
  have HG1 := Lib.hid (row_cells (heap_alloc_new w (.cells (idC Rf.zid).toArray 35)))
  have HUE := Lib.hid (show ∀ W, Below w.heap.size w W → ∀ k x, us[k]? = some x → ∀ j y, (upC x)[j]? = some y → W.cell? ((a.add (k * 65)).add j) = some y from fun W hb k x hx => by
    obtain ⟨a', e', _, h'⟩ := (hU.below hb).elem k x hx
    cases e'
    exact h')
  have c0 := up_nm (HUE.out _ HB1.out i u hi)
  have HI := Lib.hid hi
  have HL := Lib.hid hL
  have HS := Lib.hid hs
  have HID := Lib.hid hL.len
  have H1 := Lib.hid hu1
  have H2 := Lib.hid hu2
  have HZL := Lib.hid (show Rf.zid.length = 32 from rfl)
  have HNM := Lib.hid (fun W => refname_any u.name W (by unfold maxLen; omega))
  have HUI := Lib.hid (show Try.prog.underlying 35 = _ from Try.underlying35)
  have HIO := Lib.hid (idsize hu1)
  have HIN := Lib.hid (idsize hu2)
  have HIZ := Lib.hid (idsize (l := Rf.zid) rfl)
  have hA1 := add_block a (i * 65)
  have hA2 := add_off a (i * 65)
  have HWR := Lib.hid (show Rf.wrong L (namesOf us i) u = if (Rf.nameOk u.name = false ∨ (u.old = Rf.zid ∧ u.new = Rf.zid)) ∨ Rf.hasN (namesOf us i) u.name = true then 8 else if (Rf.find L u.name).getD Rf.zid ≠ u.old then 10 else if Rf.find L u.name = none ∧ L.length = 64 then 3 else 0 from rfl)
  generalize Rf.wrong L (namesOf us i) u = Z at HWR
  have hq1 := fun W => eq_id u.old Rf.zid hu1 rfl W
  have hq2 := fun W => eq_id u.new Rf.zid hu2 rfl W
  have HD1 := Lib.hid (show decide (u.old = Rf.zid) = o0 from ho0)
  have HD2 := Lib.hid (show decide (u.new = Rf.zid) = n0 from hn0)
  rw [ho0] at hq1
  rw [hn0] at hq2
  clear hc hL hU hui hi hs hu1 hu2 ho0 hn0
  rw [hnm] at HNM HWR
  have HZ := Lib.hid (show Z = 8 by rw [HWR.out, if_pos (.inl (.inl rfl))])
  clear hnm HWR
  go_enter Try.func38, Try.ntmps38
  go_wp2_with (first
    | ((with_reducible refine bd_zid ?_ ?_ ?_); rfl; rfl)
    | ((with_reducible apply st_id (l := Rf.zid) (hl := HZL.out)); rfl; rfl; rfl; rfl; rfl))
  refine (HNM.out _).mono ?_
  rintro r wx ⟨rfl, rfl⟩
  go_wp2_with fail
  go_quiet (fail)
  go_wp2_with fail
  go_ret
  exact ⟨by rw [HZ.out]; rfl, bel_drewN HB1.out _⟩

set_option maxHeartbeats 1000000 in
set_option maxRecDepth 100000 in
theorem refwrong_b (v uv : Value) (L : List Rf.R) (us : List Rf.U) (i : Nat) (u : Rf.U) (w : World) (hi : us[i]? = some u) (hL : RefsAt w v L) (hs : Rf.Srt L) (hl : L.length ≤ 64) (hU : UpsAt w uv us) (hul : us.length ≤ 64) (hui : ∀ u ∈ us, u.old.length = 32 ∧ u.new.length = 32 ∧ u.name.size ≤ 1000) (hnm : Rf.nameOk u.name = true) (ho0 : decide (u.old = Rf.zid) = true) (hn0 : decide (u.new = Rf.zid) = true) :
    Calls Try.prog 38 #[v, uv, .int .i64 i] w fun r w' => r = .returned (.int .i64 (Rf.wrong L (namesOf us i) u : Nat)) ∧ Below w.heap.size w w' := by
  obtain ⟨ao, cap, rfl⟩ := hL.form
  obtain ⟨uo, ucap, rfl⟩ := hU.form
  obtain ⟨hu1, hu2, hu3⟩ := hui u (List.mem_of_getElem? hi)
  have hil : i < us.length := (List.getElem?_eq_some_iff.1 hi).1
  have hil' : (i : Int) < (us.length : Int) := by omega
  have hi0 : (0 : Int) ≤ (i : Int) := by omega
  obtain ⟨a, rfl, _, hc⟩ := hU.elem i u hi
  have HB1 := Lib.hid (below_new w (.cells (idC Rf.zid).toArray 35))
  have HG1 := Lib.hid (row_cells (heap_alloc_new w (.cells (idC Rf.zid).toArray 35)))
  have HUE := Lib.hid (show ∀ W, Below w.heap.size w W → ∀ k x, us[k]? = some x → ∀ j y, (upC x)[j]? = some y → W.cell? ((a.add (k * 65)).add j) = some y from fun W hb k x hx => by
    obtain ⟨a', e', _, h'⟩ := (hU.below hb).elem k x hx
    cases e'
    exact h')
  have c0 := up_nm (HUE.out _ HB1.out i u hi)
  have HI := Lib.hid hi
  have HL := Lib.hid hL
  have HS := Lib.hid hs
  have HID := Lib.hid hL.len
  have H1 := Lib.hid hu1
  have H2 := Lib.hid hu2
  have HZL := Lib.hid (show Rf.zid.length = 32 from rfl)
  have HNM := Lib.hid (fun W => refname_any u.name W (by unfold maxLen; omega))
  have HUI := Lib.hid (show Try.prog.underlying 35 = _ from Try.underlying35)
  have HIO := Lib.hid (idsize hu1)
  have HIN := Lib.hid (idsize hu2)
  have HIZ := Lib.hid (idsize (l := Rf.zid) rfl)
  have hA1 := add_block a (i * 65)
  have hA2 := add_off a (i * 65)
  have HWR := Lib.hid (show Rf.wrong L (namesOf us i) u = if (Rf.nameOk u.name = false ∨ (u.old = Rf.zid ∧ u.new = Rf.zid)) ∨ Rf.hasN (namesOf us i) u.name = true then 8 else if (Rf.find L u.name).getD Rf.zid ≠ u.old then 10 else if Rf.find L u.name = none ∧ L.length = 64 then 3 else 0 from rfl)
  generalize Rf.wrong L (namesOf us i) u = Z at HWR
  have hq1 := fun W => eq_id u.old Rf.zid hu1 rfl W
  have hq2 := fun W => eq_id u.new Rf.zid hu2 rfl W
  have HD1 := Lib.hid (show decide (u.old = Rf.zid) = true from ho0)
  have HD2 := Lib.hid (show decide (u.new = Rf.zid) = true from hn0)
  rw [ho0] at hq1
  rw [hn0] at hq2
  clear hc hL hU hui hi hs hu1 hu2 ho0 hn0
  rw [hnm] at HNM HWR
  have HZ := Lib.hid (show Z = 8 by
    have e1 := HD1.out; have e2 := HD2.out
    rw [decide_eq_true_iff] at e1 e2
    rw [HWR.out, if_pos (.inl (.inr ⟨e1, e2⟩))])
  clear hnm HWR
  go_enter Try.func38, Try.ntmps38
  go_wp2_with (first
    | ((with_reducible refine bd_zid ?_ ?_ ?_); rfl; rfl)
    | ((with_reducible apply st_id (l := Rf.zid) (hl := HZL.out)); rfl; rfl; rfl; rfl; rfl))
  refine (HNM.out _).mono ?_
  rintro r wx ⟨rfl, rfl⟩
  have HO := Lib.hid (up_mid (HUE.out _ HB1.out.drew i u HI.out) H1.out)
  have HO1 := Lib.hid HO.out.1
  have HO2 := Lib.hid HO.out.2
  have HZC := Lib.hid (show ∀ j x, (idC Rf.zid)[j]? = some x → (w.alloc (.cells (idC Rf.zid).toArray 35)).drew.cell? ((⟨w.heap.size, 0, none⟩ : Addr).add j) = some x from HG1.out)
  go_wp2_with fail
  refine region_still (by kernel_rfl) (by kernel_rfl) ?_
  repeat still_step
  (with_reducible apply still_ldg (hc := HO1.out) (hu := HUI.out) (hi := HIO.out))
  rfl
  rfl
  kernel_rfl
  rfl
  (with_reducible apply still_ldg (hc := HZC.out) (hu := HUI.out) (hi := HIZ.out))
  rfl
  rfl
  kernel_rfl
  rfl
  repeat still_step
  (with_reducible apply still_ldg (hc := HO2.out) (hu := HUI.out) (hi := HIN.out))
  rfl
  rfl
  kernel_rfl
  rfl
  (with_reducible apply still_ldg (hc := HZC.out) (hu := HUI.out) (hi := HIZ.out))
  rfl
  rfl
  kernel_rfl
  rfl
  repeat still_step
  refine wpStill_nil ?_
  go_wp2_with fail
  go_ret
  exact ⟨by rw [HZ.out]; rfl, HB1.out.drew⟩

end Go.Proofs.Ytkdljagcdaphdaa
