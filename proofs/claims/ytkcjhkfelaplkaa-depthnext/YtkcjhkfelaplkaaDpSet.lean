/-
  WALKS OF LAYER 13: sets of ids: has, add, setOf.
-/
import Derived.Test.YtkcjhkfelaplkaaBase
import Derived.Carry
namespace Go.Proofs.Ytkcjhkfelaplkaa
open Go.RowKit Go.WideMaps Go.Maps
set_option linter.unusedVariables false
set_option linter.unusedSimpArgs false

section
variable (w : World) {ops : Array Oper} {rest : List Oper} {o : Oper} {a : Act} {Q : Exit → Act → World → Prop}
theorem dpids_look (hg : o.guard = none) (m x : Operand) (hop : o.op = Op.lookup 36 m x true) (b n : Nat) (S : List (List UInt8))
    (hm : a.eval m = .map (some b)) (hM : Ids w b n S) (s : List UInt8) (hx : a.eval x = .agg (idC s).toArray) (hs : s.length = 32) (z : Bool) (hq : decide (s ∈ S) = z)
    (hK : wpList Try.prog ops Q rest (a.put o.dst (.tuple #[.agg #[], .bool z])) w) : wpList Try.prog ops Q (o :: rest) a w := by
  obtain ⟨D, h1, h2, h3⟩ := hM.out
  refine wpList_lookup_own_unit w hg m x 36 hop 28 56 idKeyed Try.underlying36 (zeroUnit w) b n D hm h1 (.agg (idC s).toArray) (idKey s) hx (keyOf_id hs) ?_
  rw [h3 s hs, hq]
  exact hK
theorem dpids_keep (hg : o.guard = none) (m x v : Operand) (hop : o.op = Op.mapUpdate 36 m x v) (b n : Nat) (S : List (List UInt8))
    (hm : a.eval m = .map (some b)) (hM : Ids w b n S) (hn : n < maxLen) (s : List UInt8) (hx : a.eval x = .agg (idC s).toArray) (hs : s.length = 32) (hv : a.eval v = .agg #[])
    (hK : ∀ w', Ids w' b (n + 1) (S ++ [s]) → w.grownBy w' (some b) → wpList Try.prog ops Q rest (a.put o.dst undef) w') : wpList Try.prog ops Q (o :: rest) a w := by
  obtain ⟨D, h1, h2, h3⟩ := hM.out
  refine wpList_mapUpdate_own w hg m x v 36 hop 28 56 idKeyed Try.underlying36 _ b n D hm h1 hn (.agg (idC s).toArray) (.agg #[]) (idKey s) hx hv (keyOf_id hs) _ [] unitElem_mk ?_
  intro w' hown hgrow
  refine hK w' ⟨_, hown, h2.put _ _, fun id hid => ?_⟩ hgrow
  have hh : decide (id ∈ S ++ [s]) = (decide (id ∈ S) || decide (s = id)) := by
    simp only [List.mem_append, List.mem_singleton, Bool.decide_or]
    congr 1
    exact decide_eq_decide.2 ⟨Eq.symm, Eq.symm⟩
  rw [hh]
  by_cases hk : s = id
  · subst hk
    rw [Maps.has_put_same h2 (show WideAt.IsKeyLit (idKey s) from trivial) _]; simp
  · have hne : idKey id ≠ idKey s := fun e => hk (idKey_inj hs hid e.symm)
    rw [Maps.has_put_other hne, h3 id hid]; simp [hk]
end

set_option maxHeartbeats 1000000 in
set_option maxRecDepth 100000 in
theorem dphas_any (w : World) (b n : Nat) (S : List (List UInt8)) (id : List UInt8) (h : Ids w b n S) (hid : id.length = 32) :
    Calls Try.prog 12 #[.map (some b), .agg (idC id).toArray] w fun r w' => r = .returned (.bool (decide (id ∈ S))) ∧ Below w.heap.size w w' := by
  have HM := Lib.hid (h.alloc (.cells (idC id).toArray 28))
  have HB := Lib.hid (below_new w (.cells (idC id).toArray 28))
  have HR := Lib.hid (row_news (heap_alloc_new w (.cells (idC id).toArray 28)))
  have HIL := Lib.hid hid
  generalize hz : decide (id ∈ S) = z
  have HZ := Lib.hid hz
  clear h hid hz
  go_enter Try.func12, Try.ntmps12
  go_wp2_with (first
    | ((with_reducible refine ld_id (x := .tmp 3) (p := ⟨w.heap.size, 0, none⟩) ?_ ?_ ?_ HR.out HIL.out ?_); rfl; rfl; rfl)
    | ((with_reducible refine dpids_look _ ?_ (.tmp 8) (.tmp 9) ?_ b n S ?_ HM.out id ?_ HIL.out z HZ.out ?_); rfl; rfl; rfl; rfl))
  go_ret
  exact ⟨rfl, HB.out.alloc HB.out.size _⟩
set_option maxHeartbeats 1000000 in
set_option maxRecDepth 100000 in
theorem dpadd_any (w : World) (b n : Nat) (S : List (List UInt8)) (id : List UInt8) (h : Ids w b n S) (hn : n < 1000000) (hid : id.length = 32) :
    Calls Try.prog 25 #[.map (some b), .agg (idC id).toArray] w fun r w' => r = .returned (.bool (!decide (id ∈ S))) ∧ Ids w' b (n + 1) (if id ∈ S then S else S ++ [id]) ∧ w.grownBy w' (some b) := by
  have HM := Lib.hid (h.alloc (.cells (idC id).toArray 28))
  have HB := Lib.hid (below_new w (.cells (idC id).toArray 28))
  have HR := Lib.hid (row_news (heap_alloc_new w (.cells (idC id).toArray 28)))
  have HIL := Lib.hid hid
  have hb := h.lt
  clear h hid
  by_cases hin : id ∈ S
  · rw [if_pos hin, decide_eq_true hin]
    have HC := Lib.hid (dphas_any _ b n S id HM.out HIL.out)
    rw [decide_eq_true hin] at HC
    go_enter Try.func25, Try.ntmps25
    go_wp2_with ((with_reducible refine ld_id (x := .tmp 3) (p := ⟨w.heap.size, 0, none⟩) ?_ ?_ ?_ HR.out HIL.out ?_); rfl; rfl; rfl)
    refine HC.out.mono ?_
    rintro r w2 ⟨rfl, hb2⟩
    have HM2 := Lib.hid (HM.out.below hb2)
    go_wp2_with fail
    go_ret
    obtain ⟨D, h1, h2⟩ := HM2.out.out
    have hbb := HB.out.trans (hb2.mono HB.out.size)
    exact ⟨rfl, ⟨D, h1.mono (by omega), h2⟩, ⟨hbb.os, hbb.tape, hbb.output, hbb.size, fun k hk _ => hbb.block k hk⟩⟩
  · rw [if_neg hin, decide_eq_false hin]
    have HC := Lib.hid (dphas_any _ b n S id HM.out HIL.out)
    rw [decide_eq_false hin] at HC
    go_enter Try.func25, Try.ntmps25
    go_wp2_with ((with_reducible refine ld_id (x := .tmp 3) (p := ⟨w.heap.size, 0, none⟩) ?_ ?_ ?_ HR.out HIL.out ?_); rfl; rfl; rfl)
    refine HC.out.mono ?_
    rintro r w2 ⟨rfl, hb2⟩
    have HM2 := Lib.hid (HM.out.below hb2)
    have HR2 := Lib.hid (show ∀ j u, (idC id)[j]? = some u → w2.cell? ((⟨w.heap.size, 0, none⟩ : Addr).add j) = some u from fun j u hu => by
      have h1 := HR.out j u hu
      rw [hb2.cell (World.block_lt_of_cell? _ _ h1)]; exact h1)
    have HBB := Lib.hid (HB.out.trans (hb2.mono HB.out.size))
    clear hb2 HC HR HM HB
    go_wp2_with (first
      | ((with_reducible refine ld_id (x := .tmp 3) (p := ⟨w.heap.size, 0, none⟩) ?_ ?_ ?_ HR2.out HIL.out ?_); rfl; rfl; rfl)
      | ((with_reducible refine dpids_keep _ ?_ (.tmp 8) (.tmp 9) (.tmp 10) ?_ b n S ?_ HM2.out (by unfold maxLen; omega) id ?_ HIL.out ?_ (fun w3 h3 h4 => ?_)); rfl; rfl; rfl; rfl; rfl))
    go_ret
    exact ⟨rfl, h3, grown_below HBB.out h4⟩

set_option maxHeartbeats 1000000 in
set_option maxRecDepth 100000 in
theorem dpset_any (w : World) (v : Value) (I : List (List UInt8)) (h : IdsAt w v I) (hl : ∀ i ∈ I, i.length = 32) (hn : I.length ≤ 10000) :
    Calls Try.prog 10 #[v] w fun r w' => ∃ b n S, r = .returned (.map (some b)) ∧ Ids w' b n S ∧ (∀ x, x ∈ S ↔ x ∈ I) ∧ w.heap.size ≤ b ∧ n ≤ 10000 ∧ Below w.heap.size w w' := by
  obtain ⟨ao, cap, rfl⟩ := h.form
  rw [List.length_map] at h ⊢
  have HH := Lib.hid h
  have HL := Lib.hid hl
  have HM0 := Lib.hid (Ids.made w)
  have HB0 := Lib.hid (below_new w (.map #[] 0))
  clear h hl
  have hmm := @run_makeMap Try.prog
  go_enter Try.func10, Try.ntmps10
  go_wp2_with fail
  change Code.wp _ _ _ _ (w.alloc (.map #[] 0))
  clear hmm
  generalize w.alloc (.map #[] 0) = w1 at *
  go_loopw [9] (fun i wr => ∃ (k n : Nat) (S : List (List UInt8)), k ≤ I.length ∧ i = .int .i64 k ∧ n ≤ k ∧ Hid (Ids wr w.heap.size n S) ∧ Hid (∀ x, x ∈ S ↔ x ∈ I.take k) ∧ Hid (Below w.heap.size w wr)) (fun i _ => I.length - (intOf i).toNat)
  case atStart => exact ⟨0, 0, [], by omega, rfl, by omega, HM0.out, fun x => by simp, HB0.out⟩
  case round =>
    obtain ⟨k, n, S, hk, rfl, hnk, HM, HS, HB⟩ := hrel
    by_cases hlt : k < I.length
    · have hlt' : (k : Int) < (I.length : Int) := by omega
      have hk0 : (0 : Int) ≤ (k : Int) := by omega
      obtain ⟨id, hi⟩ : ∃ id, I[k]? = some id := ⟨I[k], List.getElem?_eq_getElem hlt⟩
      have HID := Lib.hid (HL.out id (List.mem_of_getElem? hi))
      obtain ⟨a, rfl, _, hc⟩ := (HH.out.below HB.out).elem k (idC id) (by rw [List.getElem?_map, hi]; rfl)
      have HC := Lib.hid hc
      have HTK := Lib.hid (show I.take (k + 1) = I.take k ++ [id] by rw [List.take_succ_eq_append_getElem hlt]; rw [List.getElem?_eq_getElem hlt] at hi; injection hi with e; rw [e])
      have HR := Lib.hid (row_news (heap_alloc_new wr (.cells (idC id).toArray 28)))
      have HAD := Lib.hid (dpadd_any (wr.alloc (.cells (idC id).toArray 28)) w.heap.size n S id (HM.out.alloc _) (by omega) HID.out)
      have HBA := Lib.hid (below_new wr (.cells (idC id).toArray 28))
      clear hc hi
      go_wp2_with (first
        | ((with_reducible refine ld_id (x := .tmp 11) ?_ ?_ ?_ HC.out HID.out ?_); rfl; rfl; rfl)
        | ((with_reducible apply st_id (hl := HID.out)); rfl; rfl; rfl; rfl; rfl)
        | ((with_reducible refine ld_id (x := .tmp 5) (p := ⟨wr.heap.size, 0, none⟩) ?_ ?_ ?_ HR.out HID.out ?_); rfl; rfl; rfl))
      refine HAD.out.mono ?_
      rintro r w3 ⟨rfl, h3, hg3⟩
      have HM3 := Lib.hid h3
      have HS3 := Lib.hid (show ∀ x, x ∈ (if id ∈ S then S else S ++ [id]) ↔ x ∈ I.take (k + 1) from fun x => by
        rw [HTK.out, List.mem_append, List.mem_singleton, ← HS.out x]
        by_cases hin : id ∈ S
        · rw [if_pos hin]; exact ⟨.inl, fun h => h.elim (fun h => h) (fun e => by rw [e]; exact hin)⟩
        · rw [if_neg hin, List.mem_append, List.mem_singleton])
      have HB3 := Lib.hid ((HB.out.trans (HBA.out.mono HB.out.size)).grown hg3 (by have := HB.out.size; have := HBA.out.size; omega) (fun k hk => by injection hk with e; omega))
      clear h3 hg3 HAD
      go_wp2_with fail
      go_roundw
      case rel => exact ⟨k + 1, n + 1, _, by omega, by go_num, by omega, HM3.out, HS3.out, HB3.out⟩
      case measure => simp [intOf]; omega
    · have hlt' : ¬ (k : Int) < (I.length : Int) := by omega
      go_wp2_with fail
      go_ret
      exact ⟨_, rfl, n, S, HM.out, fun x => by rw [HS.out x, List.take_of_length_le (by omega)], Nat.le_refl _, by omega, HB.out⟩
end Go.Proofs.Ytkcjhkfelaplkaa
