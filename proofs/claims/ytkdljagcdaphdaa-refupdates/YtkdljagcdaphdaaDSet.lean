/-
  WALKS OF LAYER 9: the document's Set.
-/
import Derived.Test.YtkdljagcdaphdaaKn
namespace Go.Proofs.Ytkdljagcdaphdaa
open Go.RowKit
set_option linter.unusedVariables false
set_option linter.unusedSimpArgs false

theorem own_base {w : World} {B B' e k n : Nat} {v : Value} {xs : List Value} (h : w.ownsRow B e k v n xs) (hB : B' ≤ B) : w.ownsRow B' e k v n xs := by
  refine ⟨h.1, h.2.imp id ?_⟩
  rintro ⟨g, cap, cur, hv, hg, hr⟩
  exact ⟨g, cap, cur, hv, Nat.le_trans hB hg, hr⟩
/-- Where the document's Set stands in memory: the refs so far, its own box with the id. -/
structure Sd (w wr : World) (v : Value) (acc : List Rf.R) (id : List UInt8) : Prop where
  own : OwnF wr (w.heap.size + 1) v acc
  box : wr.heap[w.heap.size]? = some (.cells (idC id).toArray 35)
  bel : Below w.heap.size w wr
  lt : w.heap.size < wr.heap.size
theorem Sd.start (w : World) (id : List UInt8) : Sd w (w.alloc (.cells (idC id).toArray 35)) (.slice none 0 0) [] id :=
  ⟨own_nil _ _, heap_alloc_new _ _, below_new _ _, by simp⟩
theorem Sd.push {w wr w3 : World} {v v' : Value} {acc : List Rf.R} {id : List UInt8} {r : Rf.R} {o : Obj} (h : Sd w wr v acc id) (ho : OwnF w3 (w.heap.size + 1) v' (acc ++ [r])) (hg : (wr.alloc o).grownBy w3 v.ownBlock) : Sd w w3 v' (acc ++ [r]) id := by
  have hlt := h.lt
  have hs := hg.size
  simp at hs
  refine ⟨ho, ?_, (h.bel.alloc h.bel.size _).grown hg (by simp; omega) (fun k hk => by have := (h.own.lt k hk).1; omega), by omega⟩
  rw [hg.block w.heap.size (by simp; omega) (fun e => by have := (h.own.lt _ e.symm).1; omega), Below.heap_alloc _ _ _ hlt]
  exact h.box
theorem ap_rf {ops : Array Oper} {rest : List Oper} {op : Oper} {a : Act} {Q : Exit → Act → World → Prop} {w wr : World} {v : Value} {acc : List Rf.R} {id : List UInt8} {r : Rf.R} (s x : Operand)
    (ho : op.op = .call { callee := .builtin .append, args := #[s, x], argTypes := #[22, 22] }) (hg : op.guard = none) (hs : a.eval s = v) (hx : a.eval x = .slice (some ⟨wr.heap.size, 0, none⟩) 1 1)
    (h : Sd w wr v acc id) (hid : r.id.length = 32) (hl : acc.length ≤ 1000)
    (hK : ∀ v' w', Hid (Sd w w' v' (acc ++ [r]) id) → wpList Try.prog ops Q rest (a.put op.dst v') w') : wpList Try.prog ops Q (op :: rest) a (wr.alloc (.cells (rfC r).toArray 54)) := by
  obtain ⟨i0, hi, hz0, hz1, hz2⟩ := info_parts infoRf
  have hlt := h.lt
  refine wpList_append_own _ hg s x 22 ho (w.heap.size + 1) 54 i0 _ 33 48 Try.underlying22 hi hz0 hz1 hz2 (by simp [Value.cells, idC, Rf.zid]) (by decide) v acc.length (acc.flatMap rfC) hs (World.ownsRow.alloc h.own _) ⟨wr.heap.size, 0, none⟩ 1 1 (rfC r) hx (by rw [rfC_length, hid]) (news_row (heap_alloc_new _ _)) (rfC_one r) (by unfold maxLen; omega) (by omega) (by simp; omega) ?_
  intro v' w' h1 h2 _
  exact hK v' w' (h.push (own_push h1) h2)

/-- What the document's Set leaves. -/
def SdP (L : List Rf.R) (n : ByteArray) (id : List UInt8) (w : World) (e : Ending) (w' : World) : Prop :=
  ∃ v', e = .returned v' ∧ OwnF w' w.heap.size v' (Rf.setD (decide (id = Rf.zid)) L n id) ∧ RefsAt w' v' (Rf.setD (decide (id = Rf.zid)) L n id) ∧ Below w.heap.size w w'
theorem setD_step {L : List Rf.R} {k : Nat} {e : Rf.R} (he : L[k]? = some e) (d : Bool) (n : ByteArray) (id : List UInt8) :
    Rf.setD d (L.drop k) n id = (if !d && !Rf.lt e.name n then [⟨n, id⟩] else []) ++ ((if e.name = n then [] else [e]) ++ Rf.setD (d || !Rf.lt e.name n) (L.drop (k + 1)) n id) := by
  obtain ⟨hk, rfl⟩ := List.getElem?_eq_some_iff.1 he
  rw [List.drop_eq_getElem_cons hk]; rfl

set_option maxHeartbeats 2000000 in
set_option maxRecDepth 100000 in
theorem refset_any (v : Value) (L : List Rf.R) (n : ByteArray) (id : List UInt8) (w : World) (hL : RefsAt w v L) (hl : L.length ≤ 100) (hil : id.length = 32) :
    Calls Try.prog 39 #[v, .string n, .agg (idC id).toArray] w (SdP L n id w) := by
  obtain ⟨ao, cap, rfl⟩ := hL.form
  have HL := Lib.hid hL
  have HIL := Lib.hid hil
  have hq := fun W => eq_id id Rf.zid hil rfl W
  have HS0 := Lib.hid (Sd.start w id)
  have HR0 := Lib.hid (row_cells (heap_alloc_new w (.cells (idC id).toArray 35)))
  have HLI := Lib.hid hL.len
  generalize hz : Rf.setD (decide (id = Rf.zid)) L n id = Z
  have HZ := Lib.hid hz
  have HP := Lib.hid (show ∀ v' w', OwnF w' (w.heap.size + 1) v' Z → RefsAt w' v' Z → Below w.heap.size w w' → SdP L n id w (.returned v') w' from fun v' w' h0 h1 h2 => ⟨v', rfl, by rw [hz]; exact own_base h0 (by omega), by rw [hz]; exact h1, h2⟩)
  clear hL hil hz
  generalize decide (id = Rf.zid) = d0 at hq HZ
  go_enter Try.func39, Try.ntmps39
  go_wp2_with (first
    | ((with_reducible refine bd_zid ?_ ?_ ?_); rfl; rfl)
    | ((with_reducible refine ld_id (x := .tmp 5) (p := ⟨w.heap.size, 0, none⟩) ?_ ?_ ?_ HR0.out HIL.out ?_); rfl; rfl; rfl))
  go_loopw [7, 8, 9] (fun o d i wr => ∃ (k : Nat) (acc : List Rf.R) (b : Bool), k ≤ L.length ∧ i = .int .i64 k ∧ d = .bool b ∧ acc.length ≤ 2 * k ∧ Hid (acc ++ Rf.setD b (L.drop k) n id = Z) ∧ Hid (∀ r ∈ acc, r.id.length = 32) ∧ Hid (Sd w wr o acc id)) (fun _ _ i _ => L.length - (intOf i).toNat)
  case atStart => exact ⟨0, [], d0, by omega, rfl, rfl, by simp, HZ.out, by intro r hr; simp at hr, HS0.out⟩
  case round =>
    obtain ⟨k, acc, b, hk, rfl, rfl, hal, HE, HI, HS⟩ := hrel
    have HR := Lib.hid (row_cells HS.out.box)
    by_cases hlt : k < L.length
    · have hlt' : (k : Int) < (L.length : Int) := by omega
      have hk0 : (0 : Int) ≤ (k : Int) := by omega
      obtain ⟨e, he⟩ : ∃ e, L[k]? = some e := ⟨L[k], List.getElem?_eq_getElem hlt⟩
      obtain ⟨a, rfl, hid, hc⟩ := (HL.out.below HS.out.bel).elem k e he
      have c0 := rf_name hc
      have HC := Lib.hid hc
      have HD := Lib.hid hid
      have HST := Lib.hid (HE.out.symm.trans (by rw [setD_step he]))
      have HLE := Lib.hid (Rf.leq_iff n e.name)
      have HQ := Lib.hid (Rf.beq_iff e.name n)
      have HBR := Lib.hid (fun W hb => (fun j x hx => by
        obtain ⟨a', e', _, h'⟩ := (HL.out.below hb).elem k e he
        cases e'
        exact h' j x hx : ∀ j x, (rfC e)[j]? = some x → W.cell? ((a.add (k * 33)).add j) = some x) : ∀ W, Below w.heap.size w W → ∀ j x, (rfC e)[j]? = some x → W.cell? ((a.add (k * 33)).add j) = some x)
      have HIE := Lib.hid (show ∀ r ∈ acc ++ [e], r.id.length = 32 from fun r hr => by
        rcases List.mem_append.1 hr with h | h
        · exact HI.out r h
        · simp at h; rw [h]; exact hid)
      have HIN := Lib.hid (show ∀ r ∈ acc ++ [(⟨n, id⟩ : Rf.R)], r.id.length = 32 from fun r hr => by
        rcases List.mem_append.1 hr with h | h
        · exact HI.out r h
        · simp at h; rw [h]; exact HIL.out)
      clear hc hid he HE
      cases hlx : Rf.lt e.name n with
      | true =>
        rw [hlx] at HLE HST
        obtain ⟨hl1, hl2⟩ := Bool.or_eq_false_iff.1 HLE.out
        have hne := Rf.lt_ne hlx
        have HST2 := Lib.hid (show (acc ++ [e]) ++ Rf.setD b (L.drop (k + 1)) n id = Z by rw [HST.out, if_neg hne]; cases b <;> simp)
        have hq1 : (e.name.toList == n.toList) = false := by rw [HQ.out]; simpa using hne
        have hq2 : (e.name.toList != n.toList) = true := by rw [bne, hq1]; rfl
        have hal' : acc.length ≤ 1000 := by omega
        clear hlx hne HST
        cases b with
        | true =>
          go_wp2_with (first
            | ((with_reducible refine ld_rf (r := e) (x := .tmp 46) (p := a.add (k * 33)) ?_ ?_ ?_ HC.out HD.out ?_); rfl; rfl; rfl)
            | ((with_reducible refine bs_rf (r := e) (x := .tmp 47) ?_ ?_ ?_ HD.out ?_); rfl; rfl; rfl)
            | (at_builtin; refine ap_rf (r := e) (.tmp 43) (.tmp 48) rfl rfl rfl rfl HS.out HD.out hal' ?_; intro v2 w2 HS2))
          go_roundw
          case rel => exact ⟨k + 1, acc ++ [e], true, by omega, by go_num, rfl, by simp; omega, HST2, HIE, HS2⟩
          case measure => simp [intOf]; omega
        | false =>
          go_wp2_with (first
            | ((with_reducible refine ld_rf (r := e) (x := .tmp 46) (p := a.add (k * 33)) ?_ ?_ ?_ HC.out HD.out ?_); rfl; rfl; rfl)
            | ((with_reducible refine bs_rf (r := e) (x := .tmp 47) ?_ ?_ ?_ HD.out ?_); rfl; rfl; rfl)
            | (at_builtin; refine ap_rf (r := e) (.tmp 43) (.tmp 48) rfl rfl rfl rfl HS.out HD.out hal' ?_; intro v2 w2 HS2))
          go_roundw
          case rel => exact ⟨k + 1, acc ++ [e], false, by omega, by go_num, rfl, by simp; omega, HST2, HIE, HS2⟩
          case measure => simp [intOf]; omega
      | false =>
        rw [hlx] at HLE HST
        have hle : (Op.bytesLess n.toList e.name.toList || n.toList == e.name.toList) = true := HLE.out
        have hal' : acc.length ≤ 1000 := by omega
        clear hlx
        by_cases hn : e.name = n
        · have hq1 : (e.name.toList == n.toList) = true := by rw [HQ.out]; simpa using hn
          have hq2 : (e.name.toList != n.toList) = false := by rw [bne, hq1]; rfl
          cases b with
          | true =>
            have HST2 := Lib.hid (show acc ++ Rf.setD true (L.drop (k + 1)) n id = Z by rw [HST.out, if_pos hn]; simp)
            clear hn HST
            go_wp2_with fail
            go_roundw
            case rel => exact ⟨k + 1, acc, true, by omega, by go_num, rfl, by omega, HST2, HI, HS⟩
            case measure => simp [intOf]; omega
          | false =>
            have HST2 := Lib.hid (show (acc ++ [(⟨n, id⟩ : Rf.R)]) ++ Rf.setD true (L.drop (k + 1)) n id = Z by rw [HST.out, if_pos hn]; simp)
            clear hn HST
            go_wp2_with (first
              | ((with_reducible refine ld_id (x := .tmp 5) (p := ⟨w.heap.size, 0, none⟩) ?_ ?_ ?_ HR.out HIL.out ?_); rfl; rfl; rfl)
              | ((with_reducible refine bd_rf (n := n) (x := .tmp 31) (y := .tmp 32) ?_ ?_ ?_ ?_ HIL.out ?_); rfl; rfl; rfl; rfl)
              | ((with_reducible refine bs_rf (r := ⟨n, id⟩) (x := .tmp 33) ?_ ?_ ?_ HIL.out ?_); rfl; rfl; rfl)
              | (at_builtin; refine ap_rf (r := ⟨n, id⟩) (.tmp 30) (.tmp 34) rfl rfl rfl rfl HS.out HIL.out hal' ?_; intro v2 w2 HS2; have c2 := rf_name (HBR.out w2 HS2.out.bel)))
            go_roundw
            case rel => exact ⟨k + 1, acc ++ [⟨n, id⟩], true, by omega, by go_num, rfl, by simp; omega, HST2, HIN, HS2⟩
            case measure => simp [intOf]; omega
        · have hq1 : (e.name.toList == n.toList) = false := by rw [HQ.out]; simpa using hn
          have hq2 : (e.name.toList != n.toList) = true := by rw [bne, hq1]; rfl
          cases b with
          | true =>
            have HST2 := Lib.hid (show (acc ++ [e]) ++ Rf.setD true (L.drop (k + 1)) n id = Z by rw [HST.out, if_neg hn]; simp)
            clear hn HST
            go_wp2_with (first
              | ((with_reducible refine ld_rf (r := e) (x := .tmp 46) (p := a.add (k * 33)) ?_ ?_ ?_ HC.out HD.out ?_); rfl; rfl; rfl)
              | ((with_reducible refine bs_rf (r := e) (x := .tmp 47) ?_ ?_ ?_ HD.out ?_); rfl; rfl; rfl)
              | (at_builtin; refine ap_rf (r := e) (.tmp 43) (.tmp 48) rfl rfl rfl rfl HS.out HD.out hal' ?_; intro v2 w2 HS2))
            go_roundw
            case rel => exact ⟨k + 1, acc ++ [e], true, by omega, by go_num, rfl, by simp; omega, HST2, HIE, HS2⟩
            case measure => simp [intOf]; omega
          | false =>
            have HST2 := Lib.hid (show ((acc ++ [(⟨n, id⟩ : Rf.R)]) ++ [e]) ++ Rf.setD true (L.drop (k + 1)) n id = Z by rw [HST.out, if_neg hn]; simp)
            have HIE2 := Lib.hid (show ∀ r ∈ (acc ++ [(⟨n, id⟩ : Rf.R)]) ++ [e], r.id.length = 32 from fun r hr => by
              rcases List.mem_append.1 hr with h | h
              · exact HIN.out r h
              · simp at h; rw [h]; exact HD.out)
            have hal2 : (acc ++ [(⟨n, id⟩ : Rf.R)]).length ≤ 1000 := by simp; omega
            clear hn HST
            go_wp2_with (first
              | ((with_reducible refine ld_id (x := .tmp 5) (p := ⟨w.heap.size, 0, none⟩) ?_ ?_ ?_ HR.out HIL.out ?_); rfl; rfl; rfl)
              | ((with_reducible refine bd_rf (n := n) (x := .tmp 31) (y := .tmp 32) ?_ ?_ ?_ ?_ HIL.out ?_); rfl; rfl; rfl; rfl)
              | ((with_reducible refine bs_rf (r := ⟨n, id⟩) (x := .tmp 33) ?_ ?_ ?_ HIL.out ?_); rfl; rfl; rfl)
              | ((with_reducible refine ld_rf (r := e) (x := .tmp 46) (p := a.add (k * 33)) ?_ ?_ ?_ HC2.out HD.out ?_); rfl; rfl; rfl)
              | ((with_reducible refine bs_rf (r := e) (x := .tmp 47) ?_ ?_ ?_ HD.out ?_); rfl; rfl; rfl)
              | (at_builtin; (with_reducible refine ap_rf (r := ⟨n, id⟩) (.tmp 30) (.tmp 34) ?_ ?_ ?_ ?_ HS.out HIL.out hal' ?_); rfl; rfl; rfl; rfl; intro v2 w2 HS2; have c2 := rf_name (HBR.out w2 HS2.out.bel); have HC2 := Lib.hid (HBR.out w2 HS2.out.bel))
              | (at_builtin; refine ap_rf (r := e) (.tmp 43) (.tmp 48) rfl rfl rfl rfl HS2.out HD.out hal2 ?_; intro v3 w3 HS3))
            go_roundw
            case rel => exact ⟨k + 1, (acc ++ [⟨n, id⟩]) ++ [e], true, by omega, by go_num, rfl, by simp; omega, HST2, HIE2, HS3⟩
            case measure => simp [intOf]; omega
    · have HEE := Lib.hid (show acc ++ Rf.setD b [] n id = Z by rw [← HE.out, List.drop_of_length_le (by omega)])
      have hal' : acc.length ≤ 1000 := by omega
      cases b with
      | true =>
        have HE2 := Lib.hid (show acc = Z by rw [← HEE.out]; simp [Rf.setD])
        have HQ := Lib.hid (HP.out _ _ (by rw [← HE2.out]; exact HS.out.own) (by rw [← HE2.out]; exact HS.out.own.rows HI.out) HS.out.bel)
        go_wp2_with fail
        go_ret
        exact HQ.out
      | false =>
        have HE2 := Lib.hid (show acc ++ [(⟨n, id⟩ : Rf.R)] = Z by rw [← HEE.out]; simp [Rf.setD])
        have HIN := Lib.hid (show ∀ r ∈ acc ++ [(⟨n, id⟩ : Rf.R)], r.id.length = 32 from fun r hr => by
          rcases List.mem_append.1 hr with h | h
          · exact HI.out r h
          · simp at h; rw [h]; exact HIL.out)
        go_wp2_with (first
          | ((with_reducible refine ld_id (x := .tmp 5) (p := ⟨w.heap.size, 0, none⟩) ?_ ?_ ?_ HR.out HIL.out ?_); rfl; rfl; rfl)
          | ((with_reducible refine bd_rf (n := n) (x := .tmp 53) (y := .tmp 54) ?_ ?_ ?_ ?_ HIL.out ?_); rfl; rfl; rfl; rfl)
          | ((with_reducible refine bs_rf (r := ⟨n, id⟩) (x := .tmp 55) ?_ ?_ ?_ HIL.out ?_); rfl; rfl; rfl)
          | (at_builtin; refine ap_rf (r := ⟨n, id⟩) (.tmp 52) (.tmp 56) rfl rfl rfl rfl HS.out HIL.out hal' ?_; intro v2 w2 HS2))
        have HQ := Lib.hid (HP.out _ _ (by rw [← HE2.out]; exact HS2.out.own) (by rw [← HE2.out]; exact HS2.out.own.rows HIN.out) HS2.out.bel)
        go_ret
        exact HQ.out

end Go.Proofs.Ytkdljagcdaphdaa
