/-
  WALKS OF LAYER 11: rows of elements of any number of cells; Ids.
-/
import Derived.Test.YtipigedopmgemaaDoorStGet
namespace Go.Proofs.YtipigedopmgemaaDoor
open Go.RowKit
set_option linter.unusedVariables false
set_option linter.unusedSimpArgs false

theorem flatK_len {k : Nat} : ∀ (C : List (List Value)), (∀ c ∈ C, c.length = k) → C.flatten.length = C.length * k
  | [], _ => by simp
  | c :: t, h => by
    rw [List.flatten_cons, List.length_append, flatK_len t (fun x hx => h x (by simp [hx])), h c (by simp), List.length_cons, Nat.succ_mul]; omega
theorem flatK_get {k : Nat} : ∀ (C : List (List Value)), (∀ c ∈ C, c.length = k) → ∀ (i : Nat) (c : List Value), C[i]? = some c → ∀ (j : Nat) (x : Value), c[j]? = some x → C.flatten[i * k + j]? = some x
  | [], _, i, c, hi, _, _, _ => by simp at hi
  | a :: t, h, i, c, hi, j, x, hx => by
    have ha : a.length = k := h a (by simp)
    rw [List.flatten_cons]
    cases i with
    | zero =>
      simp at hi; subst hi
      have hj : j < a.length := (List.getElem?_eq_some_iff.1 hx).1
      rw [Nat.zero_mul, Nat.zero_add, List.getElem?_append_left hj]
      exact hx
    | succ i =>
      simp at hi
      rw [List.getElem?_append_right (by rw [ha, Nat.succ_mul]; omega), show (i + 1) * k + j - a.length = i * k + j by rw [ha, Nat.succ_mul]; omega]
      exact flatK_get t (fun x hx => h x (by simp [hx])) i c hi j x hx
/-- A row that a call has made, read as a slice of elements. -/
theorem own_rowsK {w : World} {base e k : Nat} {v : Value} {C : List (List Value)} (h : w.ownsRow base e k v C.length C.flatten) (hk : ∀ c ∈ C, c.length = k) : RowsAt w v k C := by
  refine ⟨?_⟩
  rcases h.2 with ⟨rfl, h0⟩ | ⟨g, cap, cur, rfl, hg, hb⟩
  · exact .inl ⟨rfl, by simpa using h0⟩
  · refine .inr ⟨⟨g, 0, none⟩, cap, rfl, fun i cs hi => ⟨hk cs (List.mem_of_getElem? hi), fun j x hx => ?_⟩⟩
    have := World.ownsRow.cells h (g := g) rfl (i * k + j) x (flatK_get C hk i cs hi j x hx)
    rw [Addr.add_mid] at this
    rw [Addr.add_mid, Addr.add_mid]
    simpa [Nat.add_assoc] using this
theorem rows_flat {w : World} {g k t : Nat} {cur : List Value} {C : List (List Value)} (hg : w.heap[g]? = some (.cells cur.toArray t (0, 0))) (hk : ∀ c ∈ C, c.length = k) (hc : cur.take (C.length * k) = C.flatten) (cap : Nat) : RowsAt w (.slice (some ⟨g, 0, none⟩) C.length cap) k C := by
  refine ⟨.inr ⟨⟨g, 0, none⟩, cap, rfl, fun i cs hi => ⟨hk cs (List.mem_of_getElem? hi), fun j x hx => ?_⟩⟩⟩
  have h1 := flatK_get C hk i cs hi j x hx
  rw [← hc, List.getElem?_take] at h1
  split at h1
  · rw [Addr.add_mid, Addr.add_mid]
    exact row_at hg _ _ (by simpa [Nat.add_assoc] using h1)
  · cases h1
theorem own_pushK {w : World} {base e k : Nat} {v : Value} {C : List (List Value)} {c : List Value} (h : w.ownsRow base e k v (C.length + 1) (C.flatten ++ c)) : w.ownsRow base e k v (C ++ [c]).length (C ++ [c]).flatten := by
  rw [List.flatten_append, List.length_append]
  simpa using h
/-- Ids in memory. -/
def IdsAt (w : World) (v : Value) (I : List (List UInt8)) : Prop := RowsAt w v 32 (I.map idC)
theorem ids_len {I : List (List UInt8)} (h : ∀ i ∈ I, i.length = 32) : ∀ c ∈ I.map idC, c.length = 32 := fun c hc => by
  obtain ⟨i, hi, rfl⟩ := List.mem_map.1 hc
  rw [idC_length, h i hi]
def idsOf (L : List St.It) : List (List UInt8) := L.map St.It.id
theorem idsOf_len {L : List St.It} (h : St.Len L) : ∀ i ∈ idsOf L, i.length = 32 := fun i hi => by
  obtain ⟨r, hr, rfl⟩ := List.mem_map.1 hi
  exact h r hr
theorem ld_it {ops : Array Oper} {rest : List Oper} {op : Oper} {a : Act} {w : World} {Q : Exit → Act → World → Prop} {x : Operand} {p : Addr} {r : St.It} (ho : op.op = .load 70 x) (hx : a.eval x = .pointer (some p)) (hg : op.guard = none) (hc : ∀ j v, (itC r)[j]? = some v → w.cell? (p.add j) = some v) (hid : r.id.length = 32)
    (h : wpList Tryd.prog ops Q rest (a.put op.dst (.agg (itC r).toArray)) w) : wpList Tryd.prog ops Q (op :: rest) a w :=
  wpList_load_at hg 70 x ho p hx _ _ hc underIt rfl (itsize hid) h
theorem st_it {ops : Array Oper} {rest : List Oper} {op : Oper} {a : Act} {w : World} {Q : Exit → Act → World → Prop} {x y : Operand} {r : St.It} {c : Array Value} (ho : op.op = .store 70 x y) (hx : a.eval x = .pointer (some ⟨w.heap.size, 0, none⟩)) (hy : a.eval y = .agg (itC r).toArray) (hg : op.guard = none) (hc : c.size = 33) (hid : r.id.length = 32)
    (h : wpList Tryd.prog ops Q rest (a.put op.dst undef) (w.alloc (.cells (itC r).toArray 70))) : wpList Tryd.prog ops Q (op :: rest) a (w.alloc (.cells c 70)) :=
  st_new 33 ho hx hy hg hc infoIz (by simp [itC_length, hid]) (all_oneCell_toArray (itC_one r)) h
theorem infoIdz : (Tryd.prog.info? 35).map (fun i => (i.zero, i.size, i.bytes)) = some (some (.agg (idC zId).toArray), 32, 32) := by kernel_rfl

set_option maxHeartbeats 400000 in
theorem ids_nil (w : World) : Calls Tryd.prog 17 #[.pointer none] w fun r w' => r = .returned (.slice none 0 0) ∧ w = w' := by
  go_enter Tryd.func17, Tryd.ntmps17
  go_wp2_with fail
  go_ret
  exact ⟨rfl, rfl⟩
theorem take_ids {L : List St.It} {k : Nat} {r : St.It} (h : L[k]? = some r) : ((idsOf (L.take (k + 1))).map idC).flatten = ((idsOf (L.take k)).map idC).flatten ++ idC r.id := by
  obtain ⟨hk, rfl⟩ := List.getElem?_eq_some_iff.1 h
  unfold idsOf
  rw [List.take_succ_eq_append_getElem hk, List.map_append, List.map_append, List.flatten_append]
  simp only [List.map_cons, List.map_nil, List.flatten_cons, List.flatten_nil, List.append_nil]
set_option maxHeartbeats 2000000 in
set_option maxRecDepth 100000 in
theorem ids_any (w : World) (base b : Nat) (v : Value) (L : List St.It) (h : PSt w base b v L) :
    Calls Tryd.prog 17 #[.pointer (some ⟨b, 0, none⟩)] w fun r w' => ∃ v', r = .returned v' ∧ IdsAt w' v' (idsOf L) ∧ Below w.heap.size w w' := by
  obtain ⟨i0, hi, hz0, hz1, hz2⟩ := info_parts infoIdz
  have hfew := h.few
  obtain ⟨ao, cap, rfl⟩ := h.form
  have cb := h.cell
  have HH := Lib.hid h
  clear h
  go_enter Tryd.func17, Tryd.ntmps17
  go_wp2_with (refine wpList_make_full _ rfl _ _ 28 rfl w.heap.size 35 i0 _ 32 Tryd.underlying28 hi hz0 hz1 .i64 .i64 _ _ L.length rfl rfl ?e1 ?e2 ?c1 ?c2 ?c3 ?_)
  case e1 => rfl
  case e2 => rfl
  case c1 => rw [hz2]; omega
  case c2 => unfold maxLen; omega
  case c3 => omega
  intro w1 hown hgr
  have hb1 : Below w.heap.size w w1 := ⟨hgr.os, hgr.tape, hgr.output, hgr.size, fun k hk => hgr.block k hk (by simp)⟩
  obtain ⟨cur0, hrow, hcl⟩ : ∃ cur : List Value, w1.heap[w.heap.size]? = some (.cells cur.toArray 35 (0, 0)) ∧ cur.length = L.length * 32 := by
    rcases hown.2 with ⟨h0, _⟩ | ⟨g, c, cur, h0, hg, hh, h1, h2, h3, h4⟩
    · simp at h0
    · simp only [Value.slice.injEq, Option.some.injEq, Addr.mk.injEq] at h0
      obtain ⟨⟨e1, _⟩, _, e2⟩ := h0
      subst e1 e2
      exact ⟨cur.toList, by simpa using hh, by simpa using h3⟩
  have HB1 := Lib.hid hb1
  have HR := Lib.hid hrow
  have HCL := Lib.hid hcl
  have cb1 := (HH.out.below hb1).cell
  clear hown hgr hb1 hrow hcl cb
  go_wp2_with fail
  go_loopw [19] (fun i wr => ∃ (k : Nat) (cur : List Value), k ≤ L.length ∧ i = .int .i64 k ∧ Hid (wr.heap[w.heap.size]? = some (.cells cur.toArray 35 (0, 0))) ∧ Hid (cur.length = L.length * 32) ∧ Hid (cur.take (k * 32) = ((idsOf (L.take k)).map idC).flatten) ∧ Below w.heap.size w wr) (fun i _ => L.length - (intOf i).toNat)
  case atStart => exact ⟨0, cur0, by omega, rfl, HR.out, HCL.out, by show _ = _; simp [idsOf], HB1.out⟩
  case round =>
    obtain ⟨k, cur, hk, rfl, HRW, HL, HT, hbr⟩ := hrel
    by_cases hlt : k < L.length
    · have hlt' : (k : Int) < (L.length : Int) := by omega
      have hk0 : (0 : Int) ≤ (k : Int) := by omega
      obtain ⟨r, hr⟩ : ∃ r, L[k]? = some r := ⟨L[k], List.getElem?_eq_getElem hlt⟩
      obtain ⟨a, rfl, hrl, hc⟩ := (HH.out.below hbr).elem k r hr
      have HC := Lib.hid (show ∀ j x, (itC r)[j]? = some x → (wr.alloc (.cells zIt.toArray 70)).cell? ((a.add (k * 33)).add j) = some x from fun j x hx => ((below_new wr _).cell (World.block_lt_of_cell? _ _ (hc j x hx))).trans (hc j x hx))
      have HC0 := Lib.hid hc
      have HRL := Lib.hid hrl
      have HI := Lib.hid (it_id (row_news (heap_alloc_new wr (.cells (itC r).toArray 70))))
      have hgl := (Array.getElem?_eq_some_iff.1 HRW.out).1
      have HRW2 := Lib.hid (((below_new wr (.cells (itC r).toArray 70)).block _ hgl).trans HRW.out)
      have HTH := Lib.hid (show (wr.alloc (.cells (itC r).toArray 70)).there w.heap.size (k * 32) (idC r.id).toArray.size from fun j hj => by
        have hj' : j < 32 := by simpa [idC_length, hrl] using hj
        have := HL.out
        exact ⟨row_there HRW2.out _ (by omega), row_free HRW2.out _⟩)
      have HSZ := Lib.hid (show (Tryd.prog.info? 35).map (·.size) = some (idC r.id).toArray.size by rw [List.size_toArray]; exact idsize hrl)
      have HON := Lib.hid (all_oneCell_toArray (idC_one r.id))
      have HTK := Lib.hid (take_ids hr)
      clear hr hrl hc
      go_wp2_with (first
        | ((with_reducible refine ld_it (r := r) (x := .tmp 22) (p := a.add (k * 33)) ?_ ?_ ?_ HC0.out HRL.out ?_); rfl; rfl; rfl)
        | ((with_reducible refine ld_it (r := r) (x := .tmp 22) (p := a.add (k * 33)) ?_ ?_ ?_ HC.out HRL.out ?_); rfl; rfl; rfl)
        | ((with_reducible apply st_it (r := r) (hid := HRL.out)); rfl; rfl; rfl; rfl; rfl)
        | ((with_reducible refine ld_id (x := .tmp 26) (p := ⟨wr.heap.size, 0, none⟩) ?_ ?_ ?_ HI.out HRL.out ?_); rfl; rfl; rfl)
        | ((with_reducible refine wpList_store_mid ?_ 35 (.tmp 28) (.tmp 27) ?_ w.heap.size (k * 32) (idC r.id).toArray ?_ ?_ HTH.out HSZ.out HON.out ?_); rfl; rfl; rfl; rfl))
      have HRX := Lib.hid (show (idC r.id).length = 32 by rw [idC_length, HRL.out])
      go_roundw
      case rel =>
        refine ⟨k + 1, splice cur (k * 32) (idC r.id), by omega, by go_num, setCells_row _ _ _ _ _ _ HRW2.out (by rw [HRX.out, HL.out]; omega), ?_, ?_, (hbr.alloc hbr.size _).grown (grown_setCells _ _ _ _) (by simp; omega) (by intro j hj; cases hj; exact Nat.le_refl _)⟩
        · show _ = _
          rw [length_splice _ _ _ (by rw [HRX.out, HL.out]; omega), HL.out]
        · show _ = _
          have hl : (cur.take (k * 32)).length = k * 32 := by rw [List.length_take, HL.out]; omega
          unfold splice
          rw [show (k + 1) * 32 = k * 32 + 32 by omega, take_app2 _ _ _ _ hl, take_app _ _ _ HRX.out, HT.out, HTK.out]
      case measure => simp [intOf]; omega
    · have hkl : k = L.length := by omega
      subst hkl
      have HF := Lib.hid (show IdsAt wr (.slice (some ⟨w.heap.size, 0, none⟩) L.length L.length) (idsOf L) from by
        have hc := HT.out
        rw [List.take_length] at hc
        have := rows_flat HRW.out (ids_len (idsOf_len HH.out.len)) (by simpa [idsOf] using hc) L.length
        simpa [IdsAt, idsOf] using this)
      go_wp2_with fail
      go_ret
      exact ⟨_, rfl, HF.out, hbr⟩

end Go.Proofs.YtipigedopmgemaaDoor
