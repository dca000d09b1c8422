/-
  WALKS OF LAYER 9: Find, of the program and of the document.
-/
import Derived.Test.YtkdljagcdaphdaaIdx
namespace Go.Proofs.Ytkdljagcdaphdaa
open Go.RowKit
set_option linter.unusedVariables false
set_option linter.unusedSimpArgs false

/-- What is returned: an id out of a block that is known, and a bool. -/
theorem ret_id {fn : Func} {p u : Tmp} (h : fn.results = #[.cell p 35, .tmp u]) (tmps : Array Value) (w : World) (g : Nat) (cs : Array Value) (b : Bool) (hp : tmps.getD p undef = .pointer (some ⟨g, 0, none⟩)) (hu : tmps.getD u undef = .bool b)
    (hg : w.heap[g]? = some (.cells cs 35)) (hi : (Try.prog.info? 35).map (·.size) = some cs.size) : (results fn tmps).run Try.prog w = .ok (.tuple #[.agg cs, .bool b]) w := by
  have hld := run_loadVar_row (P := Try.prog) w g 35 35 cs _ _ hg Try.underlying35 rfl hi
  have hp' : tmps[p]?.getD undef = .pointer (some ⟨g, 0, none⟩) := by simpa using hp
  have hu' : tmps[u]?.getD undef = .bool b := by simpa using hu
  rw [results_cell_tmp h]
  simp [asAddr, Result.andThen, hp', hu', hld]

/-- What Find answers. -/
def findV (o : Option (List UInt8)) : Value := match o with | some i => .tuple #[.agg (idC i).toArray, .bool true] | none => .tuple #[.agg (idC Rf.zid).toArray, .bool false]
theorem find_idx : ∀ (L : List Rf.R) (n : ByteArray) (i : Nat), idxV (fun r => decide (r.name = n)) L = (i : Int) → ∃ r, L[i]? = some r ∧ Rf.find L n = some r.id := by
  intro L n i h
  have hi : L.findIdx (fun r => decide (r.name = n)) = i ∧ i < L.length := by
    unfold idxV at h; split at h
    · omega
    · omega
  clear h
  obtain ⟨h1, h2⟩ := hi
  refine ⟨L[i], List.getElem?_eq_getElem h2, ?_⟩
  obtain ⟨hp, hb⟩ := (List.findIdx_eq h2).1 h1
  clear h1
  induction L generalizing i with
  | nil => simp at h2
  | cons r t ih =>
    unfold Rf.find
    cases i with
    | zero => simp at hp; simp [hp]
    | succ i =>
      have h0 := hb 0 (by omega)
      simp at h0
      rw [if_neg h0]
      exact ih i (by simpa using h2) (by simpa using hp) (fun j hj => by have := hb (j + 1) (by omega); simpa using this)
theorem find_miss (L : List Rf.R) (n : ByteArray) (h : ¬ ∃ i : Nat, idxV (fun r => decide (r.name = n)) L = (i : Int)) : idxV (fun r => decide (r.name = n)) L = -1 ∧ Rf.find L n = none := by
  by_cases hq : L.findIdx (fun r => decide (r.name = n)) < L.length
  · exact absurd ⟨_, by unfold idxV; rw [if_pos hq]⟩ h
  · refine ⟨by unfold idxV; rw [if_neg hq], Rf.find_none.2 (fun r hr e => hq ?_)⟩
    exact List.findIdx_lt_length_of_exists ⟨r, hr, by simpa using e⟩
theorem find1_pred (n : ByteArray) (b : Nat) (w : World) (hb : w.cell? ⟨b, 0, none⟩ = some (.string n)) : Pred 32 #[.pointer (some ⟨b, 0, none⟩)] (fun r => decide (r.name = n)) w := fun W r hB _ =>
  find1_any r n b W (by rw [hB.cell (World.block_lt_of_cell? w _ hb)]; exact hb)
theorem set1_pred (n : ByteArray) (b : Nat) (w : World) (hb : w.cell? ⟨b, 0, none⟩ = some (.string n)) : Pred 54 #[.pointer (some ⟨b, 0, none⟩)] (fun r => !Rf.lt r.name n) w := fun W r hB _ =>
  set1_any r n b W (by rw [hB.cell (World.block_lt_of_cell? w _ hb)]; exact hb)
theorem eg32 : ∀ args w, (callFunc 32 args).run Try.prog w = .ok (.enter 32 args) w := fun args w => by
  have h1 : decide (Try.f32.name = "runtime.NumGoroutine") = false := by kernel_rfl
  have h2 : Try.f32.body.isNone = false := by kernel_rfl
  have h1' : ¬ Try.f32.name = "runtime.NumGoroutine" := by simpa using h1
  have h2' : ¬ Try.f32.body = none := fun e => by rw [e] at h2; cases h2
  simp [callFunc, run_program, Try.func32, h1', h2']
theorem eg54 : ∀ args w, (callFunc 54 args).run Try.prog w = .ok (.enter 54 args) w := fun args w => by
  have h1 : decide (Try.f54.name = "runtime.NumGoroutine") = false := by kernel_rfl
  have h2 : Try.f54.body.isNone = false := by kernel_rfl
  have h1' : ¬ Try.f54.name = "runtime.NumGoroutine" := by simpa using h1
  have h2' : ¬ Try.f54.body = none := fun e => by rw [e] at h2; cases h2
  simp [callFunc, run_program, Try.func54, h1', h2']
theorem box_cell (w : World) (v : Value) (t : TypeId) : (w.alloc (.cells #[v] t)).cell? ⟨w.heap.size, 0, none⟩ = some v := by
  rw [cell_of_row _ _ 0 _ _ _ (heap_alloc_new _ _)]; rfl

theorem box2_cell (w : World) (v : Value) (t : TypeId) (o : Obj) : ((w.alloc (.cells #[v] t)).alloc o).cell? ⟨w.heap.size, 0, none⟩ = some v := by
  rw [((Below.refl _ _).alloc (Nat.le_refl _) o : Below (w.alloc (.cells #[v] t)).heap.size _ _).cell (by simp)]
  exact box_cell w v t
theorem below2 (w : World) (o1 o2 : Obj) : Below w.heap.size w ((w.alloc o1).alloc o2) := ((Below.refl _ _).alloc (Nat.le_refl _) _).alloc (by simp) _
theorem new2 (w : World) (o1 o2 : Obj) : ((w.alloc o1).alloc o2).heap[w.heap.size + 1]? = some o2 := by
  have := heap_alloc_new (w.alloc o1) o2
  simpa using this
theorem ld_idm {ops : Array Oper} {rest : List Oper} {op : Oper} {a : Act} {w : World} {Q : Exit → Act → World → Prop} {x : Operand} {l : List UInt8} {b o : Nat} (ho : op.op = .load 35 x) (hx : a.eval x = .pointer (some ⟨b, o, none⟩)) (hg : op.guard = none) (hc : w.rangeAt b o (idC l)) (hl : l.length = 32)
    (h : wpList Try.prog ops Q rest (a.put op.dst (.agg (idC l).toArray)) w) : wpList Try.prog ops Q (op :: rest) a w :=
  wpList_load_mid hg 35 x ho b o hx _ _ hc Try.underlying35 rfl (idsize hl) h
theorem st_idr {ops : Array Oper} {rest : List Oper} {op : Oper} {a : Act} {w : World} {Q : Exit → Act → World → Prop} {x y : Operand} {l : List UInt8} {g : Nat} {c : Array Value} (ho : op.op = .store 35 x y) (hx : a.eval x = .pointer (some ⟨g, 0, none⟩)) (hy : a.eval y = .agg (idC l).toArray) (hg : op.guard = none)
    (hh : w.heap[g]? = some (.cells c 35)) (hc : c.size = 32) (hl : l.length = 32)
    (h : wpList Try.prog ops Q rest (a.put op.dst undef) (w.setRow g (idC l).toArray)) : wpList Try.prog ops Q (op :: rest) a w :=
  wpList_store_row hg 35 x y ho g (idC l).toArray hx hy 35 c hh (by simpa using idsize hl) (by simp [idC_length, hc, hl]) (all_oneCell_toArray (idC_one l)) h

set_option maxHeartbeats 1000000 in
set_option maxRecDepth 100000 in
theorem find_any (v : Value) (L : List Rf.R) (n : ByteArray) (w : World) (hL : RefsAt w v L) (hl : L.length ≤ maxLen) :
    Calls Try.prog 16 #[v, .string n] w fun r w' => r = .returned (findV (Rf.find L n)) ∧ Below w.heap.size w w' := by
  obtain ⟨ao, cap, rfl⟩ := hL.form
  have HL := Lib.hid hL
  have HLN := Lib.hid hl
  have HB2 := Lib.hid (below2 w)
  have HX2 := Lib.hid (box2_cell w)
  have HN2 := Lib.hid (new2 w)
  clear hL
  unfold maxLen at hl
  go_enter Try.func16, Try.ntmps16
  go_wp2_with fail
  refine (index_any (fun r => decide (r.name = n)) 32 #[.pointer (some ⟨w.heap.size, 0, none⟩)] eg32 _ L _ (HL.out.below (HB2.out _ _)) HLN.out (find1_pred n _ _ (HX2.out _ _ _))).mono ?_
  rintro r w3 ⟨rfl, hb3⟩
  have hb03 := (HB2.out _ _).trans (hb3.mono (show w.heap.size ≤ _ by simp; omega))
  have HG3 := Lib.hid ((hb3.block (w.heap.size + 1) (by simp)).trans (HN2.out _ _))
  have hs3 := hb3.size
  have HS3 : w.heap.size + 1 < w3.heap.size := by simp at hs3; omega
  clear hs3 hb3 HN2 HX2 HB2
  by_cases hq : ∃ i : Nat, idxV (fun r => decide (r.name = n)) L = (i : Int)
  · obtain ⟨i, hi⟩ := hq
    obtain ⟨e, he, hf⟩ := find_idx L n i hi
    obtain ⟨a, rfl, hid, hc⟩ := (HL.out.below hb03).elem i e he
    have hil : i < L.length := (List.getElem?_eq_some_iff.1 he).1
    have h1 : (0 : Int) ≤ (i : Int) := by omega
    have h2 : (i : Int) < (L.length : Int) := by omega
    have hA1 := add_block a (i * 33)
    have hA2 := add_off a (i * 33)
    have HR := Lib.hid (mid_rid hc)
    have HD := Lib.hid hid
    rw [hi]
    have HF := Lib.hid (show findV (Rf.find L n) = .tuple #[.agg (idC e.id).toArray, .bool true] by rw [hf]; rfl)
    clear hi hf he hc hid
    go_wp2_with (first
      | ((with_reducible refine ld_idm (x := .tmp 16) (b := a.block) (o := a.off + i * 33 + 1) ?_ ?_ ?_ HR.out HD.out ?_); rfl; rfl; rfl)
      | ((with_reducible refine st_idr (x := .tmp 4) (y := .tmp 17) (g := w.heap.size + 1) ?_ ?_ ?_ ?_ HG3.out ?_ HD.out ?_); rfl; rfl; rfl; rfl; rfl))
    refine bodyPost_ret (v := .tuple #[.agg (idC e.id).toArray, .bool true]) ?_ rfl ⟨by rw [HF.out], below_setRow hb03 (by omega) _⟩
    exact ret_id (by rfl) _ _ (w.heap.size + 1) _ _ (by rfl) (by rfl) (setRow_heap _ _ _ _ _ _ HG3.out) (by simpa using idsize HD.out)
  · obtain ⟨hi, hf⟩ := find_miss L n hq
    rw [hi]
    have HF := Lib.hid (show findV (Rf.find L n) = .tuple #[.agg (idC Rf.zid).toArray, .bool false] by rw [hf]; rfl)
    have HD := Lib.hid (show Rf.zid.length = 32 from rfl)
    clear hi hf hq
    go_wp2_with (first
      | ((with_reducible refine bd_zid ?_ ?_ ?_); rfl; rfl)
      | ((with_reducible refine st_idr (x := .tmp 4) (y := .tmp 12) (g := w.heap.size + 1) ?_ ?_ ?_ ?_ HG3.out ?_ HD.out ?_); rfl; rfl; rfl; rfl; rfl))
    refine bodyPost_ret (v := .tuple #[.agg (idC Rf.zid).toArray, .bool false]) ?_ rfl ⟨by rw [HF.out], below_setRow hb03 (by omega) _⟩
    exact ret_id (by rfl) _ _ (w.heap.size + 1) _ _ (by rfl) (by rfl) (setRow_heap _ _ _ _ _ _ HG3.out) (by simpa using idsize HD.out)

theorem find_drop {L : List Rf.R} {n : ByteArray} {k : Nat} {e : Rf.R} (he : L[k]? = some e) : Rf.find (L.drop k) n = if e.name = n then some e.id else Rf.find (L.drop (k + 1)) n := by
  obtain ⟨hk, rfl⟩ := List.getElem?_eq_some_iff.1 he
  rw [List.drop_eq_getElem_cons hk]; rfl
set_option maxHeartbeats 1000000 in
set_option maxRecDepth 100000 in
theorem reffind_any (v : Value) (L : List Rf.R) (n : ByteArray) (w : World) (hL : RefsAt w v L) (hl : L.length ≤ maxLen) :
    Calls Try.prog 17 #[v, .string n] w fun r w' => r = .returned (findV (Rf.find L n)) ∧ Below w.heap.size w w' := by
  obtain ⟨ao, cap, rfl⟩ := hL.form
  have HL := Lib.hid hL
  clear hL
  unfold maxLen at hl
  have HBN := Lib.hid (fun t => below_new w t)
  have HNN := Lib.hid (fun t => heap_alloc_new w t)
  generalize hz : Rf.find L n = z
  have HZ := Lib.hid hz
  clear hz
  go_enter Try.func17, Try.ntmps17
  go_wp2_with fail
  go_loopw [6] (fun i wr => ∃ (k : Nat) (c : Array Value), k ≤ L.length ∧ i = .int .i64 k ∧ Hid (Rf.find (L.drop k) n = z) ∧ Hid (wr.heap[w.heap.size]? = some (.cells c 35)) ∧ Hid (c.size = 32) ∧ Below w.heap.size w wr) (fun i _ => L.length - (intOf i).toNat)
  case atStart => exact ⟨0, _, by omega, rfl, HZ.out, HNN.out _, rfl, HBN.out _⟩
  case round =>
    obtain ⟨k, c, hk, rfl, HE, HG, HCS, hb⟩ := hrel
    by_cases hlt : k < L.length
    · have hlt' : (k : Int) < (L.length : Int) := by omega
      have hk0 : (0 : Int) ≤ (k : Int) := by omega
      obtain ⟨e, he⟩ : ∃ e, L[k]? = some e := ⟨L[k], List.getElem?_eq_getElem hlt⟩
      obtain ⟨a, rfl, hid, hc⟩ := (HL.out.below hb).elem k e he
      have c0 := rf_name hc
      have hA1 := add_block a (k * 33)
      have hA2 := add_off a (k * 33)
      have HR := Lib.hid (mid_rid hc)
      have HD := Lib.hid hid
      have HS := Lib.hid (HE.out.symm.trans (find_drop (n := n) he))
      have HQ := Lib.hid (Rf.beq_iff e.name n)
      clear hc hid he
      by_cases hn : e.name = n
      · have HF := Lib.hid (show z = some e.id by rw [HS.out, if_pos hn])
        have hq : (e.name.toList == n.toList) = true := by rw [HQ.out]; simpa using hn
        clear hn
        go_wp2_with (first
          | ((with_reducible refine ld_idm (x := .tmp 23) (b := a.block) (o := a.off + k * 33 + 1) ?_ ?_ ?_ HR.out HD.out ?_); rfl; rfl; rfl)
          | ((with_reducible refine st_idr (x := .tmp 4) (y := .tmp 24) (g := w.heap.size) ?_ ?_ ?_ ?_ HG.out HCS.out HD.out ?_); rfl; rfl; rfl; rfl))
        refine bodyPost_ret (v := .tuple #[.agg (idC e.id).toArray, .bool true]) ?_ rfl ⟨by rw [HF.out]; rfl, below_setRow hb (Nat.le_refl _) _⟩
        exact ret_id (by rfl) _ _ w.heap.size _ _ (by rfl) (by rfl) (setRow_heap _ _ _ _ _ _ HG.out) (by simpa using idsize HD.out)
      · have HF := Lib.hid (show Rf.find (L.drop (k + 1)) n = z by rw [HS.out, if_neg hn])
        have hq : (e.name.toList == n.toList) = false := by rw [HQ.out]; simpa using hn
        clear hn
        go_wp2_with fail
        go_roundw
        case rel => exact ⟨k + 1, c, by omega, by go_num, HF, HG, HCS, hb⟩
        case measure => simp [intOf]; omega
    · have HF := Lib.hid (show z = none by rw [← HE.out, List.drop_of_length_le (by omega)]; rfl)
      have HD := Lib.hid (show Rf.zid.length = 32 from rfl)
      go_wp2_with (first
        | ((with_reducible refine bd_zid ?_ ?_ ?_); rfl; rfl)
        | ((with_reducible refine st_idr (x := .tmp 4) (y := .tmp 25) (g := w.heap.size) ?_ ?_ ?_ ?_ HG.out HCS.out HD.out ?_); rfl; rfl; rfl; rfl))
      refine bodyPost_ret (v := .tuple #[.agg (idC Rf.zid).toArray, .bool false]) ?_ rfl ⟨by rw [HF.out]; rfl, below_setRow hb (Nat.le_refl _) _⟩
      exact ret_id (by rfl) _ _ w.heap.size _ _ (by rfl) (by rfl) (setRow_heap _ _ _ _ _ _ HG.out) (by simpa using idsize HD.out)

end Go.Proofs.Ytkdljagcdaphdaa
