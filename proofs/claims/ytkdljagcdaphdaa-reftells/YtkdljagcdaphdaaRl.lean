/-
  WALKS OF LAYER 9: strings.Cut at one byte; Unhex under one word; readLine.
-/
import Derived.Test.YtkdljagcdaphdaaBldW
namespace Go.Proofs.Ytkdljagcdaphdaa
open Go.RowKit
set_option linter.unusedVariables false
set_option linter.unusedSimpArgs false

theorem idA_idC (a : List UInt8) (h : a.length = 32) : S2.idA a = (idC a).toArray := by
  unfold S2.idA idC
  rw [h]
  simp
  intro x _
  rfl
theorem idA_zid : S2.idA [] = (idC Rf.zid).toArray := by kernel_rfl
/-- What Unhex answers. -/
def UnP (s : List UInt8) (w : World) (r : Ending) (w' : World) : Prop :=
  ∃ x b, x.length = 32 ∧ r = .returned (.tuple #[.agg (idC x).toArray, .bool b]) ∧ (b = true → S2.hexL x = s) ∧ (b = false → ∀ a : List UInt8, a.length = 32 → S2.hexL a ≠ s) ∧ Below w.heap.size w w'
theorem un_of {s : List UInt8} {w w' : World} {r : Ending} (hl : s.length = 64) (h : S2.Un s r) (hb : Below w.heap.size w w') : UnP s w r w' := by
  rcases h with ⟨hg, rfl⟩ | ⟨hg, rfl⟩
  · refine ⟨S2.unL s, true, S2.unL_len s, ?_, fun _ => S2.hex_unL s hl hg, (fun h => by cases h), hb⟩
    rw [← idA_idC _ (S2.unL_len s)]; rfl
  · refine ⟨Rf.zid, false, rfl, by rw [idA_zid], (fun h => by cases h), fun _ a ha e => hg ?_, hb⟩
    rw [← e]; exact (S2.good_hex a ha).1
theorem un_len {s : List UInt8} {w w' : World} (hl : s.length ≠ 64) (hb : Below w.heap.size w w') : UnP s w (.returned (.tuple #[.agg (S2.idA []), .bool false])) w' :=
  ⟨Rf.zid, false, rfl, by rw [idA_zid], (fun h => by cases h), fun _ a ha e => hl (by rw [← e, S2.hexL_length, ha]), hb⟩
theorem unhex_u (s : ByteArray) (w : World) (hs : s.size ≤ 9223372036854775807) : Calls Try.prog 43 #[.string s] w (UnP s.data.toList w) := by
  by_cases h : s.size = 64
  · exact (S2.unhex_64 s w h).mono fun r w' ⟨h1, h2⟩ => un_of (by simpa using h) h1 h2
  · exact (S2.unhex_len s w hs h).mono fun r w' ⟨h1, h2⟩ => by rw [h1]; exact un_len (by simpa using h) h2
theorem refunhex_u (s : ByteArray) (w : World) (hs : s.size ≤ 9223372036854775807) : Calls Try.prog 30 #[.string s] w (UnP s.data.toList w) := by
  by_cases h : s.size = 64
  · exact (S2.refunhex_64 s w h).mono fun r w' ⟨h1, h2⟩ => un_of (by simpa using h) h1 h2
  · exact (S2.refunhex_len s w hs h).mono fun r w' ⟨h1, h2⟩ => by rw [h1]; exact un_len (by simpa using h) h2

/-! ### strings.Cut -/
def CutP (s : ByteArray) (c : UInt8) (w : World) (r : Ending) (w' : World) : Prop :=
  (∃ i : Nat, i < s.size ∧ s.data.toList = (s.extract 0 i).data.toList ++ c :: (s.extract (i + 1) s.size).data.toList ∧ c ∉ (s.extract 0 i).data.toList ∧ r = .returned (.tuple #[.string (s.extract 0 i), .string (s.extract (i + 1) s.size), .bool true]) ∧ w = w') ∨
  (c ∉ s.data.toList ∧ r = .returned (.tuple #[.string s, .string ⟨#[]⟩, .bool false]) ∧ w = w')
theorem ext_take (s : ByteArray) (i : Nat) : (s.extract 0 i).data.toList = s.data.toList.take i := by
  simp only [ByteArray.data_extract, Array.toList_extract, List.extract_eq_take_drop]; simp
theorem ext_drop (s : ByteArray) (i : Nat) : (s.extract i s.size).data.toList = s.data.toList.drop i := by
  simp only [ByteArray.data_extract, Array.toList_extract, List.extract_eq_take_drop]
  rw [List.take_of_length_le (by simp)]
theorem cut_some {s : ByteArray} {c : UInt8} {i : Nat} (h : Lib.indexByte s.data.toList c = (i : Int)) : i < s.size ∧ s.data.toList = (s.extract 0 i).data.toList ++ c :: (s.extract (i + 1) s.size).data.toList ∧ c ∉ (s.extract 0 i).data.toList := by
  obtain ⟨h1, h2⟩ := Lib.indexByte_some h
  have hi : i < s.data.toList.length := (List.getElem?_eq_some_iff.1 h1).1
  refine ⟨by simpa using hi, ?_, ?_⟩
  · rw [ext_take, ext_drop]
    have : s.data.toList[i] = c := (List.getElem?_eq_some_iff.1 h1).2
    conv => lhs; rw [← List.take_append_drop i s.data.toList, List.drop_eq_getElem_cons hi, this]
  · rw [ext_take]
    intro q
    obtain ⟨k, hk⟩ := List.getElem?_of_mem q
    rw [List.getElem?_take] at hk
    split at hk
    · exact h2 k (by omega) hk
    · cases hk
set_option maxHeartbeats 400000 in
set_option maxRecDepth 100000 in
theorem lcut_any (s : ByteArray) (c : UInt8) (w : World) (hs : s.size ≤ 4611686018427387904) : Calls Try.prog 42 #[.string s, .string ⟨#[c]⟩] w fun r w' => ∃ n, CutP s c (w.drewN n) r w' := by
  have HI := Lib.hid (Try.stringslite_Index_one s c w)
  by_cases hq : Lib.indexByte s.data.toList c = -1
  · have HN := Lib.hid (show c ∉ s.data.toList from fun q => by
      obtain ⟨k, hk⟩ := List.getElem?_of_mem q
      exact Lib.indexByte_none hq k hk)
    rw [hq] at HI
    clear hq
    go_enter Try.func42, Try.ntmps42
    go_wp2_with fail
    refine HI.out.mono ?_
    rintro r w' ⟨rfl, rfl⟩
    go_wp2_with fail
    go_ret3
    exact ⟨0, .inr ⟨HN.out, rfl, rfl⟩⟩
  · obtain ⟨i, hi⟩ : ∃ i : Nat, Lib.indexByte s.data.toList c = (i : Int) := by
      have := Lib.indexByte_ge s.data.toList c
      exact ⟨(Lib.indexByte s.data.toList c).toNat, by omega⟩
    have HC := Lib.hid (cut_some hi)
    have hlt : i < s.size := HC.out.1
    rw [hi] at HI
    clear hq hi
    have h0 : (0 : Int) ≤ (i : Int) := by omega
    have h1 : (i : Int) ≤ (s.size : Int) := by omega
    have h2 : (i : Int) + 1 ≤ (s.size : Int) := by omega
    have h3 : (0 : Int) ≤ (i : Int) + 1 := by omega
    have h4 : ((i : Int) + 1).toNat = i + 1 := by omega
    have h5 : IntKind.i64.wrap ((i : Int) + 1) = (i : Int) + 1 := IntWalk.i64_in _ (by omega)
    go_enter Try.func42, Try.ntmps42
    go_wp2_with fail
    refine HI.out.mono ?_
    rintro r w' ⟨rfl, rfl⟩
    go_wp2_with fail
    go_quiet (fail)
    go_wp2_with fail
    go_ret3
    exact ⟨_, .inl ⟨i, HC.out.1, HC.out.2.1, HC.out.2.2, rfl, rfl⟩⟩
set_option maxRecDepth 100000 in
theorem cut_any (s : ByteArray) (c : UInt8) (w : World) (hs : s.size ≤ 4611686018427387904) : Calls Try.prog 28 #[.string s, .string ⟨#[c]⟩] w fun r w' => ∃ n, CutP s c (w.drewN n) r w' := by
  have HI := Lib.hid (lcut_any s c w hs)
  go_enter Try.func28, Try.ntmps28
  go_wp2_with fail
  refine HI.out.mono ?_
  rintro r w' ⟨n, ⟨i, h1, h2, h3, rfl, rfl⟩ | ⟨h1, rfl, rfl⟩⟩
  · have HC := Lib.hid (show CutP s c (w.drewN n) _ (w.drewN n) from .inl ⟨i, h1, h2, h3, rfl, rfl⟩)
    clear h1 h2 h3
    go_wp2_with fail
    go_ret3
    exact ⟨n, HC.out⟩
  · have HC := Lib.hid (show CutP s c (w.drewN n) _ (w.drewN n) from .inr ⟨h1, rfl, rfl⟩)
    clear h1
    go_wp2_with fail
    go_ret3
    exact ⟨n, HC.out⟩

/-! ### readLine -/
/-- What readLine answers. -/
def RlP (s : List UInt8) (w : World) (r : Ending) (w' : World) : Prop :=
  ∃ x b, x.id.length = 32 ∧ r = .returned (.tuple #[.agg (rfC x).toArray, .bool b]) ∧ (b = true → Rf.bodyL x = s ∧ ∀ y : Rf.R, y.id.length = 32 → Rf.bodyL y = s → y = x) ∧ (b = false → ∀ y : Rf.R, y.id.length = 32 → Rf.bodyL y ≠ s) ∧ Below w.heap.size w w'
theorem built_rf0 : Try.prog.built 54 [] = some (rfC ⟨⟨#[]⟩, Rf.zid⟩).toArray := by kernel_rfl
theorem bd_rf0 {ops : Array Oper} {rest : List Oper} {o : Oper} {a : Act} {w : World} {Q : Exit → Act → World → Prop} (ho : o.op = .build 54 #[]) (hg : o.guard = none)
    (h : wpList Try.prog ops Q rest (a.put o.dst (.agg (rfC ⟨⟨#[]⟩, Rf.zid⟩).toArray)) w) : wpList Try.prog ops Q (o :: rest) a w :=
  wpList_build_as hg _ _ ho _ (by simpa using built_rf0) h
theorem st_rfr {ops : Array Oper} {rest : List Oper} {op : Oper} {a : Act} {w : World} {Q : Exit → Act → World → Prop} {x y : Operand} {r : Rf.R} {g : Nat} {c : Array Value} (ho : op.op = .store 54 x y) (hx : a.eval x = .pointer (some ⟨g, 0, none⟩)) (hy : a.eval y = .agg (rfC r).toArray) (hg : op.guard = none)
    (hh : w.heap[g]? = some (.cells c 54)) (hc : c.size = 33) (hl : r.id.length = 32)
    (h : wpList Try.prog ops Q rest (a.put op.dst undef) (w.setRow g (rfC r).toArray)) : wpList Try.prog ops Q (op :: rest) a w :=
  wpList_store_row hg 54 x y ho g (rfC r).toArray hx hy 54 c hh (by simpa using rfsize hl) (by simp [rfC_length, hc, hl]) (all_oneCell_toArray (rfC_one r)) h
theorem ret_rf {fn : Func} {p u : Tmp} (h : fn.results = #[.cell p 54, .tmp u]) (tmps : Array Value) (w : World) (g : Nat) (cs : Array Value) (b : Bool) (hp : tmps.getD p undef = .pointer (some ⟨g, 0, none⟩)) (hu : tmps.getD u undef = .bool b)
    (hg : w.heap[g]? = some (.cells cs 54)) (hi : (Try.prog.info? 54).map (·.size) = some cs.size) : (results fn tmps).run Try.prog w = .ok (.tuple #[.agg cs, .bool b]) w := by
  have hld := run_loadVar_row (P := Try.prog) w g 54 54 cs _ _ hg underRf rfl hi
  have hp' : tmps[p]?.getD undef = .pointer (some ⟨g, 0, none⟩) := by simpa using hp
  have hu' : tmps[u]?.getD undef = .bool b := by simpa using hu
  rw [results_cell_tmp h]
  simp [asAddr, Result.andThen, hp', hu', hld]
set_option maxHeartbeats 1000000 in
set_option maxRecDepth 100000 in
theorem line_any (s : ByteArray) (w : World) (hs : s.size ≤ 100000) : Calls Try.prog 29 #[.string s] w (RlP s.data.toList w) := by
  have HCT := Lib.hid (fun W => cut_any s 32 W (by omega))
  have HZL := Lib.hid (show (⟨⟨#[]⟩, Rf.zid⟩ : Rf.R).id.length = 32 from rfl)
  go_enter Try.func29, Try.ntmps29
  go_wp2_with fail
  generalize hW : w.alloc _ = w0
  have HB1 := Lib.hid (show Below w.heap.size w w0 by rw [← hW]; exact below_new _ _)
  have HG1 := Lib.hid (show w0.heap[w.heap.size]? = some (.cells (rfC ⟨⟨#[]⟩, Rf.zid⟩).toArray 54) by rw [← hW]; exact heap_alloc_new w (.cells (rfC ⟨⟨#[]⟩, Rf.zid⟩).toArray 54))
  have hsz0 : w.heap.size < w0.heap.size := by rw [← hW]; simp
  clear hW
  refine (HCT.out _).mono ?_
  rintro r w2 ⟨n, ⟨i, h1, h2, h3, rfl, rfl⟩ | ⟨h1, rfl, rfl⟩⟩
  · have hb1 := bel_drewN HB1.out n
    have HG2 : Hid ((w0.drewN n).heap[w.heap.size]? = some (.cells (rfC ⟨⟨#[]⟩, Rf.zid⟩).toArray 54)) := HG1.out
    have hsz : w.heap.size < (w0.drewN n).heap.size := hsz0
    have H2 := Lib.hid h2
    have H3 := Lib.hid h3
    have hsx : (s.extract 0 i).size ≤ 9223372036854775807 := by
      have : (s.extract 0 i).data.toList.length ≤ s.size := by rw [ext_take]; simp; omega
      simp at this; simp; omega
    clear h1 h2 h3 HB1 HG1
    generalize w0.drewN n = w1 at *
    generalize s.extract 0 i = fig at *
    generalize s.extract (i + 1) s.size = nm at *
    have HUX := Lib.hid (unhex_u fig w1 hsx)
    go_wp2_with fail
    refine HUX.out.mono ?_
    rintro r w3 ⟨x, b, hx, rfl, hb1', hb2', hb3⟩
    have HX := Lib.hid hx
    have HRB := Lib.hid (show RlP s.data.toList w (.returned (.tuple #[.agg (rfC ⟨nm, x⟩).toArray, .bool b])) ((w3.alloc (.cells (idC x).toArray 35)).setRow w.heap.size (rfC ⟨nm, x⟩).toArray) from by
      refine ⟨⟨nm, x⟩, b, hx, rfl, fun e => ⟨?_, fun y hy he => ?_⟩, fun e y hy he => ?_, ?_⟩
      · rw [H2.out, ← hb1' e]; rfl
      · rw [H2.out] at he
        obtain ⟨g1, g2⟩ := Rf.body_inj H3.out he
        exact Rf.r_ext g2 (Rf.id_inj hy hx (by rw [g1, hb1' e]))
      · rw [H2.out] at he
        obtain ⟨g1, g2⟩ := Rf.body_inj H3.out he
        exact hb2' e y.id hy g1
      · exact below_setRow (below_step (below_step hb1 hb3) (below_new _ _)) (Nat.le_refl _) _)
    have HG3 := Lib.hid ((Below.heap_alloc w3 (.cells (idC x).toArray 35) w.heap.size (by have := hb3.size; omega)).trans ((hb3.block w.heap.size hsz).trans HG2.out))
    have HR3 := Lib.hid (row_cells (heap_alloc_new w3 (.cells (idC x).toArray 35)))
    clear hx hb1' hb2' HUX HG2
    go_wp2_with (first
      | ((with_reducible apply st_id (l := x) (hl := HX.out)); rfl; rfl; rfl; rfl; rfl)
      | ((with_reducible refine ld_id (x := .tmp 7) (p := ⟨w3.heap.size, 0, none⟩) ?_ ?_ ?_ HR3.out HX.out ?_); rfl; rfl; rfl)
      | ((with_reducible refine bd_rf (n := nm) (x := .tmp 22) (y := .tmp 23) ?_ ?_ ?_ ?_ HX.out ?_); rfl; rfl; rfl; rfl)
      | ((with_reducible refine st_rfr (r := ⟨nm, x⟩) (x := .tmp 2) (y := .tmp 24) (g := w.heap.size) ?_ ?_ ?_ ?_ HG3.out ?_ HX.out ?_); rfl; rfl; rfl; rfl; rfl))
    refine bodyPost_ret (v := .tuple #[.agg (rfC ⟨nm, x⟩).toArray, .bool b]) ?_ rfl HRB.out
    exact ret_rf (by rfl) _ _ w.heap.size _ _ (by rfl) (by rfl) (setRow_heap _ _ _ _ _ _ HG3.out) (by simpa using rfsize (r := ⟨nm, x⟩) HX.out)
  · have hb1 := bel_drewN HB1.out n
    have HG2 : Hid ((w0.drewN n).heap[w.heap.size]? = some (.cells (rfC ⟨⟨#[]⟩, Rf.zid⟩).toArray 54)) := HG1.out
    have H1 := Lib.hid h1
    clear h1 HB1 HG1
    generalize w0.drewN n = w1 at *
    have HRB := Lib.hid (show RlP s.data.toList w (.returned (.tuple #[.agg (rfC ⟨⟨#[]⟩, Rf.zid⟩).toArray, .bool false])) (w1.setRow w.heap.size (rfC ⟨⟨#[]⟩, Rf.zid⟩).toArray) from
      ⟨_, false, HZL.out, rfl, (fun e => by cases e), fun _ y hy he => H1.out (by rw [← he]; exact Rf.body_has y), below_setRow hb1 (Nat.le_refl _) _⟩)
    go_wp2_with (first
      | ((with_reducible refine bd_rf0 ?_ ?_ ?_); rfl; rfl)
      | ((with_reducible refine st_rfr (r := ⟨⟨#[]⟩, Rf.zid⟩) (x := .tmp 2) (y := .tmp 16) (g := w.heap.size) ?_ ?_ ?_ ?_ HG2.out ?_ HZL.out ?_); rfl; rfl; rfl; rfl; rfl))
    refine bodyPost_ret (v := .tuple #[.agg (rfC ⟨⟨#[]⟩, Rf.zid⟩).toArray, .bool false]) ?_ rfl HRB.out
    exact ret_rf (by rfl) _ _ w.heap.size _ _ (by rfl) (by rfl) (setRow_heap _ _ _ _ _ _ HG2.out) (by simpa using rfsize (r := ⟨⟨#[]⟩, Rf.zid⟩) HZL.out)

end Go.Proofs.Ytkdljagcdaphdaa
