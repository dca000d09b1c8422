/-
  WALKS OF LAYER 4: the document's guess (knapsackref04.guess): a tree.
-/
import Derived.Test.YtcicfjfbnbkkcaaDoorGuT
namespace Go.Proofs.YtcicfjfbnbkkcaaDoor
open Go.RowKit
set_option linter.unusedVariables false
set_option linter.unusedSimpArgs false

theorem wrap_small (n : Nat) (h : n < 2 ^ 8) : IntKind.i64.wrap (n : Int) = (n : Int) := by rw [IntKind.wrap_i64]; omega
theorem yieldsIf_en {ops : Array Oper} {S : World → Prop} {op : Oper} {a : Act} {x y z : Operand} {n : ByteArray} {k : Int} {l : List UInt8} {c : Array Value} (hw : Region.wanted op (yielded ops a.tmps) = true) (ho : op.op = .build 52 #[(1, y), (0, x), (2, z)])
    (hx : a.eval x = .string n) (hy : a.eval y = .int .i64 k) (hz : a.eval z = .agg (idC l).toArray) (hb : Tryd.prog.built 52 [(1, .int .i64 k), (0, .string n), (2, .agg (idC l).toArray)] = some c) : YieldsIf Tryd.prog ops S op (.agg c) a :=
  .inl ⟨hw, fun W _ => by
    unfold execOp
    simp only [ho, List.map_toArray, List.map_cons, List.map_nil, hx, hy, hz, Sem.run_bind, run_build W _ _ _ hb, Result.andThen_ok, Sem.run_pure]⟩
set_option maxRecDepth 100000 in
theorem built_en2 (n : ByteArray) (k : Int) (l : List UInt8) (h : l.length = 32) : Tryd.prog.built 52 [(1, .int .i64 k), (0, .string n), (2, .agg (idC l).toArray)] = some (enC ⟨n, k, l⟩).toArray := by
  obtain ⟨x0, x1, x2, x3, x4, x5, x6, x7, x8, x9, x10, x11, x12, x13, x14, x15, x16, x17, x18, x19, x20, x21, x22, x23, x24, x25, x26, x27, x28, x29, x30, x31, rfl⟩ := len32 h
  kernel_rfl
theorem wp_bs_en {op : Oper} {a : Act} {w : World} {K : Act → World → Prop} {Q : Exit → Act → World → Prop} {x : Operand} {n : ByteArray} {k : Int} {l : List UInt8} (ho : op.op = .buildSlice 23 1 #[(0, x)]) (hx : a.eval x = .agg (enC ⟨n, k, l⟩).toArray) (hl : l.length = 32)
    (h : K (a.put op.dst (.slice (some ⟨w.heap.size, 0, none⟩) 1 1)) (w.alloc (.cells (enC ⟨n, k, l⟩).toArray 52))) : op.wp Tryd.prog a w K Q := by
  obtain ⟨ie, hie, hz, h1, _⟩ := info_parts infoEn
  have hf := builtS_en n k l hl
  unfold Program.builtSlice at hf
  simp only [hie, hz] at hf
  rw [if_neg (by rw [h1]; decide)] at hf
  exact wp_buildSlice 23 52 1 _ ho _ ie _ Tryd.underlying23 hie hz (by rw [h1]; decide) (by rw [h1]; decide) (by simp only [List.map_toArray, List.map_cons, List.map_nil, hx]; exact hf) h

theorem own_below {w w' : World} {base e m n : Nat} {v : Value} {xs : List Value} (h : w.ownsRow base e m v n xs) (hb : Below w.heap.size w w') : w'.ownsRow base e m v n xs :=
  h.kept (row := none) ⟨hb.os, hb.tape, hb.output, hb.size, fun k hk _ => hb.block k hk⟩ (Classical.em _)
/-- Where guess stands in a tree. -/
structure GtW (w : World) (z : Array Value) (kd : Int) (R : List En) (n : Nat) (l : List UInt8) (acc : List En) (W : World) : Prop where
  wk : Rm.treeG (65 - n) l acc = R
  row : ∃ ev, W.ownsRow (w.heap.size + 2) 52 34 ev acc.length (acc.flatMap enC) ∧ Bx W (w.heap.size + 1) { noOb with kind := kd, ents := acc } ev nilV
  box : W.heap[w.heap.size]? = some (.cells z 29)
  below : Below w.heap.size w W
  big : w.heap.size + 2 ≤ W.heap.size
  len : l.length ≤ 5000
  few : acc.length ≤ n
  ids : ∀ e ∈ acc, e.id.length = 32 ∧ e.name.size ≤ 5000

theorem GtW.next {w : World} {z : Array Value} {kd : Int} {R : List En} {n : Nat} {l : List UInt8} {acc : List En} {W W' : World} {v' : Value} (T : GtW w z kd R n l acc W) (hl : l ≠ []) (hn : n < 65)
    (own : W'.ownsRow (w.heap.size + 2) 52 34 v' (acc.length + 1) (acc.flatMap enC ++ enC (Rm.enG l))) (bx : Bx W' (w.heap.size + 1) { noOb with kind := kd, ents := acc ++ [Rm.enG l] } v' nilV)
    (box : W'.heap[w.heap.size]? = some (.cells z 29)) (below : Below w.heap.size w W') (big : w.heap.size + 2 ≤ W'.heap.size) : GtW w z kd R (n + 1) ((Rm.restG l).drop 32) (acc ++ [Rm.enG l]) W' := by
  have hlen := T.len
  have hrl : (Rm.restG l).length ≤ l.length := by unfold Rm.restG; rw [List.length_drop]; omega
  refine ⟨?_, ⟨v', ?_, bx⟩, box, below, big, by rw [List.length_drop]; omega, by have := T.few; simp; omega, fun e he => ?_⟩
  · have h := T.wk
    rw [show 65 - n = (65 - (n + 1)) + 1 by omega] at h
    unfold Rm.treeG at h
    rw [if_neg hl] at h
    exact h
  · rw [List.flatMap_append, List.length_append]
    simpa using own
  · rcases List.mem_append.1 he with he | he
    · exact T.ids e he
    · rw [List.mem_singleton.1 he]
      refine ⟨Rm.idG_len _, ?_⟩
      show (ByteArray.mk (Rm.takeG (l.drop 1)).1.toArray).size ≤ 5000
      rw [Rm.mk_size]
      have := (Rm.takeG_len (l.drop 1)).1
      rw [List.length_drop] at this
      omega

set_option maxHeartbeats 8000000 in
set_option maxRecDepth 100000 in
theorem guess_tree (s : ByteArray) (w : World) (h0 : 0 < s.size) (hs : s.size ≤ 5000) (hm2 : (Rm.takeG (s.data.toList.drop 1)).2 ≠ 0) (hk : (s[0].toNat : Int) = 2) :
    Calls Tryd.prog 17 #[.string s] w (Gsd s.data.toList w) := by
  have hz28 := (zero_of_info zero28).1
  have HS0 := Lib.hid noF.size
  have HO0 := Lib.hid noF.one
  have HBN := Lib.hid built_none
  have HNF := Lib.hid noF
  generalize (obC noOb nilV nilV).toArray = z at hz28 HS0 HO0 HBN HNF
  have h0' : (0 : Int) < (s.size : Int) := by omega
  have h1' : (1 : Int) ≤ (s.size : Int) := by omega
  have HX1 := Lib.hid (show s.extract 1 s.size = ⟨(s.data.toList.drop 1).toArray⟩ from bytes_ext (by rw [extract_r]))
  have hl1 : (s.data.toList.drop 1).length ≤ 5000 := by rw [List.length_drop, size_list]; omega
  have hkv := kindV_at s h0
  have hb0 := s[0].toNat_lt
  have hwk : wrap64 (s[0].toNat : Int) = (s[0].toNat : Int) := by unfold wrap64; omega
  have hgf : Rm.guessF s.data.toList = (if (Rm.takeG (s.data.toList.drop 1)).2 = 0 then noOb else Rm.bodyG (Rm.kindV s.data.toList) (Rm.takeG (s.data.toList.drop 1)).1) := rfl
  have htl := Rm.takeG_len (s.data.toList.drop 1)
  have htk := fun W => retake_l (s.data.toList.drop 1) W (by omega)
  have ht5 : (Rm.takeG (s.data.toList.drop 1)).1.length ≤ 5000 := by omega
  generalize (⟨(s.data.toList.drop 1).toArray⟩ : ByteArray) = d1 at HX1 htk
  generalize Rm.takeG (s.data.toList.drop 1) = tm at *
  obtain ⟨t, m⟩ := tm
  have hm3 : ¬ m = 0 := hm2
  have ht6 : t.length ≤ 5000 := ht5
  obtain ⟨tb, rfl⟩ : ∃ tb : ByteArray, t = tb.data.toList := ⟨ByteArray.mk t.toArray, by simp⟩
  rw [size_list] at ht6
  have htk : ∀ W, Calls Tryd.prog 35 #[.string d1] W fun r w' => r = .returned (.tuple #[.string tb, .int .i64 m]) ∧ W = w' := htk
  have HTK := Lib.hid htk
  have HGF := Lib.hid hgf
  clear htk htl hl1 hgf hm2 ht5
  have HKF := Lib.hid (obC_F { noOb with kind := (s[0].toNat : Int) } nilV nilV rfl rfl rfl rfl)
  have HKB := Lib.hid (built_kd (s[0].toNat : Int))
  have HKS := Lib.hid HKF.out.size
  have HKO := Lib.hid HKF.out.one
  have B0 : Bx ((w.alloc (.cells z 29)).alloc (.cells (obC { noOb with kind := (s[0].toNat : Int) } nilV nilV).toArray 29)) (w.heap.size + 1) { noOb with kind := (s[0].toNat : Int) } nilV nilV := heap_alloc2_new _ _ _
  have E0 := Lib.hid (heap_alloc2_old w (.cells z 29) (.cells (obC { noOb with kind := (s[0].toNat : Int) } nilV nilV).toArray 29))
  have hB0 := ((Below.refl w.heap.size w).alloc (Nat.le_refl _) (.cells z 29)).alloc (by simp) (.cells (obC { noOb with kind := (s[0].toNat : Int) } nilV nilV).toArray 29)
  have c0 := B0.cell 0 _ HKF.out.c0
  have hmz : ((m : Int) == 0) = false := by rw [beq_eq_false_iff_ne]; omega
  have HGF2 := Lib.hid (show Rm.guessF s.data.toList = { noOb with kind := (s[0].toNat : Int), ents := Rm.treeG 65 tb.data.toList [] } by rw [HGF.out, if_neg (show ¬ ((tb.data.toList, m) : List UInt8 × Nat).2 = 0 from hm3), hkv, hk]; rfl)
  have hk1 : ((s[0].toNat : Int) == 1) = false := by rw [beq_eq_false_iff_ne]; omega
  have hk2 : ((s[0].toNat : Int) == 2) = true := by rw [beq_iff_eq]; exact hk
  have hwl : Rm.treeG 65 tb.data.toList [] = Rm.treeG 65 tb.data.toList [] := rfl
  obtain ⟨i0, hi, hz0, hz1, hz2⟩ := info_parts infoEn
  generalize hR : Rm.treeG 65 tb.data.toList [] = R at HGF2
  have HR := Lib.hid hR
  clear hm3 hk hkv HGF hwl hR
  go_enter Tryd.func17, Tryd.ntmps17
  go_wp2_with (first
    | (go_at_call 35; fail)
    | ((with_reducible refine bd_kd (x := .tmp 17) ?_ ?_ ?_ HKB.out ?_); rfl; rfl; rfl)
    | ((with_reducible refine st_ob2 (x := .tmp 3) (y := .tmp 18) (g := w.heap.size + 1) ?_ ?_ ?_ ?_ ?_ ?_ HKS.out HKO.out ?_); rfl; rfl; rfl; rfl; exact HS0.out; simp))
  rw [HX1.out]
  refine (HTK.out _).mono ?_
  rintro r w1 ⟨rfl, rfl⟩
  generalize ((w.alloc (.cells z 29)).alloc (.cells (obC { noOb with kind := (s[0].toNat : Int) } nilV nilV).toArray 29)) = W1 at B0 E0 hB0 c0 ⊢
  have hZ0 : w.heap.size + 2 ≤ W1.heap.size := by have := (Array.getElem?_eq_some_iff.1 B0).1; omega
  have T0 : GtW w z (s[0].toNat : Int) R 0 tb.data.toList [] W1 := ⟨HR.out, ⟨.slice none 0 0, World.ownsRow_nil _ _ _ _, B0⟩, E0.out, hB0, hZ0, by rw [size_list]; exact ht6, Nat.le_refl _, fun e he => by cases he⟩
  clear B0 E0 hB0 hZ0 HR
  go_wp2_with fail
  clear c0
  go_loopw [4, 6] (fun a4 a6 W => ∃ (n : Nat) (l : List UInt8) (lb : ByteArray) (acc : List En), a4 = .string lb ∧ a6 = .int .i64 n ∧ n ≤ 65 ∧ Hid (lb.data.toList = l) ∧ GtW w z (s[0].toNat : Int) R n l acc W) (fun _ a6 _ => 65 - (intOf a6).toNat)
  case atStart => exact ⟨0, _, tb, [], rfl, rfl, by decide, Lib.hid rfl, T0⟩
  case round =>
    obtain ⟨n, l, lb, acc, rfl, rfl, hn, HL, T⟩ := hrel
    clear T0
    by_cases h65 : n = 65
    · subst h65
      have hR : acc = R := T.wk
      subst hR
      obtain ⟨ev, O1, B1⟩ := T.row
      have E1 := Lib.hid T.box
      have hB1 := T.below
      have HT := Lib.hid T
      obtain ⟨pa, cap, rfl⟩ := own_form O1
      have HF := Lib.hid (obC_F { noOb with kind := (s[0].toNat : Int), ents := acc } (.slice pa acc.length cap) nilV rfl rfl rfl rfl)
      have HB := Lib.hid B1
      have hfew := T.few
      clear T B1
      go_wp2_with (first
        | ((with_reducible refine ld_obr (x := .tmp 3) ?_ ?_ ?_ HB.out.held HF.out.size ?_); rfl; rfl; rfl)
        | ((with_reducible refine st_obr (x := .tmp 2) (y := .tmp 138) ?_ ?_ ?_ ?_ E1.out HS0.out HF.out.size HF.out.one ?_); rfl; rfl; rfl; rfl))
      refine bodyPost_ret (results_cell_row (fn := Tryd.f17) (p := 2) (by rfl) _ _ w.heap.size _ _ _ _ (by rfl) (setRow_heap _ _ _ _ _ _ E1.out) Tryd.underlying29 rfl (obsize HF.out.size)) rfl ⟨_, pa, none, cap, 0, rfl, ?_, below_setRow hB1 (Nat.le_refl _) _, fun a ha => by rcases ha with ha | ha; exact own_new O1 (by omega) a ha; cases ha⟩
      rw [HGF2.out]
      have hown : (wr.setRow w.heap.size (obC { noOb with kind := (s[0].toNat : Int), ents := acc } (.slice pa acc.length cap) nilV).toArray).ownsRow (w.heap.size + 2) 52 34 (.slice pa acc.length cap) acc.length (acc.flatMap enC) := own_keep O1 (b := w.heap.size) ⟨rfl, rfl, rfl, by rw [setRow_size]; exact Nat.le_refl _, fun k _ hk => setRow_other _ _ _ _ (by simpa using hk)⟩ (by omega)
      exact ⟨HF.out, own_rows enC 34 hown (fun e he => by rw [enC_length, (HT.out.ids e he).1]), RowsAt.nil _ _, fun e he => (HT.out.ids e he).1, fun e he => by have := (HT.out.ids e he).2; unfold maxLen; omega, (fun e he => by cases he), (show acc.length ≤ maxLen by unfold maxLen; omega), Nat.zero_le _, (show (0 : Nat) ≤ maxLen from Nat.zero_le _), (show (0 : Nat) < 4294967296 by decide)⟩
    by_cases hl0 : l = []
    · subst hl0
      have hn65 : n < 65 := by omega
      have hR : acc = R := by
        have := T.wk
        rw [show 65 - n = (65 - (n + 1)) + 1 by omega] at this
        exact this
      subst hR
      have hlb : lb = ByteArray.empty := bytes_ext (by rw [HL.out]; rfl)
      subst hlb
      obtain ⟨ev, O1, B1⟩ := T.row
      have E1 := Lib.hid T.box
      have hB1 := T.below
      have HT := Lib.hid T
      obtain ⟨pa, cap, rfl⟩ := own_form O1
      have HF := Lib.hid (obC_F { noOb with kind := (s[0].toNat : Int), ents := acc } (.slice pa acc.length cap) nilV rfl rfl rfl rfl)
      have HB := Lib.hid B1
      have hfew := T.few
      clear T B1
      go_wp2_with (first
        | ((with_reducible refine ld_obr (x := .tmp 3) ?_ ?_ ?_ HB.out.held HF.out.size ?_); rfl; rfl; rfl)
        | ((with_reducible refine st_obr (x := .tmp 2) (y := .tmp 138) ?_ ?_ ?_ ?_ E1.out HS0.out HF.out.size HF.out.one ?_); rfl; rfl; rfl; rfl))
      refine bodyPost_ret (results_cell_row (fn := Tryd.f17) (p := 2) (by rfl) _ _ w.heap.size _ _ _ _ (by rfl) (setRow_heap _ _ _ _ _ _ E1.out) Tryd.underlying29 rfl (obsize HF.out.size)) rfl ⟨_, pa, none, cap, 0, rfl, ?_, below_setRow hB1 (Nat.le_refl _) _, fun a ha => by rcases ha with ha | ha; exact own_new O1 (by omega) a ha; cases ha⟩
      rw [HGF2.out]
      have hown : (wr.setRow w.heap.size (obC { noOb with kind := (s[0].toNat : Int), ents := acc } (.slice pa acc.length cap) nilV).toArray).ownsRow (w.heap.size + 2) 52 34 (.slice pa acc.length cap) acc.length (acc.flatMap enC) := own_keep O1 (b := w.heap.size) ⟨rfl, rfl, rfl, by rw [setRow_size]; exact Nat.le_refl _, fun k _ hk => setRow_other _ _ _ _ (by simpa using hk)⟩ (by omega)
      exact ⟨HF.out, own_rows enC 34 hown (fun e he => by rw [enC_length, (HT.out.ids e he).1]), RowsAt.nil _ _, fun e he => (HT.out.ids e he).1, fun e he => by have := (HT.out.ids e he).2; unfold maxLen; omega, (fun e he => by cases he), (show acc.length ≤ maxLen by unfold maxLen; omega), Nat.zero_le _, (show (0 : Nat) ≤ maxLen from Nat.zero_le _), (show (0 : Nat) < 4294967296 by decide)⟩
    have hn65 : n < 65 := by omega
    have hlen := T.len
    have hfew := T.few
    have hlbz : lb.size = l.length := by rw [← size_list, HL.out]
    have hlp := List.length_pos_iff.2 hl0
    have hne2 : ¬ lb = ByteArray.empty := fun e => hl0 (by rw [← HL.out, e]; rfl)
    have hne : (!lb.toList.isEmpty) = true := by rw [ByteArray.toList_eq, HL.out]; simpa using hl0
    have h0l : 0 < lb.size := by omega
    have h0n : (0 : Int) < (lb.size : Int) := by omega
    have h1n : (1 : Int) ≤ (lb.size : Int) := by omega
    have hlb : lb = ⟨l.toArray⟩ := bytes_ext (by rw [HL.out])
    have HX2 := Lib.hid (show lb.extract 1 lb.size = ⟨(l.drop 1).toArray⟩ from bytes_ext (by rw [extract_r, HL.out]))
    have htk2 := fun W => retake_l (l.drop 1) W (by rw [List.length_drop]; omega)
    have htl := Rm.takeG_len (l.drop 1)
    rw [List.length_drop] at htl
    have hbe : ∀ W, Calls Tryd.prog 36 #[.string lb, .int .i64 (1 + ((Rm.takeG (l.drop 1)).2 : Int))] W fun r w' => r = .returned (.string ⟨(Rm.restG l).toArray⟩) ∧ W = w' := fun W => by
      have h := behind_l l (1 + (Rm.takeG (l.drop 1)).2) W (by omega) (by omega)
      rw [← hlb, show ((1 + (Rm.takeG (l.drop 1)).2 : Nat) : Int) = 1 + ((Rm.takeG (l.drop 1)).2 : Int) by omega] at h
      exact h
    have hrl : (Rm.restG l).length ≤ 5000 := by unfold Rm.restG; rw [List.length_drop]; omega
    have hid := fun W => refid_l (Rm.restG l) W (by omega)
    have hb3 := fun W => behind_32 (Rm.restG l) W (by omega)
    have hkb := kindV_at lb h0l
    rw [HL.out] at hkb
    have hen : Rm.enG l = ⟨⟨(Rm.takeG (l.drop 1)).1.toArray⟩, (lb[0].toNat : Int), Rm.idG (Rm.restG l)⟩ := by rw [← hkb]; rfl
    have hil := Rm.idG_len (Rm.restG l)
    have hnx : ((⟨((Rm.restG l).drop 32).toArray⟩ : ByteArray)).data.toList = (Rm.restG l).drop 32 := by simp
    have hb1 := lb[0].toNat_lt
    have hwk2 : wrap64 (lb[0].toNat : Int) = (lb[0].toNat : Int) := by unfold wrap64; omega
    have HW3 := Lib.hid (wrap_small lb[0].toNat hb1)
    have hm9 : (Rm.takeG (l.drop 1)).2 ≤ 5000 := by omega
    generalize (⟨(l.drop 1).toArray⟩ : ByteArray) = d2 at HX2 htk2
    generalize (⟨((Rm.restG l).drop 32).toArray⟩ : ByteArray) = tn at hb3 hnx
    generalize (⟨(Rm.restG l).toArray⟩ : ByteArray) = rb at hbe hid hb3
    generalize Rm.idG (Rm.restG l) = idl at hen hid hil
    generalize Rm.takeG (l.drop 1) = tm2 at hen htk2 htl hbe hm9
    obtain ⟨nm, m2⟩ := tm2
    obtain ⟨nb, rfl⟩ : ∃ nb : ByteArray, nm = nb.data.toList := ⟨⟨nm.toArray⟩, by simp⟩
    have HEN := Lib.hid (show Rm.enG l = ⟨nb, (lb[0].toNat : Int), idl⟩ from hen)
    have HTK2 := Lib.hid (fun W => show Calls Tryd.prog 35 #[.string d2] W fun r w' => r = .returned (.tuple #[.string nb, .int .i64 m2]) ∧ W = w' from htk2 W)
    have HBE := Lib.hid (fun W => show Calls Tryd.prog 36 #[.string lb, .int .i64 (1 + (m2 : Int))] W fun r w' => r = .returned (.string rb) ∧ W = w' from hbe W)
    have HID := Lib.hid hid
    have HB3 := Lib.hid hb3
    have HIL := Lib.hid hil
    have HNX := Lib.hid hnx
    have HBU := Lib.hid (built_en2 nb (lb[0].toNat : Int) idl hil)
    have hm8 : m2 ≤ 5000 := hm9
    have hlz : lb.size ≤ 5000 := by omega
    have hw1 : wrap64 (1 + (m2 : Int)) = 1 + (m2 : Int) := by unfold wrap64; omega
    clear hen htk2 htl hbe hid hb3 hil hnx hkb hrl hlb hlp hm9 htk hlbz
    obtain ⟨ev, O1, B1⟩ := T.row
    obtain ⟨pa, cap, rfl⟩ := own_form O1
    have E1 := Lib.hid T.box
    have hB1 := T.below
    have hbg1 := T.big
    have HT := Lib.hid T
    have HFA := Lib.hid (obC_F { noOb with kind := (s[0].toNat : Int), ents := acc } (.slice pa acc.length cap) nilV rfl rfl rfl rfl)
    clear T
    go_wp2_with (first
      | (go_at_call 35; fail))
    rw [HX2.out]
    refine (HTK2.out _).mono ?_
    rintro r w1 ⟨rfl, rfl⟩
    go_wp2_with (first
      | (go_at_call 36; fail))
    refine (HBE.out _).mono ?_
    rintro r w1 ⟨rfl, rfl⟩
    go_wp2_with fail
    have O0 : wr.drew.ownsRow (w.heap.size + 2) 52 34 (.slice pa acc.length cap) acc.length (acc.flatMap enC) := O1
    have B0 : Bx wr.drew (w.heap.size + 1) { noOb with kind := (s[0].toNat : Int), ents := acc } (.slice pa acc.length cap) nilV := B1
    have E0 := Lib.hid (show wr.drew.heap[w.heap.size]? = some (.cells z 29) from E1.out)
    have hB0 := hB1.drew
    have hbg0 : w.heap.size + 2 ≤ wr.drew.heap.size := hbg1
    clear O1 B1 E1 hB1 hbg1
    refine wp_region_noPanic ?_
    refine wp_region_held_drew (S := fun _ => True) (by kernel_rfl) trivial (fun _ => ?_)
    generalize wr.drew = wd at O0 B0 E0 hB0 hbg0 ⊢
    refine wpAnyH_take (i := 0) (v := ?_) rfl (by kernel_rfl) (by kernel_rfl) (by kernel_rfl) (fun _ _ _ h => h) (Or.inl ⟨by rfl, ?_⟩) trivial ?_
    rotate_left
    · intro W hS; go_simp; try rfl
    try simp only [Act.put, List.getElem_toArray, List.getElem_cons_zero, List.getElem_cons_succ, List.setIfInBounds_toArray, List.set_cons_zero, List.set_cons_succ]
    refine wpAnyH_take (i := 2) (v := ?_) rfl (by kernel_rfl) (by kernel_rfl) (by kernel_rfl) (fun _ _ _ h => h) (Or.inl ⟨by rfl, ?_⟩) trivial ?_
    rotate_left
    · intro W hS; go_simp; try rfl
    try simp only [Act.put, List.getElem_toArray, List.getElem_cons_zero, List.getElem_cons_succ, List.setIfInBounds_toArray, List.set_cons_zero, List.set_cons_succ]
    refine wpAnyH_take (i := 3) (v := ?_) rfl (by kernel_rfl) (by kernel_rfl) (by kernel_rfl) (fun _ _ _ h => h) (Or.inl ⟨by rfl, ?_⟩) trivial ?_
    rotate_left
    · intro W hS; go_simp; try rfl
    try simp only [Act.put, List.getElem_toArray, List.getElem_cons_zero, List.getElem_cons_succ, List.setIfInBounds_toArray, List.set_cons_zero, List.set_cons_succ]
    refine wpAnyH_take (i := 4) (v := ?_) rfl (by kernel_rfl) (by kernel_rfl) (by kernel_rfl) (fun _ _ _ h => h) (Or.inl ⟨by rfl, ?_⟩) trivial ?_
    rotate_left
    · intro W hS; go_simp; try rfl
    try simp only [Act.put, List.getElem_toArray, List.getElem_cons_zero, List.getElem_cons_succ, List.setIfInBounds_toArray, List.set_cons_zero, List.set_cons_succ]
    try rw [HW3.out]
    refine wpAnyH_take (i := 5) (v := ?_) rfl (by kernel_rfl) (by kernel_rfl) (by kernel_rfl) (fun _ _ _ h => h) (Or.inl ⟨by rfl, ?_⟩) trivial ?_
    rotate_left
    · intro W hS; go_simp; try rfl
    try simp only [Act.put, List.getElem_toArray, List.getElem_cons_zero, List.getElem_cons_succ, List.setIfInBounds_toArray, List.set_cons_zero, List.set_cons_succ]
    refine wpAnyH_take (i := 6) (v := ?_) rfl (by kernel_rfl) (by kernel_rfl) (by kernel_rfl) (fun _ _ _ h => h) (Or.inl ⟨by rfl, ?_⟩) trivial ?_
    rotate_left
    · intro W hS; go_simp; try rfl
    try simp only [Act.put, List.getElem_toArray, List.getElem_cons_zero, List.getElem_cons_succ, List.setIfInBounds_toArray, List.set_cons_zero, List.set_cons_succ]
    have c2 := B0.cell 2 _ HFA.out.c2
    have f2 := B0.fr 2
    refine wpAnyH_ready (rs := [1, 7]) (by kernel_rfl) (by simp) ?_
    refine AllReadyH.cons rfl (fun K hK => ?_) ?_
    rotate_left
    · refine AllReadyH.cons rfl (fun K hK => ?_) AllReadyH.nil
      go_simp
      refine (HID.out _).mono ?_
      rintro r w2 ⟨rfl, hx2⟩
      go_wp2_with fail
      refine hK.out _ _ trivial (fun _ => ?_)
      clear hK K
      try simp only [Act.put, List.getElem_toArray, List.getElem_cons_zero, List.getElem_cons_succ, List.setIfInBounds_toArray, List.set_cons_zero, List.set_cons_succ]
      have B2 : Bx w2 (w.heap.size + 1) { noOb with kind := (s[0].toNat : Int), ents := acc } (.slice pa acc.length cap) nilV := B0.below hx2
      have E2 := Lib.hid ((hx2.block w.heap.size (by omega)).trans E0.out)
      have hBl2 := hB0.trans (hx2.mono hB0.size)
      have hbg2 := Nat.le_trans hbg0 hx2.size
      have O2 : w2.ownsRow (w.heap.size + 2) 52 34 (.slice pa acc.length cap) acc.length (acc.flatMap enC) := own_below O0 hx2
      clear B0 E0 hB0 hbg0 O0 hx2
      clear c2 f2
      refine wpAnyH_take (i := 8) rfl (by kernel_rfl) (by kernel_rfl) (by kernel_rfl) (fun _ _ _ h => h) (yieldsIf_en (by rfl) rfl rfl rfl rfl HBU.out) trivial ?_
      try simp only [Act.put, List.getElem_toArray, List.getElem_cons_zero, List.getElem_cons_succ, List.setIfInBounds_toArray, List.set_cons_zero, List.set_cons_succ]
      have c2b := B2.cell 2 _ HFA.out.c2
      have f2b := B2.fr 2
      refine wpAnyH_ready (rs := [1, 9]) (by kernel_rfl) (by simp) ?_
      refine AllReadyH.cons rfl (fun K hK => ?_) ?_
      rotate_left
      · refine AllReadyH.cons rfl (fun K hK => ?_) AllReadyH.nil
        rw [if_pos (by rfl)]
        refine wp_bs_en rfl rfl HIL.out ?_
        refine hK.out _ _ trivial (fun _ => ?_)
        clear hK K
        try simp only [Act.put, List.getElem_toArray, List.getElem_cons_zero, List.getElem_cons_succ, List.setIfInBounds_toArray, List.set_cons_zero, List.set_cons_succ]
        have BA : Bx (w2.alloc (.cells (enC ⟨nb, (lb[0].toNat : Int), idl⟩).toArray 52)) (w.heap.size + 1) { noOb with kind := (s[0].toNat : Int), ents := acc } (.slice pa acc.length cap) nilV := held_alloc B2
        have c2c := BA.cell 2 _ HFA.out.c2
        have f2c := BA.fr 2
        refine wpAnyH_ready (rs := [1]) (by kernel_rfl) (by simp) ?_
        refine AllReadyH.cons rfl (fun K hK => ?_) AllReadyH.nil
        go_simp
        refine hK.out _ _ trivial (fun _ => ?_)
        clear hK K
        try simp only [Act.put, List.getElem_toArray, List.getElem_cons_zero, List.getElem_cons_succ, List.setIfInBounds_toArray, List.set_cons_zero, List.set_cons_succ]
        clear c2c f2c BA
        refine wpAnyH_ready (rs := [10]) (by kernel_rfl) (by simp) ?_
        refine AllReadyH.cons rfl (fun K hK => ?_) AllReadyH.nil
        rw [if_pos (by rfl)]
        refine wp_append_own _ _ _ 23 rfl (w.heap.size + 2) 52 i0 (.agg (enC ⟨⟨#[]⟩, 0, zId⟩).toArray) 34 56 Tryd.underlying23 hi hz0 hz1 hz2 (by decide) (by decide) _ _ _ rfl (World.ownsRow.alloc O2 _) ⟨_, 0, none⟩ 1 1 (enC ⟨nb, (lb[0].toNat : Int), idl⟩) rfl (by rw [enC_length]; exact congrArg (· + 2) HIL.out) (news_at (heap_alloc_last _ _)) (enC_one _) (by unfold maxLen; omega) (by omega) (by have := hbg2; simp; omega) ?_
        intro v' w5 hown' hgrow _
        refine hK.out _ _ trivial (fun _ => ?_)
        clear hK K
        try simp only [Act.put, List.getElem_toArray, List.getElem_cons_zero, List.getElem_cons_succ, List.setIfInBounds_toArray, List.set_cons_zero, List.set_cons_succ]
        have B5 : Bx w5 (w.heap.size + 1) { noOb with kind := (s[0].toNat : Int), ents := acc } (.slice pa acc.length cap) nilV := held_own (held_alloc B2) (World.ownsRow.alloc O2 _) hgrow (by omega)
        have E5 := held_own (held_alloc E2.out) (World.ownsRow.alloc O2 _) hgrow (by omega)
        have G5 : Below w.heap.size w w5 := ((hBl2.alloc hBl2.size _).grown hgrow (by have := hBl2.size; simp; omega) (fun k hk => by have := (O2.lt k hk).1; omega))
        have S5 : w.heap.size + 2 ≤ w5.heap.size := by have := hgrow.size; simp at this; omega
        have c5 := B5.cell 2 _ HFA.out.c2
        have f5 := B5.fr 2
        refine wpAnyH_take (i := 11) (v := ?_) rfl (by kernel_rfl) (by kernel_rfl) (by kernel_rfl) (fun _ _ _ h => h) (Or.inl ⟨by rfl, ?_⟩) trivial ?_
        rotate_left
        · intro W hS; go_simp; try rfl
        try simp only [Act.put, List.getElem_toArray, List.getElem_cons_zero, List.getElem_cons_succ, List.setIfInBounds_toArray, List.set_cons_zero, List.set_cons_succ]
        obtain ⟨pa', cap', rfl⟩ := own_form hown'
        refine wpAnyH_ready (rs := [12]) (by kernel_rfl) (by simp) ?_
        refine AllReadyH.cons rfl (fun K hK => ?_) AllReadyH.nil
        go_simp
        refine hK.out _ _ trivial (fun _ => ?_)
        clear hK K
        try simp only [Act.put, List.getElem_toArray, List.getElem_cons_zero, List.getElem_cons_succ, List.setIfInBounds_toArray, List.set_cons_zero, List.set_cons_succ]
        refine wpAnyH_done (by kernel_rfl) ?_ _
        refine NoPanic.normal ?_
        have B6 := B5.ents (.slice pa' (acc.length + 1) cap') (acc ++ [Rm.enG l])
        have O6 := own_keep hown' (b := w.heap.size + 1) (grown_set w5 (w.heap.size + 1) 2 (.slice pa' (acc.length + 1) cap')) (by omega)
        rw [← HEN.out] at O6
        have E6 := (heap_setCell_other w5 ⟨w.heap.size + 1, 2, none⟩ w.heap.size (.slice pa' (acc.length + 1) cap') (by simp)).trans E5
        have G6 := G5.setCell (p := ⟨w.heap.size + 1, 2, none⟩) (by simp) (.slice pa' (acc.length + 1) cap')
        have S6 : w.heap.size + 2 ≤ (w5.setCell ⟨w.heap.size + 1, 2, none⟩ (.slice pa' (acc.length + 1) cap')).heap.size := by simp [World.setCell]; omega
        have T6 := HT.out.next hl0 hn65 O6 B6 E6 G6 S6
        generalize w5.setCell ⟨w.heap.size + 1, 2, none⟩ (.slice pa' (acc.length + 1) cap') = w6 at T6 ⊢
        clear B6 O6 E6 G6 S6 hown' hgrow B5 E5 G5 S5 c5 f5 B2 O2 E2 hBl2 hbg2
        go_wp2_with fail
        refine (HB3.out _).mono ?_
        rintro r w7 ⟨rfl, rfl⟩
        go_wp2
        go_roundw
        case rel => exact ⟨n + 1, _, tn, _, rfl, by go_num, by omega, HNX, T6⟩
        case measure => simp [intOf]; omega
      go_simp
      refine hK.out _ _ trivial (fun _ => ?_)
      clear hK K
      try simp only [Act.put, List.getElem_toArray, List.getElem_cons_zero, List.getElem_cons_succ, List.setIfInBounds_toArray, List.set_cons_zero, List.set_cons_succ]
      clear c2b f2b
      refine wpAnyH_ready (rs := [9]) (by kernel_rfl) (by simp) ?_
      refine AllReadyH.cons rfl (fun K hK => ?_) AllReadyH.nil
      rw [if_pos (by rfl)]
      refine wp_bs_en rfl rfl HIL.out ?_
      refine hK.out _ _ trivial (fun _ => ?_)
      clear hK K
      try simp only [Act.put, List.getElem_toArray, List.getElem_cons_zero, List.getElem_cons_succ, List.setIfInBounds_toArray, List.set_cons_zero, List.set_cons_succ]
      refine wpAnyH_ready (rs := [10]) (by kernel_rfl) (by simp) ?_
      refine AllReadyH.cons rfl (fun K hK => ?_) AllReadyH.nil
      rw [if_pos (by rfl)]
      refine wp_append_own _ _ _ 23 rfl (w.heap.size + 2) 52 i0 (.agg (enC ⟨⟨#[]⟩, 0, zId⟩).toArray) 34 56 Tryd.underlying23 hi hz0 hz1 hz2 (by decide) (by decide) _ _ _ rfl (World.ownsRow.alloc O2 _) ⟨_, 0, none⟩ 1 1 (enC ⟨nb, (lb[0].toNat : Int), idl⟩) rfl (by rw [enC_length]; exact congrArg (· + 2) HIL.out) (news_at (heap_alloc_last _ _)) (enC_one _) (by unfold maxLen; omega) (by omega) (by have := hbg2; simp; omega) ?_
      intro v' w5 hown' hgrow _
      refine hK.out _ _ trivial (fun _ => ?_)
      clear hK K
      try simp only [Act.put, List.getElem_toArray, List.getElem_cons_zero, List.getElem_cons_succ, List.setIfInBounds_toArray, List.set_cons_zero, List.set_cons_succ]
      have B5 : Bx w5 (w.heap.size + 1) { noOb with kind := (s[0].toNat : Int), ents := acc } (.slice pa acc.length cap) nilV := held_own (held_alloc B2) (World.ownsRow.alloc O2 _) hgrow (by omega)
      have E5 := held_own (held_alloc E2.out) (World.ownsRow.alloc O2 _) hgrow (by omega)
      have G5 : Below w.heap.size w w5 := ((hBl2.alloc hBl2.size _).grown hgrow (by have := hBl2.size; simp; omega) (fun k hk => by have := (O2.lt k hk).1; omega))
      have S5 : w.heap.size + 2 ≤ w5.heap.size := by have := hgrow.size; simp at this; omega
      have c5 := B5.cell 2 _ HFA.out.c2
      have f5 := B5.fr 2
      refine wpAnyH_take (i := 11) (v := ?_) rfl (by kernel_rfl) (by kernel_rfl) (by kernel_rfl) (fun _ _ _ h => h) (Or.inl ⟨by rfl, ?_⟩) trivial ?_
      rotate_left
      · intro W hS; go_simp; try rfl
      try simp only [Act.put, List.getElem_toArray, List.getElem_cons_zero, List.getElem_cons_succ, List.setIfInBounds_toArray, List.set_cons_zero, List.set_cons_succ]
      obtain ⟨pa', cap', rfl⟩ := own_form hown'
      refine wpAnyH_ready (rs := [12]) (by kernel_rfl) (by simp) ?_
      refine AllReadyH.cons rfl (fun K hK => ?_) AllReadyH.nil
      go_simp
      refine hK.out _ _ trivial (fun _ => ?_)
      clear hK K
      try simp only [Act.put, List.getElem_toArray, List.getElem_cons_zero, List.getElem_cons_succ, List.setIfInBounds_toArray, List.set_cons_zero, List.set_cons_succ]
      refine wpAnyH_done (by kernel_rfl) ?_ _
      refine NoPanic.normal ?_
      have B6 := B5.ents (.slice pa' (acc.length + 1) cap') (acc ++ [Rm.enG l])
      have O6 := own_keep hown' (b := w.heap.size + 1) (grown_set w5 (w.heap.size + 1) 2 (.slice pa' (acc.length + 1) cap')) (by omega)
      rw [← HEN.out] at O6
      have E6 := (heap_setCell_other w5 ⟨w.heap.size + 1, 2, none⟩ w.heap.size (.slice pa' (acc.length + 1) cap') (by simp)).trans E5
      have G6 := G5.setCell (p := ⟨w.heap.size + 1, 2, none⟩) (by simp) (.slice pa' (acc.length + 1) cap')
      have S6 : w.heap.size + 2 ≤ (w5.setCell ⟨w.heap.size + 1, 2, none⟩ (.slice pa' (acc.length + 1) cap')).heap.size := by simp [World.setCell]; omega
      have T6 := HT.out.next hl0 hn65 O6 B6 E6 G6 S6
      generalize w5.setCell ⟨w.heap.size + 1, 2, none⟩ (.slice pa' (acc.length + 1) cap') = w6 at T6 ⊢
      clear B6 O6 E6 G6 S6 hown' hgrow B5 E5 G5 S5 c5 f5 B2 O2 E2 hBl2 hbg2
      go_wp2_with fail
      refine (HB3.out _).mono ?_
      rintro r w7 ⟨rfl, rfl⟩
      go_wp2
      go_roundw
      case rel => exact ⟨n + 1, _, tn, _, rfl, by go_num, by omega, HNX, T6⟩
      case measure => simp [intOf]; omega
    go_simp
    refine hK.out _ _ trivial (fun _ => ?_)
    clear hK K
    try simp only [Act.put, List.getElem_toArray, List.getElem_cons_zero, List.getElem_cons_succ, List.setIfInBounds_toArray, List.set_cons_zero, List.set_cons_succ]
    clear c2 f2
    refine wpAnyH_ready (rs := [7]) (by kernel_rfl) (by simp) ?_
    refine AllReadyH.cons rfl (fun K hK => ?_) AllReadyH.nil
    go_simp
    refine (HID.out _).mono ?_
    rintro r w2 ⟨rfl, hx2⟩
    go_wp2_with fail
    refine hK.out _ _ trivial (fun _ => ?_)
    clear hK K
    try simp only [Act.put, List.getElem_toArray, List.getElem_cons_zero, List.getElem_cons_succ, List.setIfInBounds_toArray, List.set_cons_zero, List.set_cons_succ]
    have B2 : Bx w2 (w.heap.size + 1) { noOb with kind := (s[0].toNat : Int), ents := acc } (.slice pa acc.length cap) nilV := B0.below hx2
    have E2 := Lib.hid ((hx2.block w.heap.size (by omega)).trans E0.out)
    have hBl2 := hB0.trans (hx2.mono hB0.size)
    have hbg2 := Nat.le_trans hbg0 hx2.size
    have O2 : w2.ownsRow (w.heap.size + 2) 52 34 (.slice pa acc.length cap) acc.length (acc.flatMap enC) := own_below O0 hx2
    clear B0 E0 hB0 hbg0 O0 hx2
    refine wpAnyH_take (i := 8) rfl (by kernel_rfl) (by kernel_rfl) (by kernel_rfl) (fun _ _ _ h => h) (yieldsIf_en (by rfl) rfl rfl rfl rfl HBU.out) trivial ?_
    try simp only [Act.put, List.getElem_toArray, List.getElem_cons_zero, List.getElem_cons_succ, List.setIfInBounds_toArray, List.set_cons_zero, List.set_cons_succ]
    refine wpAnyH_ready (rs := [9]) (by kernel_rfl) (by simp) ?_
    refine AllReadyH.cons rfl (fun K hK => ?_) AllReadyH.nil
    rw [if_pos (by rfl)]
    refine wp_bs_en rfl rfl HIL.out ?_
    refine hK.out _ _ trivial (fun _ => ?_)
    clear hK K
    try simp only [Act.put, List.getElem_toArray, List.getElem_cons_zero, List.getElem_cons_succ, List.setIfInBounds_toArray, List.set_cons_zero, List.set_cons_succ]
    refine wpAnyH_ready (rs := [10]) (by kernel_rfl) (by simp) ?_
    refine AllReadyH.cons rfl (fun K hK => ?_) AllReadyH.nil
    rw [if_pos (by rfl)]
    refine wp_append_own _ _ _ 23 rfl (w.heap.size + 2) 52 i0 (.agg (enC ⟨⟨#[]⟩, 0, zId⟩).toArray) 34 56 Tryd.underlying23 hi hz0 hz1 hz2 (by decide) (by decide) _ _ _ rfl (World.ownsRow.alloc O2 _) ⟨_, 0, none⟩ 1 1 (enC ⟨nb, (lb[0].toNat : Int), idl⟩) rfl (by rw [enC_length]; exact congrArg (· + 2) HIL.out) (news_at (heap_alloc_last _ _)) (enC_one _) (by unfold maxLen; omega) (by omega) (by have := hbg2; simp; omega) ?_
    intro v' w5 hown' hgrow _
    refine hK.out _ _ trivial (fun _ => ?_)
    clear hK K
    try simp only [Act.put, List.getElem_toArray, List.getElem_cons_zero, List.getElem_cons_succ, List.setIfInBounds_toArray, List.set_cons_zero, List.set_cons_succ]
    have B5 : Bx w5 (w.heap.size + 1) { noOb with kind := (s[0].toNat : Int), ents := acc } (.slice pa acc.length cap) nilV := held_own (held_alloc B2) (World.ownsRow.alloc O2 _) hgrow (by omega)
    have E5 := held_own (held_alloc E2.out) (World.ownsRow.alloc O2 _) hgrow (by omega)
    have G5 : Below w.heap.size w w5 := ((hBl2.alloc hBl2.size _).grown hgrow (by have := hBl2.size; simp; omega) (fun k hk => by have := (O2.lt k hk).1; omega))
    have S5 : w.heap.size + 2 ≤ w5.heap.size := by have := hgrow.size; simp at this; omega
    have c5 := B5.cell 2 _ HFA.out.c2
    have f5 := B5.fr 2
    refine wpAnyH_take (i := 11) (v := ?_) rfl (by kernel_rfl) (by kernel_rfl) (by kernel_rfl) (fun _ _ _ h => h) (Or.inl ⟨by rfl, ?_⟩) trivial ?_
    rotate_left
    · intro W hS; go_simp; try rfl
    try simp only [Act.put, List.getElem_toArray, List.getElem_cons_zero, List.getElem_cons_succ, List.setIfInBounds_toArray, List.set_cons_zero, List.set_cons_succ]
    obtain ⟨pa', cap', rfl⟩ := own_form hown'
    refine wpAnyH_ready (rs := [12]) (by kernel_rfl) (by simp) ?_
    refine AllReadyH.cons rfl (fun K hK => ?_) AllReadyH.nil
    go_simp
    refine hK.out _ _ trivial (fun _ => ?_)
    clear hK K
    try simp only [Act.put, List.getElem_toArray, List.getElem_cons_zero, List.getElem_cons_succ, List.setIfInBounds_toArray, List.set_cons_zero, List.set_cons_succ]
    refine wpAnyH_done (by kernel_rfl) ?_ _
    refine NoPanic.normal ?_
    have B6 := B5.ents (.slice pa' (acc.length + 1) cap') (acc ++ [Rm.enG l])
    have O6 := own_keep hown' (b := w.heap.size + 1) (grown_set w5 (w.heap.size + 1) 2 (.slice pa' (acc.length + 1) cap')) (by omega)
    rw [← HEN.out] at O6
    have E6 := (heap_setCell_other w5 ⟨w.heap.size + 1, 2, none⟩ w.heap.size (.slice pa' (acc.length + 1) cap') (by simp)).trans E5
    have G6 := G5.setCell (p := ⟨w.heap.size + 1, 2, none⟩) (by simp) (.slice pa' (acc.length + 1) cap')
    have S6 : w.heap.size + 2 ≤ (w5.setCell ⟨w.heap.size + 1, 2, none⟩ (.slice pa' (acc.length + 1) cap')).heap.size := by simp [World.setCell]; omega
    have T6 := HT.out.next hl0 hn65 O6 B6 E6 G6 S6
    generalize w5.setCell ⟨w.heap.size + 1, 2, none⟩ (.slice pa' (acc.length + 1) cap') = w6 at T6 ⊢
    clear B6 O6 E6 G6 S6 hown' hgrow B5 E5 G5 S5 c5 f5 B2 O2 E2 hBl2 hbg2
    go_wp2_with fail
    refine (HB3.out _).mono ?_
    rintro r w7 ⟨rfl, rfl⟩
    go_wp2
    go_roundw
    case rel => exact ⟨n + 1, _, tn, _, rfl, by go_num, by omega, HNX, T6⟩
    case measure => simp [intOf]; omega

end Go.Proofs.YtcicfjfbnbkkcaaDoor
