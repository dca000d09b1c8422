/-
  WALKS OF LAYER 4: the document's guess (knapsackref04.guess): a tree. WALKS OF LAYER 4: the document's guess (knapsackre
-/
import Derived.Test.YtkcjhkfelaplkaaGreatDoorQd
import Derived.Test.YtkcjhkfelaplkaaGreatDoorQa
set_option linter.unusedVariables false
set_option linter.unusedSimpArgs false
set_option maxHeartbeats 8000000
set_option maxRecDepth 100000
section
namespace Go.Proofs.YtkcjhkfelaplkaaGreatDoor
open Go.RowKit
theorem wrap_small (n : Nat) (h : n < 2 ^ 8) : IntKind.i64.wrap (n : Int) = (n : Int) := by rw [IntKind.wrap_i64]; omega
theorem yieldsIf_en {ops : Array Oper} {S : World → Prop} {op : Oper} {a : Act} {x y z : Operand} {n : ByteArray} {k : Int} {l : List UInt8} {c : Array Value} (hw : Region.wanted op (yielded ops a.tmps) = true) (ho : op.op = .build 178 #[(1, y), (0, x), (2, z)])
  (hx : a.eval x = .string n) (hy : a.eval y = .int .i64 k) (hz : a.eval z = .agg (idC l).toArray) (hb : Tryz.prog.built 178 [(1, .int .i64 k), (0, .string n), (2, .agg (idC l).toArray)] = some c) : YieldsIf Tryz.prog ops S op (.agg c) a :=
 .inl ⟨hw, fun W _ => by
  unfold execOp
  simp only [ho, List.map_toArray, List.map_cons, List.map_nil, hx, hy, hz, Sem.run_bind, run_build W _ _ _ hb, Result.andThen_ok, Sem.run_pure]⟩
theorem built_en2 (n : ByteArray) (k : Int) (l : List UInt8) (h : l.length = 32) : Tryz.prog.built 178 [(1, .int .i64 k), (0, .string n), (2, .agg (idC l).toArray)] = some (enC ⟨n, k, l⟩).toArray := by
 obtain ⟨x0, x1, x2, x3, x4, x5, x6, x7, x8, x9, x10, x11, x12, x13, x14, x15, x16, x17, x18, x19, x20, x21, x22, x23, x24, x25, x26, x27, x28, x29, x30, x31, rfl⟩ := len32 h
 kernel_rfl
theorem wp_bs_en {op : Oper} {a : Act} {w : World} {K : Act → World → Prop} {Q : Exit → Act → World → Prop} {x : Operand} {n : ByteArray} {k : Int} {l : List UInt8} (ho : op.op = .buildSlice 56 1 #[(0, x)]) (hx : a.eval x = .agg (enC ⟨n, k, l⟩).toArray) (hl : l.length = 32)
  (h : K (a.put op.dst (.slice (some ⟨w.heap.size, 0, none⟩) 1 1)) (w.alloc (.cells (enC ⟨n, k, l⟩).toArray 178))) : op.wp Tryz.prog a w K Q := by
 obtain ⟨ie, hie, hz, h1, _⟩ := info_parts infoEn
 have hf := builtS_en n k l hl
 unfold Program.builtSlice at hf
 simp only [hie, hz] at hf
 rw [if_neg (by rw [h1]; decide)] at hf
 exact wp_buildSlice 56 178 1 _ ho _ ie _ Tryz.underlying56 hie hz (by rw [h1]; decide) (by rw [h1]; decide) (by simp only [List.map_toArray, List.map_cons, List.map_nil, hx]; exact hf) h
theorem own_below {w w' : World} {base e m n : Nat} {v : Value} {xs : List Value} (h : w.ownsRow base e m v n xs) (hb : Below w.heap.size w w') : w'.ownsRow base e m v n xs :=
 h.kept (row := none) ⟨hb.os, hb.tape, hb.output, hb.size, fun k hk _ => hb.block k hk⟩ (Classical.em _)
structure GtW (w : World) (z : Array Value) (kd : Int) (R : List En) (n : Nat) (l : List UInt8) (acc : List En) (W : World) : Prop where
 wk : Rm.treeG (65 - n) l acc = R
 row : ∃ ev, W.ownsRow (w.heap.size + 2) 178 34 ev acc.length (acc.flatMap enC) ∧ Bx W (w.heap.size + 1) { noOb with kind := kd, ents := acc } ev nilV
 box : W.heap[w.heap.size]? = some (.cells z 59)
 below : Below w.heap.size w W
 big : w.heap.size + 2 ≤ W.heap.size
 len : l.length ≤ 5000
 few : acc.length ≤ n
 ids : ∀ e ∈ acc, e.id.length = 32 ∧ e.name.size ≤ 5000
theorem GtW.next {w : World} {z : Array Value} {kd : Int} {R : List En} {n : Nat} {l : List UInt8} {acc : List En} {W W' : World} {v' : Value} (T : GtW w z kd R n l acc W) (hl : l ≠ []) (hn : n < 65)
  (own : W'.ownsRow (w.heap.size + 2) 178 34 v' (acc.length + 1) (acc.flatMap enC ++ enC (Rm.enG l))) (bx : Bx W' (w.heap.size + 1) { noOb with kind := kd, ents := acc ++ [Rm.enG l] } v' nilV)
  (box : W'.heap[w.heap.size]? = some (.cells z 59)) (below : Below w.heap.size w W') (big : w.heap.size + 2 ≤ W'.heap.size) : GtW w z kd R (n + 1) ((Rm.restG l).drop 32) (acc ++ [Rm.enG l]) W' := by
 have hlen := T.len
 have hrl : (Rm.restG l).length ≤ l.length := by unfold Rm.restG; rw [List.length_drop]; omega
 refine ⟨?_, ⟨v', ?_, bx⟩, box, below, big, by rw [List.length_drop]; omega, by have := T.few; simp; omega, fun e he => ?_⟩
 ·
  have h := T.wk
  rw [show 65 - n = (65 - (n + 1)) + 1 by omega] at h
  unfold Rm.treeG at h
  rw [if_neg hl] at h
  exact h
 ·
  rw [List.flatMap_append, List.length_append]
  simpa using own
 ·
  rcases List.mem_append.1 he with he | he
  · exact T.ids e he
  ·
   rw [List.mem_singleton.1 he]
   refine ⟨Rm.idG_len _, ?_⟩
   show (ByteArray.mk (Rm.takeG (l.drop 1)).1.toArray).size ≤ 5000
   rw [Rm.mk_size]
   have := (Rm.takeG_len (l.drop 1)).1
   rw [List.length_drop] at this
   omega
theorem guess_tree (s : ByteArray) (w : World) (h0 : 0 < s.size) (hs : s.size ≤ 5000) (hm2 : (Rm.takeG (s.data.toList.drop 1)).2 ≠ 0) (hk : (s[0].toNat : Int) = 2) :
  Calls Tryz.prog 130 #[.string s] w (Gsd s.data.toList w) := by
 have hz28 := (zero_of_info zero28).1
 have HS0 := Lib.hid noF.size
 have HO0 := Lib.hid noF.one
 have HBN := Lib.hid built_none
 have HNF := Lib.hid noF
 generalize (obC noOb nilV nilV).toArray = z at hz28 HS0 HO0 HBN HNF
 have h0' : (0 : Int) < (s.size : Int) := by omega
 have h1' : (1 : Int) ≤ (s.size : Int) := by omega
 have HX1 := Lib.hid (show s.extract 1 s.size = ⟨(s.data.toList.drop 1).toArray⟩ from bytes_ext (by rw [extract_r]))
 have hl1 : (s.data.toList.drop 1).length ≤ 5000 := by rw [List.length_drop, size_list]; omega
 have hkv := kindV_at s h0
 have hb0 := s[0].toNat_lt
 have hwk : wrap64 (s[0].toNat : Int) = (s[0].toNat : Int) := by unfold wrap64; omega
 have hgf : Rm.guessF s.data.toList = (if (Rm.takeG (s.data.toList.drop 1)).2 = 0 then noOb else Rm.bodyG (Rm.kindV s.data.toList) (Rm.takeG (s.data.toList.drop 1)).1) := rfl
 have htl := Rm.takeG_len (s.data.toList.drop 1)
 have htk := fun W => retake_l (s.data.toList.drop 1) W (by omega)
 have ht5 : (Rm.takeG (s.data.toList.drop 1)).1.length ≤ 5000 := by omega
 generalize (⟨(s.data.toList.drop 1).toArray⟩ : ByteArray) = d1 at HX1 htk
 generalize Rm.takeG (s.data.toList.drop 1) = tm at *
 obtain ⟨t, m⟩ := tm
 have hm3 : ¬ m = 0 := hm2
 have ht6 : t.length ≤ 5000 := ht5
 obtain ⟨tb, rfl⟩ : ∃ tb : ByteArray, t = tb.data.toList := ⟨ByteArray.mk t.toArray, by simp⟩
 rw [size_list] at ht6
 have htk : ∀ W, Calls Tryz.prog 168 #[.string d1] W fun r w' => r = .returned (.tuple #[.string tb, .int .i64 m]) ∧ W = w' := htk
 have HTK := Lib.hid htk
 have HGF := Lib.hid hgf
 clear htk htl hl1 hgf hm2 ht5
 have HKF := Lib.hid (obC_F { noOb with kind := (s[0].toNat : Int) } nilV nilV rfl rfl rfl rfl)
 have HKB := Lib.hid (built_kd (s[0].toNat : Int))
 have HKS := Lib.hid HKF.out.size
 have HKO := Lib.hid HKF.out.one
 have B0 : Bx ((w.alloc (.cells z 59)).alloc (.cells (obC { noOb with kind := (s[0].toNat : Int) } nilV nilV).toArray 59)) (w.heap.size + 1) { noOb with kind := (s[0].toNat : Int) } nilV nilV := heap_alloc2_new _ _ _
 have E0 := Lib.hid (heap_alloc2_old w (.cells z 59) (.cells (obC { noOb with kind := (s[0].toNat : Int) } nilV nilV).toArray 59))
 have hB0 := ((Below.refl w.heap.size w).alloc (Nat.le_refl _) (.cells z 59)).alloc (by simp) (.cells (obC { noOb with kind := (s[0].toNat : Int) } nilV nilV).toArray 59)
 have c0 := B0.cell 0 _ HKF.out.c0
 have hmz : ((m : Int) == 0) = false := by rw [beq_eq_false_iff_ne]; omega
 have HGF2 := Lib.hid (show Rm.guessF s.data.toList = { noOb with kind := (s[0].toNat : Int), ents := Rm.treeG 65 tb.data.toList [] } by rw [HGF.out, if_neg (show ¬ ((tb.data.toList, m) : List UInt8 × Nat).2 = 0 from hm3), hkv, hk]; rfl)
 have hk1 : ((s[0].toNat : Int) == 1) = false := by rw [beq_eq_false_iff_ne]; omega
 have hk2 : ((s[0].toNat : Int) == 2) = true := by rw [beq_iff_eq]; exact hk
 have hwl : Rm.treeG 65 tb.data.toList [] = Rm.treeG 65 tb.data.toList [] := rfl
 obtain ⟨i0, hi, hz0, hz1, hz2⟩ := info_parts infoEn
 generalize hR : Rm.treeG 65 tb.data.toList [] = R at HGF2
 have HR := Lib.hid hR
 clear hm3 hk hkv HGF hwl hR
 go_enter Tryz.func130, Tryz.ntmps130
 go_wp2_with (first
  | (go_at_call 168; fail)
  | ((with_reducible refine bd_kd (x := .tmp 17) ?_ ?_ ?_ HKB.out ?_); rfl; rfl; rfl)
  | ((with_reducible refine st_ob2 (x := .tmp 3) (y := .tmp 18) (g := w.heap.size + 1) ?_ ?_ ?_ ?_ ?_ ?_ HKS.out HKO.out ?_); rfl; rfl; rfl; rfl; exact HS0.out; simp))
 rw [HX1.out]
 refine (HTK.out _).mono ?_
 rintro r w1 ⟨rfl, rfl⟩
 generalize ((w.alloc (.cells z 59)).alloc (.cells (obC { noOb with kind := (s[0].toNat : Int) } nilV nilV).toArray 59)) = W1 at B0 E0 hB0 c0 ⊢
 have hZ0 : w.heap.size + 2 ≤ W1.heap.size := by have := (Array.getElem?_eq_some_iff.1 B0).1; omega
 have T0 : GtW w z (s[0].toNat : Int) R 0 tb.data.toList [] W1 := ⟨HR.out, ⟨.slice none 0 0, World.ownsRow_nil _ _ _ _, B0⟩, E0.out, hB0, hZ0, by rw [size_list]; exact ht6, Nat.le_refl _, fun e he => by cases he⟩
 clear B0 E0 hB0 hZ0 HR
 go_wp2_with fail
 clear c0
 go_loopw [4, 6] (fun a4 a6 W => ∃ (n : Nat) (l : List UInt8) (lb : ByteArray) (acc : List En), a4 = .string lb ∧ a6 = .int .i64 n ∧ n ≤ 65 ∧ Hid (lb.data.toList = l) ∧ GtW w z (s[0].toNat : Int) R n l acc W) (fun _ a6 _ => 65 - (intOf a6).toNat)
 case atStart => exact ⟨0, _, tb, [], rfl, rfl, by decide, Lib.hid rfl, T0⟩
 case round =>
  obtain ⟨n, l, lb, acc, rfl, rfl, hn, HL, T⟩ := hrel
  clear T0
  by_cases h65 : n = 65
  ·
   subst h65
   have hR : acc = R := T.wk
   subst hR
   obtain ⟨ev, O1, B1⟩ := T.row
   have E1 := Lib.hid T.box
   have hB1 := T.below
   have HT := Lib.hid T
   obtain ⟨pa, cap, rfl⟩ := own_form O1
   have HF := Lib.hid (obC_F { noOb with kind := (s[0].toNat : Int), ents := acc } (.slice pa acc.length cap) nilV rfl rfl rfl rfl)
   have HB := Lib.hid B1
   have hfew := T.few
   clear T B1
   go_wp2_with (first
    | ((with_reducible refine ld_obr (x := .tmp 3) ?_ ?_ ?_ HB.out.held HF.out.size ?_); rfl; rfl; rfl)
    | ((with_reducible refine st_obr (x := .tmp 2) (y := .tmp 138) ?_ ?_ ?_ ?_ E1.out HS0.out HF.out.size HF.out.one ?_); rfl; rfl; rfl; rfl))
   refine bodyPost_ret (results_cell_row (fn := Tryz.f130) (p := 2) (by rfl) _ _ w.heap.size _ _ _ _ (by rfl) (setRow_heap _ _ _ _ _ _ E1.out) Tryz.underlying59 rfl (obsize HF.out.size)) rfl ⟨_, pa, none, cap, 0, rfl, ?_, below_setRow hB1 (Nat.le_refl _) _, fun a ha => by rcases ha with ha | ha; exact own_new O1 (by omega) a ha; cases ha⟩
   rw [HGF2.out]
   have hown : (wr.setRow w.heap.size (obC { noOb with kind := (s[0].toNat : Int), ents := acc } (.slice pa acc.length cap) nilV).toArray).ownsRow (w.heap.size + 2) 178 34 (.slice pa acc.length cap) acc.length (acc.flatMap enC) := own_keep O1 (b := w.heap.size) ⟨rfl, rfl, rfl, by rw [setRow_size]; exact Nat.le_refl _, fun k _ hk => setRow_other _ _ _ _ (by simpa using hk)⟩ (by omega)
   exact ⟨HF.out, own_rows enC 34 hown (fun e he => by rw [enC_length, (HT.out.ids e he).1]), RowsAt.nil _ _, fun e he => (HT.out.ids e he).1, fun e he => by have := (HT.out.ids e he).2; unfold maxLen; omega, (fun e he => by cases he), (show acc.length ≤ maxLen by unfold maxLen; omega), Nat.zero_le _, (show (0 : Nat) ≤ maxLen from Nat.zero_le _), (show (0 : Nat) < 4294967296 by decide)⟩
  by_cases hl0 : l = []
  ·
   subst hl0
   have hn65 : n < 65 := by omega
   have hR : acc = R := by
    have := T.wk
    rw [show 65 - n = (65 - (n + 1)) + 1 by omega] at this
    exact this
   subst hR
   have hlb : lb = ByteArray.empty := bytes_ext (by rw [HL.out]; rfl)
   subst hlb
   obtain ⟨ev, O1, B1⟩ := T.row
   have E1 := Lib.hid T.box
   have hB1 := T.below
   have HT := Lib.hid T
   obtain ⟨pa, cap, rfl⟩ := own_form O1
   have HF := Lib.hid (obC_F { noOb with kind := (s[0].toNat : Int), ents := acc } (.slice pa acc.length cap) nilV rfl rfl rfl rfl)
   have HB := Lib.hid B1
   have hfew := T.few
   clear T B1
   go_wp2_with (first
    | ((with_reducible refine ld_obr (x := .tmp 3) ?_ ?_ ?_ HB.out.held HF.out.size ?_); rfl; rfl; rfl)
    | ((with_reducible refine st_obr (x := .tmp 2) (y := .tmp 138) ?_ ?_ ?_ ?_ E1.out HS0.out HF.out.size HF.out.one ?_); rfl; rfl; rfl; rfl))
   refine bodyPost_ret (results_cell_row (fn := Tryz.f130) (p := 2) (by rfl) _ _ w.heap.size _ _ _ _ (by rfl) (setRow_heap _ _ _ _ _ _ E1.out) Tryz.underlying59 rfl (obsize HF.out.size)) rfl ⟨_, pa, none, cap, 0, rfl, ?_, below_setRow hB1 (Nat.le_refl _) _, fun a ha => by rcases ha with ha | ha; exact own_new O1 (by omega) a ha; cases ha⟩
   rw [HGF2.out]
   have hown : (wr.setRow w.heap.size (obC { noOb with kind := (s[0].toNat : Int), ents := acc } (.slice pa acc.length cap) nilV).toArray).ownsRow (w.heap.size + 2) 178 34 (.slice pa acc.length cap) acc.length (acc.flatMap enC) := own_keep O1 (b := w.heap.size) ⟨rfl, rfl, rfl, by rw [setRow_size]; exact Nat.le_refl _, fun k _ hk => setRow_other _ _ _ _ (by simpa using hk)⟩ (by omega)
   exact ⟨HF.out, own_rows enC 34 hown (fun e he => by rw [enC_length, (HT.out.ids e he).1]), RowsAt.nil _ _, fun e he => (HT.out.ids e he).1, fun e he => by have := (HT.out.ids e he).2; unfold maxLen; omega, (fun e he => by cases he), (show acc.length ≤ maxLen by unfold maxLen; omega), Nat.zero_le _, (show (0 : Nat) ≤ maxLen from Nat.zero_le _), (show (0 : Nat) < 4294967296 by decide)⟩
  have hn65 : n < 65 := by omega
  have hlen := T.len
  have hfew := T.few
  have hlbz : lb.size = l.length := by rw [← size_list, HL.out]
  have hlp := List.length_pos_iff.2 hl0
  have hne2 : ¬ lb = ByteArray.empty := fun e => hl0 (by rw [← HL.out, e]; rfl)
  have hne : (!lb.toList.isEmpty) = true := by rw [ByteArray.toList_eq, HL.out]; simpa using hl0
  have h0l : 0 < lb.size := by omega
  have h0n : (0 : Int) < (lb.size : Int) := by omega
  have h1n : (1 : Int) ≤ (lb.size : Int) := by omega
  have hlb : lb = ⟨l.toArray⟩ := bytes_ext (by rw [HL.out])
  have HX2 := Lib.hid (show lb.extract 1 lb.size = ⟨(l.drop 1).toArray⟩ from bytes_ext (by rw [extract_r, HL.out]))
  have htk2 := fun W => retake_l (l.drop 1) W (by rw [List.length_drop]; omega)
  have htl := Rm.takeG_len (l.drop 1)
  rw [List.length_drop] at htl
  have hbe : ∀ W, Calls Tryz.prog 169 #[.string lb, .int .i64 (1 + ((Rm.takeG (l.drop 1)).2 : Int))] W fun r w' => r = .returned (.string ⟨(Rm.restG l).toArray⟩) ∧ W = w' := fun W => by
   have h := behind_l l (1 + (Rm.takeG (l.drop 1)).2) W (by omega) (by omega)
   rw [← hlb, show ((1 + (Rm.takeG (l.drop 1)).2 : Nat) : Int) = 1 + ((Rm.takeG (l.drop 1)).2 : Int) by omega] at h
   exact h
  have hrl : (Rm.restG l).length ≤ 5000 := by unfold Rm.restG; rw [List.length_drop]; omega
  have hid := fun W => refid_l (Rm.restG l) W (by omega)
  have hb3 := fun W => behind_32 (Rm.restG l) W (by omega)
  have hkb := kindV_at lb h0l
  rw [HL.out] at hkb
  have hen : Rm.enG l = ⟨⟨(Rm.takeG (l.drop 1)).1.toArray⟩, (lb[0].toNat : Int), Rm.idG (Rm.restG l)⟩ := by rw [← hkb]; rfl
  have hil := Rm.idG_len (Rm.restG l)
  have hnx : ((⟨((Rm.restG l).drop 32).toArray⟩ : ByteArray)).data.toList = (Rm.restG l).drop 32 := by simp
  have hb1 := lb[0].toNat_lt
  have hwk2 : wrap64 (lb[0].toNat : Int) = (lb[0].toNat : Int) := by unfold wrap64; omega
  have HW3 := Lib.hid (wrap_small lb[0].toNat hb1)
  have hm9 : (Rm.takeG (l.drop 1)).2 ≤ 5000 := by omega
  generalize (⟨(l.drop 1).toArray⟩ : ByteArray) = d2 at HX2 htk2
  generalize (⟨((Rm.restG l).drop 32).toArray⟩ : ByteArray) = tn at hb3 hnx
  generalize (⟨(Rm.restG l).toArray⟩ : ByteArray) = rb at hbe hid hb3
  generalize Rm.idG (Rm.restG l) = idl at hen hid hil
  generalize Rm.takeG (l.drop 1) = tm2 at hen htk2 htl hbe hm9
  obtain ⟨nm, m2⟩ := tm2
  obtain ⟨nb, rfl⟩ : ∃ nb : ByteArray, nm = nb.data.toList := ⟨⟨nm.toArray⟩, by simp⟩
  have HEN := Lib.hid (show Rm.enG l = ⟨nb, (lb[0].toNat : Int), idl⟩ from hen)
  have HTK2 := Lib.hid (fun W => show Calls Tryz.prog 168 #[.string d2] W fun r w' => r = .returned (.tuple #[.string nb, .int .i64 m2]) ∧ W = w' from htk2 W)
  have HBE := Lib.hid (fun W => show Calls Tryz.prog 169 #[.string lb, .int .i64 (1 + (m2 : Int))] W fun r w' => r = .returned (.string rb) ∧ W = w' from hbe W)
  have HID := Lib.hid hid
  have HB3 := Lib.hid hb3
  have HIL := Lib.hid hil
  have HNX := Lib.hid hnx
  have HBU := Lib.hid (built_en2 nb (lb[0].toNat : Int) idl hil)
  have hm8 : m2 ≤ 5000 := hm9
  have hlz : lb.size ≤ 5000 := by omega
  have hw1 : wrap64 (1 + (m2 : Int)) = 1 + (m2 : Int) := by unfold wrap64; omega
  clear hen htk2 htl hbe hid hb3 hil hnx hkb hrl hlb hlp hm9 htk hlbz
  obtain ⟨ev, O1, B1⟩ := T.row
  obtain ⟨pa, cap, rfl⟩ := own_form O1
  have E1 := Lib.hid T.box
  have hB1 := T.below
  have hbg1 := T.big
  have HT := Lib.hid T
  have HFA := Lib.hid (obC_F { noOb with kind := (s[0].toNat : Int), ents := acc } (.slice pa acc.length cap) nilV rfl rfl rfl rfl)
  clear T
  go_wp2_with (first
   | (go_at_call 168; fail))
  rw [HX2.out]
  refine (HTK2.out _).mono ?_
  rintro r w1 ⟨rfl, rfl⟩
  go_wp2_with (first
   | (go_at_call 169; fail))
  refine (HBE.out _).mono ?_
  rintro r w1 ⟨rfl, rfl⟩
  go_wp2_with fail
  have O0 : wr.drew.ownsRow (w.heap.size + 2) 178 34 (.slice pa acc.length cap) acc.length (acc.flatMap enC) := O1
  have B0 : Bx wr.drew (w.heap.size + 1) { noOb with kind := (s[0].toNat : Int), ents := acc } (.slice pa acc.length cap) nilV := B1
  have E0 := Lib.hid (show wr.drew.heap[w.heap.size]? = some (.cells z 59) from E1.out)
  have hB0 := hB1.drew
  have hbg0 : w.heap.size + 2 ≤ wr.drew.heap.size := hbg1
  clear O1 B1 E1 hB1 hbg1
  refine wp_region_noPanic ?_
  refine wp_region_held_drew (S := fun _ => True) (by kernel_rfl) trivial (fun _ => ?_)
  generalize wr.drew = wd at O0 B0 E0 hB0 hbg0 ⊢
  refine tk (i := 0) (v := ?_) ?_ ?_
  rotate_left
  · intro W hS; go_simp; try rfl
  try simp only [q0]
  refine tk (i := 2) (v := ?_) ?_ ?_
  rotate_left
  · intro W hS; go_simp; try rfl
  try simp only [q0]
  refine tk (i := 3) (v := ?_) ?_ ?_
  rotate_left
  · intro W hS; go_simp; try rfl
  try simp only [q0]
  refine tk (i := 4) (v := ?_) ?_ ?_
  rotate_left
  · intro W hS; go_simp; try rfl
  try simp only [q0]
  try rw [HW3.out]
  refine tk (i := 5) (v := ?_) ?_ ?_
  rotate_left
  · intro W hS; go_simp; try rfl
  try simp only [q0]
  refine tk (i := 6) (v := ?_) ?_ ?_
  rotate_left
  · intro W hS; go_simp; try rfl
  try simp only [q0]
  have c2 := B0.cell 2 _ HFA.out.c2
  have f2 := B0.fr 2
  refine wpAnyH_ready (rs := [1, 7]) (by kernel_rfl) (by simp) ?_
  refine AllReadyH.cons rfl (fun K hK => ?_) ?_
  rotate_left
  ·
   refine AllReadyH.cons rfl (fun K hK => ?_) AllReadyH.nil
   go_simp
   refine (HID.out _).mono ?_
   rintro r w2 ⟨rfl, hx2⟩
   go_wp2_with fail
   refine hK.out _ _ trivial (fun _ => ?_)
   clear hK K
   try simp only [q0]
   have B2 : Bx w2 (w.heap.size + 1) { noOb with kind := (s[0].toNat : Int), ents := acc } (.slice pa acc.length cap) nilV := B0.below hx2
   have E2 := Lib.hid ((hx2.block w.heap.size (by omega)).trans E0.out)
   have hBl2 := hB0.trans (hx2.mono hB0.size)
   have hbg2 := Nat.le_trans hbg0 hx2.size
   have O2 : w2.ownsRow (w.heap.size + 2) 178 34 (.slice pa acc.length cap) acc.length (acc.flatMap enC) := own_below O0 hx2
   clear B0 E0 hB0 hbg0 O0 hx2
   clear c2 f2
   refine wpAnyH_take (i := 8) rfl (by kernel_rfl) (by kernel_rfl) (by kernel_rfl) (fun _ _ _ h => h) (yieldsIf_en (by rfl) rfl rfl rfl rfl HBU.out) trivial ?_
   try simp only [q0]
   have c2b := B2.cell 2 _ HFA.out.c2
   have f2b := B2.fr 2
   refine wpAnyH_ready (rs := [1, 9]) (by kernel_rfl) (by simp) ?_
   refine AllReadyH.cons rfl (fun K hK => ?_) ?_
   rotate_left
   ·
    refine AllReadyH.cons rfl (fun K hK => ?_) AllReadyH.nil
    rw [if_pos (by rfl)]
    refine wp_bs_en rfl rfl HIL.out ?_
    refine hK.out _ _ trivial (fun _ => ?_)
    clear hK K
    try simp only [q0]
    have BA : Bx (w2.alloc (.cells (enC ⟨nb, (lb[0].toNat : Int), idl⟩).toArray 178)) (w.heap.size + 1) { noOb with kind := (s[0].toNat : Int), ents := acc } (.slice pa acc.length cap) nilV := held_alloc B2
    have c2c := BA.cell 2 _ HFA.out.c2
    have f2c := BA.fr 2
    refine wpAnyH_ready (rs := [1]) (by kernel_rfl) (by simp) ?_
    refine AllReadyH.cons rfl (fun K hK => ?_) AllReadyH.nil
    go_simp
    refine hK.out _ _ trivial (fun _ => ?_)
    clear hK K
    try simp only [q0]
    clear c2c f2c BA
    refine wpAnyH_ready (rs := [10]) (by kernel_rfl) (by simp) ?_
    refine AllReadyH.cons rfl (fun K hK => ?_) AllReadyH.nil
    rw [if_pos (by rfl)]
    refine wp_append_own _ _ _ 56 rfl (w.heap.size + 2) 178 i0 (.agg (enC ⟨⟨#[]⟩, 0, zId⟩).toArray) 34 56 Tryz.underlying56 hi hz0 hz1 hz2 (by decide) (by decide) _ _ _ rfl (World.ownsRow.alloc O2 _) ⟨_, 0, none⟩ 1 1 (enC ⟨nb, (lb[0].toNat : Int), idl⟩) rfl (by rw [enC_length]; exact congrArg (· + 2) HIL.out) (news_at (heap_alloc_last _ _)) (enC_one _) (by unfold maxLen; omega) (by omega) (by have := hbg2; simp; omega) ?_
    intro v' w5 hown' hgrow _
    refine hK.out _ _ trivial (fun _ => ?_)
    clear hK K
    try simp only [q0]
    have B5 : Bx w5 (w.heap.size + 1) { noOb with kind := (s[0].toNat : Int), ents := acc } (.slice pa acc.length cap) nilV := held_own (held_alloc B2) (World.ownsRow.alloc O2 _) hgrow (by omega)
    have E5 := held_own (held_alloc E2.out) (World.ownsRow.alloc O2 _) hgrow (by omega)
    have G5 : Below w.heap.size w w5 := ((hBl2.alloc hBl2.size _).grown hgrow (by have := hBl2.size; simp; omega) (fun k hk => by have := (O2.lt k hk).1; omega))
    have S5 : w.heap.size + 2 ≤ w5.heap.size := by have := hgrow.size; simp at this; omega
    have c5 := B5.cell 2 _ HFA.out.c2
    have f5 := B5.fr 2
    refine tk (i := 11) (v := ?_) ?_ ?_
    rotate_left
    · intro W hS; go_simp; try rfl
    try simp only [q0]
    obtain ⟨pa', cap', rfl⟩ := own_form hown'
    refine wpAnyH_ready (rs := [12]) (by kernel_rfl) (by simp) ?_
    refine AllReadyH.cons rfl (fun K hK => ?_) AllReadyH.nil
    go_simp
    refine hK.out _ _ trivial (fun _ => ?_)
    clear hK K
    try simp only [q0]
    refine wpAnyH_done (by kernel_rfl) ?_ _
    refine NoPanic.normal ?_
    have B6 := B5.ents (.slice pa' (acc.length + 1) cap') (acc ++ [Rm.enG l])
    have O6 := own_keep hown' (b := w.heap.size + 1) (grown_set w5 (w.heap.size + 1) 2 (.slice pa' (acc.length + 1) cap')) (by omega)
    rw [← HEN.out] at O6
    have E6 := (heap_setCell_other w5 ⟨w.heap.size + 1, 2, none⟩ w.heap.size (.slice pa' (acc.length + 1) cap') (by simp)).trans E5
    have G6 := G5.setCell (p := ⟨w.heap.size + 1, 2, none⟩) (by simp) (.slice pa' (acc.length + 1) cap')
    have S6 : w.heap.size + 2 ≤ (w5.setCell ⟨w.heap.size + 1, 2, none⟩ (.slice pa' (acc.length + 1) cap')).heap.size := by simp [World.setCell]; omega
    have T6 := HT.out.next hl0 hn65 O6 B6 E6 G6 S6
    generalize w5.setCell ⟨w.heap.size + 1, 2, none⟩ (.slice pa' (acc.length + 1) cap') = w6 at T6 ⊢
    clear B6 O6 E6 G6 S6 hown' hgrow B5 E5 G5 S5 c5 f5 B2 O2 E2 hBl2 hbg2
    go_wp2_with fail
    refine (HB3.out _).mono ?_
    rintro r w7 ⟨rfl, rfl⟩
    go_wp2
    go_roundw
    case rel => exact ⟨n + 1, _, tn, _, rfl, by go_num, by omega, HNX, T6⟩
    case measure => simp [intOf]; omega
   go_simp
   refine hK.out _ _ trivial (fun _ => ?_)
   clear hK K
   try simp only [q0]
   clear c2b f2b
   refine wpAnyH_ready (rs := [9]) (by kernel_rfl) (by simp) ?_
   refine AllReadyH.cons rfl (fun K hK => ?_) AllReadyH.nil
   rw [if_pos (by rfl)]
   refine wp_bs_en rfl rfl HIL.out ?_
   refine hK.out _ _ trivial (fun _ => ?_)
   clear hK K
   try simp only [q0]
   refine wpAnyH_ready (rs := [10]) (by kernel_rfl) (by simp) ?_
   refine AllReadyH.cons rfl (fun K hK => ?_) AllReadyH.nil
   rw [if_pos (by rfl)]
   refine wp_append_own _ _ _ 56 rfl (w.heap.size + 2) 178 i0 (.agg (enC ⟨⟨#[]⟩, 0, zId⟩).toArray) 34 56 Tryz.underlying56 hi hz0 hz1 hz2 (by decide) (by decide) _ _ _ rfl (World.ownsRow.alloc O2 _) ⟨_, 0, none⟩ 1 1 (enC ⟨nb, (lb[0].toNat : Int), idl⟩) rfl (by rw [enC_length]; exact congrArg (· + 2) HIL.out) (news_at (heap_alloc_last _ _)) (enC_one _) (by unfold maxLen; omega) (by omega) (by have := hbg2; simp; omega) ?_
   intro v' w5 hown' hgrow _
   refine hK.out _ _ trivial (fun _ => ?_)
   clear hK K
   try simp only [q0]
   have B5 : Bx w5 (w.heap.size + 1) { noOb with kind := (s[0].toNat : Int), ents := acc } (.slice pa acc.length cap) nilV := held_own (held_alloc B2) (World.ownsRow.alloc O2 _) hgrow (by omega)
   have E5 := held_own (held_alloc E2.out) (World.ownsRow.alloc O2 _) hgrow (by omega)
   have G5 : Below w.heap.size w w5 := ((hBl2.alloc hBl2.size _).grown hgrow (by have := hBl2.size; simp; omega) (fun k hk => by have := (O2.lt k hk).1; omega))
   have S5 : w.heap.size + 2 ≤ w5.heap.size := by have := hgrow.size; simp at this; omega
   have c5 := B5.cell 2 _ HFA.out.c2
   have f5 := B5.fr 2
   refine tk (i := 11) (v := ?_) ?_ ?_
   rotate_left
   · intro W hS; go_simp; try rfl
   try simp only [q0]
   obtain ⟨pa', cap', rfl⟩ := own_form hown'
   refine wpAnyH_ready (rs := [12]) (by kernel_rfl) (by simp) ?_
   refine AllReadyH.cons rfl (fun K hK => ?_) AllReadyH.nil
   go_simp
   refine hK.out _ _ trivial (fun _ => ?_)
   clear hK K
   try simp only [q0]
   refine wpAnyH_done (by kernel_rfl) ?_ _
   refine NoPanic.normal ?_
   have B6 := B5.ents (.slice pa' (acc.length + 1) cap') (acc ++ [Rm.enG l])
   have O6 := own_keep hown' (b := w.heap.size + 1) (grown_set w5 (w.heap.size + 1) 2 (.slice pa' (acc.length + 1) cap')) (by omega)
   rw [← HEN.out] at O6
   have E6 := (heap_setCell_other w5 ⟨w.heap.size + 1, 2, none⟩ w.heap.size (.slice pa' (acc.length + 1) cap') (by simp)).trans E5
   have G6 := G5.setCell (p := ⟨w.heap.size + 1, 2, none⟩) (by simp) (.slice pa' (acc.length + 1) cap')
   have S6 : w.heap.size + 2 ≤ (w5.setCell ⟨w.heap.size + 1, 2, none⟩ (.slice pa' (acc.length + 1) cap')).heap.size := by simp [World.setCell]; omega
   have T6 := HT.out.next hl0 hn65 O6 B6 E6 G6 S6
   generalize w5.setCell ⟨w.heap.size + 1, 2, none⟩ (.slice pa' (acc.length + 1) cap') = w6 at T6 ⊢
   clear B6 O6 E6 G6 S6 hown' hgrow B5 E5 G5 S5 c5 f5 B2 O2 E2 hBl2 hbg2
   go_wp2_with fail
   refine (HB3.out _).mono ?_
   rintro r w7 ⟨rfl, rfl⟩
   go_wp2
   go_roundw
   case rel => exact ⟨n + 1, _, tn, _, rfl, by go_num, by omega, HNX, T6⟩
   case measure => simp [intOf]; omega
  go_simp
  refine hK.out _ _ trivial (fun _ => ?_)
  clear hK K
  try simp only [q0]
  clear c2 f2
  refine wpAnyH_ready (rs := [7]) (by kernel_rfl) (by simp) ?_
  refine AllReadyH.cons rfl (fun K hK => ?_) AllReadyH.nil
  go_simp
  refine (HID.out _).mono ?_
  rintro r w2 ⟨rfl, hx2⟩
  go_wp2_with fail
  refine hK.out _ _ trivial (fun _ => ?_)
  clear hK K
  try simp only [q0]
  have B2 : Bx w2 (w.heap.size + 1) { noOb with kind := (s[0].toNat : Int), ents := acc } (.slice pa acc.length cap) nilV := B0.below hx2
  have E2 := Lib.hid ((hx2.block w.heap.size (by omega)).trans E0.out)
  have hBl2 := hB0.trans (hx2.mono hB0.size)
  have hbg2 := Nat.le_trans hbg0 hx2.size
  have O2 : w2.ownsRow (w.heap.size + 2) 178 34 (.slice pa acc.length cap) acc.length (acc.flatMap enC) := own_below O0 hx2
  clear B0 E0 hB0 hbg0 O0 hx2
  refine wpAnyH_take (i := 8) rfl (by kernel_rfl) (by kernel_rfl) (by kernel_rfl) (fun _ _ _ h => h) (yieldsIf_en (by rfl) rfl rfl rfl rfl HBU.out) trivial ?_
  try simp only [q0]
  refine wpAnyH_ready (rs := [9]) (by kernel_rfl) (by simp) ?_
  refine AllReadyH.cons rfl (fun K hK => ?_) AllReadyH.nil
  rw [if_pos (by rfl)]
  refine wp_bs_en rfl rfl HIL.out ?_
  refine hK.out _ _ trivial (fun _ => ?_)
  clear hK K
  try simp only [q0]
  refine wpAnyH_ready (rs := [10]) (by kernel_rfl) (by simp) ?_
  refine AllReadyH.cons rfl (fun K hK => ?_) AllReadyH.nil
  rw [if_pos (by rfl)]
  refine wp_append_own _ _ _ 56 rfl (w.heap.size + 2) 178 i0 (.agg (enC ⟨⟨#[]⟩, 0, zId⟩).toArray) 34 56 Tryz.underlying56 hi hz0 hz1 hz2 (by decide) (by decide) _ _ _ rfl (World.ownsRow.alloc O2 _) ⟨_, 0, none⟩ 1 1 (enC ⟨nb, (lb[0].toNat : Int), idl⟩) rfl (by rw [enC_length]; exact congrArg (· + 2) HIL.out) (news_at (heap_alloc_last _ _)) (enC_one _) (by unfold maxLen; omega) (by omega) (by have := hbg2; simp; omega) ?_
  intro v' w5 hown' hgrow _
  refine hK.out _ _ trivial (fun _ => ?_)
  clear hK K
  try simp only [q0]
  have B5 : Bx w5 (w.heap.size + 1) { noOb with kind := (s[0].toNat : Int), ents := acc } (.slice pa acc.length cap) nilV := held_own (held_alloc B2) (World.ownsRow.alloc O2 _) hgrow (by omega)
  have E5 := held_own (held_alloc E2.out) (World.ownsRow.alloc O2 _) hgrow (by omega)
  have G5 : Below w.heap.size w w5 := ((hBl2.alloc hBl2.size _).grown hgrow (by have := hBl2.size; simp; omega) (fun k hk => by have := (O2.lt k hk).1; omega))
  have S5 : w.heap.size + 2 ≤ w5.heap.size := by have := hgrow.size; simp at this; omega
  have c5 := B5.cell 2 _ HFA.out.c2
  have f5 := B5.fr 2
  refine tk (i := 11) (v := ?_) ?_ ?_
  rotate_left
  · intro W hS; go_simp; try rfl
  try simp only [q0]
  obtain ⟨pa', cap', rfl⟩ := own_form hown'
  refine wpAnyH_ready (rs := [12]) (by kernel_rfl) (by simp) ?_
  refine AllReadyH.cons rfl (fun K hK => ?_) AllReadyH.nil
  go_simp
  refine hK.out _ _ trivial (fun _ => ?_)
  clear hK K
  try simp only [q0]
  refine wpAnyH_done (by kernel_rfl) ?_ _
  refine NoPanic.normal ?_
  have B6 := B5.ents (.slice pa' (acc.length + 1) cap') (acc ++ [Rm.enG l])
  have O6 := own_keep hown' (b := w.heap.size + 1) (grown_set w5 (w.heap.size + 1) 2 (.slice pa' (acc.length + 1) cap')) (by omega)
  rw [← HEN.out] at O6
  have E6 := (heap_setCell_other w5 ⟨w.heap.size + 1, 2, none⟩ w.heap.size (.slice pa' (acc.length + 1) cap') (by simp)).trans E5
  have G6 := G5.setCell (p := ⟨w.heap.size + 1, 2, none⟩) (by simp) (.slice pa' (acc.length + 1) cap')
  have S6 : w.heap.size + 2 ≤ (w5.setCell ⟨w.heap.size + 1, 2, none⟩ (.slice pa' (acc.length + 1) cap')).heap.size := by simp [World.setCell]; omega
  have T6 := HT.out.next hl0 hn65 O6 B6 E6 G6 S6
  generalize w5.setCell ⟨w.heap.size + 1, 2, none⟩ (.slice pa' (acc.length + 1) cap') = w6 at T6 ⊢
  clear B6 O6 E6 G6 S6 hown' hgrow B5 E5 G5 S5 c5 f5 B2 O2 E2 hBl2 hbg2
  go_wp2_with fail
  refine (HB3.out _).mono ?_
  rintro r w7 ⟨rfl, rfl⟩
  go_wp2
  go_roundw
  case rel => exact ⟨n + 1, _, tn, _, rfl, by go_num, by omega, HNX, T6⟩
  case measure => simp [intOf]; omega
end Go.Proofs.YtkcjhkfelaplkaaGreatDoor
end
section
namespace Go.Proofs.YtkcjhkfelaplkaaGreatDoor
open Go.RowKit
structure CtW (w : World) (z : Array Value) (kd : Int) (tr : List UInt8) (N : Nat) (R : List (List UInt8) × List UInt8) (j : Nat) (l : List UInt8) (acc : List (List UInt8)) (W : World) : Prop where
 wk : Rm.parsG (N - j) l acc = R
 row : ∃ pv, W.ownsRow (w.heap.size + 2) 46 32 pv acc.length (acc.flatMap idC) ∧ Bx W (w.heap.size + 1) { noOb with kind := kd, tree := tr, pars := acc } nilV pv
 box : W.heap[w.heap.size]? = some (.cells z 59)
 below : Below w.heap.size w W
 big : w.heap.size + 2 ≤ W.heap.size
 len : l.length ≤ 5000
 few : acc.length = j
 ids : ∀ e ∈ acc, e.length = 32
theorem CtW.next {w : World} {z : Array Value} {kd : Int} {tr : List UInt8} {N : Nat} {R : List (List UInt8) × List UInt8} {j : Nat} {l : List UInt8} {acc : List (List UInt8)} {W W' : World} {v' : Value} (T : CtW w z kd tr N R j l acc W) (hj : j < N)
  (own : W'.ownsRow (w.heap.size + 2) 46 32 v' (acc.length + 1) (acc.flatMap idC ++ idC (Rm.idG l))) (bx : Bx W' (w.heap.size + 1) { noOb with kind := kd, tree := tr, pars := acc ++ [Rm.idG l] } nilV v')
  (box : W'.heap[w.heap.size]? = some (.cells z 59)) (below : Below w.heap.size w W') (big : w.heap.size + 2 ≤ W'.heap.size) : CtW w z kd tr N R (j + 1) (l.drop 32) (acc ++ [Rm.idG l]) W' := by
 have hlen := T.len
 refine ⟨?_, ⟨v', ?_, bx⟩, box, below, big, by rw [List.length_drop]; omega, by have := T.few; simp; omega, fun e he => ?_⟩
 ·
  have h := T.wk
  rw [show N - j = (N - (j + 1)) + 1 by omega] at h
  exact h
 ·
  rw [List.flatMap_append, List.length_append]
  simpa using own
 ·
  rcases List.mem_append.1 he with he | he
  · exact T.ids e he
  ·
   rw [List.mem_singleton.1 he]
   exact Rm.idG_len _
theorem wp_bs_id {op : Oper} {a : Act} {w : World} {K : Act → World → Prop} {Q : Exit → Act → World → Prop} {x : Operand} {l : List UInt8} (ho : op.op = .buildSlice 34 1 #[(0, x)]) (hx : a.eval x = .agg (idC l).toArray) (hl : l.length = 32)
  (h : K (a.put op.dst (.slice (some ⟨w.heap.size, 0, none⟩) 1 1)) (w.alloc (.cells (idC l).toArray 46))) : op.wp Tryz.prog a w K Q := by
 obtain ⟨ie, hie, hz, h1, _⟩ := info_parts infoId
 have hf := builtS_id l hl
 unfold Program.builtSlice at hf
 simp only [hie, hz] at hf
 rw [if_neg (by rw [h1]; decide)] at hf
 exact wp_buildSlice 34 46 1 _ ho _ ie _ Tryz.underlying34 hie hz (by rw [h1]; decide) (by rw [h1]; decide) (by simp only [List.map_toArray, List.map_cons, List.map_nil, hx]; exact hf) h
theorem refid_b (t : ByteArray) (w : World) (hl : t.size ≤ 5000) : Calls Tryz.prog 170 #[.string t] w fun r w' => r = .returned (.agg (idC (Rm.idG t.data.toList)).toArray) ∧ Below w.heap.size w w' := by
 have := refid_l t.data.toList w (by rw [size_list]; omega)
 rw [Rm.mk_list] at this
 exact this
theorem behind_b (t : ByteArray) (w : World) (hl : t.size ≤ 5000) : Calls Tryz.prog 169 #[.string t, .int .i64 32] w fun r w' => r = .returned (.string ⟨(t.data.toList.drop 32).toArray⟩) ∧ w = w' := by
 have := behind_32 t.data.toList w (by rw [size_list]; omega)
 rw [Rm.mk_list] at this
 exact this
theorem guess_commit (s : ByteArray) (w : World) (h0 : 0 < s.size) (hs : s.size ≤ 5000) (hm2 : (Rm.takeG (s.data.toList.drop 1)).2 ≠ 0) (hk : (s[0].toNat : Int) = 3) :
  Calls Tryz.prog 130 #[.string s] w (Gsd s.data.toList w) := by
 have hz28 := (zero_of_info zero28).1
 have HS0 := Lib.hid noF.size
 have HO0 := Lib.hid noF.one
 have HBN := Lib.hid built_none
 have HNF := Lib.hid noF
 generalize (obC noOb nilV nilV).toArray = z at hz28 HS0 HO0 HBN HNF
 have h0' : (0 : Int) < (s.size : Int) := by omega
 have h1' : (1 : Int) ≤ (s.size : Int) := by omega
 have HX1 := Lib.hid (show s.extract 1 s.size = ⟨(s.data.toList.drop 1).toArray⟩ from bytes_ext (by rw [extract_r]))
 have hl1 : (s.data.toList.drop 1).length ≤ 5000 := by rw [List.length_drop, size_list]; omega
 have hkv := kindV_at s h0
 have hb0 := s[0].toNat_lt
 have hwk : wrap64 (s[0].toNat : Int) = (s[0].toNat : Int) := by unfold wrap64; omega
 have hgf : Rm.guessF s.data.toList = (if (Rm.takeG (s.data.toList.drop 1)).2 = 0 then noOb else Rm.bodyG (Rm.kindV s.data.toList) (Rm.takeG (s.data.toList.drop 1)).1) := rfl
 have htl := Rm.takeG_len (s.data.toList.drop 1)
 have htk := fun W => retake_l (s.data.toList.drop 1) W (by omega)
 have ht5 : (Rm.takeG (s.data.toList.drop 1)).1.length ≤ 5000 := by omega
 generalize (⟨(s.data.toList.drop 1).toArray⟩ : ByteArray) = d1 at HX1 htk
 generalize Rm.takeG (s.data.toList.drop 1) = tm at *
 obtain ⟨t, m⟩ := tm
 have hm3 : ¬ m = 0 := hm2
 have ht6 : t.length ≤ 5000 := ht5
 obtain ⟨tb, rfl⟩ : ∃ tb : ByteArray, t = tb.data.toList := ⟨ByteArray.mk t.toArray, by simp⟩
 rw [size_list] at ht6
 have htk : ∀ W, Calls Tryz.prog 168 #[.string d1] W fun r w' => r = .returned (.tuple #[.string tb, .int .i64 m]) ∧ W = w' := htk
 have HTK := Lib.hid htk
 have HGF := Lib.hid hgf
 clear htk htl hl1 hgf hm2 ht5
 have HKF := Lib.hid (obC_F { noOb with kind := (s[0].toNat : Int) } nilV nilV rfl rfl rfl rfl)
 have HKB := Lib.hid (built_kd (s[0].toNat : Int))
 have HKS := Lib.hid HKF.out.size
 have HKO := Lib.hid HKF.out.one
 have B0 : Bx ((w.alloc (.cells z 59)).alloc (.cells (obC { noOb with kind := (s[0].toNat : Int) } nilV nilV).toArray 59)) (w.heap.size + 1) { noOb with kind := (s[0].toNat : Int) } nilV nilV := heap_alloc2_new _ _ _
 have E0 := Lib.hid (heap_alloc2_old w (.cells z 59) (.cells (obC { noOb with kind := (s[0].toNat : Int) } nilV nilV).toArray 59))
 have hB0 := ((Below.refl w.heap.size w).alloc (Nat.le_refl _) (.cells z 59)).alloc (by simp) (.cells (obC { noOb with kind := (s[0].toNat : Int) } nilV nilV).toArray 59)
 have c0 := B0.cell 0 _ HKF.out.c0
 have hmz : ((m : Int) == 0) = false := by rw [beq_eq_false_iff_ne]; omega
 have hgf2 : Rm.guessF s.data.toList = { noOb with kind := (s[0].toNat : Int), tree := Rm.idG tb.data.toList, pars := (Rm.cgP tb.data.toList).1, time := Rm.cgT tb.data.toList, text := ⟨(Rm.cgX tb.data.toList).toArray⟩ } := by rw [HGF.out, if_neg (show ¬ ((tb.data.toList, m) : List UInt8 × Nat).2 = 0 from hm3), hkv, hk]; rfl
 have hk1 : ((s[0].toNat : Int) == 1) = false := by rw [beq_eq_false_iff_ne]; omega
 have hk2 : ((s[0].toNat : Int) == 2) = false := by rw [beq_eq_false_iff_ne]; omega
 have hk3 : ((s[0].toNat : Int) == 3) = true := by rw [beq_iff_eq]; exact hk
 obtain ⟨i0, hi, hz0, hz1, hz2⟩ := info_parts infoId
 have htl5 : tb.data.toList.length ≤ 5000 := by rw [size_list]; exact ht6
 have hl32 : (tb.data.toList.drop 32).length ≤ 5000 := by rw [List.length_drop]; omega
 have hge := Rm.getG_le (tb.data.toList.drop 32)
 have hA5 : (Rm.cgA tb.data.toList).length ≤ 5000 := by unfold Rm.cgA; rw [List.length_drop]; omega
 have HI0 := Lib.hid (fun W => refid_b tb W ht6)
 have hil := Rm.idG_len tb.data.toList
 have hb0' := fun W => behind_b tb W ht6
 have hg1 := fun W => reget_l (tb.data.toList.drop 32) W (by omega)
 have hb1' : ∀ W, Calls Tryz.prog 169 #[.string ⟨(tb.data.toList.drop 32).toArray⟩, .int .i64 (Rm.getG (tb.data.toList.drop 32)).2] W fun r w' => r = .returned (.string ⟨(Rm.cgA tb.data.toList).toArray⟩) ∧ W = w' := fun W => behind_l (tb.data.toList.drop 32) (Rm.getG (tb.data.toList.drop 32)).2 W (by omega) (by omega)
 have hNv : Rm.cgN tb.data.toList = min (Rm.getG (tb.data.toList.drop 32)).1 9 := rfl
 have hPv : Rm.cgP tb.data.toList = Rm.parsG (Rm.cgN tb.data.toList) (Rm.cgA tb.data.toList) [] := rfl
 have hTv : Rm.cgT tb.data.toList = (Rm.getG (Rm.cgP tb.data.toList).2).1 % 4294967296 := rfl
 have hXv : Rm.cgX tb.data.toList = (Rm.takeG ((Rm.cgP tb.data.toList).2.drop (Rm.getG (Rm.cgP tb.data.toList).2).2)).1 := rfl
 generalize Rm.cgX tb.data.toList = X at hgf2 hXv
 generalize Rm.cgT tb.data.toList = TT at hgf2 hTv
 generalize Rm.cgP tb.data.toList = R at hgf2 hXv hTv hPv
 generalize Rm.cgN tb.data.toList = N at hNv hPv
 generalize Rm.cgA tb.data.toList = A0 at hb1' hPv hA5
 generalize Rm.idG tb.data.toList = idl at hgf2 HI0 hil
 generalize Rm.getG (tb.data.toList.drop 32) = g1 at hg1 hb1' hNv hge
 obtain ⟨n1, m1⟩ := g1
 generalize (⟨(tb.data.toList.drop 32).toArray⟩ : ByteArray) = t1 at hb0' hg1 hb1'
 obtain ⟨ab, rfl⟩ : ∃ ab : ByteArray, A0 = ab.data.toList := ⟨⟨A0.toArray⟩, by simp⟩
 have HGF3 := Lib.hid hgf2
 have HIL := Lib.hid hil
 have HB0 := Lib.hid hb0'
 have HG1 := Lib.hid (fun W => show Calls Tryz.prog 171 #[.string t1] W fun r w' => r = .returned (.tuple #[.int .u64 n1, .int .i64 m1]) ∧ W = w' from hg1 W)
 have HB1 := Lib.hid (fun W => show Calls Tryz.prog 169 #[.string t1, .int .i64 m1] W fun r w' => r = .returned (.string ab) ∧ W = w' from by have := hb1' W; rw [Rm.mk_list] at this; exact this)
 have hN2 : N = min n1 9 := hNv
 have HPV := Lib.hid hPv
 have HTV := Lib.hid hTv
 have HXV := Lib.hid hXv
 have hn1b : n1 < 18446744073709551616 := hge.2
 clear hm3 hk hkv HGF hgf2 hil hb0' hg1 hb1' hNv hPv hTv hXv hge hl32 htl5
 go_enter Tryz.func130, Tryz.ntmps130
 go_wp2_with (first
  | (go_at_call 168; fail)
  | ((with_reducible refine bd_kd (x := .tmp 17) ?_ ?_ ?_ HKB.out ?_); rfl; rfl; rfl)
  | ((with_reducible refine st_ob2 (x := .tmp 3) (y := .tmp 18) (g := w.heap.size + 1) ?_ ?_ ?_ ?_ ?_ ?_ HKS.out HKO.out ?_); rfl; rfl; rfl; rfl; exact HS0.out; simp))
 rw [HX1.out]
 refine (HTK.out _).mono ?_
 rintro r w1 ⟨rfl, rfl⟩
 generalize ((w.alloc (.cells z 59)).alloc (.cells (obC { noOb with kind := (s[0].toNat : Int) } nilV nilV).toArray 59)) = W1 at B0 E0 hB0 c0 ⊢
 have hZ0 : w.heap.size + 2 ≤ W1.heap.size := by have := (Array.getElem?_eq_some_iff.1 B0).1; omega
 clear htk
 go_wp2_with (first
  | (go_at_call 170; fail))
 refine (HI0.out _).mono ?_
 rintro r w3 ⟨rfl, hx3⟩
 have B3 := B0.below hx3
 have E3 := Lib.hid ((hx3.block w.heap.size (by omega)).trans E0.out)
 have hB3 := hB0.trans (hx3.mono hB0.size)
 have hZ3 := Nat.le_trans hZ0 hx3.size
 clear B0 E0 hB0 hZ0 hx3 c0
 have HTH := Lib.hid (B3.there HKS.out 3 32 (by decide))
 have B4 := B3.tree idl HIL.out rfl
 have E4 := Lib.hid (held_setCells (g := w.heap.size + 1) (o := 3) (vs := idC idl) E3.out (by omega))
 have hB4 := below_setCells (g := w.heap.size + 1) (by omega) (idC idl) 3 _ hB3
 have hZ4 : w.heap.size + 2 ≤ (w3.setCells (w.heap.size + 1) 3 (idC idl)).heap.size := by rw [size_setCells']; exact hZ3
 go_wp2_with (first
  | (go_at_call 169; fail)
  | ((with_reducible refine st_idmid (x := .tmp 72) (y := .tmp 71) ?_ ?_ ?_ ?_ HIL.out HTH.out ?_); rfl; rfl; rfl; rfl))
 refine (HB0.out _).mono ?_
 rintro r w5 ⟨rfl, rfl⟩
 generalize w3.setCells (w.heap.size + 1) 3 (idC idl) = w4 at B4 E4 hB4 hZ4 ⊢
 clear B3 E3 hB3 hZ3 HTH
 go_wp2_with (first
  | (go_at_call 171; fail))
 refine (HG1.out _).mono ?_
 rintro r w5 ⟨rfl, rfl⟩
 go_wp2_with (first
  | (go_at_call 169; fail))
 refine (HB1.out _).mono ?_
 rintro r w5 ⟨rfl, rfl⟩
 have T0 : CtW w z (s[0].toNat : Int) idl N R 0 ab.data.toList [] w4 := ⟨HPV.out.symm, ⟨nilV, World.ownsRow_nil _ _ _ _, B4⟩, E4.out, hB4, hZ4, hA5, rfl, fun e he => by cases he⟩
 clear B4 E4 hB4 hZ4 HPV
 go_wp2_with fail
 go_loopw [4, 12] (fun a4 a12 W => ∃ (j : Nat) (l : List UInt8) (lb : ByteArray) (acc : List (List UInt8)), a4 = .string lb ∧ a12 = .int .u64 j ∧ j ≤ N ∧ Hid (lb.data.toList = l) ∧ CtW w z (s[0].toNat : Int) idl N R j l acc W) (fun _ a12 _ => N - (intOf a12).toNat)
 case atStart => exact ⟨0, _, ab, [], rfl, rfl, Nat.zero_le _, Lib.hid rfl, T0⟩
 case round =>
  obtain ⟨j, l, lb, acc, rfl, rfl, hj, HL, T⟩ := hrel
  clear T0
  by_cases hjN : j < N
  ·
   have hfew2 : acc.length ≤ 9 := by have := T.few; omega
   have hc3 : (j : Int) < (n1 : Int) := by omega
   have hc2 : (j : Int) < 9 := by omega
   have hj9 : j < 9 := by omega
   have hlen := T.len
   have hfewx : True := trivial
   have hlb : lb = ⟨l.toArray⟩ := bytes_ext (by rw [HL.out])
   have hid : ∀ W, Calls Tryz.prog 170 #[.string lb] W fun r w' => r = .returned (.agg (idC (Rm.idG l)).toArray) ∧ Below W.heap.size W w' := fun W => by have h := refid_l l W (by omega); rw [← hlb] at h; exact h
   have hb3 : ∀ W, Calls Tryz.prog 169 #[.string lb, .int .i64 32] W fun r w' => r = .returned (.string ⟨(l.drop 32).toArray⟩) ∧ W = w' := fun W => by have h := behind_32 l W (by omega); rw [← hlb] at h; exact h
   have hnx : ((⟨(l.drop 32).toArray⟩ : ByteArray)).data.toList = l.drop 32 := by simp
   have hil2 := Rm.idG_len l
   have HNXT : Hid (∀ (W' : World) (v' : Value), W'.ownsRow (w.heap.size + 2) 46 32 v' (acc.length + 1) (acc.flatMap idC ++ idC (Rm.idG l)) → Bx W' (w.heap.size + 1) { noOb with kind := (s[0].toNat : Int), tree := idl, pars := acc ++ [Rm.idG l] } nilV v' → W'.heap[w.heap.size]? = some (.cells z 59) → Below w.heap.size w W' → w.heap.size + 2 ≤ W'.heap.size → CtW w z (s[0].toNat : Int) idl N R (j + 1) (l.drop 32) (acc ++ [Rm.idG l]) W') := fun W' v' a b c d e => T.next hjN a b c d e
   generalize (⟨(l.drop 32).toArray⟩ : ByteArray) = tn at hb3 hnx
   generalize Rm.idG l = ei at hid hil2 HNXT
   have HID := Lib.hid hid
   have HB3 := Lib.hid hb3
   have HEL := Lib.hid hil2
   have HNX := Lib.hid hnx
   obtain ⟨pv, O1, B1⟩ := T.row
   have E1 := Lib.hid T.box
   have hB1 := T.below
   have hbg1 := T.big
   obtain ⟨pa, cap, rfl⟩ := own_form O1
   have HFA := Lib.hid (obC_F { noOb with kind := (s[0].toNat : Int), tree := idl, pars := acc } nilV (.slice pa acc.length cap) HIL.out rfl rfl rfl)
   clear T hlb hid hb3 hil2 hnx
   go_wp2_with fail
   have O0 : wr.drew.ownsRow (w.heap.size + 2) 46 32 (.slice pa acc.length cap) acc.length (acc.flatMap idC) := O1
   have B0 : Bx wr.drew (w.heap.size + 1) { noOb with kind := (s[0].toNat : Int), tree := idl, pars := acc } nilV (.slice pa acc.length cap) := B1
   have E0 := Lib.hid (show wr.drew.heap[w.heap.size]? = some (.cells z 59) from E1.out)
   have hB0 := hB1.drew
   have hbg0 : w.heap.size + 2 ≤ wr.drew.heap.size := hbg1
   clear O1 B1 E1 hB1 hbg1
   refine wp_region_noPanic ?_
   refine wp_region_held_drew (S := fun _ => True) (by kernel_rfl) trivial (fun _ => ?_)
   generalize wr.drew = wd at O0 B0 E0 hB0 hbg0 ⊢
   refine tk (i := 0) (v := ?_) ?_ ?_
   rotate_left
   · intro W hS; go_simp; try rfl
   try simp only [q0]
   refine tk (i := 2) (v := ?_) ?_ ?_
   rotate_left
   · intro W hS; go_simp; try rfl
   try simp only [q0]
   have c2 := B0.cell 35 _ HFA.out.c35
   have f2 := B0.fr 35
   refine wpAnyH_ready (rs := [1, 3]) (by kernel_rfl) (by simp) ?_
   refine AllReadyH.cons rfl (fun K hK => ?_) ?_
   rotate_left
   ·
    refine AllReadyH.cons rfl (fun K hK => ?_) AllReadyH.nil
    go_simp
    refine (HID.out _).mono ?_
    rintro r w2 ⟨rfl, hx2⟩
    go_wp2_with fail
    refine hK.out _ _ trivial (fun _ => ?_)
    clear hK K
    try simp only [q0]
    have B2 : Bx w2 (w.heap.size + 1) { noOb with kind := (s[0].toNat : Int), tree := idl, pars := acc } nilV (.slice pa acc.length cap) := B0.below hx2
    have E2 := Lib.hid ((hx2.block w.heap.size (by omega)).trans E0.out)
    have hBl2 := hB0.trans (hx2.mono hB0.size)
    have hbg2 := Nat.le_trans hbg0 hx2.size
    have O2 : w2.ownsRow (w.heap.size + 2) 46 32 (.slice pa acc.length cap) acc.length (acc.flatMap idC) := own_below O0 hx2
    clear B0 E0 hB0 hbg0 O0 hx2
    clear c2 f2
    have c2b := B2.cell 35 _ HFA.out.c35
    have f2b := B2.fr 35
    refine wpAnyH_ready (rs := [1, 4]) (by kernel_rfl) (by simp) ?_
    refine AllReadyH.cons rfl (fun K hK => ?_) ?_
    rotate_left
    ·
     refine AllReadyH.cons rfl (fun K hK => ?_) AllReadyH.nil
     rw [if_pos (by rfl)]
     refine wp_bs_id rfl rfl HEL.out ?_
     refine hK.out _ _ trivial (fun _ => ?_)
     clear hK K
     try simp only [q0]
     have BA : Bx (w2.alloc (.cells (idC ei).toArray 46)) (w.heap.size + 1) { noOb with kind := (s[0].toNat : Int), tree := idl, pars := acc } nilV (.slice pa acc.length cap) := held_alloc B2
     have c2c := BA.cell 35 _ HFA.out.c35
     have f2c := BA.fr 35
     refine wpAnyH_ready (rs := [1]) (by kernel_rfl) (by simp) ?_
     refine AllReadyH.cons rfl (fun K hK => ?_) AllReadyH.nil
     go_simp
     refine hK.out _ _ trivial (fun _ => ?_)
     clear hK K
     try simp only [q0]
     clear c2c f2c BA
     refine wpAnyH_ready (rs := [5]) (by kernel_rfl) (by simp) ?_
     refine AllReadyH.cons rfl (fun K hK => ?_) AllReadyH.nil
     rw [if_pos (by rfl)]
     refine wp_append_own _ _ _ 34 rfl (w.heap.size + 2) 46 i0 (.agg (idC zId).toArray) 32 32 Tryz.underlying34 hi hz0 hz1 hz2 (by decide) (by decide) _ _ _ rfl (World.ownsRow.alloc O2 _) ⟨_, 0, none⟩ 1 1 (idC ei) rfl (by rw [idC_length]; exact HEL.out) (news_at (heap_alloc_last _ _)) (idC_one _) (by unfold maxLen; omega) (by omega) (by have := hbg2; simp; omega) ?_
     intro v' w5 hown' hgrow _
     refine hK.out _ _ trivial (fun _ => ?_)
     clear hK K
     try simp only [q0]
     have B5 : Bx w5 (w.heap.size + 1) { noOb with kind := (s[0].toNat : Int), tree := idl, pars := acc } nilV (.slice pa acc.length cap) := held_own (held_alloc B2) (World.ownsRow.alloc O2 _) hgrow (by omega)
     have E5 := held_own (held_alloc E2.out) (World.ownsRow.alloc O2 _) hgrow (by omega)
     have G5 : Below w.heap.size w w5 := ((hBl2.alloc hBl2.size _).grown hgrow (by have := hBl2.size; simp; omega) (fun k hk => by have := (O2.lt k hk).1; omega))
     have S5 : w.heap.size + 2 ≤ w5.heap.size := by have := hgrow.size; simp at this; omega
     have c5 := B5.cell 35 _ HFA.out.c35
     have f5 := B5.fr 35
     refine tk (i := 6) (v := ?_) ?_ ?_
     rotate_left
     · intro W hS; go_simp; try rfl
     try simp only [q0]
     obtain ⟨pa', cap', rfl⟩ := own_form hown'
     refine wpAnyH_ready (rs := [7]) (by kernel_rfl) (by simp) ?_
     refine AllReadyH.cons rfl (fun K hK => ?_) AllReadyH.nil
     go_simp
     refine hK.out _ _ trivial (fun _ => ?_)
     clear hK K
     try simp only [q0]
     refine wpAnyH_done (by kernel_rfl) ?_ _
     refine NoPanic.normal ?_
     have B6 := B5.pars (.slice pa' (acc.length + 1) cap') (acc ++ [ei]) HIL.out
     have O6 := own_keep hown' (b := w.heap.size + 1) (grown_set w5 (w.heap.size + 1) 35 (.slice pa' (acc.length + 1) cap')) (by omega)
     have E6 := (heap_setCell_other w5 ⟨w.heap.size + 1, 35, none⟩ w.heap.size (.slice pa' (acc.length + 1) cap') (by simp)).trans E5
     have G6 := G5.setCell (p := ⟨w.heap.size + 1, 35, none⟩) (by simp) (.slice pa' (acc.length + 1) cap')
     have S6 : w.heap.size + 2 ≤ (w5.setCell ⟨w.heap.size + 1, 35, none⟩ (.slice pa' (acc.length + 1) cap')).heap.size := by simp [World.setCell]; omega
     have T6 := HNXT.out _ _ O6 B6 E6 G6 S6
     generalize w5.setCell ⟨w.heap.size + 1, 35, none⟩ (.slice pa' (acc.length + 1) cap') = w6 at T6 ⊢
     clear B6 O6 E6 G6 S6 hown' hgrow B5 E5 G5 S5 c5 f5 B2 O2 E2 hBl2 hbg2
     go_wp2_with fail
     refine (HB3.out _).mono ?_
     rintro r w7 ⟨rfl, rfl⟩
     go_wp2
     go_roundw
     case rel => exact ⟨j + 1, _, tn, _, rfl, by go_num, by omega, HNX, T6⟩
     case measure => simp [intOf]; omega
    go_simp
    refine hK.out _ _ trivial (fun _ => ?_)
    clear hK K
    try simp only [q0]
    clear c2b f2b
    refine wpAnyH_ready (rs := [4]) (by kernel_rfl) (by simp) ?_
    refine AllReadyH.cons rfl (fun K hK => ?_) AllReadyH.nil
    rw [if_pos (by rfl)]
    refine wp_bs_id rfl rfl HEL.out ?_
    refine hK.out _ _ trivial (fun _ => ?_)
    clear hK K
    try simp only [q0]
    refine wpAnyH_ready (rs := [5]) (by kernel_rfl) (by simp) ?_
    refine AllReadyH.cons rfl (fun K hK => ?_) AllReadyH.nil
    rw [if_pos (by rfl)]
    refine wp_append_own _ _ _ 34 rfl (w.heap.size + 2) 46 i0 (.agg (idC zId).toArray) 32 32 Tryz.underlying34 hi hz0 hz1 hz2 (by decide) (by decide) _ _ _ rfl (World.ownsRow.alloc O2 _) ⟨_, 0, none⟩ 1 1 (idC ei) rfl (by rw [idC_length]; exact HEL.out) (news_at (heap_alloc_last _ _)) (idC_one _) (by unfold maxLen; omega) (by omega) (by have := hbg2; simp; omega) ?_
    intro v' w5 hown' hgrow _
    refine hK.out _ _ trivial (fun _ => ?_)
    clear hK K
    try simp only [q0]
    have B5 : Bx w5 (w.heap.size + 1) { noOb with kind := (s[0].toNat : Int), tree := idl, pars := acc } nilV (.slice pa acc.length cap) := held_own (held_alloc B2) (World.ownsRow.alloc O2 _) hgrow (by omega)
    have E5 := held_own (held_alloc E2.out) (World.ownsRow.alloc O2 _) hgrow (by omega)
    have G5 : Below w.heap.size w w5 := ((hBl2.alloc hBl2.size _).grown hgrow (by have := hBl2.size; simp; omega) (fun k hk => by have := (O2.lt k hk).1; omega))
    have S5 : w.heap.size + 2 ≤ w5.heap.size := by have := hgrow.size; simp at this; omega
    have c5 := B5.cell 35 _ HFA.out.c35
    have f5 := B5.fr 35
    refine tk (i := 6) (v := ?_) ?_ ?_
    rotate_left
    · intro W hS; go_simp; try rfl
    try simp only [q0]
    obtain ⟨pa', cap', rfl⟩ := own_form hown'
    refine wpAnyH_ready (rs := [7]) (by kernel_rfl) (by simp) ?_
    refine AllReadyH.cons rfl (fun K hK => ?_) AllReadyH.nil
    go_simp
    refine hK.out _ _ trivial (fun _ => ?_)
    clear hK K
    try simp only [q0]
    refine wpAnyH_done (by kernel_rfl) ?_ _
    refine NoPanic.normal ?_
    have B6 := B5.pars (.slice pa' (acc.length + 1) cap') (acc ++ [ei]) HIL.out
    have O6 := own_keep hown' (b := w.heap.size + 1) (grown_set w5 (w.heap.size + 1) 35 (.slice pa' (acc.length + 1) cap')) (by omega)
    have E6 := (heap_setCell_other w5 ⟨w.heap.size + 1, 35, none⟩ w.heap.size (.slice pa' (acc.length + 1) cap') (by simp)).trans E5
    have G6 := G5.setCell (p := ⟨w.heap.size + 1, 35, none⟩) (by simp) (.slice pa' (acc.length + 1) cap')
    have S6 : w.heap.size + 2 ≤ (w5.setCell ⟨w.heap.size + 1, 35, none⟩ (.slice pa' (acc.length + 1) cap')).heap.size := by simp [World.setCell]; omega
    have T6 := HNXT.out _ _ O6 B6 E6 G6 S6
    generalize w5.setCell ⟨w.heap.size + 1, 35, none⟩ (.slice pa' (acc.length + 1) cap') = w6 at T6 ⊢
    clear B6 O6 E6 G6 S6 hown' hgrow B5 E5 G5 S5 c5 f5 B2 O2 E2 hBl2 hbg2
    go_wp2_with fail
    refine (HB3.out _).mono ?_
    rintro r w7 ⟨rfl, rfl⟩
    go_wp2
    go_roundw
    case rel => exact ⟨j + 1, _, tn, _, rfl, by go_num, by omega, HNX, T6⟩
    case measure => simp [intOf]; omega
   go_simp
   refine hK.out _ _ trivial (fun _ => ?_)
   clear hK K
   try simp only [q0]
   clear c2 f2
   refine wpAnyH_ready (rs := [3]) (by kernel_rfl) (by simp) ?_
   refine AllReadyH.cons rfl (fun K hK => ?_) AllReadyH.nil
   go_simp
   refine (HID.out _).mono ?_
   rintro r w2 ⟨rfl, hx2⟩
   go_wp2_with fail
   refine hK.out _ _ trivial (fun _ => ?_)
   clear hK K
   try simp only [q0]
   have B2 : Bx w2 (w.heap.size + 1) { noOb with kind := (s[0].toNat : Int), tree := idl, pars := acc } nilV (.slice pa acc.length cap) := B0.below hx2
   have E2 := Lib.hid ((hx2.block w.heap.size (by omega)).trans E0.out)
   have hBl2 := hB0.trans (hx2.mono hB0.size)
   have hbg2 := Nat.le_trans hbg0 hx2.size
   have O2 : w2.ownsRow (w.heap.size + 2) 46 32 (.slice pa acc.length cap) acc.length (acc.flatMap idC) := own_below O0 hx2
   clear B0 E0 hB0 hbg0 O0 hx2
   refine wpAnyH_ready (rs := [4]) (by kernel_rfl) (by simp) ?_
   refine AllReadyH.cons rfl (fun K hK => ?_) AllReadyH.nil
   rw [if_pos (by rfl)]
   refine wp_bs_id rfl rfl HEL.out ?_
   refine hK.out _ _ trivial (fun _ => ?_)
   clear hK K
   try simp only [q0]
   refine wpAnyH_ready (rs := [5]) (by kernel_rfl) (by simp) ?_
   refine AllReadyH.cons rfl (fun K hK => ?_) AllReadyH.nil
   rw [if_pos (by rfl)]
   refine wp_append_own _ _ _ 34 rfl (w.heap.size + 2) 46 i0 (.agg (idC zId).toArray) 32 32 Tryz.underlying34 hi hz0 hz1 hz2 (by decide) (by decide) _ _ _ rfl (World.ownsRow.alloc O2 _) ⟨_, 0, none⟩ 1 1 (idC ei) rfl (by rw [idC_length]; exact HEL.out) (news_at (heap_alloc_last _ _)) (idC_one _) (by unfold maxLen; omega) (by omega) (by have := hbg2; simp; omega) ?_
   intro v' w5 hown' hgrow _
   refine hK.out _ _ trivial (fun _ => ?_)
   clear hK K
   try simp only [q0]
   have B5 : Bx w5 (w.heap.size + 1) { noOb with kind := (s[0].toNat : Int), tree := idl, pars := acc } nilV (.slice pa acc.length cap) := held_own (held_alloc B2) (World.ownsRow.alloc O2 _) hgrow (by omega)
   have E5 := held_own (held_alloc E2.out) (World.ownsRow.alloc O2 _) hgrow (by omega)
   have G5 : Below w.heap.size w w5 := ((hBl2.alloc hBl2.size _).grown hgrow (by have := hBl2.size; simp; omega) (fun k hk => by have := (O2.lt k hk).1; omega))
   have S5 : w.heap.size + 2 ≤ w5.heap.size := by have := hgrow.size; simp at this; omega
   have c5 := B5.cell 35 _ HFA.out.c35
   have f5 := B5.fr 35
   refine tk (i := 6) (v := ?_) ?_ ?_
   rotate_left
   · intro W hS; go_simp; try rfl
   try simp only [q0]
   obtain ⟨pa', cap', rfl⟩ := own_form hown'
   refine wpAnyH_ready (rs := [7]) (by kernel_rfl) (by simp) ?_
   refine AllReadyH.cons rfl (fun K hK => ?_) AllReadyH.nil
   go_simp
   refine hK.out _ _ trivial (fun _ => ?_)
   clear hK K
   try simp only [q0]
   refine wpAnyH_done (by kernel_rfl) ?_ _
   refine NoPanic.normal ?_
   have B6 := B5.pars (.slice pa' (acc.length + 1) cap') (acc ++ [ei]) HIL.out
   have O6 := own_keep hown' (b := w.heap.size + 1) (grown_set w5 (w.heap.size + 1) 35 (.slice pa' (acc.length + 1) cap')) (by omega)
   have E6 := (heap_setCell_other w5 ⟨w.heap.size + 1, 35, none⟩ w.heap.size (.slice pa' (acc.length + 1) cap') (by simp)).trans E5
   have G6 := G5.setCell (p := ⟨w.heap.size + 1, 35, none⟩) (by simp) (.slice pa' (acc.length + 1) cap')
   have S6 : w.heap.size + 2 ≤ (w5.setCell ⟨w.heap.size + 1, 35, none⟩ (.slice pa' (acc.length + 1) cap')).heap.size := by simp [World.setCell]; omega
   have T6 := HNXT.out _ _ O6 B6 E6 G6 S6
   generalize w5.setCell ⟨w.heap.size + 1, 35, none⟩ (.slice pa' (acc.length + 1) cap') = w6 at T6 ⊢
   clear B6 O6 E6 G6 S6 hown' hgrow B5 E5 G5 S5 c5 f5 B2 O2 E2 hBl2 hbg2
   go_wp2_with fail
   refine (HB3.out _).mono ?_
   rintro r w7 ⟨rfl, rfl⟩
   go_wp2
   go_roundw
   case rel => exact ⟨j + 1, _, tn, _, rfl, by go_num, by omega, HNX, T6⟩
   case measure => simp [intOf]; omega
  ·
   have hjn : j = N := by omega
   have hR : (acc, l) = R := by
    have := T.wk
    rw [hjn, Nat.sub_self] at this
    exact this
   subst hR
   by_cases hc1 : j < n1
   ·
    have hc2 : ¬ (j : Int) < 9 := by omega
    have hc3 : (j : Int) < (n1 : Int) := by omega
    clear hjN
    have hlb : lb = ⟨l.toArray⟩ := bytes_ext (by rw [HL.out])
    have hlen := T.len
    have hge2 := Rm.getG_le l
    have hg2 : ∀ W, Calls Tryz.prog 171 #[.string lb] W fun r w' => r = .returned (.tuple #[.int .u64 (Rm.getG l).1, .int .i64 (Rm.getG l).2]) ∧ W = w' := fun W => by have h := reget_l l W (by omega); rw [← hlb] at h; exact h
    have hb2 : ∀ W, Calls Tryz.prog 169 #[.string lb, .int .i64 (Rm.getG l).2] W fun r w' => r = .returned (.string ⟨(l.drop (Rm.getG l).2).toArray⟩) ∧ W = w' := fun W => by have h := behind_l l (Rm.getG l).2 W (by omega) (by omega); rw [← hlb] at h; exact h
    have ht2 := fun W => retake_l (l.drop (Rm.getG l).2) W (by rw [List.length_drop]; omega)
    have hT2 : TT = (Rm.getG l).1 % 4294967296 := HTV.out
    have hX2 : X = (Rm.takeG (l.drop (Rm.getG l).2)).1 := HXV.out
    generalize Rm.getG l = g2 at hg2 hb2 ht2 hT2 hX2 hge2
    obtain ⟨tv, q⟩ := g2
    generalize (⟨(l.drop (tv, q).2).toArray⟩ : ByteArray) = d3 at hb2 ht2
    generalize Rm.takeG (l.drop (tv, q).2) = tk3 at ht2 hX2
    obtain ⟨xl, xm⟩ := tk3
    have hX3 : X = xl := hX2
    subst hX3
    obtain ⟨xb, rfl⟩ : ∃ xb : ByteArray, X = xb.data.toList := ⟨⟨X.toArray⟩, by simp⟩
    have hT3 : TT = tv % 4294967296 := hT2
    have hTb : TT < 4294967296 := by omega
    have htvb : tv < 18446744073709551616 := hge2.2
    have HGF4 := Lib.hid (show Rm.guessF s.data.toList = { noOb with kind := (s[0].toNat : Int), tree := idl, pars := acc, time := TT, text := xb } from HGF3.out)
    have HG2 := Lib.hid (fun W => show Calls Tryz.prog 171 #[.string lb] W fun r w' => r = .returned (.tuple #[.int .u64 tv, .int .i64 q]) ∧ W = w' from hg2 W)
    have HB2 := Lib.hid (fun W => show Calls Tryz.prog 169 #[.string lb, .int .i64 q] W fun r w' => r = .returned (.string d3) ∧ W = w' from hb2 W)
    have HT2 := Lib.hid (fun W => show Calls Tryz.prog 168 #[.string d3] W fun r w' => r = .returned (.tuple #[.string xb, .int .i64 xm]) ∧ W = w' from ht2 W)
    have hti : (tv : Int) % 4294967296 = (TT : Int) := by omega
    have htm : Int.tmod (tv : Int) 4294967296 = (TT : Int) := by rw [Int.tmod_eq_emod_of_nonneg (Int.natCast_nonneg _)]; exact hti
    clear hlb hge2 hg2 hb2 ht2 hT2 hX2 hT3 HGF3 HTV HXV
    obtain ⟨pv, O1, B1⟩ := T.row
    have E1 := Lib.hid T.box
    have hB1 := T.below
    have HT := Lib.hid T
    have hfew := T.few
    obtain ⟨pa, cap, rfl⟩ := own_form O1
    have HF1 := Lib.hid (obC_F { noOb with kind := (s[0].toNat : Int), tree := idl, pars := acc } nilV (.slice pa acc.length cap) HIL.out rfl rfl rfl)
    have c36 := B1.cell 36 _ HF1.out.c36
    have f36 := B1.fr 36
    clear T
    go_wp2_with (first
     | (go_at_call 171; fail))
    refine (HG2.out _).mono ?_
    rintro r w5 ⟨rfl, rfl⟩
    go_wp2_with (first
     | (go_at_call 169; fail))
    refine (HB2.out _).mono ?_
    rintro r w5 ⟨rfl, rfl⟩
    have B2 := B1.time TT HIL.out
    have E2 := Lib.hid ((heap_setCell_other wr ⟨w.heap.size + 1, 36, none⟩ w.heap.size (.int .u32 (TT : Int)) (by simp)).trans E1.out)
    have hB2 := hB1.setCell (p := ⟨w.heap.size + 1, 36, none⟩) (by simp) (.int .u32 (TT : Int))
    have O2 := own_keep O1 (b := w.heap.size + 1) (grown_set wr (w.heap.size + 1) 36 (.int .u32 (TT : Int))) (by omega)
    generalize wr.setCell ⟨w.heap.size + 1, 36, none⟩ (.int .u32 (TT : Int)) = w6 at B2 E2 hB2 O2 ⊢
    clear B1 E1 hB1 O1 c36 f36
    go_wp2_with fail
    refine (HT2.out _).mono ?_
    rintro r w7 ⟨rfl, rfl⟩
    have HF2 := Lib.hid (obC_F { noOb with kind := (s[0].toNat : Int), tree := idl, pars := acc, time := TT } nilV (.slice pa acc.length cap) HIL.out rfl rfl rfl)
    have c37 := B2.cell 37 _ HF2.out.c37
    have f37 := B2.fr 37
    have B3 := Lib.hid (B2.text xb HIL.out)
    have E3 := Lib.hid ((heap_setCell_other w6 ⟨w.heap.size + 1, 37, none⟩ w.heap.size (.string xb) (by simp)).trans E2.out)
    have hB3 := hB2.setCell (p := ⟨w.heap.size + 1, 37, none⟩) (by simp) (.string xb)
    have O3 := own_keep O2 (b := w.heap.size + 1) (grown_set w6 (w.heap.size + 1) 37 (.string xb)) (by omega)
    have HF3 := Lib.hid (obC_F { noOb with kind := (s[0].toNat : Int), tree := idl, pars := acc, time := TT, text := xb } nilV (.slice pa acc.length cap) HIL.out rfl rfl rfl)
    go_wp2_with (first
     | ((with_reducible refine ld_obr (x := .tmp 3) ?_ ?_ ?_ B3.out.held HF3.out.size ?_); rfl; rfl; rfl)
     | ((with_reducible refine st_obr (x := .tmp 2) (y := .tmp 138) ?_ ?_ ?_ ?_ E3.out HS0.out HF3.out.size HF3.out.one ?_); rfl; rfl; rfl; rfl))
    refine bodyPost_ret (results_cell_row (fn := Tryz.f130) (p := 2) (by rfl) _ _ w.heap.size _ _ _ _ (by rfl) (setRow_heap _ _ _ _ _ _ E3.out) Tryz.underlying59 rfl (obsize HF3.out.size)) rfl ⟨_, none, pa, 0, cap, rfl, ?_, below_setRow hB3 (Nat.le_refl _) _, fun a ha => by rcases ha with ha | ha; cases ha; exact own_new O3 (by omega) a ha⟩
    rw [HGF4.out]
    have hown : ((w6.setCell ⟨w.heap.size + 1, 37, none⟩ (.string xb)).setRow w.heap.size (obC { noOb with kind := (s[0].toNat : Int), tree := idl, pars := acc, time := TT, text := xb } nilV (.slice pa acc.length cap)).toArray).ownsRow (w.heap.size + 2) 46 32 (.slice pa acc.length cap) acc.length (acc.flatMap idC) := own_keep O3 (b := w.heap.size) ⟨rfl, rfl, rfl, by rw [setRow_size]; exact Nat.le_refl _, fun k _ hk => setRow_other _ _ _ _ (by simpa using hk)⟩ (by omega)
    exact ⟨HF3.out, RowsAt.nil _ _, own_rows idC 32 hown (fun e he => by rw [idC_length]; exact HT.out.ids e he), (fun e he => by cases he), (fun e he => by cases he), HT.out.ids, Nat.zero_le _, (show acc.length ≤ maxLen by unfold maxLen; omega), (show (0 : Nat) ≤ maxLen from Nat.zero_le _), hTb⟩
   ·
    have hc3 : ¬ (j : Int) < (n1 : Int) := by omega
    clear hjN
    have hlb : lb = ⟨l.toArray⟩ := bytes_ext (by rw [HL.out])
    have hlen := T.len
    have hge2 := Rm.getG_le l
    have hg2 : ∀ W, Calls Tryz.prog 171 #[.string lb] W fun r w' => r = .returned (.tuple #[.int .u64 (Rm.getG l).1, .int .i64 (Rm.getG l).2]) ∧ W = w' := fun W => by have h := reget_l l W (by omega); rw [← hlb] at h; exact h
    have hb2 : ∀ W, Calls Tryz.prog 169 #[.string lb, .int .i64 (Rm.getG l).2] W fun r w' => r = .returned (.string ⟨(l.drop (Rm.getG l).2).toArray⟩) ∧ W = w' := fun W => by have h := behind_l l (Rm.getG l).2 W (by omega) (by omega); rw [← hlb] at h; exact h
    have ht2 := fun W => retake_l (l.drop (Rm.getG l).2) W (by rw [List.length_drop]; omega)
    have hT2 : TT = (Rm.getG l).1 % 4294967296 := HTV.out
    have hX2 : X = (Rm.takeG (l.drop (Rm.getG l).2)).1 := HXV.out
    generalize Rm.getG l = g2 at hg2 hb2 ht2 hT2 hX2 hge2
    obtain ⟨tv, q⟩ := g2
    generalize (⟨(l.drop (tv, q).2).toArray⟩ : ByteArray) = d3 at hb2 ht2
    generalize Rm.takeG (l.drop (tv, q).2) = tk3 at ht2 hX2
    obtain ⟨xl, xm⟩ := tk3
    have hX3 : X = xl := hX2
    subst hX3
    obtain ⟨xb, rfl⟩ : ∃ xb : ByteArray, X = xb.data.toList := ⟨⟨X.toArray⟩, by simp⟩
    have hT3 : TT = tv % 4294967296 := hT2
    have hTb : TT < 4294967296 := by omega
    have htvb : tv < 18446744073709551616 := hge2.2
    have HGF4 := Lib.hid (show Rm.guessF s.data.toList = { noOb with kind := (s[0].toNat : Int), tree := idl, pars := acc, time := TT, text := xb } from HGF3.out)
    have HG2 := Lib.hid (fun W => show Calls Tryz.prog 171 #[.string lb] W fun r w' => r = .returned (.tuple #[.int .u64 tv, .int .i64 q]) ∧ W = w' from hg2 W)
    have HB2 := Lib.hid (fun W => show Calls Tryz.prog 169 #[.string lb, .int .i64 q] W fun r w' => r = .returned (.string d3) ∧ W = w' from hb2 W)
    have HT2 := Lib.hid (fun W => show Calls Tryz.prog 168 #[.string d3] W fun r w' => r = .returned (.tuple #[.string xb, .int .i64 xm]) ∧ W = w' from ht2 W)
    have hti : (tv : Int) % 4294967296 = (TT : Int) := by omega
    have htm : Int.tmod (tv : Int) 4294967296 = (TT : Int) := by rw [Int.tmod_eq_emod_of_nonneg (Int.natCast_nonneg _)]; exact hti
    clear hlb hge2 hg2 hb2 ht2 hT2 hX2 hT3 HGF3 HTV HXV
    obtain ⟨pv, O1, B1⟩ := T.row
    have E1 := Lib.hid T.box
    have hB1 := T.below
    have HT := Lib.hid T
    have hfew := T.few
    obtain ⟨pa, cap, rfl⟩ := own_form O1
    have HF1 := Lib.hid (obC_F { noOb with kind := (s[0].toNat : Int), tree := idl, pars := acc } nilV (.slice pa acc.length cap) HIL.out rfl rfl rfl)
    have c36 := B1.cell 36 _ HF1.out.c36
    have f36 := B1.fr 36
    clear T
    go_wp2_with (first
     | (go_at_call 171; fail))
    refine (HG2.out _).mono ?_
    rintro r w5 ⟨rfl, rfl⟩
    go_wp2_with (first
     | (go_at_call 169; fail))
    refine (HB2.out _).mono ?_
    rintro r w5 ⟨rfl, rfl⟩
    have B2 := B1.time TT HIL.out
    have E2 := Lib.hid ((heap_setCell_other wr ⟨w.heap.size + 1, 36, none⟩ w.heap.size (.int .u32 (TT : Int)) (by simp)).trans E1.out)
    have hB2 := hB1.setCell (p := ⟨w.heap.size + 1, 36, none⟩) (by simp) (.int .u32 (TT : Int))
    have O2 := own_keep O1 (b := w.heap.size + 1) (grown_set wr (w.heap.size + 1) 36 (.int .u32 (TT : Int))) (by omega)
    generalize wr.setCell ⟨w.heap.size + 1, 36, none⟩ (.int .u32 (TT : Int)) = w6 at B2 E2 hB2 O2 ⊢
    clear B1 E1 hB1 O1 c36 f36
    go_wp2_with fail
    refine (HT2.out _).mono ?_
    rintro r w7 ⟨rfl, rfl⟩
    have HF2 := Lib.hid (obC_F { noOb with kind := (s[0].toNat : Int), tree := idl, pars := acc, time := TT } nilV (.slice pa acc.length cap) HIL.out rfl rfl rfl)
    have c37 := B2.cell 37 _ HF2.out.c37
    have f37 := B2.fr 37
    have B3 := Lib.hid (B2.text xb HIL.out)
    have E3 := Lib.hid ((heap_setCell_other w6 ⟨w.heap.size + 1, 37, none⟩ w.heap.size (.string xb) (by simp)).trans E2.out)
    have hB3 := hB2.setCell (p := ⟨w.heap.size + 1, 37, none⟩) (by simp) (.string xb)
    have O3 := own_keep O2 (b := w.heap.size + 1) (grown_set w6 (w.heap.size + 1) 37 (.string xb)) (by omega)
    have HF3 := Lib.hid (obC_F { noOb with kind := (s[0].toNat : Int), tree := idl, pars := acc, time := TT, text := xb } nilV (.slice pa acc.length cap) HIL.out rfl rfl rfl)
    go_wp2_with (first
     | ((with_reducible refine ld_obr (x := .tmp 3) ?_ ?_ ?_ B3.out.held HF3.out.size ?_); rfl; rfl; rfl)
     | ((with_reducible refine st_obr (x := .tmp 2) (y := .tmp 138) ?_ ?_ ?_ ?_ E3.out HS0.out HF3.out.size HF3.out.one ?_); rfl; rfl; rfl; rfl))
    refine bodyPost_ret (results_cell_row (fn := Tryz.f130) (p := 2) (by rfl) _ _ w.heap.size _ _ _ _ (by rfl) (setRow_heap _ _ _ _ _ _ E3.out) Tryz.underlying59 rfl (obsize HF3.out.size)) rfl ⟨_, none, pa, 0, cap, rfl, ?_, below_setRow hB3 (Nat.le_refl _) _, fun a ha => by rcases ha with ha | ha; cases ha; exact own_new O3 (by omega) a ha⟩
    rw [HGF4.out]
    have hown : ((w6.setCell ⟨w.heap.size + 1, 37, none⟩ (.string xb)).setRow w.heap.size (obC { noOb with kind := (s[0].toNat : Int), tree := idl, pars := acc, time := TT, text := xb } nilV (.slice pa acc.length cap)).toArray).ownsRow (w.heap.size + 2) 46 32 (.slice pa acc.length cap) acc.length (acc.flatMap idC) := own_keep O3 (b := w.heap.size) ⟨rfl, rfl, rfl, by rw [setRow_size]; exact Nat.le_refl _, fun k _ hk => setRow_other _ _ _ _ (by simpa using hk)⟩ (by omega)
    exact ⟨HF3.out, RowsAt.nil _ _, own_rows idC 32 hown (fun e he => by rw [idC_length]; exact HT.out.ids e he), (fun e he => by cases he), (fun e he => by cases he), HT.out.ids, Nat.zero_le _, (show acc.length ≤ maxLen by unfold maxLen; omega), (show (0 : Nat) ≤ maxLen from Nat.zero_le _), hTb⟩
end Go.Proofs.YtkcjhkfelaplkaaGreatDoor
end
section
namespace Go.Proofs.YtkcjhkfelaplkaaGreatDoor
open Go.RowKit
theorem guess_any (s : ByteArray) (w : World) (h0 : 0 < s.size) (hs : s.size ≤ 5000) :
  Calls Tryz.prog 130 #[.string s] w (Gsd s.data.toList w) := by
 by_cases hm : (Rm.takeG (s.data.toList.drop 1)).2 = 0
 · exact guess_none s w h0 hs hm
 by_cases h1 : (s[0].toNat : Int) = 1
 · exact guess_blob s w h0 hs hm h1
 by_cases h2 : (s[0].toNat : Int) = 2
 · exact guess_tree s w h0 hs hm h2
 by_cases h3 : (s[0].toNat : Int) = 3
 · exact guess_commit s w h0 hs hm h3
 by_cases h4 : (s[0].toNat : Int) = 4
 ·
  by_cases ht : (Rm.takeG (s.data.toList.drop 1)).1 = []
  · exact guess_tag1 s w h0 hs hm h4 ht
  · exact guess_tag2 s w h0 hs hm h4 ht
 · exact guess_other s w h0 hs hm (by omega)
theorem cgX_len (t : List UInt8) : (Rm.cgX t).length ≤ t.length := by
 unfold Rm.cgX Rm.cgP
 have h1 := (Rm.parsG_len (Rm.cgN t) (Rm.cgA t) []).2
 have h2 : (Rm.cgA t).length ≤ t.length := by unfold Rm.cgA; rw [List.length_drop, List.length_drop]; omega
 generalize Rm.parsG (Rm.cgN t) (Rm.cgA t) [] = p at h1 ⊢
 have h3 := (Rm.takeG_len (p.2.drop (Rm.getG p.2).2)).1
 rw [List.length_drop] at h3
 omega
theorem body_short (k : Int) (t : List UInt8) : (Rm.bodyG k t).data.size ≤ t.length ∧ (Rm.bodyG k t).text.size ≤ t.length := by
 have e0 : noOb.data.size = 0 := rfl
 have e1 : noOb.text.size = 0 := rfl
 unfold Rm.bodyG
 split
 · exact ⟨Nat.le_of_eq (Rm.mk_size t), by show noOb.text.size ≤ _; omega⟩
 ·
  split
  · exact ⟨by show noOb.data.size ≤ _; omega, by show noOb.text.size ≤ _; omega⟩
  ·
   split
   ·
    refine ⟨by show noOb.data.size ≤ _; omega, ?_⟩
    show (ByteArray.mk (Rm.cgX t).toArray).size ≤ _
    rw [Rm.mk_size]; exact cgX_len t
   ·
    split
    · exact ⟨by show noOb.data.size ≤ _; omega, by show noOb.text.size ≤ _; omega⟩
    · exact ⟨by show noOb.data.size ≤ _; omega, by show noOb.text.size ≤ _; omega⟩
theorem guess_short (l : List UInt8) : (Rm.guessF l).data.size ≤ l.length ∧ (Rm.guessF l).text.size ≤ l.length := by
 have h := (Rm.takeG_len (l.drop 1)).1
 rw [List.length_drop] at h
 have h2 := body_short (Rm.kindV l) (Rm.takeG (l.drop 1)).1
 have e0 : noOb.data.size = 0 := rfl
 have e1 : noOb.text.size = 0 := rfl
 unfold Rm.guessF
 split
 · omega
 · omega
end Go.Proofs.YtkcjhkfelaplkaaGreatDoor
end
section
namespace Go.Proofs.YtkcjhkfelaplkaaGreatDoor
open Go.RowKit
def NoR (w : World) (r : Ending) (w' : World) : Prop := r = .returned (.tuple #[.agg (obC noOb nilV nilV).toArray, .bool false]) ∧ Below w.heap.size w w'
def AR (o : Ob) (w : World) (r : Ending) (w' : World) : Prop :=
 ∃ (cs : Array Value) (ao bo : Option Addr) (ca cb : Nat), r = .returned (.tuple #[.agg cs, .bool true]) ∧ ObAt w' cs o ao bo ca cb ∧ Below w.heap.size w w'
theorem refdec_empty (w : World) : Calls Tryz.prog 97 #[.string ByteArray.empty] w (NoR w) := by
 unfold NoR
 have hz28 := (zero_of_info zero28).1
 have HS0 := Lib.hid noF.size
 have HO0 := Lib.hid noF.one
 have HBN := Lib.hid built_none
 generalize (obC noOb nilV nilV).toArray = z at hz28 HS0 HO0 HBN ⊢
 have E0 := Lib.hid (heap_alloc_last w (.cells z 59))
 have hB0 := (Below.refl w.heap.size w).alloc (Nat.le_refl _) (.cells z 59)
 go_enter Tryz.func97, Tryz.ntmps97
 go_wp2_with (first
  | ((with_reducible refine bd_obz ?_ ?_ HBN.out ?_); rfl; rfl)
  | ((with_reducible refine st_obr (x := .tmp 2) (y := .tmp 9) ?_ ?_ ?_ ?_ E0.out HS0.out HS0.out HO0.out ?_); rfl; rfl; rfl; rfl))
 refine bodyPost_ret (results_cell_tmp (fn := Tryz.f97) (p := 2) (q := 3) (by rfl) _ _ w.heap.size _ _ _ _ (by rfl) (setRow_heap _ _ _ _ _ _ E0.out) Tryz.underlying59 rfl (obsize HS0.out)) rfl ⟨rfl, below_setRow hB0 (Nat.le_refl _) _⟩
theorem refdec_bad (s : ByteArray) (w : World) (h0 : 0 < s.size) (hs : s.size ≤ 5000) (hok : encOk (Rm.guessF s.data.toList) = false) : Calls Tryz.prog 97 #[.string s] w (NoR w) := by
 unfold NoR
 have hz28 := (zero_of_info zero28).1
 have HS0 := Lib.hid noF.size
 have HO0 := Lib.hid noF.one
 have HBN := Lib.hid built_none
 generalize (obC noOb nilV nilV).toArray = z at hz28 HS0 HO0 HBN ⊢
 have E0 := Lib.hid (heap_alloc_last w (.cells z 59))
 have hB0 := (Below.refl w.heap.size w).alloc (Nat.le_refl _) (.cells z 59)
 have hne2 : ¬ s = ByteArray.empty := fun e => by rw [e] at h0; exact absurd h0 (by decide)
 have hne : s.toList.isEmpty = false := by
  rw [ByteArray.toList_eq]
  have h1 := size_list s
  cases hl : s.data.toList with
  | nil => rw [hl] at h1; simp at h1; omega
  | cons a b => rfl
 have HGS := Lib.hid (fun W => guess_any s W h0 hs)
 have hsl := size_list s
 have hsh := guess_short s.data.toList
 have HRE := Lib.hid (fun (W : World) (cs : Array Value) (ao bo : Option Addr) (ca cb : Nat) (h : ObAt W cs (Rm.guessF s.data.toList) ao bo ca cb) => refencode_any cs (Rm.guessF s.data.toList) ao bo ca cb W h (by omega) (by omega))
 rw [hok] at HRE
 clear hok
 clear hsl hsh
 go_enter Tryz.func97, Tryz.ntmps97
 go_wp2_with (first
  | (go_at_call 130; fail))
 refine (HGS.out _).mono ?_
 rintro r w2 ⟨cs, ao, bo, ca, cb, rfl, hO, hx2, hnew⟩
 have HNW := Lib.hid (show ∀ a : Addr, ao = some a ∨ bo = some a → w.heap.size + 1 ≤ a.block from fun a ha => by have := hnew a ha; simpa using this)
 clear hnew
 have E2 := Lib.hid ((hx2.block w.heap.size (by simp)).trans E0.out)
 have hB2 := hB0.trans (hx2.mono hB0.size)
 generalize w.alloc (.cells z 59) = w1 at *
 have HCS := Lib.hid hO.F.size
 have HCO := Lib.hid hO.F.one
 have HN := Lib.hid (heap_alloc_last w2 (.cells cs 59))
 have hO3 := hO.below ((Below.refl w2.heap.size w2).alloc (Nat.le_refl _) (.cells cs 59))
 have E3 := Lib.hid (held_alloc (o := .cells cs 59) E2.out)
 have hB3 := hB2.alloc hB2.size (.cells cs 59)
 have HCALL := Lib.hid (HRE.out _ _ _ _ _ _ hO3)
 go_wp2_with (first
  | (go_at_call 68; fail)
  | ((with_reducible refine st_ob2 (x := .tmp 4) (y := .tmp 11) (g := w2.heap.size) ?_ ?_ ?_ ?_ ?_ ?_ HCS.out HCO.out ?_); rfl; rfl; rfl; rfl; exact HS0.out; rfl)
  | ((with_reducible refine ld_obr (x := .tmp 4) ?_ ?_ ?_ HN.out HCS.out ?_); rfl; rfl; rfl))
 refine HCALL.out.mono ?_
 rintro r w4 ⟨hr, hx4⟩
 have hr2 : r = .returned (.tuple #[.string ⟨#[]⟩, .bool false]) := hr
 subst hr2
 clear hr
 have E4 := Lib.hid ((hx4.block w.heap.size (by have := (Array.getElem?_eq_some_iff.1 E3.out).1; exact this)).trans E3.out)
 have N4 := Lib.hid ((hx4.block w2.heap.size (by simp)).trans HN.out)
 have hB4 := hB3.trans (hx4.mono hB3.size)
 have hO4 := hO3.below hx4
 go_wp2_with (first
  | ((with_reducible refine bd_obz ?_ ?_ HBN.out ?_); rfl; rfl)
  | ((with_reducible refine st_obr (x := .tmp 2) (y := .tmp 24) ?_ ?_ ?_ ?_ E4.out HS0.out HS0.out HO0.out ?_); rfl; rfl; rfl; rfl))
 refine bodyPost_ret (results_cell_tmp (fn := Tryz.f97) (p := 2) (q := 3) (by rfl) _ _ w.heap.size _ _ _ _ (by rfl) (setRow_heap _ _ _ _ _ _ E4.out) Tryz.underlying59 rfl (obsize HS0.out)) rfl ⟨rfl, below_setRow hB4 (Nat.le_refl _) _⟩
theorem refdec_diff (s : ByteArray) (w : World) (h0 : 0 < s.size) (hs : s.size ≤ 5000) (hok : encOk (Rm.guessF s.data.toList) = true) (hd : encS (Rm.guessF s.data.toList) ≠ s) : Calls Tryz.prog 97 #[.string s] w (NoR w) := by
 unfold NoR
 have hz28 := (zero_of_info zero28).1
 have HS0 := Lib.hid noF.size
 have HO0 := Lib.hid noF.one
 have HBN := Lib.hid built_none
 generalize (obC noOb nilV nilV).toArray = z at hz28 HS0 HO0 HBN ⊢
 have E0 := Lib.hid (heap_alloc_last w (.cells z 59))
 have hB0 := (Below.refl w.heap.size w).alloc (Nat.le_refl _) (.cells z 59)
 have hne2 : ¬ s = ByteArray.empty := fun e => by rw [e] at h0; exact absurd h0 (by decide)
 have hne : s.toList.isEmpty = false := by
  rw [ByteArray.toList_eq]
  have h1 := size_list s
  cases hl : s.data.toList with
  | nil => rw [hl] at h1; simp at h1; omega
  | cons a b => rfl
 have HGS := Lib.hid (fun W => guess_any s W h0 hs)
 have hsl := size_list s
 have hsh := guess_short s.data.toList
 have HRE := Lib.hid (fun (W : World) (cs : Array Value) (ao bo : Option Addr) (ca cb : Nat) (h : ObAt W cs (Rm.guessF s.data.toList) ao bo ca cb) => refencode_any cs (Rm.guessF s.data.toList) ao bo ca cb W h (by omega) (by omega))
 rw [hok] at HRE
 clear hok
 generalize encS (Rm.guessF s.data.toList) = es at HRE hd
 have hd2 : ¬ es = s := hd
 have hd4 : ¬ es.toList = s.toList := fun e => hd (bytes_ext (by rw [ByteArray.toList_eq, ByteArray.toList_eq] at e; exact e))
 have hd5 : (es.toList == s.toList) = false := by rw [beq_eq_false_iff_ne]; exact hd4
 have hd6 : (!(es.toList == s.toList)) = true := by rw [hd5]; rfl
 clear hd
 clear hsl hsh
 go_enter Tryz.func97, Tryz.ntmps97
 go_wp2_with (first
  | (go_at_call 130; fail))
 refine (HGS.out _).mono ?_
 rintro r w2 ⟨cs, ao, bo, ca, cb, rfl, hO, hx2, hnew⟩
 have HNW := Lib.hid (show ∀ a : Addr, ao = some a ∨ bo = some a → w.heap.size + 1 ≤ a.block from fun a ha => by have := hnew a ha; simpa using this)
 clear hnew
 have E2 := Lib.hid ((hx2.block w.heap.size (by simp)).trans E0.out)
 have hB2 := hB0.trans (hx2.mono hB0.size)
 generalize w.alloc (.cells z 59) = w1 at *
 have HCS := Lib.hid hO.F.size
 have HCO := Lib.hid hO.F.one
 have HN := Lib.hid (heap_alloc_last w2 (.cells cs 59))
 have hO3 := hO.below ((Below.refl w2.heap.size w2).alloc (Nat.le_refl _) (.cells cs 59))
 have E3 := Lib.hid (held_alloc (o := .cells cs 59) E2.out)
 have hB3 := hB2.alloc hB2.size (.cells cs 59)
 have HCALL := Lib.hid (HRE.out _ _ _ _ _ _ hO3)
 go_wp2_with (first
  | (go_at_call 68; fail)
  | ((with_reducible refine st_ob2 (x := .tmp 4) (y := .tmp 11) (g := w2.heap.size) ?_ ?_ ?_ ?_ ?_ ?_ HCS.out HCO.out ?_); rfl; rfl; rfl; rfl; exact HS0.out; rfl)
  | ((with_reducible refine ld_obr (x := .tmp 4) ?_ ?_ ?_ HN.out HCS.out ?_); rfl; rfl; rfl))
 refine HCALL.out.mono ?_
 rintro r w4 ⟨hr, hx4⟩
 have hr2 : r = .returned (.tuple #[.string es, .bool true]) := hr
 subst hr2
 clear hr
 have E4 := Lib.hid ((hx4.block w.heap.size (by have := (Array.getElem?_eq_some_iff.1 E3.out).1; exact this)).trans E3.out)
 have N4 := Lib.hid ((hx4.block w2.heap.size (by simp)).trans HN.out)
 have hB4 := hB3.trans (hx4.mono hB3.size)
 have hO4 := hO3.below hx4
 go_wp2_with (first
  | ((with_reducible refine bd_obz ?_ ?_ HBN.out ?_); rfl; rfl)
  | ((with_reducible refine st_obr (x := .tmp 2) (y := .tmp 24) ?_ ?_ ?_ ?_ E4.out HS0.out HS0.out HO0.out ?_); rfl; rfl; rfl; rfl))
 refine bodyPost_ret (results_cell_tmp (fn := Tryz.f97) (p := 2) (q := 3) (by rfl) _ _ w.heap.size _ _ _ _ (by rfl) (setRow_heap _ _ _ _ _ _ E4.out) Tryz.underlying59 rfl (obsize HS0.out)) rfl ⟨rfl, below_setRow hB4 (Nat.le_refl _) _⟩
theorem refdec_good (s : ByteArray) (w : World) (h0 : 0 < s.size) (hs : s.size ≤ 5000) (hok : encOk (Rm.guessF s.data.toList) = true) (hd : encS (Rm.guessF s.data.toList) = s) : Calls Tryz.prog 97 #[.string s] w (AR (Rm.guessF s.data.toList) w) := by
 unfold AR
 have hz28 := (zero_of_info zero28).1
 have HS0 := Lib.hid noF.size
 have HO0 := Lib.hid noF.one
 have HBN := Lib.hid built_none
 generalize (obC noOb nilV nilV).toArray = z at hz28 HS0 HO0 HBN 
 have E0 := Lib.hid (heap_alloc_last w (.cells z 59))
 have hB0 := (Below.refl w.heap.size w).alloc (Nat.le_refl _) (.cells z 59)
 have hne2 : ¬ s = ByteArray.empty := fun e => by rw [e] at h0; exact absurd h0 (by decide)
 have hne : s.toList.isEmpty = false := by
  rw [ByteArray.toList_eq]
  have h1 := size_list s
  cases hl : s.data.toList with
  | nil => rw [hl] at h1; simp at h1; omega
  | cons a b => rfl
 have HGS := Lib.hid (fun W => guess_any s W h0 hs)
 have hsl := size_list s
 have hsh := guess_short s.data.toList
 have HRE := Lib.hid (fun (W : World) (cs : Array Value) (ao bo : Option Addr) (ca cb : Nat) (h : ObAt W cs (Rm.guessF s.data.toList) ao bo ca cb) => refencode_any cs (Rm.guessF s.data.toList) ao bo ca cb W h (by omega) (by omega))
 rw [hok, hd] at HRE
 clear hok hd
 clear hsl hsh
 go_enter Tryz.func97, Tryz.ntmps97
 go_wp2_with (first
  | (go_at_call 130; fail))
 refine (HGS.out _).mono ?_
 rintro r w2 ⟨cs, ao, bo, ca, cb, rfl, hO, hx2, hnew⟩
 have HNW := Lib.hid (show ∀ a : Addr, ao = some a ∨ bo = some a → w.heap.size + 1 ≤ a.block from fun a ha => by have := hnew a ha; simpa using this)
 clear hnew
 have E2 := Lib.hid ((hx2.block w.heap.size (by simp)).trans E0.out)
 have hB2 := hB0.trans (hx2.mono hB0.size)
 generalize w.alloc (.cells z 59) = w1 at *
 have HCS := Lib.hid hO.F.size
 have HCO := Lib.hid hO.F.one
 have HN := Lib.hid (heap_alloc_last w2 (.cells cs 59))
 have hO3 := hO.below ((Below.refl w2.heap.size w2).alloc (Nat.le_refl _) (.cells cs 59))
 have E3 := Lib.hid (held_alloc (o := .cells cs 59) E2.out)
 have hB3 := hB2.alloc hB2.size (.cells cs 59)
 have HCALL := Lib.hid (HRE.out _ _ _ _ _ _ hO3)
 go_wp2_with (first
  | (go_at_call 68; fail)
  | ((with_reducible refine st_ob2 (x := .tmp 4) (y := .tmp 11) (g := w2.heap.size) ?_ ?_ ?_ ?_ ?_ ?_ HCS.out HCO.out ?_); rfl; rfl; rfl; rfl; exact HS0.out; rfl)
  | ((with_reducible refine ld_obr (x := .tmp 4) ?_ ?_ ?_ HN.out HCS.out ?_); rfl; rfl; rfl))
 refine HCALL.out.mono ?_
 rintro r w4 ⟨hr, hx4⟩
 have hr2 : r = .returned (.tuple #[.string s, .bool true]) := hr
 subst hr2
 clear hr
 have E4 := Lib.hid ((hx4.block w.heap.size (by have := (Array.getElem?_eq_some_iff.1 E3.out).1; exact this)).trans E3.out)
 have N4 := Lib.hid ((hx4.block w2.heap.size (by simp)).trans HN.out)
 have hB4 := hB3.trans (hx4.mono hB3.size)
 have hO4 := hO3.below hx4
 go_wp2_with (first
  | ((with_reducible refine ld_obr (x := .tmp 4) ?_ ?_ ?_ N4.out HCS.out ?_); rfl; rfl; rfl)
  | ((with_reducible refine st_obr (x := .tmp 2) (y := .tmp 25) ?_ ?_ ?_ ?_ E4.out HS0.out HCS.out HCO.out ?_); rfl; rfl; rfl; rfl))
 refine bodyPost_ret (results_cell_tmp (fn := Tryz.f97) (p := 2) (q := 3) (by rfl) _ _ w.heap.size _ _ _ _ (by rfl) (setRow_heap _ _ _ _ _ _ E4.out) Tryz.underlying59 rfl (obsize HCS.out)) rfl ⟨cs, ao, bo, ca, cb, rfl, ?_, below_setRow hB4 (Nat.le_refl _) _⟩
 exact hO4.setRow (fun a ha => by have := HNW.out a ha; omega)
end Go.Proofs.YtkcjhkfelaplkaaGreatDoor
end
