/-
  WALKS OF LAYER 4: the document's guess (knapsackref04.guess): a commit.
  WALKS OF LAYER 4: the document's guess (knapsackref04.guess), whatever the string; its texts are short.
  WALKS OF LAYER 4: the document's Decode (knapsackref04.Decode).
  THE WALK OF THE LAW ObjectDecodes: whatever the string, the law answers true.
  PROVED: for every string the law ObjectDecodes (P4.1) answers true, and its argument reads afterwards as before: up to 600 bytes, Decode tells the object, or the error, that the document's own Decode tells, and Id is the document's own sum; the document's examples hold. Conditions: the row's own: the string within the form's reach; the package variable roundWords starts as the program's text lays it (the card ties it).
-/
import Derived.Test.YtcicfjfbnbkkcaaDoorGuTree
import Derived.Test.YtcicfjfbnbkkcaaDoorRefEncode
import Derived.Test.YtcicfjfbnbkkcaaDoorSame
import Derived.Test.YtcicfjfbnbkkcaaDoorKnows
import Derived.Test.YtcicfjfbnbkkcaaDoorS2c
import Derived.Test.YtcicfjfbnbkkcaaDoorCards
import Derived.Test.YtcicfjfbnbkkcaaDoorTie
import Derived.SevenTiedAt
section
namespace Go.Proofs.YtcicfjfbnbkkcaaDoor
open Go.RowKit
set_option linter.unusedVariables false
set_option linter.unusedSimpArgs false

/-- Where guess stands in a commit. -/
structure CtW (w : World) (z : Array Value) (kd : Int) (tr : List UInt8) (N : Nat) (R : List (List UInt8) × List UInt8) (j : Nat) (l : List UInt8) (acc : List (List UInt8)) (W : World) : Prop where
  wk : Rm.parsG (N - j) l acc = R
  row : ∃ pv, W.ownsRow (w.heap.size + 2) 25 32 pv acc.length (acc.flatMap idC) ∧ Bx W (w.heap.size + 1) { noOb with kind := kd, tree := tr, pars := acc } nilV pv
  box : W.heap[w.heap.size]? = some (.cells z 29)
  below : Below w.heap.size w W
  big : w.heap.size + 2 ≤ W.heap.size
  len : l.length ≤ 5000
  few : acc.length = j
  ids : ∀ e ∈ acc, e.length = 32

theorem CtW.next {w : World} {z : Array Value} {kd : Int} {tr : List UInt8} {N : Nat} {R : List (List UInt8) × List UInt8} {j : Nat} {l : List UInt8} {acc : List (List UInt8)} {W W' : World} {v' : Value} (T : CtW w z kd tr N R j l acc W) (hj : j < N)
    (own : W'.ownsRow (w.heap.size + 2) 25 32 v' (acc.length + 1) (acc.flatMap idC ++ idC (Rm.idG l))) (bx : Bx W' (w.heap.size + 1) { noOb with kind := kd, tree := tr, pars := acc ++ [Rm.idG l] } nilV v')
    (box : W'.heap[w.heap.size]? = some (.cells z 29)) (below : Below w.heap.size w W') (big : w.heap.size + 2 ≤ W'.heap.size) : CtW w z kd tr N R (j + 1) (l.drop 32) (acc ++ [Rm.idG l]) W' := by
  have hlen := T.len
  refine ⟨?_, ⟨v', ?_, bx⟩, box, below, big, by rw [List.length_drop]; omega, by have := T.few; simp; omega, fun e he => ?_⟩
  · have h := T.wk
    rw [show N - j = (N - (j + 1)) + 1 by omega] at h
    exact h
  · rw [List.flatMap_append, List.length_append]
    simpa using own
  · rcases List.mem_append.1 he with he | he
    · exact T.ids e he
    · rw [List.mem_singleton.1 he]
      exact Rm.idG_len _

theorem wp_bs_id {op : Oper} {a : Act} {w : World} {K : Act → World → Prop} {Q : Exit → Act → World → Prop} {x : Operand} {l : List UInt8} (ho : op.op = .buildSlice 26 1 #[(0, x)]) (hx : a.eval x = .agg (idC l).toArray) (hl : l.length = 32)
    (h : K (a.put op.dst (.slice (some ⟨w.heap.size, 0, none⟩) 1 1)) (w.alloc (.cells (idC l).toArray 25))) : op.wp Tryd.prog a w K Q := by
  obtain ⟨ie, hie, hz, h1, _⟩ := info_parts infoId
  have hf := builtS_id l hl
  unfold Program.builtSlice at hf
  simp only [hie, hz] at hf
  rw [if_neg (by rw [h1]; decide)] at hf
  exact wp_buildSlice 26 25 1 _ ho _ ie _ Tryd.underlying26 hie hz (by rw [h1]; decide) (by rw [h1]; decide) (by simp only [List.map_toArray, List.map_cons, List.map_nil, hx]; exact hf) h
theorem refid_b (t : ByteArray) (w : World) (hl : t.size ≤ 5000) : Calls Tryd.prog 37 #[.string t] w fun r w' => r = .returned (.agg (idC (Rm.idG t.data.toList)).toArray) ∧ Below w.heap.size w w' := by
  have := refid_l t.data.toList w (by rw [size_list]; omega)
  rw [Rm.mk_list] at this
  exact this
theorem behind_b (t : ByteArray) (w : World) (hl : t.size ≤ 5000) : Calls Tryd.prog 36 #[.string t, .int .i64 32] w fun r w' => r = .returned (.string ⟨(t.data.toList.drop 32).toArray⟩) ∧ w = w' := by
  have := behind_32 t.data.toList w (by rw [size_list]; omega)
  rw [Rm.mk_list] at this
  exact this

set_option maxHeartbeats 8000000 in
set_option maxRecDepth 100000 in
theorem guess_commit (s : ByteArray) (w : World) (h0 : 0 < s.size) (hs : s.size ≤ 5000) (hm2 : (Rm.takeG (s.data.toList.drop 1)).2 ≠ 0) (hk : (s[0].toNat : Int) = 3) :
    Calls Tryd.prog 17 #[.string s] w (Gsd s.data.toList w) := by
  have hz28 := (zero_of_info zero28).1
  have HS0 := Lib.hid noF.size
  have HO0 := Lib.hid noF.one
  have HBN := Lib.hid built_none
  have HNF := Lib.hid noF
  generalize (obC noOb nilV nilV).toArray = z at hz28 HS0 HO0 HBN HNF
  have h0' : (0 : Int) < (s.size : Int) := by omega
  have h1' : (1 : Int) ≤ (s.size : Int) := by omega
  have HX1 := Lib.hid (show s.extract 1 s.size = ⟨(s.data.toList.drop 1).toArray⟩ from bytes_ext (by rw [extract_r]))
  have hl1 : (s.data.toList.drop 1).length ≤ 5000 := by rw [List.length_drop, size_list]; omega
  have hkv := kindV_at s h0
  have hb0 := s[0].toNat_lt
  have hwk : wrap64 (s[0].toNat : Int) = (s[0].toNat : Int) := by unfold wrap64; omega
  have hgf : Rm.guessF s.data.toList = (if (Rm.takeG (s.data.toList.drop 1)).2 = 0 then noOb else Rm.bodyG (Rm.kindV s.data.toList) (Rm.takeG (s.data.toList.drop 1)).1) := rfl
  have htl := Rm.takeG_len (s.data.toList.drop 1)
  have htk := fun W => retake_l (s.data.toList.drop 1) W (by omega)
  have ht5 : (Rm.takeG (s.data.toList.drop 1)).1.length ≤ 5000 := by omega
  generalize (⟨(s.data.toList.drop 1).toArray⟩ : ByteArray) = d1 at HX1 htk
  generalize Rm.takeG (s.data.toList.drop 1) = tm at *
  obtain ⟨t, m⟩ := tm
  have hm3 : ¬ m = 0 := hm2
  have ht6 : t.length ≤ 5000 := ht5
  obtain ⟨tb, rfl⟩ : ∃ tb : ByteArray, t = tb.data.toList := ⟨ByteArray.mk t.toArray, by simp⟩
  rw [size_list] at ht6
  have htk : ∀ W, Calls Tryd.prog 35 #[.string d1] W fun r w' => r = .returned (.tuple #[.string tb, .int .i64 m]) ∧ W = w' := htk
  have HTK := Lib.hid htk
  have HGF := Lib.hid hgf
  clear htk htl hl1 hgf hm2 ht5
  have HKF := Lib.hid (obC_F { noOb with kind := (s[0].toNat : Int) } nilV nilV rfl rfl rfl rfl)
  have HKB := Lib.hid (built_kd (s[0].toNat : Int))
  have HKS := Lib.hid HKF.out.size
  have HKO := Lib.hid HKF.out.one
  have B0 : Bx ((w.alloc (.cells z 29)).alloc (.cells (obC { noOb with kind := (s[0].toNat : Int) } nilV nilV).toArray 29)) (w.heap.size + 1) { noOb with kind := (s[0].toNat : Int) } nilV nilV := heap_alloc2_new _ _ _
  have E0 := Lib.hid (heap_alloc2_old w (.cells z 29) (.cells (obC { noOb with kind := (s[0].toNat : Int) } nilV nilV).toArray 29))
  have hB0 := ((Below.refl w.heap.size w).alloc (Nat.le_refl _) (.cells z 29)).alloc (by simp) (.cells (obC { noOb with kind := (s[0].toNat : Int) } nilV nilV).toArray 29)
  have c0 := B0.cell 0 _ HKF.out.c0
  have hmz : ((m : Int) == 0) = false := by rw [beq_eq_false_iff_ne]; omega
  have hgf2 : Rm.guessF s.data.toList = { noOb with kind := (s[0].toNat : Int), tree := Rm.idG tb.data.toList, pars := (Rm.cgP tb.data.toList).1, time := Rm.cgT tb.data.toList, text := ⟨(Rm.cgX tb.data.toList).toArray⟩ } := by rw [HGF.out, if_neg (show ¬ ((tb.data.toList, m) : List UInt8 × Nat).2 = 0 from hm3), hkv, hk]; rfl
  have hk1 : ((s[0].toNat : Int) == 1) = false := by rw [beq_eq_false_iff_ne]; omega
  have hk2 : ((s[0].toNat : Int) == 2) = false := by rw [beq_eq_false_iff_ne]; omega
  have hk3 : ((s[0].toNat : Int) == 3) = true := by rw [beq_iff_eq]; exact hk
  obtain ⟨i0, hi, hz0, hz1, hz2⟩ := info_parts infoId
  have htl5 : tb.data.toList.length ≤ 5000 := by rw [size_list]; exact ht6
  have hl32 : (tb.data.toList.drop 32).length ≤ 5000 := by rw [List.length_drop]; omega
  have hge := Rm.getG_le (tb.data.toList.drop 32)
  have hA5 : (Rm.cgA tb.data.toList).length ≤ 5000 := by unfold Rm.cgA; rw [List.length_drop]; omega
  have HI0 := Lib.hid (fun W => refid_b tb W ht6)
  have hil := Rm.idG_len tb.data.toList
  have hb0' := fun W => behind_b tb W ht6
  have hg1 := fun W => reget_l (tb.data.toList.drop 32) W (by omega)
  have hb1' : ∀ W, Calls Tryd.prog 36 #[.string ⟨(tb.data.toList.drop 32).toArray⟩, .int .i64 (Rm.getG (tb.data.toList.drop 32)).2] W fun r w' => r = .returned (.string ⟨(Rm.cgA tb.data.toList).toArray⟩) ∧ W = w' := fun W => behind_l (tb.data.toList.drop 32) (Rm.getG (tb.data.toList.drop 32)).2 W (by omega) (by omega)
  have hNv : Rm.cgN tb.data.toList = min (Rm.getG (tb.data.toList.drop 32)).1 9 := rfl
  have hPv : Rm.cgP tb.data.toList = Rm.parsG (Rm.cgN tb.data.toList) (Rm.cgA tb.data.toList) [] := rfl
  have hTv : Rm.cgT tb.data.toList = (Rm.getG (Rm.cgP tb.data.toList).2).1 % 4294967296 := rfl
  have hXv : Rm.cgX tb.data.toList = (Rm.takeG ((Rm.cgP tb.data.toList).2.drop (Rm.getG (Rm.cgP tb.data.toList).2).2)).1 := rfl
  generalize Rm.cgX tb.data.toList = X at hgf2 hXv
  generalize Rm.cgT tb.data.toList = TT at hgf2 hTv
  generalize Rm.cgP tb.data.toList = R at hgf2 hXv hTv hPv
  generalize Rm.cgN tb.data.toList = N at hNv hPv
  generalize Rm.cgA tb.data.toList = A0 at hb1' hPv hA5
  generalize Rm.idG tb.data.toList = idl at hgf2 HI0 hil
  generalize Rm.getG (tb.data.toList.drop 32) = g1 at hg1 hb1' hNv hge
  obtain ⟨n1, m1⟩ := g1
  generalize (⟨(tb.data.toList.drop 32).toArray⟩ : ByteArray) = t1 at hb0' hg1 hb1'
  obtain ⟨ab, rfl⟩ : ∃ ab : ByteArray, A0 = ab.data.toList := ⟨⟨A0.toArray⟩, by simp⟩
  have HGF3 := Lib.hid hgf2
  have HIL := Lib.hid hil
  have HB0 := Lib.hid hb0'
  have HG1 := Lib.hid (fun W => show Calls Tryd.prog 38 #[.string t1] W fun r w' => r = .returned (.tuple #[.int .u64 n1, .int .i64 m1]) ∧ W = w' from hg1 W)
  have HB1 := Lib.hid (fun W => show Calls Tryd.prog 36 #[.string t1, .int .i64 m1] W fun r w' => r = .returned (.string ab) ∧ W = w' from by have := hb1' W; rw [Rm.mk_list] at this; exact this)
  have hN2 : N = min n1 9 := hNv
  have HPV := Lib.hid hPv
  have HTV := Lib.hid hTv
  have HXV := Lib.hid hXv
  have hn1b : n1 < 18446744073709551616 := hge.2
  clear hm3 hk hkv HGF hgf2 hil hb0' hg1 hb1' hNv hPv hTv hXv hge hl32 htl5
  go_enter Tryd.func17, Tryd.ntmps17
  go_wp2_with (first
    | (go_at_call 35; fail)
    | ((with_reducible refine bd_kd (x := .tmp 17) ?_ ?_ ?_ HKB.out ?_); rfl; rfl; rfl)
    | ((with_reducible refine st_ob2 (x := .tmp 3) (y := .tmp 18) (g := w.heap.size + 1) ?_ ?_ ?_ ?_ ?_ ?_ HKS.out HKO.out ?_); rfl; rfl; rfl; rfl; exact HS0.out; simp))
  rw [HX1.out]
  refine (HTK.out _).mono ?_
  rintro r w1 ⟨rfl, rfl⟩
  generalize ((w.alloc (.cells z 29)).alloc (.cells (obC { noOb with kind := (s[0].toNat : Int) } nilV nilV).toArray 29)) = W1 at B0 E0 hB0 c0 ⊢
  have hZ0 : w.heap.size + 2 ≤ W1.heap.size := by have := (Array.getElem?_eq_some_iff.1 B0).1; omega
  clear htk
  go_wp2_with (first
    | (go_at_call 37; fail))
  refine (HI0.out _).mono ?_
  rintro r w3 ⟨rfl, hx3⟩
  have B3 := B0.below hx3
  have E3 := Lib.hid ((hx3.block w.heap.size (by omega)).trans E0.out)
  have hB3 := hB0.trans (hx3.mono hB0.size)
  have hZ3 := Nat.le_trans hZ0 hx3.size
  clear B0 E0 hB0 hZ0 hx3 c0
  have HTH := Lib.hid (B3.there HKS.out 3 32 (by decide))
  have B4 := B3.tree idl HIL.out rfl
  have E4 := Lib.hid (held_setCells (g := w.heap.size + 1) (o := 3) (vs := idC idl) E3.out (by omega))
  have hB4 := below_setCells (g := w.heap.size + 1) (by omega) (idC idl) 3 _ hB3
  have hZ4 : w.heap.size + 2 ≤ (w3.setCells (w.heap.size + 1) 3 (idC idl)).heap.size := by rw [size_setCells']; exact hZ3
  go_wp2_with (first
    | (go_at_call 36; fail)
    | ((with_reducible refine st_idmid (x := .tmp 72) (y := .tmp 71) ?_ ?_ ?_ ?_ HIL.out HTH.out ?_); rfl; rfl; rfl; rfl))
  refine (HB0.out _).mono ?_
  rintro r w5 ⟨rfl, rfl⟩
  generalize w3.setCells (w.heap.size + 1) 3 (idC idl) = w4 at B4 E4 hB4 hZ4 ⊢
  clear B3 E3 hB3 hZ3 HTH
  go_wp2_with (first
    | (go_at_call 38; fail))
  refine (HG1.out _).mono ?_
  rintro r w5 ⟨rfl, rfl⟩
  go_wp2_with (first
    | (go_at_call 36; fail))
  refine (HB1.out _).mono ?_
  rintro r w5 ⟨rfl, rfl⟩
  have T0 : CtW w z (s[0].toNat : Int) idl N R 0 ab.data.toList [] w4 := ⟨HPV.out.symm, ⟨nilV, World.ownsRow_nil _ _ _ _, B4⟩, E4.out, hB4, hZ4, hA5, rfl, fun e he => by cases he⟩
  clear B4 E4 hB4 hZ4 HPV
  go_wp2_with fail
  go_loopw [4, 12] (fun a4 a12 W => ∃ (j : Nat) (l : List UInt8) (lb : ByteArray) (acc : List (List UInt8)), a4 = .string lb ∧ a12 = .int .u64 j ∧ j ≤ N ∧ Hid (lb.data.toList = l) ∧ CtW w z (s[0].toNat : Int) idl N R j l acc W) (fun _ a12 _ => N - (intOf a12).toNat)
  case atStart => exact ⟨0, _, ab, [], rfl, rfl, Nat.zero_le _, Lib.hid rfl, T0⟩
  case round =>
    obtain ⟨j, l, lb, acc, rfl, rfl, hj, HL, T⟩ := hrel
    clear T0
    by_cases hjN : j < N
    · have hfew2 : acc.length ≤ 9 := by have := T.few; omega
      have hc3 : (j : Int) < (n1 : Int) := by omega
      have hc2 : (j : Int) < 9 := by omega
      have hj9 : j < 9 := by omega
      have hlen := T.len
      have hfewx : True := trivial
      have hlb : lb = ⟨l.toArray⟩ := bytes_ext (by rw [HL.out])
      have hid : ∀ W, Calls Tryd.prog 37 #[.string lb] W fun r w' => r = .returned (.agg (idC (Rm.idG l)).toArray) ∧ Below W.heap.size W w' := fun W => by have h := refid_l l W (by omega); rw [← hlb] at h; exact h
      have hb3 : ∀ W, Calls Tryd.prog 36 #[.string lb, .int .i64 32] W fun r w' => r = .returned (.string ⟨(l.drop 32).toArray⟩) ∧ W = w' := fun W => by have h := behind_32 l W (by omega); rw [← hlb] at h; exact h
      have hnx : ((⟨(l.drop 32).toArray⟩ : ByteArray)).data.toList = l.drop 32 := by simp
      have hil2 := Rm.idG_len l
      have HNXT : Hid (∀ (W' : World) (v' : Value), W'.ownsRow (w.heap.size + 2) 25 32 v' (acc.length + 1) (acc.flatMap idC ++ idC (Rm.idG l)) → Bx W' (w.heap.size + 1) { noOb with kind := (s[0].toNat : Int), tree := idl, pars := acc ++ [Rm.idG l] } nilV v' → W'.heap[w.heap.size]? = some (.cells z 29) → Below w.heap.size w W' → w.heap.size + 2 ≤ W'.heap.size → CtW w z (s[0].toNat : Int) idl N R (j + 1) (l.drop 32) (acc ++ [Rm.idG l]) W') := fun W' v' a b c d e => T.next hjN a b c d e
      generalize (⟨(l.drop 32).toArray⟩ : ByteArray) = tn at hb3 hnx
      generalize Rm.idG l = ei at hid hil2 HNXT
      have HID := Lib.hid hid
      have HB3 := Lib.hid hb3
      have HEL := Lib.hid hil2
      have HNX := Lib.hid hnx
      obtain ⟨pv, O1, B1⟩ := T.row
      have E1 := Lib.hid T.box
      have hB1 := T.below
      have hbg1 := T.big
      obtain ⟨pa, cap, rfl⟩ := own_form O1
      have HFA := Lib.hid (obC_F { noOb with kind := (s[0].toNat : Int), tree := idl, pars := acc } nilV (.slice pa acc.length cap) HIL.out rfl rfl rfl)
      clear T hlb hid hb3 hil2 hnx
      go_wp2_with fail
      have O0 : wr.drew.ownsRow (w.heap.size + 2) 25 32 (.slice pa acc.length cap) acc.length (acc.flatMap idC) := O1
      have B0 : Bx wr.drew (w.heap.size + 1) { noOb with kind := (s[0].toNat : Int), tree := idl, pars := acc } nilV (.slice pa acc.length cap) := B1
      have E0 := Lib.hid (show wr.drew.heap[w.heap.size]? = some (.cells z 29) from E1.out)
      have hB0 := hB1.drew
      have hbg0 : w.heap.size + 2 ≤ wr.drew.heap.size := hbg1
      clear O1 B1 E1 hB1 hbg1
      refine wp_region_noPanic ?_
      refine wp_region_held_drew (S := fun _ => True) (by kernel_rfl) trivial (fun _ => ?_)
      generalize wr.drew = wd at O0 B0 E0 hB0 hbg0 ⊢
      refine wpAnyH_take (i := 0) (v := ?_) rfl (by kernel_rfl) (by kernel_rfl) (by kernel_rfl) (fun _ _ _ h => h) (Or.inl ⟨by rfl, ?_⟩) trivial ?_
      rotate_left
      · intro W hS; go_simp; try rfl
      try simp only [Act.put, List.getElem_toArray, List.getElem_cons_zero, List.getElem_cons_succ, List.setIfInBounds_toArray, List.set_cons_zero, List.set_cons_succ]
      refine wpAnyH_take (i := 2) (v := ?_) rfl (by kernel_rfl) (by kernel_rfl) (by kernel_rfl) (fun _ _ _ h => h) (Or.inl ⟨by rfl, ?_⟩) trivial ?_
      rotate_left
      · intro W hS; go_simp; try rfl
      try simp only [Act.put, List.getElem_toArray, List.getElem_cons_zero, List.getElem_cons_succ, List.setIfInBounds_toArray, List.set_cons_zero, List.set_cons_succ]
      have c2 := B0.cell 35 _ HFA.out.c35
      have f2 := B0.fr 35
      refine wpAnyH_ready (rs := [1, 3]) (by kernel_rfl) (by simp) ?_
      refine AllReadyH.cons rfl (fun K hK => ?_) ?_
      rotate_left
      · refine AllReadyH.cons rfl (fun K hK => ?_) AllReadyH.nil
        go_simp
        refine (HID.out _).mono ?_
        rintro r w2 ⟨rfl, hx2⟩
        go_wp2_with fail
        refine hK.out _ _ trivial (fun _ => ?_)
        clear hK K
        try simp only [Act.put, List.getElem_toArray, List.getElem_cons_zero, List.getElem_cons_succ, List.setIfInBounds_toArray, List.set_cons_zero, List.set_cons_succ]
        have B2 : Bx w2 (w.heap.size + 1) { noOb with kind := (s[0].toNat : Int), tree := idl, pars := acc } nilV (.slice pa acc.length cap) := B0.below hx2
        have E2 := Lib.hid ((hx2.block w.heap.size (by omega)).trans E0.out)
        have hBl2 := hB0.trans (hx2.mono hB0.size)
        have hbg2 := Nat.le_trans hbg0 hx2.size
        have O2 : w2.ownsRow (w.heap.size + 2) 25 32 (.slice pa acc.length cap) acc.length (acc.flatMap idC) := own_below O0 hx2
        clear B0 E0 hB0 hbg0 O0 hx2
        clear c2 f2
        have c2b := B2.cell 35 _ HFA.out.c35
        have f2b := B2.fr 35
        refine wpAnyH_ready (rs := [1, 4]) (by kernel_rfl) (by simp) ?_
        refine AllReadyH.cons rfl (fun K hK => ?_) ?_
        rotate_left
        · refine AllReadyH.cons rfl (fun K hK => ?_) AllReadyH.nil
          rw [if_pos (by rfl)]
          refine wp_bs_id rfl rfl HEL.out ?_
          refine hK.out _ _ trivial (fun _ => ?_)
          clear hK K
          try simp only [Act.put, List.getElem_toArray, List.getElem_cons_zero, List.getElem_cons_succ, List.setIfInBounds_toArray, List.set_cons_zero, List.set_cons_succ]
          have BA : Bx (w2.alloc (.cells (idC ei).toArray 25)) (w.heap.size + 1) { noOb with kind := (s[0].toNat : Int), tree := idl, pars := acc } nilV (.slice pa acc.length cap) := held_alloc B2
          have c2c := BA.cell 35 _ HFA.out.c35
          have f2c := BA.fr 35
          refine wpAnyH_ready (rs := [1]) (by kernel_rfl) (by simp) ?_
          refine AllReadyH.cons rfl (fun K hK => ?_) AllReadyH.nil
          go_simp
          refine hK.out _ _ trivial (fun _ => ?_)
          clear hK K
          try simp only [Act.put, List.getElem_toArray, List.getElem_cons_zero, List.getElem_cons_succ, List.setIfInBounds_toArray, List.set_cons_zero, List.set_cons_succ]
          clear c2c f2c BA
          refine wpAnyH_ready (rs := [5]) (by kernel_rfl) (by simp) ?_
          refine AllReadyH.cons rfl (fun K hK => ?_) AllReadyH.nil
          rw [if_pos (by rfl)]
          refine wp_append_own _ _ _ 26 rfl (w.heap.size + 2) 25 i0 (.agg (idC zId).toArray) 32 32 Tryd.underlying26 hi hz0 hz1 hz2 (by decide) (by decide) _ _ _ rfl (World.ownsRow.alloc O2 _) ⟨_, 0, none⟩ 1 1 (idC ei) rfl (by rw [idC_length]; exact HEL.out) (news_at (heap_alloc_last _ _)) (idC_one _) (by unfold maxLen; omega) (by omega) (by have := hbg2; simp; omega) ?_
          intro v' w5 hown' hgrow _
          refine hK.out _ _ trivial (fun _ => ?_)
          clear hK K
          try simp only [Act.put, List.getElem_toArray, List.getElem_cons_zero, List.getElem_cons_succ, List.setIfInBounds_toArray, List.set_cons_zero, List.set_cons_succ]
          have B5 : Bx w5 (w.heap.size + 1) { noOb with kind := (s[0].toNat : Int), tree := idl, pars := acc } nilV (.slice pa acc.length cap) := held_own (held_alloc B2) (World.ownsRow.alloc O2 _) hgrow (by omega)
          have E5 := held_own (held_alloc E2.out) (World.ownsRow.alloc O2 _) hgrow (by omega)
          have G5 : Below w.heap.size w w5 := ((hBl2.alloc hBl2.size _).grown hgrow (by have := hBl2.size; simp; omega) (fun k hk => by have := (O2.lt k hk).1; omega))
          have S5 : w.heap.size + 2 ≤ w5.heap.size := by have := hgrow.size; simp at this; omega
          have c5 := B5.cell 35 _ HFA.out.c35
          have f5 := B5.fr 35
          refine wpAnyH_take (i := 6) (v := ?_) rfl (by kernel_rfl) (by kernel_rfl) (by kernel_rfl) (fun _ _ _ h => h) (Or.inl ⟨by rfl, ?_⟩) trivial ?_
          rotate_left
          · intro W hS; go_simp; try rfl
          try simp only [Act.put, List.getElem_toArray, List.getElem_cons_zero, List.getElem_cons_succ, List.setIfInBounds_toArray, List.set_cons_zero, List.set_cons_succ]
          obtain ⟨pa', cap', rfl⟩ := own_form hown'
          refine wpAnyH_ready (rs := [7]) (by kernel_rfl) (by simp) ?_
          refine AllReadyH.cons rfl (fun K hK => ?_) AllReadyH.nil
          go_simp
          refine hK.out _ _ trivial (fun _ => ?_)
          clear hK K
          try simp only [Act.put, List.getElem_toArray, List.getElem_cons_zero, List.getElem_cons_succ, List.setIfInBounds_toArray, List.set_cons_zero, List.set_cons_succ]
          refine wpAnyH_done (by kernel_rfl) ?_ _
          refine NoPanic.normal ?_
          have B6 := B5.pars (.slice pa' (acc.length + 1) cap') (acc ++ [ei]) HIL.out
          have O6 := own_keep hown' (b := w.heap.size + 1) (grown_set w5 (w.heap.size + 1) 35 (.slice pa' (acc.length + 1) cap')) (by omega)
          have E6 := (heap_setCell_other w5 ⟨w.heap.size + 1, 35, none⟩ w.heap.size (.slice pa' (acc.length + 1) cap') (by simp)).trans E5
          have G6 := G5.setCell (p := ⟨w.heap.size + 1, 35, none⟩) (by simp) (.slice pa' (acc.length + 1) cap')
          have S6 : w.heap.size + 2 ≤ (w5.setCell ⟨w.heap.size + 1, 35, none⟩ (.slice pa' (acc.length + 1) cap')).heap.size := by simp [World.setCell]; omega
          have T6 := HNXT.out _ _ O6 B6 E6 G6 S6
          generalize w5.setCell ⟨w.heap.size + 1, 35, none⟩ (.slice pa' (acc.length + 1) cap') = w6 at T6 ⊢
          clear B6 O6 E6 G6 S6 hown' hgrow B5 E5 G5 S5 c5 f5 B2 O2 E2 hBl2 hbg2
          go_wp2_with fail
          refine (HB3.out _).mono ?_
          rintro r w7 ⟨rfl, rfl⟩
          go_wp2
          go_roundw
          case rel => exact ⟨j + 1, _, tn, _, rfl, by go_num, by omega, HNX, T6⟩
          case measure => simp [intOf]; omega
        go_simp
        refine hK.out _ _ trivial (fun _ => ?_)
        clear hK K
        try simp only [Act.put, List.getElem_toArray, List.getElem_cons_zero, List.getElem_cons_succ, List.setIfInBounds_toArray, List.set_cons_zero, List.set_cons_succ]
        clear c2b f2b
        refine wpAnyH_ready (rs := [4]) (by kernel_rfl) (by simp) ?_
        refine AllReadyH.cons rfl (fun K hK => ?_) AllReadyH.nil
        rw [if_pos (by rfl)]
        refine wp_bs_id rfl rfl HEL.out ?_
        refine hK.out _ _ trivial (fun _ => ?_)
        clear hK K
        try simp only [Act.put, List.getElem_toArray, List.getElem_cons_zero, List.getElem_cons_succ, List.setIfInBounds_toArray, List.set_cons_zero, List.set_cons_succ]
        refine wpAnyH_ready (rs := [5]) (by kernel_rfl) (by simp) ?_
        refine AllReadyH.cons rfl (fun K hK => ?_) AllReadyH.nil
        rw [if_pos (by rfl)]
        refine wp_append_own _ _ _ 26 rfl (w.heap.size + 2) 25 i0 (.agg (idC zId).toArray) 32 32 Tryd.underlying26 hi hz0 hz1 hz2 (by decide) (by decide) _ _ _ rfl (World.ownsRow.alloc O2 _) ⟨_, 0, none⟩ 1 1 (idC ei) rfl (by rw [idC_length]; exact HEL.out) (news_at (heap_alloc_last _ _)) (idC_one _) (by unfold maxLen; omega) (by omega) (by have := hbg2; simp; omega) ?_
        intro v' w5 hown' hgrow _
        refine hK.out _ _ trivial (fun _ => ?_)
        clear hK K
        try simp only [Act.put, List.getElem_toArray, List.getElem_cons_zero, List.getElem_cons_succ, List.setIfInBounds_toArray, List.set_cons_zero, List.set_cons_succ]
        have B5 : Bx w5 (w.heap.size + 1) { noOb with kind := (s[0].toNat : Int), tree := idl, pars := acc } nilV (.slice pa acc.length cap) := held_own (held_alloc B2) (World.ownsRow.alloc O2 _) hgrow (by omega)
        have E5 := held_own (held_alloc E2.out) (World.ownsRow.alloc O2 _) hgrow (by omega)
        have G5 : Below w.heap.size w w5 := ((hBl2.alloc hBl2.size _).grown hgrow (by have := hBl2.size; simp; omega) (fun k hk => by have := (O2.lt k hk).1; omega))
        have S5 : w.heap.size + 2 ≤ w5.heap.size := by have := hgrow.size; simp at this; omega
        have c5 := B5.cell 35 _ HFA.out.c35
        have f5 := B5.fr 35
        refine wpAnyH_take (i := 6) (v := ?_) rfl (by kernel_rfl) (by kernel_rfl) (by kernel_rfl) (fun _ _ _ h => h) (Or.inl ⟨by rfl, ?_⟩) trivial ?_
        rotate_left
        · intro W hS; go_simp; try rfl
        try simp only [Act.put, List.getElem_toArray, List.getElem_cons_zero, List.getElem_cons_succ, List.setIfInBounds_toArray, List.set_cons_zero, List.set_cons_succ]
        obtain ⟨pa', cap', rfl⟩ := own_form hown'
        refine wpAnyH_ready (rs := [7]) (by kernel_rfl) (by simp) ?_
        refine AllReadyH.cons rfl (fun K hK => ?_) AllReadyH.nil
        go_simp
        refine hK.out _ _ trivial (fun _ => ?_)
        clear hK K
        try simp only [Act.put, List.getElem_toArray, List.getElem_cons_zero, List.getElem_cons_succ, List.setIfInBounds_toArray, List.set_cons_zero, List.set_cons_succ]
        refine wpAnyH_done (by kernel_rfl) ?_ _
        refine NoPanic.normal ?_
        have B6 := B5.pars (.slice pa' (acc.length + 1) cap') (acc ++ [ei]) HIL.out
        have O6 := own_keep hown' (b := w.heap.size + 1) (grown_set w5 (w.heap.size + 1) 35 (.slice pa' (acc.length + 1) cap')) (by omega)
        have E6 := (heap_setCell_other w5 ⟨w.heap.size + 1, 35, none⟩ w.heap.size (.slice pa' (acc.length + 1) cap') (by simp)).trans E5
        have G6 := G5.setCell (p := ⟨w.heap.size + 1, 35, none⟩) (by simp) (.slice pa' (acc.length + 1) cap')
        have S6 : w.heap.size + 2 ≤ (w5.setCell ⟨w.heap.size + 1, 35, none⟩ (.slice pa' (acc.length + 1) cap')).heap.size := by simp [World.setCell]; omega
        have T6 := HNXT.out _ _ O6 B6 E6 G6 S6
        generalize w5.setCell ⟨w.heap.size + 1, 35, none⟩ (.slice pa' (acc.length + 1) cap') = w6 at T6 ⊢
        clear B6 O6 E6 G6 S6 hown' hgrow B5 E5 G5 S5 c5 f5 B2 O2 E2 hBl2 hbg2
        go_wp2_with fail
        refine (HB3.out _).mono ?_
        rintro r w7 ⟨rfl, rfl⟩
        go_wp2
        go_roundw
        case rel => exact ⟨j + 1, _, tn, _, rfl, by go_num, by omega, HNX, T6⟩
        case measure => simp [intOf]; omega
      go_simp
      refine hK.out _ _ trivial (fun _ => ?_)
      clear hK K
      try simp only [Act.put, List.getElem_toArray, List.getElem_cons_zero, List.getElem_cons_succ, List.setIfInBounds_toArray, List.set_cons_zero, List.set_cons_succ]
      clear c2 f2
      refine wpAnyH_ready (rs := [3]) (by kernel_rfl) (by simp) ?_
      refine AllReadyH.cons rfl (fun K hK => ?_) AllReadyH.nil
      go_simp
      refine (HID.out _).mono ?_
      rintro r w2 ⟨rfl, hx2⟩
      go_wp2_with fail
      refine hK.out _ _ trivial (fun _ => ?_)
      clear hK K
      try simp only [Act.put, List.getElem_toArray, List.getElem_cons_zero, List.getElem_cons_succ, List.setIfInBounds_toArray, List.set_cons_zero, List.set_cons_succ]
      have B2 : Bx w2 (w.heap.size + 1) { noOb with kind := (s[0].toNat : Int), tree := idl, pars := acc } nilV (.slice pa acc.length cap) := B0.below hx2
      have E2 := Lib.hid ((hx2.block w.heap.size (by omega)).trans E0.out)
      have hBl2 := hB0.trans (hx2.mono hB0.size)
      have hbg2 := Nat.le_trans hbg0 hx2.size
      have O2 : w2.ownsRow (w.heap.size + 2) 25 32 (.slice pa acc.length cap) acc.length (acc.flatMap idC) := own_below O0 hx2
      clear B0 E0 hB0 hbg0 O0 hx2
      refine wpAnyH_ready (rs := [4]) (by kernel_rfl) (by simp) ?_
      refine AllReadyH.cons rfl (fun K hK => ?_) AllReadyH.nil
      rw [if_pos (by rfl)]
      refine wp_bs_id rfl rfl HEL.out ?_
      refine hK.out _ _ trivial (fun _ => ?_)
      clear hK K
      try simp only [Act.put, List.getElem_toArray, List.getElem_cons_zero, List.getElem_cons_succ, List.setIfInBounds_toArray, List.set_cons_zero, List.set_cons_succ]
      refine wpAnyH_ready (rs := [5]) (by kernel_rfl) (by simp) ?_
      refine AllReadyH.cons rfl (fun K hK => ?_) AllReadyH.nil
      rw [if_pos (by rfl)]
      refine wp_append_own _ _ _ 26 rfl (w.heap.size + 2) 25 i0 (.agg (idC zId).toArray) 32 32 Tryd.underlying26 hi hz0 hz1 hz2 (by decide) (by decide) _ _ _ rfl (World.ownsRow.alloc O2 _) ⟨_, 0, none⟩ 1 1 (idC ei) rfl (by rw [idC_length]; exact HEL.out) (news_at (heap_alloc_last _ _)) (idC_one _) (by unfold maxLen; omega) (by omega) (by have := hbg2; simp; omega) ?_
      intro v' w5 hown' hgrow _
      refine hK.out _ _ trivial (fun _ => ?_)
      clear hK K
      try simp only [Act.put, List.getElem_toArray, List.getElem_cons_zero, List.getElem_cons_succ, List.setIfInBounds_toArray, List.set_cons_zero, List.set_cons_succ]
      have B5 : Bx w5 (w.heap.size + 1) { noOb with kind := (s[0].toNat : Int), tree := idl, pars := acc } nilV (.slice pa acc.length cap) := held_own (held_alloc B2) (World.ownsRow.alloc O2 _) hgrow (by omega)
      have E5 := held_own (held_alloc E2.out) (World.ownsRow.alloc O2 _) hgrow (by omega)
      have G5 : Below w.heap.size w w5 := ((hBl2.alloc hBl2.size _).grown hgrow (by have := hBl2.size; simp; omega) (fun k hk => by have := (O2.lt k hk).1; omega))
      have S5 : w.heap.size + 2 ≤ w5.heap.size := by have := hgrow.size; simp at this; omega
      have c5 := B5.cell 35 _ HFA.out.c35
      have f5 := B5.fr 35
      refine wpAnyH_take (i := 6) (v := ?_) rfl (by kernel_rfl) (by kernel_rfl) (by kernel_rfl) (fun _ _ _ h => h) (Or.inl ⟨by rfl, ?_⟩) trivial ?_
      rotate_left
      · intro W hS; go_simp; try rfl
      try simp only [Act.put, List.getElem_toArray, List.getElem_cons_zero, List.getElem_cons_succ, List.setIfInBounds_toArray, List.set_cons_zero, List.set_cons_succ]
      obtain ⟨pa', cap', rfl⟩ := own_form hown'
      refine wpAnyH_ready (rs := [7]) (by kernel_rfl) (by simp) ?_
      refine AllReadyH.cons rfl (fun K hK => ?_) AllReadyH.nil
      go_simp
      refine hK.out _ _ trivial (fun _ => ?_)
      clear hK K
      try simp only [Act.put, List.getElem_toArray, List.getElem_cons_zero, List.getElem_cons_succ, List.setIfInBounds_toArray, List.set_cons_zero, List.set_cons_succ]
      refine wpAnyH_done (by kernel_rfl) ?_ _
      refine NoPanic.normal ?_
      have B6 := B5.pars (.slice pa' (acc.length + 1) cap') (acc ++ [ei]) HIL.out
      have O6 := own_keep hown' (b := w.heap.size + 1) (grown_set w5 (w.heap.size + 1) 35 (.slice pa' (acc.length + 1) cap')) (by omega)
      have E6 := (heap_setCell_other w5 ⟨w.heap.size + 1, 35, none⟩ w.heap.size (.slice pa' (acc.length + 1) cap') (by simp)).trans E5
      have G6 := G5.setCell (p := ⟨w.heap.size + 1, 35, none⟩) (by simp) (.slice pa' (acc.length + 1) cap')
      have S6 : w.heap.size + 2 ≤ (w5.setCell ⟨w.heap.size + 1, 35, none⟩ (.slice pa' (acc.length + 1) cap')).heap.size := by simp [World.setCell]; omega
      have T6 := HNXT.out _ _ O6 B6 E6 G6 S6
      generalize w5.setCell ⟨w.heap.size + 1, 35, none⟩ (.slice pa' (acc.length + 1) cap') = w6 at T6 ⊢
      clear B6 O6 E6 G6 S6 hown' hgrow B5 E5 G5 S5 c5 f5 B2 O2 E2 hBl2 hbg2
      go_wp2_with fail
      refine (HB3.out _).mono ?_
      rintro r w7 ⟨rfl, rfl⟩
      go_wp2
      go_roundw
      case rel => exact ⟨j + 1, _, tn, _, rfl, by go_num, by omega, HNX, T6⟩
      case measure => simp [intOf]; omega
    · have hjn : j = N := by omega
      have hR : (acc, l) = R := by
        have := T.wk
        rw [hjn, Nat.sub_self] at this
        exact this
      subst hR
      by_cases hc1 : j < n1
      · have hc2 : ¬ (j : Int) < 9 := by omega
        have hc3 : (j : Int) < (n1 : Int) := by omega
        clear hjN
        have hlb : lb = ⟨l.toArray⟩ := bytes_ext (by rw [HL.out])
        have hlen := T.len
        have hge2 := Rm.getG_le l
        have hg2 : ∀ W, Calls Tryd.prog 38 #[.string lb] W fun r w' => r = .returned (.tuple #[.int .u64 (Rm.getG l).1, .int .i64 (Rm.getG l).2]) ∧ W = w' := fun W => by have h := reget_l l W (by omega); rw [← hlb] at h; exact h
        have hb2 : ∀ W, Calls Tryd.prog 36 #[.string lb, .int .i64 (Rm.getG l).2] W fun r w' => r = .returned (.string ⟨(l.drop (Rm.getG l).2).toArray⟩) ∧ W = w' := fun W => by have h := behind_l l (Rm.getG l).2 W (by omega) (by omega); rw [← hlb] at h; exact h
        have ht2 := fun W => retake_l (l.drop (Rm.getG l).2) W (by rw [List.length_drop]; omega)
        have hT2 : TT = (Rm.getG l).1 % 4294967296 := HTV.out
        have hX2 : X = (Rm.takeG (l.drop (Rm.getG l).2)).1 := HXV.out
        generalize Rm.getG l = g2 at hg2 hb2 ht2 hT2 hX2 hge2
        obtain ⟨tv, q⟩ := g2
        generalize (⟨(l.drop (tv, q).2).toArray⟩ : ByteArray) = d3 at hb2 ht2
        generalize Rm.takeG (l.drop (tv, q).2) = tk3 at ht2 hX2
        obtain ⟨xl, xm⟩ := tk3
        have hX3 : X = xl := hX2
        subst hX3
        obtain ⟨xb, rfl⟩ : ∃ xb : ByteArray, X = xb.data.toList := ⟨⟨X.toArray⟩, by simp⟩
        have hT3 : TT = tv % 4294967296 := hT2
        have hTb : TT < 4294967296 := by omega
        have htvb : tv < 18446744073709551616 := hge2.2
        have HGF4 := Lib.hid (show Rm.guessF s.data.toList = { noOb with kind := (s[0].toNat : Int), tree := idl, pars := acc, time := TT, text := xb } from HGF3.out)
        have HG2 := Lib.hid (fun W => show Calls Tryd.prog 38 #[.string lb] W fun r w' => r = .returned (.tuple #[.int .u64 tv, .int .i64 q]) ∧ W = w' from hg2 W)
        have HB2 := Lib.hid (fun W => show Calls Tryd.prog 36 #[.string lb, .int .i64 q] W fun r w' => r = .returned (.string d3) ∧ W = w' from hb2 W)
        have HT2 := Lib.hid (fun W => show Calls Tryd.prog 35 #[.string d3] W fun r w' => r = .returned (.tuple #[.string xb, .int .i64 xm]) ∧ W = w' from ht2 W)
        have hti : (tv : Int) % 4294967296 = (TT : Int) := by omega
        have htm : Int.tmod (tv : Int) 4294967296 = (TT : Int) := by rw [Int.tmod_eq_emod_of_nonneg (Int.natCast_nonneg _)]; exact hti
        clear hlb hge2 hg2 hb2 ht2 hT2 hX2 hT3 HGF3 HTV HXV
        obtain ⟨pv, O1, B1⟩ := T.row
        have E1 := Lib.hid T.box
        have hB1 := T.below
        have HT := Lib.hid T
        have hfew := T.few
        obtain ⟨pa, cap, rfl⟩ := own_form O1
        have HF1 := Lib.hid (obC_F { noOb with kind := (s[0].toNat : Int), tree := idl, pars := acc } nilV (.slice pa acc.length cap) HIL.out rfl rfl rfl)
        have c36 := B1.cell 36 _ HF1.out.c36
        have f36 := B1.fr 36
        clear T
        go_wp2_with (first
          | (go_at_call 38; fail))
        refine (HG2.out _).mono ?_
        rintro r w5 ⟨rfl, rfl⟩
        go_wp2_with (first
          | (go_at_call 36; fail))
        refine (HB2.out _).mono ?_
        rintro r w5 ⟨rfl, rfl⟩
        have B2 := B1.time TT HIL.out
        have E2 := Lib.hid ((heap_setCell_other wr ⟨w.heap.size + 1, 36, none⟩ w.heap.size (.int .u32 (TT : Int)) (by simp)).trans E1.out)
        have hB2 := hB1.setCell (p := ⟨w.heap.size + 1, 36, none⟩) (by simp) (.int .u32 (TT : Int))
        have O2 := own_keep O1 (b := w.heap.size + 1) (grown_set wr (w.heap.size + 1) 36 (.int .u32 (TT : Int))) (by omega)
        generalize wr.setCell ⟨w.heap.size + 1, 36, none⟩ (.int .u32 (TT : Int)) = w6 at B2 E2 hB2 O2 ⊢
        clear B1 E1 hB1 O1 c36 f36
        go_wp2_with fail
        refine (HT2.out _).mono ?_
        rintro r w7 ⟨rfl, rfl⟩
        have HF2 := Lib.hid (obC_F { noOb with kind := (s[0].toNat : Int), tree := idl, pars := acc, time := TT } nilV (.slice pa acc.length cap) HIL.out rfl rfl rfl)
        have c37 := B2.cell 37 _ HF2.out.c37
        have f37 := B2.fr 37
        have B3 := Lib.hid (B2.text xb HIL.out)
        have E3 := Lib.hid ((heap_setCell_other w6 ⟨w.heap.size + 1, 37, none⟩ w.heap.size (.string xb) (by simp)).trans E2.out)
        have hB3 := hB2.setCell (p := ⟨w.heap.size + 1, 37, none⟩) (by simp) (.string xb)
        have O3 := own_keep O2 (b := w.heap.size + 1) (grown_set w6 (w.heap.size + 1) 37 (.string xb)) (by omega)
        have HF3 := Lib.hid (obC_F { noOb with kind := (s[0].toNat : Int), tree := idl, pars := acc, time := TT, text := xb } nilV (.slice pa acc.length cap) HIL.out rfl rfl rfl)
        go_wp2_with (first
          | ((with_reducible refine ld_obr (x := .tmp 3) ?_ ?_ ?_ B3.out.held HF3.out.size ?_); rfl; rfl; rfl)
          | ((with_reducible refine st_obr (x := .tmp 2) (y := .tmp 138) ?_ ?_ ?_ ?_ E3.out HS0.out HF3.out.size HF3.out.one ?_); rfl; rfl; rfl; rfl))
        refine bodyPost_ret (results_cell_row (fn := Tryd.f17) (p := 2) (by rfl) _ _ w.heap.size _ _ _ _ (by rfl) (setRow_heap _ _ _ _ _ _ E3.out) Tryd.underlying29 rfl (obsize HF3.out.size)) rfl ⟨_, none, pa, 0, cap, rfl, ?_, below_setRow hB3 (Nat.le_refl _) _, fun a ha => by rcases ha with ha | ha; cases ha; exact own_new O3 (by omega) a ha⟩
        rw [HGF4.out]
        have hown : ((w6.setCell ⟨w.heap.size + 1, 37, none⟩ (.string xb)).setRow w.heap.size (obC { noOb with kind := (s[0].toNat : Int), tree := idl, pars := acc, time := TT, text := xb } nilV (.slice pa acc.length cap)).toArray).ownsRow (w.heap.size + 2) 25 32 (.slice pa acc.length cap) acc.length (acc.flatMap idC) := own_keep O3 (b := w.heap.size) ⟨rfl, rfl, rfl, by rw [setRow_size]; exact Nat.le_refl _, fun k _ hk => setRow_other _ _ _ _ (by simpa using hk)⟩ (by omega)
        exact ⟨HF3.out, RowsAt.nil _ _, own_rows idC 32 hown (fun e he => by rw [idC_length]; exact HT.out.ids e he), (fun e he => by cases he), (fun e he => by cases he), HT.out.ids, Nat.zero_le _, (show acc.length ≤ maxLen by unfold maxLen; omega), (show (0 : Nat) ≤ maxLen from Nat.zero_le _), hTb⟩
      · have hc3 : ¬ (j : Int) < (n1 : Int) := by omega
        clear hjN
        have hlb : lb = ⟨l.toArray⟩ := bytes_ext (by rw [HL.out])
        have hlen := T.len
        have hge2 := Rm.getG_le l
        have hg2 : ∀ W, Calls Tryd.prog 38 #[.string lb] W fun r w' => r = .returned (.tuple #[.int .u64 (Rm.getG l).1, .int .i64 (Rm.getG l).2]) ∧ W = w' := fun W => by have h := reget_l l W (by omega); rw [← hlb] at h; exact h
        have hb2 : ∀ W, Calls Tryd.prog 36 #[.string lb, .int .i64 (Rm.getG l).2] W fun r w' => r = .returned (.string ⟨(l.drop (Rm.getG l).2).toArray⟩) ∧ W = w' := fun W => by have h := behind_l l (Rm.getG l).2 W (by omega) (by omega); rw [← hlb] at h; exact h
        have ht2 := fun W => retake_l (l.drop (Rm.getG l).2) W (by rw [List.length_drop]; omega)
        have hT2 : TT = (Rm.getG l).1 % 4294967296 := HTV.out
        have hX2 : X = (Rm.takeG (l.drop (Rm.getG l).2)).1 := HXV.out
        generalize Rm.getG l = g2 at hg2 hb2 ht2 hT2 hX2 hge2
        obtain ⟨tv, q⟩ := g2
        generalize (⟨(l.drop (tv, q).2).toArray⟩ : ByteArray) = d3 at hb2 ht2
        generalize Rm.takeG (l.drop (tv, q).2) = tk3 at ht2 hX2
        obtain ⟨xl, xm⟩ := tk3
        have hX3 : X = xl := hX2
        subst hX3
        obtain ⟨xb, rfl⟩ : ∃ xb : ByteArray, X = xb.data.toList := ⟨⟨X.toArray⟩, by simp⟩
        have hT3 : TT = tv % 4294967296 := hT2
        have hTb : TT < 4294967296 := by omega
        have htvb : tv < 18446744073709551616 := hge2.2
        have HGF4 := Lib.hid (show Rm.guessF s.data.toList = { noOb with kind := (s[0].toNat : Int), tree := idl, pars := acc, time := TT, text := xb } from HGF3.out)
        have HG2 := Lib.hid (fun W => show Calls Tryd.prog 38 #[.string lb] W fun r w' => r = .returned (.tuple #[.int .u64 tv, .int .i64 q]) ∧ W = w' from hg2 W)
        have HB2 := Lib.hid (fun W => show Calls Tryd.prog 36 #[.string lb, .int .i64 q] W fun r w' => r = .returned (.string d3) ∧ W = w' from hb2 W)
        have HT2 := Lib.hid (fun W => show Calls Tryd.prog 35 #[.string d3] W fun r w' => r = .returned (.tuple #[.string xb, .int .i64 xm]) ∧ W = w' from ht2 W)
        have hti : (tv : Int) % 4294967296 = (TT : Int) := by omega
        have htm : Int.tmod (tv : Int) 4294967296 = (TT : Int) := by rw [Int.tmod_eq_emod_of_nonneg (Int.natCast_nonneg _)]; exact hti
        clear hlb hge2 hg2 hb2 ht2 hT2 hX2 hT3 HGF3 HTV HXV
        obtain ⟨pv, O1, B1⟩ := T.row
        have E1 := Lib.hid T.box
        have hB1 := T.below
        have HT := Lib.hid T
        have hfew := T.few
        obtain ⟨pa, cap, rfl⟩ := own_form O1
        have HF1 := Lib.hid (obC_F { noOb with kind := (s[0].toNat : Int), tree := idl, pars := acc } nilV (.slice pa acc.length cap) HIL.out rfl rfl rfl)
        have c36 := B1.cell 36 _ HF1.out.c36
        have f36 := B1.fr 36
        clear T
        go_wp2_with (first
          | (go_at_call 38; fail))
        refine (HG2.out _).mono ?_
        rintro r w5 ⟨rfl, rfl⟩
        go_wp2_with (first
          | (go_at_call 36; fail))
        refine (HB2.out _).mono ?_
        rintro r w5 ⟨rfl, rfl⟩
        have B2 := B1.time TT HIL.out
        have E2 := Lib.hid ((heap_setCell_other wr ⟨w.heap.size + 1, 36, none⟩ w.heap.size (.int .u32 (TT : Int)) (by simp)).trans E1.out)
        have hB2 := hB1.setCell (p := ⟨w.heap.size + 1, 36, none⟩) (by simp) (.int .u32 (TT : Int))
        have O2 := own_keep O1 (b := w.heap.size + 1) (grown_set wr (w.heap.size + 1) 36 (.int .u32 (TT : Int))) (by omega)
        generalize wr.setCell ⟨w.heap.size + 1, 36, none⟩ (.int .u32 (TT : Int)) = w6 at B2 E2 hB2 O2 ⊢
        clear B1 E1 hB1 O1 c36 f36
        go_wp2_with fail
        refine (HT2.out _).mono ?_
        rintro r w7 ⟨rfl, rfl⟩
        have HF2 := Lib.hid (obC_F { noOb with kind := (s[0].toNat : Int), tree := idl, pars := acc, time := TT } nilV (.slice pa acc.length cap) HIL.out rfl rfl rfl)
        have c37 := B2.cell 37 _ HF2.out.c37
        have f37 := B2.fr 37
        have B3 := Lib.hid (B2.text xb HIL.out)
        have E3 := Lib.hid ((heap_setCell_other w6 ⟨w.heap.size + 1, 37, none⟩ w.heap.size (.string xb) (by simp)).trans E2.out)
        have hB3 := hB2.setCell (p := ⟨w.heap.size + 1, 37, none⟩) (by simp) (.string xb)
        have O3 := own_keep O2 (b := w.heap.size + 1) (grown_set w6 (w.heap.size + 1) 37 (.string xb)) (by omega)
        have HF3 := Lib.hid (obC_F { noOb with kind := (s[0].toNat : Int), tree := idl, pars := acc, time := TT, text := xb } nilV (.slice pa acc.length cap) HIL.out rfl rfl rfl)
        go_wp2_with (first
          | ((with_reducible refine ld_obr (x := .tmp 3) ?_ ?_ ?_ B3.out.held HF3.out.size ?_); rfl; rfl; rfl)
          | ((with_reducible refine st_obr (x := .tmp 2) (y := .tmp 138) ?_ ?_ ?_ ?_ E3.out HS0.out HF3.out.size HF3.out.one ?_); rfl; rfl; rfl; rfl))
        refine bodyPost_ret (results_cell_row (fn := Tryd.f17) (p := 2) (by rfl) _ _ w.heap.size _ _ _ _ (by rfl) (setRow_heap _ _ _ _ _ _ E3.out) Tryd.underlying29 rfl (obsize HF3.out.size)) rfl ⟨_, none, pa, 0, cap, rfl, ?_, below_setRow hB3 (Nat.le_refl _) _, fun a ha => by rcases ha with ha | ha; cases ha; exact own_new O3 (by omega) a ha⟩
        rw [HGF4.out]
        have hown : ((w6.setCell ⟨w.heap.size + 1, 37, none⟩ (.string xb)).setRow w.heap.size (obC { noOb with kind := (s[0].toNat : Int), tree := idl, pars := acc, time := TT, text := xb } nilV (.slice pa acc.length cap)).toArray).ownsRow (w.heap.size + 2) 25 32 (.slice pa acc.length cap) acc.length (acc.flatMap idC) := own_keep O3 (b := w.heap.size) ⟨rfl, rfl, rfl, by rw [setRow_size]; exact Nat.le_refl _, fun k _ hk => setRow_other _ _ _ _ (by simpa using hk)⟩ (by omega)
        exact ⟨HF3.out, RowsAt.nil _ _, own_rows idC 32 hown (fun e he => by rw [idC_length]; exact HT.out.ids e he), (fun e he => by cases he), (fun e he => by cases he), HT.out.ids, Nat.zero_le _, (show acc.length ≤ maxLen by unfold maxLen; omega), (show (0 : Nat) ≤ maxLen from Nat.zero_le _), hTb⟩

end Go.Proofs.YtcicfjfbnbkkcaaDoor
end

section
namespace Go.Proofs.YtcicfjfbnbkkcaaDoor
open Go.RowKit
set_option linter.unusedVariables false
set_option linter.unusedSimpArgs false

theorem guess_any (s : ByteArray) (w : World) (h0 : 0 < s.size) (hs : s.size ≤ 5000) :
    Calls Tryd.prog 17 #[.string s] w (Gsd s.data.toList w) := by
  by_cases hm : (Rm.takeG (s.data.toList.drop 1)).2 = 0
  · exact guess_none s w h0 hs hm
  by_cases h1 : (s[0].toNat : Int) = 1
  · exact guess_blob s w h0 hs hm h1
  by_cases h2 : (s[0].toNat : Int) = 2
  · exact guess_tree s w h0 hs hm h2
  by_cases h3 : (s[0].toNat : Int) = 3
  · exact guess_commit s w h0 hs hm h3
  by_cases h4 : (s[0].toNat : Int) = 4
  · by_cases ht : (Rm.takeG (s.data.toList.drop 1)).1 = []
    · exact guess_tag1 s w h0 hs hm h4 ht
    · exact guess_tag2 s w h0 hs hm h4 ht
  · exact guess_other s w h0 hs hm (by omega)

theorem cgX_len (t : List UInt8) : (Rm.cgX t).length ≤ t.length := by
  unfold Rm.cgX Rm.cgP
  have h1 := (Rm.parsG_len (Rm.cgN t) (Rm.cgA t) []).2
  have h2 : (Rm.cgA t).length ≤ t.length := by unfold Rm.cgA; rw [List.length_drop, List.length_drop]; omega
  generalize Rm.parsG (Rm.cgN t) (Rm.cgA t) [] = p at h1 ⊢
  have h3 := (Rm.takeG_len (p.2.drop (Rm.getG p.2).2)).1
  rw [List.length_drop] at h3
  omega
theorem body_short (k : Int) (t : List UInt8) : (Rm.bodyG k t).data.size ≤ t.length ∧ (Rm.bodyG k t).text.size ≤ t.length := by
  have e0 : noOb.data.size = 0 := rfl
  have e1 : noOb.text.size = 0 := rfl
  unfold Rm.bodyG
  split
  · exact ⟨Nat.le_of_eq (Rm.mk_size t), by show noOb.text.size ≤ _; omega⟩
  · split
    · exact ⟨by show noOb.data.size ≤ _; omega, by show noOb.text.size ≤ _; omega⟩
    · split
      · refine ⟨by show noOb.data.size ≤ _; omega, ?_⟩
        show (ByteArray.mk (Rm.cgX t).toArray).size ≤ _
        rw [Rm.mk_size]; exact cgX_len t
      · split
        · exact ⟨by show noOb.data.size ≤ _; omega, by show noOb.text.size ≤ _; omega⟩
        · exact ⟨by show noOb.data.size ≤ _; omega, by show noOb.text.size ≤ _; omega⟩
theorem guess_short (l : List UInt8) : (Rm.guessF l).data.size ≤ l.length ∧ (Rm.guessF l).text.size ≤ l.length := by
  have h := (Rm.takeG_len (l.drop 1)).1
  rw [List.length_drop] at h
  have h2 := body_short (Rm.kindV l) (Rm.takeG (l.drop 1)).1
  have e0 : noOb.data.size = 0 := rfl
  have e1 : noOb.text.size = 0 := rfl
  unfold Rm.guessF
  split
  · omega
  · omega

end Go.Proofs.YtcicfjfbnbkkcaaDoor
end

section
namespace Go.Proofs.YtcicfjfbnbkkcaaDoor
open Go.RowKit
set_option linter.unusedVariables false
set_option linter.unusedSimpArgs false

/-- The document's Decode found nothing. -/
def NoR (w : World) (r : Ending) (w' : World) : Prop := r = .returned (.tuple #[.agg (obC noOb nilV nilV).toArray, .bool false]) ∧ Below w.heap.size w w'
/-- The document's Decode found this object. -/
def AR (o : Ob) (w : World) (r : Ending) (w' : World) : Prop :=
  ∃ (cs : Array Value) (ao bo : Option Addr) (ca cb : Nat), r = .returned (.tuple #[.agg cs, .bool true]) ∧ ObAt w' cs o ao bo ca cb ∧ Below w.heap.size w w'

set_option maxHeartbeats 1000000 in
set_option maxRecDepth 100000 in
theorem refdec_empty (w : World) : Calls Tryd.prog 6 #[.string ByteArray.empty] w (NoR w) := by
  unfold NoR
  have hz28 := (zero_of_info zero28).1
  have HS0 := Lib.hid noF.size
  have HO0 := Lib.hid noF.one
  have HBN := Lib.hid built_none
  generalize (obC noOb nilV nilV).toArray = z at hz28 HS0 HO0 HBN ⊢
  have E0 := Lib.hid (heap_alloc_last w (.cells z 29))
  have hB0 := (Below.refl w.heap.size w).alloc (Nat.le_refl _) (.cells z 29)
  go_enter Tryd.func6, Tryd.ntmps6
  go_wp2_with (first
    | ((with_reducible refine bd_obz ?_ ?_ HBN.out ?_); rfl; rfl)
    | ((with_reducible refine st_obr (x := .tmp 2) (y := .tmp 9) ?_ ?_ ?_ ?_ E0.out HS0.out HS0.out HO0.out ?_); rfl; rfl; rfl; rfl))
  refine bodyPost_ret (results_cell_tmp (fn := Tryd.f6) (p := 2) (q := 3) (by rfl) _ _ w.heap.size _ _ _ _ (by rfl) (setRow_heap _ _ _ _ _ _ E0.out) Tryd.underlying29 rfl (obsize HS0.out)) rfl ⟨rfl, below_setRow hB0 (Nat.le_refl _) _⟩

set_option maxHeartbeats 2000000 in
set_option maxRecDepth 100000 in
theorem refdec_bad (s : ByteArray) (w : World) (h0 : 0 < s.size) (hs : s.size ≤ 5000) (hok : encOk (Rm.guessF s.data.toList) = false) : Calls Tryd.prog 6 #[.string s] w (NoR w) := by
  unfold NoR
  have hz28 := (zero_of_info zero28).1
  have HS0 := Lib.hid noF.size
  have HO0 := Lib.hid noF.one
  have HBN := Lib.hid built_none
  generalize (obC noOb nilV nilV).toArray = z at hz28 HS0 HO0 HBN ⊢
  have E0 := Lib.hid (heap_alloc_last w (.cells z 29))
  have hB0 := (Below.refl w.heap.size w).alloc (Nat.le_refl _) (.cells z 29)
  have hne2 : ¬ s = ByteArray.empty := fun e => by rw [e] at h0; exact absurd h0 (by decide)
  have hne : s.toList.isEmpty = false := by
    rw [ByteArray.toList_eq]
    have h1 := size_list s
    cases hl : s.data.toList with
    | nil => rw [hl] at h1; simp at h1; omega
    | cons a b => rfl
  have HGS := Lib.hid (fun W => guess_any s W h0 hs)
  have hsl := size_list s
  have hsh := guess_short s.data.toList
  have HRE := Lib.hid (fun (W : World) (cs : Array Value) (ao bo : Option Addr) (ca cb : Nat) (h : ObAt W cs (Rm.guessF s.data.toList) ao bo ca cb) => refencode_any cs (Rm.guessF s.data.toList) ao bo ca cb W h (by omega) (by omega))
  rw [hok] at HRE
  clear hok
  clear hsl hsh
  go_enter Tryd.func6, Tryd.ntmps6
  go_wp2_with (first
    | (go_at_call 17; fail))
  refine (HGS.out _).mono ?_
  rintro r w2 ⟨cs, ao, bo, ca, cb, rfl, hO, hx2, hnew⟩
  have HNW := Lib.hid (show ∀ a : Addr, ao = some a ∨ bo = some a → w.heap.size + 1 ≤ a.block from fun a ha => by have := hnew a ha; simpa using this)
  clear hnew
  have E2 := Lib.hid ((hx2.block w.heap.size (by simp)).trans E0.out)
  have hB2 := hB0.trans (hx2.mono hB0.size)
  generalize w.alloc (.cells z 29) = w1 at *
  have HCS := Lib.hid hO.F.size
  have HCO := Lib.hid hO.F.one
  have HN := Lib.hid (heap_alloc_last w2 (.cells cs 29))
  have hO3 := hO.below ((Below.refl w2.heap.size w2).alloc (Nat.le_refl _) (.cells cs 29))
  have E3 := Lib.hid (held_alloc (o := .cells cs 29) E2.out)
  have hB3 := hB2.alloc hB2.size (.cells cs 29)
  have HCALL := Lib.hid (HRE.out _ _ _ _ _ _ hO3)
  go_wp2_with (first
    | (go_at_call 18; fail)
    | ((with_reducible refine st_ob2 (x := .tmp 4) (y := .tmp 11) (g := w2.heap.size) ?_ ?_ ?_ ?_ ?_ ?_ HCS.out HCO.out ?_); rfl; rfl; rfl; rfl; exact HS0.out; rfl)
    | ((with_reducible refine ld_obr (x := .tmp 4) ?_ ?_ ?_ HN.out HCS.out ?_); rfl; rfl; rfl))
  refine HCALL.out.mono ?_
  rintro r w4 ⟨hr, hx4⟩
  have hr2 : r = .returned (.tuple #[.string ⟨#[]⟩, .bool false]) := hr
  subst hr2
  clear hr
  have E4 := Lib.hid ((hx4.block w.heap.size (by have := (Array.getElem?_eq_some_iff.1 E3.out).1; exact this)).trans E3.out)
  have N4 := Lib.hid ((hx4.block w2.heap.size (by simp)).trans HN.out)
  have hB4 := hB3.trans (hx4.mono hB3.size)
  have hO4 := hO3.below hx4
  go_wp2_with (first
    | ((with_reducible refine bd_obz ?_ ?_ HBN.out ?_); rfl; rfl)
    | ((with_reducible refine st_obr (x := .tmp 2) (y := .tmp 24) ?_ ?_ ?_ ?_ E4.out HS0.out HS0.out HO0.out ?_); rfl; rfl; rfl; rfl))
  refine bodyPost_ret (results_cell_tmp (fn := Tryd.f6) (p := 2) (q := 3) (by rfl) _ _ w.heap.size _ _ _ _ (by rfl) (setRow_heap _ _ _ _ _ _ E4.out) Tryd.underlying29 rfl (obsize HS0.out)) rfl ⟨rfl, below_setRow hB4 (Nat.le_refl _) _⟩

set_option maxHeartbeats 2000000 in
set_option maxRecDepth 100000 in
theorem refdec_diff (s : ByteArray) (w : World) (h0 : 0 < s.size) (hs : s.size ≤ 5000) (hok : encOk (Rm.guessF s.data.toList) = true) (hd : encS (Rm.guessF s.data.toList) ≠ s) : Calls Tryd.prog 6 #[.string s] w (NoR w) := by
  unfold NoR
  have hz28 := (zero_of_info zero28).1
  have HS0 := Lib.hid noF.size
  have HO0 := Lib.hid noF.one
  have HBN := Lib.hid built_none
  generalize (obC noOb nilV nilV).toArray = z at hz28 HS0 HO0 HBN ⊢
  have E0 := Lib.hid (heap_alloc_last w (.cells z 29))
  have hB0 := (Below.refl w.heap.size w).alloc (Nat.le_refl _) (.cells z 29)
  have hne2 : ¬ s = ByteArray.empty := fun e => by rw [e] at h0; exact absurd h0 (by decide)
  have hne : s.toList.isEmpty = false := by
    rw [ByteArray.toList_eq]
    have h1 := size_list s
    cases hl : s.data.toList with
    | nil => rw [hl] at h1; simp at h1; omega
    | cons a b => rfl
  have HGS := Lib.hid (fun W => guess_any s W h0 hs)
  have hsl := size_list s
  have hsh := guess_short s.data.toList
  have HRE := Lib.hid (fun (W : World) (cs : Array Value) (ao bo : Option Addr) (ca cb : Nat) (h : ObAt W cs (Rm.guessF s.data.toList) ao bo ca cb) => refencode_any cs (Rm.guessF s.data.toList) ao bo ca cb W h (by omega) (by omega))
  rw [hok] at HRE
  clear hok
  generalize encS (Rm.guessF s.data.toList) = es at HRE hd
  have hd2 : ¬ es = s := hd
  have hd4 : ¬ es.toList = s.toList := fun e => hd (bytes_ext (by rw [ByteArray.toList_eq, ByteArray.toList_eq] at e; exact e))
  have hd5 : (es.toList == s.toList) = false := by rw [beq_eq_false_iff_ne]; exact hd4
  have hd6 : (!(es.toList == s.toList)) = true := by rw [hd5]; rfl
  clear hd
  clear hsl hsh
  go_enter Tryd.func6, Tryd.ntmps6
  go_wp2_with (first
    | (go_at_call 17; fail))
  refine (HGS.out _).mono ?_
  rintro r w2 ⟨cs, ao, bo, ca, cb, rfl, hO, hx2, hnew⟩
  have HNW := Lib.hid (show ∀ a : Addr, ao = some a ∨ bo = some a → w.heap.size + 1 ≤ a.block from fun a ha => by have := hnew a ha; simpa using this)
  clear hnew
  have E2 := Lib.hid ((hx2.block w.heap.size (by simp)).trans E0.out)
  have hB2 := hB0.trans (hx2.mono hB0.size)
  generalize w.alloc (.cells z 29) = w1 at *
  have HCS := Lib.hid hO.F.size
  have HCO := Lib.hid hO.F.one
  have HN := Lib.hid (heap_alloc_last w2 (.cells cs 29))
  have hO3 := hO.below ((Below.refl w2.heap.size w2).alloc (Nat.le_refl _) (.cells cs 29))
  have E3 := Lib.hid (held_alloc (o := .cells cs 29) E2.out)
  have hB3 := hB2.alloc hB2.size (.cells cs 29)
  have HCALL := Lib.hid (HRE.out _ _ _ _ _ _ hO3)
  go_wp2_with (first
    | (go_at_call 18; fail)
    | ((with_reducible refine st_ob2 (x := .tmp 4) (y := .tmp 11) (g := w2.heap.size) ?_ ?_ ?_ ?_ ?_ ?_ HCS.out HCO.out ?_); rfl; rfl; rfl; rfl; exact HS0.out; rfl)
    | ((with_reducible refine ld_obr (x := .tmp 4) ?_ ?_ ?_ HN.out HCS.out ?_); rfl; rfl; rfl))
  refine HCALL.out.mono ?_
  rintro r w4 ⟨hr, hx4⟩
  have hr2 : r = .returned (.tuple #[.string es, .bool true]) := hr
  subst hr2
  clear hr
  have E4 := Lib.hid ((hx4.block w.heap.size (by have := (Array.getElem?_eq_some_iff.1 E3.out).1; exact this)).trans E3.out)
  have N4 := Lib.hid ((hx4.block w2.heap.size (by simp)).trans HN.out)
  have hB4 := hB3.trans (hx4.mono hB3.size)
  have hO4 := hO3.below hx4
  go_wp2_with (first
    | ((with_reducible refine bd_obz ?_ ?_ HBN.out ?_); rfl; rfl)
    | ((with_reducible refine st_obr (x := .tmp 2) (y := .tmp 24) ?_ ?_ ?_ ?_ E4.out HS0.out HS0.out HO0.out ?_); rfl; rfl; rfl; rfl))
  refine bodyPost_ret (results_cell_tmp (fn := Tryd.f6) (p := 2) (q := 3) (by rfl) _ _ w.heap.size _ _ _ _ (by rfl) (setRow_heap _ _ _ _ _ _ E4.out) Tryd.underlying29 rfl (obsize HS0.out)) rfl ⟨rfl, below_setRow hB4 (Nat.le_refl _) _⟩

set_option maxHeartbeats 2000000 in
set_option maxRecDepth 100000 in
theorem refdec_good (s : ByteArray) (w : World) (h0 : 0 < s.size) (hs : s.size ≤ 5000) (hok : encOk (Rm.guessF s.data.toList) = true) (hd : encS (Rm.guessF s.data.toList) = s) : Calls Tryd.prog 6 #[.string s] w (AR (Rm.guessF s.data.toList) w) := by
  unfold AR
  have hz28 := (zero_of_info zero28).1
  have HS0 := Lib.hid noF.size
  have HO0 := Lib.hid noF.one
  have HBN := Lib.hid built_none
  generalize (obC noOb nilV nilV).toArray = z at hz28 HS0 HO0 HBN 
  have E0 := Lib.hid (heap_alloc_last w (.cells z 29))
  have hB0 := (Below.refl w.heap.size w).alloc (Nat.le_refl _) (.cells z 29)
  have hne2 : ¬ s = ByteArray.empty := fun e => by rw [e] at h0; exact absurd h0 (by decide)
  have hne : s.toList.isEmpty = false := by
    rw [ByteArray.toList_eq]
    have h1 := size_list s
    cases hl : s.data.toList with
    | nil => rw [hl] at h1; simp at h1; omega
    | cons a b => rfl
  have HGS := Lib.hid (fun W => guess_any s W h0 hs)
  have hsl := size_list s
  have hsh := guess_short s.data.toList
  have HRE := Lib.hid (fun (W : World) (cs : Array Value) (ao bo : Option Addr) (ca cb : Nat) (h : ObAt W cs (Rm.guessF s.data.toList) ao bo ca cb) => refencode_any cs (Rm.guessF s.data.toList) ao bo ca cb W h (by omega) (by omega))
  rw [hok, hd] at HRE
  clear hok hd
  clear hsl hsh
  go_enter Tryd.func6, Tryd.ntmps6
  go_wp2_with (first
    | (go_at_call 17; fail))
  refine (HGS.out _).mono ?_
  rintro r w2 ⟨cs, ao, bo, ca, cb, rfl, hO, hx2, hnew⟩
  have HNW := Lib.hid (show ∀ a : Addr, ao = some a ∨ bo = some a → w.heap.size + 1 ≤ a.block from fun a ha => by have := hnew a ha; simpa using this)
  clear hnew
  have E2 := Lib.hid ((hx2.block w.heap.size (by simp)).trans E0.out)
  have hB2 := hB0.trans (hx2.mono hB0.size)
  generalize w.alloc (.cells z 29) = w1 at *
  have HCS := Lib.hid hO.F.size
  have HCO := Lib.hid hO.F.one
  have HN := Lib.hid (heap_alloc_last w2 (.cells cs 29))
  have hO3 := hO.below ((Below.refl w2.heap.size w2).alloc (Nat.le_refl _) (.cells cs 29))
  have E3 := Lib.hid (held_alloc (o := .cells cs 29) E2.out)
  have hB3 := hB2.alloc hB2.size (.cells cs 29)
  have HCALL := Lib.hid (HRE.out _ _ _ _ _ _ hO3)
  go_wp2_with (first
    | (go_at_call 18; fail)
    | ((with_reducible refine st_ob2 (x := .tmp 4) (y := .tmp 11) (g := w2.heap.size) ?_ ?_ ?_ ?_ ?_ ?_ HCS.out HCO.out ?_); rfl; rfl; rfl; rfl; exact HS0.out; rfl)
    | ((with_reducible refine ld_obr (x := .tmp 4) ?_ ?_ ?_ HN.out HCS.out ?_); rfl; rfl; rfl))
  refine HCALL.out.mono ?_
  rintro r w4 ⟨hr, hx4⟩
  have hr2 : r = .returned (.tuple #[.string s, .bool true]) := hr
  subst hr2
  clear hr
  have E4 := Lib.hid ((hx4.block w.heap.size (by have := (Array.getElem?_eq_some_iff.1 E3.out).1; exact this)).trans E3.out)
  have N4 := Lib.hid ((hx4.block w2.heap.size (by simp)).trans HN.out)
  have hB4 := hB3.trans (hx4.mono hB3.size)
  have hO4 := hO3.below hx4
  go_wp2_with (first
    | ((with_reducible refine ld_obr (x := .tmp 4) ?_ ?_ ?_ N4.out HCS.out ?_); rfl; rfl; rfl)
    | ((with_reducible refine st_obr (x := .tmp 2) (y := .tmp 25) ?_ ?_ ?_ ?_ E4.out HS0.out HCS.out HCO.out ?_); rfl; rfl; rfl; rfl))
  refine bodyPost_ret (results_cell_tmp (fn := Tryd.f6) (p := 2) (q := 3) (by rfl) _ _ w.heap.size _ _ _ _ (by rfl) (setRow_heap _ _ _ _ _ _ E4.out) Tryd.underlying29 rfl (obsize HCS.out)) rfl ⟨cs, ao, bo, ca, cb, rfl, ?_, below_setRow hB4 (Nat.le_refl _) _⟩
  exact hO4.setRow (fun a ha => by have := HNW.out a ha; omega)

end Go.Proofs.YtcicfjfbnbkkcaaDoor
end

section
namespace Go.Proofs.YtcicfjfbnbkkcaaDoor
open Go.RowKit
set_option linter.unusedVariables false
set_option linter.unusedSimpArgs false

/-- The texts of an object whose encoding is short are short; the encoding has a byte at least. -/
theorem short_ob {o : Ob} (hv : validB o = true) (hs : (encS o).size ≤ 4096) : o.data.size ≤ 5000 ∧ o.text.size ≤ 5000 ∧ o.name.size ≤ 100 ∧ 0 < (encS o).size := by
  have e : (encS o).data.toList = byteK o.kind :: (textOf ⟨(bodyL o).toArray⟩).data.toList := by
    unfold encS
    rw [ByteArray.data_append, Array.toList_append]; rfl
  have h1 := congrArg List.length e
  have hl : (bodyL o).length ≤ 4096 := by
    rw [size_list, Rm.textOf_list, List.length_cons, List.length_append] at h1
    omega
  have hv2 := hv
  unfold validB foreignZ at hv2
  simp only [Bool.and_eq_true, Bool.or_eq_true, beq_iff_eq, blobZ, treeZ, commitZ, tagZ, decide_eq_true_eq, List.isEmpty_iff] at hv2
  obtain ⟨⟨⟨⟨z1, z2⟩, z3⟩, z4⟩, zz⟩ := hv2
  have hd : o.data.size ≤ 5000 := by
    by_cases e1 : o.kind = 1
    · have : bodyL o = o.data.data.toList := by simp [bodyL, e1]
      rw [this, size_list] at hl; omega
    · rw [Rm.empty_of (z1.resolve_left e1)]; decide
  have ht : o.text.size ≤ 5000 := by
    by_cases e3 : o.kind = 3
    · have : bodyL o = commitL o := by simp [bodyL, e3]
      rw [this] at hl
      unfold commitL textOf at hl
      rw [put_list] at hl
      simp only [List.length_append, size_list] at hl
      omega
    · rw [Rm.empty_of (z3.resolve_left e3).2]; decide
  have hn : o.name.size ≤ 100 := by
    by_cases e4 : o.kind = 4
    · rw [if_neg (by omega), if_neg (by omega), if_neg (by omega), if_pos e4] at zz
      rw [Bool.and_eq_true] at zz
      have := nameOk_size zz.2
      omega
    · rw [Rm.empty_of (z4.resolve_left e4).2]; decide
  refine ⟨hd, ht, hn, ?_⟩
  rw [size_list, List.length_cons] at h1; omega
theorem no_at (w : World) : ObAt w (obC noOb nilV nilV).toArray noOb none none 0 0 :=
  ⟨noF, RowsAt.nil _ _, RowsAt.nil _ _, (fun e he => by cases he), (fun e he => by cases he), (fun e he => by cases he), Nat.zero_le _, Nat.zero_le _, (show (0 : Nat) ≤ maxLen from Nat.zero_le _), (show (0 : Nat) < 4294967296 by decide)⟩

/-- The program's Decode, where nothing is found, and where an object is. -/
theorem dec_no (s : ByteArray) (w : World) (hs : s.size ≤ maxLen) (h : Rm.dec s.data.toList = none) : Calls Tryd.prog 5 #[.string s] w (NoDec w) := by
  have := decode_any s w hs
  unfold Dcd at this
  rw [h] at this
  exact this
theorem dec_yes (s : ByteArray) (o : Ob) (w : World) (hs : s.size ≤ maxLen) (h : Rm.dec s.data.toList = some o) : Calls Tryd.prog 5 #[.string s] w (ADec o w) := by
  have := decode_any s w hs
  unfold Dcd at this
  rw [h] at this
  exact this

/-- The document's Decode finds nothing where the program's finds nothing. -/
theorem refdec_no (s : ByteArray) (w : World) (hs : s.size ≤ 5000) (h : Rm.dec s.data.toList = none) : Calls Tryd.prog 6 #[.string s] w (NoR w) := by
  by_cases h0 : 0 < s.size
  · cases hok : encOk (Rm.guessF s.data.toList) with
    | false => exact refdec_bad s w h0 hs hok
    | true =>
      by_cases hd : encS (Rm.guessF s.data.toList) = s
      · refine (refdec_good s w h0 hs hok hd).mono ?_
        rintro r w' ⟨cs, ao, bo, ca, cb, _, hO, _⟩
        exfalso
        have hok2 := hok
        unfold encOk at hok2
        rw [Bool.and_eq_true, decide_eq_true_eq] at hok2
        obtain ⟨h1, h2, h3, _⟩ := short_ob hok2.1 hok2.2
        have hf := Rm.dec_fwd hok2.1 (fit_of hok2.1 h1 h2 h3) hO.eid hO.pid hO.F.trl hO.F.tal hO.ti hok2.2
        rw [hd, h] at hf
        cases hf
      · exact refdec_diff s w h0 hs hok hd
  · have he : s = ByteArray.empty := bytes_ext (by
      have := size_list s
      have h1 : s.data.toList.length = 0 := by omega
      rw [List.eq_nil_of_length_eq_zero h1]; rfl)
    rw [he]
    exact refdec_empty w
/-- And the same object where it finds one. -/
theorem refdec_yes (s : ByteArray) (o : Ob) (w : World) (hs : s.size ≤ 5000) (h : Rm.dec s.data.toList = some o) (ei : ∀ e ∈ o.ents, e.id.length = 32) (pi : ∀ p ∈ o.pars, p.length = 32) (ht : o.tree.length = 32) (hg : o.target.length = 32) (hti : o.time < 4294967296) :
    Calls Tryd.prog 6 #[.string s] w (AR o w) := by
  obtain ⟨hv2, he2, hl2, _⟩ := Rm.dec_inv h
  have hes2 : encS o = s := bytes_ext he2
  have hsz2 : (encS o).size ≤ 4096 := by rw [← size_list, he2]; exact hl2
  obtain ⟨h1, h2, h3, h4⟩ := short_ob hv2 hsz2
  have hgs := Rm.guess_fwd hv2 (fit_of hv2 h1 h2 h3) ei pi ht hg hti
  rw [he2] at hgs
  have hok : encOk o = true := by unfold encOk; rw [hv2, decide_eq_true hsz2]; rfl
  have := refdec_good s w (by rw [← hes2]; exact h4) hs (by rw [hgs]; exact hok) (by rw [hgs]; exact hes2)
  rw [hgs] at this
  exact this

set_option maxHeartbeats 800000 in
set_option maxRecDepth 100000 in
theorem id_any (s : ByteArray) (w : World) (hk : S2.KIn w) (hl : s.size ≤ 70368744177664) :
    Calls Tryd.prog 8 #[.string s] w fun r w' => r = .returned (.agg (S2.idA (S2.Sh.idOf (S2.Sh.sha s.data.toList)))) ∧ Below w.heap.size w w' := by
  have hsum := S2.sum_one s (w.alloc (.cells (S2.idA []) 25)) (hk.more _) hl
  rw [show (w.alloc (.cells (S2.idA []) 25)).heap.size = w.heap.size + 1 by simp] at hsum
  have hil := S2.Sh.idOf_length (S2.Sh.sha s.data.toList)
  generalize S2.Sh.idOf (S2.Sh.sha s.data.toList) = M at *
  have HSUM := Lib.hid hsum
  have hM : M.length ≤ 32 := by omega
  have HI := Lib.hid (S2.idsize hM)
  have H0 := Lib.hid (show (S2.idA []).size = (S2.idA M).size by rw [S2.idA_size M hM]; rfl)
  have H1 := Lib.hid (S2.idA_one M)
  clear hsum hil hM hk
  generalize S2.idA M = da at *
  go_enter Tryd.func8, Tryd.ntmps8
  go_wp2_with fail
  refine HSUM.out.mono ?_
  rintro r w2 ⟨rfl, hb2⟩
  have E0 : Hid (w2.heap[w.heap.size]? = some (.cells (S2.idA []) 25)) := (hb2.block w.heap.size (by omega)).trans ((Below.heap_alloc _ _ _ (by simp)).trans (heap_alloc_last w _))
  have hb8 : Below w.heap.size w w2 := (((Below.refl _ _).alloc (Nat.le_refl _) _).alloc (by simp) _).trans (hb2.mono (by omega))
  clear hb2 HSUM
  go_wp2_with (refine wpList_store_row rfl 25 _ _ rfl w.heap.size _ rfl rfl _ _ E0.out HI.out H0.out H1.out ?_)
  refine bodyPost_ret (v := .agg da) ?_ rfl ⟨rfl, below_setRow hb8 (Nat.le_refl _) _⟩
  exact results_cell_row (by rfl) _ _ w.heap.size _ _ _ _ (by rfl) (setRow_heap _ _ _ _ _ _ E0.out) Tryd.underlying25 rfl HI.out

set_option maxHeartbeats 800000 in
set_option maxRecDepth 100000 in
theorem decodes_long (s : ByteArray) (w : World) (hs : s.size ≤ 9223372036854775807) (h : 600 < s.size) :
    Calls Tryd.prog 3 #[.string s] w fun r w' => r = .returned (.bool true) ∧ Below w.heap.size w w' := by
  have h' : (600 : Int) < (s.size : Int) := by omega
  go_enter Tryd.func3, Tryd.ntmps3
  go_wp2_with fail
  refine (knows_true _).mono ?_
  rintro r w1 ⟨rfl, hb1⟩
  go_wp2_with fail
  go_ret
  exact ⟨rfl, hb1⟩

set_option maxHeartbeats 2000000 in
set_option maxRecDepth 100000 in
theorem decodes_none (s : ByteArray) (w : World) (h : s.size ≤ 600) (hk : S2.KIn w) (hd : Rm.dec s.data.toList = none) :
    Calls Tryd.prog 3 #[.string s] w fun r w' => r = .returned (.bool true) ∧ Below w.heap.size w w' := by
  have h' : ¬ (600 : Int) < (s.size : Int) := by omega
  have hsm : s.size ≤ maxLen := by unfold maxLen; omega
  have HK := Lib.hid hk
  clear hk
  have HID := Lib.hid (fun (W : World) (hk : S2.KIn W) => id_any s W hk (by omega))
  have HREF := Lib.hid (fun W : World => S2.refsum_any s W (by omega))
  have HQ := Lib.hid (fun W : World => S2.eq_same (S2.Sh.idOf (S2.Sh.sha s.data.toList)) (S2.Sh.idOf_length _) W)
  generalize S2.idA (S2.Sh.idOf (S2.Sh.sha s.data.toList)) = da at HID HREF HQ
  have hz28 := (zero_of_info zero28).1
  have HS0 := Lib.hid noF.size
  have HN0 := Lib.hid noF.one
  have HNA := Lib.hid no_at
  have HND := Lib.hid (fun W => show Calls Tryd.prog 5 #[.string s] W (fun r w' => r = .returned (.tuple #[.agg (obC noOb nilV nilV).toArray, .int .i64 2]) ∧ Below W.heap.size W w') from dec_no s W hsm hd)
  have HNR := Lib.hid (fun W => show Calls Tryd.prog 6 #[.string s] W (fun r w' => r = .returned (.tuple #[.agg (obC noOb nilV nilV).toArray, .bool false]) ∧ Below W.heap.size W w') from refdec_no s W (by omega) hd)
  generalize (obC noOb nilV nilV).toArray = z at hz28 HS0 HN0 HNA HND HNR
  clear hd
  go_enter Tryd.func3, Tryd.ntmps3
  go_wp2_with fail
  refine (HND.out _).mono ?_
  rintro r w1 ⟨rfl, hx1⟩
  have K1 := Kp.box w1 z 29
  have hB1 := hx1.alloc hx1.size (.cells z 29)
  clear hx1
  go_wp2_with (first
    | ((with_reducible apply st_ob (hs := HS0.out) (h1 := HN0.out)); rfl; rfl; rfl; rfl; exact HS0.out))
  refine (HNR.out _).mono ?_
  rintro r w2 ⟨rfl, hx2⟩
  have K2 := K1.step hx2
  have hal := (Below.refl w2.heap.size w2).alloc (Nat.le_refl _) (.cells z 29)
  have K3 := K2.step hal
  have P3 := Kp.box w2 z 29
  have HSM := Lib.hid (same_any z z noOb none none none none 0 0 0 0 (w2.alloc (.cells z 29)) (HNA.out _) (HNA.out _))
  have hB3 : Below w.heap.size w (w2.alloc (.cells z 29)) := (hB1.trans (hx2.mono hB1.size)).trans (hal.mono (hB1.trans (hx2.mono hB1.size)).size)
  clear hx2 K1 K2 hal hB1
  go_wp2_with (first
    | ((with_reducible apply st_ob (hs := HS0.out) (h1 := HN0.out)); rfl; rfl; rfl; rfl; exact HS0.out)
    | ((with_reducible refine load_ob (x := .tmp 3) ?_ ?_ ?_ K3 HS0.out ?_); rfl; rfl; rfl)
    | ((with_reducible refine load_ob (x := .tmp 5) ?_ ?_ ?_ P3 HS0.out ?_); rfl; rfl; rfl))
  refine HSM.out.mono ?_
  rintro r w4 ⟨rfl, hx4⟩
  have hB4 := hB3.trans (hx4.mono hB3.size)
  clear hx4 K3 P3 hB3 HSM
  go_wp2_with fail
  refine (knows_true _).mono ?_
  rintro r w5 ⟨rfl, hx5⟩
  have hB5 := hB4.trans (hx5.mono hB4.size)
  clear hx5 hB4
  have HK5 := Lib.hid (HK.out.step hB5)
  go_wp2_with fail
  refine (HID.out _ HK5.out).mono ?_
  rintro r w6 ⟨rfl, hx6⟩
  have hB6 := hB5.trans (hx6.mono hB5.size)
  clear hx6 hB5
  go_wp2_with fail
  refine (HREF.out _).mono ?_
  rintro r w7 ⟨rfl, hx7⟩
  have hB7 := hB6.trans (hx7.mono hB6.size)
  clear hx7 hB6
  have hq := HQ.out w7
  go_wp2_with fail
  go_ret
  exact ⟨rfl, hB7⟩

set_option maxHeartbeats 2000000 in
set_option maxRecDepth 100000 in
theorem decodes_some (s : ByteArray) (o : Ob) (w : World) (h : s.size ≤ 600) (hk : S2.KIn w) (hd : Rm.dec s.data.toList = some o) :
    Calls Tryd.prog 3 #[.string s] w fun r w' => r = .returned (.bool true) ∧ Below w.heap.size w w' := by
  have h' : ¬ (600 : Int) < (s.size : Int) := by omega
  have hsm : s.size ≤ maxLen := by unfold maxLen; omega
  have HK := Lib.hid hk
  clear hk
  have HID := Lib.hid (fun (W : World) (hk : S2.KIn W) => id_any s W hk (by omega))
  have HREF := Lib.hid (fun W : World => S2.refsum_any s W (by omega))
  have HQ := Lib.hid (fun W : World => S2.eq_same (S2.Sh.idOf (S2.Sh.sha s.data.toList)) (S2.Sh.idOf_length _) W)
  generalize S2.idA (S2.Sh.idOf (S2.Sh.sha s.data.toList)) = da at HID HREF HQ
  have hz28 := (zero_of_info zero28).1
  have HS0 := Lib.hid noF.size
  have HN0 := Lib.hid noF.one
  generalize (obC noOb nilV nilV).toArray = z at hz28 HS0 HN0
  have HDY := Lib.hid (fun W => dec_yes s o W hsm hd)
  have HRY := Lib.hid (fun W => refdec_yes s o W (by omega) hd)
  clear hd
  go_enter Tryd.func3, Tryd.ntmps3
  go_wp2_with fail
  refine (HDY.out _).mono ?_
  rintro r w1 ⟨c1, ao, bo, ca, cb, rfl, hO1, hx1⟩
  have HR2 := Lib.hid (fun W => HRY.out W hO1.eid hO1.pid hO1.F.trl hO1.F.tal hO1.ti)
  have HC1 := Lib.hid hO1.F.size
  have HE1 := Lib.hid hO1.F.one
  have K1 := Kp.box w1 c1 29
  have hO2 := hO1.below K1.below
  have hB1 := hx1.alloc hx1.size (.cells c1 29)
  clear hx1 HDY HRY hO1
  go_wp2_with (first
    | ((with_reducible apply st_ob (hs := HC1.out) (h1 := HE1.out)); rfl; rfl; rfl; rfl; exact HS0.out))
  refine (HR2.out _).mono ?_
  rintro r w2 ⟨c2, ao2, bo2, ca2, cb2, rfl, hO3, hx2⟩
  have K2 := K1.step hx2
  have hO4 := hO2.below hx2
  have HC2 := Lib.hid hO3.F.size
  have HE2 := Lib.hid hO3.F.one
  have hal := (Below.refl w2.heap.size w2).alloc (Nat.le_refl _) (.cells c2 29)
  have K3 := K2.step hal
  have P3 := Kp.box w2 c2 29
  have HSM := Lib.hid (same_any c1 c2 o ao bo ao2 bo2 ca cb ca2 cb2 (w2.alloc (.cells c2 29)) (hO4.below hal) (hO3.below hal))
  have hB3 : Below w.heap.size w (w2.alloc (.cells c2 29)) := (hB1.trans (hx2.mono hB1.size)).trans (hal.mono (hB1.trans (hx2.mono hB1.size)).size)
  clear hx2 K1 K2 hal hB1 hO2 hO3 hO4 HR2
  go_wp2_with (first
    | ((with_reducible apply st_ob (hs := HC2.out) (h1 := HE2.out)); rfl; rfl; rfl; rfl; exact HS0.out)
    | ((with_reducible refine load_ob (x := .tmp 3) ?_ ?_ ?_ K3 HC1.out ?_); rfl; rfl; rfl)
    | ((with_reducible refine load_ob (x := .tmp 5) ?_ ?_ ?_ P3 HC2.out ?_); rfl; rfl; rfl))
  refine HSM.out.mono ?_
  rintro r w4 ⟨rfl, hx4⟩
  have hB4 := hB3.trans (hx4.mono hB3.size)
  clear hx4 K3 P3 hB3 HSM
  go_wp2_with fail
  refine (knows_true _).mono ?_
  rintro r w5 ⟨rfl, hx5⟩
  have hB5 := hB4.trans (hx5.mono hB4.size)
  clear hx5 hB4
  have HK5 := Lib.hid (HK.out.step hB5)
  go_wp2_with fail
  refine (HID.out _ HK5.out).mono ?_
  rintro r w6 ⟨rfl, hx6⟩
  have hB6 := hB5.trans (hx6.mono hB5.size)
  clear hx6 hB5
  go_wp2_with fail
  refine (HREF.out _).mono ?_
  rintro r w7 ⟨rfl, hx7⟩
  have hB7 := hB6.trans (hx7.mono hB6.size)
  clear hx7 hB6
  have hq := HQ.out w7
  go_wp2_with fail
  go_ret
  exact ⟨rfl, hB7⟩

theorem decodes_any (s : ByteArray) (w : World) (hs : s.size ≤ 9223372036854775807) (hk : S2.KIn w) :
    Calls Tryd.prog 3 #[.string s] w fun r w' => r = .returned (.bool true) ∧ Below w.heap.size w w' := by
  by_cases h : s.size ≤ 600
  · cases hd : Rm.dec s.data.toList with
    | none => exact decodes_none s w h hk hd
    | some o => exact decodes_some s o w h hk hd
  · exact decodes_long s w hs (by omega)

end Go.Proofs.YtcicfjfbnbkkcaaDoor
end

section
namespace Go.Proofs.YtcicfjfbnbkkcaaDoor
open Go.ChangeShapes Go.WideShapes Go.ChangeAt Go.RowKit
open Go.ChangeMaps (open_string shut_string)
set_option linter.unusedVariables false

set_option maxRecDepth 100000 in
theorem decodes_lifted (os : Os) (started : os.Started) (H : Type) (enc : TypeId × Value → H) :
    ReturnsInHanded {} Tryd.checked os 3 .any (fun w args => (Rows.objectDecodesSpec.pre enc Tryd.prog Tryd.f3 [] false w args ∧ laidMetH Tryd.prog [("knapsack/sha256.roundWords", Rows.laid_knapsack_sha256_roundWords)] w) ∧ sizedMet enc Tryd.prog Tryd.f3 (OpenSpec.ofChange Rows.objectDecodesSpec) false w args)
      (Rows.objectDecodesSpec.post enc Tryd.prog Tryd.f3 false true false false) := by
  refine returnsInHanded_of_change_and (C := Tryd.checked) (X := fun w _ => laidMetH Tryd.prog [("knapsack/sha256.roundWords", Rows.laid_knapsack_sha256_roundWords)] w) (fun _ _ _ hh h => h.of_heap hh) S2.Tryd.own started (by kernel_rfl) Tryd.func3
    (ChangeSpec.witness_shaped (enc := enc) (C := Tryd.checked) (os := os) (X := fun w _ => laidMetH Tryd.prog [("knapsack/sha256.roundWords", Rows.laid_knapsack_sha256_roundWords)] w) false (World.doorLaid Tryd.prog 400 os) #[.string .empty] 8 rfl (World.shaped_of_RefB (by kernel_rfl) (by kernel_rfl)) (by kernel_rfl) (by kernel_rfl) (by kernel_rfl) (S2.door_met os _)) ?_
  intro W base args ds gs before hval0 hW _ _ hL _
  have hval : ∀ (j : Nat) t v, Tryd.f3.params[j]? = some t → args[j]? = some v → Value.okWide Tryd.prog W .any base t v := hval0
  have hW' := hW
  obtain ⟨p, q, hA0, hV, rfl, hfz, hnd⟩ := hW
  have hA : DataW.TrodAll enc Tryd.prog W 0 (fun _ => true) true Tryd.f3.params.toList args.toList ds p := hA0
  rw [Tryd.params3] at hA hval
  obtain ⟨v0, d0, rfl, rfl, h0⟩ := trodAll_one hA
  obtain ⟨rfl, rfl⟩ := trodVars_none hV
  obtain ⟨s, rfl, rfl, rfl, hs⟩ := open_string Tryd.underlying9 (hval 0 9 v0 rfl rfl) h0
  clear hA0 hval0
  simp only [List.append_nil] at hW'
  have hk := S2.kin_of_laid hL
  have hs2 : s.size ≤ 9223372036854775807 := by unfold maxLen at hs; omega
  refine (decodes_any s W hs2 hk).mono fun e W' ⟨he, hb⟩ => ?_
  subst he
  exact ⟨_, rfl, _, _, _, [], [], [], hW', trodAll_cons_mk (shut_bool Tryd.underlying4 _) trodAll_mk0, trodAll_cons_mk (shut_string Tryd.underlying9 hs) trodAll_mk0,
    rfl, hb.frame _, fun h => by cases h⟩

theorem decodes_holds : Rows.ObjectDecodesSaid :=
  OpenClaim.holds_of_wide 3 Tryd.f3 rfl rfl rfl rfl rfl rfl rfl ⟨rfl, rfl, rfl, rfl, rfl⟩ rfl rfl rfl rfl rfl (by kernel_rfl) Tryd.func3 (by kernel_rfl)
    (of_decide_eq_true (by kernel_rfl)) (by unfold Func.isWrapper; first | (rw [if_pos (by decide +kernel)]; kernel_rfl) | (rw [if_neg (by decide +kernel)]; exact ⟨rfl, rfl⟩))
    (fun os started H enc _ => decodes_lifted os started H enc)

theorem decodes_card : Rows.ObjectDecodesCardSaid :=
  Claim7.holds_tied_plain_at .later [] [.data] true Rows.objectDecodesCard.stood.harness false
    decodes_holds (fun _ h => by cases h) (by kernel_rfl) (fun _ h => by cases h) objectDecodes_row_tie rfl ⟨rfl, rfl⟩ (by kernel_rfl) rfl
    (fun f fn hf hfn => by
      obtain rfl : f = 3 := Option.some.inj ((show Tryd.prog.funcNamed "knapsack/knapsacklaw04.ObjectDecodes" = some 3 by kernel_rfl).symm.trans hf) |>.symm
      obtain rfl : fn = Tryd.f3 := (Option.some.inj (Tryd.func3.symm.trans hfn)).symm
      exact ⟨by kernel_rfl, fun j t ht => by
        rw [Tryd.params3] at ht
        have hm : t ∈ [9] := by simpa using Array.mem_of_getElem? ht
        have hall : ([9].all fun u => !Tryd.prog.wantsStandIn u) = true := by kernel_rfl
        exact (show Tryd.prog.wantsStandIn t = false by simpa using List.all_eq_true.1 hall t hm)⟩)
    (by kernel_rfl)

end Go.Proofs.YtcicfjfbnbkkcaaDoor
end
