/-
  WALKS OF LAYER 12, the law's examples: knows.
-/
import Derived.Test.YtfckfjndnhjpoaaGreatDoorRb
import Derived.Test.YtfckfjndnhjpoaaGreatDoorRi
import Derived.Test.YtfckfjndnhjpoaaGreatDoorQa
set_option linter.unusedVariables false
set_option linter.unusedSimpArgs false
set_option maxHeartbeats 8000000
set_option maxRecDepth 100000
namespace Go.Proofs.YtfckfjndnhjpoaaGreatDoor
open Go.RowKit
theorem bd1 {ops : Array Oper} {rest : List Oper} {op : Oper} {a : Act} {w : World} {Q : Exit → Act → World → Prop} {t : TypeId} {i : Nat} {x : Operand} {u : Value} {c : Array Value} (ho : op.op = .build t #[(i, x)]) (hx : a.eval x = u) (hg : op.guard = none)
  (hb : Tryz.prog.built t [(i, u)] = some c) (h : wpList Tryz.prog ops Q rest (a.put op.dst (.agg c)) w) : wpList Tryz.prog ops Q (op :: rest) a w :=
 wpList_build_as hg _ _ ho _ (by simp only [List.map_toArray, List.map_cons, List.map_nil, hx]; exact hb) h
theorem bd3 {ops : Array Oper} {rest : List Oper} {op : Oper} {a : Act} {w : World} {Q : Exit → Act → World → Prop} {t : TypeId} {i j k : Nat} {x y z : Operand} {u v q : Value} {c : Array Value} (ho : op.op = .build t #[(i, x), (j, y), (k, z)]) (hx : a.eval x = u) (hy : a.eval y = v) (hz : a.eval z = q) (hg : op.guard = none)
  (hb : Tryz.prog.built t [(i, u), (j, v), (k, q)] = some c) (h : wpList Tryz.prog ops Q rest (a.put op.dst (.agg c)) w) : wpList Tryz.prog ops Q (op :: rest) a w :=
 wpList_build_as hg _ _ ho _ (by simp only [List.map_toArray, List.map_cons, List.map_nil, hx, hy, hz]; exact hb) h
theorem bd4 {ops : Array Oper} {rest : List Oper} {op : Oper} {a : Act} {w : World} {Q : Exit → Act → World → Prop} {t : TypeId} {i j k m : Nat} {x y z y2 : Operand} {u v q v2 : Value} {c : Array Value} (ho : op.op = .build t #[(i, x), (j, y), (k, z), (m, y2)]) (hx : a.eval x = u) (hy : a.eval y = v) (hz : a.eval z = q) (hw : a.eval y2 = v2) (hg : op.guard = none)
  (hb : Tryz.prog.built t [(i, u), (j, v), (k, q), (m, v2)] = some c) (h : wpList Tryz.prog ops Q rest (a.put op.dst (.agg c)) w) : wpList Tryz.prog ops Q (op :: rest) a w :=
 wpList_build_as hg _ _ ho _ (by simp only [List.map_toArray, List.map_cons, List.map_nil, hx, hy, hz, hw]; exact hb) h
theorem ids_two {w : World} {v : Value} {x y : List UInt8} (h : IdsAt w v [x, y]) : ∃ a cap, v = .slice (some a) 2 cap ∧ (∀ j u, (idC x)[j]? = some u → w.cell? ((a.add 0).add j) = some u) := by
 obtain ⟨ao, cap, rfl⟩ := RowsAt.form h
 obtain ⟨a, rfl, _, hc⟩ := RowsAt.elem h 0 (idC x) rfl
 rw [Nat.zero_mul] at hc
 exact ⟨a, cap, rfl, hc⟩
theorem ids_one {w : World} {v : Value} {x : List UInt8} (h : IdsAt w v [x]) : ∃ a cap, v = .slice (some a) 1 cap ∧ (∀ j u, (idC x)[j]? = some u → w.cell? ((a.add 0).add j) = some u) := by
 obtain ⟨ao, cap, rfl⟩ := RowsAt.form h
 obtain ⟨a, rfl, _, hc⟩ := RowsAt.elem h 0 (idC x) rfl
 rw [Nat.zero_mul] at hc
 exact ⟨a, cap, rfl, hc⟩
theorem knows_gen (et eo ey : ByteArray) (xt xo xy : List UInt8) (ot oo : Array Value) (oy : Nat → Array Value) (D2 D3 : World → Value → Prop) (P2 P3 : World → Nat → Prop) (w : World) (hk : S2.KIn w)
  (hxt : xt.length = 32) (hxo : xo.length = 32) (hxy : xy.length = 32)
  (HBT : Hid (Tryz.prog.built 54 [(0, .int .i64 2)] = some ot))
  (HET : Hid (∀ W, Calls Tryz.prog 35 #[.agg ot] W fun r w' => r = .returned (.tuple #[.string et, .bool true]) ∧ Below W.heap.size W w'))
  (HST : Hid (∀ W, Calls Tryz.prog 36 #[.string et] W fun r w' => r = .returned (.agg (idC xt).toArray) ∧ Below W.heap.size W w'))
  (HBO : Hid (Tryz.prog.built 54 [(0, .int .i64 3), (3, .agg (idC xt).toArray), (5, .int .u32 9)] = some oo))
  (HEO : Hid (∀ W, Calls Tryz.prog 35 #[.agg oo] W fun r w' => r = .returned (.tuple #[.string eo, .bool true]) ∧ Below W.heap.size W w'))
  (HSO : Hid (∀ W, Calls Tryz.prog 36 #[.string eo] W fun r w' => r = .returned (.agg (idC xo).toArray) ∧ Below W.heap.size W w'))
  (HBY : Hid (∀ g : Nat, Tryz.prog.built 54 [(0, .int .i64 3), (3, .agg (idC xt).toArray), (5, .int .u32 5), (4, .slice (some ⟨g, 0, none⟩) 1 1)] = some (oy g)))
  (HEY : Hid (∀ W g, RowsAt W (.slice (some ⟨g, 0, none⟩) 1 1) 32 [idC xo] → Calls Tryz.prog 35 #[.agg (oy g)] W fun r w' => r = .returned (.tuple #[.string ey, .bool true]) ∧ Below W.heap.size W w'))
  (HSY : Hid (∀ W, Calls Tryz.prog 36 #[.string ey] W fun r w' => r = .returned (.agg (idC xy).toArray) ∧ Below W.heap.size W w'))
  (HA2 : Hid (∀ W g, g < W.heap.size → (∀ (i : Nat) (s : ByteArray), [et, ey][i]? = some s → W.cell? ⟨g, i, none⟩ = some (.string s)) → Calls Tryz.prog 37 #[.agg #[.slice none 0 0], .slice (some ⟨g, 0, none⟩) 2 2] W fun r w' => ∃ v', r = .returned (.agg #[v']) ∧ D2 w' v' ∧ Below W.heap.size W w'))
  (HA3 : Hid (∀ W g, g < W.heap.size → (∀ (i : Nat) (s : ByteArray), [et, eo, ey][i]? = some s → W.cell? ⟨g, i, none⟩ = some (.string s)) → Calls Tryz.prog 37 #[.agg #[.slice none 0 0], .slice (some ⟨g, 0, none⟩) 3 3] W fun r w' => ∃ v', r = .returned (.agg #[v']) ∧ D3 w' v' ∧ Below W.heap.size W w'))
  (HO2 : Hid (∀ W v, D2 W v → S2.KIn W → Calls Tryz.prog 10 #[.agg #[v]] W fun r w' => ∃ b, r = .returned (.pointer (some ⟨b, 0, none⟩)) ∧ P2 w' b ∧ Below W.heap.size W w'))
  (HO3 : Hid (∀ W v, D3 W v → S2.KIn W → Calls Tryz.prog 10 #[.agg #[v]] W fun r w' => ∃ b, r = .returned (.pointer (some ⟨b, 0, none⟩)) ∧ P3 w' b ∧ Below W.heap.size W w'))
  (HP2 : Hid (∀ W W' b, P2 W b → Below W.heap.size W W' → P2 W' b)) (HP3 : Hid (∀ W W' b, P3 W b → Below W.heap.size W W' → P3 W' b))
  (HRE : Hid (∀ W b fv, P2 W b → IdsAt W fv [xy] → Calls Tryz.prog 13 #[.pointer (some ⟨b, 0, none⟩), fv, .slice none 0 0] W fun r w' => ∃ tv mv, r = .returned (.tuple #[tv, mv]) ∧ IdsAt w' tv [xy, xt] ∧ IdsAt w' mv [xo] ∧ Below W.heap.size W w'))
  (HWK : Hid (∀ W b fv, P3 W b → IdsAt W fv [xy] → Calls Tryz.prog 18 #[.pointer (some ⟨b, 0, none⟩), fv, .slice none 0 0] W fun r w' => ∃ wv, r = .returned wv ∧ IdsAt w' wv [xy, xo] ∧ Below W.heap.size W w')) :
  Calls Tryz.prog 9 #[] w fun r w' => r = .returned (.bool true) ∧ Below w.heap.size w w' := by
 have HK := Lib.hid hk
 have xtL := Lib.hid hxt
 have xoL := Lib.hid hxo
 have xyL := Lib.hid hxy
 clear hk hxt hxo hxy
 go_enter Tryz.func9, Tryz.ntmps9
 go_wp2_with ((with_reducible refine bd1 (x := .const (.int .i64 2)) ?_ ?_ ?_ HBT.out ?_); rfl; rfl; rfl)
 with_reducible refine (HET.out _).mono ?_
 rintro r w1 ⟨rfl, hb1⟩
 have HB1 := Lib.hid hb1
 clear hb1 HBT HET
 go_wp2_with fail
 with_reducible refine (HST.out _).mono ?_
 rintro r w2 ⟨rfl, hb2⟩
 have HB2 := Lib.hid (HB1.out.trans (hb2.mono HB1.out.size))
 clear hb2 HB1
 go_wp2_with ((with_reducible refine bd3 (x := .const (.int .i64 3)) (y := .tmp 21) (z := .const (.int .u32 9)) ?_ ?_ ?_ ?_ ?_ HBO.out ?_); rfl; rfl; rfl; rfl; rfl)
 with_reducible refine (HEO.out _).mono ?_
 rintro r w3 ⟨rfl, hb3⟩
 have HB3 := Lib.hid (HB2.out.trans (hb3.mono HB2.out.size))
 clear hb3 HB2 HBO HEO
 go_wp2_with fail
 with_reducible refine (HST.out _).mono ?_
 rintro r w4 ⟨rfl, hb4⟩
 have HB4 := Lib.hid (HB3.out.trans (hb4.mono HB3.out.size))
 clear hb4 HB3
 go_wp2_with fail
 with_reducible refine (HSO.out _).mono ?_
 rintro r w5 ⟨rfl, hb5⟩
 have HB5 := Lib.hid (HB4.out.trans (hb5.mono HB4.out.size))
 have HB6 := Lib.hid (HB5.out.alloc HB5.out.size (.cells (idC xo).toArray 42))
 have HR6 := Lib.hid (show RowsAt (w5.alloc (.cells (idC xo).toArray 42)) (.slice (some ⟨w5.heap.size, 0, none⟩) 1 1) 32 [idC xo] from ⟨.inr ⟨⟨w5.heap.size, 0, none⟩, 1, rfl, fun i cs hi => by
  cases i with
  | zero => simp at hi; subst hi; exact ⟨by rw [idC_length]; exact xoL.out, fun j x hx => by have := row_news (heap_alloc_last w5 (.cells (idC xo).toArray 42)) j x hx; simpa [Addr.add_mid] using this⟩
  | succ i => simp at hi⟩⟩)
 clear hb5 HB4 HB5
 go_wp2_with (first
  | ((with_reducible refine bs_id2 (l := xo) (x := .tmp 30) ?_ ?_ ?_ xoL.out ?_); rfl; rfl; rfl)
  | ((with_reducible refine bd4 (x := .const (.int .i64 3)) (y := .tmp 28) (z := .const (.int .u32 5)) (y2 := .tmp 31) ?_ ?_ ?_ ?_ ?_ ?_ (HBY.out w5.heap.size) ?_); rfl; rfl; rfl; rfl; rfl; rfl))
 with_reducible refine (HEY.out _ _ HR6.out).mono ?_
 rintro r w7 ⟨rfl, hb7⟩
 have HB7 := Lib.hid (HB6.out.trans (hb7.mono HB6.out.size))
 clear hb7 HB6 HR6 HBY HEY HST
 go_wp2_with fail
 have HB8 := Lib.hid (HB7.out.alloc HB7.out.size (.cells #[.slice none 0 0] 28) |>.alloc (by have := HB7.out.size; simp; omega) (.cells #[.string et, .string ey] 9))
 have HM8 := Lib.hid (show ((w7.alloc (.cells #[.slice none 0 0] 28)).alloc (.cells #[.string et, .string ey] 9)).heap[w7.heap.size]? = some (.cells #[.slice none 0 0] 28) from (heap_alloc_old _ _ (by simp)).trans (heap_alloc_last _ _))
 have hs8 := heap_alloc_last (w7.alloc (.cells #[.slice none 0 0] 28)) (.cells #[.string et, .string ey] 9)
 rw [show (w7.alloc (.cells #[.slice none 0 0] 28)).heap.size = w7.heap.size + 1 by simp] at hs8
 have HC8 := Lib.hid (HA2.out _ (w7.heap.size + 1) (Array.getElem?_eq_some_iff.1 hs8).1 (fun i s hi => by
  rw [cell_of_row _ _ i _ _ _ hs8]
  match i, hi with
  | 0, hi => simp at hi; subst hi; rfl
  | 1, hi => simp at hi; subst hi; rfl
  | i + 2, hi => simp at hi))
 clear HA2 HB7 hs8
 with_reducible refine HC8.out.mono ?_
 rintro r w9 ⟨v9, rfl, hd9, hb9⟩
 have HD9 := Lib.hid hd9
 have HB9 := Lib.hid (HB8.out.trans (hb9.mono HB8.out.size))
 have HM9 := Lib.hid ((hb9.block w7.heap.size (by simp; omega)).trans HM8.out)
 have HO9 := Lib.hid (HO2.out w9 v9 HD9.out (HK.out.step HB9.out))
 clear hd9 hb9 HC8 HB8 HM8 HO2 HD9
 go_wp2_with fail
 with_reducible refine HO9.out.mono ?_
 rintro r w10 ⟨b2, rfl, hp2, hb10⟩
 have HP10 := Lib.hid hp2
 have HB10 := Lib.hid (HB9.out.trans (hb10.mono HB9.out.size))
 have HM10 := Lib.hid ((hb10.block w7.heap.size (Array.getElem?_eq_some_iff.1 HM9.out).1).trans HM9.out)
 have q10 : w10.cell? ⟨w7.heap.size, 0, none⟩ = some (.slice none 0 0) := by rw [cell_of_row _ _ 0 _ _ _ HM10.out]; rfl
 clear hp2 hb10 HO9 HB9 HM9
 go_wp2_with fail
 have hs11 := heap_alloc_last w10 (.cells #[.string et, .string eo, .string ey] 9)
 have HC11 := Lib.hid (HA3.out _ w10.heap.size (Array.getElem?_eq_some_iff.1 hs11).1 (fun i s hi => by
  rw [cell_of_row _ _ i _ _ _ hs11]
  match i, hi with
  | 0, hi => simp at hi; subst hi; rfl
  | 1, hi => simp at hi; subst hi; rfl
  | 2, hi => simp at hi; subst hi; rfl
  | i + 3, hi => simp at hi))
 have HB11 := Lib.hid (HB10.out.alloc HB10.out.size (.cells #[.string et, .string eo, .string ey] 9))
 have HP11 := Lib.hid (HP2.out _ _ b2 HP10.out (below_new w10 (.cells #[.string et, .string eo, .string ey] 9)))
 clear HA3 hs11 HB10 HP10 HM10 q10
 with_reducible refine HC11.out.mono ?_
 rintro r w12 ⟨v12, rfl, hd12, hb12⟩
 have HB12 := Lib.hid (HB11.out.trans (hb12.mono HB11.out.size))
 have HP12 := Lib.hid (HP2.out _ _ b2 HP11.out hb12)
 have HO12 := Lib.hid (HO3.out w12 v12 hd12 (HK.out.step HB12.out))
 clear hd12 hb12 HC11 HB11 HP11 HO3
 go_wp2_with fail
 with_reducible refine HO12.out.mono ?_
 rintro r w13 ⟨b3, rfl, hp3, hb13⟩
 have HP13 := Lib.hid (HP2.out _ _ b2 HP12.out hb13)
 have HQ13 := Lib.hid hp3
 have HB13 := Lib.hid (HB12.out.trans (hb13.mono HB12.out.size))
 clear hp3 hb13 HO12 HB12 HP12
 go_wp2_with fail
 with_reducible refine (HSY.out _).mono ?_
 rintro r w14 ⟨rfl, hb14⟩
 have hb15 := hb14.trans ((below_new w14 (.cells (idC xy).toArray 42)).mono hb14.size)
 have HP15 := Lib.hid (HP2.out _ _ b2 HP13.out hb15)
 have HQ15 := Lib.hid (HP3.out _ _ b3 HQ13.out hb15)
 have HB15 := Lib.hid (HB13.out.trans (hb15.mono HB13.out.size))
 have HT15 := Lib.hid (heap_alloc_last w14 (.cells (idC xy).toArray 42))
 have HTI := Lib.hid (fun (W : World) (h : W.heap[w14.heap.size]? = some (.cells (idC xy).toArray 42)) => show IdsAt W (.slice (some ⟨w14.heap.size, 0, none⟩) 1 1) [xy] from ⟨.inr ⟨⟨w14.heap.size, 0, none⟩, 1, rfl, fun i cs hi => by
  cases i with
  | zero => simp at hi; subst hi; exact ⟨by rw [idC_length]; exact xyL.out, fun j x hx => by have := row_news h j x hx; simpa [Addr.add_mid] using this⟩
  | succ i => simp at hi⟩⟩)
 clear hb14 hb15 HP13 HQ13 HB13 HSY
 go_wp2_with ((with_reducible refine bs_id2 (l := xy) (x := .tmp 57) ?_ ?_ ?_ xyL.out ?_); rfl; rfl; rfl)
 with_reducible refine (HRE.out _ b2 _ HP15.out (HTI.out _ HT15.out)).mono ?_
 rintro r w16 ⟨tv, mv, rfl, ht, hm, hb16⟩
 obtain ⟨ta, tc, rfl, hta⟩ := ids_two ht
 obtain ⟨ma, mc, rfl, hma⟩ := ids_one hm
 have HQ16 := Lib.hid (HP3.out _ _ b3 HQ15.out hb16)
 have HB16 := Lib.hid (HB15.out.trans (hb16.mono HB15.out.size))
 have HT16 := Lib.hid ((hb16.block w14.heap.size (by simp)).trans HT15.out)
 have HMA := Lib.hid hma
 clear ht hm hta hma hb16 HRE HP15 HQ15 HB15 HT15
 go_wp2_with fail
 with_reducible refine (HWK.out _ b3 _ HQ16.out (HTI.out _ HT16.out)).mono ?_
 rintro r wz ⟨wv, rfl, hwv, hbz⟩
 obtain ⟨wa, wc2, rfl, hwa⟩ := ids_two hwv
 have HBZ := Lib.hid (HB16.out.trans (hbz.mono HB16.out.size))
 have HTZ := Lib.hid ((hbz.block w14.heap.size (Array.getElem?_eq_some_iff.1 HT16.out).1).trans HT16.out)
 have hmz : ∀ j u, (idC xo)[j]? = some u → wz.cell? ((ma.add 0).add j) = some u := fun j u hu => by
  have h1 := HMA.out j u hu
  rw [hbz.cell (World.block_lt_of_cell? _ _ h1)]; exact h1
 have hcl : ∀ {l : List UInt8} {p : Addr}, (∀ j u, (idC l)[j]? = some u → wz.cell? (p.add j) = some u) → ∀ w' : World, (∀ g, g < wz.heap.size → w'.heap[g]? = wz.heap[g]?) → ∀ j u, (idC l)[j]? = some u → w'.cell? (p.add j) = some u := fun h w' hw j u hu => by
  have h1 := h j u hu
  rw [World.cell?_of_block (w := wz) (hw _ (World.block_lt_of_cell? _ _ h1))]; exact h1
 have HLM := Lib.hid (hcl hmz)
 have HLW := Lib.hid (hcl hwa)
 have HLT2 := Lib.hid (hcl (row_news HTZ.out))
 have HEO2 := Lib.hid (fun W => show (Op.equalIn 10000 42 (.agg (idC xo).toArray) (.agg (idC xo).toArray)).run Tryz.prog W = .ok true W from by have := eq_id xo xo xoL.out xoL.out W; simpa using this)
 have HEY2 := Lib.hid (fun W => show (Op.equalIn 10000 42 (.agg (idC xy).toArray) (.agg (idC xy).toArray)).run Tryz.prog W = .ok true W from by have := eq_id xy xy xyL.out xyL.out W; simpa using this)
 have e0m : ma.add 0 = ma := by unfold Addr.add; simp
 have e0w : wa.add 0 = wa := by unfold Addr.add; simp
 clear hwv hwa hbz hmz hcl HWK HQ16 HB16 HT16 HMA HTZ HTI HK HP2 HP3 e0m e0w
 go_wp2_with fail
 refine wp_region_noPanic ?_
 refine wp_region_held_drew (S := (fun w' => ∀ g, g < wz.heap.size → w'.heap[g]? = wz.heap[g]?)) (by kernel_rfl) (fun g _ => rfl) (fun hH => ?_)
 refine tk (i := 0) (v := ?_) ?_ ?_
 rotate_left
 · intro w' hSw; go_simp; try rfl
 try simp only [q0]
 refine tk (i := 1) (v := ?_) ?_ ?_
 rotate_left
 · intro w' hSw; go_simp; try rfl
 try simp only [q0]
 refine tk (i := 2) (v := ?_) ?_ ?_
 rotate_left
 · intro w' hSw; go_simp; try rfl
 try simp only [q0]
 refine tk (i := 3) (v := ?_) ?_ ?_
 rotate_left
 · intro w' hSw; go_simp; try rfl
 try simp only [q0]
 refine tk (i := 4) (v := ?_) ?_ ?_
 rotate_left
 · intro w' hSw; go_simp; try rfl
 try simp only [q0]
 refine tk (i := 5) (v := ?_) ?_ ?_
 rotate_left
 · intro w' hSw; go_simp; try rfl
 try simp only [q0]
 refine tk (i := 6) (v := ?_) ?_ ?_
 rotate_left
 · intro w' hSw; go_simp; try rfl
 try simp only [q0]
 refine tk (i := 7) (v := ?_) ?_ ?_
 rotate_left
 · intro w' hSw; go_simp; try rfl
 try simp only [q0]
 refine tk (i := 8) (v := ?_) ?_ ?_
 rotate_left
 · intro w' hSw; go_simp; try rfl
 try simp only [q0]
 refine tk (i := 9) (v := ?_) ?_ ?_
 rotate_left
 · intro w' hSw; go_simp; try rfl
 try simp only [q0]
 refine tk (i := 10) (v := ?_) ?_ ?_
 rotate_left
 · intro w' hSw; go_simp; try rfl
 try simp only [q0]
 refine wpAnyH_take (i := 11) rfl (by kernel_rfl) (by kernel_rfl) (by kernel_rfl) (fun _ _ _ h => h) (yields_at (p := ma.add 0) (cs := idC xo) (by rfl) rfl rfl (fun w' hw' => HLM.out w' hw') Tryz.underlying42 rfl (idsize xoL.out)) (by assumption) ?_
 try simp only [q0]
 refine tk (i := 12) (v := ?_) ?_ ?_
 rotate_left
 · intro w' hSw; go_simp; try rfl
 try simp only [q0]
 refine wpAnyH_ready (rs := [13]) (by kernel_rfl) (by simp) ?_
 refine AllReadyH.cons rfl (fun K hK => ?_) AllReadyH.nil
 go_simp
 with_reducible refine (HSO.out _).mono ?_
 rintro r w9 ⟨rfl, hb9⟩
 have HB9 := Lib.hid (show Below wz.heap.size wz w9 from (Below.refl wz.heap.size wz).drew.trans hb9)
 clear hb9
 go_wp2_with fail
 refine hK.out _ _ (fun g hg => HB9.out.block g hg) (fun _ => ?_)
 clear hK K
 try simp only [q0]
 refine tk (i := 14) (v := ?_) ?_ ?_
 rotate_left
 · intro w' hSw; have q0 := HEO2.out w'; go_simp; try rfl
 try simp only [q0]
 refine tk (i := 15) (v := ?_) ?_ ?_
 rotate_left
 · intro w' hSw; go_simp; try rfl
 try simp only [q0]
 refine tk (i := 16) (v := ?_) ?_ ?_
 rotate_left
 · intro w' hSw; go_simp; try rfl
 try simp only [q0]
 refine tk (i := 17) (v := ?_) ?_ ?_
 rotate_left
 · intro w' hSw; go_simp; try rfl
 try simp only [q0]
 refine tk (i := 18) (v := ?_) ?_ ?_
 rotate_left
 · intro w' hSw; go_simp; try rfl
 try simp only [q0]
 refine tk (i := 19) (v := ?_) ?_ ?_
 rotate_left
 · intro w' hSw; go_simp; try rfl
 try simp only [q0]
 refine tk (i := 20) (v := ?_) ?_ ?_
 rotate_left
 · intro w' hSw; go_simp; try rfl
 try simp only [q0]
 refine tk (i := 21) (v := ?_) ?_ ?_
 rotate_left
 · intro w' hSw; go_simp; try rfl
 try simp only [q0]
 refine tk (i := 22) (v := ?_) ?_ ?_
 rotate_left
 · intro w' hSw; go_simp; try rfl
 try simp only [q0]
 refine tk (i := 23) (v := ?_) ?_ ?_
 rotate_left
 · intro w' hSw; go_simp; try rfl
 try simp only [q0]
 refine wpAnyH_take (i := 24) rfl (by kernel_rfl) (by kernel_rfl) (by kernel_rfl) (fun _ _ _ h => h) (yields_at (p := wa.add 0) (cs := idC xy) (by rfl) rfl rfl (fun w' hw' => HLW.out w' hw') Tryz.underlying42 rfl (idsize xyL.out)) (by assumption) ?_
 try simp only [q0]
 refine tk (i := 25) (v := ?_) ?_ ?_
 rotate_left
 · intro w' hSw; go_simp; try rfl
 try simp only [q0]
 refine tk (i := 26) (v := ?_) ?_ ?_
 rotate_left
 · intro w' hSw; go_simp; try rfl
 try simp only [q0]
 refine wpAnyH_take (i := 27) rfl (by kernel_rfl) (by kernel_rfl) (by kernel_rfl) (fun _ _ _ h => h) (yields_at (p := ⟨w14.heap.size, 0, none⟩) (cs := idC xy) (by rfl) rfl rfl (fun w' hw' => HLT2.out w' hw') Tryz.underlying42 rfl (idsize xyL.out)) (by assumption) ?_
 try simp only [q0]
 refine tk (i := 28) (v := ?_) ?_ ?_
 rotate_left
 · intro w' hSw; have q0 := HEY2.out w'; go_simp; try rfl
 try simp only [q0]
 refine tk (i := 29) (v := ?_) ?_ ?_
 rotate_left
 · intro w' hSw; go_simp; try rfl
 try simp only [q0]
 refine tk (i := 30) (v := ?_) ?_ ?_
 rotate_left
 · intro w' hSw; go_simp; try rfl
 try simp only [q0]
 refine wpAnyH_done (by kernel_rfl) ?_ _
 refine NoPanic.normal ?_
 go_wp2_with fail
 go_ret
 exact ⟨rfl, HBZ.out.trans (HB9.out.mono HBZ.out.size)⟩
end Go.Proofs.YtfckfjndnhjpoaaGreatDoor
