/-
  WALKS OF LAYER 2: Sha256Writes, its last region.
-/
import Derived.Test.YtijlmeodfmanmaaDoorWrites
import Derived.Deep.RegionHeld3
import Derived.Deep.MidRow
namespace Go.Proofs.YtijlmeodfmanmaaDoor
open Go.RowKit
set_option linter.unusedVariables false
set_option linter.unusedSimpArgs false

theorem range_of {w : World} {g : Nat} {cs : Array Value} {t : TypeId} (h : w.heap[g]? = some (.cells cs t)) : w.rangeAt g 0 cs.toList := fun j v hv => by
  rw [Nat.zero_add, cell_of_row w g j cs t _ h]
  simpa using hv
theorem range_below {w w' : World} {g : Nat} {cs : List Value} (h : w.rangeAt g 0 cs) (hb : Below w.heap.size w w') (hg : g < w.heap.size) : w'.rangeAt g 0 cs := fun j v hv =>
  (hb.cell (p := ⟨g, 0 + j, none⟩) hg).trans (h j v hv)
structure Five (w : World) (A B X Y Z : Nat) (la lb lx : List Value) : Prop where
  a : w.rangeAt A 0 la
  b : w.rangeAt B 0 lb
  x : w.rangeAt X 0 lx
  y : w.rangeAt Y 0 lx
  z : w.rangeAt Z 0 la
  ltA : A < w.heap.size
  ltB : B < w.heap.size
  ltX : X < w.heap.size
  ltY : Y < w.heap.size
  ltZ : Z < w.heap.size
theorem Five.below {w w' : World} {A B X Y Z : Nat} {la lb lx : List Value} (h : Five w A B X Y Z la lb lx) (hb : Below w.heap.size w w') : Five w' A B X Y Z la lb lx :=
  ⟨range_below h.a hb h.ltA, range_below h.b hb h.ltB, range_below h.x hb h.ltX, range_below h.y hb h.ltY, range_below h.z hb h.ltZ,
   Nat.lt_of_lt_of_le h.ltA hb.size, Nat.lt_of_lt_of_le h.ltB hb.size, Nat.lt_of_lt_of_le h.ltX hb.size, Nat.lt_of_lt_of_le h.ltY hb.size, Nat.lt_of_lt_of_le h.ltZ hb.size⟩
theorem Five.conj {w : World} {A B X Y Z : Nat} {la lb lx : List Value} (h : Five w A B X Y Z la lb lx) : w.rangeAt A 0 la ∧ w.rangeAt B 0 lb ∧ w.rangeAt X 0 lx ∧ w.rangeAt Y 0 lx ∧ w.rangeAt Z 0 la := ⟨h.a, h.b, h.x, h.y, h.z⟩

set_option maxHeartbeats 3200000 in
set_option maxRecDepth 100000 in
theorem writes_short (a b : List UInt8) (s : ByteArray) (w : World) (hs : s.size ≤ 200) (ha : a.length = 32) (hb : b.length = 32) (hk : KIn w) :
    Calls Tryd.prog 5 #[.agg (idA a), .agg (idA b), .string s] w fun r w' => r = .returned (.bool true) ∧ Below w.heap.size w w' := by
  have HK := Lib.hid hk
  clear hk
  have h' : ¬ (200 : Int) < (s.size : Int) := by omega
  obtain ⟨x, ob, hx, hU, hV⟩ := unhex_both s (by omega)
  have HU := Lib.hid hU
  have HV := Lib.hid hV
  clear hU hV
  have HW := Lib.hid (fun wz => unhex_hex a wz ha)
  have HH := Lib.hid (fun wz => hex_any a wz ha)
  have HR := Lib.hid (fun wz => refhex_any a wz ha)
  have HL := Lib.hid (fun wz => less_any a b wz ha hb)
  have HM := Lib.hid (fun wz => refless_any a b wz ha hb)
  have QA := Lib.hid (fun wz => eq_same a ha wz)
  have QX := Lib.hid (fun wz => eq_same x hx wz)
  have IA := Lib.hid (idsize (l := a) (by omega))
  have IB := Lib.hid (idsize (l := b) (by omega))
  have OB := Lib.hid (idA_one b)
  have SB := Lib.hid (idA_size b (by omega))
  have IX := Lib.hid (idsize (l := x) (by omega))
  have OA := Lib.hid (idA_one a)
  have OX := Lib.hid (idA_one x)
  have SA := Lib.hid (idA_size a (by omega))
  have SX := Lib.hid (idA_size x (by omega))
  generalize idA a = ia at HW HH HR HL HM QA IA OA SA ⊢
  generalize idA b = ib at HL HM IB OB SB ⊢
  generalize idA x = ix at HU HV QX IX OX SX
  generalize (⟨(hexL a).toArray⟩ : ByteArray) = hx1 at HW HH HR
  generalize ltB a b = lt at HL HM
  clear ha hb hx
  have hu := Lib.hid Tryd.underlying24
  go_enter Tryd.func5, Tryd.ntmps5
  go_wp2_with fail
  refine (HU.out _).mono ?_
  rintro r w1 ⟨rfl, hb1⟩
  go_upto_region 4 with (refine wpList_store_row rfl 24 _ _ rfl w1.heap.size _ rfl rfl _ _ (heap_alloc_new _ _) IX.out (by rw [SX.out]; rfl) OX.out ?_)
  rw [World.setRow_alloc_new]
  obtain ⟨hs1, A1, B1, X1, hb2⟩ := after_two (X := .cells ix 24) hb1
  generalize w1.alloc (.cells ix 24) = w2 at A1 B1 X1 hb2 ⊢
  generalize hX : w1.heap.size = X at X1 hs1 ⊢
  clear hX hb1
  have hsX : X < w2.heap.size := (Array.getElem?_eq_some_iff.1 X1).1
  have A2 := Lib.hid A1
  have B2 := Lib.hid B1
  have X2 := Lib.hid X1
  clear A1 B1 X1
  go_wp2_with fail
  refine (HV.out _).mono ?_
  rintro r w3 ⟨rfl, hb3⟩
  go_upto_region 5 with (refine wpList_store_row rfl 24 _ _ rfl w3.heap.size _ rfl rfl _ _ (heap_alloc_new _ _) IX.out (by rw [SX.out]; rfl) OX.out ?_)
  rw [World.setRow_alloc_new]
  have hs3 := hb3.size
  have A3 := Lib.hid ((Below.heap_alloc w3 (.cells ix 24) w.heap.size (by omega)).trans ((hb3.block _ (by omega)).trans A2.out))
  have B3 := Lib.hid ((Below.heap_alloc w3 (.cells ix 24) (w.heap.size + 1) (by omega)).trans ((hb3.block _ (by omega)).trans B2.out))
  have X3 := Lib.hid ((Below.heap_alloc w3 (.cells ix 24) X (by omega)).trans ((hb3.block _ (by omega)).trans X2.out))
  have Y3 := Lib.hid (heap_alloc_new w3 (.cells ix 24))
  have hb4 := (hb2.trans (hb3.mono (by omega))).alloc (by omega) (.cells ix 24)
  have hs4 : w3.heap.size < (w3.alloc (.cells ix 24)).heap.size := by simp
  generalize w3.alloc (.cells ix 24) = w4 at A3 B3 X3 Y3 hb4 hs4 ⊢
  have hXY : X < w3.heap.size := by omega
  generalize w3.heap.size = Y at Y3 hs4 hXY ⊢
  clear hb3 hb2 A2 B2 X2 hs3 hsX
  go_wp2_with (refine wpList_load_row rfl 24 _ rfl w.heap.size rfl _ _ _ _ A3.out hu.out rfl IA.out ?_)
  refine (HH.out _).mono ?_
  rintro r w5 ⟨rfl, hb5⟩
  go_wp2_with fail
  refine (HW.out _).mono ?_
  rintro r w6 ⟨rfl, hb6⟩
  go_upto_region 6 with (refine wpList_store_row rfl 24 _ _ rfl w6.heap.size _ rfl rfl _ _ (heap_alloc_new _ _) IA.out (by rw [SA.out]; rfl) OA.out ?_)
  rw [World.setRow_alloc_new]
  have hs5 := hb5.size
  have hs6 := hb6.size
  have A4 := Lib.hid ((Below.heap_alloc w6 (.cells ia 24) w.heap.size (by omega)).trans ((hb6.block _ (by omega)).trans ((hb5.block _ (by omega)).trans A3.out)))
  have B4 := Lib.hid ((Below.heap_alloc w6 (.cells ia 24) (w.heap.size + 1) (by omega)).trans ((hb6.block _ (by omega)).trans ((hb5.block _ (by omega)).trans B3.out)))
  have X4 := Lib.hid ((Below.heap_alloc w6 (.cells ia 24) X (by omega)).trans ((hb6.block _ (by omega)).trans ((hb5.block _ (by omega)).trans X3.out)))
  have Y4 := Lib.hid ((Below.heap_alloc w6 (.cells ia 24) Y (by omega)).trans ((hb6.block _ (by omega)).trans ((hb5.block _ (by omega)).trans Y3.out)))
  have Z4 := Lib.hid (heap_alloc_new w6 (.cells ia 24))
  have hb7 := ((hb4.trans (hb5.mono (by omega))).trans (hb6.mono (by omega))).alloc (by omega) (.cells ia 24)
  have hs7 : w6.heap.size < (w6.alloc (.cells ia 24)).heap.size := by simp
  generalize w6.alloc (.cells ia 24) = w7 at A4 B4 X4 Y4 Z4 hb7 hs7 ⊢
  have hYZ : Y < w6.heap.size := by omega
  generalize w6.heap.size = Z at Z4 hs7 hYZ ⊢
  clear hb4 hb5 hb6 A3 B3 X3 Y3 hs5 hs6 hs4
  have R7 : Five w7.drew w.heap.size (w.heap.size + 1) X Y Z ia.toList ib.toList ix.toList := ⟨range_of A4.out, range_of B4.out, range_of X4.out, range_of Y4.out, range_of Z4.out, (Array.getElem?_eq_some_iff.1 A4.out).1, (Array.getElem?_eq_some_iff.1 B4.out).1, (Array.getElem?_eq_some_iff.1 X4.out).1, (Array.getElem?_eq_some_iff.1 Y4.out).1, (Array.getElem?_eq_some_iff.1 Z4.out).1⟩
  have HK7 := Lib.hid (HK.out.step hb7)
  have u24 := Tryd.underlying24
  have iA : (Tryd.prog.info? 24).map (·.size) = some ia.toList.length := by rw [Array.length_toList]; exact IA.out
  have iB : (Tryd.prog.info? 24).map (·.size) = some ib.toList.length := by rw [Array.length_toList]; exact IB.out
  have iX : (Tryd.prog.info? 24).map (·.size) = some ix.toList.length := by rw [Array.length_toList]; exact IX.out
  have nA : ia.toList.length = 32 := by rw [Array.length_toList]; exact SA.out
  have nB : ib.toList.length = 32 := by rw [Array.length_toList]; exact SB.out
  have nX : ix.toList.length = 32 := by rw [Array.length_toList]; exact SX.out
  have oA : ∀ v ∈ ia.toList, v.oneCell' = true := fun v hv => (Array.all_eq_true_iff_forall_mem.1 OA.out) v (by simpa using hv)
  have oB : ∀ v ∈ ib.toList, v.oneCell' = true := fun v hv => (Array.all_eq_true_iff_forall_mem.1 OB.out) v (by simpa using hv)
  have oX : ∀ v ∈ ix.toList, v.oneCell' = true := fun v hv => (Array.all_eq_true_iff_forall_mem.1 OX.out) v (by simpa using hv)
  refine wp_region_noPanic ?_
  refine wp_region_held_drew (S := (fun w' => Five w' w.heap.size (w.heap.size + 1) X Y Z ia.toList ib.toList ix.toList)) (by kernel_rfl) R7 (fun hHeld7 => ?_)
  have qX := QX.out
  have qA := QA.out
  have hsame : (hx1 == hx1) = true := by show (hx1.data == hx1.data) = true; simp
  refine wpAnyH_ready (rs := [0]) (by kernel_rfl) (by simp) ?_
  refine AllReadyH.cons rfl (fun K hK => ?_) AllReadyH.nil
  go_simp
  refine (knows_true _ HK7.out.drawn).mono ?_
  rintro r w8 ⟨rfl, hb8⟩
  go_wp2_with fail
  refine hK.out _ _ (hHeld7.below hb8) (fun hHeld8 => ?_)
  clear hK K
  try simp only [Act.put, List.getElem_toArray, List.getElem_cons_zero, List.getElem_cons_succ, List.setIfInBounds_toArray, List.set_cons_zero, List.set_cons_succ]
  refine wpAnyH_take (i := 1) (v := ?_) rfl (by kernel_rfl) (by kernel_rfl) (by kernel_rfl) (fun _ _ _ h => h) (Or.inl ⟨by rfl, ?_⟩) (by assumption) ?_
  rotate_left
  · intro w hSw; go_simp; try rfl
  try simp only [Act.put, List.getElem_toArray, List.getElem_cons_zero, List.getElem_cons_succ, List.setIfInBounds_toArray, List.set_cons_zero, List.set_cons_succ]
  refine wpAnyH_take (i := 2) rfl (by kernel_rfl) (by kernel_rfl) (by kernel_rfl) (fun _ _ _ h => h) (yieldsIf_load_mid (by rfl) _ _ rfl _ _ rfl _ _ (fun w h => h.a) u24 rfl iA) (by assumption) ?_
  try simp only [Act.put, List.getElem_toArray, List.getElem_cons_zero, List.getElem_cons_succ, List.setIfInBounds_toArray, List.set_cons_zero, List.set_cons_succ]
  refine wpAnyH_take (i := 4) rfl (by kernel_rfl) (by kernel_rfl) (by kernel_rfl) (fun _ _ _ h => h) (yieldsIf_load_mid (by rfl) _ _ rfl _ _ rfl _ _ (fun w h => h.a) u24 rfl iA) (by assumption) ?_
  try simp only [Act.put, List.getElem_toArray, List.getElem_cons_zero, List.getElem_cons_succ, List.setIfInBounds_toArray, List.set_cons_zero, List.set_cons_succ]
  refine wpAnyH_ready (rs := [3]) (by kernel_rfl) (by simp) ?_
  refine AllReadyH.cons rfl (fun K hK => ?_) AllReadyH.nil
  go_simp
  refine (HH.out _).mono ?_
  rintro r w9 ⟨rfl, hb9⟩
  go_wp2_with fail
  refine hK.out _ _ (hHeld8.below hb9) (fun hHeld9 => ?_)
  clear hK K
  try simp only [Act.put, List.getElem_toArray, List.getElem_cons_zero, List.getElem_cons_succ, List.setIfInBounds_toArray, List.set_cons_zero, List.set_cons_succ]
  refine wpAnyH_ready (rs := [5]) (by kernel_rfl) (by simp) ?_
  refine AllReadyH.cons rfl (fun K hK => ?_) AllReadyH.nil
  go_simp
  refine (HR.out _).mono ?_
  rintro r w10 ⟨rfl, hb10⟩
  go_wp2_with fail
  refine hK.out _ _ (hHeld9.below hb10) (fun hHeld10 => ?_)
  clear hK K
  try simp only [Act.put, List.getElem_toArray, List.getElem_cons_zero, List.getElem_cons_succ, List.setIfInBounds_toArray, List.set_cons_zero, List.set_cons_succ]
  refine wpAnyH_take (i := 6) (v := ?_) rfl (by kernel_rfl) (by kernel_rfl) (by kernel_rfl) (fun _ _ _ h => h) (Or.inl ⟨by rfl, ?_⟩) (by assumption) ?_
  rotate_left
  · intro w hSw; go_simp; try rfl
  try simp only [Act.put, List.getElem_toArray, List.getElem_cons_zero, List.getElem_cons_succ, List.setIfInBounds_toArray, List.set_cons_zero, List.set_cons_succ]
  refine wpAnyH_take (i := 7) (v := ?_) rfl (by kernel_rfl) (by kernel_rfl) (by kernel_rfl) (fun _ _ _ h => h) (Or.inl ⟨by rfl, ?_⟩) (by assumption) ?_
  rotate_left
  · intro w hSw; go_simp; try rfl
  try simp only [Act.put, List.getElem_toArray, List.getElem_cons_zero, List.getElem_cons_succ, List.setIfInBounds_toArray, List.set_cons_zero, List.set_cons_succ]
  refine wpAnyH_take (i := 8) (v := ?_) rfl (by kernel_rfl) (by kernel_rfl) (by kernel_rfl) (fun _ _ _ h => h) (Or.inl ⟨by rfl, ?_⟩) (by assumption) ?_
  rotate_left
  · intro w hSw; go_simp; try rfl
  try simp only [Act.put, List.getElem_toArray, List.getElem_cons_zero, List.getElem_cons_succ, List.setIfInBounds_toArray, List.set_cons_zero, List.set_cons_succ]
  refine wpAnyH_take (i := 9) rfl (by kernel_rfl) (by kernel_rfl) (by kernel_rfl) (fun _ _ _ h => h) (yieldsIf_load_mid (by rfl) _ _ rfl _ _ rfl _ _ (fun w h => h.x) u24 rfl iX) (by assumption) ?_
  try simp only [Act.put, List.getElem_toArray, List.getElem_cons_zero, List.getElem_cons_succ, List.setIfInBounds_toArray, List.set_cons_zero, List.set_cons_succ]
  refine wpAnyH_take (i := 10) rfl (by kernel_rfl) (by kernel_rfl) (by kernel_rfl) (fun _ _ _ h => h) (yieldsIf_load_mid (by rfl) _ _ rfl _ _ rfl _ _ (fun w h => h.y) u24 rfl iX) (by assumption) ?_
  try simp only [Act.put, List.getElem_toArray, List.getElem_cons_zero, List.getElem_cons_succ, List.setIfInBounds_toArray, List.set_cons_zero, List.set_cons_succ]
  refine wpAnyH_take (i := 11) (v := ?_) rfl (by kernel_rfl) (by kernel_rfl) (by kernel_rfl) (fun _ _ _ h => h) (Or.inl ⟨by rfl, ?_⟩) (by assumption) ?_
  rotate_left
  · intro w hSw; go_simp; try rfl
  try simp only [Act.put, List.getElem_toArray, List.getElem_cons_zero, List.getElem_cons_succ, List.setIfInBounds_toArray, List.set_cons_zero, List.set_cons_succ]
  refine wpAnyH_take (i := 12) (v := ?_) rfl (by kernel_rfl) (by kernel_rfl) (by kernel_rfl) (fun _ _ _ h => h) (Or.inl ⟨by rfl, ?_⟩) (by assumption) ?_
  rotate_left
  · intro w hSw; go_simp; try rfl
  try simp only [Act.put, List.getElem_toArray, List.getElem_cons_zero, List.getElem_cons_succ, List.setIfInBounds_toArray, List.set_cons_zero, List.set_cons_succ]
  refine wpAnyH_take (i := 13) (v := ?_) rfl (by kernel_rfl) (by kernel_rfl) (by kernel_rfl) (fun _ _ _ h => h) (Or.inl ⟨by rfl, ?_⟩) (by assumption) ?_
  rotate_left
  · intro w hSw; go_simp; try rfl
  try simp only [Act.put, List.getElem_toArray, List.getElem_cons_zero, List.getElem_cons_succ, List.setIfInBounds_toArray, List.set_cons_zero, List.set_cons_succ]
  refine wpAnyH_take (i := 14) (v := ?_) rfl (by kernel_rfl) (by kernel_rfl) (by kernel_rfl) (fun _ _ _ h => h) (Or.inl ⟨by rfl, ?_⟩) (by assumption) ?_
  rotate_left
  · intro w hSw; go_simp; try rfl
  try simp only [Act.put, List.getElem_toArray, List.getElem_cons_zero, List.getElem_cons_succ, List.setIfInBounds_toArray, List.set_cons_zero, List.set_cons_succ]
  refine wpAnyH_take (i := 15) (v := ?_) rfl (by kernel_rfl) (by kernel_rfl) (by kernel_rfl) (fun _ _ _ h => h) (Or.inl ⟨by rfl, ?_⟩) (by assumption) ?_
  rotate_left
  · intro w hSw; go_simp; try rfl
  try simp only [Act.put, List.getElem_toArray, List.getElem_cons_zero, List.getElem_cons_succ, List.setIfInBounds_toArray, List.set_cons_zero, List.set_cons_succ]
  refine wpAnyH_take (i := 16) (v := ?_) rfl (by kernel_rfl) (by kernel_rfl) (by kernel_rfl) (fun _ _ _ h => h) (Or.inl ⟨by rfl, ?_⟩) (by assumption) ?_
  rotate_left
  · intro w hSw; go_simp; try rfl
  try simp only [Act.put, List.getElem_toArray, List.getElem_cons_zero, List.getElem_cons_succ, List.setIfInBounds_toArray, List.set_cons_zero, List.set_cons_succ]
  refine wpAnyH_take (i := 17) (v := ?_) rfl (by kernel_rfl) (by kernel_rfl) (by kernel_rfl) (fun _ _ _ h => h) (Or.inl ⟨by rfl, ?_⟩) (by assumption) ?_
  rotate_left
  · intro w hSw; go_simp; try rfl
  try simp only [Act.put, List.getElem_toArray, List.getElem_cons_zero, List.getElem_cons_succ, List.setIfInBounds_toArray, List.set_cons_zero, List.set_cons_succ]
  refine wpAnyH_take (i := 18) (v := ?_) rfl (by kernel_rfl) (by kernel_rfl) (by kernel_rfl) (fun _ _ _ h => h) (Or.inl ⟨by rfl, ?_⟩) (by assumption) ?_
  rotate_left
  · intro w hSw; go_simp; try rfl
  try simp only [Act.put, List.getElem_toArray, List.getElem_cons_zero, List.getElem_cons_succ, List.setIfInBounds_toArray, List.set_cons_zero, List.set_cons_succ]
  refine wpAnyH_take (i := 19) rfl (by kernel_rfl) (by kernel_rfl) (by kernel_rfl) (fun _ _ _ h => h) (yieldsIf_load_mid (by rfl) _ _ rfl _ _ rfl _ _ (fun w h => h.z) u24 rfl iA) (by assumption) ?_
  try simp only [Act.put, List.getElem_toArray, List.getElem_cons_zero, List.getElem_cons_succ, List.setIfInBounds_toArray, List.set_cons_zero, List.set_cons_succ]
  refine wpAnyH_take (i := 20) rfl (by kernel_rfl) (by kernel_rfl) (by kernel_rfl) (fun _ _ _ h => h) (yieldsIf_load_mid (by rfl) _ _ rfl _ _ rfl _ _ (fun w h => h.a) u24 rfl iA) (by assumption) ?_
  try simp only [Act.put, List.getElem_toArray, List.getElem_cons_zero, List.getElem_cons_succ, List.setIfInBounds_toArray, List.set_cons_zero, List.set_cons_succ]
  refine wpAnyH_take (i := 21) (v := ?_) rfl (by kernel_rfl) (by kernel_rfl) (by kernel_rfl) (fun _ _ _ h => h) (Or.inl ⟨by rfl, ?_⟩) (by assumption) ?_
  rotate_left
  · intro w hSw; go_simp; try rfl
  try simp only [Act.put, List.getElem_toArray, List.getElem_cons_zero, List.getElem_cons_succ, List.setIfInBounds_toArray, List.set_cons_zero, List.set_cons_succ]
  refine wpAnyH_take (i := 22) (v := ?_) rfl (by kernel_rfl) (by kernel_rfl) (by kernel_rfl) (fun _ _ _ h => h) (Or.inl ⟨by rfl, ?_⟩) (by assumption) ?_
  rotate_left
  · intro w hSw; go_simp; try rfl
  try simp only [Act.put, List.getElem_toArray, List.getElem_cons_zero, List.getElem_cons_succ, List.setIfInBounds_toArray, List.set_cons_zero, List.set_cons_succ]
  refine wpAnyH_take (i := 23) (v := ?_) rfl (by kernel_rfl) (by kernel_rfl) (by kernel_rfl) (fun _ _ _ h => h) (Or.inl ⟨by rfl, ?_⟩) (by assumption) ?_
  rotate_left
  · intro w hSw; go_simp; try rfl
  try simp only [Act.put, List.getElem_toArray, List.getElem_cons_zero, List.getElem_cons_succ, List.setIfInBounds_toArray, List.set_cons_zero, List.set_cons_succ]
  refine wpAnyH_take (i := 24) (v := ?_) rfl (by kernel_rfl) (by kernel_rfl) (by kernel_rfl) (fun _ _ _ h => h) (Or.inl ⟨by rfl, ?_⟩) (by assumption) ?_
  rotate_left
  · intro w hSw; go_simp; try rfl
  try simp only [Act.put, List.getElem_toArray, List.getElem_cons_zero, List.getElem_cons_succ, List.setIfInBounds_toArray, List.set_cons_zero, List.set_cons_succ]
  refine wpAnyH_take (i := 25) (v := ?_) rfl (by kernel_rfl) (by kernel_rfl) (by kernel_rfl) (fun _ _ _ h => h) (Or.inl ⟨by rfl, ?_⟩) (by assumption) ?_
  rotate_left
  · intro w hSw; go_simp; try rfl
  try simp only [Act.put, List.getElem_toArray, List.getElem_cons_zero, List.getElem_cons_succ, List.setIfInBounds_toArray, List.set_cons_zero, List.set_cons_succ]
  refine wpAnyH_take (i := 26) (v := ?_) rfl (by kernel_rfl) (by kernel_rfl) (by kernel_rfl) (fun _ _ _ h => h) (Or.inl ⟨by rfl, ?_⟩) (by assumption) ?_
  rotate_left
  · intro w hSw; go_simp; try rfl
  try simp only [Act.put, List.getElem_toArray, List.getElem_cons_zero, List.getElem_cons_succ, List.setIfInBounds_toArray, List.set_cons_zero, List.set_cons_succ]
  refine wpAnyH_take (i := 27) rfl (by kernel_rfl) (by kernel_rfl) (by kernel_rfl) (fun _ _ _ h => h) (yieldsIf_load_mid (by rfl) _ _ rfl _ _ rfl _ _ (fun w h => h.a) u24 rfl iA) (by assumption) ?_
  try simp only [Act.put, List.getElem_toArray, List.getElem_cons_zero, List.getElem_cons_succ, List.setIfInBounds_toArray, List.set_cons_zero, List.set_cons_succ]
  refine wpAnyH_take (i := 28) rfl (by kernel_rfl) (by kernel_rfl) (by kernel_rfl) (fun _ _ _ h => h) (yieldsIf_load_mid (by rfl) _ _ rfl _ _ rfl _ _ (fun w h => h.b) u24 rfl iB) (by assumption) ?_
  try simp only [Act.put, List.getElem_toArray, List.getElem_cons_zero, List.getElem_cons_succ, List.setIfInBounds_toArray, List.set_cons_zero, List.set_cons_succ]
  refine wpAnyH_take (i := 30) rfl (by kernel_rfl) (by kernel_rfl) (by kernel_rfl) (fun _ _ _ h => h) (yieldsIf_load_mid (by rfl) _ _ rfl _ _ rfl _ _ (fun w h => h.a) u24 rfl iA) (by assumption) ?_
  try simp only [Act.put, List.getElem_toArray, List.getElem_cons_zero, List.getElem_cons_succ, List.setIfInBounds_toArray, List.set_cons_zero, List.set_cons_succ]
  refine wpAnyH_take (i := 31) rfl (by kernel_rfl) (by kernel_rfl) (by kernel_rfl) (fun _ _ _ h => h) (yieldsIf_load_mid (by rfl) _ _ rfl _ _ rfl _ _ (fun w h => h.b) u24 rfl iB) (by assumption) ?_
  try simp only [Act.put, List.getElem_toArray, List.getElem_cons_zero, List.getElem_cons_succ, List.setIfInBounds_toArray, List.set_cons_zero, List.set_cons_succ]
  refine wpAnyH_ready (rs := [29]) (by kernel_rfl) (by simp) ?_
  refine AllReadyH.cons rfl (fun K hK => ?_) AllReadyH.nil
  go_simp
  refine (HL.out _).mono ?_
  rintro r w11 ⟨rfl, hb11⟩
  go_wp2_with fail
  refine hK.out _ _ (hHeld10.below hb11) (fun hHeld11 => ?_)
  clear hK K
  try simp only [Act.put, List.getElem_toArray, List.getElem_cons_zero, List.getElem_cons_succ, List.setIfInBounds_toArray, List.set_cons_zero, List.set_cons_succ]
  refine wpAnyH_ready (rs := [32]) (by kernel_rfl) (by simp) ?_
  refine AllReadyH.cons rfl (fun K hK => ?_) AllReadyH.nil
  go_simp
  refine (HM.out _).mono ?_
  rintro r w12 ⟨rfl, hb12⟩
  go_wp2_with fail
  refine hK.out _ _ (hHeld11.below hb12) (fun hHeld12 => ?_)
  clear hK K
  try simp only [Act.put, List.getElem_toArray, List.getElem_cons_zero, List.getElem_cons_succ, List.setIfInBounds_toArray, List.set_cons_zero, List.set_cons_succ]
  refine wpAnyH_take (i := 33) (v := ?_) rfl (by kernel_rfl) (by kernel_rfl) (by kernel_rfl) (fun _ _ _ h => h) (Or.inl ⟨by rfl, ?_⟩) (by assumption) ?_
  rotate_left
  · intro w hSw; go_simp; try rfl
  try simp only [Act.put, List.getElem_toArray, List.getElem_cons_zero, List.getElem_cons_succ, List.setIfInBounds_toArray, List.set_cons_zero, List.set_cons_succ]
  refine wpAnyH_take (i := 34) (v := ?_) rfl (by kernel_rfl) (by kernel_rfl) (by kernel_rfl) (fun _ _ _ h => h) (Or.inl ⟨by rfl, ?_⟩) (by assumption) ?_
  rotate_left
  · intro w hSw; go_simp; try rfl
  try simp only [Act.put, List.getElem_toArray, List.getElem_cons_zero, List.getElem_cons_succ, List.setIfInBounds_toArray, List.set_cons_zero, List.set_cons_succ]
  refine wpAnyH_take (i := 35) (v := ?_) rfl (by kernel_rfl) (by kernel_rfl) (by kernel_rfl) (fun _ _ _ h => h) (Or.inl ⟨by rfl, ?_⟩) (by assumption) ?_
  rotate_left
  · intro w hSw; go_simp; try rfl
  try simp only [Act.put, List.getElem_toArray, List.getElem_cons_zero, List.getElem_cons_succ, List.setIfInBounds_toArray, List.set_cons_zero, List.set_cons_succ]
  refine wpAnyH_done (by kernel_rfl) ?_ _
  refine NoPanic.normal ?_
  go_wp2_with fail
  go_ret
  have z7 := hb7.size
  have z8 : w7.heap.size ≤ w8.heap.size := hb8.size
  have z9 := hb9.size
  have z10 := hb10.size
  have z11 := hb11.size
  exact ⟨rfl, ((((hb7.drew.trans (hb8.mono (show w.heap.size ≤ w7.heap.size from z7))).trans (hb9.mono (by omega))).trans (hb10.mono (by omega))).trans (hb11.mono (by omega))).trans (hb12.mono (by omega))⟩

theorem writes_any (a b : List UInt8) (s : ByteArray) (w : World) (hs : s.size ≤ 9223372036854775807) (ha : a.length = 32) (hb : b.length = 32) (hk : KIn w) :
    Calls Tryd.prog 5 #[.agg (idA a), .agg (idA b), .string s] w fun r w' => r = .returned (.bool true) ∧ Below w.heap.size w w' := by
  by_cases h : s.size ≤ 200
  · exact writes_short a b s w h ha hb hk
  · exact writes_long a b s w hs ha hb (by omega) hk

end Go.Proofs.YtijlmeodfmanmaaDoor
