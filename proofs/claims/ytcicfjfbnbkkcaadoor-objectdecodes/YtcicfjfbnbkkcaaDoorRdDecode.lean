/-
  WALKS OF LAYER 4: Decode, whole.
-/
import Derived.Test.YtcicfjfbnbkkcaaDoorRdCommit
namespace Go.Proofs.YtcicfjfbnbkkcaaDoor
open Go.RowKit
set_option linter.unusedVariables false
set_option linter.unusedSimpArgs false

theorem ended_l (g : Nat) (p : List UInt8 × Bool) (w : World) (h : Rl w g p) :
    Calls Tryd.prog 15 #[.pointer (some ⟨g, 0, none⟩)] w fun r w' => r = .returned (.bool (decide (p = ([], false)))) ∧ w = w' := by
  refine (ended_any g ⟨p.1.toArray⟩ p.2 w h).mono fun e w' ⟨h1, h2⟩ => ⟨?_, h2⟩
  rw [h1]
  have e : (ByteArray.mk p.1.toArray).toList = p.1 := by rw [ByteArray.toList_eq]
  rw [e]
  obtain ⟨l, b⟩ := p
  cases b <;> cases l <;> simp

theorem eq_nilf (w : World) : (Op.equalIn 10000 44 .nilFunc .nilFunc).run Tryd.prog w = .ok true w := by
  rw [show (10000 : Nat) = 9999 + 1 from rfl, Op.equalIn]
  simp [run_underlying Tryd.underlying44]
theorem eq_fn (w : World) (k : Nat) : (Op.equalIn 10000 44 (.func (.func k) #[] #[]) .nilFunc).run Tryd.prog w = .ok false w := by
  rw [show (10000 : Nat) = 9999 + 1 from rfl, Op.equalIn]
  simp [run_underlying Tryd.underlying44]

theorem bin_nilf (w : World) : (binOp .eql 44 .nilFunc .nilFunc).run Tryd.prog w = .ok (.bool true) w := by
  have h : (Op.equal 44 .nilFunc .nilFunc).run Tryd.prog w = .ok true w := eq_nilf w
  simp [binOp, h]
theorem bin_fn (w : World) (k : Nat) : (binOp .eql 44 (.func (.func k) #[] #[]) .nilFunc).run Tryd.prog w = .ok (.bool false) w := by
  have h : (Op.equal 44 (.func (.func k) #[] #[]) .nilFunc).run Tryd.prog w = .ok false w := eq_fn w k
  simp [binOp, h]

/-- Decode found nothing. -/
def NoDec (w : World) (r : Ending) (w' : World) : Prop := r = .returned (.tuple #[.agg (obC noOb nilV nilV).toArray, .int .i64 2]) ∧ Below w.heap.size w w'
/-- Decode found this object. -/
def ADec (o : Ob) (w : World) (r : Ending) (w' : World) : Prop :=
  ∃ (cs : Array Value) (ao bo : Option Addr) (ca cb : Nat), r = .returned (.tuple #[.agg cs, .int .i64 0]) ∧ ObAt w' cs o ao bo ca cb ∧ Below w.heap.size w w'

set_option maxHeartbeats 1000000 in
set_option maxRecDepth 100000 in
theorem decode_long (s : ByteArray) (w : World) (hs : s.size ≤ maxLen) (h : 4096 < s.size) :
    Calls Tryd.prog 5 #[.string s] w (NoDec w) := by
  have HS := Lib.hid noF.size
  have HO := Lib.hid noF.one
  have hz28 := (zero_of_info zero28).1
  have HBN := Lib.hid built_none
  unfold NoDec
  generalize (obC noOb nilV nilV).toArray = z at HS HO hz28 HBN ⊢
  unfold maxLen at hs
  have h' : (4096 : Int) < (s.size : Int) := by omega
  have E2 := Lib.hid (heap_alloc_last w (.cells z 29))
  go_enter Tryd.func5, Tryd.ntmps5
  go_wp2_with (first
    | ((with_reducible refine bd_obz ?_ ?_ HBN.out ?_); rfl; rfl)
    | ((with_reducible refine st_obr (x := .tmp 2) (y := .tmp 13) ?_ ?_ ?_ ?_ E2.out HS.out HS.out HO.out ?_); rfl; rfl; rfl; rfl))
  refine bodyPost_ret (results_cell_tmp (fn := Tryd.f5) (p := 2) (q := 3) (by rfl) _ _ w.heap.size _ _ _ _ (by rfl) (setRow_heap _ _ _ _ _ _ E2.out) Tryd.underlying29 rfl (obsize HS.out)) rfl ⟨rfl, below_setRow ((Below.refl _ _).alloc (Nat.le_refl _) _) (Nat.le_refl _) _⟩

theorem below_own {w w1 w2 : World} {g : Nat} (h : Below w.heap.size w w1) (hg : w1.grownBy w2 (some g)) (hge : w.heap.size ≤ g) : Below w.heap.size w w2 := h.grown hg h.size (fun k hk => by cases hk; exact hge)

set_option maxHeartbeats 1000000 in
set_option maxRecDepth 100000 in
theorem decode_noA (s : ByteArray) (w : World) (hs : s.size ≤ 4096) (h : Rm.okA s.data.toList = false) :
    Calls Tryd.prog 5 #[.string s] w (NoDec w) := by
  have HS := Lib.hid noF.size
  have HO := Lib.hid noF.one
  have hz28 := (zero_of_info zero28).1
  have HBN := Lib.hid built_none
  unfold NoDec
  generalize (obC noOb nilV nilV).toArray = z at HS HO hz28 HBN ⊢
  have h' : ¬ (4096 : Int) < (s.size : Int) := by omega
  have hsl := size_list s
  have hsm : (⟨s.data.toList.toArray⟩ : ByteArray) = s := by simp
  generalize hl : s.data.toList = l at *
  have hll : l.length ≤ 4096 := by omega
  have HSM := Lib.hid hsm
  have HA := Lib.hid h
  clear hl hsl hsm h
  go_enter Tryd.func5, Tryd.ntmps5
  go_wp2_with fail
  have R0 : Rl ((w.alloc (.cells z 29)).alloc (.cells #[.string s, .bool false] 41)) (w.heap.size + 1) (l, false) := by
    unfold Rl; rw [HSM.out]; exact heap_alloc2_new _ _ _
  have E0 := Lib.hid (heap_alloc2_old w (.cells z 29) (.cells #[.string s, .bool false] 41))
  have hB0 := ((Below.refl w.heap.size w).alloc (Nat.le_refl _) (.cells z 29)).alloc (by simp) (.cells #[.string s, .bool false] 41)
  have hk1 := kindR_len false l
  refine (kind_l (w.heap.size + 1) l false _ R0 (by omega)).mono ?_
  rintro r w1 ⟨rfl, R1, g1⟩
  have E1 := Lib.hid (held_grown E0.out g1 (by omega))
  have hB1 := below_own hB0 g1 (by omega)
  clear R0 E0 hB0 g1
  go_wp2_with fail
  refine (text_l (w.heap.size + 1) (Rm.kindR false l).1 (Rm.kindR false l).2 _ R1 (by omega)).mono ?_
  rintro r w2 ⟨rfl, R2, g2⟩
  have E2 := Lib.hid (held_grown E1.out g2 (by omega))
  have hB2 := below_own hB1 g2 (by omega)
  have hkb := kindV_bd l
  clear R1 E1 hB1 g2
  by_cases hend : Rm.bdR l = ([], false)
  · have hno : ¬ (1 ≤ Rm.kindV l ∧ Rm.kindV l ≤ 4) := fun hc => by
      have := HA.out
      unfold Rm.okA at this
      rw [decide_eq_true hend, decide_eq_true hc] at this
      cases this
    have hd : decide (Rm.textR (Rm.kindR false l).2 (Rm.kindR false l).1 = ([], false)) = true := decide_eq_true hend
    have HD := Lib.hid hd
    have hm := fun W => method_any (Rm.kindV l) W
    have HM : Hid (∀ W, Calls Tryd.prog 14 #[.int .i64 (Rm.kindV l)] W fun r w' => r = .returned .nilFunc ∧ W = w') := fun W => by
      have := method_any (Rm.kindV l) W
      rw [if_neg (by omega), if_neg (by omega), if_neg (by omega), if_neg (by omega)] at this
      exact this
    clear hd hend hno hm
    have hqf := bin_nilf
    go_wp2_with fail
    refine (HM.out _).mono ?_
    rintro r w3 ⟨rfl, rfl⟩
    go_wp2_with fail
    refine (ended_l (w.heap.size + 1) _ _ R2).mono ?_
    rintro r w3 ⟨rfl, rfl⟩
    rw [HD.out]
    go_wp2_with (first
      | ((with_reducible refine bd_obz ?_ ?_ HBN.out ?_); rfl; rfl)
      | ((with_reducible refine st_obr (x := .tmp 2) (y := .tmp 26) ?_ ?_ ?_ ?_ E2.out HS.out HS.out HO.out ?_); rfl; rfl; rfl; rfl))
    refine bodyPost_ret (results_cell_tmp (fn := Tryd.f5) (p := 2) (q := 3) (by rfl) _ _ w.heap.size _ _ _ _ (by rfl) (setRow_heap _ _ _ _ _ _ E2.out) Tryd.underlying29 rfl (obsize HS.out)) rfl ⟨rfl, below_setRow hB2 (Nat.le_refl _) _⟩
  · have hd : decide (Rm.textR (Rm.kindR false l).2 (Rm.kindR false l).1 = ([], false)) = false := decide_eq_false hend
    have HD := Lib.hid hd
    clear hd hend
    go_wp2_with fail
    refine (method_any (Rm.kindV l) _).mono ?_
    rintro r w3 ⟨rfl, rfl⟩
    generalize (if Rm.kindV l = 1 then Value.func (.func 28) #[] #[] else if Rm.kindV l = 2 then .func (.func 29) #[] #[] else if Rm.kindV l = 3 then .func (.func 30) #[] #[] else if Rm.kindV l = 4 then .func (.func 31) #[] #[] else .nilFunc) = mv
    go_wp2_with fail
    refine (ended_l (w.heap.size + 1) _ _ R2).mono ?_
    rintro r w3 ⟨rfl, rfl⟩
    rw [HD.out]
    go_wp2_with (first
      | ((with_reducible refine bd_obz ?_ ?_ HBN.out ?_); rfl; rfl)
      | ((with_reducible refine st_obr (x := .tmp 2) (y := .tmp 26) ?_ ?_ ?_ ?_ E2.out HS.out HS.out HO.out ?_); rfl; rfl; rfl; rfl))
    refine bodyPost_ret (results_cell_tmp (fn := Tryd.f5) (p := 2) (q := 3) (by rfl) _ _ w.heap.size _ _ _ _ (by rfl) (setRow_heap _ _ _ _ _ _ E2.out) Tryd.underlying29 rfl (obsize HS.out)) rfl ⟨rfl, below_setRow hB2 (Nat.le_refl _) _⟩

end Go.Proofs.YtcicfjfbnbkkcaaDoor
