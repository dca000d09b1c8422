/-
  WALKS OF LAYER 4: the rows of the document's examples (knapsacklaw04.knows).
-/
import Derived.Test.YtcicfjfbnbkkcaaDoorDecBad
namespace Go.Proofs.YtcicfjfbnbkkcaaDoor
open Go.RowKit
set_option linter.unusedVariables false
set_option linter.unusedSimpArgs false

def hiOb : Ob := { noOb with kind := 1, data := ⟨#[104, 105]⟩ }
theorem hi_at (w : World) : ObAt w (obC hiOb nilV nilV).toArray hiOb none none 0 0 :=
  ⟨obC_F hiOb nilV nilV rfl rfl rfl rfl, RowsAt.nil w 34, RowsAt.nil w 32, (fun _ h => by cases h), (fun _ h => by cases h), (fun _ h => by cases h), (by decide), (by decide), (by decide), (by decide)⟩
theorem hi_text : textOf ⟨#[104, 105]⟩ = ⟨#[2, 104, 105]⟩ := by
  unfold textOf
  rw [show (ByteArray.mk #[104, 105]).size = 2 from rfl, Lib.uvarint_small (by decide)]
  decide
theorem hi_enc : encS hiOb = ⟨#[1, 2, 104, 105]⟩ := by
  unfold encS
  rw [show bodyL hiOb = [104, 105] from rfl, show (ByteArray.mk ([104, 105] : List UInt8).toArray) = ⟨#[104, 105]⟩ from rfl, hi_text]
  decide
theorem hi_ok : encOk hiOb = true := by
  unfold encOk
  rw [hi_enc]
  simp [validB, foreignZ, hiOb, noOb, treeZ, commitZ, tagZ, ByteArray.toList_eq]
  decide
theorem enc_hi (w : World) : Calls Tryd.prog 10 #[.agg (obC hiOb nilV nilV).toArray] w fun r w' => r = .returned (.tuple #[.string ⟨#[1, 2, 104, 105]⟩, .int .i64 0]) ∧ Below w.heap.size w w' := by
  have h := encode_any _ hiOb none none 0 0 w (hi_at w) (by decide) (by decide) (by decide)
  rw [hi_ok, hi_enc] at h
  exact h
theorem name_ab (w : World) : Calls Tryd.prog 11 #[.string ⟨#[97, 47, 98]⟩] w fun r w' => r = .returned (.bool false) ∧ w = w' := name_any ⟨#[97, 47, 98]⟩ w (by decide)
theorem name_no (w : World) : Calls Tryd.prog 11 #[.string ⟨#[]⟩] w fun r w' => r = .returned (.bool false) ∧ w = w' := name_any ⟨#[]⟩ w (by decide)
theorem name_a (w : World) : Calls Tryd.prog 11 #[.string ⟨#[97]⟩] w fun r w' => r = .returned (.bool true) ∧ w = w' := name_any ⟨#[97]⟩ w (by decide)
theorem bd_hi {ops : Array Oper} {rest : List Oper} {op : Oper} {a : Act} {w : World} {Q : Exit → Act → World → Prop} (ho : op.op = .build 29 #[(0, .const (.int .i64 1)), (1, .const (.string ⟨#[104, 105]⟩))]) (hg : op.guard = none) (c : Array Value) (hc : (obC hiOb nilV nilV).toArray = c)
    (h : wpList Tryd.prog ops Q rest (a.put op.dst (.agg c)) w) : wpList Tryd.prog ops Q (op :: rest) a w := by
  subst hc
  exact wpList_build_as hg _ _ ho _ (by simp only [List.map_toArray, List.map_cons, List.map_nil]; exact built_blob ⟨#[104, 105]⟩) h

set_option maxHeartbeats 1000000 in
set_option maxRecDepth 100000 in
theorem knows_true (w : World) : Calls Tryd.prog 4 #[] w fun r w' => r = .returned (.bool true) ∧ Below w.heap.size w w' := by
  have HE := Lib.hid enc_hi
  have HD := Lib.hid decode_bad
  have hz28 := (zero_of_info zero28).1
  have HS := Lib.hid noF.size
  have HO := Lib.hid noF.one
  generalize hcc : (obC hiOb nilV nilV).toArray = c at HE
  have HC := Lib.hid hcc
  clear hcc
  generalize (obC noOb nilV nilV).toArray = z at HD hz28 HS HO
  go_enter Tryd.func4, Tryd.ntmps4
  go_wp2_with (first
    | (go_at_call 10; fail)
    | ((with_reducible refine bd_hi ?_ ?_ c HC.out ?_); rfl; rfl))
  refine (HE.out _).mono ?_
  rintro r w1 ⟨rfl, hb1⟩
  go_wp2_with fail
  refine (HD.out _).mono ?_
  rintro r w2 ⟨rfl, hb2⟩
  have hb3 : Below w.heap.size w (w2.alloc (.cells z 29)) := (hb1.trans (hb2.mono hb1.size)).alloc (Nat.le_trans hb1.size hb2.size) _
  go_wp2_with (first
    | (go_at_call 11; ((with_reducible refine (name_ab _).mono ?_); rintro r wx ⟨rfl, rfl⟩))
    | (go_at_call 11; ((with_reducible refine (name_no _).mono ?_); rintro r wx ⟨rfl, rfl⟩))
    | (go_at_call 11; ((with_reducible refine (name_a _).mono ?_); rintro r wx ⟨rfl, rfl⟩))
    | ((with_reducible refine st_ob (x := .tmp 3) (y := .tmp 12) ?_ ?_ ?_ ?_ HS.out HS.out HO.out ?_); rfl; rfl; rfl; rfl))
  go_ret
  exact ⟨rfl, hb3⟩
end Go.Proofs.YtcicfjfbnbkkcaaDoor
