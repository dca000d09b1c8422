/-
  WALKS OF LAYER 4: Decode of the document's example, the bytes 1, 3, hi.
-/
import Derived.Test.YtcicfjfbnbkkcaaDoorReader
namespace Go.Proofs.YtcicfjfbnbkkcaaDoor
open Go.RowKit
set_option linter.unusedVariables false
set_option linter.unusedSimpArgs false

theorem ok_3hi : Vi.Ok [3, 104, 105] 0 := ⟨by decide, by decide, fun j _ hj => absurd hj (by omega), by decide, fun h => absurd h (by decide), fun h => absurd h (by decide)⟩
theorem take_3hi (w : World) : Calls Tryd.prog 27 #[.string ⟨#[3, 104, 105]⟩] w fun r w' => r = .returned (.tuple #[.string ⟨#[]⟩, .string ⟨#[]⟩, .int .i64 2]) ∧ ∃ n, w' = w.drewN n :=
  take_short ⟨#[3, 104, 105]⟩ w (by decide) 0 ok_3hi (by decide)
theorem bd_obz {ops : Array Oper} {rest : List Oper} {op : Oper} {a : Act} {w : World} {Q : Exit → Act → World → Prop} {z : Array Value} (ho : op.op = .build 29 #[]) (hg : op.guard = none) (hz : Tryd.prog.built 29 [] = some z)
    (h : wpList Tryd.prog ops Q rest (a.put op.dst (.agg z)) w) : wpList Tryd.prog ops Q (op :: rest) a w :=
  wpList_build_as hg _ _ ho _ (by simpa using hz) h
theorem zero28 : (Tryd.prog.info? 29).map (fun i => (i.zero, i.size)) = some (some (.agg (obC noOb nilV nilV).toArray), 72) := by kernel_rfl
theorem results_cell_tmp {P : Program} {fn : Func} {p q : Tmp} {ty : TypeId} (h : fn.results = #[.cell p ty, .tmp q]) (tmps : Array Value) (w : World) (g : Nat) (t : TypeId) (cs : Array Value) (fr : Nat × Nat) (d : TypeDesc)
    (hp : tmps.getD p undef = .pointer (some ⟨g, 0, none⟩)) (hg : w.heap[g]? = some (.cells cs t fr))
    (hu : P.underlying ty = some d) (hd : (match d with | .struct _ | .array _ _ => true | _ => false) = true) (hi : (P.info? ty).map (·.size) = some cs.size) :
    (results fn tmps).run P w = .ok (.tuple #[.agg cs, tmps.getD q undef]) w := by
  have hp' : tmps[p]?.getD undef = .pointer (some ⟨g, 0, none⟩) := by simpa using hp
  simp [results, h, hp', asAddr, run_loadVar_row w g t ty cs fr d hg hu hd hi]
/-- The whole object into a block that is known. -/
theorem st_obr {ops : Array Oper} {rest : List Oper} {op : Oper} {a : Act} {w : World} {Q : Exit → Act → World → Prop} {x y : Operand} {g : Nat} {cs c : Array Value} (ho : op.op = .store 29 x y) (hx : a.eval x = .pointer (some ⟨g, 0, none⟩)) (hy : a.eval y = .agg cs) (hgd : op.guard = none)
    (hg : w.heap[g]? = some (.cells c 29)) (hc : c.size = 72) (hs : cs.size = 72) (h1 : cs.all (·.oneCell') = true)
    (h : wpList Tryd.prog ops Q rest (a.put op.dst undef) (w.setRow g cs)) : wpList Tryd.prog ops Q (op :: rest) a w :=
  wpList_store_row hgd _ x y ho g cs hx hy _ c hg (obsize hs) (by rw [hc, hs]) h1 h
theorem below_setRow {B : Nat} {a w : World} (h : Below B a w) {g : Nat} (hg : B ≤ g) (cs : Array Value) : Below B a (w.setRow g cs) := by
  refine ⟨h.os, h.tape, h.output, Nat.le_trans h.size (by simp [World.setRow]), fun k hk => ?_⟩
  rw [← h.block k hk]
  simp only [World.setRow, Array.getElem?_modify]
  rw [if_neg (by omega)]
theorem noF : ObF (obC noOb nilV nilV).toArray noOb nilV nilV := obC_F noOb nilV nilV rfl rfl rfl rfl

set_option maxHeartbeats 1000000 in
set_option maxRecDepth 100000 in
theorem decode_bad (w : World) :
    Calls Tryd.prog 5 #[.string ⟨#[1, 3, 104, 105]⟩] w fun r w' => r = .returned (.tuple #[.agg (obC noOb nilV nilV).toArray, .int .i64 2]) ∧ Below w.heap.size w w' := by
  have HS := Lib.hid noF.size
  have HO := Lib.hid noF.one
  have hz28 := (zero_of_info zero28).1
  have HBN := Lib.hid built_none
  generalize (obC noOb nilV nilV).toArray = z at HS HO hz28 HBN ⊢
  go_enter Tryd.func5, Tryd.ntmps5
  go_wp2_with fail
  have R0 : Rd ((w.alloc (.cells z 29)).alloc (.cells #[.string ⟨#[1, 3, 104, 105]⟩, .bool false] 41)) (w.heap.size + 1) ⟨#[1, 3, 104, 105]⟩ false := heap_alloc2_new _ _ _
  have E0 := Lib.hid (heap_alloc2_old w (.cells z 29) (.cells #[.string ⟨#[1, 3, 104, 105]⟩, .bool false] 41))
  have hB0 := ((Below.refl w.heap.size w).alloc (Nat.le_refl _) (.cells z 29)).alloc (by simp) (.cells #[.string ⟨#[1, 3, 104, 105]⟩, .bool false] 41)
  refine (kind_some (w.heap.size + 1) _ false _ R0 (by decide) (by decide)).mono ?_
  rintro r w1 ⟨rfl, R1, g1⟩
  have e1 : (((ByteArray.mk #[1, 3, 104, 105])[0]).toNat : Int) = 1 := rfl
  have e2 : (ByteArray.mk #[1, 3, 104, 105]).extract 1 (ByteArray.mk #[1, 3, 104, 105]).size = ⟨#[3, 104, 105]⟩ := by decide
  rw [e1]
  rw [e2] at R1
  clear e1 e2
  have E1 := Lib.hid ((g1.block w.heap.size (Array.getElem?_eq_some_iff.1 E0.out).1 (by simp)).trans E0.out)
  have hB1 := hB0.grown g1 hB0.size (fun q hq => by simp at hq; omega)
  clear R0 E0 hB0 g1
  go_wp2_with fail
  refine (rtext_bad (w.heap.size + 1) _ false _ R1 (take_3hi _)).mono ?_
  rintro r w2 ⟨rfl, R2, g2⟩
  have E2 := Lib.hid ((g2.block w.heap.size (Array.getElem?_eq_some_iff.1 E1.out).1 (by simp)).trans E1.out)
  have hB2 := hB1.grown g2 hB1.size (fun q hq => by simp at hq; omega)
  clear R1 E1 hB1 g2
  go_wp2_with fail
  refine (method_one _).mono ?_
  rintro r w3 ⟨rfl, rfl⟩
  go_wp2_with fail
  refine (ended_any (w.heap.size + 1) _ true _ R2).mono ?_
  rintro r w3 ⟨rfl, rfl⟩
  go_wp2_with (first
    | ((with_reducible refine bd_obz ?_ ?_ HBN.out ?_); rfl; rfl)
    | ((with_reducible refine st_obr (x := .tmp 2) (y := .tmp 26) ?_ ?_ ?_ ?_ E2.out HS.out HS.out HO.out ?_); rfl; rfl; rfl; rfl))
  refine bodyPost_ret (results_cell_tmp (fn := Tryd.f5) (p := 2) (q := 3) (by rfl) _ _ w.heap.size _ _ _ _ (by rfl) (setRow_heap _ _ _ _ _ _ E2.out) Tryd.underlying29 rfl (obsize HS.out)) rfl ⟨rfl, below_setRow hB2 (Nat.le_refl _) _⟩
end Go.Proofs.YtcicfjfbnbkkcaaDoor
