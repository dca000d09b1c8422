/-
  LAYER 11: a struct or a row of one built of parts whose cells are whatever.
-/
import Derived.Test.YtipigedopmgemaaDoorStIds
namespace Go.Proofs.YtipigedopmgemaaDoor
open Go.RowKit
set_option linter.unusedVariables false
set_option linter.unusedSimpArgs false

theorem fold_splice : ∀ (l : List Value) (k off : Nat) (A : Array Value), off + k + l.length ≤ A.size → ((l.zipIdx k).foldl (fun (acc : Array Value) p => acc.setIfInBounds (off + p.2) p.1) A).toList = splice A.toList (off + k) l
  | [], k, off, A, h => by simp [splice]
  | v :: r, k, off, A, h => by
    have h' : off + k + (r.length + 1) ≤ A.size := by simpa using h
    rw [List.zipIdx_cons, List.foldl_cons, fold_splice r (k + 1) off _ (by simp; omega)]
    simp only [Array.toList_setIfInBounds]
    rw [← Nat.add_assoc, splice_cons _ _ _ _ (by simp; omega)]
theorem fill_one (place : Nat → Option (Nat × Nat)) (A : Array Value) (i off n : Nat) (v : Value) (rest : List (Nat × Value)) (hp : place i = some (off, n)) (hv : v.cells.size = n) (hl : off + n ≤ A.size) :
    Instr.fill place A ((i, v) :: rest) = Instr.fill place (splice A.toList off v.cells.toList).toArray rest := by
  have h1 : ¬ (v.cells.size ≠ n ∨ off + v.cells.size > A.size) := by omega
  have e : (v.cells.zipIdx.foldl (fun (acc : Array Value) p => acc.setIfInBounds (off + p.2) p.1) A) = (splice A.toList off v.cells.toList).toArray := by
    apply Array.ext'
    have := fold_splice v.cells.toList 0 off A (by simp; omega)
    rw [Nat.add_zero] at this
    rw [← this, ← Array.foldl_toList, Array.toList_zipIdx]
  simp only [Instr.fill, hp]
  rw [if_neg (by simpa using h1), e]
theorem splice_all (A cs : List Value) (h : A.length = cs.length) : splice A 0 cs = cs := by
  unfold splice
  simp [← h]

def riC (id : List UInt8) (t : ByteArray) (cs : Array Value) : List Value := idC id ++ (.string t :: cs.toList)
theorem riC_length {id : List UInt8} (t : ByteArray) {cs : Array Value} (h : id.length = 32) (hs : cs.size = 72) : (riC id t cs).length = 105 := by simp [riC, idC_length, h, hs]
theorem infoRi : (Tryd.prog.info? 44).map (fun i => (i.zero, i.size, i.bytes)) = some (some (.agg (riC zId ⟨#[]⟩ (obC noOb nilV nilV).toArray).toArray), 105, 232) := by kernel_rfl
theorem infoRz : (Tryd.prog.info? 44).map (·.size) = some 105 := by kernel_rfl
theorem underRi : Tryd.prog.underlying 44 = some (.struct (Tryd.prog.fieldsOf 44)) := by kernel_rfl
theorem placesRi : (Tryd.prog.fieldsOf 44).toList.mapM (fun f => (Tryd.prog.info? f.type).map fun i => (f.offset, i.size)) = some [(0, 32), (32, 1), (33, 72)] := by kernel_rfl
theorem risize {id : List UInt8} (t : ByteArray) {cs : Array Value} (h : id.length = 32) (hs : cs.size = 72) : (Tryd.prog.info? 44).map (·.size) = some (riC id t cs).length := by rw [riC_length t h hs]; exact infoRz
theorem riC_one (id : List UInt8) (t : ByteArray) {cs : Array Value} (h : cs.all (·.oneCell') = true) : ∀ v ∈ riC id t cs, v.oneCell' = true := by
  intro v hv
  simp only [riC, List.mem_append, List.mem_cons] at hv
  rcases hv with h1 | rfl | h1
  · exact idC_one _ _ h1
  · rfl
  · exact (Array.all_eq_true_iff_forall_mem.1 h) v (by simpa using h1)
theorem built_ri (id : List UInt8) (t : ByteArray) (cs : Array Value) (h : id.length = 32) (hs : cs.size = 72) : Tryd.prog.built 44 [(0, .agg (idC id).toArray), (1, .string t), (2, .agg cs)] = some (riC id t cs).toArray := by
  obtain ⟨i0, hi, hz0, hz1, hz2⟩ := info_parts infoRi
  unfold Program.built
  rw [hi, underRi]
  simp only [hz0, placesRi]
  have hzl := riC_length (id := zId) ⟨#[]⟩ (cs := (obC noOb nilV nilV).toArray) rfl rfl
  have hic : (idC id).length = 32 := by rw [idC_length, h]
  show Instr.fill _ (riC zId ⟨#[]⟩ (obC noOb nilV nilV).toArray).toArray _ = _
  generalize riC zId ⟨#[]⟩ (obC noOb nilV nilV).toArray = Z at hzl
  rw [fill_one _ _ 0 0 32 _ _ rfl (by simpa [Value.cells] using hic) (by simp [hzl])]
  have e1 : splice Z 0 (idC id) = idC id ++ Z.drop 32 := by unfold splice; simp [hic]
  rw [show (splice Z.toArray.toList 0 (Value.agg (idC id).toArray).cells.toList) = idC id ++ Z.drop 32 from e1]
  rw [fill_one _ _ 1 32 1 _ _ rfl rfl (by simp [hzl, hic])]
  have e2 : splice (idC id ++ Z.drop 32) 32 [.string t] = idC id ++ (.string t :: Z.drop 33) := by
    unfold splice
    rw [List.take_append_of_le_length (by omega), List.take_of_length_le (by omega), List.drop_append, hic]
    simp [List.drop_eq_nil_of_le, hic]
  rw [show (splice (idC id ++ Z.drop 32).toArray.toList 32 (Value.string t).cells.toList) = idC id ++ (.string t :: Z.drop 33) from e2]
  rw [fill_one _ _ 2 33 72 (.agg cs) _ rfl hs (by simp [hzl, hic])]
  have e3 : splice (idC id ++ (.string t :: Z.drop 33)) 33 cs.toList = riC id t cs := by
    unfold splice riC
    have hl : (idC id ++ ([Value.string t] : List Value)).length = 33 := by simp [hic]
    rw [show idC id ++ (Value.string t :: Z.drop 33) = (idC id ++ [Value.string t]) ++ Z.drop 33 by simp]
    rw [take_app _ _ _ hl, List.drop_eq_nil_of_le (by simp [hzl, hic, hs])]
    simp
  rw [show (splice (idC id ++ (.string t :: Z.drop 33)).toArray.toList 33 (Value.agg cs).cells.toList) = riC id t cs from e3]
  rfl
theorem builtS_ri (c : List Value) (hc : c.length = 105) : Tryd.prog.builtSlice 44 1 [(0, .agg c.toArray)] = some c.toArray := by
  obtain ⟨i0, hi, hz0, hz1, hz2⟩ := info_parts infoRi
  have hcn : ¬ (1 * 105 > 2 ^ 24 ∨ 1 * 105 = 0) := by decide
  have hz : (Array.map (fun (x : Nat) => (Value.agg (riC zId ⟨#[]⟩ (obC noOb nilV nilV).toArray).toArray).cells[x % (Value.agg (riC zId ⟨#[]⟩ (obC noOb nilV nilV).toArray).toArray).cells.size]!) (Array.range (1 * 105))).size = 105 := by simp
  unfold Program.builtSlice
  rw [hi]
  simp only [hz0, hz1]
  rw [if_neg hcn]
  generalize (Array.map (fun (x : Nat) => (Value.agg (riC zId ⟨#[]⟩ (obC noOb nilV nilV).toArray).toArray).cells[x % (Value.agg (riC zId ⟨#[]⟩ (obC noOb nilV nilV).toArray).toArray).cells.size]!) (Array.range (1 * 105))) = Z at hz
  rw [fill_one _ Z 0 0 105 (.agg c.toArray) _ (by simp) (by simpa [Value.cells] using hc) (by omega)]
  have e : splice Z.toList 0 (Value.agg c.toArray).cells.toList = c := splice_all Z.toList c (by simp [hz, hc])
  rw [e]
  rfl

end Go.Proofs.YtipigedopmgemaaDoor
