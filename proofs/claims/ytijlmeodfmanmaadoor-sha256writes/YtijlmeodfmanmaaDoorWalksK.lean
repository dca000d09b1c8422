/-
  WALKS OF LAYER 2: the rows of the document's examples (knapsacklaw02.knows).
-/
import Derived.Test.YtijlmeodfmanmaaDoorWalksH
import Derived.Test.YtijlmeodfmanmaaDoorWalksJ
import Derived.Test.YtijlmeodfmanmaaDoorWalksI
namespace Go.Proofs.YtijlmeodfmanmaaDoor
open Go.RowKit
set_option linter.unusedVariables false
set_option linter.unusedSimpArgs false
open Sh (Wd)

/-- SHA-256 of "abc". -/
def abc : List UInt8 := [186, 120, 22, 191, 143, 1, 207, 234, 65, 65, 64, 222, 93, 174, 34, 35, 176, 3, 97, 163, 150, 23, 122, 156, 180, 16, 255, 97, 242, 0, 21, 173]
set_option maxRecDepth 100000 in
theorem sha_abc : Sh.idOf (Sh.sha [97, 98, 99]) = abc := by decide +kernel
theorem flat_one (x : ByteArray) : flat [x] = x.data.toList := by simp [flat]
theorem sum_abc (w : World) (hk : KIn w) : Calls Tryd.prog 7 #[.slice (some ⟨w.heap.size, 0, none⟩) 1 1] (w.alloc (.cells #[.string ⟨#[97, 98, 99]⟩] 9)) fun r w' => r = .returned (.agg (idA abc)) ∧ Below (w.heap.size + 1) (w.alloc (.cells #[.string ⟨#[97, 98, 99]⟩] 9)) w' := by
  have h := sum_any [⟨#[97, 98, 99]⟩] w.heap.size 0 1 (w.alloc (.cells #[.string ⟨#[97, 98, 99]⟩] 9)) (fun j x hx => by
    match j, hx with
    | 0, hx => simp at hx; subst hx; simp
    | (j + 1), hx => simp at hx) (by simp) (by decide) (by decide) (by rw [flat_one]; decide) (hk.more _)
  rw [flat_one, show (ByteArray.mk #[97, 98, 99]).data.toList = [97, 98, 99] from rfl, sha_abc] at h
  refine h.mono ?_
  rintro r w' ⟨h1, h2⟩
  exact ⟨h1, by simpa using h2⟩

/-- A whole array out of a block that is known, behind a guard that is met. -/
theorem wpList_load_row_g {P : Program} {ops : Array Oper} {rest : List Oper} {o : Oper} {a : Act} {w : World} {Q : Exit → Act → World → Prop} (hw : Region.wanted o (yielded ops a.tmps) = true) (ty : TypeId) (x : Operand) (ho : o.op = .load ty x)
    (g : Nat) (hx : a.eval x = .pointer (some ⟨g, 0, none⟩)) (t : TypeId) (cs : Array Value) (fr : Nat × Nat) (d : TypeDesc) (hg : w.heap[g]? = some (.cells cs t fr))
    (hu : P.underlying ty = some d) (hd : (match d with | .struct _ | .array _ _ => true | _ => false) = true) (hi : (P.info? ty).map (·.size) = some cs.size)
    (h : wpList P ops Q rest (a.put o.dst (.agg cs)) w) : wpList P ops Q (o :: rest) a w :=
  wpList_step fun K hK => by rw [if_pos hw]; exact wp_load_row ty x ho g hx t cs fr d hg hu hd hi (hK _ _ h)

def one : List UInt8 := 1 :: List.replicate 31 0
def two : List UInt8 := 2 :: List.replicate 31 0
theorem less_12 (w : World) : Calls Tryd.prog 13 #[.agg (idA one), .agg (idA two)] w fun r w' => r = .returned (.bool true) ∧ Below w.heap.size w w' := less_any one two w rfl rfl
theorem hex_abc (w : World) : Calls Tryd.prog 11 #[.agg (idA abc)] w fun r w' => r = .returned (.string ⟨(hexL abc).toArray⟩) ∧ Below w.heap.size w w' := hex_any abc w rfl
theorem hex_abc8 : (ByteArray.mk (hexL abc).toArray).extract 0 8 = ⟨#[98, 97, 55, 56, 49, 54, 98, 102]⟩ := by decide
theorem hex_size : (ByteArray.mk (hexL abc).toArray).size = 64 := by decide

set_option maxHeartbeats 1600000 in
set_option maxRecDepth 100000 in
theorem knows_true (w : World) (hk : KIn w) : Calls Tryd.prog 6 #[] w fun r w' => r = .returned (.bool true) ∧ Below w.heap.size w w' := by
  have HK := Lib.hid hk
  clear hk
  have HI := Lib.hid (idsize (l := abc) (by decide))
  have H1 := Lib.hid (idA_one abc)
  have HS := Lib.hid (idA_size abc (by decide))
  have g0 : (idA abc)[0]? = some (.int .u8 186) := rfl
  have g1 : (idA abc)[1]? = some (.int .u8 120) := rfl
  have g2 : (idA abc)[2]? = some (.int .u8 22) := rfl
  have g3 : (idA abc)[3]? = some (.int .u8 191) := rfl
  have HX := Lib.hid (hex_abc)
  have HSum := Lib.hid (sum_abc w HK.out)
  have h8 := hex_abc8
  have hz := hex_size
  generalize hxs : (ByteArray.mk (hexL abc).toArray) = xs at HX h8 hz
  clear hxs
  have hz' : 8 ≤ xs.size := by omega
  have HZ := Lib.hid hz
  clear hz
  generalize hid : idA abc = da at HI H1 HS g0 g1 g2 g3 HX HSum
  clear hid
  have hu := Lib.hid Tryd.underlying24
  go_enter Tryd.func6, Tryd.ntmps6
  go_wp2_with fail
  refine HSum.out.mono ?_
  rintro r w1 ⟨rfl, hb1⟩
  go_upto_region 2 with (refine wpList_store_row rfl 24 _ _ rfl w1.heap.size _ rfl rfl _ _ (heap_alloc_new _ _) HI.out (by rw [HS.out]; rfl) H1.out ?_)
  rw [World.setRow_alloc_new]
  have hs1 : w.heap.size + 1 ≤ w1.heap.size := by have := hb1.size; simpa using this
  have E0 := Lib.hid (heap_alloc_new w1 (.cells da 24))
  have hb2 : Below w.heap.size w (w1.alloc (.cells da 24)) := (((Below.refl _ _).alloc (Nat.le_refl _) _).trans (hb1.mono (by omega))).alloc (by omega) _
  generalize w1.alloc (.cells da 24) = w2 at E0 hb2 ⊢
  generalize w1.heap.size = D at E0 hs1 ⊢
  clear hb1
  have c0 := (cell_of_row w2 D 0 _ _ _ E0.out).trans g0
  have c1 := (cell_of_row w2 D 1 _ _ _ E0.out).trans g1
  have c2 := (cell_of_row w2 D 2 _ _ _ E0.out).trans g2
  have c3 := (cell_of_row w2 D 3 _ _ _ E0.out).trans g3
  clear g0 g1 g2 g3
  go_wp2_with (refine wpList_load_row_g (by rfl) 24 _ (by rfl) D (by rfl) _ _ _ _ E0.out hu.out rfl HI.out ?_)
  refine (HX.out _).mono ?_
  rintro r w3 ⟨rfl, hb3⟩
  go_wp2_with fail
  refine (less_12 w3).mono ?_
  rintro r w4 ⟨rfl, hb4⟩
  go_wp2_with fail
  go_ret
  have h3 := hb2.size
  have h4 := hb3.size
  exact ⟨rfl, (hb2.trans (hb3.mono (by omega))).trans (hb4.mono (by omega))⟩

end Go.Proofs.YtijlmeodfmanmaaDoor
