/-
  WALKS OF LAYER 11: the object that a seed makes (make1), where it is a blob; the parts of the other kinds.
-/
import Derived.Test.YtipigedopmgemaaDoorStPick
namespace Go.Proofs.YtipigedopmgemaaDoor
open Go.RowKit
set_option linter.unusedVariables false
set_option linter.unusedSimpArgs false

set_option maxRecDepth 100000 in
theorem nameq_any (k : Nat) (w : World) (hk : k < 20) :
    Calls Tryd.prog 38 #[.int .i64 (k : Int)] w fun r w' => ∃ c : UInt8, r = .returned (.string ⟨#[c]⟩) ∧ Below w.heap.size w w' := by
  have h0 : (0 : Int) ≤ (k : Int) := by omega
  have h1 : (k : Int) % 20 = (k : Int) := by omega
  have hcv := conv_one w (byteK (97 + (k : Int))) (97 + (k : Int)) (byteK_nat (by omega) (by omega))
  have h2 : (97 : Int) + (k : Int) ≤ 116 := by omega
  go_enter Tryd.func38, Tryd.ntmps38
  go_wp2
  go_ret
  exact ⟨_, rfl, (Below.refl _ _).alloc (Nat.le_refl _) _⟩

/-- A row of bytes, as an argument brings it. -/
structure ByAt (w : World) (v : Value) (R : List UInt8) : Prop where
  out : (v = .slice none 0 0 ∧ R = []) ∨ ∃ a cap, v = .slice (some a) R.length cap ∧ ∀ (j : Nat) (x : UInt8), R[j]? = some x → w.cell? (a.add j) = some (.int .u8 (x.toNat : Int))
theorem ByAt.below {w w' : World} {v : Value} {R : List UInt8} (h : ByAt w v R) (hb : Below w.heap.size w w') : ByAt w' v R := by
  refine ⟨?_⟩
  rcases h.out with h0 | ⟨a, cap, hv, hc⟩
  · exact .inl h0
  · exact .inr ⟨a, cap, hv, fun j x hx => by rw [hb.cell (World.block_lt_of_cell? w _ (hc j x hx))]; exact hc j x hx⟩
theorem ByAt.form {w : World} {v : Value} {R : List UInt8} (h : ByAt w v R) : ∃ ao cap, v = .slice ao R.length cap := by
  rcases h.out with ⟨rfl, rfl⟩ | ⟨a, cap, rfl, _⟩
  · exact ⟨none, 0, rfl⟩
  · exact ⟨some a, cap, rfl⟩
theorem ByAt.elem {w : World} {ao : Option Addr} {n cap : Nat} {R : List UInt8} (h : ByAt w (.slice ao n cap) R) (j : Nat) (x : UInt8) (hx : R[j]? = some x) : ∃ a, ao = some a ∧ w.cell? (a.add j) = some (.int .u8 (x.toNat : Int)) := by
  rcases h.out with ⟨_, rfl⟩ | ⟨a, cap', hv, hc⟩
  · simp at hx
  · simp only [Value.slice.injEq] at hv
    exact ⟨a, hv.1, hc j x hx⟩

/-- A seed's four cells. -/
def sdC (K : Nat) (rv : Value) (T : Nat) (X : ByteArray) : Array Value := #[.int .u8 (K : Int), rv, .int .u16 (T : Int), .string X]
/-- The object of a seed. -/
def MkP (w : World) (r : Ending) (w' : World) : Prop :=
  ∃ (cs : Array Value) (o : Ob) (ao bo : Option Addr) (ca cb : Nat), r = .returned (.agg cs) ∧ ObAt w' cs o ao bo ca cb ∧ o.data.size ≤ 5000 ∧ o.text.size ≤ 5000 ∧ Below w.heap.size w w'
/-- The three boxes that make1 makes first. -/
structure S3 (w W : World) (v : Value) (sc : Array Value) (z : Array Value) : Prop where
  b0 : W.heap[w.heap.size]? = some (.cells #[v] 27)
  b1 : W.heap[w.heap.size + 1]? = some (.cells sc 59)
  b2 : W.heap[w.heap.size + 1 + 1]? = some (.cells z 42)
  bel : Below w.heap.size w W
  sz : w.heap.size + 1 + 1 < W.heap.size
theorem S3.below {w W W' : World} {v : Value} {sc z : Array Value} (h : S3 w W v sc z) (hb : Below (w.heap.size + 1 + 1 + 1) W W') : S3 w W' v sc z := by
  have := h.sz
  have := hb.size
  exact ⟨(hb.block _ (by omega)).trans h.b0, (hb.block _ (by omega)).trans h.b1, (hb.block _ (by omega)).trans h.b2, h.bel.trans (hb.mono (by omega)), by omega⟩
theorem S3.made (w : World) (v : Value) (sc z : Array Value) : S3 w (((w.alloc (.cells #[v] 27)).alloc (.cells sc 59)).alloc (.cells z 42)) v sc z := by
  refine ⟨?_, ?_, ?_, ((below_new w _).alloc (by simp) _).alloc (by simp; omega) _, by simp⟩
  · rw [(below_new _ _).block _ (by simp; omega), (below_new _ _).block _ (by simp)]
    exact heap_alloc_new _ _
  · rw [(below_new _ _).block _ (by simp)]
    have := heap_alloc_new (w.alloc (.cells #[v] 27)) (.cells sc 59)
    simpa using this
  · have := heap_alloc_new ((w.alloc (.cells #[v] 27)).alloc (.cells sc 59)) (.cells z 42)
    simpa using this
theorem S3.c0 {w W : World} {v : Value} {sc z : Array Value} (h : S3 w W v sc z) : W.cell? ⟨w.heap.size, 0, none⟩ = some v := by rw [cell_of_row _ _ 0 _ _ _ h.b0]; rfl
theorem S3.c1 {w W : World} {v rv : Value} {K T : Nat} {X : ByteArray} {z : Array Value} (h : S3 w W v (sdC K rv T X) z) : W.cell? ⟨w.heap.size + 1, 0, none⟩ = some (.int .u8 (K : Int)) ∧ W.cell? ⟨w.heap.size + 1, 1, none⟩ = some rv ∧ W.cell? ⟨w.heap.size + 1, 2, none⟩ = some (.int .u16 (T : Int)) ∧ W.cell? ⟨w.heap.size + 1, 3, none⟩ = some (.string X) :=
  ⟨by rw [cell_of_row _ _ 0 _ _ _ h.b1]; rfl, by rw [cell_of_row _ _ 1 _ _ _ h.b1]; rfl, by rw [cell_of_row _ _ 2 _ _ _ h.b1]; rfl, by rw [cell_of_row _ _ 3 _ _ _ h.b1]; rfl⟩
theorem none_at (w : World) {cs : Array Value} {o : Ob} (hF : ObF cs o nilV nilV) (he : o.ents = []) (hp : o.pars = []) (hn : o.name.size ≤ maxLen) (ht : o.time < 4294967296) : ObAt w cs o none none 0 0 :=
  ⟨by rw [he, hp]; exact hF, by rw [he]; exact RowsAt.nil _ _, by rw [hp]; exact RowsAt.nil _ _, (fun e h => by rw [he] at h; cases h), (fun e h => by rw [he] at h; cases h), (fun e h => by rw [hp] at h; cases h), by rw [he]; exact Nat.zero_le _, by rw [hp]; exact Nat.zero_le _, hn, ht⟩

set_option maxHeartbeats 2000000 in
set_option maxRecDepth 100000 in
theorem make_blob (w : World) (vo : Option Addr) (vn vc : Nat) (iv rv : Value) (K T : Nat) (X : ByteArray) (hK : K % 4 = 0) (hKl : K < 256) (hX : X.size ≤ 300) (ro : Option Addr) (rn rc : Nat) (hrv : rv = .slice ro rn rc) :
    Calls Tryd.prog 20 #[.agg #[.slice vo vn vc], iv, .agg (sdC K rv T X)] w (MkP w) := by
  have hz28 := (zero_of_info zero28).1
  have HS0 := Lib.hid noF.size
  have HBN := Lib.hid (built_blob X)
  have HF := Lib.hid (obC_F { noOb with kind := 1, data := X } nilV nilV rfl rfl rfl rfl)
  generalize hcs : (obC { noOb with kind := 1, data := X } nilV nilV).toArray = cs at *
  have HCS := Lib.hid HF.out.size
  have HCO := Lib.hid HF.out.one
  generalize (obC noOb nilV nilV).toArray = z at hz28 HS0
  have hk1 : ((K : Int) % 4 == 1) = false := by simp; omega
  have hk2 : ((K : Int) % 4 == 2) = false := by simp; omega
  have hk3 : ((K : Int) % 4 == 3) = false := by simp; omega
  have hK0 : (0 : Int) ≤ (K : Int) := by omega
  subst hrv
  clear hcs
  go_enter Tryd.func20, Tryd.ntmps20
  go_upto_region 1 with (fail)
  change Code.wp _ _ _ _ (((w.alloc (.cells #[.slice vo vn vc] 27)).alloc (.cells (sdC K (.slice ro rn rc) T X) 59)).alloc (.cells z 42))
  have HS := Lib.hid (S3.made w (.slice vo vn vc) (sdC K (.slice ro rn rc) T X) z)
  generalize ((w.alloc (.cells #[.slice vo vn vc] 27)).alloc (.cells (sdC K (.slice ro rn rc) T X) 59)).alloc (.cells z 42) = W at *
  obtain ⟨c10, c11, c12, c13⟩ := HS.out.c1
  have HE := Lib.hid HS.out.b2
  go_wp2_with (first
    | ((with_reducible refine bd_blob (x := .const (.int .i64 1)) (y := .tmp 164) (d := X) ?_ ?_ ?_ ?_ HBN.out ?_); rfl; rfl; rfl; rfl)
    | ((with_reducible refine st_obr (x := .tmp 6) (y := .tmp 165) ?_ ?_ ?_ ?_ HE.out HS0.out HCS.out HCO.out ?_); rfl; rfl; rfl; rfl))
  refine bodyPost_ret (v := .agg cs) ?_ rfl ⟨cs, _, none, none, 0, 0, rfl, none_at _ HF.out rfl rfl (show (0 : Nat) ≤ maxLen from Nat.zero_le _) (show (0 : Nat) < 4294967296 by decide), by show X.size ≤ 5000; omega, Nat.zero_le _, below_setRow HS.out.bel (by omega) _⟩
  exact results_cell_row (by rfl) _ _ (w.heap.size + 1 + 1) _ _ _ _ (by rfl) (setRow_heap _ _ _ _ _ _ HE.out) Tryd.underlying42 rfl (obsize HCS.out)

end Go.Proofs.YtipigedopmgemaaDoor
