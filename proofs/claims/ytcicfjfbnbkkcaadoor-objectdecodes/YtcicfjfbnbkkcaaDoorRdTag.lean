/-
  WALKS OF LAYER 4: a tag's body read.
-/
import Derived.Test.YtcicfjfbnbkkcaaDoorRdWalks
namespace Go.Proofs.YtcicfjfbnbkkcaaDoor
open Go.RowKit
set_option linter.unusedVariables false
set_option linter.unusedSimpArgs false

/-- The end of a body's reading: the object in memory, and what is left. -/
def Bdy (g : Nat) (p : Ob × (List UInt8 × Bool)) (w : World) (r : Ending) (w' : World) : Prop :=
  ∃ (cs : Array Value) (ao bo : Option Addr) (ca cb : Nat), r = .returned (.agg cs) ∧ ObAt w' cs p.1 ao bo ca cb ∧ Rl w' g p.2 ∧ w.grownBy w' (some g) ∧ ∀ a, ao = some a ∨ bo = some a → w.heap.size ≤ a.block

theorem Rl.grown {w w' : World} {g k : Nat} {p : List UInt8 × Bool} (h : Rl w g p) (hg : w.grownBy w' (some k)) (hne : g ≠ k) : Rl w' g p :=
  (hg.block g (Array.getElem?_eq_some_iff.1 h).1 (by simpa using hne)).trans h
theorem Rl.alloc {w : World} {g : Nat} {p : List UInt8 × Bool} (h : Rl w g p) (o : Obj) : Rl (w.alloc o) g p := (Lib.alloc_old w o g (Array.getElem?_eq_some_iff.1 h).1).trans h
theorem Rl.setRow {w : World} {g k : Nat} {p : List UInt8 × Bool} (h : Rl w g p) (cs : Array Value) (hne : g ≠ k) : Rl (w.setRow k cs) g p := (setRow_other _ _ _ _ hne).trans h
theorem held_grown {w w' : World} {g k : Nat} {o : Obj} (h : w.heap[g]? = some o) (hg : w.grownBy w' (some k)) (hne : g ≠ k) : w'.heap[g]? = some o :=
  (hg.block g (Array.getElem?_eq_some_iff.1 h).1 (by simpa using hne)).trans h
theorem held_alloc {w : World} {g : Nat} {o o' : Obj} (h : w.heap[g]? = some o') : (w.alloc o).heap[g]? = some o' := (Lib.alloc_old w o g (Array.getElem?_eq_some_iff.1 h).1).trans h
theorem grown_setRow {w w' : World} {g k : Nat} (h : w.grownBy w' (some g)) (cs : Array Value) (hk : w.heap.size ≤ k) : w.grownBy (w'.setRow k cs) (some g) :=
  ⟨h.os, h.tape, h.output, by rw [setRow_size]; exact h.size, fun i hi hne => (setRow_other _ _ _ _ (by omega)).trans (h.block i hi hne)⟩

theorem own_new {w : World} {base e m n c cap : Nat} {pa : Option Addr} {xs : List Value} (h : w.ownsRow base e m (.slice pa n cap) n xs) (hb : c ≤ base) : ∀ a, pa = some a → c ≤ a.block := fun a ha => by
  subst ha
  exact Nat.le_trans hb (h.lt a.block rfl).1
theorem RowsAt.setRow {w : World} {k m : Nat} {cs : Array Value} {ao : Option Addr} {n cap : Nat} {L : List (List Value)} (h : RowsAt w (.slice ao n cap) m L) (hk : ∀ a, ao = some a → a.block ≠ k) : RowsAt (w.setRow k cs) (.slice ao n cap) m L := by
  refine ⟨?_⟩
  rcases h.out with h0 | ⟨a, cap', hv, hc⟩
  · exact .inl h0
  · refine .inr ⟨a, cap', hv, fun i c hi => ⟨(hc i c hi).1, fun j x hx => ?_⟩⟩
    have h1 := (hc i c hi).2 j x hx
    simp only [Value.slice.injEq] at hv
    have hne := hk a hv.1
    have hb : ((a.add (i * m)).add j).block = a.block := by rw [add_block, add_block]
    unfold World.cell? at h1 ⊢
    rw [setRow_other _ _ _ _ (by rw [hb]; exact hne)]
    exact h1
theorem ObAt.setRow {w : World} {k : Nat} {cs c : Array Value} {o : Ob} {ao bo : Option Addr} {ca cb : Nat} (h : ObAt w cs o ao bo ca cb) (hk : ∀ a, ao = some a ∨ bo = some a → a.block ≠ k) : ObAt (w.setRow k c) cs o ao bo ca cb :=
  ⟨h.F, h.E.setRow (fun a ha => hk a (.inl ha)), h.P.setRow (fun a ha => hk a (.inr ha)), h.eid, h.enm, h.pid, h.el, h.pl, h.nm, h.ti⟩
theorem bd_tag {ops : Array Oper} {rest : List Oper} {op : Oper} {a : Act} {w : World} {Q : Exit → Act → World → Prop} {k x y z : Operand} {l : List UInt8} {f : Int} {nm : ByteArray} {c : Array Value} (ho : op.op = .build 29 #[(0, k), (8, x), (7, y), (9, z)]) (hk : a.eval k = .int .i64 4) (hx : a.eval x = .int .i64 f) (hy : a.eval y = .agg (idC l).toArray) (hz : a.eval z = .string nm) (hg : op.guard = none) (hb : Tryd.prog.built 29 [(0, .int .i64 4), (8, .int .i64 f), (7, .agg (idC l).toArray), (9, .string nm)] = some c)
    (h : wpList Tryd.prog ops Q rest (a.put op.dst (.agg c)) w) : wpList Tryd.prog ops Q (op :: rest) a w :=
  wpList_build_as hg _ _ ho _ (by simp only [List.map_toArray, List.map_cons, List.map_nil, hk, hx, hy, hz]; exact hb) h

theorem kindV_bd (l : List UInt8) : 0 ≤ Rm.kindV l ∧ Rm.kindV l < 256 := by
  cases l with
  | nil => simp [Rm.kindV]
  | cons x r => have := x.toNat_lt; simp only [Rm.kindV]; omega
theorem textV_len (l : List UInt8) : (Rm.textV l).length ≤ l.length := by
  unfold Rm.textV; split
  · simp
  · rename_i t r hv
    unfold Rm.vtake at hv
    split at hv
    · cases hv
    · split at hv
      · cases hv
      · simp only [Option.some.injEq, Prod.mk.injEq] at hv
        obtain ⟨rfl, _⟩ := hv
        rw [List.length_take, List.length_drop]; omega
theorem kindR_len (b : Bool) (l : List UInt8) : (Rm.kindR b l).1.length ≤ l.length := by cases l <;> simp [Rm.kindR]
theorem idR_len (b : Bool) (l : List UInt8) : (Rm.idR b l).1.length ≤ l.length := by
  unfold Rm.idR; split
  · simp
  · rw [List.length_drop]; omega
theorem textR_len (b : Bool) (l : List UInt8) : (Rm.textR b l).1.length ≤ l.length := by
  unfold Rm.textR; split
  · simp
  · rename_i t r hv
    unfold Rm.vtake at hv
    split at hv
    · cases hv
    · split at hv
      · cases hv
      · simp only [Option.some.injEq, Prod.mk.injEq] at hv
        obtain ⟨_, rfl⟩ := hv
        rw [List.length_drop]; omega
theorem numR_len (m : Nat) (b : Bool) (l : List UInt8) : (Rm.numR m b l).1.length ≤ l.length := by
  unfold Rm.numR; split
  · simp
  · split
    · simp
    · rw [List.length_drop]; omega

set_option maxHeartbeats 1000000 in
set_option maxRecDepth 100000 in
theorem tag_any (g : Nat) (t : List UInt8) (w : World) (h : Rl w g (t, false)) (hl : t.length ≤ 100000) :
    Calls Tryd.prog 31 #[.pointer (some ⟨g, 0, none⟩)] w (Bdy g (Rm.tagB t) w) := by
  have hz28 := (zero_of_info zero28).1
  have hz24 := (zero_of_info zero24).1
  have HS0 := Lib.hid noF.size
  generalize (obC noOb nilV nilV).toArray = z at hz28 HS0
  have hlt := (Array.getElem?_eq_some_iff.1 h).1
  have R1 := h.alloc (.cells z 29)
  have E1 := Lib.hid (heap_alloc_last w (.cells z 29))
  have G1 := World.grownBy_alloc w (.cells z 29) (some g)
  have HZL := Lib.hid zsize
  have hk1 := kindR_len false t
  have hk2 := idR_len (Rm.kindR false t).2 (Rm.kindR false t).1
  clear h
  go_enter Tryd.func31, Tryd.ntmps31
  go_wp2_with fail
  refine (kind_l g t false _ R1 (by omega)).mono ?_
  rintro r w2 ⟨rfl, R2, G2⟩
  have E2 := Lib.hid (held_grown E1.out G2 (by omega))
  have G12 := grown_trans G1 G2
  clear R1 E1 G1 G2
  go_wp2_with fail
  refine (id_l g (Rm.kindR false t).1 (Rm.kindR false t).2 _ R2 (by omega)).mono ?_
  rintro r w3 ⟨rfl, R3, G3⟩
  have E3 := Lib.hid (held_grown E2.out G3 (by omega))
  have G13 := grown_trans G12 G3
  have hid := Rm.idV_len (Rm.kindR false t).1
  have HID := Lib.hid hid
  clear R2 E2 G12 G3 hid
  generalize hI : Rm.idV (Rm.kindR false t).1 = idl at *
  have HI := Lib.hid hI
  clear hI
  go_wp2_with (first
    | ((with_reducible apply st_id (hl := HID.out)); rfl; rfl; rfl; rfl; rfl))
  have R4 := R3.alloc (.cells (idC idl).toArray 25)
  have E4 := Lib.hid (held_alloc (o := .cells (idC idl).toArray 25) E3.out)
  have I4 := Lib.hid (heap_alloc_last w3 (.cells (idC idl).toArray 25))
  have G14 := grown_trans G13 (World.grownBy_alloc w3 (.cells (idC idl).toArray 25) (some g))
  have hs3 := G13.size
  clear R3 E3 G13
  refine (text_l g (Rm.idR (Rm.kindR false t).2 (Rm.kindR false t).1).1 (Rm.idR (Rm.kindR false t).2 (Rm.kindR false t).1).2 _ R4 (by omega)).mono ?_
  rintro r w5 ⟨rfl, R5, G5⟩
  have E5 := Lib.hid (held_grown E4.out G5 (by omega))
  have I5 := Lib.hid (id_rid (held_grown I4.out G5 (by omega)))
  have G15 := grown_trans G14 G5
  have hnm : (Rm.textV (Rm.tgI t).1).length ≤ 100000 := by
    have := textV_len (Rm.tgI t).1
    have : (Rm.tgI t).1.length ≤ (Rm.kindR false t).1.length := hk2
    omega
  have hF := obC_F { noOb with kind := 4, target := idl, of := Rm.kindV t, name := ⟨(Rm.textV (Rm.tgI t).1).toArray⟩ } nilV nilV rfl HID.out rfl rfl
  have HS := Lib.hid hF.size
  have HO := Lib.hid hF.one
  have HFF := Lib.hid hF
  have HB := Lib.hid (built_tag idl HID.out (Rm.kindV t) ⟨(Rm.textV (Rm.tgI t).1).toArray⟩)
  clear hF R4 E4 I4 G14 G5
  generalize (obC { noOb with kind := 4, target := idl, of := Rm.kindV t, name := ⟨(Rm.textV (Rm.tgI t).1).toArray⟩ } nilV nilV).toArray = c at HS HO HB HFF
  go_wp2_with (first
    | ((with_reducible refine ld_idm (x := .tmp 4) ?_ ?_ ?_ I5.out HID.out ?_); rfl; rfl; rfl)
    | ((with_reducible refine bd_tag (k := .const (.int .i64 4)) (x := .tmp 12) (y := .tmp 13) (z := .tmp 14) ?_ ?_ ?_ ?_ ?_ ?_ HB.out ?_); rfl; rfl; rfl; rfl; rfl; rfl)
    | ((with_reducible refine st_obr (x := .tmp 2) (y := .tmp 15) ?_ ?_ ?_ ?_ E5.out HS0.out HS.out HO.out ?_); rfl; rfl; rfl; rfl))
  refine bodyPost_ret (results_cell_row (fn := Tryd.f31) (p := 2) (by rfl) _ _ w.heap.size _ _ _ _ (by rfl) (setRow_heap _ _ _ _ _ _ E5.out) Tryd.underlying29 rfl (obsize HS.out)) rfl ⟨c, none, none, 0, 0, rfl, ?_, R5.setRow _ (by omega), grown_setRow G15 _ (Nat.le_refl _), fun a ha => by rcases ha with ha | ha <;> cases ha⟩
  unfold Rm.tagB
  rw [HI.out]
  exact ⟨HFF.out, RowsAt.nil _ _, RowsAt.nil _ _, (fun e he => by cases he), (fun e he => by cases he), (fun e he => by cases he), Nat.zero_le _, Nat.zero_le _, by rw [Rm.mk_size]; unfold maxLen; omega, (show (0 : Nat) < 4294967296 by decide)⟩

end Go.Proofs.YtcicfjfbnbkkcaaDoor
