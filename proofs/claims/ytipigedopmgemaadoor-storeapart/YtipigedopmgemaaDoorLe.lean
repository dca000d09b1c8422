/-
  WALKS OF LAYER 4: a tag's body read.
  WALKS OF LAYER 4: a tree's body read.
  WALKS OF LAYER 4: a commit's body read.
  WALKS OF LAYER 4: Decode, whole.
  WALKS OF LAYER 4: Decode, its second half.
  WALKS OF LAYER 4: Same (knapsackref04), of two objects that hold the same.
-/
import Derived.Test.YtipigedopmgemaaDoorLd
import Derived.StillTailTactics
section
namespace Go.Proofs.YtipigedopmgemaaDoor
open Go.RowKit
set_option linter.unusedVariables false
set_option linter.unusedSimpArgs false

/-- The end of a body's reading: the object in memory, and what is left. -/
def Bdy (g : Nat) (p : Ob × (List UInt8 × Bool)) (w : World) (r : Ending) (w' : World) : Prop :=
  ∃ (cs : Array Value) (ao bo : Option Addr) (ca cb : Nat), r = .returned (.agg cs) ∧ ObAt w' cs p.1 ao bo ca cb ∧ Rl w' g p.2 ∧ w.grownBy w' (some g) ∧ ∀ a, ao = some a ∨ bo = some a → w.heap.size ≤ a.block

theorem Rl.grown {w w' : World} {g k : Nat} {p : List UInt8 × Bool} (h : Rl w g p) (hg : w.grownBy w' (some k)) (hne : g ≠ k) : Rl w' g p :=
  (hg.block g (Array.getElem?_eq_some_iff.1 h).1 (by simpa using hne)).trans h
theorem Rl.alloc {w : World} {g : Nat} {p : List UInt8 × Bool} (h : Rl w g p) (o : Obj) : Rl (w.alloc o) g p := (Lib.alloc_old w o g (Array.getElem?_eq_some_iff.1 h).1).trans h
theorem Rl.setRow {w : World} {g k : Nat} {p : List UInt8 × Bool} (h : Rl w g p) (cs : Array Value) (hne : g ≠ k) : Rl (w.setRow k cs) g p := (setRow_other _ _ _ _ hne).trans h
theorem held_grown {w w' : World} {g k : Nat} {o : Obj} (h : w.heap[g]? = some o) (hg : w.grownBy w' (some k)) (hne : g ≠ k) : w'.heap[g]? = some o :=
  (hg.block g (Array.getElem?_eq_some_iff.1 h).1 (by simpa using hne)).trans h
theorem held_alloc {w : World} {g : Nat} {o o' : Obj} (h : w.heap[g]? = some o') : (w.alloc o).heap[g]? = some o' := (Lib.alloc_old w o g (Array.getElem?_eq_some_iff.1 h).1).trans h
theorem grown_setRow {w w' : World} {g k : Nat} (h : w.grownBy w' (some g)) (cs : Array Value) (hk : w.heap.size ≤ k) : w.grownBy (w'.setRow k cs) (some g) :=
  ⟨h.os, h.tape, h.output, by rw [setRow_size]; exact h.size, fun i hi hne => (setRow_other _ _ _ _ (by omega)).trans (h.block i hi hne)⟩

theorem own_new {w : World} {base e m n c cap : Nat} {pa : Option Addr} {xs : List Value} (h : w.ownsRow base e m (.slice pa n cap) n xs) (hb : c ≤ base) : ∀ a, pa = some a → c ≤ a.block := fun a ha => by
  subst ha
  exact Nat.le_trans hb (h.lt a.block rfl).1
theorem RowsAt.setRow {w : World} {k m : Nat} {cs : Array Value} {ao : Option Addr} {n cap : Nat} {L : List (List Value)} (h : RowsAt w (.slice ao n cap) m L) (hk : ∀ a, ao = some a → a.block ≠ k) : RowsAt (w.setRow k cs) (.slice ao n cap) m L := by
  refine ⟨?_⟩
  rcases h.out with h0 | ⟨a, cap', hv, hc⟩
  · exact .inl h0
  · refine .inr ⟨a, cap', hv, fun i c hi => ⟨(hc i c hi).1, fun j x hx => ?_⟩⟩
    have h1 := (hc i c hi).2 j x hx
    simp only [Value.slice.injEq] at hv
    have hne := hk a hv.1
    have hb : ((a.add (i * m)).add j).block = a.block := by rw [add_block, add_block]
    unfold World.cell? at h1 ⊢
    rw [setRow_other _ _ _ _ (by rw [hb]; exact hne)]
    exact h1
theorem ObAt.setRow {w : World} {k : Nat} {cs c : Array Value} {o : Ob} {ao bo : Option Addr} {ca cb : Nat} (h : ObAt w cs o ao bo ca cb) (hk : ∀ a, ao = some a ∨ bo = some a → a.block ≠ k) : ObAt (w.setRow k c) cs o ao bo ca cb :=
  ⟨h.F, h.E.setRow (fun a ha => hk a (.inl ha)), h.P.setRow (fun a ha => hk a (.inr ha)), h.eid, h.enm, h.pid, h.el, h.pl, h.nm, h.ti⟩
theorem bd_tag {ops : Array Oper} {rest : List Oper} {op : Oper} {a : Act} {w : World} {Q : Exit → Act → World → Prop} {k x y z : Operand} {l : List UInt8} {f : Int} {nm : ByteArray} {c : Array Value} (ho : op.op = .build 42 #[(0, k), (8, x), (7, y), (9, z)]) (hk : a.eval k = .int .i64 4) (hx : a.eval x = .int .i64 f) (hy : a.eval y = .agg (idC l).toArray) (hz : a.eval z = .string nm) (hg : op.guard = none) (hb : Tryd.prog.built 42 [(0, .int .i64 4), (8, .int .i64 f), (7, .agg (idC l).toArray), (9, .string nm)] = some c)
    (h : wpList Tryd.prog ops Q rest (a.put op.dst (.agg c)) w) : wpList Tryd.prog ops Q (op :: rest) a w :=
  wpList_build_as hg _ _ ho _ (by simp only [List.map_toArray, List.map_cons, List.map_nil, hk, hx, hy, hz]; exact hb) h

theorem kindV_bd (l : List UInt8) : 0 ≤ Rm.kindV l ∧ Rm.kindV l < 256 := by
  cases l with
  | nil => simp [Rm.kindV]
  | cons x r => have := x.toNat_lt; simp only [Rm.kindV]; omega
theorem textV_len (l : List UInt8) : (Rm.textV l).length ≤ l.length := by
  unfold Rm.textV; split
  · simp
  · rename_i t r hv
    unfold Rm.vtake at hv
    split at hv
    · cases hv
    · split at hv
      · cases hv
      · simp only [Option.some.injEq, Prod.mk.injEq] at hv
        obtain ⟨rfl, _⟩ := hv
        rw [List.length_take, List.length_drop]; omega
theorem kindR_len (b : Bool) (l : List UInt8) : (Rm.kindR b l).1.length ≤ l.length := by cases l <;> simp [Rm.kindR]
theorem idR_len (b : Bool) (l : List UInt8) : (Rm.idR b l).1.length ≤ l.length := by
  unfold Rm.idR; split
  · simp
  · rw [List.length_drop]; omega
theorem textR_len (b : Bool) (l : List UInt8) : (Rm.textR b l).1.length ≤ l.length := by
  unfold Rm.textR; split
  · simp
  · rename_i t r hv
    unfold Rm.vtake at hv
    split at hv
    · cases hv
    · split at hv
      · cases hv
      · simp only [Option.some.injEq, Prod.mk.injEq] at hv
        obtain ⟨_, rfl⟩ := hv
        rw [List.length_drop]; omega
theorem numR_len (m : Nat) (b : Bool) (l : List UInt8) : (Rm.numR m b l).1.length ≤ l.length := by
  unfold Rm.numR; split
  · simp
  · split
    · simp
    · rw [List.length_drop]; omega

set_option maxHeartbeats 1000000 in
set_option maxRecDepth 100000 in
theorem tag_any (g : Nat) (t : List UInt8) (w : World) (h : Rl w g (t, false)) (hl : t.length ≤ 100000) :
    Calls Tryd.prog 60 #[.pointer (some ⟨g, 0, none⟩)] w (Bdy g (Rm.tagB t) w) := by
  have hz28 := (zero_of_info zero28).1
  have hz24 := (zero_of_info zero24).1
  have HS0 := Lib.hid noF.size
  generalize (obC noOb nilV nilV).toArray = z at hz28 HS0
  have hlt := (Array.getElem?_eq_some_iff.1 h).1
  have R1 := h.alloc (.cells z 42)
  have E1 := Lib.hid (heap_alloc_last w (.cells z 42))
  have G1 := World.grownBy_alloc w (.cells z 42) (some g)
  have HZL := Lib.hid zsize
  have hk1 := kindR_len false t
  have hk2 := idR_len (Rm.kindR false t).2 (Rm.kindR false t).1
  clear h
  go_enter Tryd.func60, Tryd.ntmps60
  go_wp2_with fail
  refine (kind_l g t false _ R1 (by omega)).mono ?_
  rintro r w2 ⟨rfl, R2, G2⟩
  have E2 := Lib.hid (held_grown E1.out G2 (by omega))
  have G12 := grown_trans G1 G2
  clear R1 E1 G1 G2
  go_wp2_with fail
  refine (id_l g (Rm.kindR false t).1 (Rm.kindR false t).2 _ R2 (by omega)).mono ?_
  rintro r w3 ⟨rfl, R3, G3⟩
  have E3 := Lib.hid (held_grown E2.out G3 (by omega))
  have G13 := grown_trans G12 G3
  have hid := Rm.idV_len (Rm.kindR false t).1
  have HID := Lib.hid hid
  clear R2 E2 G12 G3 hid
  generalize hI : Rm.idV (Rm.kindR false t).1 = idl at *
  have HI := Lib.hid hI
  clear hI
  go_wp2_with (first
    | ((with_reducible apply st_id (hl := HID.out)); rfl; rfl; rfl; rfl; rfl))
  have R4 := R3.alloc (.cells (idC idl).toArray 35)
  have E4 := Lib.hid (held_alloc (o := .cells (idC idl).toArray 35) E3.out)
  have I4 := Lib.hid (heap_alloc_last w3 (.cells (idC idl).toArray 35))
  have G14 := grown_trans G13 (World.grownBy_alloc w3 (.cells (idC idl).toArray 35) (some g))
  have hs3 := G13.size
  clear R3 E3 G13
  refine (text_l g (Rm.idR (Rm.kindR false t).2 (Rm.kindR false t).1).1 (Rm.idR (Rm.kindR false t).2 (Rm.kindR false t).1).2 _ R4 (by omega)).mono ?_
  rintro r w5 ⟨rfl, R5, G5⟩
  have E5 := Lib.hid (held_grown E4.out G5 (by omega))
  have I5 := Lib.hid (id_rid (held_grown I4.out G5 (by omega)))
  have G15 := grown_trans G14 G5
  have hnm : (Rm.textV (Rm.tgI t).1).length ≤ 100000 := by
    have := textV_len (Rm.tgI t).1
    have : (Rm.tgI t).1.length ≤ (Rm.kindR false t).1.length := hk2
    omega
  have hF := obC_F { noOb with kind := 4, target := idl, of := Rm.kindV t, name := ⟨(Rm.textV (Rm.tgI t).1).toArray⟩ } nilV nilV rfl HID.out rfl rfl
  have HS := Lib.hid hF.size
  have HO := Lib.hid hF.one
  have HFF := Lib.hid hF
  have HB := Lib.hid (built_tag idl HID.out (Rm.kindV t) ⟨(Rm.textV (Rm.tgI t).1).toArray⟩)
  clear hF R4 E4 I4 G14 G5
  generalize (obC { noOb with kind := 4, target := idl, of := Rm.kindV t, name := ⟨(Rm.textV (Rm.tgI t).1).toArray⟩ } nilV nilV).toArray = c at HS HO HB HFF
  go_wp2_with (first
    | ((with_reducible refine ld_idm (x := .tmp 4) ?_ ?_ ?_ I5.out HID.out ?_); rfl; rfl; rfl)
    | ((with_reducible refine bd_tag (k := .const (.int .i64 4)) (x := .tmp 12) (y := .tmp 13) (z := .tmp 14) ?_ ?_ ?_ ?_ ?_ ?_ HB.out ?_); rfl; rfl; rfl; rfl; rfl; rfl)
    | ((with_reducible refine st_obr (x := .tmp 2) (y := .tmp 15) ?_ ?_ ?_ ?_ E5.out HS0.out HS.out HO.out ?_); rfl; rfl; rfl; rfl))
  refine bodyPost_ret (results_cell_row (fn := Tryd.f60) (p := 2) (by rfl) _ _ w.heap.size _ _ _ _ (by rfl) (setRow_heap _ _ _ _ _ _ E5.out) Tryd.underlying42 rfl (obsize HS.out)) rfl ⟨c, none, none, 0, 0, rfl, ?_, R5.setRow _ (by omega), grown_setRow G15 _ (Nat.le_refl _), fun a ha => by rcases ha with ha | ha <;> cases ha⟩
  unfold Rm.tagB
  rw [HI.out]
  exact ⟨HFF.out, RowsAt.nil _ _, RowsAt.nil _ _, (fun e he => by cases he), (fun e he => by cases he), (fun e he => by cases he), Nat.zero_le _, Nat.zero_le _, by rw [Rm.mk_size]; unfold maxLen; omega, (show (0 : Nat) < 4294967296 by decide)⟩

end Go.Proofs.YtipigedopmgemaaDoor
end

section
namespace Go.Proofs.YtipigedopmgemaaDoor
open Go.RowKit
set_option linter.unusedVariables false
set_option linter.unusedSimpArgs false

theorem flat_at {α : Type} (f : α → List Value) (n : Nat) (ls : List α) (h : ∀ l ∈ ls, (f l).length = n) : ∀ (i : Nat) (l : α), ls[i]? = some l → ∀ (j : Nat) (x : Value), (f l)[j]? = some x → (ls.flatMap f)[i * n + j]? = some x := by
  induction ls with
  | nil => intro i l hi; simp at hi
  | cons a r ih =>
    intro i l hi j x hx
    have ha := h a (by simp)
    rw [List.flatMap_cons]
    cases i with
    | zero =>
      simp at hi; subst hi
      have hj : j < n := by
        have := (List.getElem?_eq_some_iff.1 hx).1; omega
      rw [Nat.zero_mul, Nat.zero_add, List.getElem?_append_left (by omega)]
      exact hx
    | succ i =>
      simp at hi
      have e : (i + 1) * n + j - (f a).length = i * n + j := by rw [ha, Nat.add_mul]; omega
      rw [List.getElem?_append_right (by rw [Nat.add_mul]; omega), e]
      exact ih (fun l hl => h l (by simp [hl])) i l hi j x hx
theorem own_rows {α : Type} (f : α → List Value) (n : Nat) {w : World} {base e : Nat} {v : Value} {ls : List α} (h : w.ownsRow base e n v ls.length (ls.flatMap f)) (hl : ∀ l ∈ ls, (f l).length = n) : RowsAt w v n (ls.map f) := by
  refine ⟨?_⟩
  rcases h.2 with ⟨rfl, h0⟩ | ⟨g, cap, cur, rfl, hg, hb⟩
  · exact .inl ⟨rfl, by simpa using h0⟩
  · refine .inr ⟨⟨g, 0, none⟩, cap, by simp, fun i cs hi => ?_⟩
    obtain ⟨l, hl1, rfl⟩ : ∃ l, ls[i]? = some l ∧ cs = f l := by
      rw [List.getElem?_map] at hi
      cases hq : ls[i]? with
      | none => rw [hq] at hi; simp at hi
      | some l => rw [hq] at hi; simp at hi; exact ⟨l, rfl, hi.symm⟩
    refine ⟨hl l (List.mem_of_getElem? hl1), fun j x hx => ?_⟩
    have := World.ownsRow.cells h (g := g) rfl (i * n + j) x (flat_at f n ls hl i l hl1 j x hx)
    rw [Addr.add_mid] at this
    rw [Addr.add_mid, Addr.add_mid]
    simpa [Nat.add_assoc] using this
theorem own_form {w : World} {base e m n : Nat} {v : Value} {xs : List Value} (h : w.ownsRow base e m v n xs) : ∃ p cap, v = .slice p n cap := by
  rcases h.2 with ⟨rfl, rfl⟩ | ⟨g, cap, cur, rfl, _⟩
  · exact ⟨_, _, rfl⟩
  · exact ⟨_, _, rfl⟩
theorem own_keep {w w' : World} {base e m n b : Nat} {v : Value} {xs : List Value} (h : w.ownsRow base e m v n xs) (hg : w.grownBy w' (some b)) (hb : b < base) : w'.ownsRow base e m v n xs := by
  refine h.kept hg ?_
  cases hv : v.ownBlock with
  | none => exact .inl rfl
  | some k => exact .inr (fun e => by have := (h.lt k hv).1; cases e; omega)
theorem held_own {w w' : World} {base e m n k : Nat} {v : Value} {xs : List Value} {o : Obj} (h : w.heap[k]? = some o) (ho : w.ownsRow base e m v n xs) (hg : w.grownBy w' v.ownBlock) (hb : k < base) : w'.heap[k]? = some o :=
  (hg.block k (Array.getElem?_eq_some_iff.1 h).1 (fun e => by have := (ho.lt k e.symm).1; omega)).trans h
theorem grown_own {w w1 w2 : World} {g : Nat} {row : Option Nat} (h : w.grownBy w1 (some g)) (hg : w1.grownBy w2 row) (hr : ∀ k, row = some k → w.heap.size ≤ k) : w.grownBy w2 (some g) :=
  ⟨hg.os.trans h.os, hg.tape.trans h.tape, hg.output.trans h.output, Nat.le_trans h.size hg.size, fun k hk hne => (hg.block k (Nat.lt_of_lt_of_le hk h.size) (fun e => by have := hr k e.symm; omega)).trans (h.block k hk hne)⟩

theorem infoEn : (Tryd.prog.info? 90).map (fun i => (i.zero, i.size, i.bytes)) = some (some (.agg (enC ⟨⟨#[]⟩, 0, zId⟩).toArray), 34, 56) := by kernel_rfl
section
variable {ops : Array Oper} {rest : List Oper} {op : Oper} {a : Act} {w : World} {Q : Exit → Act → World → Prop} {x y z : Operand}
theorem bd_en {n : ByteArray} {k : Int} {l : List UInt8} (ho : op.op = .build 90 #[(0, x), (1, y), (2, z)]) (hx : a.eval x = .string n) (hy : a.eval y = .int .i64 k) (hz : a.eval z = .agg (idC l).toArray) (hg : op.guard = none) (hl : l.length = 32)
    (h : wpList Tryd.prog ops Q rest (a.put op.dst (.agg (enC ⟨n, k, l⟩).toArray)) w) : wpList Tryd.prog ops Q (op :: rest) a w :=
  wpList_build_as hg _ _ ho _ (by simp only [List.map_toArray, List.map_cons, List.map_nil, hx, hy, hz]; exact built_en n k l hl) h
theorem bs_en {n : ByteArray} {k : Int} {l : List UInt8} (ho : op.op = .buildSlice 39 1 #[(0, x)]) (hx : a.eval x = .agg (enC ⟨n, k, l⟩).toArray) (hg : op.guard = none) (hl : l.length = 32)
    (h : wpList Tryd.prog ops Q rest (a.put op.dst (.slice (some ⟨w.heap.size, 0, none⟩) 1 1)) (w.alloc (.cells (enC ⟨n, k, l⟩).toArray 90))) : wpList Tryd.prog ops Q (op :: rest) a w :=
  Great.wpList_buildSliceTo hg _ 90 1 _ ho w.heap.size rfl op.dst rfl Tryd.underlying39 _ (by simp only [List.map_toArray, List.map_cons, List.map_nil, hx]; exact builtS_en n k l hl) h
theorem bd_tree {ev : Value} {c : Array Value} (ho : op.op = .build 42 #[(0, x), (2, y)]) (hx : a.eval x = .int .i64 2) (hy : a.eval y = ev) (hg : op.guard = none) (hb : Tryd.prog.built 42 [(0, .int .i64 2), (2, ev)] = some c)
    (h : wpList Tryd.prog ops Q rest (a.put op.dst (.agg c)) w) : wpList Tryd.prog ops Q (op :: rest) a w :=
  wpList_build_as hg _ _ ho _ (by simp only [List.map_toArray, List.map_cons, List.map_nil, hx, hy]; exact hb) h
end
theorem news_at {w : World} {g : Nat} {l : List Value} {t : TypeId} (h : w.heap[g]? = some (.cells l.toArray t)) : ∀ j u, l[j]? = some u → w.cell? ((⟨g, 0, none⟩ : Addr).add j) = some u := fun j u hu => by
  rw [Addr.add_mid, Nat.zero_add, cell_of_row _ _ _ _ t (0, 0) h]
  simpa using hu
/-- How many bytes a reader has left. -/
def leftN (w : World) (g : Nat) : Nat := match w.cell? ⟨g, 0, none⟩ with
  | some (.string s) => s.size
  | _ => 0
theorem left_of {w : World} {g : Nat} {p : List UInt8 × Bool} (h : Rl w g p) : leftN w g = p.1.length := by
  unfold leftN
  rw [show w.cell? ⟨g, 0, none⟩ = some (.string ⟨p.1.toArray⟩) from Rd.c0 h]
  exact Rm.mk_size p.1

/-- Where tree stands: the reader, the entries so far, and the rest of the work. -/
structure TrW (w : World) (g : Nat) (z : Array Value) (N : Nat) (R : List En × Bool) (l : List UInt8) (b : Bool) (acc : List En) (o : Value) (w1 : World) : Prop where
  rd : Rl w1 g (l, b)
  wk : ∃ k, l.length ≤ k ∧ Rm.treeF k b l acc = R
  own : w1.ownsRow (w.heap.size + 1) 90 34 o acc.length (acc.flatMap enC)
  box : w1.heap[w.heap.size]? = some (.cells z 42)
  gr : w.grownBy w1 (some g)
  big : w.heap.size + 1 ≤ w1.heap.size
  few : acc.length + l.length ≤ N
  ids : ∀ e ∈ acc, e.id.length = 32 ∧ e.name.size ≤ N

theorem TrW.next {w : World} {g : Nat} {z : Array Value} {N : Nat} {R : List En × Bool} {l : List UInt8} {b : Bool} {acc : List En} {o o' : Value} {w1 w2 : World} (T : TrW w g z N R l b acc o w1) (hl : l ≠ [])
    (rd : Rl w2 g (Rm.oneEn b l).2) (own : w2.ownsRow (w.heap.size + 1) 90 34 o' (acc.length + 1) (acc.flatMap enC ++ enC (Rm.oneEn b l).1)) (box : w2.heap[w.heap.size]? = some (.cells z 42)) (gr : w.grownBy w2 (some g)) (big : w.heap.size + 1 ≤ w2.heap.size) :
    TrW w g z N R (Rm.oneEn b l).2.1 (Rm.oneEn b l).2.2 (acc ++ [(Rm.oneEn b l).1]) o' w2 := by
  have h1 := Rm.one_len b l hl
  have h2 := T.few
  refine ⟨rd, ?_, ?_, box, gr, big, by simp; omega, fun e he => ?_⟩
  · obtain ⟨k, hk, hR⟩ := T.wk
    have hp := List.length_pos_iff.2 hl
    obtain ⟨k, rfl⟩ : ∃ k', k = k' + 1 := ⟨k - 1, by omega⟩
    rw [Rm.treeF_step hl] at hR
    exact ⟨k, by omega, hR⟩
  · rw [List.flatMap_append, List.length_append]
    simpa using own
  · rcases List.mem_append.1 he with he | he
    · exact T.ids e he
    · rw [List.mem_singleton.1 he]
      refine ⟨Rm.idV_len _, ?_⟩
      show (ByteArray.mk (Rm.textV (Rm.kindR b l).1).toArray).size ≤ N
      rw [Rm.mk_size]
      have := textV_len (Rm.kindR b l).1
      have := kindR_len b l
      omega

set_option maxHeartbeats 2000000 in
set_option maxRecDepth 100000 in
theorem tree_any (g : Nat) (t : List UInt8) (w : World) (h : Rl w g (t, false)) (hl : t.length ≤ 100000) :
    Calls Tryd.prog 58 #[.pointer (some ⟨g, 0, none⟩)] w (Bdy g (Rm.treeB t) w) := by
  have hz28 := (zero_of_info zero28).1
  have hz24 := (zero_of_info zero24).1
  obtain ⟨i0, hi, hz0, hz1, hz2⟩ := info_parts infoEn
  have HS0 := Lib.hid noF.size
  generalize (obC noOb nilV nilV).toArray = z at hz28 HS0
  have hlt := (Array.getElem?_eq_some_iff.1 h).1
  have T0 : TrW w g z t.length (Rm.treeF t.length false t []) t false [] (.slice none 0 0) (w.alloc (.cells z 42)) :=
    ⟨h.alloc _, ⟨t.length, Nat.le_refl _, rfl⟩, World.ownsRow_nil _ _ _ _, heap_alloc_last _ _, World.grownBy_alloc _ _ _, by simp, by simp, fun e he => by cases he⟩
  have HQ : Hid (Rm.treeB t = ({ noOb with kind := 2, ents := (Rm.treeF t.length false t []).1 }, [], (Rm.treeF t.length false t []).2)) := rfl
  generalize Rm.treeB t = Q at HQ ⊢
  generalize Rm.treeF t.length false t [] = R at T0 HQ
  generalize hN : t.length = N at *
  clear h
  go_enter Tryd.func58, Tryd.ntmps58
  go_wp2_with fail
  go_loopw [3] (fun o wr => ∃ (l : List UInt8) (b : Bool) (acc : List En), TrW w g z N R l b acc o wr) (fun _ wr => leftN wr g)
  case atStart => exact ⟨t, false, [], T0⟩
  case round =>
    obtain ⟨l, b, acc, T⟩ := hrel
    clear T0
    have c0 : wr.cell? ⟨g, 0, none⟩ = some (.string ⟨l.toArray⟩) := Rd.c0 T.rd
    have hfew := T.few
    have hbig := T.big
    by_cases hl0 : l = []
    · subst hl0
      obtain ⟨k, _, hR⟩ := T.wk
      rw [Rm.treeF_nil] at hR
      subst hR
      obtain ⟨pa, cap, rfl⟩ := own_form T.own
      have hev : (Value.slice pa acc.length cap).oneCell' = true := rfl
      have hF := obC_F { noOb with kind := 2, ents := acc } (.slice pa acc.length cap) nilV rfl rfl rfl rfl
      have HS := Lib.hid hF.size
      have HO := Lib.hid hF.one
      have HFF := Lib.hid hF
      have HB := Lib.hid (built_tree (.slice pa acc.length cap) pa acc.length cap rfl acc)
      generalize (obC { noOb with kind := 2, ents := acc } (.slice pa acc.length cap) nilV).toArray = c at HS HO HB HFF
      have EB := Lib.hid T.box
      have HT := Lib.hid T
      clear T hF hev
      go_wp2_with (first
        | ((with_reducible refine bd_tree (x := .const (.int .i64 2)) (y := .tmp 25) (ev := .slice pa acc.length cap) ?_ ?_ ?_ ?_ HB.out ?_); rfl; rfl; rfl; rfl)
        | ((with_reducible refine st_obr (x := .tmp 2) (y := .tmp 26) ?_ ?_ ?_ ?_ EB.out HS0.out HS.out HO.out ?_); rfl; rfl; rfl; rfl))
      refine bodyPost_ret (results_cell_row (fn := Tryd.f58) (p := 2) (by rfl) _ _ w.heap.size _ _ _ _ (by rfl) (setRow_heap _ _ _ _ _ _ EB.out) Tryd.underlying42 rfl (obsize HS.out)) rfl ⟨c, pa, none, cap, 0, rfl, ?_, ?_, grown_setRow HT.out.gr _ (Nat.le_refl _), fun a ha => by rcases ha with ha | ha; exact own_new HT.out.own (Nat.le_succ _) a ha; cases ha⟩
      · rw [HQ.out]
        have hown : (wr.setRow w.heap.size c).ownsRow (w.heap.size + 1) 90 34 (.slice pa acc.length cap) acc.length (acc.flatMap enC) :=
          own_keep HT.out.own (b := w.heap.size) ⟨rfl, rfl, rfl, by rw [setRow_size]; exact Nat.le_refl _, fun k _ hk => setRow_other _ _ _ _ (by simpa using hk)⟩ (by omega)
        exact ⟨HFF.out, own_rows enC 34 hown (fun e he => by rw [enC_length, (HT.out.ids e he).1]), RowsAt.nil _ _, fun e he => (HT.out.ids e he).1, fun e he => by have := (HT.out.ids e he).2; unfold maxLen; omega, (fun e he => by cases he), (show acc.length ≤ maxLen by unfold maxLen; omega), Nat.zero_le _, (show (0 : Nat) ≤ maxLen from Nat.zero_le _), (show (0 : Nat) < 4294967296 by decide)⟩
      · rw [HQ.out]
        exact HT.out.rd.setRow _ (by omega)
    · have hsz : (ByteArray.mk l.toArray).size = l.length := Rm.mk_size l
      have hsl : (ByteArray.mk l.toArray).toList = l := by rw [ByteArray.toList_eq]
      have hne : (!(ByteArray.mk l.toArray).toList.isEmpty) = true := by rw [hsl]; simpa using hl0
      have hne2 : ¬ (ByteArray.mk l.toArray) = ByteArray.empty := fun e => hl0 (by have := congrArg ByteArray.toList e; rw [hsl] at this; simpa using this)
      have hk1 := kindR_len b l
      have hk2 := textR_len (Rm.kindR b l).2 (Rm.kindR b l).1
      have R1 := T.rd
      have O1 := T.own
      have E1 := Lib.hid T.box
      have G1 := T.gr
      have HT := Lib.hid T
      clear T
      generalize ByteArray.mk l.toArray = sl at c0 hne hne2 hsz hsl
      clear hsl hsz
      go_wp2_with fail
      refine (kind_l g l b _ R1 (by omega)).mono ?_
      rintro r w2 ⟨rfl, R2, g2⟩
      have E2 := Lib.hid (held_grown E1.out g2 (by omega))
      have O2 := own_keep O1 g2 (by omega)
      have G2 := grown_trans G1 g2
      have B2 := Nat.le_trans hbig g2.size
      clear R1 E1 O1 G1 g2 c0 hbig
      go_wp2_with fail
      refine (text_l g (Rm.kindR b l).1 (Rm.kindR b l).2 _ R2 (by omega)).mono ?_
      rintro r w3 ⟨rfl, R3, g3⟩
      have E3 := Lib.hid (held_grown E2.out g3 (by omega))
      have O3 := own_keep O2 g3 (by omega)
      have G3 := grown_trans G2 g3
      have B3 := Nat.le_trans B2 g3.size
      clear R2 E2 O2 G2 g3 B2
      go_wp2_with fail
      refine (id_l g (Rm.textR (Rm.kindR b l).2 (Rm.kindR b l).1).1 (Rm.textR (Rm.kindR b l).2 (Rm.kindR b l).1).2 _ R3 (by omega)).mono ?_
      rintro r w4 ⟨rfl, R4, g4⟩
      have E4 := Lib.hid (held_grown E3.out g4 (by omega))
      have O4 := own_keep O3 g4 (by omega)
      have G4 := grown_trans G3 g4
      have B4 := Nat.le_trans B3 g4.size
      clear R3 E3 O3 G3 g4 B3
      have HEN : Hid ((Rm.oneEn b l).1 = ⟨⟨(Rm.textV (Rm.kindR b l).1).toArray⟩, Rm.kindV l, Rm.idV (Rm.textR (Rm.kindR b l).2 (Rm.kindR b l).1).1⟩) := rfl
      have HID := Lib.hid (Rm.idV_len (Rm.textR (Rm.kindR b l).2 (Rm.kindR b l).1).1)
      generalize Rm.idV (Rm.textR (Rm.kindR b l).2 (Rm.kindR b l).1).1 = idl at HEN HID ⊢
      generalize Rm.kindV l = kk at HEN ⊢
      generalize (⟨(Rm.textV (Rm.kindR b l).1).toArray⟩ : ByteArray) = nm at HEN ⊢
      have I5 := Lib.hid (id_rid (heap_alloc_last w4 (.cells (idC idl).toArray 35)))
      go_wp2_with (first
        | ((with_reducible apply st_id (hl := HID.out)); rfl; rfl; rfl; rfl; rfl)
        | ((with_reducible refine ld_idm (x := .tmp 6) ?_ ?_ ?_ I5.out HID.out ?_); rfl; rfl; rfl)
        | ((with_reducible apply bd_en (hl := HID.out)); rfl; rfl; rfl; rfl; rfl)
        | ((with_reducible apply bs_en (hl := HID.out)); rfl; rfl; rfl)
        | (at_builtin; refine wpList_append_own _ rfl _ _ 39 rfl (w.heap.size + 1) 90 i0 (.agg (enC ⟨⟨#[]⟩, 0, zId⟩).toArray) 34 56 Tryd.underlying39 hi hz0 hz1 hz2 (by decide) (by decide) _ _ _ rfl ((World.ownsRow.alloc O4 _).alloc _) ⟨_, 0, none⟩ 1 1 (enC ⟨nm, kk, idl⟩) rfl ?a1 ?a2 ?a3 ?a4 ?a5 ?a6 ?_))
      case a1 => rw [enC_length]; exact congrArg (· + 2) HID.out
      case a2 => exact news_at (heap_alloc_last _ _)
      case a3 => exact enC_one _
      case a4 => unfold maxLen; first | omega | (simp; omega)
      case a5 => first | omega | (simp; omega)
      case a6 => simp; omega
      intro v' w5 hown' hgrow _
      have hlow := O4.lt
      have R5 : Rl w5 g (Rm.oneEn b l).2 := held_own ((R4.alloc _).alloc _) ((World.ownsRow.alloc O4 _).alloc _) hgrow (by omega)
      have E5 := held_own (held_alloc (held_alloc E4.out)) ((World.ownsRow.alloc O4 _).alloc _) hgrow (by omega)
      have G5 : w.grownBy w5 (some g) := grown_own (grown_trans (grown_trans G4 (World.grownBy_alloc _ _ _)) (World.grownBy_alloc _ _ _)) hgrow (fun k hk => by have := (hlow k hk).1; omega)
      have B5 : w.heap.size + 1 ≤ w5.heap.size := by have := hgrow.size; simp at this; omega
      rw [← HEN.out] at hown'
      have T5 := HT.out.next hl0 R5 hown' E5 G5 B5
      have hmeas : leftN w5 g < leftN wr g := by
        rw [left_of R5, left_of HT.out.rd]; exact Rm.one_len b l hl0
      have HM := Lib.hid hmeas
      clear hown' hgrow hlow R5 E5 G5 B5 hmeas O4 R4
      go_wp2
      go_roundw
      case rel => exact ⟨_, _, _, T5⟩
      case measure => exact HM.out

end Go.Proofs.YtipigedopmgemaaDoor
end

section
namespace Go.Proofs.YtipigedopmgemaaDoor
open Go.RowKit
set_option linter.unusedVariables false
set_option linter.unusedSimpArgs false

theorem infoId : (Tryd.prog.info? 35).map (fun i => (i.zero, i.size, i.bytes)) = some (some (.agg (idC zId).toArray), 32, 32) := by kernel_rfl
section
variable {ops : Array Oper} {rest : List Oper} {op : Oper} {a : Act} {w : World} {Q : Exit → Act → World → Prop} {k x y z u : Operand}
theorem bs_id {l : List UInt8} (ho : op.op = .buildSlice 28 1 #[(0, x)]) (hx : a.eval x = .agg (idC l).toArray) (hg : op.guard = none) (hl : l.length = 32)
    (h : wpList Tryd.prog ops Q rest (a.put op.dst (.slice (some ⟨w.heap.size, 0, none⟩) 1 1)) (w.alloc (.cells (idC l).toArray 35))) : wpList Tryd.prog ops Q (op :: rest) a w :=
  Great.wpList_buildSliceTo hg _ 35 1 _ ho w.heap.size rfl op.dst rfl Tryd.underlying28 _ (by simp only [List.map_toArray, List.map_cons, List.map_nil, hx]; exact builtS_id l hl) h
theorem bd_commit {l : List UInt8} {pv : Value} {ti : Nat} {te : ByteArray} {c : Array Value} (ho : op.op = .build 42 #[(0, k), (3, x), (4, y), (5, z), (6, u)]) (hk : a.eval k = .int .i64 3) (hx : a.eval x = .agg (idC l).toArray) (hy : a.eval y = pv) (hz : a.eval z = .int .u32 (ti : Int)) (hu : a.eval u = .string te) (hg : op.guard = none)
    (hb : Tryd.prog.built 42 [(0, .int .i64 3), (3, .agg (idC l).toArray), (4, pv), (5, .int .u32 (ti : Int)), (6, .string te)] = some c)
    (h : wpList Tryd.prog ops Q rest (a.put op.dst (.agg c)) w) : wpList Tryd.prog ops Q (op :: rest) a w :=
  wpList_build_as hg _ _ ho _ (by simp only [List.map_toArray, List.map_cons, List.map_nil, hk, hx, hy, hz, hu]; exact hb) h
end

theorem numV_le (m : Nat) (l : List UInt8) : Rm.numV m l ≤ m := by
  unfold Rm.numV; split
  · omega
  · split <;> omega

/-- Where commit stands: the reader, the parents so far, and the rest of the work. -/
structure CmW (w : World) (g : Nat) (z : Array Value) (gi : Nat) (tr : List UInt8) (N n : Nat) (R : List (List UInt8) × (List UInt8 × Bool)) (j : Nat) (l : List UInt8) (b : Bool) (acc : List (List UInt8)) (o : Value) (w1 : World) : Prop where
  rd : Rl w1 g (l, b)
  wk : Rm.parsF (n - j) b l acc = R
  own : w1.ownsRow (gi + 1) 35 32 o acc.length (acc.flatMap idC)
  box : w1.heap[w.heap.size]? = some (.cells z 42)
  idb : w1.heap[gi]? = some (.cells (idC tr).toArray 35)
  gr : w.grownBy w1 (some g)
  big : gi + 1 ≤ w1.heap.size
  few : acc.length ≤ j
  len : l.length ≤ N
  ids : ∀ p ∈ acc, p.length = 32

theorem num_8 (g : Nat) (l : List UInt8) (b : Bool) (w : World) (h : Rl w g (l, b)) (hl : l.length ≤ 1000000) :
    Calls Tryd.prog 78 #[.pointer (some ⟨g, 0, none⟩), .int .u64 8] w (Took g (.int .u64 (Rm.numV 8 l)) (Rm.numR 8 b l) w) := num_l g l b 8 w h hl
theorem num_t (g : Nat) (l : List UInt8) (b : Bool) (w : World) (h : Rl w g (l, b)) (hl : l.length ≤ 1000000) :
    Calls Tryd.prog 78 #[.pointer (some ⟨g, 0, none⟩), .int .u64 4294967295] w (Took g (.int .u64 (Rm.numV Rm.maxT l)) (Rm.numR Rm.maxT b l) w) := by
  have e : ((Rm.maxT : Nat) : Int) = 4294967295 := by unfold Rm.maxT; rfl
  have := num_l g l b Rm.maxT w h hl
  rw [e] at this
  exact this

theorem CmW.next {w : World} {g : Nat} {z : Array Value} {gi : Nat} {tr : List UInt8} {N n : Nat} {R : List (List UInt8) × (List UInt8 × Bool)} {j : Nat} {l : List UInt8} {b : Bool} {acc : List (List UInt8)} {o o' : Value} {w1 w2 : World} (T : CmW w g z gi tr N n R j l b acc o w1) (hj : j < n)
    (rd : Rl w2 g (Rm.idR b l)) (own : w2.ownsRow (gi + 1) 35 32 o' (acc.length + 1) (acc.flatMap idC ++ idC (Rm.idV l))) (box : w2.heap[w.heap.size]? = some (.cells z 42)) (idb : w2.heap[gi]? = some (.cells (idC tr).toArray 35)) (gr : w.grownBy w2 (some g)) (big : gi + 1 ≤ w2.heap.size) :
    CmW w g z gi tr N n R (j + 1) (Rm.idR b l).1 (Rm.idR b l).2 (acc ++ [Rm.idV l]) o' w2 := by
  have h1 := T.few
  have h2 := T.len
  have h3 := idR_len b l
  refine ⟨rd, ?_, ?_, box, idb, gr, big, by simp; omega, by omega, fun e he => ?_⟩
  · have hR := T.wk
    rw [show n - j = (n - (j + 1)) + 1 by omega] at hR
    exact hR
  · rw [List.flatMap_append, List.length_append]
    simpa using own
  · rcases List.mem_append.1 he with he | he
    · exact T.ids e he
    · rw [List.mem_singleton.1 he]; exact Rm.idV_len l

set_option maxHeartbeats 2000000 in
set_option maxRecDepth 100000 in
theorem commit_any (g : Nat) (t : List UInt8) (w : World) (h : Rl w g (t, false)) (hl : t.length ≤ 100000) :
    Calls Tryd.prog 59 #[.pointer (some ⟨g, 0, none⟩)] w (Bdy g (Rm.commitB t) w) := by
  have hz28 := (zero_of_info zero28).1
  have hz24 := (zero_of_info zero24).1
  obtain ⟨i0, hi, hz0, hz1, hz2⟩ := info_parts infoId
  have HS0 := Lib.hid noF.size
  generalize (obC noOb nilV nilV).toArray = z at hz28 HS0
  have hlt := (Array.getElem?_eq_some_iff.1 h).1
  have R1 := h.alloc (.cells z 42)
  have E1 := Lib.hid (heap_alloc_last w (.cells z 42))
  have G1 := World.grownBy_alloc w (.cells z 42) (some g)
  have hk1 := idR_len false t
  clear h
  go_enter Tryd.func59, Tryd.ntmps59
  go_wp2_with fail
  refine (id_l g t false _ R1 (by omega)).mono ?_
  rintro r w2 ⟨rfl, R2, g2⟩
  have E2 := Lib.hid (held_grown E1.out g2 (by omega))
  have G2 := grown_trans G1 g2
  have HID := Lib.hid (Rm.idV_len t)
  have HTR : Hid (Rm.idV t = Rm.idV t) := rfl
  have hB2 := g2.size
  simp at hB2
  clear R1 E1 G1 g2
  generalize hI : Rm.idV t = tr at HID ⊢
  have HI := Lib.hid hI
  clear hI HTR
  go_wp2_with (first
    | ((with_reducible apply st_id (hl := HID.out)); rfl; rfl; rfl; rfl; rfl))
  have R3 := R2.alloc (.cells (idC tr).toArray 35)
  have E3 := Lib.hid (held_alloc (o := .cells (idC tr).toArray 35) E2.out)
  have I3 := Lib.hid (heap_alloc_last w2 (.cells (idC tr).toArray 35))
  have G3 := grown_trans G2 (World.grownBy_alloc w2 (.cells (idC tr).toArray 35) (some g))
  clear R2 E2 G2
  refine (num_8 g (Rm.idR false t).1 (Rm.idR false t).2 _ R3 (by omega)).mono ?_
  rintro r w4 ⟨rfl, R4, g4⟩
  have E4 := held_grown E3.out g4 (by omega)
  have I4 := held_grown I3.out g4 (by omega)
  have G4 := grown_trans G3 g4
  have B4 : w2.heap.size + 1 ≤ w4.heap.size := by have := g4.size; simpa using this
  have hn := numV_le 8 (Rm.idR false t).1
  have hk2 := numR_len 8 (Rm.idR false t).2 (Rm.idR false t).1
  have T0 : CmW w g z w2.heap.size tr t.length (Rm.cmN t) (Rm.cmP t) 0 (Rm.cmS t).1 (Rm.cmS t).2 [] (.slice none 0 0) w4 :=
    ⟨R4, rfl, World.ownsRow_nil _ _ _ _, E4, I4, G4, B4, Nat.le_refl _, Nat.le_trans hk2 hk1, fun e he => by cases he⟩
  clear R3 E3 I3 G3 R4 g4 E4 I4 G4 hk1 hk2
  have HQ : Hid (Rm.commitB t = ({ noOb with kind := 3, tree := Rm.idV t, pars := (Rm.cmP t).1, time := Rm.cmT t, text := ⟨(Rm.cmX t).toArray⟩ }, Rm.textR (Rm.cmU t).2 (Rm.cmU t).1)) := rfl
  have HT1 : Hid (Rm.cmT t = Rm.numV Rm.maxT (Rm.cmP t).2.1) := rfl
  have HU1 : Hid (Rm.cmU t = Rm.numR Rm.maxT (Rm.cmP t).2.2 (Rm.cmP t).2.1) := rfl
  have HX1 : Hid (Rm.cmX t = Rm.textV (Rm.cmU t).1) := rfl
  generalize Rm.cmX t = X at HQ HX1
  generalize Rm.cmU t = U at HQ HX1 HU1
  generalize Rm.cmT t = TT at HQ HT1
  generalize Rm.cmP t = R at HQ HT1 HU1 T0
  generalize Rm.cmS t = S0 at T0
  have hn' : Rm.cmN t ≤ 8 := hn
  rw [show Rm.numV 8 (Rm.idR false t).1 = Rm.cmN t from rfl]
  generalize Rm.cmN t = n at T0 hn' ⊢
  clear hn
  go_wp2_with fail
  go_loopw [5, 13] (fun o i wr => ∃ (j : Nat) (l : List UInt8) (b : Bool) (acc : List (List UInt8)), i = .int .u64 j ∧ j ≤ n ∧ CmW w g z w2.heap.size tr t.length n R j l b acc o wr) (fun _ i _ => n - (intOf i).toNat)
  case atStart => exact ⟨0, _, _, [], rfl, Nat.zero_le _, T0⟩
  case round =>
    obtain ⟨j, l, b, acc, rfl, hj, T⟩ := hrel
    clear T0
    have hfew := T.few
    have hbig := T.big
    have hlen := T.len
    have R1 := T.rd
    have O1 := T.own
    have E1 := Lib.hid T.box
    have I1 := Lib.hid T.idb
    have G1 := T.gr
    have HT := Lib.hid T
    by_cases hjn : j < n
    · clear T
      go_wp2_with fail
      refine (id_l g l b _ R1 (by omega)).mono ?_
      rintro r w5 ⟨rfl, R5, g5⟩
      have E5 := Lib.hid (held_grown E1.out g5 (by omega))
      have I5 := Lib.hid (held_grown I1.out g5 (by omega))
      have O5 := own_keep O1 g5 (by omega)
      have G5 := grown_trans G1 g5
      have B5 := Nat.le_trans hbig g5.size
      clear R1 E1 I1 O1 G1 g5 hbig
      have HID2 := Lib.hid (Rm.idV_len l)
      have HIV : Hid (Rm.idV l = Rm.idV l) := rfl
      generalize hII : Rm.idV l = idl at HID2 ⊢
      have HII := Lib.hid hII
      clear hII HIV
      go_wp2_with (first
        | ((with_reducible apply bs_id (hl := HID2.out)); rfl; rfl; rfl)
        | (at_builtin; refine wpList_append_own _ rfl _ _ 28 rfl (w2.heap.size + 1) 35 i0 (.agg (idC zId).toArray) 32 32 Tryd.underlying28 hi hz0 hz1 hz2 (by decide) (by decide) _ _ _ rfl (World.ownsRow.alloc O5 _) ⟨_, 0, none⟩ 1 1 (idC idl) rfl ?a1 ?a2 ?a3 ?a4 ?a5 ?a6 ?_))
      case a1 => rw [idC_length]; exact HID2.out
      case a2 => exact news_at (heap_alloc_last _ _)
      case a3 => exact idC_one _
      case a4 => unfold maxLen; first | omega | (simp; omega)
      case a5 => first | omega | (simp; omega)
      case a6 => simp; omega
      intro v' w6 hown' hgrow _
      have hlow := O5.lt
      have R6 : Rl w6 g (Rm.idR b l) := held_own (R5.alloc _) (World.ownsRow.alloc O5 _) hgrow (by omega)
      have E6 := held_own (held_alloc E5.out) (World.ownsRow.alloc O5 _) hgrow (by omega)
      have I6 := held_own (held_alloc I5.out) (World.ownsRow.alloc O5 _) hgrow (by omega)
      have G6 : w.grownBy w6 (some g) := grown_own (grown_trans G5 (World.grownBy_alloc _ _ _)) hgrow (fun k hk => by have := (hlow k hk).1; omega)
      have B6 : w2.heap.size + 1 ≤ w6.heap.size := by have := hgrow.size; simp at this; omega
      rw [← HII.out] at hown'
      have T6 := HT.out.next hjn R6 hown' E6 I6 G6 B6
      clear hown' hgrow hlow R6 E6 I6 G6 B6 O5 R5 G5 HT
      go_wp2
      exact ⟨⟨j + 1, _, _, _, by go_num, by omega, T6⟩, by simp [intOf]; omega⟩
    · obtain rfl : j = n := by omega
      have hR := T.wk
      rw [Nat.sub_self] at hR
      have hR' : (acc, l, b) = R := hR
      subst hR'
      clear T hR
      go_wp2_with fail
      refine (num_t g l b _ R1 (by omega)).mono ?_
      rintro r w5 ⟨rfl, R5, g5⟩
      have E5 := Lib.hid (held_grown E1.out g5 (by omega))
      have I5 := Lib.hid (held_grown I1.out g5 (by omega))
      have O5 := own_keep O1 g5 (by omega)
      have G5 := grown_trans G1 g5
      have B5 := Nat.le_trans hbig g5.size
      have hk3 := numR_len Rm.maxT b l
      have htt := numV_le Rm.maxT l
      clear R1 E1 I1 O1 G1 g5 hbig
      rw [show Rm.numV Rm.maxT l = TT from HT1.out.symm]
      rw [show Rm.numV Rm.maxT l = TT from HT1.out.symm] at htt
      have R5' : Rl w5 g (U.1, U.2) := by rw [HU1.out]; exact R5
      have hk3' : U.1.length ≤ l.length := by rw [HU1.out]; exact hk3
      clear R5 hk3
      have htt' : TT < 4294967296 := by unfold Rm.maxT at htt; omega
      clear htt
      go_wp2_with fail
      refine (text_l g U.1 U.2 _ R5' (by omega)).mono ?_
      rintro r w6 ⟨rfl, R6, g6⟩
      have E6 := Lib.hid (held_grown E5.out g6 (by omega))
      have I6 := Lib.hid (id_rid (held_grown I5.out g6 (by omega)))
      have O6 := own_keep O5 g6 (by omega)
      have G6 := grown_trans G5 g6
      have B6 := Nat.le_trans B5 g6.size
      clear R5' E5 I5 O5 G5 g6 B5
      rw [← HX1.out]
      obtain ⟨pb, cap, rfl⟩ := own_form O6
      have hF := obC_F { noOb with kind := 3, tree := tr, pars := acc, time := TT, text := ⟨X.toArray⟩ } nilV (.slice pb acc.length cap) HID.out rfl rfl rfl
      have HS := Lib.hid hF.size
      have HO := Lib.hid hF.one
      have HFF := Lib.hid hF
      have HB := Lib.hid (built_commit tr HID.out (.slice pb acc.length cap) pb acc.length cap rfl acc TT ⟨X.toArray⟩)
      generalize (obC { noOb with kind := 3, tree := tr, pars := acc, time := TT, text := ⟨X.toArray⟩ } nilV (.slice pb acc.length cap)).toArray = c at HS HO HB HFF
      clear hF
      generalize (⟨X.toArray⟩ : ByteArray) = xb at HFF HB HQ ⊢
      go_wp2_with (first
        | ((with_reducible refine ld_idm (x := .tmp 3) ?_ ?_ ?_ I6.out HID.out ?_); rfl; rfl; rfl)
        | ((with_reducible refine bd_commit (k := .const (.int .i64 3)) (x := .tmp 25) (y := .tmp 26) (z := .tmp 28) (u := .tmp 29) (ti := TT) ?_ ?_ ?_ ?_ ?_ ?_ ?_ HB.out ?_); rfl; rfl; rfl; rfl; rfl; rfl; rfl)
        | ((with_reducible refine st_obr (x := .tmp 2) (y := .tmp 30) ?_ ?_ ?_ ?_ E6.out HS0.out HS.out HO.out ?_); rfl; rfl; rfl; rfl))
      refine bodyPost_ret (results_cell_row (fn := Tryd.f59) (p := 2) (by rfl) _ _ w.heap.size _ _ _ _ (by rfl) (setRow_heap _ _ _ _ _ _ E6.out) Tryd.underlying42 rfl (obsize HS.out)) rfl ⟨c, none, pb, 0, cap, rfl, ?_, ?_, grown_setRow G6 _ (Nat.le_refl _), fun a ha => by rcases ha with ha | ha; cases ha; exact own_new O6 (by omega) a ha⟩
      · rw [HQ.out, HI.out]
        have hown : (w6.setRow w.heap.size c).ownsRow (w2.heap.size + 1) 35 32 (.slice pb acc.length cap) acc.length (acc.flatMap idC) :=
          own_keep O6 (b := w.heap.size) ⟨rfl, rfl, rfl, by rw [setRow_size]; exact Nat.le_refl _, fun k _ hk => setRow_other _ _ _ _ (by simpa using hk)⟩ (by omega)
        exact ⟨HFF.out, RowsAt.nil _ _, own_rows idC 32 hown (fun p hp => by rw [idC_length, HT.out.ids p hp]), (fun e he => by cases he), (fun e he => by cases he), HT.out.ids, (show (0 : Nat) ≤ maxLen from Nat.zero_le _), (show acc.length ≤ maxLen by unfold maxLen; omega), (show (0 : Nat) ≤ maxLen from Nat.zero_le _), htt'⟩
      · rw [HQ.out]
        exact R6.setRow _ (by omega)

end Go.Proofs.YtipigedopmgemaaDoor
end

section
namespace Go.Proofs.YtipigedopmgemaaDoor
open Go.RowKit
set_option linter.unusedVariables false
set_option linter.unusedSimpArgs false

theorem ended_l (g : Nat) (p : List UInt8 × Bool) (w : World) (h : Rl w g p) :
    Calls Tryd.prog 43 #[.pointer (some ⟨g, 0, none⟩)] w fun r w' => r = .returned (.bool (decide (p = ([], false)))) ∧ w = w' := by
  refine (ended_any g ⟨p.1.toArray⟩ p.2 w h).mono fun e w' ⟨h1, h2⟩ => ⟨?_, h2⟩
  rw [h1]
  have e : (ByteArray.mk p.1.toArray).toList = p.1 := by rw [ByteArray.toList_eq]
  rw [e]
  obtain ⟨l, b⟩ := p
  cases b <;> cases l <;> simp

theorem eq_nilf (w : World) : (Op.equalIn 10000 94 .nilFunc .nilFunc).run Tryd.prog w = .ok true w := by
  rw [show (10000 : Nat) = 9999 + 1 from rfl, Op.equalIn]
  simp [run_underlying Tryd.underlying94]
theorem eq_fn (w : World) (k : Nat) : (Op.equalIn 10000 94 (.func (.func k) #[] #[]) .nilFunc).run Tryd.prog w = .ok false w := by
  rw [show (10000 : Nat) = 9999 + 1 from rfl, Op.equalIn]
  simp [run_underlying Tryd.underlying94]

theorem bin_nilf (w : World) : (binOp .eql 94 .nilFunc .nilFunc).run Tryd.prog w = .ok (.bool true) w := by
  have h : (Op.equal 94 .nilFunc .nilFunc).run Tryd.prog w = .ok true w := eq_nilf w
  simp [binOp, h]
theorem bin_fn (w : World) (k : Nat) : (binOp .eql 94 (.func (.func k) #[] #[]) .nilFunc).run Tryd.prog w = .ok (.bool false) w := by
  have h : (Op.equal 94 (.func (.func k) #[] #[]) .nilFunc).run Tryd.prog w = .ok false w := eq_fn w k
  simp [binOp, h]

/-- Decode found nothing. -/
def NoDec (w : World) (r : Ending) (w' : World) : Prop := r = .returned (.tuple #[.agg (obC noOb nilV nilV).toArray, .int .i64 2]) ∧ Below w.heap.size w w'
/-- Decode found this object. -/
def ADec (o : Ob) (w : World) (r : Ending) (w' : World) : Prop :=
  ∃ (cs : Array Value) (ao bo : Option Addr) (ca cb : Nat), r = .returned (.tuple #[.agg cs, .int .i64 0]) ∧ ObAt w' cs o ao bo ca cb ∧ Below w.heap.size w w'

set_option maxHeartbeats 1000000 in
set_option maxRecDepth 100000 in
theorem decode_long (s : ByteArray) (w : World) (hs : s.size ≤ maxLen) (h : 4096 < s.size) :
    Calls Tryd.prog 21 #[.string s] w (NoDec w) := by
  have HS := Lib.hid noF.size
  have HO := Lib.hid noF.one
  have hz28 := (zero_of_info zero28).1
  have HBN := Lib.hid built_none
  unfold NoDec
  generalize (obC noOb nilV nilV).toArray = z at HS HO hz28 HBN ⊢
  unfold maxLen at hs
  have h' : (4096 : Int) < (s.size : Int) := by omega
  have E2 := Lib.hid (heap_alloc_last w (.cells z 42))
  go_enter Tryd.func21, Tryd.ntmps21
  go_wp2_with (first
    | ((with_reducible refine bd_obz ?_ ?_ HBN.out ?_); rfl; rfl)
    | ((with_reducible refine st_obr (x := .tmp 2) (y := .tmp 13) ?_ ?_ ?_ ?_ E2.out HS.out HS.out HO.out ?_); rfl; rfl; rfl; rfl))
  refine bodyPost_ret (results_cell_tmp (fn := Tryd.f21) (p := 2) (q := 3) (by rfl) _ _ w.heap.size _ _ _ _ (by rfl) (setRow_heap _ _ _ _ _ _ E2.out) Tryd.underlying42 rfl (obsize HS.out)) rfl ⟨rfl, below_setRow ((Below.refl _ _).alloc (Nat.le_refl _) _) (Nat.le_refl _) _⟩

theorem below_own {w w1 w2 : World} {g : Nat} (h : Below w.heap.size w w1) (hg : w1.grownBy w2 (some g)) (hge : w.heap.size ≤ g) : Below w.heap.size w w2 := h.grown hg h.size (fun k hk => by cases hk; exact hge)

set_option maxHeartbeats 1000000 in
set_option maxRecDepth 100000 in
theorem decode_noA (s : ByteArray) (w : World) (hs : s.size ≤ 4096) (h : Rm.okA s.data.toList = false) :
    Calls Tryd.prog 21 #[.string s] w (NoDec w) := by
  have HS := Lib.hid noF.size
  have HO := Lib.hid noF.one
  have hz28 := (zero_of_info zero28).1
  have HBN := Lib.hid built_none
  unfold NoDec
  generalize (obC noOb nilV nilV).toArray = z at HS HO hz28 HBN ⊢
  have h' : ¬ (4096 : Int) < (s.size : Int) := by omega
  have hsl := size_list s
  have hsm : (⟨s.data.toList.toArray⟩ : ByteArray) = s := by simp
  generalize hl : s.data.toList = l at *
  have hll : l.length ≤ 4096 := by omega
  have HSM := Lib.hid hsm
  have HA := Lib.hid h
  clear hl hsl hsm h
  go_enter Tryd.func21, Tryd.ntmps21
  go_wp2_with fail
  have R0 : Rl ((w.alloc (.cells z 42)).alloc (.cells #[.string s, .bool false] 92)) (w.heap.size + 1) (l, false) := by
    unfold Rl; rw [HSM.out]; exact heap_alloc2_new _ _ _
  have E0 := Lib.hid (heap_alloc2_old w (.cells z 42) (.cells #[.string s, .bool false] 92))
  have hB0 := ((Below.refl w.heap.size w).alloc (Nat.le_refl _) (.cells z 42)).alloc (by simp) (.cells #[.string s, .bool false] 92)
  have hk1 := kindR_len false l
  refine (kind_l (w.heap.size + 1) l false _ R0 (by omega)).mono ?_
  rintro r w1 ⟨rfl, R1, g1⟩
  have E1 := Lib.hid (held_grown E0.out g1 (by omega))
  have hB1 := below_own hB0 g1 (by omega)
  clear R0 E0 hB0 g1
  go_wp2_with fail
  refine (text_l (w.heap.size + 1) (Rm.kindR false l).1 (Rm.kindR false l).2 _ R1 (by omega)).mono ?_
  rintro r w2 ⟨rfl, R2, g2⟩
  have E2 := Lib.hid (held_grown E1.out g2 (by omega))
  have hB2 := below_own hB1 g2 (by omega)
  have hkb := kindV_bd l
  clear R1 E1 hB1 g2
  by_cases hend : Rm.bdR l = ([], false)
  · have hno : ¬ (1 ≤ Rm.kindV l ∧ Rm.kindV l ≤ 4) := fun hc => by
      have := HA.out
      unfold Rm.okA at this
      rw [decide_eq_true hend, decide_eq_true hc] at this
      cases this
    have hd : decide (Rm.textR (Rm.kindR false l).2 (Rm.kindR false l).1 = ([], false)) = true := decide_eq_true hend
    have HD := Lib.hid hd
    have hm := fun W => method_any (Rm.kindV l) W
    have HM : Hid (∀ W, Calls Tryd.prog 42 #[.int .i64 (Rm.kindV l)] W fun r w' => r = .returned .nilFunc ∧ W = w') := fun W => by
      have := method_any (Rm.kindV l) W
      rw [if_neg (by omega), if_neg (by omega), if_neg (by omega), if_neg (by omega)] at this
      exact this
    clear hd hend hno hm
    have hqf := bin_nilf
    go_wp2_with fail
    refine (HM.out _).mono ?_
    rintro r w3 ⟨rfl, rfl⟩
    go_wp2_with fail
    refine (ended_l (w.heap.size + 1) _ _ R2).mono ?_
    rintro r w3 ⟨rfl, rfl⟩
    rw [HD.out]
    go_wp2_with (first
      | ((with_reducible refine bd_obz ?_ ?_ HBN.out ?_); rfl; rfl)
      | ((with_reducible refine st_obr (x := .tmp 2) (y := .tmp 26) ?_ ?_ ?_ ?_ E2.out HS.out HS.out HO.out ?_); rfl; rfl; rfl; rfl))
    refine bodyPost_ret (results_cell_tmp (fn := Tryd.f21) (p := 2) (q := 3) (by rfl) _ _ w.heap.size _ _ _ _ (by rfl) (setRow_heap _ _ _ _ _ _ E2.out) Tryd.underlying42 rfl (obsize HS.out)) rfl ⟨rfl, below_setRow hB2 (Nat.le_refl _) _⟩
  · have hd : decide (Rm.textR (Rm.kindR false l).2 (Rm.kindR false l).1 = ([], false)) = false := decide_eq_false hend
    have HD := Lib.hid hd
    clear hd hend
    go_wp2_with fail
    refine (method_any (Rm.kindV l) _).mono ?_
    rintro r w3 ⟨rfl, rfl⟩
    generalize (if Rm.kindV l = 1 then Value.func (.func 57) #[] #[] else if Rm.kindV l = 2 then .func (.func 58) #[] #[] else if Rm.kindV l = 3 then .func (.func 59) #[] #[] else if Rm.kindV l = 4 then .func (.func 60) #[] #[] else .nilFunc) = mv
    go_wp2_with fail
    refine (ended_l (w.heap.size + 1) _ _ R2).mono ?_
    rintro r w3 ⟨rfl, rfl⟩
    rw [HD.out]
    go_wp2_with (first
      | ((with_reducible refine bd_obz ?_ ?_ HBN.out ?_); rfl; rfl)
      | ((with_reducible refine st_obr (x := .tmp 2) (y := .tmp 26) ?_ ?_ ?_ ?_ E2.out HS.out HS.out HO.out ?_); rfl; rfl; rfl; rfl))
    refine bodyPost_ret (results_cell_tmp (fn := Tryd.f21) (p := 2) (q := 3) (by rfl) _ _ w.heap.size _ _ _ _ (by rfl) (setRow_heap _ _ _ _ _ _ E2.out) Tryd.underlying42 rfl (obsize HS.out)) rfl ⟨rfl, below_setRow hB2 (Nat.le_refl _) _⟩

end Go.Proofs.YtipigedopmgemaaDoor
end

section
namespace Go.Proofs.YtipigedopmgemaaDoor
open Go.RowKit
set_option linter.unusedVariables false
set_option linter.unusedSimpArgs false

set_option maxHeartbeats 1000000 in
set_option maxRecDepth 100000 in
theorem decode_A (fn : Nat) (hfn : fn = 57 ∨ fn = 58 ∨ fn = 59 ∨ fn = 60) (s : ByteArray) (w : World) (hs : s.size ≤ 4096) (h : Rm.bdR s.data.toList = ([], false))
    (hm : ∀ W, Calls Tryd.prog 42 #[.int .i64 (Rm.kindV s.data.toList)] W fun r w' => r = .returned (.func (.func fn) #[] #[]) ∧ W = w')
    (hb : ∀ W g, Rl W g (Rm.bdV s.data.toList, false) → Calls Tryd.prog fn #[.pointer (some ⟨g, 0, none⟩)] W (Bdy g (Rm.bodyF (Rm.kindV s.data.toList) (Rm.bdV s.data.toList)) W)) (hok : Rm.okB s.data.toList = false) :
    Calls Tryd.prog 21 #[.string s] w (NoDec w) := by
  have HS := Lib.hid noF.size
  have HO := Lib.hid noF.one
  have hz28 := (zero_of_info zero28).1
  have HBN := Lib.hid built_none
  unfold NoDec
  generalize (obC noOb nilV nilV).toArray = z at HS HO hz28 HBN ⊢
  have h' : ¬ (4096 : Int) < (s.size : Int) := by omega
  have hsl := size_list s
  have hsm : (⟨s.data.toList.toArray⟩ : ByteArray) = s := by simp
  generalize hl : s.data.toList = l at *
  have hll : l.length ≤ 4096 := by omega
  have HSM := Lib.hid hsm
  have HA := Lib.hid h
  have HM := Lib.hid hm
  have HBD := Lib.hid hb
  have HOK := Lib.hid hok
  have HFN := Lib.hid hfn
  clear hfn hl hsl hsm h hm hb hok
  go_enter Tryd.func21, Tryd.ntmps21
  go_wp2_with fail
  have R0 : Rl ((w.alloc (.cells z 42)).alloc (.cells #[.string s, .bool false] 92)) (w.heap.size + 1) (l, false) := by
    unfold Rl; rw [HSM.out]; exact heap_alloc2_new _ _ _
  have E0 := Lib.hid (heap_alloc2_old w (.cells z 42) (.cells #[.string s, .bool false] 92))
  have hB0 := ((Below.refl w.heap.size w).alloc (Nat.le_refl _) (.cells z 42)).alloc (by simp) (.cells #[.string s, .bool false] 92)
  have hk1 := kindR_len false l
  refine (kind_l (w.heap.size + 1) l false _ R0 (by omega)).mono ?_
  rintro r w1 ⟨rfl, R1, g1⟩
  have E1 := Lib.hid (held_grown E0.out g1 (by omega))
  have hB1 := below_own hB0 g1 (by omega)
  have S1 : w.heap.size + 2 ≤ w1.heap.size := by have := g1.size; simp at this; omega
  clear R0 E0 hB0 g1
  go_wp2_with fail
  refine (text_l (w.heap.size + 1) (Rm.kindR false l).1 (Rm.kindR false l).2 _ R1 (by omega)).mono ?_
  rintro r w2 ⟨rfl, R2, g2⟩
  have E2 := Lib.hid (held_grown E1.out g2 (by omega))
  have hB2 := below_own hB1 g2 (by omega)
  have S2 := Nat.le_trans S1 g2.size
  have hkb := kindV_bd l
  have hd : decide (Rm.textR (Rm.kindR false l).2 (Rm.kindR false l).1 = ([], false)) = true := decide_eq_true HA.out
  have HD := Lib.hid hd
  have hqf := bin_fn
  clear R1 E1 hB1 g2 hd S1
  go_wp2_with fail
  refine (HM.out _).mono ?_
  rintro r w3 ⟨rfl, rfl⟩
  go_wp2_with fail
  refine (ended_l (w.heap.size + 1) _ _ R2).mono ?_
  rintro r w3 ⟨rfl, rfl⟩
  rw [HD.out]
  rw [show Rm.textV (Rm.kindR false l).1 = Rm.bdV l from rfl]
  have R3 : Rl (w2.alloc (.cells #[.string ⟨(Rm.bdV l).toArray⟩, .bool false] 92)) w2.heap.size (Rm.bdV l, false) := heap_alloc_last _ _
  have E3 := Lib.hid (held_alloc (o := .cells #[.string ⟨(Rm.bdV l).toArray⟩, .bool false] 92) E2.out)
  have hB3 := hB2.alloc hB2.size (.cells #[.string ⟨(Rm.bdV l).toArray⟩, .bool false] 92)
  clear R2 E2 hB2
  rcases HFN.out with rfl | rfl | rfl | rfl
  all_goals
    go_wp2_with fail
    refine (HBD.out _ w2.heap.size R3).mono ?_
    rintro r w4 ⟨cs, ao, bo, ca, cb, rfl, hO, R4, g4, hnew⟩
    have E4 := Lib.hid (held_grown E3.out g4 (by omega))
    have hB4 := below_own hB3 g4 (by omega)
    have S4 : w2.heap.size + 1 ≤ w4.heap.size := by have := g4.size; simpa using this
    have HCS := Lib.hid hO.F.size
    have HCO := Lib.hid hO.F.one
    have R5 := R4.alloc (.cells cs 42)
    have E5 := Lib.hid (held_alloc (o := .cells cs 42) E4.out)
    have hB5 := hB4.alloc hB4.size (.cells cs 42)
    have K5 := Kp.box w4 cs 42
    have hO5 := hO.below ((Below.refl w4.heap.size w4).alloc (Nat.le_refl _) (.cells cs 42))
    have HFV := Lib.hid (fun W (hW : Below w4.heap.size w4 W) => fieldsValid_any cs _ ao bo ca cb W (hO.below hW))
    clear R3 E3 hB3 g4 R4 E4 hB4
    by_cases hend : (Rm.bodyF (Rm.kindV l) (Rm.bdV l)).2 = ([], false)
    · have hv : validB (Rm.bodyF (Rm.kindV l) (Rm.bdV l)).1 = false := by
        have := HOK.out
        unfold Rm.okB at this
        rw [decide_eq_true hend] at this
        simpa using this
      have HD2 := Lib.hid (decide_eq_true hend)
      rw [hv] at HFV
      clear hend hv
      go_wp2_with (first
        | ((with_reducible apply st_ob (hs := HCS.out) (h1 := HCO.out)); rfl; rfl; rfl; rfl; exact HS.out)
        | (go_at_call 43; refine (ended_l w2.heap.size _ _ R5).mono ?_; rintro r w6 ⟨rfl, rfl⟩; rw [HD2.out])
        | ((fail_if_success (fail_if_success go_guarded)); (with_reducible refine load_ob_g (x := .tmp 9) ?_ ?_ ?_ K5 HCS.out ?_); rfl; rfl; kernel_rfl)
        | (go_at_call 44; refine (HFV.out _ ((Below.refl w4.heap.size w4).alloc (Nat.le_refl _) (.cells cs 42))).mono ?_; rintro r w7 ⟨rfl, hx7⟩; have E7 := Lib.hid ((hx7.block w.heap.size (by simp; omega)).trans E5.out); have K7 := K5.step hx7)
        | ((with_reducible refine bd_obz ?_ ?_ HBN.out ?_); rfl; rfl)
        | ((with_reducible refine st_obr (x := .tmp 2) (y := .tmp 38) ?_ ?_ ?_ ?_ E7.out HS.out HS.out HO.out ?_); rfl; rfl; rfl; rfl))
      refine bodyPost_ret (results_cell_tmp (fn := Tryd.f21) (p := 2) (q := 3) (by rfl) _ _ w.heap.size _ _ _ _ (by rfl) (setRow_heap _ _ _ _ _ _ E7.out) Tryd.underlying42 rfl (obsize HS.out)) rfl ⟨rfl, below_setRow (hB5.trans (hx7.mono hB5.size)) (Nat.le_refl _) _⟩
    · have HD2 := Lib.hid (decide_eq_false hend)
      clear hend
      go_wp2_with (first
        | ((with_reducible apply st_ob (hs := HCS.out) (h1 := HCO.out)); rfl; rfl; rfl; rfl; exact HS.out)
        | (go_at_call 43; refine (ended_l w2.heap.size _ _ R5).mono ?_; rintro r w6 ⟨rfl, rfl⟩; rw [HD2.out])
        | ((with_reducible refine bd_obz ?_ ?_ HBN.out ?_); rfl; rfl)
        | ((with_reducible refine st_obr (x := .tmp 2) (y := .tmp 38) ?_ ?_ ?_ ?_ E5.out HS.out HS.out HO.out ?_); rfl; rfl; rfl; rfl))
      refine bodyPost_ret (results_cell_tmp (fn := Tryd.f21) (p := 2) (q := 3) (by rfl) _ _ w.heap.size _ _ _ _ (by rfl) (setRow_heap _ _ _ _ _ _ E5.out) Tryd.underlying42 rfl (obsize HS.out)) rfl ⟨rfl, below_setRow hB5 (Nat.le_refl _) _⟩

set_option maxHeartbeats 1000000 in
set_option maxRecDepth 100000 in
theorem decode_B (fn : Nat) (hfn : fn = 57 ∨ fn = 58 ∨ fn = 59 ∨ fn = 60) (s : ByteArray) (w : World) (hs : s.size ≤ 4096) (h : Rm.bdR s.data.toList = ([], false))
    (hm : ∀ W, Calls Tryd.prog 42 #[.int .i64 (Rm.kindV s.data.toList)] W fun r w' => r = .returned (.func (.func fn) #[] #[]) ∧ W = w')
    (hb : ∀ W g, Rl W g (Rm.bdV s.data.toList, false) → Calls Tryd.prog fn #[.pointer (some ⟨g, 0, none⟩)] W (Bdy g (Rm.bodyF (Rm.kindV s.data.toList) (Rm.bdV s.data.toList)) W)) (hok : Rm.okB s.data.toList = true) :
    Calls Tryd.prog 21 #[.string s] w (ADec (Rm.bodyF (Rm.kindV s.data.toList) (Rm.bdV s.data.toList)).1 w) := by
  have HS := Lib.hid noF.size
  have HO := Lib.hid noF.one
  have hz28 := (zero_of_info zero28).1
  have HBN := Lib.hid built_none
  generalize (obC noOb nilV nilV).toArray = z at HS HO hz28 HBN
  have h' : ¬ (4096 : Int) < (s.size : Int) := by omega
  have hsl := size_list s
  have hsm : (⟨s.data.toList.toArray⟩ : ByteArray) = s := by simp
  generalize hl : s.data.toList = l at *
  have hll : l.length ≤ 4096 := by omega
  have HSM := Lib.hid hsm
  have HA := Lib.hid h
  have HM := Lib.hid hm
  have HBD := Lib.hid hb
  have HOK := Lib.hid hok
  have HFN := Lib.hid hfn
  clear hfn hl hsl hsm h hm hb hok
  go_enter Tryd.func21, Tryd.ntmps21
  go_wp2_with fail
  have R0 : Rl ((w.alloc (.cells z 42)).alloc (.cells #[.string s, .bool false] 92)) (w.heap.size + 1) (l, false) := by
    unfold Rl; rw [HSM.out]; exact heap_alloc2_new _ _ _
  have E0 := Lib.hid (heap_alloc2_old w (.cells z 42) (.cells #[.string s, .bool false] 92))
  have hB0 := ((Below.refl w.heap.size w).alloc (Nat.le_refl _) (.cells z 42)).alloc (by simp) (.cells #[.string s, .bool false] 92)
  have hk1 := kindR_len false l
  refine (kind_l (w.heap.size + 1) l false _ R0 (by omega)).mono ?_
  rintro r w1 ⟨rfl, R1, g1⟩
  have E1 := Lib.hid (held_grown E0.out g1 (by omega))
  have hB1 := below_own hB0 g1 (by omega)
  have S1 : w.heap.size + 2 ≤ w1.heap.size := by have := g1.size; simp at this; omega
  clear R0 E0 hB0 g1
  go_wp2_with fail
  refine (text_l (w.heap.size + 1) (Rm.kindR false l).1 (Rm.kindR false l).2 _ R1 (by omega)).mono ?_
  rintro r w2 ⟨rfl, R2, g2⟩
  have E2 := Lib.hid (held_grown E1.out g2 (by omega))
  have hB2 := below_own hB1 g2 (by omega)
  have S2 := Nat.le_trans S1 g2.size
  have hkb := kindV_bd l
  have hd : decide (Rm.textR (Rm.kindR false l).2 (Rm.kindR false l).1 = ([], false)) = true := decide_eq_true HA.out
  have HD := Lib.hid hd
  have hqf := bin_fn
  clear R1 E1 hB1 g2 hd S1
  go_wp2_with fail
  refine (HM.out _).mono ?_
  rintro r w3 ⟨rfl, rfl⟩
  go_wp2_with fail
  refine (ended_l (w.heap.size + 1) _ _ R2).mono ?_
  rintro r w3 ⟨rfl, rfl⟩
  rw [HD.out]
  rw [show Rm.textV (Rm.kindR false l).1 = Rm.bdV l from rfl]
  have R3 : Rl (w2.alloc (.cells #[.string ⟨(Rm.bdV l).toArray⟩, .bool false] 92)) w2.heap.size (Rm.bdV l, false) := heap_alloc_last _ _
  have E3 := Lib.hid (held_alloc (o := .cells #[.string ⟨(Rm.bdV l).toArray⟩, .bool false] 92) E2.out)
  have hB3 := hB2.alloc hB2.size (.cells #[.string ⟨(Rm.bdV l).toArray⟩, .bool false] 92)
  clear R2 E2 hB2
  rcases HFN.out with rfl | rfl | rfl | rfl
  all_goals
    go_wp2_with fail
    refine (HBD.out _ w2.heap.size R3).mono ?_
    rintro r w4 ⟨cs, ao, bo, ca, cb, rfl, hO, R4, g4, hnew⟩
    have E4 := Lib.hid (held_grown E3.out g4 (by omega))
    have hB4 := below_own hB3 g4 (by omega)
    have S4 : w2.heap.size + 1 ≤ w4.heap.size := by have := g4.size; simpa using this
    have HCS := Lib.hid hO.F.size
    have HCO := Lib.hid hO.F.one
    have R5 := R4.alloc (.cells cs 42)
    have E5 := Lib.hid (held_alloc (o := .cells cs 42) E4.out)
    have hB5 := hB4.alloc hB4.size (.cells cs 42)
    have K5 := Kp.box w4 cs 42
    have hO5 := hO.below ((Below.refl w4.heap.size w4).alloc (Nat.le_refl _) (.cells cs 42))
    have HFV := Lib.hid (fun W (hW : Below w4.heap.size w4 W) => fieldsValid_any cs _ ao bo ca cb W (hO.below hW))
    clear R3 E3 hB3 g4 R4 E4 hB4
    have hok2 := HOK.out
    unfold Rm.okB at hok2
    rw [Bool.and_eq_true, decide_eq_true_eq] at hok2
    obtain ⟨hend, hv⟩ := hok2
    have HD2 := Lib.hid (decide_eq_true hend)
    rw [hv] at HFV
    clear hend hv
    go_wp2_with (first
      | ((with_reducible apply st_ob (hs := HCS.out) (h1 := HCO.out)); rfl; rfl; rfl; rfl; exact HS.out)
      | (go_at_call 43; refine (ended_l w2.heap.size _ _ R5).mono ?_; rintro r w6 ⟨rfl, rfl⟩; rw [HD2.out])
      | ((fail_if_success (fail_if_success go_guarded)); (with_reducible refine load_ob_g (x := .tmp 9) ?_ ?_ ?_ K5 HCS.out ?_); rfl; rfl; kernel_rfl)
      | (go_at_call 44; refine (HFV.out _ ((Below.refl w4.heap.size w4).alloc (Nat.le_refl _) (.cells cs 42))).mono ?_; rintro r w7 ⟨rfl, hx7⟩; have E7 := Lib.hid ((hx7.block w.heap.size (by simp; omega)).trans E5.out); have K7 := K5.step hx7)
      | ((with_reducible refine load_ob (x := .tmp 9) ?_ ?_ ?_ K7 HCS.out ?_); rfl; rfl; rfl)
      | ((with_reducible refine st_obr (x := .tmp 2) (y := .tmp 39) ?_ ?_ ?_ ?_ E7.out HS.out HCS.out HCO.out ?_); rfl; rfl; rfl; rfl))
    have hB7 := hB5.trans (hx7.mono hB5.size)
    refine bodyPost_ret (results_cell_tmp (fn := Tryd.f21) (p := 2) (q := 3) (by rfl) _ _ w.heap.size _ _ _ _ (by rfl) (setRow_heap _ _ _ _ _ _ E7.out) Tryd.underlying42 rfl (obsize HCS.out)) rfl ⟨cs, ao, bo, ca, cb, rfl, ?_, below_setRow hB7 (Nat.le_refl _) _⟩
    exact (hO5.below hx7).setRow (fun a ha => by have := hnew a ha; simp at this; omega)

/-- A body read by the method of its kind. -/
theorem blob_l (g : Nat) (t : List UInt8) (w : World) (h : Rl w g (t, false)) (hl : t.length ≤ 100000) :
    Calls Tryd.prog 57 #[.pointer (some ⟨g, 0, none⟩)] w (Bdy g (Rm.blobF t) w) := by
  refine (blob_any g ⟨t.toArray⟩ false w h).mono fun e w' ⟨h1, h2, h3⟩ => ⟨_, none, none, 0, 0, h1, ?_, h2, h3, fun a ha => by rcases ha with ha | ha <;> cases ha⟩
  exact ⟨obC_F { noOb with kind := 1, data := ⟨t.toArray⟩ } nilV nilV rfl rfl rfl rfl, RowsAt.nil _ _, RowsAt.nil _ _, (fun e he => by cases he), (fun e he => by cases he), (fun e he => by cases he), (show (0 : Nat) ≤ maxLen from Nat.zero_le _), (show (0 : Nat) ≤ maxLen from Nat.zero_le _), (show (0 : Nat) ≤ maxLen from Nat.zero_le _), (show (0 : Nat) < 4294967296 by decide)⟩

theorem bdV_len (l : List UInt8) (h : l.length ≤ 4096) : (Rm.bdV l).length ≤ 100000 := by
  have h1 := textV_len (Rm.kindR false l).1
  have h2 := kindR_len false l
  show (Rm.textV (Rm.kindR false l).1).length ≤ 100000
  omega

/-- Decode, whole. -/
def Dcd (l : List UInt8) (w : World) (r : Ending) (w' : World) : Prop := match Rm.dec l with
  | none => NoDec w r w'
  | some o => ADec o w r w'

theorem decode_any (s : ByteArray) (w : World) (hs : s.size ≤ maxLen) : Calls Tryd.prog 21 #[.string s] w (Dcd s.data.toList w) := by
  have hsl := size_list s
  unfold Dcd
  by_cases h4 : 4096 < s.size
  · have : Rm.dec s.data.toList = none := by unfold Rm.dec; rw [if_neg (by omega)]
    rw [this]
    exact decode_long s w hs h4
  cases hA : Rm.okA s.data.toList with
  | false =>
    have : Rm.dec s.data.toList = none := by unfold Rm.dec; rw [if_neg (by rw [hA]; simp)]
    rw [this]
    exact decode_noA s w (by omega) hA
  | true =>
    have hA' := hA
    unfold Rm.okA at hA'
    rw [Bool.and_eq_true, decide_eq_true_eq, decide_eq_true_eq] at hA'
    obtain ⟨hR, hk1, hk2⟩ := hA'
    have hbl := bdV_len s.data.toList (by omega)
    have key : ∃ fn, (fn = 57 ∨ fn = 58 ∨ fn = 59 ∨ fn = 60) ∧ (∀ W, Calls Tryd.prog 42 #[.int .i64 (Rm.kindV s.data.toList)] W fun r w' => r = .returned (.func (.func fn) #[] #[]) ∧ W = w') ∧
        (∀ W g, Rl W g (Rm.bdV s.data.toList, false) → Calls Tryd.prog fn #[.pointer (some ⟨g, 0, none⟩)] W (Bdy g (Rm.bodyF (Rm.kindV s.data.toList) (Rm.bdV s.data.toList)) W)) := by
      unfold Rm.bodyF
      rcases (by omega : Rm.kindV s.data.toList = 1 ∨ Rm.kindV s.data.toList = 2 ∨ Rm.kindV s.data.toList = 3 ∨ Rm.kindV s.data.toList = 4) with e | e | e | e
      · rw [e]
        exact ⟨_, .inl rfl, fun W => method_any 1 W, fun W g hr => blob_l g _ W hr hbl⟩
      · rw [e]
        exact ⟨_, .inr (.inl rfl), fun W => method_any 2 W, fun W g hr => tree_any g _ W hr hbl⟩
      · rw [e]
        exact ⟨_, .inr (.inr (.inl rfl)), fun W => method_any 3 W, fun W g hr => commit_any g _ W hr hbl⟩
      · rw [e]
        exact ⟨_, .inr (.inr (.inr rfl)), fun W => method_any 4 W, fun W g hr => tag_any g _ W hr hbl⟩
    obtain ⟨fn, hfn, hm, hb⟩ := key
    cases hB : Rm.okB s.data.toList with
    | false =>
      have : Rm.dec s.data.toList = none := by unfold Rm.dec; rw [if_neg (by rw [hB]; simp)]
      rw [this]
      exact decode_A fn hfn s w (by omega) hR hm hb hB
    | true =>
      have : Rm.dec s.data.toList = some (Rm.bodyF (Rm.kindV s.data.toList) (Rm.bdV s.data.toList)).1 := by unfold Rm.dec; rw [if_pos ⟨by omega, hA, hB⟩]
      rw [this]
      exact decode_B fn hfn s w (by omega) hR hm hb hB

end Go.Proofs.YtipigedopmgemaaDoor
end

section
namespace Go.Proofs.YtipigedopmgemaaDoor
open Go.RowKit
set_option linter.unusedVariables false
set_option linter.unusedSimpArgs false

theorem rg_still {P : Program} {id : Nat} {Q : Exit → Act → World → Prop} {a : Act} {w : World} {l : List Oper} (hm : P.follows .mixedOrders = true) (hB : Region.lexB .any l.toArray = true)
    (h : wpStill P l.toArray w.drew (fun a' => Q .normal a' w.drew) l a) : (Code.region id l.toArray true).wp P Q a w := wp_region_still_lit hm hB h
/-- A value of several cells out of wherever, in a region that only reads. -/
theorem st_ld {ops : Array Oper} {w : World} {Q : Act → Prop} {a : Act} {o : Oper} {rest : List Oper} {cs : List Value} {ty : TypeId} {x : Operand} {p : Addr} {d : TypeDesc} (ho : o.op = .load ty x) (hx : a.eval x = .pointer (some p)) (hg : o.guard = none)
    (hc : ∀ j v, cs[j]? = some v → w.cell? (p.add j) = some v) (hu : Tryd.prog.underlying ty = some d) (hd : d.isRow = true) (hi : (Tryd.prog.info? ty).map (·.size) = some cs.length)
    (h : wpStill Tryd.prog ops w Q rest (a.put o.dst (.agg cs.toArray))) : wpStill Tryd.prog ops w Q (o :: rest) a := by
  refine wpStill_step fun K hK => ?_
  rw [if_pos (by simp [Region.wanted, hg])]
  unfold Oper.still execOp
  simp only [ho, hx, Instr.loadAt, Instr.sureAddr, Sem.run_bind, Sem.run_pure, Result.andThen_ok, run_loadVar_at w p ty cs d hc hu hd hi]
  exact ⟨rfl, hK _ h⟩

/-- Both objects lie in their boxes. -/
structure Two (w : World) (c1 c2 : Array Value) (W : World) : Prop where
  a : W.heap[w.heap.size]? = some (.cells c1 42)
  b : W.heap[w.heap.size + 1]? = some (.cells c2 42)
  below : Below w.heap.size w W
theorem Two.ca {w W : World} {c1 c2 : Array Value} (h : Two w c1 c2 W) {i : Nat} {v : Value} (hv : c1[i]? = some v) : W.cell? ⟨w.heap.size, i, none⟩ = some v := by rw [cell_of_row _ _ _ _ _ (0, 0) h.a]; exact hv
theorem Two.cb {w W : World} {c1 c2 : Array Value} (h : Two w c1 c2 W) {i : Nat} {v : Value} (hv : c2[i]? = some v) : W.cell? ⟨w.heap.size + 1, i, none⟩ = some v := by rw [cell_of_row _ _ _ _ _ (0, 0) h.b]; exact hv
theorem Two.drew {w W : World} {c1 c2 : Array Value} (h : Two w c1 c2 W) : Two w c1 c2 W.drew := ⟨h.a, h.b, h.below.drew⟩

end Go.Proofs.YtipigedopmgemaaDoor
end
