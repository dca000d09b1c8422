/-
  WALKS OF LAYER 4: a tree's body read.
-/
import Derived.Test.YtcicfjfbnbkkcaaDoorRdTag
namespace Go.Proofs.YtcicfjfbnbkkcaaDoor
open Go.RowKit
set_option linter.unusedVariables false
set_option linter.unusedSimpArgs false

theorem flat_at {α : Type} (f : α → List Value) (n : Nat) (ls : List α) (h : ∀ l ∈ ls, (f l).length = n) : ∀ (i : Nat) (l : α), ls[i]? = some l → ∀ (j : Nat) (x : Value), (f l)[j]? = some x → (ls.flatMap f)[i * n + j]? = some x := by
  induction ls with
  | nil => intro i l hi; simp at hi
  | cons a r ih =>
    intro i l hi j x hx
    have ha := h a (by simp)
    rw [List.flatMap_cons]
    cases i with
    | zero =>
      simp at hi; subst hi
      have hj : j < n := by
        have := (List.getElem?_eq_some_iff.1 hx).1; omega
      rw [Nat.zero_mul, Nat.zero_add, List.getElem?_append_left (by omega)]
      exact hx
    | succ i =>
      simp at hi
      have e : (i + 1) * n + j - (f a).length = i * n + j := by rw [ha, Nat.add_mul]; omega
      rw [List.getElem?_append_right (by rw [Nat.add_mul]; omega), e]
      exact ih (fun l hl => h l (by simp [hl])) i l hi j x hx
theorem own_rows {α : Type} (f : α → List Value) (n : Nat) {w : World} {base e : Nat} {v : Value} {ls : List α} (h : w.ownsRow base e n v ls.length (ls.flatMap f)) (hl : ∀ l ∈ ls, (f l).length = n) : RowsAt w v n (ls.map f) := by
  refine ⟨?_⟩
  rcases h.2 with ⟨rfl, h0⟩ | ⟨g, cap, cur, rfl, hg, hb⟩
  · exact .inl ⟨rfl, by simpa using h0⟩
  · refine .inr ⟨⟨g, 0, none⟩, cap, by simp, fun i cs hi => ?_⟩
    obtain ⟨l, hl1, rfl⟩ : ∃ l, ls[i]? = some l ∧ cs = f l := by
      rw [List.getElem?_map] at hi
      cases hq : ls[i]? with
      | none => rw [hq] at hi; simp at hi
      | some l => rw [hq] at hi; simp at hi; exact ⟨l, rfl, hi.symm⟩
    refine ⟨hl l (List.mem_of_getElem? hl1), fun j x hx => ?_⟩
    have := World.ownsRow.cells h (g := g) rfl (i * n + j) x (flat_at f n ls hl i l hl1 j x hx)
    rw [Addr.add_mid] at this
    rw [Addr.add_mid, Addr.add_mid]
    simpa [Nat.add_assoc] using this
theorem own_form {w : World} {base e m n : Nat} {v : Value} {xs : List Value} (h : w.ownsRow base e m v n xs) : ∃ p cap, v = .slice p n cap := by
  rcases h.2 with ⟨rfl, rfl⟩ | ⟨g, cap, cur, rfl, _⟩
  · exact ⟨_, _, rfl⟩
  · exact ⟨_, _, rfl⟩
theorem own_keep {w w' : World} {base e m n b : Nat} {v : Value} {xs : List Value} (h : w.ownsRow base e m v n xs) (hg : w.grownBy w' (some b)) (hb : b < base) : w'.ownsRow base e m v n xs := by
  refine h.kept hg ?_
  cases hv : v.ownBlock with
  | none => exact .inl rfl
  | some k => exact .inr (fun e => by have := (h.lt k hv).1; cases e; omega)
theorem held_own {w w' : World} {base e m n k : Nat} {v : Value} {xs : List Value} {o : Obj} (h : w.heap[k]? = some o) (ho : w.ownsRow base e m v n xs) (hg : w.grownBy w' v.ownBlock) (hb : k < base) : w'.heap[k]? = some o :=
  (hg.block k (Array.getElem?_eq_some_iff.1 h).1 (fun e => by have := (ho.lt k e.symm).1; omega)).trans h
theorem grown_own {w w1 w2 : World} {g : Nat} {row : Option Nat} (h : w.grownBy w1 (some g)) (hg : w1.grownBy w2 row) (hr : ∀ k, row = some k → w.heap.size ≤ k) : w.grownBy w2 (some g) :=
  ⟨hg.os.trans h.os, hg.tape.trans h.tape, hg.output.trans h.output, Nat.le_trans h.size hg.size, fun k hk hne => (hg.block k (Nat.lt_of_lt_of_le hk h.size) (fun e => by have := hr k e.symm; omega)).trans (h.block k hk hne)⟩

theorem infoEn : (Tryd.prog.info? 52).map (fun i => (i.zero, i.size, i.bytes)) = some (some (.agg (enC ⟨⟨#[]⟩, 0, zId⟩).toArray), 34, 56) := by kernel_rfl
section
variable {ops : Array Oper} {rest : List Oper} {op : Oper} {a : Act} {w : World} {Q : Exit → Act → World → Prop} {x y z : Operand}
theorem bd_en {n : ByteArray} {k : Int} {l : List UInt8} (ho : op.op = .build 52 #[(0, x), (1, y), (2, z)]) (hx : a.eval x = .string n) (hy : a.eval y = .int .i64 k) (hz : a.eval z = .agg (idC l).toArray) (hg : op.guard = none) (hl : l.length = 32)
    (h : wpList Tryd.prog ops Q rest (a.put op.dst (.agg (enC ⟨n, k, l⟩).toArray)) w) : wpList Tryd.prog ops Q (op :: rest) a w :=
  wpList_build_as hg _ _ ho _ (by simp only [List.map_toArray, List.map_cons, List.map_nil, hx, hy, hz]; exact built_en n k l hl) h
theorem bs_en {n : ByteArray} {k : Int} {l : List UInt8} (ho : op.op = .buildSlice 23 1 #[(0, x)]) (hx : a.eval x = .agg (enC ⟨n, k, l⟩).toArray) (hg : op.guard = none) (hl : l.length = 32)
    (h : wpList Tryd.prog ops Q rest (a.put op.dst (.slice (some ⟨w.heap.size, 0, none⟩) 1 1)) (w.alloc (.cells (enC ⟨n, k, l⟩).toArray 52))) : wpList Tryd.prog ops Q (op :: rest) a w :=
  Great.wpList_buildSliceTo hg _ 52 1 _ ho w.heap.size rfl op.dst rfl Tryd.underlying23 _ (by simp only [List.map_toArray, List.map_cons, List.map_nil, hx]; exact builtS_en n k l hl) h
theorem bd_tree {ev : Value} {c : Array Value} (ho : op.op = .build 29 #[(0, x), (2, y)]) (hx : a.eval x = .int .i64 2) (hy : a.eval y = ev) (hg : op.guard = none) (hb : Tryd.prog.built 29 [(0, .int .i64 2), (2, ev)] = some c)
    (h : wpList Tryd.prog ops Q rest (a.put op.dst (.agg c)) w) : wpList Tryd.prog ops Q (op :: rest) a w :=
  wpList_build_as hg _ _ ho _ (by simp only [List.map_toArray, List.map_cons, List.map_nil, hx, hy]; exact hb) h
end
theorem news_at {w : World} {g : Nat} {l : List Value} {t : TypeId} (h : w.heap[g]? = some (.cells l.toArray t)) : ∀ j u, l[j]? = some u → w.cell? ((⟨g, 0, none⟩ : Addr).add j) = some u := fun j u hu => by
  rw [Addr.add_mid, Nat.zero_add, cell_of_row _ _ _ _ t (0, 0) h]
  simpa using hu
/-- How many bytes a reader has left. -/
def leftN (w : World) (g : Nat) : Nat := match w.cell? ⟨g, 0, none⟩ with
  | some (.string s) => s.size
  | _ => 0
theorem left_of {w : World} {g : Nat} {p : List UInt8 × Bool} (h : Rl w g p) : leftN w g = p.1.length := by
  unfold leftN
  rw [show w.cell? ⟨g, 0, none⟩ = some (.string ⟨p.1.toArray⟩) from Rd.c0 h]
  exact Rm.mk_size p.1

/-- Where tree stands: the reader, the entries so far, and the rest of the work. -/
structure TrW (w : World) (g : Nat) (z : Array Value) (N : Nat) (R : List En × Bool) (l : List UInt8) (b : Bool) (acc : List En) (o : Value) (w1 : World) : Prop where
  rd : Rl w1 g (l, b)
  wk : ∃ k, l.length ≤ k ∧ Rm.treeF k b l acc = R
  own : w1.ownsRow (w.heap.size + 1) 52 34 o acc.length (acc.flatMap enC)
  box : w1.heap[w.heap.size]? = some (.cells z 29)
  gr : w.grownBy w1 (some g)
  big : w.heap.size + 1 ≤ w1.heap.size
  few : acc.length + l.length ≤ N
  ids : ∀ e ∈ acc, e.id.length = 32 ∧ e.name.size ≤ N

theorem TrW.next {w : World} {g : Nat} {z : Array Value} {N : Nat} {R : List En × Bool} {l : List UInt8} {b : Bool} {acc : List En} {o o' : Value} {w1 w2 : World} (T : TrW w g z N R l b acc o w1) (hl : l ≠ [])
    (rd : Rl w2 g (Rm.oneEn b l).2) (own : w2.ownsRow (w.heap.size + 1) 52 34 o' (acc.length + 1) (acc.flatMap enC ++ enC (Rm.oneEn b l).1)) (box : w2.heap[w.heap.size]? = some (.cells z 29)) (gr : w.grownBy w2 (some g)) (big : w.heap.size + 1 ≤ w2.heap.size) :
    TrW w g z N R (Rm.oneEn b l).2.1 (Rm.oneEn b l).2.2 (acc ++ [(Rm.oneEn b l).1]) o' w2 := by
  have h1 := Rm.one_len b l hl
  have h2 := T.few
  refine ⟨rd, ?_, ?_, box, gr, big, by simp; omega, fun e he => ?_⟩
  · obtain ⟨k, hk, hR⟩ := T.wk
    have hp := List.length_pos_iff.2 hl
    obtain ⟨k, rfl⟩ : ∃ k', k = k' + 1 := ⟨k - 1, by omega⟩
    rw [Rm.treeF_step hl] at hR
    exact ⟨k, by omega, hR⟩
  · rw [List.flatMap_append, List.length_append]
    simpa using own
  · rcases List.mem_append.1 he with he | he
    · exact T.ids e he
    · rw [List.mem_singleton.1 he]
      refine ⟨Rm.idV_len _, ?_⟩
      show (ByteArray.mk (Rm.textV (Rm.kindR b l).1).toArray).size ≤ N
      rw [Rm.mk_size]
      have := textV_len (Rm.kindR b l).1
      have := kindR_len b l
      omega

set_option maxHeartbeats 2000000 in
set_option maxRecDepth 100000 in
theorem tree_any (g : Nat) (t : List UInt8) (w : World) (h : Rl w g (t, false)) (hl : t.length ≤ 100000) :
    Calls Tryd.prog 29 #[.pointer (some ⟨g, 0, none⟩)] w (Bdy g (Rm.treeB t) w) := by
  have hz28 := (zero_of_info zero28).1
  have hz24 := (zero_of_info zero24).1
  obtain ⟨i0, hi, hz0, hz1, hz2⟩ := info_parts infoEn
  have HS0 := Lib.hid noF.size
  generalize (obC noOb nilV nilV).toArray = z at hz28 HS0
  have hlt := (Array.getElem?_eq_some_iff.1 h).1
  have T0 : TrW w g z t.length (Rm.treeF t.length false t []) t false [] (.slice none 0 0) (w.alloc (.cells z 29)) :=
    ⟨h.alloc _, ⟨t.length, Nat.le_refl _, rfl⟩, World.ownsRow_nil _ _ _ _, heap_alloc_last _ _, World.grownBy_alloc _ _ _, by simp, by simp, fun e he => by cases he⟩
  have HQ : Hid (Rm.treeB t = ({ noOb with kind := 2, ents := (Rm.treeF t.length false t []).1 }, [], (Rm.treeF t.length false t []).2)) := rfl
  generalize Rm.treeB t = Q at HQ ⊢
  generalize Rm.treeF t.length false t [] = R at T0 HQ
  generalize hN : t.length = N at *
  clear h
  go_enter Tryd.func29, Tryd.ntmps29
  go_wp2_with fail
  go_loopw [3] (fun o wr => ∃ (l : List UInt8) (b : Bool) (acc : List En), TrW w g z N R l b acc o wr) (fun _ wr => leftN wr g)
  case atStart => exact ⟨t, false, [], T0⟩
  case round =>
    obtain ⟨l, b, acc, T⟩ := hrel
    clear T0
    have c0 : wr.cell? ⟨g, 0, none⟩ = some (.string ⟨l.toArray⟩) := Rd.c0 T.rd
    have hfew := T.few
    have hbig := T.big
    by_cases hl0 : l = []
    · subst hl0
      obtain ⟨k, _, hR⟩ := T.wk
      rw [Rm.treeF_nil] at hR
      subst hR
      obtain ⟨pa, cap, rfl⟩ := own_form T.own
      have hev : (Value.slice pa acc.length cap).oneCell' = true := rfl
      have hF := obC_F { noOb with kind := 2, ents := acc } (.slice pa acc.length cap) nilV rfl rfl rfl rfl
      have HS := Lib.hid hF.size
      have HO := Lib.hid hF.one
      have HFF := Lib.hid hF
      have HB := Lib.hid (built_tree (.slice pa acc.length cap) pa acc.length cap rfl acc)
      generalize (obC { noOb with kind := 2, ents := acc } (.slice pa acc.length cap) nilV).toArray = c at HS HO HB HFF
      have EB := Lib.hid T.box
      have HT := Lib.hid T
      clear T hF hev
      go_wp2_with (first
        | ((with_reducible refine bd_tree (x := .const (.int .i64 2)) (y := .tmp 25) (ev := .slice pa acc.length cap) ?_ ?_ ?_ ?_ HB.out ?_); rfl; rfl; rfl; rfl)
        | ((with_reducible refine st_obr (x := .tmp 2) (y := .tmp 26) ?_ ?_ ?_ ?_ EB.out HS0.out HS.out HO.out ?_); rfl; rfl; rfl; rfl))
      refine bodyPost_ret (results_cell_row (fn := Tryd.f29) (p := 2) (by rfl) _ _ w.heap.size _ _ _ _ (by rfl) (setRow_heap _ _ _ _ _ _ EB.out) Tryd.underlying29 rfl (obsize HS.out)) rfl ⟨c, pa, none, cap, 0, rfl, ?_, ?_, grown_setRow HT.out.gr _ (Nat.le_refl _), fun a ha => by rcases ha with ha | ha; exact own_new HT.out.own (Nat.le_succ _) a ha; cases ha⟩
      · rw [HQ.out]
        have hown : (wr.setRow w.heap.size c).ownsRow (w.heap.size + 1) 52 34 (.slice pa acc.length cap) acc.length (acc.flatMap enC) :=
          own_keep HT.out.own (b := w.heap.size) ⟨rfl, rfl, rfl, by rw [setRow_size]; exact Nat.le_refl _, fun k _ hk => setRow_other _ _ _ _ (by simpa using hk)⟩ (by omega)
        exact ⟨HFF.out, own_rows enC 34 hown (fun e he => by rw [enC_length, (HT.out.ids e he).1]), RowsAt.nil _ _, fun e he => (HT.out.ids e he).1, fun e he => by have := (HT.out.ids e he).2; unfold maxLen; omega, (fun e he => by cases he), (show acc.length ≤ maxLen by unfold maxLen; omega), Nat.zero_le _, (show (0 : Nat) ≤ maxLen from Nat.zero_le _), (show (0 : Nat) < 4294967296 by decide)⟩
      · rw [HQ.out]
        exact HT.out.rd.setRow _ (by omega)
    · have hsz : (ByteArray.mk l.toArray).size = l.length := Rm.mk_size l
      have hsl : (ByteArray.mk l.toArray).toList = l := by rw [ByteArray.toList_eq]
      have hne : (!(ByteArray.mk l.toArray).toList.isEmpty) = true := by rw [hsl]; simpa using hl0
      have hne2 : ¬ (ByteArray.mk l.toArray) = ByteArray.empty := fun e => hl0 (by have := congrArg ByteArray.toList e; rw [hsl] at this; simpa using this)
      have hk1 := kindR_len b l
      have hk2 := textR_len (Rm.kindR b l).2 (Rm.kindR b l).1
      have R1 := T.rd
      have O1 := T.own
      have E1 := Lib.hid T.box
      have G1 := T.gr
      have HT := Lib.hid T
      clear T
      generalize ByteArray.mk l.toArray = sl at c0 hne hne2 hsz hsl
      clear hsl hsz
      go_wp2_with fail
      refine (kind_l g l b _ R1 (by omega)).mono ?_
      rintro r w2 ⟨rfl, R2, g2⟩
      have E2 := Lib.hid (held_grown E1.out g2 (by omega))
      have O2 := own_keep O1 g2 (by omega)
      have G2 := grown_trans G1 g2
      have B2 := Nat.le_trans hbig g2.size
      clear R1 E1 O1 G1 g2 c0 hbig
      go_wp2_with fail
      refine (text_l g (Rm.kindR b l).1 (Rm.kindR b l).2 _ R2 (by omega)).mono ?_
      rintro r w3 ⟨rfl, R3, g3⟩
      have E3 := Lib.hid (held_grown E2.out g3 (by omega))
      have O3 := own_keep O2 g3 (by omega)
      have G3 := grown_trans G2 g3
      have B3 := Nat.le_trans B2 g3.size
      clear R2 E2 O2 G2 g3 B2
      go_wp2_with fail
      refine (id_l g (Rm.textR (Rm.kindR b l).2 (Rm.kindR b l).1).1 (Rm.textR (Rm.kindR b l).2 (Rm.kindR b l).1).2 _ R3 (by omega)).mono ?_
      rintro r w4 ⟨rfl, R4, g4⟩
      have E4 := Lib.hid (held_grown E3.out g4 (by omega))
      have O4 := own_keep O3 g4 (by omega)
      have G4 := grown_trans G3 g4
      have B4 := Nat.le_trans B3 g4.size
      clear R3 E3 O3 G3 g4 B3
      have HEN : Hid ((Rm.oneEn b l).1 = ⟨⟨(Rm.textV (Rm.kindR b l).1).toArray⟩, Rm.kindV l, Rm.idV (Rm.textR (Rm.kindR b l).2 (Rm.kindR b l).1).1⟩) := rfl
      have HID := Lib.hid (Rm.idV_len (Rm.textR (Rm.kindR b l).2 (Rm.kindR b l).1).1)
      generalize Rm.idV (Rm.textR (Rm.kindR b l).2 (Rm.kindR b l).1).1 = idl at HEN HID ⊢
      generalize Rm.kindV l = kk at HEN ⊢
      generalize (⟨(Rm.textV (Rm.kindR b l).1).toArray⟩ : ByteArray) = nm at HEN ⊢
      have I5 := Lib.hid (id_rid (heap_alloc_last w4 (.cells (idC idl).toArray 25)))
      go_wp2_with (first
        | ((with_reducible apply st_id (hl := HID.out)); rfl; rfl; rfl; rfl; rfl)
        | ((with_reducible refine ld_idm (x := .tmp 6) ?_ ?_ ?_ I5.out HID.out ?_); rfl; rfl; rfl)
        | ((with_reducible apply bd_en (hl := HID.out)); rfl; rfl; rfl; rfl; rfl)
        | ((with_reducible apply bs_en (hl := HID.out)); rfl; rfl; rfl)
        | (at_builtin; refine wpList_append_own _ rfl _ _ 23 rfl (w.heap.size + 1) 52 i0 (.agg (enC ⟨⟨#[]⟩, 0, zId⟩).toArray) 34 56 Tryd.underlying23 hi hz0 hz1 hz2 (by decide) (by decide) _ _ _ rfl ((World.ownsRow.alloc O4 _).alloc _) ⟨_, 0, none⟩ 1 1 (enC ⟨nm, kk, idl⟩) rfl ?a1 ?a2 ?a3 ?a4 ?a5 ?a6 ?_))
      case a1 => rw [enC_length]; exact congrArg (· + 2) HID.out
      case a2 => exact news_at (heap_alloc_last _ _)
      case a3 => exact enC_one _
      case a4 => unfold maxLen; first | omega | (simp; omega)
      case a5 => first | omega | (simp; omega)
      case a6 => simp; omega
      intro v' w5 hown' hgrow _
      have hlow := O4.lt
      have R5 : Rl w5 g (Rm.oneEn b l).2 := held_own ((R4.alloc _).alloc _) ((World.ownsRow.alloc O4 _).alloc _) hgrow (by omega)
      have E5 := held_own (held_alloc (held_alloc E4.out)) ((World.ownsRow.alloc O4 _).alloc _) hgrow (by omega)
      have G5 : w.grownBy w5 (some g) := grown_own (grown_trans (grown_trans G4 (World.grownBy_alloc _ _ _)) (World.grownBy_alloc _ _ _)) hgrow (fun k hk => by have := (hlow k hk).1; omega)
      have B5 : w.heap.size + 1 ≤ w5.heap.size := by have := hgrow.size; simp at this; omega
      rw [← HEN.out] at hown'
      have T5 := HT.out.next hl0 R5 hown' E5 G5 B5
      have hmeas : leftN w5 g < leftN wr g := by
        rw [left_of R5, left_of HT.out.rd]; exact Rm.one_len b l hl0
      have HM := Lib.hid hmeas
      clear hown' hgrow hlow R5 E5 G5 B5 hmeas O4 R4
      go_wp2
      go_roundw
      case rel => exact ⟨_, _, _, T5⟩
      case measure => exact HM.out

end Go.Proofs.YtcicfjfbnbkkcaaDoor
