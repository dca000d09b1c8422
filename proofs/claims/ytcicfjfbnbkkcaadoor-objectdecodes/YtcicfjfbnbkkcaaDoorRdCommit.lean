/-
  WALKS OF LAYER 4: a commit's body read.
-/
import Derived.Test.YtcicfjfbnbkkcaaDoorRdTree
namespace Go.Proofs.YtcicfjfbnbkkcaaDoor
open Go.RowKit
set_option linter.unusedVariables false
set_option linter.unusedSimpArgs false

theorem infoId : (Tryd.prog.info? 25).map (fun i => (i.zero, i.size, i.bytes)) = some (some (.agg (idC zId).toArray), 32, 32) := by kernel_rfl
section
variable {ops : Array Oper} {rest : List Oper} {op : Oper} {a : Act} {w : World} {Q : Exit → Act → World → Prop} {k x y z u : Operand}
theorem bs_id {l : List UInt8} (ho : op.op = .buildSlice 26 1 #[(0, x)]) (hx : a.eval x = .agg (idC l).toArray) (hg : op.guard = none) (hl : l.length = 32)
    (h : wpList Tryd.prog ops Q rest (a.put op.dst (.slice (some ⟨w.heap.size, 0, none⟩) 1 1)) (w.alloc (.cells (idC l).toArray 25))) : wpList Tryd.prog ops Q (op :: rest) a w :=
  Great.wpList_buildSliceTo hg _ 25 1 _ ho w.heap.size rfl op.dst rfl Tryd.underlying26 _ (by simp only [List.map_toArray, List.map_cons, List.map_nil, hx]; exact builtS_id l hl) h
theorem bd_commit {l : List UInt8} {pv : Value} {ti : Nat} {te : ByteArray} {c : Array Value} (ho : op.op = .build 29 #[(0, k), (3, x), (4, y), (5, z), (6, u)]) (hk : a.eval k = .int .i64 3) (hx : a.eval x = .agg (idC l).toArray) (hy : a.eval y = pv) (hz : a.eval z = .int .u32 (ti : Int)) (hu : a.eval u = .string te) (hg : op.guard = none)
    (hb : Tryd.prog.built 29 [(0, .int .i64 3), (3, .agg (idC l).toArray), (4, pv), (5, .int .u32 (ti : Int)), (6, .string te)] = some c)
    (h : wpList Tryd.prog ops Q rest (a.put op.dst (.agg c)) w) : wpList Tryd.prog ops Q (op :: rest) a w :=
  wpList_build_as hg _ _ ho _ (by simp only [List.map_toArray, List.map_cons, List.map_nil, hk, hx, hy, hz, hu]; exact hb) h
end

theorem numV_le (m : Nat) (l : List UInt8) : Rm.numV m l ≤ m := by
  unfold Rm.numV; split
  · omega
  · split <;> omega

/-- Where commit stands: the reader, the parents so far, and the rest of the work. -/
structure CmW (w : World) (g : Nat) (z : Array Value) (gi : Nat) (tr : List UInt8) (N n : Nat) (R : List (List UInt8) × (List UInt8 × Bool)) (j : Nat) (l : List UInt8) (b : Bool) (acc : List (List UInt8)) (o : Value) (w1 : World) : Prop where
  rd : Rl w1 g (l, b)
  wk : Rm.parsF (n - j) b l acc = R
  own : w1.ownsRow (gi + 1) 25 32 o acc.length (acc.flatMap idC)
  box : w1.heap[w.heap.size]? = some (.cells z 29)
  idb : w1.heap[gi]? = some (.cells (idC tr).toArray 25)
  gr : w.grownBy w1 (some g)
  big : gi + 1 ≤ w1.heap.size
  few : acc.length ≤ j
  len : l.length ≤ N
  ids : ∀ p ∈ acc, p.length = 32

theorem num_8 (g : Nat) (l : List UInt8) (b : Bool) (w : World) (h : Rl w g (l, b)) (hl : l.length ≤ 1000000) :
    Calls Tryd.prog 55 #[.pointer (some ⟨g, 0, none⟩), .int .u64 8] w (Took g (.int .u64 (Rm.numV 8 l)) (Rm.numR 8 b l) w) := num_l g l b 8 w h hl
theorem num_t (g : Nat) (l : List UInt8) (b : Bool) (w : World) (h : Rl w g (l, b)) (hl : l.length ≤ 1000000) :
    Calls Tryd.prog 55 #[.pointer (some ⟨g, 0, none⟩), .int .u64 4294967295] w (Took g (.int .u64 (Rm.numV Rm.maxT l)) (Rm.numR Rm.maxT b l) w) := by
  have e : ((Rm.maxT : Nat) : Int) = 4294967295 := by unfold Rm.maxT; rfl
  have := num_l g l b Rm.maxT w h hl
  rw [e] at this
  exact this

theorem CmW.next {w : World} {g : Nat} {z : Array Value} {gi : Nat} {tr : List UInt8} {N n : Nat} {R : List (List UInt8) × (List UInt8 × Bool)} {j : Nat} {l : List UInt8} {b : Bool} {acc : List (List UInt8)} {o o' : Value} {w1 w2 : World} (T : CmW w g z gi tr N n R j l b acc o w1) (hj : j < n)
    (rd : Rl w2 g (Rm.idR b l)) (own : w2.ownsRow (gi + 1) 25 32 o' (acc.length + 1) (acc.flatMap idC ++ idC (Rm.idV l))) (box : w2.heap[w.heap.size]? = some (.cells z 29)) (idb : w2.heap[gi]? = some (.cells (idC tr).toArray 25)) (gr : w.grownBy w2 (some g)) (big : gi + 1 ≤ w2.heap.size) :
    CmW w g z gi tr N n R (j + 1) (Rm.idR b l).1 (Rm.idR b l).2 (acc ++ [Rm.idV l]) o' w2 := by
  have h1 := T.few
  have h2 := T.len
  have h3 := idR_len b l
  refine ⟨rd, ?_, ?_, box, idb, gr, big, by simp; omega, by omega, fun e he => ?_⟩
  · have hR := T.wk
    rw [show n - j = (n - (j + 1)) + 1 by omega] at hR
    exact hR
  · rw [List.flatMap_append, List.length_append]
    simpa using own
  · rcases List.mem_append.1 he with he | he
    · exact T.ids e he
    · rw [List.mem_singleton.1 he]; exact Rm.idV_len l

set_option maxHeartbeats 2000000 in
set_option maxRecDepth 100000 in
theorem commit_any (g : Nat) (t : List UInt8) (w : World) (h : Rl w g (t, false)) (hl : t.length ≤ 100000) :
    Calls Tryd.prog 30 #[.pointer (some ⟨g, 0, none⟩)] w (Bdy g (Rm.commitB t) w) := by
  have hz28 := (zero_of_info zero28).1
  have hz24 := (zero_of_info zero24).1
  obtain ⟨i0, hi, hz0, hz1, hz2⟩ := info_parts infoId
  have HS0 := Lib.hid noF.size
  generalize (obC noOb nilV nilV).toArray = z at hz28 HS0
  have hlt := (Array.getElem?_eq_some_iff.1 h).1
  have R1 := h.alloc (.cells z 29)
  have E1 := Lib.hid (heap_alloc_last w (.cells z 29))
  have G1 := World.grownBy_alloc w (.cells z 29) (some g)
  have hk1 := idR_len false t
  clear h
  go_enter Tryd.func30, Tryd.ntmps30
  go_wp2_with fail
  refine (id_l g t false _ R1 (by omega)).mono ?_
  rintro r w2 ⟨rfl, R2, g2⟩
  have E2 := Lib.hid (held_grown E1.out g2 (by omega))
  have G2 := grown_trans G1 g2
  have HID := Lib.hid (Rm.idV_len t)
  have HTR : Hid (Rm.idV t = Rm.idV t) := rfl
  have hB2 := g2.size
  simp at hB2
  clear R1 E1 G1 g2
  generalize hI : Rm.idV t = tr at HID ⊢
  have HI := Lib.hid hI
  clear hI HTR
  go_wp2_with (first
    | ((with_reducible apply st_id (hl := HID.out)); rfl; rfl; rfl; rfl; rfl))
  have R3 := R2.alloc (.cells (idC tr).toArray 25)
  have E3 := Lib.hid (held_alloc (o := .cells (idC tr).toArray 25) E2.out)
  have I3 := Lib.hid (heap_alloc_last w2 (.cells (idC tr).toArray 25))
  have G3 := grown_trans G2 (World.grownBy_alloc w2 (.cells (idC tr).toArray 25) (some g))
  clear R2 E2 G2
  refine (num_8 g (Rm.idR false t).1 (Rm.idR false t).2 _ R3 (by omega)).mono ?_
  rintro r w4 ⟨rfl, R4, g4⟩
  have E4 := held_grown E3.out g4 (by omega)
  have I4 := held_grown I3.out g4 (by omega)
  have G4 := grown_trans G3 g4
  have B4 : w2.heap.size + 1 ≤ w4.heap.size := by have := g4.size; simpa using this
  have hn := numV_le 8 (Rm.idR false t).1
  have hk2 := numR_len 8 (Rm.idR false t).2 (Rm.idR false t).1
  have T0 : CmW w g z w2.heap.size tr t.length (Rm.cmN t) (Rm.cmP t) 0 (Rm.cmS t).1 (Rm.cmS t).2 [] (.slice none 0 0) w4 :=
    ⟨R4, rfl, World.ownsRow_nil _ _ _ _, E4, I4, G4, B4, Nat.le_refl _, Nat.le_trans hk2 hk1, fun e he => by cases he⟩
  clear R3 E3 I3 G3 R4 g4 E4 I4 G4 hk1 hk2
  have HQ : Hid (Rm.commitB t = ({ noOb with kind := 3, tree := Rm.idV t, pars := (Rm.cmP t).1, time := Rm.cmT t, text := ⟨(Rm.cmX t).toArray⟩ }, Rm.textR (Rm.cmU t).2 (Rm.cmU t).1)) := rfl
  have HT1 : Hid (Rm.cmT t = Rm.numV Rm.maxT (Rm.cmP t).2.1) := rfl
  have HU1 : Hid (Rm.cmU t = Rm.numR Rm.maxT (Rm.cmP t).2.2 (Rm.cmP t).2.1) := rfl
  have HX1 : Hid (Rm.cmX t = Rm.textV (Rm.cmU t).1) := rfl
  generalize Rm.cmX t = X at HQ HX1
  generalize Rm.cmU t = U at HQ HX1 HU1
  generalize Rm.cmT t = TT at HQ HT1
  generalize Rm.cmP t = R at HQ HT1 HU1 T0
  generalize Rm.cmS t = S0 at T0
  have hn' : Rm.cmN t ≤ 8 := hn
  rw [show Rm.numV 8 (Rm.idR false t).1 = Rm.cmN t from rfl]
  generalize Rm.cmN t = n at T0 hn' ⊢
  clear hn
  go_wp2_with fail
  go_loopw [5, 13] (fun o i wr => ∃ (j : Nat) (l : List UInt8) (b : Bool) (acc : List (List UInt8)), i = .int .u64 j ∧ j ≤ n ∧ CmW w g z w2.heap.size tr t.length n R j l b acc o wr) (fun _ i _ => n - (intOf i).toNat)
  case atStart => exact ⟨0, _, _, [], rfl, Nat.zero_le _, T0⟩
  case round =>
    obtain ⟨j, l, b, acc, rfl, hj, T⟩ := hrel
    clear T0
    have hfew := T.few
    have hbig := T.big
    have hlen := T.len
    have R1 := T.rd
    have O1 := T.own
    have E1 := Lib.hid T.box
    have I1 := Lib.hid T.idb
    have G1 := T.gr
    have HT := Lib.hid T
    by_cases hjn : j < n
    · clear T
      go_wp2_with fail
      refine (id_l g l b _ R1 (by omega)).mono ?_
      rintro r w5 ⟨rfl, R5, g5⟩
      have E5 := Lib.hid (held_grown E1.out g5 (by omega))
      have I5 := Lib.hid (held_grown I1.out g5 (by omega))
      have O5 := own_keep O1 g5 (by omega)
      have G5 := grown_trans G1 g5
      have B5 := Nat.le_trans hbig g5.size
      clear R1 E1 I1 O1 G1 g5 hbig
      have HID2 := Lib.hid (Rm.idV_len l)
      have HIV : Hid (Rm.idV l = Rm.idV l) := rfl
      generalize hII : Rm.idV l = idl at HID2 ⊢
      have HII := Lib.hid hII
      clear hII HIV
      go_wp2_with (first
        | ((with_reducible apply bs_id (hl := HID2.out)); rfl; rfl; rfl)
        | (at_builtin; refine wpList_append_own _ rfl _ _ 26 rfl (w2.heap.size + 1) 25 i0 (.agg (idC zId).toArray) 32 32 Tryd.underlying26 hi hz0 hz1 hz2 (by decide) (by decide) _ _ _ rfl (World.ownsRow.alloc O5 _) ⟨_, 0, none⟩ 1 1 (idC idl) rfl ?a1 ?a2 ?a3 ?a4 ?a5 ?a6 ?_))
      case a1 => rw [idC_length]; exact HID2.out
      case a2 => exact news_at (heap_alloc_last _ _)
      case a3 => exact idC_one _
      case a4 => unfold maxLen; first | omega | (simp; omega)
      case a5 => first | omega | (simp; omega)
      case a6 => simp; omega
      intro v' w6 hown' hgrow _
      have hlow := O5.lt
      have R6 : Rl w6 g (Rm.idR b l) := held_own (R5.alloc _) (World.ownsRow.alloc O5 _) hgrow (by omega)
      have E6 := held_own (held_alloc E5.out) (World.ownsRow.alloc O5 _) hgrow (by omega)
      have I6 := held_own (held_alloc I5.out) (World.ownsRow.alloc O5 _) hgrow (by omega)
      have G6 : w.grownBy w6 (some g) := grown_own (grown_trans G5 (World.grownBy_alloc _ _ _)) hgrow (fun k hk => by have := (hlow k hk).1; omega)
      have B6 : w2.heap.size + 1 ≤ w6.heap.size := by have := hgrow.size; simp at this; omega
      rw [← HII.out] at hown'
      have T6 := HT.out.next hjn R6 hown' E6 I6 G6 B6
      clear hown' hgrow hlow R6 E6 I6 G6 B6 O5 R5 G5 HT
      go_wp2
      exact ⟨⟨j + 1, _, _, _, by go_num, by omega, T6⟩, by simp [intOf]; omega⟩
    · obtain rfl : j = n := by omega
      have hR := T.wk
      rw [Nat.sub_self] at hR
      have hR' : (acc, l, b) = R := hR
      subst hR'
      clear T hR
      go_wp2_with fail
      refine (num_t g l b _ R1 (by omega)).mono ?_
      rintro r w5 ⟨rfl, R5, g5⟩
      have E5 := Lib.hid (held_grown E1.out g5 (by omega))
      have I5 := Lib.hid (held_grown I1.out g5 (by omega))
      have O5 := own_keep O1 g5 (by omega)
      have G5 := grown_trans G1 g5
      have B5 := Nat.le_trans hbig g5.size
      have hk3 := numR_len Rm.maxT b l
      have htt := numV_le Rm.maxT l
      clear R1 E1 I1 O1 G1 g5 hbig
      rw [show Rm.numV Rm.maxT l = TT from HT1.out.symm]
      rw [show Rm.numV Rm.maxT l = TT from HT1.out.symm] at htt
      have R5' : Rl w5 g (U.1, U.2) := by rw [HU1.out]; exact R5
      have hk3' : U.1.length ≤ l.length := by rw [HU1.out]; exact hk3
      clear R5 hk3
      have htt' : TT < 4294967296 := by unfold Rm.maxT at htt; omega
      clear htt
      go_wp2_with fail
      refine (text_l g U.1 U.2 _ R5' (by omega)).mono ?_
      rintro r w6 ⟨rfl, R6, g6⟩
      have E6 := Lib.hid (held_grown E5.out g6 (by omega))
      have I6 := Lib.hid (id_rid (held_grown I5.out g6 (by omega)))
      have O6 := own_keep O5 g6 (by omega)
      have G6 := grown_trans G5 g6
      have B6 := Nat.le_trans B5 g6.size
      clear R5' E5 I5 O5 G5 g6 B5
      rw [← HX1.out]
      obtain ⟨pb, cap, rfl⟩ := own_form O6
      have hF := obC_F { noOb with kind := 3, tree := tr, pars := acc, time := TT, text := ⟨X.toArray⟩ } nilV (.slice pb acc.length cap) HID.out rfl rfl rfl
      have HS := Lib.hid hF.size
      have HO := Lib.hid hF.one
      have HFF := Lib.hid hF
      have HB := Lib.hid (built_commit tr HID.out (.slice pb acc.length cap) pb acc.length cap rfl acc TT ⟨X.toArray⟩)
      generalize (obC { noOb with kind := 3, tree := tr, pars := acc, time := TT, text := ⟨X.toArray⟩ } nilV (.slice pb acc.length cap)).toArray = c at HS HO HB HFF
      clear hF
      generalize (⟨X.toArray⟩ : ByteArray) = xb at HFF HB HQ ⊢
      go_wp2_with (first
        | ((with_reducible refine ld_idm (x := .tmp 3) ?_ ?_ ?_ I6.out HID.out ?_); rfl; rfl; rfl)
        | ((with_reducible refine bd_commit (k := .const (.int .i64 3)) (x := .tmp 25) (y := .tmp 26) (z := .tmp 28) (u := .tmp 29) (ti := TT) ?_ ?_ ?_ ?_ ?_ ?_ ?_ HB.out ?_); rfl; rfl; rfl; rfl; rfl; rfl; rfl)
        | ((with_reducible refine st_obr (x := .tmp 2) (y := .tmp 30) ?_ ?_ ?_ ?_ E6.out HS0.out HS.out HO.out ?_); rfl; rfl; rfl; rfl))
      refine bodyPost_ret (results_cell_row (fn := Tryd.f30) (p := 2) (by rfl) _ _ w.heap.size _ _ _ _ (by rfl) (setRow_heap _ _ _ _ _ _ E6.out) Tryd.underlying29 rfl (obsize HS.out)) rfl ⟨c, none, pb, 0, cap, rfl, ?_, ?_, grown_setRow G6 _ (Nat.le_refl _), fun a ha => by rcases ha with ha | ha; cases ha; exact own_new O6 (by omega) a ha⟩
      · rw [HQ.out, HI.out]
        have hown : (w6.setRow w.heap.size c).ownsRow (w2.heap.size + 1) 25 32 (.slice pb acc.length cap) acc.length (acc.flatMap idC) :=
          own_keep O6 (b := w.heap.size) ⟨rfl, rfl, rfl, by rw [setRow_size]; exact Nat.le_refl _, fun k _ hk => setRow_other _ _ _ _ (by simpa using hk)⟩ (by omega)
        exact ⟨HFF.out, RowsAt.nil _ _, own_rows idC 32 hown (fun p hp => by rw [idC_length, HT.out.ids p hp]), (fun e he => by cases he), (fun e he => by cases he), HT.out.ids, (show (0 : Nat) ≤ maxLen from Nat.zero_le _), (show acc.length ≤ maxLen by unfold maxLen; omega), (show (0 : Nat) ≤ maxLen from Nat.zero_le _), htt'⟩
      · rw [HQ.out]
        exact R6.setRow _ (by omega)

end Go.Proofs.YtcicfjfbnbkkcaaDoor
