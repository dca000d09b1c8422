/-
  WALKS OF LAYER 12: the document's Reach (what Sorted does is handed in).
-/
import Derived.Test.YtfckfjndnhjpoaaGreatDoorQv
import Derived.Test.YtfckfjndnhjpoaaGreatDoorQa
set_option linter.unusedVariables false
set_option linter.unusedSimpArgs false
set_option maxHeartbeats 8000000
set_option maxRecDepth 100000
namespace Go.Proofs.YtfckfjndnhjpoaaGreatDoor
open Go.RowKit
def SortedP (I : List (List UInt8)) (w : World) (r : Ending) (w' : World) : Prop :=
 ∃ v' I', r = .returned v' ∧ IdsAt w' v' I' ∧ Gr.Up I' ∧ (∀ x, x ∈ I' ↔ x ∈ I) ∧ Below w.heap.size w w'
theorem Gr.nx_len {B kk : Nat} {w : World} {v : Value} {L : List St.It} (h : R.DSt B kk w v L) (C : List (List UInt8)) (id : List UInt8) : (Gr.nx L C id).length ≤ 64 ∧ (∀ x ∈ Gr.nx L C id, x.length = 32) ∧ (St.has L id = false → Gr.nx L C id = []) := by
 obtain ⟨h1, h2, h3⟩ := R.obz_few h id
 have hl := Gr.few h1 h2
 have hi := Gr.links_ids h3
 have hm : ∀ x ∈ (linksL (Gr.obz L id)).map (·.1), x.length = 32 := fun x hx => by
  obtain ⟨l, hl, rfl⟩ := List.mem_map.1 hx
  exact hi l hl
 refine ⟨?_, ?_, fun hh => by unfold Gr.nx; rw [Gr.ob_none hh]⟩
 ·
  rw [Gr.nx_eq]
  split
  · simp; omega
  · simpa using hl
 ·
  rw [Gr.nx_eq]
  split
  ·
   intro x hx
   obtain ⟨l, hl, rfl⟩ := List.mem_map.1 hx
   exact hi l (List.mem_of_mem_take hl)
  · exact hm
theorem flat_le {N : Gr.Id → List Gr.Id} (h : ∀ x, (N x).length ≤ 64) : ∀ (L : List Gr.Id), (L.flatMap N).length ≤ 64 * L.length
 | [] => by simp
 | a :: r => by
   have := flat_le h r
   have := h a
   simp only [List.flatMap_cons, List.length_append, List.length_cons]
   omega
theorem Gr.alen {N : Gr.Id → List Gr.Id} {L : List St.It} {F A : List Gr.Id} {i : Nat} (hb : Gr.Bfs N F A i) (h64 : ∀ x, (N x).length ≤ 64) (hn : ∀ x, St.has L x = false → N x = []) : A.length ≤ F.length + 64 * L.length := by
 have h1 := Gr.nodup_len (A := A) (B := F ++ (idsOf L).flatMap N) hb.nd (fun x hx => by
  rw [List.mem_append]
  cases hb.sound x hx with
  | base h => exact .inl h
  | @step y _ h hy =>
    refine .inr (List.mem_flatMap.2 ⟨y, ?_, hy⟩)
    cases hh : St.has L y with
    | false => rw [hn y hh] at hy; cases hy
    | true =>
      unfold St.has at hh
      rw [List.any_eq_true] at hh
      obtain ⟨r, hr, he⟩ := hh
      exact List.mem_map.2 ⟨r, hr, by simpa using he⟩)
 have h2 := flat_le h64 (idsOf L)
 have h3 : (idsOf L).length = L.length := by simp [idsOf]
 rw [List.length_append] at h1
 omega
theorem IdsAt.kept {w w' : World} {v : Value} {I : List (List UInt8)} (h : IdsAt w v I) (hs : ∀ g, v.ownBlock = some g → g < w.heap.size → w'.heap[g]? = w.heap[g]?) : IdsAt w' v I := by
 obtain ⟨ao, cap, rfl⟩ := RowsAt.form h
 exact RowsAt.moved h (by decide) (fun _ a ha hl => hs a.block (by rw [ha]; rfl) hl)
theorem uni_take (A B : List Gr.Id) (k : Nat) (x : Gr.Id) (h : B[k]? = some x) : Gr.uni A (B.take (k + 1)) = if x ∈ Gr.uni A (B.take k) then Gr.uni A (B.take k) else Gr.uni A (B.take k) ++ [x] := by
 rw [take_id h, Gr.uni_snoc]
namespace R
theorem refreach_any (hS : ∀ (W : World) (v : Value) (I : List (List UInt8)), IdsAt W v I → (∀ i ∈ I, i.length = 32) → I.length ≤ 7000 → Calls Tryz.prog 32 #[v] W (SortedP I W))
  (B kk : Nat) (w : World) (v fv cv : Value) (L : List St.It) (F C : List (List UInt8)) (h : DSt B kk w v L) (hF : IdsAt w fv F) (hFl : ∀ i ∈ F, i.length = 32) (hFn : F.length ≤ 2000) (hC : IdsAt w cv C) (hCl : ∀ i ∈ C, i.length = 32) (hCn : C.length ≤ 2000) :
  Calls Tryz.prog 14 #[.agg #[v], fv, cv] w fun r w' => ∃ tv mv T M, r = .returned (.tuple #[tv, mv]) ∧ IdsAt w' tv T ∧ IdsAt w' mv M ∧ Gr.Up T ∧ Gr.Up M ∧ (∀ x, (x ∈ T ↔ Gr.Rch (Gr.nx L C) F x ∧ St.has L x = true) ∧ (x ∈ M ↔ Gr.Rch (Gr.nx L C) F x ∧ St.has L x = false)) ∧ Below w.heap.size w w' := by
 have hfew := h.few
 have HNL := Lib.hid (fun id => Gr.nx_len h C id)
 have HNE := Lib.hid (fun W (hb : Below w.heap.size w W) (id : List UInt8) (hil : id.length = 32) => next_any B kk W v cv L id C (h.below hb) hil (RowsAt.below hC hb) hCl (by omega))
 have HHA := Lib.hid (fun W (hb : Below w.heap.size w W) (id : List UInt8) (hil : id.length = 32) => refhas_any W v L id (h.old.below hb) hil)
 have HSO := Lib.hid hS
 have HFF := Lib.hid hF
 have HFL := Lib.hid hFl
 have HAL := Lib.hid (fun (A : List Gr.Id) (i : Nat) (hb : Gr.Bfs (Gr.nx L C) F A i) => Gr.alen hb (fun x => (Gr.nx_len h C x).1) (fun x => (Gr.nx_len h C x).2.2))
 have HBS := Lib.hid (Gr.Bfs.start (Gr.nx L C) F)
 obtain ⟨fo, fc, rfl⟩ : ∃ ao cap, fv = .slice ao F.length cap := by simpa using RowsAt.form hF
 obtain ⟨so, sc, rfl⟩ := h.form
 generalize Gr.nx L C = N at *
 clear h hF hC hCl hS hFl
 have HB1 := Lib.hid (below_new w (.cells #[.slice so L.length sc] 28))
 have c1 := box_cell w (.slice so L.length sc) 28
 have HX1 := Lib.hid (heap_alloc_new w (.cells #[.slice so L.length sc] 28))
 go_enter Tryz.func14, Tryz.ntmps14
 go_wp2_with fail
 change Code.wp _ _ _ _ (w.alloc (.cells #[.slice so L.length sc] 28))
 have HZ1 := Lib.hid (show (w.alloc (.cells #[.slice so L.length sc] 28)).heap.size = w.heap.size + 1 by simp)
 generalize w.alloc (.cells #[.slice so L.length sc] 28) = w1 at *
 go_loopw [8, 9] (fun av i wr => ∃ (k : Nat) (A : List (List UInt8)), k ≤ F.length ∧ i = .int .i64 k ∧ Hid (A.length ≤ k) ∧ Hid (A = Gr.uni [] (F.take k)) ∧ Hid (OwnI wr w1.heap.size av A) ∧ Hid (Below w1.heap.size w1 wr)) (fun _ i _ => F.length - (intOf i).toNat)
 case atStart => exact ⟨0, [], by omega, rfl, Nat.le_refl _, rfl, OwnI.nil _ _, Below.refl _ _⟩
 case round =>
  obtain ⟨k, A, hk, rfl, HAK, HAE, HO, HB⟩ := hrel
  obtain ⟨oo, oc, rfl⟩ := HO.out.form
  have hA2 : A.length ≤ 2000 := by have := HAK.out; omega
  have hbs := HB.out.size
  have HBW := Lib.hid (HB1.out.trans (HB.out.mono HB1.out.size))
  by_cases hlt : k < F.length
  ·
   have hlt' : (k : Int) < (F.length : Int) := by omega
   have hk0 : (0 : Int) ≤ (k : Int) := by omega
   obtain ⟨x, hx⟩ : ∃ x, F[k]? = some x := ⟨F[k], List.getElem?_eq_getElem hlt⟩
   have HXL := Lib.hid (HFL.out x (List.mem_of_getElem? hx))
   obtain ⟨a, rfl, _, hc⟩ := (RowsAt.below HFF.out HBW.out).elem k (idC x) (by simp [hx])
   have HC := Lib.hid hc
   have HUT := Lib.hid (uni_take [] F k x hx)
   rw [← HAE.out] at HUT
   have HIN := Lib.hid (in_any wr _ A x HO.out.rows HO.out.len HXL.out (by omega))
   clear hx hc HAE
   by_cases hin : x ∈ A
   ·
    rw [decide_eq_true hin] at HIN
    rw [if_pos hin] at HUT
    go_wp2_with ((with_reducible refine ld_id (l := x) (x := .tmp 28) ?_ ?_ ?_ HC.out HXL.out ?_); rfl; rfl; rfl)
    refine HIN.out.mono ?_
    rintro r w2 ⟨rfl, hb2⟩
    have HO2 := Lib.hid (HO.out.below hb2)
    have HB2 := Lib.hid (HB.out.trans (hb2.mono hbs))
    clear hb2 HIN HO HB
    go_wp2_with fail
    go_roundw
    case rel => exact ⟨k + 1, A, by omega, by go_num, by show _ ≤ _; have := HAK.out; omega, HUT.out.symm, HO2.out, HB2.out⟩
    case measure => simp [intOf]; omega
   ·
    rw [decide_eq_false hin] at HIN
    rw [if_neg hin] at HUT
    go_wp2_with ((with_reducible refine ld_id (l := x) (x := .tmp 28) ?_ ?_ ?_ HC.out HXL.out ?_); rfl; rfl; rfl)
    refine HIN.out.mono ?_
    rintro r w2 ⟨rfl, hb2⟩
    have HO2 := Lib.hid (HO.out.below hb2)
    have HB2 := Lib.hid (HB.out.trans (hb2.mono hbs))
    have hbs2 := HB2.out.size
    have HC2 := Lib.hid (show ∀ j u, (idC x)[j]? = some u → w2.cell? ((a.add (k * 32)).add j) = some u from fun j u hu => by
     have h1 := HC.out j u hu
     rw [hb2.cell (World.block_lt_of_cell? _ _ h1)]; exact h1)
    clear hb2 HIN HO HB HC
    go_wp2_with (first
     | ((with_reducible refine ld_id (l := x) (x := .tmp 36) ?_ ?_ ?_ HC2.out HXL.out ?_); rfl; rfl; rfl)
     | ((with_reducible refine bs_id2 (l := x) (x := .tmp 37) ?_ ?_ ?_ HXL.out ?_); rfl; rfl; rfl)
     | ((with_reducible refine ap_id (.tmp 33) (.tmp 38) ?_ ?_ ?_ ?_ HO2.out hbs2 HXL.out hA2 (fun v' w' h1 h2 => ?_)); rfl; rfl; rfl; rfl))
    go_roundw
    case rel => exact ⟨k + 1, A ++ [x], by omega, by go_num, by show _ ≤ _; have := HAK.out; simp; omega, HUT.out.symm, h1.out, HO2.out.grown HB2.out hbs2 h2.out⟩
    case measure => simp [intOf]; omega
  ·
   have hlt' : ¬ (k : Int) < (F.length : Int) := by omega
   have HBF := Lib.hid (show Gr.Bfs N F A 0 from by rw [HAE.out, List.take_of_length_le (by omega)]; exact HBS.out)
   have HO1 := Lib.hid HO.out
   have HB1' := Lib.hid HB.out
   clear HAE HAK HO HB HBS
   go_wp2_with fail
   go_loopw [8, 11] (fun av i wr2 => ∃ (k : Nat) (A : List (List UInt8)), k ≤ A.length ∧ i = .int .i64 k ∧ Hid (Gr.Bfs N F A k) ∧ Hid (OwnI wr2 w1.heap.size av A) ∧ Hid (Below w1.heap.size w1 wr2)) (fun _ i _ => 7000 - (intOf i).toNat)
   case atStart => exact ⟨0, A, by omega, rfl, HBF.out, HO1.out, HB1'.out⟩
   case round =>
    clear HBF HO1 HB1' HBW hA2 hbs hlt hlt'
    obtain ⟨wr2, hwr2⟩ : ∃ W, W = wr := ⟨_, rfl⟩
    subst hwr2
    obtain ⟨k, A, hk, rfl, HBF, HO, HB⟩ := hrel
    obtain ⟨oo, oc, rfl⟩ := HO.out.form
    have hA7 : A.length ≤ 6000 := by have := HAL.out A k HBF.out; omega
    have hbs := HB.out.size
    have HBW := Lib.hid (HB1.out.trans (HB.out.mono HB1.out.size))
    have cs0 := (HB.out.cell (p := ⟨w.heap.size, 0, none⟩) (by have := HZ1.out; show w.heap.size < _; omega)).trans c1
    have cs1 : wr2.drew.cell? ⟨w.heap.size, 0, none⟩ = some (.slice so L.length sc) := cs0
    by_cases hlt : k < A.length
    ·
     have hlt' : (k : Int) < (A.length : Int) := by omega
     have hk0 : (0 : Int) ≤ (k : Int) := by omega
     obtain ⟨x, hx⟩ : ∃ x, A[k]? = some x := ⟨A[k], List.getElem?_eq_getElem hlt⟩
     have HXL := Lib.hid (HO.out.len x (List.mem_of_getElem? hx))
     obtain ⟨a, rfl, _, hc⟩ := HO.out.rows.elem k (idC x) (by simp [hx])
     have HC := Lib.hid (show ∀ j u, (idC x)[j]? = some u → wr2.drew.cell? ((a.add (k * 32)).add j) = some u from hc)
     have HST := Lib.hid (HBF.out.step hx)
     have HNX := Lib.hid (HNE.out wr2.drew (HBW.out.drew) x HXL.out)
     have HNK := Lib.hid (HNL.out x)
     clear hx hc
     go_wp2_with fail
     refine rgn_tail 6 (by kernel_rfl) (by kernel_rfl) ?_
     simp only [List.take_succ_cons, List.take_zero, List.drop_succ_cons, List.drop_zero]
     repeat still_step
     (with_reducible apply still_id (hc := HC.out) (hl := HXL.out))
     rfl
     rfl
     rfl
     repeat still_step
     refine wpStill_nil ?_
     go_wp2_with fail
     refine HNX.out.mono ?_
     rintro r w3 ⟨nv, rfl, hN3, hb3⟩
     have HO3 := Lib.hid (HO.out.below (show Below wr2.heap.size wr2 w3 from (Below.refl wr2.heap.size wr2).drew.trans hb3))
     have HB3 := Lib.hid (HB.out.trans (((Below.refl wr2.heap.size wr2).drew.trans hb3).mono hbs))
     have HN3 := Lib.hid (show OwnI w3 wr2.heap.size nv (N x) from hN3)
     have HAP := Lib.hid (show Ap (.slice (some a) A.length oc) nv from fun g hg hc => by
      have h1 := (HO.out.own.lt g hg).2
      have h2 := (HN3.out.own.lt g hc).1
      omega)
     obtain ⟨no, nc, rfl⟩ := HN3.out.form
     generalize hNX : N x = nx at *
     clear hN3 hb3 HNX HO HB cs0 cs1 HC
     go_wp2_with fail
     go_loopw [8, 13] (fun av i wr3 => ∃ (k2 : Nat) (A2 : List (List UInt8)), k2 ≤ nx.length ∧ i = .int .i64 k2 ∧ Hid (A2.length ≤ A.length + k2) ∧ Hid (A2 = Gr.uni A (nx.take k2)) ∧ Hid (OwnI wr3 w1.heap.size av A2) ∧ Hid (OwnI wr3 wr2.heap.size (.slice no nx.length nc) nx) ∧ Hid (Ap av (.slice no nx.length nc)) ∧ Hid (Below w1.heap.size w1 wr3)) (fun _ i _ => nx.length - (intOf i).toNat)
     case atStart => exact ⟨0, A, by omega, rfl, Nat.le_refl _, by show A = _; simp [Gr.uni], HO3.out, HN3.out, HAP.out, HB3.out⟩
     case round =>
      clear HO3 HN3 HAP HB3
      obtain ⟨wr3, hwr3⟩ : ∃ W, W = wr := ⟨_, rfl⟩
      subst hwr3
      obtain ⟨k2, A2, hk2, rfl, HAK, HAE, HO, HN, HAP, HB⟩ := hrel
      obtain ⟨qo, qc, rfl⟩ := HO.out.form
      have hnx := HNK.out.1
      have hA2 : A2.length ≤ 100000 := by have := HAK.out; omega
      have hbs3 := HB.out.size
      by_cases hlt2 : k2 < nx.length
      ·
       have hlt2' : (k2 : Int) < (nx.length : Int) := by omega
       have hk20 : (0 : Int) ≤ (k2 : Int) := by omega
       obtain ⟨y, hy⟩ : ∃ y, nx[k2]? = some y := ⟨nx[k2], List.getElem?_eq_getElem hlt2⟩
       have HYL := Lib.hid (HN.out.len y (List.mem_of_getElem? hy))
       obtain ⟨na, hna, _, hc⟩ := HN.out.rows.elem k2 (idC y) (by simp [hy])
       subst hna
       have HC := Lib.hid hc
       have HUT := Lib.hid (uni_take A nx k2 y hy)
       rw [← HAE.out] at HUT
       have HIN := Lib.hid (in_any wr3 _ A2 y HO.out.rows HO.out.len HYL.out hA2)
       clear hy hc HAE
       by_cases hin : y ∈ A2
       ·
        rw [decide_eq_true hin] at HIN
        rw [if_pos hin] at HUT
        go_wp2_with ((with_reducible refine ld_id (l := y) (x := .tmp 62) ?_ ?_ ?_ HC.out HYL.out ?_); rfl; rfl; rfl)
        refine HIN.out.mono ?_
        rintro r w4 ⟨rfl, hb4⟩
        have HO4 := Lib.hid (HO.out.below hb4)
        have HN4 := Lib.hid (HN.out.below hb4)
        have HB4 := Lib.hid (HB.out.trans (hb4.mono hbs3))
        clear hb4 HIN HO HB HN HC
        go_wp2_with fail
        go_roundw
        case rel => exact ⟨k2 + 1, A2, by omega, by go_num, by show _ ≤ _; have := HAK.out; omega, HUT.out.symm, HO4.out, HN4.out, HAP.out, HB4.out⟩
        case measure => simp [intOf]; omega
       ·
        rw [decide_eq_false hin] at HIN
        rw [if_neg hin] at HUT
        go_wp2_with ((with_reducible refine ld_id (l := y) (x := .tmp 62) ?_ ?_ ?_ HC.out HYL.out ?_); rfl; rfl; rfl)
        refine HIN.out.mono ?_
        rintro r w4 ⟨rfl, hb4⟩
        have HO4 := Lib.hid (HO.out.below hb4)
        have HN4 := Lib.hid (HN.out.below hb4)
        have HB4 := Lib.hid (HB.out.trans (hb4.mono hbs3))
        have hbs4 := HB4.out.size
        have HC4 := Lib.hid (show ∀ j u, (idC y)[j]? = some u → w4.cell? ((na.add (k2 * 32)).add j) = some u from fun j u hu => by
         have h1 := HC.out j u hu
         rw [hb4.cell (World.block_lt_of_cell? _ _ h1)]; exact h1)
        clear hb4 HIN HO HB HN HC
        go_wp2_with (first
         | ((with_reducible refine ld_id (l := y) (x := .tmp 70) ?_ ?_ ?_ HC4.out HYL.out ?_); rfl; rfl; rfl)
         | ((with_reducible refine bs_id2 (l := y) (x := .tmp 71) ?_ ?_ ?_ HYL.out ?_); rfl; rfl; rfl)
         | ((with_reducible refine ap_id_at (.tmp 67) (.tmp 72) ?_ ?_ ?_ ?_ HO4.out hbs4 HYL.out hA2 (fun v' w' h1 h2 h3 => ?_)); rfl; rfl; rfl; rfl))
        go_roundw
        case rel => exact ⟨k2 + 1, A2 ++ [y], by omega, by go_num, by show _ ≤ _; have := HAK.out; simp; omega, HUT.out.symm, h1.out, HN4.out.other h2.out (fun g hg hc => HAP.out g hc hg), HAP.out.next HN4.out h3.out, HO4.out.grown HB4.out hbs4 h2.out⟩
        case measure => simp [intOf]; omega
      ·
       have hlt2' : ¬ (k2 : Int) < (nx.length : Int) := by omega
       have HT := Lib.hid (show Gr.Bfs N F A2 (k + 1) from by rw [HAE.out, List.take_of_length_le (by omega)]; exact HST.out)
       have HGE := Lib.hid (show A.length ≤ A2.length from by rw [HAE.out]; exact Gr.uni_ge _ _)
       clear HAE HST
       go_wp2_with fail
       go_roundw
       case rel => exact ⟨k + 1, A2, by have := HGE.out; omega, by go_num, HT.out, HO.out, HB.out⟩
       case measure => simp [intOf]; omega
    ·
     have hlt' : ¬ (k : Int) < (A.length : Int) := by omega
     have HEN := Lib.hid (fun x => HBF.out.end_ (by omega) x)
     clear HBF
     go_wp2_with fail
     go_loopw [15, 16, 17] (fun tv mv i wr4 => ∃ (k : Nat) (T M : List (List UInt8)), k ≤ A.length ∧ i = .int .i64 k ∧ Hid (T.length ≤ k ∧ M.length ≤ k) ∧ Hid (T = (A.take k).filter (fun x => St.has L x)) ∧ Hid (M = (A.take k).filter (fun x => !St.has L x)) ∧ Hid (OwnI wr4 wr2.heap.size tv T) ∧ Hid (OwnI wr4 wr2.heap.size mv M) ∧ Hid (Ap tv mv) ∧ Hid (Below wr2.heap.size wr2 wr4)) (fun _ _ i _ => A.length - (intOf i).toNat)
     case atStart => exact ⟨0, [], [], by omega, rfl, ⟨Nat.le_refl _, Nat.le_refl _⟩, rfl, rfl, OwnI.nil _ _, OwnI.nil _ _, Ap.nil _, Below.refl _ _⟩
     case round =>
      obtain ⟨wr4, hwr4⟩ : ∃ W, W = wr := ⟨_, rfl⟩
      subst hwr4
      obtain ⟨k, T, M, hk, rfl, HLN, HTE, HME, HT, HM, HAP, HB4⟩ := hrel
      obtain ⟨to', tc, rfl⟩ := HT.out.form
      obtain ⟨mo, mc, rfl⟩ := HM.out.form
      have hT2 : T.length ≤ 100000 := by have := HLN.out.1; omega
      have hM2 : M.length ≤ 100000 := by have := HLN.out.2; omega
      have hbs4 := HB4.out.size
      have HBW4 := Lib.hid (HBW.out.trans (HB4.out.mono HBW.out.size))
      have HA4 := Lib.hid (HO.out.below HB4.out)
      have cs4 : wr4.drew.cell? ⟨w.heap.size, 0, none⟩ = some (.slice so L.length sc) := (HB4.out.cell (p := ⟨w.heap.size, 0, none⟩) (World.block_lt_of_cell? _ _ cs0)).trans cs0
      by_cases hlt : k < A.length
      ·
       have hlt' : (k : Int) < (A.length : Int) := by omega
       have hk0 : (0 : Int) ≤ (k : Int) := by omega
       obtain ⟨x, hx⟩ : ∃ x, A[k]? = some x := ⟨A[k], List.getElem?_eq_getElem hlt⟩
       have HXL := Lib.hid (HO.out.len x (List.mem_of_getElem? hx))
       obtain ⟨a, hae, _, hc⟩ := HA4.out.rows.elem k (idC x) (by simp [hx])
       subst hae
       have HC := Lib.hid (show ∀ j u, (idC x)[j]? = some u → wr4.drew.cell? ((a.add (k * 32)).add j) = some u from hc)
       have HTK := Lib.hid (take_id hx)
       have HHX := Lib.hid (HHA.out wr4.drew HBW4.out.drew x HXL.out)
       clear hx hc
       cases hh : St.has L x with
       | true =>
         rw [hh] at HHX
         have HT2 := Lib.hid (show T ++ [x] = (A.take (k + 1)).filter (fun x => St.has L x) from by rw [HTK.out, List.filter_append, ← HTE.out]; simp [hh])
         have HM2 := Lib.hid (show M = (A.take (k + 1)).filter (fun x => !St.has L x) from by rw [HTK.out, List.filter_append, ← HME.out]; simp [hh])
         clear HTE HME HTK hh
         go_wp2_with fail
         refine rgn_tail 5 (by kernel_rfl) (by kernel_rfl) ?_
         simp only [List.take_succ_cons, List.take_zero, List.drop_succ_cons, List.drop_zero]
         repeat still_step
         (with_reducible apply still_id (hc := HC.out) (hl := HXL.out))
         rfl
         rfl
         rfl
         repeat still_step
         refine wpStill_nil ?_
         go_wp2_with fail
         refine HHX.out.mono ?_
         rintro r w5 ⟨rfl, hb5⟩
         have hb45 : Below wr4.heap.size wr4 w5 := (Below.refl wr4.heap.size wr4).drew.trans hb5
         have HT5 := Lib.hid (HT.out.below hb45)
         have HM5 := Lib.hid (HM.out.below hb45)
         have HB5 := Lib.hid (HB4.out.trans (hb45.mono hbs4))
         have hbs5 := HB5.out.size
         have HC5 := Lib.hid (show ∀ j u, (idC x)[j]? = some u → w5.cell? ((a.add (k * 32)).add j) = some u from fun j u hu => by
          have h1 := HC.out j u hu
          rw [hb5.cell (World.block_lt_of_cell? _ _ h1)]; exact h1)
         clear hb5 hb45 HHX HT HM HC cs4
         go_wp2_with (first
          | ((with_reducible refine ld_id (l := x) (x := .tmp 90) ?_ ?_ ?_ HC5.out HXL.out ?_); rfl; rfl; rfl)
          | ((with_reducible refine bs_id2 (l := x) (x := .tmp 91) ?_ ?_ ?_ HXL.out ?_); rfl; rfl; rfl)
          | ((with_reducible refine ap_id_at (.tmp 87) (.tmp 92) ?_ ?_ ?_ ?_ HT5.out hbs5 HXL.out hT2 (fun v' w' h1 h2 h3 => ?_)); rfl; rfl; rfl; rfl))
         go_roundw
         case rel => exact ⟨k + 1, T ++ [x], M, by omega, by go_num, by show _ ∧ _; have := HLN.out; simp; omega, HT2.out, HM2.out, h1.out, HM5.out.other h2.out (fun g hg hc => HAP.out g hc hg), HAP.out.next HM5.out h3.out, HT5.out.grown HB5.out hbs5 h2.out⟩
         case measure => simp [intOf]; omega
       | false =>
         rw [hh] at HHX
         have HT2 := Lib.hid (show T = (A.take (k + 1)).filter (fun x => St.has L x) from by rw [HTK.out, List.filter_append, ← HTE.out]; simp [hh])
         have HM2 := Lib.hid (show M ++ [x] = (A.take (k + 1)).filter (fun x => !St.has L x) from by rw [HTK.out, List.filter_append, ← HME.out]; simp [hh])
         clear HTE HME HTK hh
         go_wp2_with fail
         refine rgn_tail 5 (by kernel_rfl) (by kernel_rfl) ?_
         simp only [List.take_succ_cons, List.take_zero, List.drop_succ_cons, List.drop_zero]
         repeat still_step
         (with_reducible apply still_id (hc := HC.out) (hl := HXL.out))
         rfl
         rfl
         rfl
         repeat still_step
         refine wpStill_nil ?_
         go_wp2_with fail
         refine HHX.out.mono ?_
         rintro r w5 ⟨rfl, hb5⟩
         have hb45 : Below wr4.heap.size wr4 w5 := (Below.refl wr4.heap.size wr4).drew.trans hb5
         have HT5 := Lib.hid (HT.out.below hb45)
         have HM5 := Lib.hid (HM.out.below hb45)
         have HB5 := Lib.hid (HB4.out.trans (hb45.mono hbs4))
         have hbs5 := HB5.out.size
         have HC5 := Lib.hid (show ∀ j u, (idC x)[j]? = some u → w5.cell? ((a.add (k * 32)).add j) = some u from fun j u hu => by
          have h1 := HC.out j u hu
          rw [hb5.cell (World.block_lt_of_cell? _ _ h1)]; exact h1)
         clear hb5 hb45 HHX HT HM HC cs4
         go_wp2_with (first
          | ((with_reducible refine ld_id (l := x) (x := .tmp 97) ?_ ?_ ?_ HC5.out HXL.out ?_); rfl; rfl; rfl)
          | ((with_reducible refine bs_id2 (l := x) (x := .tmp 98) ?_ ?_ ?_ HXL.out ?_); rfl; rfl; rfl)
          | ((with_reducible refine ap_id_at (.tmp 94) (.tmp 99) ?_ ?_ ?_ ?_ HM5.out hbs5 HXL.out hM2 (fun v' w' h1 h2 h3 => ?_)); rfl; rfl; rfl; rfl))
         go_roundw
         case rel => exact ⟨k + 1, T, M ++ [x], by omega, by go_num, by show _ ∧ _; have := HLN.out; simp; omega, HT2.out, HM2.out, HT5.out.other h2.out (fun g hg hc => HAP.out g hg hc), h1.out, (HAP.out.symm.next HT5.out h3.out).symm, HM5.out.grown HB5.out hbs5 h2.out⟩
         case measure => simp [intOf]; omega
      ·
       have hlt' : ¬ (k : Int) < (A.length : Int) := by omega
       have hln := HLN.out
       have HFT := Lib.hid (show ∀ x, x ∈ T ↔ Gr.Rch N F x ∧ St.has L x = true from fun x => by
        rw [HTE.out, List.take_of_length_le (by omega), List.mem_filter, HEN.out x])
       have HFM := Lib.hid (show ∀ x, x ∈ M ↔ Gr.Rch N F x ∧ St.has L x = false from fun x => by
        rw [HME.out, List.take_of_length_le (by omega), List.mem_filter, HEN.out x]; simp)
       have HS1 := Lib.hid (HSO.out wr4 _ T HT.out.rows HT.out.len (by omega))
       clear HTE HME HEN
       go_wp2_with fail
       refine HS1.out.mono ?_
       rintro r w5 ⟨tv', T', rfl, hT', hUT, hmT, hb5⟩
       have HS2 := Lib.hid (HSO.out w5 _ M (HM.out.below hb5).rows HM.out.len (by omega))
       have HIT := Lib.hid hT'
       have HB5 := Lib.hid (HBW4.out.trans (hb5.mono HBW4.out.size))
       have HUT' := Lib.hid hUT
       have HMT := Lib.hid hmT
       clear hT' hb5 HS1 hUT hmT cs4
       go_wp2_with fail
       refine HS2.out.mono ?_
       rintro r w6 ⟨mv', M', rfl, hM', hUM, hmM, hb6⟩
       have hT6 := RowsAt.below HIT.out hb6
       have hB6 := HB5.out.trans (hb6.mono HB5.out.size)
       have hft := HFT.out
       have hfm := HFM.out
       have hut := HUT'.out
       have hmt := HMT.out
       clear HS2 HIT HB5 hb6 HFT HFM HUT' HMT
       go_wp2_with fail
       go_ret2
       exact ⟨_, _, T', M', rfl, hT6, hM', hut, hUM, (fun x => by rw [hmt x, hmM x]; exact ⟨hft x, hfm x⟩), hB6⟩
end R
end Go.Proofs.YtfckfjndnhjpoaaGreatDoor
