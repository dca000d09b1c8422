/-
  WALKS OF LAYER 12: what the law GraphMore asks with: within, Rise.
-/
import Derived.Test.YtfckfjndnhjpoaaGreatDoorQw
import Derived.Test.YtfckfjndnhjpoaaGreatDoorRm
import Derived.Test.YtfckfjndnhjpoaaGreatDoorRi
import Derived.Test.YtfckfjndnhjpoaaGreatDoorQu
import Derived.Test.YtfckfjndnhjpoaaGreatDoorQa
set_option linter.unusedVariables false
set_option linter.unusedSimpArgs false
set_option maxHeartbeats 8000000
set_option maxRecDepth 100000
section
namespace Go.Proofs.YtfckfjndnhjpoaaGreatDoor
open Go.RowKit
theorem within_any (w : World) (av bv : Value) (A B : List (List UInt8)) (hA : IdsAt w av A) (hAl : ∀ i ∈ A, i.length = 32) (hB : IdsAt w bv B) (hBl : ∀ i ∈ B, i.length = 32) (hAn : A.length ≤ 100000) (hBn : B.length ≤ 100000) (hs : ∀ x ∈ A, x ∈ B) :
  Calls Tryz.prog 20 #[av, bv] w fun r w' => r = .returned (.bool true) ∧ Below w.heap.size w w' := by
 have HIN := Lib.hid (fun W (hb : Below w.heap.size w W) (id : List UInt8) (hid : id.length = 32) => in_any W bv B id (RowsAt.below hB hb) hBl hid hBn)
 have HA := Lib.hid hA
 have HL := Lib.hid hAl
 have HS := Lib.hid hs
 obtain ⟨ao, ac, rfl⟩ : ∃ ao cap, av = .slice ao A.length cap := by simpa using RowsAt.form hA
 obtain ⟨bo, bc, rfl⟩ : ∃ ao cap, bv = .slice ao B.length cap := by simpa using RowsAt.form hB
 clear hA hB hAl hBl hs
 go_enter Tryz.func20, Tryz.ntmps20
 go_wp2_with fail
 go_loopw [5] (fun i wr => ∃ (k : Nat), k ≤ A.length ∧ i = .int .i64 k ∧ Hid (Below w.heap.size w wr)) (fun i _ => A.length - (intOf i).toNat)
 case atStart => exact ⟨0, by omega, rfl, Below.refl _ _⟩
 case round =>
  obtain ⟨k, hk, rfl, HB⟩ := hrel
  by_cases hlt : k < A.length
  ·
   have hlt' : (k : Int) < (A.length : Int) := by omega
   have hk0 : (0 : Int) ≤ (k : Int) := by omega
   obtain ⟨x, hx⟩ : ∃ x, A[k]? = some x := ⟨A[k], List.getElem?_eq_getElem hlt⟩
   have HXL := Lib.hid (HL.out x (List.mem_of_getElem? hx))
   obtain ⟨a, rfl, _, hc⟩ := (RowsAt.below HA.out HB.out).elem k (idC x) (by simp [hx])
   have HC := Lib.hid hc
   have HI := Lib.hid (HIN.out wr HB.out x HXL.out)
   rw [decide_eq_true (HS.out x (List.mem_of_getElem? hx))] at HI
   clear hc hx
   go_wp2_with ((with_reducible refine ld_id (l := x) (x := .tmp 16) (p := a.add (k * 32)) ?_ ?_ ?_ HC.out HXL.out ?_); rfl; rfl; rfl)
   with_reducible refine HI.out.mono ?_
   rintro r w2 ⟨rfl, hb2⟩
   have HB2 := Lib.hid (HB.out.trans (hb2.mono HB.out.size))
   clear hb2 HI HB
   go_wp2_with fail
   go_roundw
   case rel => exact ⟨k + 1, by omega, by go_num, HB2.out⟩
   case measure => simp [intOf]; omega
  ·
   have hlt' : ¬ (k : Int) < (A.length : Int) := by omega
   go_wp2_with fail
   go_ret
   exact ⟨rfl, HB.out⟩
theorem rise_any (w : World) (av : Value) (A : List (List UInt8)) (hA : IdsAt w av A) (hAl : ∀ i ∈ A, i.length = 32) (hAn : A.length ≤ 100000) (hu : Gr.Up A) :
  Calls Tryz.prog 21 #[av] w fun r w' => r = .returned (.bool true) ∧ Below w.heap.size w w' := by
 have HLS := Lib.hid (fun W (a b : List UInt8) (ha : a.length = 32) (hb : b.length = 32) => refless_id a b W ha hb)
 have HA := Lib.hid hA
 have HL := Lib.hid hAl
 have HU := Lib.hid hu
 obtain ⟨ao, ac, rfl⟩ : ∃ ao cap, av = .slice ao A.length cap := by simpa using RowsAt.form hA
 clear hA hAl hu
 go_enter Tryz.func21, Tryz.ntmps21
 go_wp2_with fail
 go_loopw [3] (fun i wr => ∃ (k : Nat), (k ≤ A.length ∨ k = 1) ∧ 1 ≤ k ∧ i = .int .i64 k ∧ Hid (Below w.heap.size w wr)) (fun i _ => A.length - (intOf i).toNat)
 case atStart => exact ⟨1, .inr rfl, by omega, rfl, Below.refl _ _⟩
 case round =>
  obtain ⟨k, hk, hk1, rfl, HB⟩ := hrel
  by_cases hlt : k < A.length
  ·
   have hlt' : (k : Int) < (A.length : Int) := by omega
   have hk0 : (0 : Int) ≤ (k : Int) := by omega
   obtain ⟨m, rfl⟩ : ∃ m, k = m + 1 := ⟨k - 1, by omega⟩
   obtain ⟨x, hx⟩ : ∃ x, A[m]? = some x := ⟨A[m], List.getElem?_eq_getElem (by omega)⟩
   obtain ⟨y, hy⟩ : ∃ y, A[m + 1]? = some y := ⟨A[m + 1], List.getElem?_eq_getElem hlt⟩
   have HXL := Lib.hid (HL.out x (List.mem_of_getElem? hx))
   have HYL := Lib.hid (HL.out y (List.mem_of_getElem? hy))
   obtain ⟨a, rfl, _, hc⟩ := (RowsAt.below HA.out HB.out).elem m (idC x) (by simp [hx])
   obtain ⟨a', hae, _, hc2⟩ := (RowsAt.below HA.out HB.out).elem (m + 1) (idC y) (by simp [hy])
   obtain rfl : a = a' := Option.some.inj hae
   have HC := Lib.hid (show ∀ j u, (idC x)[j]? = some u → wr.drew.cell? ((a.add (m * 32)).add j) = some u from hc)
   have HC2 := Lib.hid (show ∀ j u, (idC y)[j]? = some u → wr.drew.cell? ((a.add ((m + 1) * 32)).add j) = some u from hc2)
   have HI := Lib.hid (HLS.out wr.drew x y HXL.out HYL.out)
   have hw0 : IntKind.i64.wrap ((m : Int) + 1 - 1) = (m : Int) := by rw [show (m : Int) + 1 - 1 = m by omega]; exact IntWalk.i64_in _ (by omega)
   have hw1 : IntKind.i64.wrap (((m + 1 : Nat) : Int) - 1) = (m : Int) := by rw [show ((m + 1 : Nat) : Int) - 1 = m by omega]; exact IntWalk.i64_in _ (by omega)
   have hml : (m : Int) < (A.length : Int) := by omega
   have hm0 : (0 : Int) ≤ (m : Int) := by omega
   have h0p : (0 : Int) ≤ (m : Int) + 1 := by omega
   have hlp : (m : Int) + 1 < (A.length : Int) := by omega
   have htn : ((m : Int) + 1).toNat = m + 1 := by omega
   have hw2 : IntKind.i64.wrap (m : Int) = (m : Int) := IntWalk.i64_in _ (by omega)
   have hUp : St.lt x y = true := by
    obtain ⟨l1, e1⟩ := List.getElem?_eq_some_iff.1 hx
    obtain ⟨l2, e2⟩ := List.getElem?_eq_some_iff.1 hy
    have := List.pairwise_iff_getElem.1 HU.out m (m + 1) l1 l2 (by omega)
    rwa [e1, e2] at this
   rw [hUp] at HI
   clear hc hc2 hx hy hUp hae
   go_wp2_with fail
   refine rgn_tail 9 (by kernel_rfl) (by kernel_rfl) ?_
   simp only [List.take_succ_cons, List.take_zero, List.drop_succ_cons, List.drop_zero]
   repeat still_step
   (with_reducible apply still_id (p := a.add (m * 32)) (hc := HC.out) (hl := HXL.out))
   rfl
   rfl
   rfl
   repeat still_step
   (with_reducible apply still_id (p := a.add ((m + 1) * 32)) (hc := HC2.out) (hl := HYL.out))
   rfl
   rfl
   rfl
   refine wpStill_nil ?_
   go_wp2_with fail
   with_reducible refine HI.out.mono ?_
   rintro r w2 ⟨rfl, hb2⟩
   have HB2 := Lib.hid (HB.out.trans (((Below.refl wr.heap.size wr).drew.trans hb2).mono HB.out.size))
   clear hb2 HI HB HC HC2
   go_wp2_with fail
   go_roundw
   case rel => exact ⟨m + 2, .inl (by omega), by omega, by go_num, HB2.out⟩
   case measure => simp [intOf]; omega
  ·
   have hlt' : ¬ (k : Int) < (A.length : Int) := by omega
   go_wp2_with fail
   go_ret
   exact ⟨rfl, HB.out⟩
end Go.Proofs.YtfckfjndnhjpoaaGreatDoor
end
section
namespace Go.Proofs.YtfckfjndnhjpoaaGreatDoor
theorem Gr.upnd {L : List Gr.Id} (h : Gr.Up L) : L.Nodup := List.Pairwise.imp (fun h => St.lt_ne h) h
theorem Gr.rch_more {nx nx' : Gr.Id → List Gr.Id} {F F' : List Gr.Id} (hF : ∀ x ∈ F, x ∈ F') (hn : ∀ x y, y ∈ nx x → y ∈ nx' x) {x : Gr.Id} (h : Gr.Rch nx F x) : Gr.Rch nx' F' x :=
 Gr.Rch.least (P := fun x => Gr.Rch nx' F' x) (fun x hx => .base (hF x hx)) (fun x y hx hy => .step hx (hn x y hy)) h
theorem Gr.rch_cl {nx : Gr.Id → List Gr.Id} {F F' : List Gr.Id} (hF : ∀ x ∈ F', Gr.Rch nx F x) {x : Gr.Id} (h : Gr.Rch nx F' x) : Gr.Rch nx F x :=
 Gr.Rch.least (P := fun x => Gr.Rch nx F x) hF (fun x y hx hy => .step hx hy) h
theorem Gr.lk_cut {o : Ob} {y : List UInt8} (h : y ∈ Gr.lk (Gr.cutO o)) : y ∈ Gr.lk o := by
 unfold Gr.lk linksL Gr.cutO at *
 by_cases h2 : o.kind = 2
 · simpa [h2] using h
 ·
  by_cases h3 : o.kind = 3
  · simp [h3] at h ⊢; exact .inl h
  · simpa [h2, h3] using h
theorem Gr.nx_nil {L : List St.It} {C : List (List UInt8)} {x y : List UInt8} (h : y ∈ Gr.nx L C x) : y ∈ Gr.nx L [] x := by
 unfold Gr.nx at *
 cases ho : Gr.ob L x with
 | none => rw [ho] at h; exact h
 | some o =>
   rw [ho] at h
   simp only [List.not_mem_nil, if_false] at h ⊢
   split at h
   · exact Gr.lk_cut h
   · exact h
theorem Gr.lk_tag {o : Ob} (h : o.kind = 4) : o.target ∈ Gr.lk o ∧ o.target ∈ Gr.lk (Gr.cutO o) := by
 unfold Gr.lk linksL Gr.cutO
 simp [h]
theorem Gr.lk_par {o : Ob} (h : o.kind = 3) {p : List UInt8} (hp : p ∈ o.pars) : p ∈ Gr.lk o := by
 unfold Gr.lk linksL
 simp [h, hp]
theorem Gr.end_rch {L : List St.It} {C F : List (List UInt8)} : ∀ (n : Nat) {x y : List UInt8}, Gr.endF L n x = some y → Gr.Rch (Gr.nx L C) F x → Gr.Rch (Gr.nx L C) F y
 | 0, x, y, h, _ => by simp [Gr.endF] at h
 | n + 1, x, y, h, hr => by
   unfold Gr.endF at h
   cases ho : Gr.ob L x with
   | none => rw [ho] at h; cases h
   | some o =>
     rw [ho] at h
     simp only at h
     split at h
     ·
      rename_i hk
      refine Gr.end_rch n h (.step hr ?_)
      unfold Gr.nx
      rw [ho]
      simp only
      split
      · exact (Gr.lk_tag hk).2
      · exact (Gr.lk_tag hk).1
     ·
      injection h with h
      rw [← h]; exact hr
theorem Gr.eds_rch {L : List St.It} {C F : List (List UInt8)} : ∀ (A : List (List UInt8)), (∀ x ∈ A, x ∈ F) → ∀ y ∈ Gr.eds L A, Gr.Rch (Gr.nx L C) F y
 | [], _, y, h => by simp [Gr.eds] at h
 | x :: r, hA, y, h => by
   unfold Gr.eds at h
   have ih := Gr.eds_rch (L := L) (C := C) (F := F) r (fun z hz => hA z (List.mem_cons_of_mem _ hz))
   split at h
   · exact ih y h
   ·
    rename_i z hz
    rcases List.mem_cons.1 h with e | e
    · rw [e]; exact Gr.end_rch _ hz (.base (hA x (by simp)))
    · exact ih y e
theorem Wk.nw_sub (cm : List UInt8 → Bool) : ∀ (A S : List (List UInt8)), ∀ x ∈ Wk.nw cm S A, x ∈ A
 | [], S, x, h => by simp [Wk.nw] at h
 | y :: r, S, x, h => by
   rw [Wk.nw] at h
   split at h
   ·
    rcases List.mem_cons.1 h with e | e
    · rw [e]; simp
    · exact List.mem_cons_of_mem _ (Wk.nw_sub cm r _ x e)
   · exact List.mem_cons_of_mem _ (Wk.nw_sub cm r _ x h)
theorem Gr.cm_kind {L : List St.It} {x : List UInt8} (h : Gr.cm L x = true) : ∃ o, Gr.ob L x = some o ∧ o.kind = 3 := by
 unfold Gr.cm at h
 cases ho : Gr.ob L x with
 | none => rw [ho] at h; cases h
 | some o => rw [ho] at h; exact ⟨o, rfl, by simpa using h⟩
theorem Gr.pr_nx {L : List St.It} {C : List (List UInt8)} {x y : List UInt8} (hx : Gr.cm L x = true) (h : y ∈ Gr.pr L C x) : y ∈ Gr.nx L C x ∧ Gr.cm L y = true ∧ y ∈ Gr.prs L x := by
 obtain ⟨o, ho, hk⟩ := Gr.cm_kind hx
 unfold Gr.pr at h
 split at h
 · simp at h
 ·
  rename_i hc
  rw [List.mem_filter] at h
  refine ⟨?_, h.2, h.1⟩
  have hp : y ∈ o.pars := by have := h.1; unfold Gr.prs at this; rw [ho] at this; exact this
  unfold Gr.nx
  rw [ho]
  simp only [if_neg hc]
  exact Gr.lk_par hk hp
theorem Gr.cm_has {L : List St.It} {x : List UInt8} (h : Gr.cm L x = true) : St.has L x = true := by
 cases hh : St.has L x with
 | true => rfl
 | false => unfold Gr.cm at h; rw [Gr.ob_none hh] at h; cases h
theorem Gr.walk_more {L : List St.It} {C F R : List (List UInt8)} (h : Wk (Gr.ah L) (Gr.pr L C) (Wk.nw (Gr.cm L) [] (Gr.eds L F)) [] R) :
  R.Nodup ∧ (∀ x ∈ R, Gr.Rch (Gr.nx L C) F x ∧ St.has L x = true) ∧ ∀ (i : Nat) (x : List UInt8), R[i]? = some x → x ∈ Wk.nw (Gr.cm L) [] (Gr.eds L F) ∨ ∃ k y, k < i ∧ R[k]? = some y ∧ x ∈ Gr.prs L y := by
 have hS : ∀ x ∈ Wk.nw (Gr.cm L) [] (Gr.eds L F), Gr.Rch (Gr.nx L C) F x ∧ Gr.cm L x = true := fun x hx =>
  ⟨Gr.eds_rch F (fun z hz => hz) x (Wk.nw_sub _ _ _ x hx), Wk.nw_cm _ _ _ x hx⟩
 have hP : ∀ x ∈ R, Gr.Rch (Gr.nx L C) F x ∧ Gr.cm L x = true :=
  Wk.least (P := fun x => Gr.Rch (Gr.nx L C) F x ∧ Gr.cm L x = true) (fun x y hx hy => ⟨.step hx.1 (Gr.pr_nx hx.2 hy).1, (Gr.pr_nx hx.2 hy).2.1⟩) h hS (fun x hx => by cases hx)
 obtain ⟨h1, _, _, h4⟩ := h.keeps List.nodup_nil (fun x hx => by cases hx)
 refine ⟨h1, fun x hx => ⟨(hP x hx).1, Gr.cm_has (hP x hx).2⟩, fun i x hx => ?_⟩
 rcases h4 i x (by simp) hx with k | ⟨k, y, hk, hy, hxy⟩
 · exact .inl k
 · exact .inr ⟨k, y, hk, hy, (Gr.pr_nx (hP y (List.mem_of_getElem? hy)).2 hxy).2.2⟩
theorem Gr.nx_few (L : List St.It) (C : List (List UInt8)) (x : List UInt8) : (Gr.nx L C x).length ≤ 64 := by
 unfold Gr.nx
 cases ho : Gr.ob L x with
 | none => simp
 | some o =>
   have hf : o.ents.length ≤ 64 ∧ o.pars.length ≤ 8 := by
    unfold Gr.ob at ho
    split at ho
    ·
     cases hx : L[St.pos L x]? with
     | none => rw [hx] at ho; cases ho
     | some r => rw [hx] at ho; exact Gr.dec_few (by simpa using ho)
    · cases ho
   have hl : ∀ p : Ob, p.ents.length ≤ 64 → p.pars.length ≤ 8 → (Gr.lk p).length ≤ 64 := fun p h1 h2 => by
    unfold Gr.lk linksL
    repeat' split
    all_goals (simp; try omega)
   simp only
   split
   · exact hl _ hf.1 (by simp [Gr.cutO])
   · exact hl _ hf.1 hf.2
theorem Gr.missing_few {L : List St.It} {C F T M : List (List UInt8)} (hT : ∀ x, x ∈ T ↔ Gr.Rch (Gr.nx L C) F x ∧ St.has L x = true) (hM : ∀ x ∈ M, Gr.Rch (Gr.nx L C) F x ∧ St.has L x = false) (hn : M.Nodup) : M.length ≤ F.length + 64 * T.length := by
 have hs : ∀ x ∈ M, x ∈ F ++ T.flatMap (Gr.nx L C) := fun x hx => by
  obtain ⟨h1, _⟩ := hM x hx
  cases h1 with
  | base h => exact List.mem_append.2 (.inl h)
  | step h hy =>
    rename_i y
    refine List.mem_append.2 (.inr (List.mem_flatMap.2 ⟨y, (hT y).2 ⟨h, ?_⟩, hy⟩))
    cases hh : St.has L y with
    | true => rfl
    | false => unfold Gr.nx at hy; rw [Gr.ob_none hh] at hy; simp at hy
 have h1 := Gr.nodup_len hn hs
 have h2 : ∀ A : List (List UInt8), (A.flatMap (Gr.nx L C)).length ≤ 64 * A.length := fun A => by
  induction A with
  | nil => simp
  | cons a r ih => rw [List.flatMap_cons, List.length_append, List.length_cons]; have := Gr.nx_few L C a; omega
 have h3 := h2 T
 rw [List.length_append] at h1
 omega
theorem Gr.told_few {L : List St.It} {T : List (List UInt8)} (hT : ∀ x ∈ T, St.has L x = true) (hs : St.Srt L) (hn : T.Nodup) : T.length ≤ L.length := by
 have := Gr.nodup_len (A := T) (B := idsOf L) hn (fun x hx => by
  obtain ⟨r, hr, he⟩ := St.has_at hs (hT x hx)
  exact List.mem_map.2 ⟨r, List.mem_of_getElem? hr, he⟩)
 simpa [idsOf] using this
end Go.Proofs.YtfckfjndnhjpoaaGreatDoor
end
