/-
  WALKS OF LAYER 9: apply.
-/
import Derived.Test.YtkdljagcdaphdaaSet
namespace Go.Proofs.Ytkdljagcdaphdaa
open Go.RowKit
set_option linter.unusedVariables false
set_option linter.unusedSimpArgs false

theorem rng_below {W W' : World} {g o : Nat} {cs : List Value} (h : W.rangeAt g o cs) (hb : Below W.heap.size W W') (hg : g < W.heap.size) : W'.rangeAt g o cs := fun j v hv => by
  rw [hb.cell (p := ⟨g, o + j, none⟩) hg]; exact h j v hv
theorem up_rng {u : Rf.U} {w : World} {g : Nat} {t : TypeId} (h : w.heap[g]? = some (.cells (upC u).toArray t)) (h1 : u.old.length = 32) : w.rangeAt g 1 (idC u.old) ∧ w.rangeAt g 33 (idC u.new) := by
  refine ⟨fun j v hv => ?_, fun j v hv => ?_⟩
  · have hj : j < (idC u.old).length := (List.getElem?_eq_some_iff.1 hv).1
    rw [cell_of_row _ _ _ _ t (0, 0) h]
    simp only [upC, List.getElem?_toArray]
    rw [show 1 + j = j + 1 by omega, List.getElem?_cons_succ, List.getElem?_append_left hj]
    exact hv
  · have hj : (idC u.old).length = 32 := by rw [idC_length, h1]
    rw [cell_of_row _ _ _ _ t (0, 0) h]
    simp only [upC, List.getElem?_toArray]
    rw [show 33 + j = (32 + j) + 1 by omega, List.getElem?_cons_succ, List.getElem?_append_right (by omega), hj]
    simpa using hv
theorem findV_eq (o : Option (List UInt8)) : findV o = .tuple #[.agg (idC (o.getD Rf.zid)).toArray, .bool o.isSome] := by cases o <;> rfl
theorem find_len {L : List Rf.R} {n : ByteArray} (hid : ∀ r ∈ L, r.id.length = 32) : ((Rf.find L n).getD Rf.zid).length = 32 := by
  cases h : Rf.find L n with
  | none => rfl
  | some i =>
    obtain ⟨r, hr, _, rfl⟩ := Rf.find_some h
    exact hid r hr
/-- What apply leaves. -/
def AppP (L M : List Rf.R) (x : Nat) (base : Nat) (v : Value) (w : World) (e : Ending) (w' : World) : Prop :=
  ∃ v', e = .returned (.tuple #[v', .int .i64 (x : Int)]) ∧ OwnF w' base v' M ∧ w.grownBy w' v.ownBlock ∧ (v'.ownBlock = v.ownBlock ∨ ∃ k, v'.ownBlock = some k ∧ w.heap.size ≤ k)
theorem appP_same {L : List Rf.R} {x : Nat} {base : Nat} {v : Value} {w w' : World} (ho : OwnF w base v L) (hb : Below w.heap.size w w') : AppP L L x base v w (.returned (.tuple #[v, .int .i64 (x : Int)])) w' :=
  ⟨v, rfl, ho.below hb, (below_grown hb).but _, .inl rfl⟩
theorem appP_set {L : List Rf.R} {n : ByteArray} {i : List UInt8} {base : Nat} {v : Value} {w w1 w' : World} {e : Ending} (hb : Below w.heap.size w w1) (h : SetP L n i base v w1 e w') : ∃ v', e = .returned v' ∧ AppP L (Rf.put L n i) 0 base v w (.returned (.tuple #[v', .int .i64 0])) w' := by
  obtain ⟨v', rfl, h1, h2, h3⟩ := h
  refine ⟨v', rfl, v', rfl, h1, ((below_grown hb).but _).trans h2, ?_⟩
  rcases h3 with h | ⟨k, h, hk⟩
  · exact .inl h
  · exact .inr ⟨k, h, Nat.le_trans hb.size hk⟩

set_option maxHeartbeats 2000000 in
set_option maxRecDepth 100000 in
theorem apply_name (v : Value) (L : List Rf.R) (base : Nat) (u : Rf.U) (w : World) (h : OwnF w base v L) (hid : ∀ r ∈ L, r.id.length = 32) (hl : L.length ≤ 64) (hs : Rf.Srt L) (ho : u.old.length = 32) (hn : u.new.length = 32) (hm : u.name.size ≤ maxLen) (hbase : base ≤ w.heap.size) (h1 : Rf.nameOk u.name = false) :
    Calls Try.prog 44 #[v, .agg (upC u).toArray] w (AppP L L 8 base v w) := by
  obtain ⟨ao, cap, hform, hcap, hc63⟩ : ∃ ao cap, v = .slice ao L.length cap ∧ L.length ≤ cap ∧ cap ≤ 9223372036854775807 := by
    rcases h.2 with ⟨h0, h1⟩ | ⟨g, cap, cur, h0, _, _, h1, h2, _⟩
    · exact ⟨none, 0, by rw [h0, h1], by omega, by omega⟩
    · exact ⟨_, cap, h0, h1, by unfold maxLen at h2; omega⟩
  subst hform
  have HO := Lib.hid h
  have HD := Lib.hid hid
  have HS := Lib.hid hs
  have HOL := Lib.hid ho
  have HNL := Lib.hid hn
  have n0 : (upC u)[0]? = some (.string u.name) := rfl
  have HNM := Lib.hid (fun W => name_any u.name W hm)
  have HB1 := Lib.hid (below_new w (.cells (upC u).toArray 51))
  have HG1 := Lib.hid (heap_alloc_new w (.cells (upC u).toArray 51))
  have HR1 := Lib.hid (up_rng HG1.out ho)
  have HC1 := Lib.hid (show (w.alloc (.cells (upC u).toArray 51)).cell? ⟨w.heap.size, 0, none⟩ = some (.string u.name) by rw [cell_of_row _ _ 0 _ _ _ HG1.out]; rfl)
  have HIO := Lib.hid (fun W => isNone_any u.old W ho)
  have HIN := Lib.hid (fun W => isNone_any u.new W hn)
  have HFL := Lib.hid (find_len (n := u.name) hid)
  rw [h1] at HNM
  clear h hid hs ho hn hm
  go_enter Try.func44, Try.ntmps44
  go_wp2_with (first
    | (go_at_call 18; ((with_reducible refine (HNM.out _).mono ?_); rintro r wx ⟨rfl, rfl⟩))
    | ((fail_if_success (fail_if_success go_guarded)); (with_reducible refine ldg_idm (x := .tmp 13) ?_ ?_ ?_ HR1.out.1 HOL.out ?_); rfl; rfl; kernel_rfl)
    | (go_at_call 26; ((with_reducible refine (HIO.out _).mono ?_); rintro r wa ⟨rfl, hba⟩; have ca := (hba.cell (p := ⟨w.heap.size, 0, none⟩) (by simp)).trans HC1.out))
    | ((fail_if_success (fail_if_success go_guarded)); (with_reducible refine ldg_idm (x := .tmp 17) ?_ ?_ ?_ (rng_below HR1.out.2 hba (by simp)) HNL.out ?_); rfl; rfl; kernel_rfl)
    | (go_at_call 26; ((with_reducible refine (HIN.out _).mono ?_); rintro r wb ⟨rfl, hbb⟩; have cb := (hbb.cell (p := ⟨w.heap.size, 0, none⟩) (by have := hba.size; simp at this; show w.heap.size < _; omega)).trans ca)))
  have HQ := Lib.hid (appP_same (x := 8) HO.out HB1.out)
  go_ret2
  exact HQ.out

set_option maxHeartbeats 2000000 in
set_option maxRecDepth 100000 in
theorem apply_zero (v : Value) (L : List Rf.R) (base : Nat) (u : Rf.U) (w : World) (h : OwnF w base v L) (hid : ∀ r ∈ L, r.id.length = 32) (hl : L.length ≤ 64) (hs : Rf.Srt L) (ho : u.old.length = 32) (hn : u.new.length = 32) (hm : u.name.size ≤ maxLen) (hbase : base ≤ w.heap.size) (h1 : Rf.nameOk u.name = true) (h2 : u.old = Rf.zid) (h3 : u.new = Rf.zid) :
    Calls Try.prog 44 #[v, .agg (upC u).toArray] w (AppP L L 8 base v w) := by
  obtain ⟨ao, cap, hform, hcap, hc63⟩ : ∃ ao cap, v = .slice ao L.length cap ∧ L.length ≤ cap ∧ cap ≤ 9223372036854775807 := by
    rcases h.2 with ⟨h0, h1⟩ | ⟨g, cap, cur, h0, _, _, h1, h2, _⟩
    · exact ⟨none, 0, by rw [h0, h1], by omega, by omega⟩
    · exact ⟨_, cap, h0, h1, by unfold maxLen at h2; omega⟩
  subst hform
  have HO := Lib.hid h
  have HD := Lib.hid hid
  have HS := Lib.hid hs
  have HOL := Lib.hid ho
  have HNL := Lib.hid hn
  have n0 : (upC u)[0]? = some (.string u.name) := rfl
  have HNM := Lib.hid (fun W => name_any u.name W hm)
  have HB1 := Lib.hid (below_new w (.cells (upC u).toArray 51))
  have HG1 := Lib.hid (heap_alloc_new w (.cells (upC u).toArray 51))
  have HR1 := Lib.hid (up_rng HG1.out ho)
  have HC1 := Lib.hid (show (w.alloc (.cells (upC u).toArray 51)).cell? ⟨w.heap.size, 0, none⟩ = some (.string u.name) by rw [cell_of_row _ _ 0 _ _ _ HG1.out]; rfl)
  have HIO := Lib.hid (fun W => isNone_any u.old W ho)
  have HIN := Lib.hid (fun W => isNone_any u.new W hn)
  have HFL := Lib.hid (find_len (n := u.name) hid)
  rw [h1] at HNM
  rw [show decide (u.old = Rf.zid) = true by simpa using h2] at HIO
  rw [show decide (u.new = Rf.zid) = true by simpa using h3] at HIN
  clear h1 h2 h3
  clear h hid hs ho hn hm
  go_enter Try.func44, Try.ntmps44
  go_wp2_with (first
    | (go_at_call 18; ((with_reducible refine (HNM.out _).mono ?_); rintro r wx ⟨rfl, rfl⟩))
    | ((fail_if_success (fail_if_success go_guarded)); (with_reducible refine ldg_idm (x := .tmp 13) ?_ ?_ ?_ HR1.out.1 HOL.out ?_); rfl; rfl; kernel_rfl)
    | (go_at_call 26; ((with_reducible refine (HIO.out _).mono ?_); rintro r wa ⟨rfl, hba⟩; have ca := (hba.cell (p := ⟨w.heap.size, 0, none⟩) (by simp)).trans HC1.out))
    | ((fail_if_success (fail_if_success go_guarded)); (with_reducible refine ldg_idm (x := .tmp 17) ?_ ?_ ?_ (rng_below HR1.out.2 hba (by simp)) HNL.out ?_); rfl; rfl; kernel_rfl)
    | (go_at_call 26; ((with_reducible refine (HIN.out _).mono ?_); rintro r wb ⟨rfl, hbb⟩; have cb := (hbb.cell (p := ⟨w.heap.size, 0, none⟩) (by have := hba.size; simp at this; show w.heap.size < _; omega)).trans ca)))
  have HQ := Lib.hid (appP_same (x := 8) HO.out (below_step (below_step HB1.out hba) hbb))
  go_ret2
  exact HQ.out

set_option maxHeartbeats 2000000 in
set_option maxRecDepth 100000 in
theorem apply_lease_c (v : Value) (L : List Rf.R) (base : Nat) (u : Rf.U) (w : World) (h : OwnF w base v L) (hid : ∀ r ∈ L, r.id.length = 32) (hl : L.length ≤ 64) (hs : Rf.Srt L) (ho : u.old.length = 32) (hn : u.new.length = 32) (hm : u.name.size ≤ maxLen) (hbase : base ≤ w.heap.size) (h1 : Rf.nameOk u.name = true) (h2 : u.old = Rf.zid) (h3 : u.new ≠ Rf.zid) (h4 : (Rf.find L u.name).getD Rf.zid ≠ u.old) :
    Calls Try.prog 44 #[v, .agg (upC u).toArray] w (AppP L L 10 base v w) := by
  obtain ⟨ao, cap, hform, hcap, hc63⟩ : ∃ ao cap, v = .slice ao L.length cap ∧ L.length ≤ cap ∧ cap ≤ 9223372036854775807 := by
    rcases h.2 with ⟨h0, h1⟩ | ⟨g, cap, cur, h0, _, _, h1, h2, _⟩
    · exact ⟨none, 0, by rw [h0, h1], by omega, by omega⟩
    · exact ⟨_, cap, h0, h1, by unfold maxLen at h2; omega⟩
  subst hform
  have HO := Lib.hid h
  have HD := Lib.hid hid
  have HS := Lib.hid hs
  have HOL := Lib.hid ho
  have HNL := Lib.hid hn
  have n0 : (upC u)[0]? = some (.string u.name) := rfl
  have HNM := Lib.hid (fun W => name_any u.name W hm)
  have HB1 := Lib.hid (below_new w (.cells (upC u).toArray 51))
  have HG1 := Lib.hid (heap_alloc_new w (.cells (upC u).toArray 51))
  have HR1 := Lib.hid (up_rng HG1.out ho)
  have HC1 := Lib.hid (show (w.alloc (.cells (upC u).toArray 51)).cell? ⟨w.heap.size, 0, none⟩ = some (.string u.name) by rw [cell_of_row _ _ 0 _ _ _ HG1.out]; rfl)
  have HIO := Lib.hid (fun W => isNone_any u.old W ho)
  have HIN := Lib.hid (fun W => isNone_any u.new W hn)
  have HFL := Lib.hid (find_len (n := u.name) hid)
  rw [h1] at HNM
  rw [show decide (u.old = Rf.zid) = true by simpa using h2] at HIO
  rw [show decide (u.new = Rf.zid) = false by simpa using h3] at HIN
  clear h1 h2 h3
  clear h hid hs ho hn hm
  go_enter Try.func44, Try.ntmps44
  go_wp2_with (first
    | (go_at_call 18; ((with_reducible refine (HNM.out _).mono ?_); rintro r wx ⟨rfl, rfl⟩))
    | ((fail_if_success (fail_if_success go_guarded)); (with_reducible refine ldg_idm (x := .tmp 13) ?_ ?_ ?_ HR1.out.1 HOL.out ?_); rfl; rfl; kernel_rfl)
    | (go_at_call 26; ((with_reducible refine (HIO.out _).mono ?_); rintro r wa ⟨rfl, hba⟩; have ca := (hba.cell (p := ⟨w.heap.size, 0, none⟩) (by simp)).trans HC1.out))
    | ((fail_if_success (fail_if_success go_guarded)); (with_reducible refine ldg_idm (x := .tmp 17) ?_ ?_ ?_ (rng_below HR1.out.2 hba (by simp)) HNL.out ?_); rfl; rfl; kernel_rfl)
    | (go_at_call 26; ((with_reducible refine (HIN.out _).mono ?_); rintro r wb ⟨rfl, hbb⟩; have cb := (hbb.cell (p := ⟨w.heap.size, 0, none⟩) (by have := hba.size; simp at this; show w.heap.size < _; omega)).trans ca)))
  have hb0 := below_step (below_step HB1.out hba) hbb
  have HGB := Lib.hid ((hbb.block w.heap.size (by have := hba.size; simp at this; omega)).trans ((hba.block w.heap.size (by simp)).trans HG1.out))
  clear hba hbb ca cb
  generalize wb = wc at *
  have hwlt : w.heap.size < wc.heap.size := (Array.getElem?_eq_some_iff.1 HGB.out).1
  refine (find_any _ L u.name _ ((HO.out.rows HD.out).below hb0) (by unfold maxLen; omega)).mono ?_
  rintro r w4 ⟨rfl, hb4⟩
  have hb04 := below_step hb0 hb4
  have HG4 := Lib.hid ((hb4.block w.heap.size hwlt).trans HGB.out)
  have hw4 : w.heap.size < w4.heap.size := by have := hb4.size; omega
  rw [findV_eq]
  have hb05 := hb04.alloc hb04.size (.cells (idC ((Rf.find L u.name).getD Rf.zid)).toArray 35)
  have HG5 := Lib.hid ((Below.heap_alloc w4 (.cells (idC ((Rf.find L u.name).getD Rf.zid)).toArray 35) w.heap.size hw4).trans HG4.out)
  have HR5 := Lib.hid (up_rng HG5.out HOL.out)
  have HI5 := Lib.hid (news_row (heap_alloc_new w4 (.cells (idC ((Rf.find L u.name).getD Rf.zid)).toArray 35)))
  have c5 : (w4.alloc (.cells (idC ((Rf.find L u.name).getD Rf.zid)).toArray 35)).cell? ⟨w.heap.size, 0, none⟩ = some (.string u.name) := by
    rw [cell_of_row _ _ 0 _ _ _ HG5.out]; rfl
  have hq := fun W => eq_id ((Rf.find L u.name).getD Rf.zid) u.old HFL.out HOL.out W
  have HSZ := Lib.hid (fun hb hz => set_any (Value.slice ao L.length cap) L base u.name u.new (w4.alloc (.cells (idC ((Rf.find L u.name).getD Rf.zid)).toArray 35)) (HO.out.below hb05) HD.out hl HNL.out hb HS.out hz)
  have hsz5 : base ≤ (w4.alloc (.cells (idC ((Rf.find L u.name).getD Rf.zid)).toArray 35)).heap.size := by simp; omega
  clear hb4 HG4 HGB
  have HNEW := Lib.hid (rfl : (w4.alloc (.cells (idC ((Rf.find L u.name).getD Rf.zid)).toArray 35)) = (w4.alloc (.cells (idC ((Rf.find L u.name).getD Rf.zid)).toArray 35)))
  rw [show decide ((Rf.find L u.name).getD Rf.zid = u.old) = false by simpa using h4] at hq
  clear h4
  generalize (Rf.find L u.name).getD Rf.zid = fi at *
  generalize (Rf.find L u.name).isSome = fb at *

  go_wp2_with (first
    | ((with_reducible apply st_id (hl := HFL.out)); rfl; rfl; rfl; rfl; rfl)
    | ((with_reducible refine ld_id (x := .tmp 6) (p := ⟨w4.heap.size, 0, none⟩) ?_ ?_ ?_ HI5.out HFL.out ?_); rfl; rfl; rfl)
    | ((with_reducible refine ld_idm (x := .tmp 31) (b := w.heap.size) (o := 1) ?_ ?_ ?_ HR5.out.1 HOL.out ?_); rfl; rfl; rfl)
    | ((with_reducible refine ld_idm (x := .tmp 46) (b := w.heap.size) (o := 33) ?_ ?_ ?_ HR5.out.2 HNL.out ?_); rfl; rfl; rfl))
  have HQ := Lib.hid (appP_same (x := 10) HO.out hb05)
  go_ret2
  exact HQ.out

set_option maxHeartbeats 2000000 in
set_option maxRecDepth 100000 in
theorem apply_limit_c (v : Value) (L : List Rf.R) (base : Nat) (u : Rf.U) (w : World) (h : OwnF w base v L) (hid : ∀ r ∈ L, r.id.length = 32) (hl : L.length ≤ 64) (hs : Rf.Srt L) (ho : u.old.length = 32) (hn : u.new.length = 32) (hm : u.name.size ≤ maxLen) (hbase : base ≤ w.heap.size) (h1 : Rf.nameOk u.name = true) (h2 : u.old = Rf.zid) (h3 : u.new ≠ Rf.zid) (h4 : (Rf.find L u.name).getD Rf.zid = u.old) (h5 : Rf.find L u.name = none) (h6 : ¬ L.length < 64) :
    Calls Try.prog 44 #[v, .agg (upC u).toArray] w (AppP L L 3 base v w) := by
  obtain ⟨ao, cap, hform, hcap, hc63⟩ : ∃ ao cap, v = .slice ao L.length cap ∧ L.length ≤ cap ∧ cap ≤ 9223372036854775807 := by
    rcases h.2 with ⟨h0, h1⟩ | ⟨g, cap, cur, h0, _, _, h1, h2, _⟩
    · exact ⟨none, 0, by rw [h0, h1], by omega, by omega⟩
    · exact ⟨_, cap, h0, h1, by unfold maxLen at h2; omega⟩
  subst hform
  have HO := Lib.hid h
  have HD := Lib.hid hid
  have HS := Lib.hid hs
  have HOL := Lib.hid ho
  have HNL := Lib.hid hn
  have n0 : (upC u)[0]? = some (.string u.name) := rfl
  have HNM := Lib.hid (fun W => name_any u.name W hm)
  have HB1 := Lib.hid (below_new w (.cells (upC u).toArray 51))
  have HG1 := Lib.hid (heap_alloc_new w (.cells (upC u).toArray 51))
  have HR1 := Lib.hid (up_rng HG1.out ho)
  have HC1 := Lib.hid (show (w.alloc (.cells (upC u).toArray 51)).cell? ⟨w.heap.size, 0, none⟩ = some (.string u.name) by rw [cell_of_row _ _ 0 _ _ _ HG1.out]; rfl)
  have HIO := Lib.hid (fun W => isNone_any u.old W ho)
  have HIN := Lib.hid (fun W => isNone_any u.new W hn)
  have HFL := Lib.hid (find_len (n := u.name) hid)
  rw [h1] at HNM
  rw [show decide (u.old = Rf.zid) = true by simpa using h2] at HIO
  rw [show decide (u.new = Rf.zid) = false by simpa using h3] at HIN
  clear h1 h2 h3
  clear h hid hs ho hn hm
  go_enter Try.func44, Try.ntmps44
  go_wp2_with (first
    | (go_at_call 18; ((with_reducible refine (HNM.out _).mono ?_); rintro r wx ⟨rfl, rfl⟩))
    | ((fail_if_success (fail_if_success go_guarded)); (with_reducible refine ldg_idm (x := .tmp 13) ?_ ?_ ?_ HR1.out.1 HOL.out ?_); rfl; rfl; kernel_rfl)
    | (go_at_call 26; ((with_reducible refine (HIO.out _).mono ?_); rintro r wa ⟨rfl, hba⟩; have ca := (hba.cell (p := ⟨w.heap.size, 0, none⟩) (by simp)).trans HC1.out))
    | ((fail_if_success (fail_if_success go_guarded)); (with_reducible refine ldg_idm (x := .tmp 17) ?_ ?_ ?_ (rng_below HR1.out.2 hba (by simp)) HNL.out ?_); rfl; rfl; kernel_rfl)
    | (go_at_call 26; ((with_reducible refine (HIN.out _).mono ?_); rintro r wb ⟨rfl, hbb⟩; have cb := (hbb.cell (p := ⟨w.heap.size, 0, none⟩) (by have := hba.size; simp at this; show w.heap.size < _; omega)).trans ca)))
  have hb0 := below_step (below_step HB1.out hba) hbb
  have HGB := Lib.hid ((hbb.block w.heap.size (by have := hba.size; simp at this; omega)).trans ((hba.block w.heap.size (by simp)).trans HG1.out))
  clear hba hbb ca cb
  generalize wb = wc at *
  have hwlt : w.heap.size < wc.heap.size := (Array.getElem?_eq_some_iff.1 HGB.out).1
  refine (find_any _ L u.name _ ((HO.out.rows HD.out).below hb0) (by unfold maxLen; omega)).mono ?_
  rintro r w4 ⟨rfl, hb4⟩
  have hb04 := below_step hb0 hb4
  have HG4 := Lib.hid ((hb4.block w.heap.size hwlt).trans HGB.out)
  have hw4 : w.heap.size < w4.heap.size := by have := hb4.size; omega
  rw [findV_eq]
  have hb05 := hb04.alloc hb04.size (.cells (idC ((Rf.find L u.name).getD Rf.zid)).toArray 35)
  have HG5 := Lib.hid ((Below.heap_alloc w4 (.cells (idC ((Rf.find L u.name).getD Rf.zid)).toArray 35) w.heap.size hw4).trans HG4.out)
  have HR5 := Lib.hid (up_rng HG5.out HOL.out)
  have HI5 := Lib.hid (news_row (heap_alloc_new w4 (.cells (idC ((Rf.find L u.name).getD Rf.zid)).toArray 35)))
  have c5 : (w4.alloc (.cells (idC ((Rf.find L u.name).getD Rf.zid)).toArray 35)).cell? ⟨w.heap.size, 0, none⟩ = some (.string u.name) := by
    rw [cell_of_row _ _ 0 _ _ _ HG5.out]; rfl
  have hq := fun W => eq_id ((Rf.find L u.name).getD Rf.zid) u.old HFL.out HOL.out W
  have HSZ := Lib.hid (fun hb hz => set_any (Value.slice ao L.length cap) L base u.name u.new (w4.alloc (.cells (idC ((Rf.find L u.name).getD Rf.zid)).toArray 35)) (HO.out.below hb05) HD.out hl HNL.out hb HS.out hz)
  have hsz5 : base ≤ (w4.alloc (.cells (idC ((Rf.find L u.name).getD Rf.zid)).toArray 35)).heap.size := by simp; omega
  clear hb4 HG4 HGB
  have HNEW := Lib.hid (rfl : (w4.alloc (.cells (idC ((Rf.find L u.name).getD Rf.zid)).toArray 35)) = (w4.alloc (.cells (idC ((Rf.find L u.name).getD Rf.zid)).toArray 35)))
  rw [show decide ((Rf.find L u.name).getD Rf.zid = u.old) = true by simpa using h4] at hq
  have HFB := Lib.hid (show (Rf.find L u.name).isSome = false by rw [h5]; rfl)
  have e64 : ((L.length : Int) == 64) = true := by rw [beq_iff_eq]; omega
  clear h4 h5 h6
  generalize (Rf.find L u.name).getD Rf.zid = fi at *
  generalize (Rf.find L u.name).isSome = fb at *
  obtain rfl : fb = false := HFB.out
  go_wp2_with (first
    | ((with_reducible apply st_id (hl := HFL.out)); rfl; rfl; rfl; rfl; rfl)
    | ((with_reducible refine ld_id (x := .tmp 6) (p := ⟨w4.heap.size, 0, none⟩) ?_ ?_ ?_ HI5.out HFL.out ?_); rfl; rfl; rfl)
    | ((with_reducible refine ld_idm (x := .tmp 31) (b := w.heap.size) (o := 1) ?_ ?_ ?_ HR5.out.1 HOL.out ?_); rfl; rfl; rfl)
    | ((with_reducible refine ld_idm (x := .tmp 46) (b := w.heap.size) (o := 33) ?_ ?_ ?_ HR5.out.2 HNL.out ?_); rfl; rfl; rfl))
  have HQ := Lib.hid (appP_same (x := 3) HO.out hb05)
  go_ret2
  exact HQ.out

set_option maxHeartbeats 2000000 in
set_option maxRecDepth 100000 in
theorem apply_new_c (v : Value) (L : List Rf.R) (base : Nat) (u : Rf.U) (w : World) (h : OwnF w base v L) (hid : ∀ r ∈ L, r.id.length = 32) (hl : L.length ≤ 64) (hs : Rf.Srt L) (ho : u.old.length = 32) (hn : u.new.length = 32) (hm : u.name.size ≤ maxLen) (hbase : base ≤ w.heap.size) (h1 : Rf.nameOk u.name = true) (h2 : u.old = Rf.zid) (h3 : u.new ≠ Rf.zid) (h4 : (Rf.find L u.name).getD Rf.zid = u.old) (h5 : Rf.find L u.name = none) (h6 : L.length ≠ 64) :
    Calls Try.prog 44 #[v, .agg (upC u).toArray] w (AppP L (Rf.put L u.name u.new) 0 base v w) := by
  obtain ⟨ao, cap, hform, hcap, hc63⟩ : ∃ ao cap, v = .slice ao L.length cap ∧ L.length ≤ cap ∧ cap ≤ 9223372036854775807 := by
    rcases h.2 with ⟨h0, h1⟩ | ⟨g, cap, cur, h0, _, _, h1, h2, _⟩
    · exact ⟨none, 0, by rw [h0, h1], by omega, by omega⟩
    · exact ⟨_, cap, h0, h1, by unfold maxLen at h2; omega⟩
  subst hform
  have HO := Lib.hid h
  have HD := Lib.hid hid
  have HS := Lib.hid hs
  have HOL := Lib.hid ho
  have HNL := Lib.hid hn
  have n0 : (upC u)[0]? = some (.string u.name) := rfl
  have HNM := Lib.hid (fun W => name_any u.name W hm)
  have HB1 := Lib.hid (below_new w (.cells (upC u).toArray 51))
  have HG1 := Lib.hid (heap_alloc_new w (.cells (upC u).toArray 51))
  have HR1 := Lib.hid (up_rng HG1.out ho)
  have HC1 := Lib.hid (show (w.alloc (.cells (upC u).toArray 51)).cell? ⟨w.heap.size, 0, none⟩ = some (.string u.name) by rw [cell_of_row _ _ 0 _ _ _ HG1.out]; rfl)
  have HIO := Lib.hid (fun W => isNone_any u.old W ho)
  have HIN := Lib.hid (fun W => isNone_any u.new W hn)
  have HFL := Lib.hid (find_len (n := u.name) hid)
  rw [h1] at HNM
  rw [show decide (u.old = Rf.zid) = true by simpa using h2] at HIO
  rw [show decide (u.new = Rf.zid) = false by simpa using h3] at HIN
  have HZZ := Lib.hid (show u.new = Rf.zid → Rf.find L u.name ≠ none from fun e => absurd e h3)
  clear h1 h2 h3
  clear h hid hs ho hn hm
  go_enter Try.func44, Try.ntmps44
  go_wp2_with (first
    | (go_at_call 18; ((with_reducible refine (HNM.out _).mono ?_); rintro r wx ⟨rfl, rfl⟩))
    | ((fail_if_success (fail_if_success go_guarded)); (with_reducible refine ldg_idm (x := .tmp 13) ?_ ?_ ?_ HR1.out.1 HOL.out ?_); rfl; rfl; kernel_rfl)
    | (go_at_call 26; ((with_reducible refine (HIO.out _).mono ?_); rintro r wa ⟨rfl, hba⟩; have ca := (hba.cell (p := ⟨w.heap.size, 0, none⟩) (by simp)).trans HC1.out))
    | ((fail_if_success (fail_if_success go_guarded)); (with_reducible refine ldg_idm (x := .tmp 17) ?_ ?_ ?_ (rng_below HR1.out.2 hba (by simp)) HNL.out ?_); rfl; rfl; kernel_rfl)
    | (go_at_call 26; ((with_reducible refine (HIN.out _).mono ?_); rintro r wb ⟨rfl, hbb⟩; have cb := (hbb.cell (p := ⟨w.heap.size, 0, none⟩) (by have := hba.size; simp at this; show w.heap.size < _; omega)).trans ca)))
  have hb0 := below_step (below_step HB1.out hba) hbb
  have HGB := Lib.hid ((hbb.block w.heap.size (by have := hba.size; simp at this; omega)).trans ((hba.block w.heap.size (by simp)).trans HG1.out))
  clear hba hbb ca cb
  generalize wb = wc at *
  have hwlt : w.heap.size < wc.heap.size := (Array.getElem?_eq_some_iff.1 HGB.out).1
  refine (find_any _ L u.name _ ((HO.out.rows HD.out).below hb0) (by unfold maxLen; omega)).mono ?_
  rintro r w4 ⟨rfl, hb4⟩
  have hb04 := below_step hb0 hb4
  have HG4 := Lib.hid ((hb4.block w.heap.size hwlt).trans HGB.out)
  have hw4 : w.heap.size < w4.heap.size := by have := hb4.size; omega
  rw [findV_eq]
  have hb05 := hb04.alloc hb04.size (.cells (idC ((Rf.find L u.name).getD Rf.zid)).toArray 35)
  have HG5 := Lib.hid ((Below.heap_alloc w4 (.cells (idC ((Rf.find L u.name).getD Rf.zid)).toArray 35) w.heap.size hw4).trans HG4.out)
  have HR5 := Lib.hid (up_rng HG5.out HOL.out)
  have HI5 := Lib.hid (news_row (heap_alloc_new w4 (.cells (idC ((Rf.find L u.name).getD Rf.zid)).toArray 35)))
  have c5 : (w4.alloc (.cells (idC ((Rf.find L u.name).getD Rf.zid)).toArray 35)).cell? ⟨w.heap.size, 0, none⟩ = some (.string u.name) := by
    rw [cell_of_row _ _ 0 _ _ _ HG5.out]; rfl
  have hq := fun W => eq_id ((Rf.find L u.name).getD Rf.zid) u.old HFL.out HOL.out W
  have HSZ := Lib.hid (fun hb hz => set_any (Value.slice ao L.length cap) L base u.name u.new (w4.alloc (.cells (idC ((Rf.find L u.name).getD Rf.zid)).toArray 35)) (HO.out.below hb05) HD.out hl HNL.out hb HS.out hz)
  have hsz5 : base ≤ (w4.alloc (.cells (idC ((Rf.find L u.name).getD Rf.zid)).toArray 35)).heap.size := by simp; omega
  clear hb4 HG4 HGB
  have HNEW := Lib.hid (rfl : (w4.alloc (.cells (idC ((Rf.find L u.name).getD Rf.zid)).toArray 35)) = (w4.alloc (.cells (idC ((Rf.find L u.name).getD Rf.zid)).toArray 35)))
  rw [show decide ((Rf.find L u.name).getD Rf.zid = u.old) = true by simpa using h4] at hq
  have HFB := Lib.hid (show (Rf.find L u.name).isSome = false by rw [h5]; rfl)
  have e64 : ((L.length : Int) == 64) = false := beq_eq_false_iff_ne.2 (by omega)
  clear h4 h5 h6
  generalize (Rf.find L u.name).getD Rf.zid = fi at *
  generalize (Rf.find L u.name).isSome = fb at *
  obtain rfl : fb = false := HFB.out
  go_wp2_with (first
    | ((with_reducible apply st_id (hl := HFL.out)); rfl; rfl; rfl; rfl; rfl)
    | ((with_reducible refine ld_id (x := .tmp 6) (p := ⟨w4.heap.size, 0, none⟩) ?_ ?_ ?_ HI5.out HFL.out ?_); rfl; rfl; rfl)
    | ((with_reducible refine ld_idm (x := .tmp 31) (b := w.heap.size) (o := 1) ?_ ?_ ?_ HR5.out.1 HOL.out ?_); rfl; rfl; rfl)
    | ((with_reducible refine ld_idm (x := .tmp 46) (b := w.heap.size) (o := 33) ?_ ?_ ?_ HR5.out.2 HNL.out ?_); rfl; rfl; rfl))
  refine (HSZ.out hsz5 HZZ.out).mono ?_
  rintro r w6 h6
  obtain ⟨v', rfl, h7⟩ := appP_set hb05 h6
  have HQ := Lib.hid h7
  clear h6 h7
  go_wp2_with fail
  go_ret2
  exact HQ.out

set_option maxHeartbeats 2000000 in
set_option maxRecDepth 100000 in
theorem apply_old_c (v : Value) (L : List Rf.R) (base : Nat) (u : Rf.U) (w : World) (h : OwnF w base v L) (hid : ∀ r ∈ L, r.id.length = 32) (hl : L.length ≤ 64) (hs : Rf.Srt L) (ho : u.old.length = 32) (hn : u.new.length = 32) (hm : u.name.size ≤ maxLen) (hbase : base ≤ w.heap.size) (h1 : Rf.nameOk u.name = true) (h2 : u.old = Rf.zid) (h3 : u.new ≠ Rf.zid) (h4 : (Rf.find L u.name).getD Rf.zid = u.old) (h5 : Rf.find L u.name ≠ none) :
    Calls Try.prog 44 #[v, .agg (upC u).toArray] w (AppP L (Rf.put L u.name u.new) 0 base v w) := by
  obtain ⟨ao, cap, hform, hcap, hc63⟩ : ∃ ao cap, v = .slice ao L.length cap ∧ L.length ≤ cap ∧ cap ≤ 9223372036854775807 := by
    rcases h.2 with ⟨h0, h1⟩ | ⟨g, cap, cur, h0, _, _, h1, h2, _⟩
    · exact ⟨none, 0, by rw [h0, h1], by omega, by omega⟩
    · exact ⟨_, cap, h0, h1, by unfold maxLen at h2; omega⟩
  subst hform
  have HO := Lib.hid h
  have HD := Lib.hid hid
  have HS := Lib.hid hs
  have HOL := Lib.hid ho
  have HNL := Lib.hid hn
  have n0 : (upC u)[0]? = some (.string u.name) := rfl
  have HNM := Lib.hid (fun W => name_any u.name W hm)
  have HB1 := Lib.hid (below_new w (.cells (upC u).toArray 51))
  have HG1 := Lib.hid (heap_alloc_new w (.cells (upC u).toArray 51))
  have HR1 := Lib.hid (up_rng HG1.out ho)
  have HC1 := Lib.hid (show (w.alloc (.cells (upC u).toArray 51)).cell? ⟨w.heap.size, 0, none⟩ = some (.string u.name) by rw [cell_of_row _ _ 0 _ _ _ HG1.out]; rfl)
  have HIO := Lib.hid (fun W => isNone_any u.old W ho)
  have HIN := Lib.hid (fun W => isNone_any u.new W hn)
  have HFL := Lib.hid (find_len (n := u.name) hid)
  rw [h1] at HNM
  rw [show decide (u.old = Rf.zid) = true by simpa using h2] at HIO
  rw [show decide (u.new = Rf.zid) = false by simpa using h3] at HIN
  have HZZ := Lib.hid (show u.new = Rf.zid → Rf.find L u.name ≠ none from fun _ => h5)
  clear h1 h2 h3
  clear h hid hs ho hn hm
  go_enter Try.func44, Try.ntmps44
  go_wp2_with (first
    | (go_at_call 18; ((with_reducible refine (HNM.out _).mono ?_); rintro r wx ⟨rfl, rfl⟩))
    | ((fail_if_success (fail_if_success go_guarded)); (with_reducible refine ldg_idm (x := .tmp 13) ?_ ?_ ?_ HR1.out.1 HOL.out ?_); rfl; rfl; kernel_rfl)
    | (go_at_call 26; ((with_reducible refine (HIO.out _).mono ?_); rintro r wa ⟨rfl, hba⟩; have ca := (hba.cell (p := ⟨w.heap.size, 0, none⟩) (by simp)).trans HC1.out))
    | ((fail_if_success (fail_if_success go_guarded)); (with_reducible refine ldg_idm (x := .tmp 17) ?_ ?_ ?_ (rng_below HR1.out.2 hba (by simp)) HNL.out ?_); rfl; rfl; kernel_rfl)
    | (go_at_call 26; ((with_reducible refine (HIN.out _).mono ?_); rintro r wb ⟨rfl, hbb⟩; have cb := (hbb.cell (p := ⟨w.heap.size, 0, none⟩) (by have := hba.size; simp at this; show w.heap.size < _; omega)).trans ca)))
  have hb0 := below_step (below_step HB1.out hba) hbb
  have HGB := Lib.hid ((hbb.block w.heap.size (by have := hba.size; simp at this; omega)).trans ((hba.block w.heap.size (by simp)).trans HG1.out))
  clear hba hbb ca cb
  generalize wb = wc at *
  have hwlt : w.heap.size < wc.heap.size := (Array.getElem?_eq_some_iff.1 HGB.out).1
  refine (find_any _ L u.name _ ((HO.out.rows HD.out).below hb0) (by unfold maxLen; omega)).mono ?_
  rintro r w4 ⟨rfl, hb4⟩
  have hb04 := below_step hb0 hb4
  have HG4 := Lib.hid ((hb4.block w.heap.size hwlt).trans HGB.out)
  have hw4 : w.heap.size < w4.heap.size := by have := hb4.size; omega
  rw [findV_eq]
  have hb05 := hb04.alloc hb04.size (.cells (idC ((Rf.find L u.name).getD Rf.zid)).toArray 35)
  have HG5 := Lib.hid ((Below.heap_alloc w4 (.cells (idC ((Rf.find L u.name).getD Rf.zid)).toArray 35) w.heap.size hw4).trans HG4.out)
  have HR5 := Lib.hid (up_rng HG5.out HOL.out)
  have HI5 := Lib.hid (news_row (heap_alloc_new w4 (.cells (idC ((Rf.find L u.name).getD Rf.zid)).toArray 35)))
  have c5 : (w4.alloc (.cells (idC ((Rf.find L u.name).getD Rf.zid)).toArray 35)).cell? ⟨w.heap.size, 0, none⟩ = some (.string u.name) := by
    rw [cell_of_row _ _ 0 _ _ _ HG5.out]; rfl
  have hq := fun W => eq_id ((Rf.find L u.name).getD Rf.zid) u.old HFL.out HOL.out W
  have HSZ := Lib.hid (fun hb hz => set_any (Value.slice ao L.length cap) L base u.name u.new (w4.alloc (.cells (idC ((Rf.find L u.name).getD Rf.zid)).toArray 35)) (HO.out.below hb05) HD.out hl HNL.out hb HS.out hz)
  have hsz5 : base ≤ (w4.alloc (.cells (idC ((Rf.find L u.name).getD Rf.zid)).toArray 35)).heap.size := by simp; omega
  clear hb4 HG4 HGB
  have HNEW := Lib.hid (rfl : (w4.alloc (.cells (idC ((Rf.find L u.name).getD Rf.zid)).toArray 35)) = (w4.alloc (.cells (idC ((Rf.find L u.name).getD Rf.zid)).toArray 35)))
  rw [show decide ((Rf.find L u.name).getD Rf.zid = u.old) = true by simpa using h4] at hq
  have HFB := Lib.hid (show (Rf.find L u.name).isSome = true by cases hx : Rf.find L u.name with | none => exact absurd hx h5 | some _ => rfl)
  clear h4 h5
  generalize (Rf.find L u.name).getD Rf.zid = fi at *
  generalize (Rf.find L u.name).isSome = fb at *
  obtain rfl : fb = true := HFB.out
  go_wp2_with (first
    | ((with_reducible apply st_id (hl := HFL.out)); rfl; rfl; rfl; rfl; rfl)
    | ((with_reducible refine ld_id (x := .tmp 6) (p := ⟨w4.heap.size, 0, none⟩) ?_ ?_ ?_ HI5.out HFL.out ?_); rfl; rfl; rfl)
    | ((with_reducible refine ld_idm (x := .tmp 31) (b := w.heap.size) (o := 1) ?_ ?_ ?_ HR5.out.1 HOL.out ?_); rfl; rfl; rfl)
    | ((with_reducible refine ld_idm (x := .tmp 46) (b := w.heap.size) (o := 33) ?_ ?_ ?_ HR5.out.2 HNL.out ?_); rfl; rfl; rfl))
  refine (HSZ.out hsz5 HZZ.out).mono ?_
  rintro r w6 h6
  obtain ⟨v', rfl, h7⟩ := appP_set hb05 h6
  have HQ := Lib.hid h7
  clear h6 h7
  go_wp2_with fail
  go_ret2
  exact HQ.out

set_option maxHeartbeats 2000000 in
set_option maxRecDepth 100000 in
theorem apply_lease_d (v : Value) (L : List Rf.R) (base : Nat) (u : Rf.U) (w : World) (h : OwnF w base v L) (hid : ∀ r ∈ L, r.id.length = 32) (hl : L.length ≤ 64) (hs : Rf.Srt L) (ho : u.old.length = 32) (hn : u.new.length = 32) (hm : u.name.size ≤ maxLen) (hbase : base ≤ w.heap.size) (h1 : Rf.nameOk u.name = true) (h2 : u.old ≠ Rf.zid) (h4 : (Rf.find L u.name).getD Rf.zid ≠ u.old) :
    Calls Try.prog 44 #[v, .agg (upC u).toArray] w (AppP L L 10 base v w) := by
  obtain ⟨ao, cap, hform, hcap, hc63⟩ : ∃ ao cap, v = .slice ao L.length cap ∧ L.length ≤ cap ∧ cap ≤ 9223372036854775807 := by
    rcases h.2 with ⟨h0, h1⟩ | ⟨g, cap, cur, h0, _, _, h1, h2, _⟩
    · exact ⟨none, 0, by rw [h0, h1], by omega, by omega⟩
    · exact ⟨_, cap, h0, h1, by unfold maxLen at h2; omega⟩
  subst hform
  have HO := Lib.hid h
  have HD := Lib.hid hid
  have HS := Lib.hid hs
  have HOL := Lib.hid ho
  have HNL := Lib.hid hn
  have n0 : (upC u)[0]? = some (.string u.name) := rfl
  have HNM := Lib.hid (fun W => name_any u.name W hm)
  have HB1 := Lib.hid (below_new w (.cells (upC u).toArray 51))
  have HG1 := Lib.hid (heap_alloc_new w (.cells (upC u).toArray 51))
  have HR1 := Lib.hid (up_rng HG1.out ho)
  have HC1 := Lib.hid (show (w.alloc (.cells (upC u).toArray 51)).cell? ⟨w.heap.size, 0, none⟩ = some (.string u.name) by rw [cell_of_row _ _ 0 _ _ _ HG1.out]; rfl)
  have HIO := Lib.hid (fun W => isNone_any u.old W ho)
  have HIN := Lib.hid (fun W => isNone_any u.new W hn)
  have HFL := Lib.hid (find_len (n := u.name) hid)
  rw [h1] at HNM
  rw [show decide (u.old = Rf.zid) = false by simpa using h2] at HIO
  clear h1 h2
  clear h hid hs ho hn hm
  go_enter Try.func44, Try.ntmps44
  go_wp2_with (first
    | (go_at_call 18; ((with_reducible refine (HNM.out _).mono ?_); rintro r wx ⟨rfl, rfl⟩))
    | ((fail_if_success (fail_if_success go_guarded)); (with_reducible refine ldg_idm (x := .tmp 13) ?_ ?_ ?_ HR1.out.1 HOL.out ?_); rfl; rfl; kernel_rfl)
    | (go_at_call 26; ((with_reducible refine (HIO.out _).mono ?_); rintro r wa ⟨rfl, hba⟩; have ca := (hba.cell (p := ⟨w.heap.size, 0, none⟩) (by simp)).trans HC1.out))
    | ((fail_if_success (fail_if_success go_guarded)); (with_reducible refine ldg_idm (x := .tmp 17) ?_ ?_ ?_ (rng_below HR1.out.2 hba (by simp)) HNL.out ?_); rfl; rfl; kernel_rfl)
    | (go_at_call 26; ((with_reducible refine (HIN.out _).mono ?_); rintro r wb ⟨rfl, hbb⟩; have cb := (hbb.cell (p := ⟨w.heap.size, 0, none⟩) (by have := hba.size; simp at this; show w.heap.size < _; omega)).trans ca)))
  have hb0 := below_step HB1.out hba
  have HGB := Lib.hid ((hba.block w.heap.size (by simp)).trans HG1.out)
  clear hba ca
  generalize wa = wc at *
  have hwlt : w.heap.size < wc.heap.size := (Array.getElem?_eq_some_iff.1 HGB.out).1
  refine (find_any _ L u.name _ ((HO.out.rows HD.out).below hb0) (by unfold maxLen; omega)).mono ?_
  rintro r w4 ⟨rfl, hb4⟩
  have hb04 := below_step hb0 hb4
  have HG4 := Lib.hid ((hb4.block w.heap.size hwlt).trans HGB.out)
  have hw4 : w.heap.size < w4.heap.size := by have := hb4.size; omega
  rw [findV_eq]
  have hb05 := hb04.alloc hb04.size (.cells (idC ((Rf.find L u.name).getD Rf.zid)).toArray 35)
  have HG5 := Lib.hid ((Below.heap_alloc w4 (.cells (idC ((Rf.find L u.name).getD Rf.zid)).toArray 35) w.heap.size hw4).trans HG4.out)
  have HR5 := Lib.hid (up_rng HG5.out HOL.out)
  have HI5 := Lib.hid (news_row (heap_alloc_new w4 (.cells (idC ((Rf.find L u.name).getD Rf.zid)).toArray 35)))
  have c5 : (w4.alloc (.cells (idC ((Rf.find L u.name).getD Rf.zid)).toArray 35)).cell? ⟨w.heap.size, 0, none⟩ = some (.string u.name) := by
    rw [cell_of_row _ _ 0 _ _ _ HG5.out]; rfl
  have hq := fun W => eq_id ((Rf.find L u.name).getD Rf.zid) u.old HFL.out HOL.out W
  have HSZ := Lib.hid (fun hb hz => set_any (Value.slice ao L.length cap) L base u.name u.new (w4.alloc (.cells (idC ((Rf.find L u.name).getD Rf.zid)).toArray 35)) (HO.out.below hb05) HD.out hl HNL.out hb HS.out hz)
  have hsz5 : base ≤ (w4.alloc (.cells (idC ((Rf.find L u.name).getD Rf.zid)).toArray 35)).heap.size := by simp; omega
  clear hb4 HG4 HGB
  have HNEW := Lib.hid (rfl : (w4.alloc (.cells (idC ((Rf.find L u.name).getD Rf.zid)).toArray 35)) = (w4.alloc (.cells (idC ((Rf.find L u.name).getD Rf.zid)).toArray 35)))
  rw [show decide ((Rf.find L u.name).getD Rf.zid = u.old) = false by simpa using h4] at hq
  clear h4
  generalize (Rf.find L u.name).getD Rf.zid = fi at *
  generalize (Rf.find L u.name).isSome = fb at *

  go_wp2_with (first
    | ((with_reducible apply st_id (hl := HFL.out)); rfl; rfl; rfl; rfl; rfl)
    | ((with_reducible refine ld_id (x := .tmp 6) (p := ⟨w4.heap.size, 0, none⟩) ?_ ?_ ?_ HI5.out HFL.out ?_); rfl; rfl; rfl)
    | ((with_reducible refine ld_idm (x := .tmp 31) (b := w.heap.size) (o := 1) ?_ ?_ ?_ HR5.out.1 HOL.out ?_); rfl; rfl; rfl)
    | ((with_reducible refine ld_idm (x := .tmp 46) (b := w.heap.size) (o := 33) ?_ ?_ ?_ HR5.out.2 HNL.out ?_); rfl; rfl; rfl))
  have HQ := Lib.hid (appP_same (x := 10) HO.out hb05)
  go_ret2
  exact HQ.out

set_option maxHeartbeats 2000000 in
set_option maxRecDepth 100000 in
theorem apply_limit_d (v : Value) (L : List Rf.R) (base : Nat) (u : Rf.U) (w : World) (h : OwnF w base v L) (hid : ∀ r ∈ L, r.id.length = 32) (hl : L.length ≤ 64) (hs : Rf.Srt L) (ho : u.old.length = 32) (hn : u.new.length = 32) (hm : u.name.size ≤ maxLen) (hbase : base ≤ w.heap.size) (h1 : Rf.nameOk u.name = true) (h2 : u.old ≠ Rf.zid) (h4 : (Rf.find L u.name).getD Rf.zid = u.old) (h5 : Rf.find L u.name = none) (h6 : ¬ L.length < 64) :
    Calls Try.prog 44 #[v, .agg (upC u).toArray] w (AppP L L 3 base v w) := by
  obtain ⟨ao, cap, hform, hcap, hc63⟩ : ∃ ao cap, v = .slice ao L.length cap ∧ L.length ≤ cap ∧ cap ≤ 9223372036854775807 := by
    rcases h.2 with ⟨h0, h1⟩ | ⟨g, cap, cur, h0, _, _, h1, h2, _⟩
    · exact ⟨none, 0, by rw [h0, h1], by omega, by omega⟩
    · exact ⟨_, cap, h0, h1, by unfold maxLen at h2; omega⟩
  subst hform
  have HO := Lib.hid h
  have HD := Lib.hid hid
  have HS := Lib.hid hs
  have HOL := Lib.hid ho
  have HNL := Lib.hid hn
  have n0 : (upC u)[0]? = some (.string u.name) := rfl
  have HNM := Lib.hid (fun W => name_any u.name W hm)
  have HB1 := Lib.hid (below_new w (.cells (upC u).toArray 51))
  have HG1 := Lib.hid (heap_alloc_new w (.cells (upC u).toArray 51))
  have HR1 := Lib.hid (up_rng HG1.out ho)
  have HC1 := Lib.hid (show (w.alloc (.cells (upC u).toArray 51)).cell? ⟨w.heap.size, 0, none⟩ = some (.string u.name) by rw [cell_of_row _ _ 0 _ _ _ HG1.out]; rfl)
  have HIO := Lib.hid (fun W => isNone_any u.old W ho)
  have HIN := Lib.hid (fun W => isNone_any u.new W hn)
  have HFL := Lib.hid (find_len (n := u.name) hid)
  rw [h1] at HNM
  rw [show decide (u.old = Rf.zid) = false by simpa using h2] at HIO
  clear h1 h2
  clear h hid hs ho hn hm
  go_enter Try.func44, Try.ntmps44
  go_wp2_with (first
    | (go_at_call 18; ((with_reducible refine (HNM.out _).mono ?_); rintro r wx ⟨rfl, rfl⟩))
    | ((fail_if_success (fail_if_success go_guarded)); (with_reducible refine ldg_idm (x := .tmp 13) ?_ ?_ ?_ HR1.out.1 HOL.out ?_); rfl; rfl; kernel_rfl)
    | (go_at_call 26; ((with_reducible refine (HIO.out _).mono ?_); rintro r wa ⟨rfl, hba⟩; have ca := (hba.cell (p := ⟨w.heap.size, 0, none⟩) (by simp)).trans HC1.out))
    | ((fail_if_success (fail_if_success go_guarded)); (with_reducible refine ldg_idm (x := .tmp 17) ?_ ?_ ?_ (rng_below HR1.out.2 hba (by simp)) HNL.out ?_); rfl; rfl; kernel_rfl)
    | (go_at_call 26; ((with_reducible refine (HIN.out _).mono ?_); rintro r wb ⟨rfl, hbb⟩; have cb := (hbb.cell (p := ⟨w.heap.size, 0, none⟩) (by have := hba.size; simp at this; show w.heap.size < _; omega)).trans ca)))
  have hb0 := below_step HB1.out hba
  have HGB := Lib.hid ((hba.block w.heap.size (by simp)).trans HG1.out)
  clear hba ca
  generalize wa = wc at *
  have hwlt : w.heap.size < wc.heap.size := (Array.getElem?_eq_some_iff.1 HGB.out).1
  refine (find_any _ L u.name _ ((HO.out.rows HD.out).below hb0) (by unfold maxLen; omega)).mono ?_
  rintro r w4 ⟨rfl, hb4⟩
  have hb04 := below_step hb0 hb4
  have HG4 := Lib.hid ((hb4.block w.heap.size hwlt).trans HGB.out)
  have hw4 : w.heap.size < w4.heap.size := by have := hb4.size; omega
  rw [findV_eq]
  have hb05 := hb04.alloc hb04.size (.cells (idC ((Rf.find L u.name).getD Rf.zid)).toArray 35)
  have HG5 := Lib.hid ((Below.heap_alloc w4 (.cells (idC ((Rf.find L u.name).getD Rf.zid)).toArray 35) w.heap.size hw4).trans HG4.out)
  have HR5 := Lib.hid (up_rng HG5.out HOL.out)
  have HI5 := Lib.hid (news_row (heap_alloc_new w4 (.cells (idC ((Rf.find L u.name).getD Rf.zid)).toArray 35)))
  have c5 : (w4.alloc (.cells (idC ((Rf.find L u.name).getD Rf.zid)).toArray 35)).cell? ⟨w.heap.size, 0, none⟩ = some (.string u.name) := by
    rw [cell_of_row _ _ 0 _ _ _ HG5.out]; rfl
  have hq := fun W => eq_id ((Rf.find L u.name).getD Rf.zid) u.old HFL.out HOL.out W
  have HSZ := Lib.hid (fun hb hz => set_any (Value.slice ao L.length cap) L base u.name u.new (w4.alloc (.cells (idC ((Rf.find L u.name).getD Rf.zid)).toArray 35)) (HO.out.below hb05) HD.out hl HNL.out hb HS.out hz)
  have hsz5 : base ≤ (w4.alloc (.cells (idC ((Rf.find L u.name).getD Rf.zid)).toArray 35)).heap.size := by simp; omega
  clear hb4 HG4 HGB
  have HNEW := Lib.hid (rfl : (w4.alloc (.cells (idC ((Rf.find L u.name).getD Rf.zid)).toArray 35)) = (w4.alloc (.cells (idC ((Rf.find L u.name).getD Rf.zid)).toArray 35)))
  rw [show decide ((Rf.find L u.name).getD Rf.zid = u.old) = true by simpa using h4] at hq
  have HFB := Lib.hid (show (Rf.find L u.name).isSome = false by rw [h5]; rfl)
  have e64 : ((L.length : Int) == 64) = true := by rw [beq_iff_eq]; omega
  clear h4 h5 h6
  generalize (Rf.find L u.name).getD Rf.zid = fi at *
  generalize (Rf.find L u.name).isSome = fb at *
  obtain rfl : fb = false := HFB.out
  go_wp2_with (first
    | ((with_reducible apply st_id (hl := HFL.out)); rfl; rfl; rfl; rfl; rfl)
    | ((with_reducible refine ld_id (x := .tmp 6) (p := ⟨w4.heap.size, 0, none⟩) ?_ ?_ ?_ HI5.out HFL.out ?_); rfl; rfl; rfl)
    | ((with_reducible refine ld_idm (x := .tmp 31) (b := w.heap.size) (o := 1) ?_ ?_ ?_ HR5.out.1 HOL.out ?_); rfl; rfl; rfl)
    | ((with_reducible refine ld_idm (x := .tmp 46) (b := w.heap.size) (o := 33) ?_ ?_ ?_ HR5.out.2 HNL.out ?_); rfl; rfl; rfl))
  have HQ := Lib.hid (appP_same (x := 3) HO.out hb05)
  go_ret2
  exact HQ.out

set_option maxHeartbeats 2000000 in
set_option maxRecDepth 100000 in
theorem apply_new_d (v : Value) (L : List Rf.R) (base : Nat) (u : Rf.U) (w : World) (h : OwnF w base v L) (hid : ∀ r ∈ L, r.id.length = 32) (hl : L.length ≤ 64) (hs : Rf.Srt L) (ho : u.old.length = 32) (hn : u.new.length = 32) (hm : u.name.size ≤ maxLen) (hbase : base ≤ w.heap.size) (h1 : Rf.nameOk u.name = true) (h2 : u.old ≠ Rf.zid) (h4 : (Rf.find L u.name).getD Rf.zid = u.old) (h5 : Rf.find L u.name = none) (h6 : L.length ≠ 64) :
    Calls Try.prog 44 #[v, .agg (upC u).toArray] w (AppP L (Rf.put L u.name u.new) 0 base v w) := by
  obtain ⟨ao, cap, hform, hcap, hc63⟩ : ∃ ao cap, v = .slice ao L.length cap ∧ L.length ≤ cap ∧ cap ≤ 9223372036854775807 := by
    rcases h.2 with ⟨h0, h1⟩ | ⟨g, cap, cur, h0, _, _, h1, h2, _⟩
    · exact ⟨none, 0, by rw [h0, h1], by omega, by omega⟩
    · exact ⟨_, cap, h0, h1, by unfold maxLen at h2; omega⟩
  subst hform
  have HO := Lib.hid h
  have HD := Lib.hid hid
  have HS := Lib.hid hs
  have HOL := Lib.hid ho
  have HNL := Lib.hid hn
  have n0 : (upC u)[0]? = some (.string u.name) := rfl
  have HNM := Lib.hid (fun W => name_any u.name W hm)
  have HB1 := Lib.hid (below_new w (.cells (upC u).toArray 51))
  have HG1 := Lib.hid (heap_alloc_new w (.cells (upC u).toArray 51))
  have HR1 := Lib.hid (up_rng HG1.out ho)
  have HC1 := Lib.hid (show (w.alloc (.cells (upC u).toArray 51)).cell? ⟨w.heap.size, 0, none⟩ = some (.string u.name) by rw [cell_of_row _ _ 0 _ _ _ HG1.out]; rfl)
  have HIO := Lib.hid (fun W => isNone_any u.old W ho)
  have HIN := Lib.hid (fun W => isNone_any u.new W hn)
  have HFL := Lib.hid (find_len (n := u.name) hid)
  rw [h1] at HNM
  rw [show decide (u.old = Rf.zid) = false by simpa using h2] at HIO
  have HZZ := Lib.hid (show u.new = Rf.zid → Rf.find L u.name ≠ none from fun e hf => absurd (show u.old = Rf.zid by rw [← h4, hf]; rfl) h2)
  clear h1 h2
  clear h hid hs ho hn hm
  go_enter Try.func44, Try.ntmps44
  go_wp2_with (first
    | (go_at_call 18; ((with_reducible refine (HNM.out _).mono ?_); rintro r wx ⟨rfl, rfl⟩))
    | ((fail_if_success (fail_if_success go_guarded)); (with_reducible refine ldg_idm (x := .tmp 13) ?_ ?_ ?_ HR1.out.1 HOL.out ?_); rfl; rfl; kernel_rfl)
    | (go_at_call 26; ((with_reducible refine (HIO.out _).mono ?_); rintro r wa ⟨rfl, hba⟩; have ca := (hba.cell (p := ⟨w.heap.size, 0, none⟩) (by simp)).trans HC1.out))
    | ((fail_if_success (fail_if_success go_guarded)); (with_reducible refine ldg_idm (x := .tmp 17) ?_ ?_ ?_ (rng_below HR1.out.2 hba (by simp)) HNL.out ?_); rfl; rfl; kernel_rfl)
    | (go_at_call 26; ((with_reducible refine (HIN.out _).mono ?_); rintro r wb ⟨rfl, hbb⟩; have cb := (hbb.cell (p := ⟨w.heap.size, 0, none⟩) (by have := hba.size; simp at this; show w.heap.size < _; omega)).trans ca)))
  have hb0 := below_step HB1.out hba
  have HGB := Lib.hid ((hba.block w.heap.size (by simp)).trans HG1.out)
  clear hba ca
  generalize wa = wc at *
  have hwlt : w.heap.size < wc.heap.size := (Array.getElem?_eq_some_iff.1 HGB.out).1
  refine (find_any _ L u.name _ ((HO.out.rows HD.out).below hb0) (by unfold maxLen; omega)).mono ?_
  rintro r w4 ⟨rfl, hb4⟩
  have hb04 := below_step hb0 hb4
  have HG4 := Lib.hid ((hb4.block w.heap.size hwlt).trans HGB.out)
  have hw4 : w.heap.size < w4.heap.size := by have := hb4.size; omega
  rw [findV_eq]
  have hb05 := hb04.alloc hb04.size (.cells (idC ((Rf.find L u.name).getD Rf.zid)).toArray 35)
  have HG5 := Lib.hid ((Below.heap_alloc w4 (.cells (idC ((Rf.find L u.name).getD Rf.zid)).toArray 35) w.heap.size hw4).trans HG4.out)
  have HR5 := Lib.hid (up_rng HG5.out HOL.out)
  have HI5 := Lib.hid (news_row (heap_alloc_new w4 (.cells (idC ((Rf.find L u.name).getD Rf.zid)).toArray 35)))
  have c5 : (w4.alloc (.cells (idC ((Rf.find L u.name).getD Rf.zid)).toArray 35)).cell? ⟨w.heap.size, 0, none⟩ = some (.string u.name) := by
    rw [cell_of_row _ _ 0 _ _ _ HG5.out]; rfl
  have hq := fun W => eq_id ((Rf.find L u.name).getD Rf.zid) u.old HFL.out HOL.out W
  have HSZ := Lib.hid (fun hb hz => set_any (Value.slice ao L.length cap) L base u.name u.new (w4.alloc (.cells (idC ((Rf.find L u.name).getD Rf.zid)).toArray 35)) (HO.out.below hb05) HD.out hl HNL.out hb HS.out hz)
  have hsz5 : base ≤ (w4.alloc (.cells (idC ((Rf.find L u.name).getD Rf.zid)).toArray 35)).heap.size := by simp; omega
  clear hb4 HG4 HGB
  have HNEW := Lib.hid (rfl : (w4.alloc (.cells (idC ((Rf.find L u.name).getD Rf.zid)).toArray 35)) = (w4.alloc (.cells (idC ((Rf.find L u.name).getD Rf.zid)).toArray 35)))
  rw [show decide ((Rf.find L u.name).getD Rf.zid = u.old) = true by simpa using h4] at hq
  have HFB := Lib.hid (show (Rf.find L u.name).isSome = false by rw [h5]; rfl)
  have e64 : ((L.length : Int) == 64) = false := beq_eq_false_iff_ne.2 (by omega)
  clear h4 h5 h6
  generalize (Rf.find L u.name).getD Rf.zid = fi at *
  generalize (Rf.find L u.name).isSome = fb at *
  obtain rfl : fb = false := HFB.out
  go_wp2_with (first
    | ((with_reducible apply st_id (hl := HFL.out)); rfl; rfl; rfl; rfl; rfl)
    | ((with_reducible refine ld_id (x := .tmp 6) (p := ⟨w4.heap.size, 0, none⟩) ?_ ?_ ?_ HI5.out HFL.out ?_); rfl; rfl; rfl)
    | ((with_reducible refine ld_idm (x := .tmp 31) (b := w.heap.size) (o := 1) ?_ ?_ ?_ HR5.out.1 HOL.out ?_); rfl; rfl; rfl)
    | ((with_reducible refine ld_idm (x := .tmp 46) (b := w.heap.size) (o := 33) ?_ ?_ ?_ HR5.out.2 HNL.out ?_); rfl; rfl; rfl))
  refine (HSZ.out hsz5 HZZ.out).mono ?_
  rintro r w6 h6
  obtain ⟨v', rfl, h7⟩ := appP_set hb05 h6
  have HQ := Lib.hid h7
  clear h6 h7
  go_wp2_with fail
  go_ret2
  exact HQ.out

set_option maxHeartbeats 2000000 in
set_option maxRecDepth 100000 in
theorem apply_old_d (v : Value) (L : List Rf.R) (base : Nat) (u : Rf.U) (w : World) (h : OwnF w base v L) (hid : ∀ r ∈ L, r.id.length = 32) (hl : L.length ≤ 64) (hs : Rf.Srt L) (ho : u.old.length = 32) (hn : u.new.length = 32) (hm : u.name.size ≤ maxLen) (hbase : base ≤ w.heap.size) (h1 : Rf.nameOk u.name = true) (h2 : u.old ≠ Rf.zid) (h4 : (Rf.find L u.name).getD Rf.zid = u.old) (h5 : Rf.find L u.name ≠ none) :
    Calls Try.prog 44 #[v, .agg (upC u).toArray] w (AppP L (Rf.put L u.name u.new) 0 base v w) := by
  obtain ⟨ao, cap, hform, hcap, hc63⟩ : ∃ ao cap, v = .slice ao L.length cap ∧ L.length ≤ cap ∧ cap ≤ 9223372036854775807 := by
    rcases h.2 with ⟨h0, h1⟩ | ⟨g, cap, cur, h0, _, _, h1, h2, _⟩
    · exact ⟨none, 0, by rw [h0, h1], by omega, by omega⟩
    · exact ⟨_, cap, h0, h1, by unfold maxLen at h2; omega⟩
  subst hform
  have HO := Lib.hid h
  have HD := Lib.hid hid
  have HS := Lib.hid hs
  have HOL := Lib.hid ho
  have HNL := Lib.hid hn
  have n0 : (upC u)[0]? = some (.string u.name) := rfl
  have HNM := Lib.hid (fun W => name_any u.name W hm)
  have HB1 := Lib.hid (below_new w (.cells (upC u).toArray 51))
  have HG1 := Lib.hid (heap_alloc_new w (.cells (upC u).toArray 51))
  have HR1 := Lib.hid (up_rng HG1.out ho)
  have HC1 := Lib.hid (show (w.alloc (.cells (upC u).toArray 51)).cell? ⟨w.heap.size, 0, none⟩ = some (.string u.name) by rw [cell_of_row _ _ 0 _ _ _ HG1.out]; rfl)
  have HIO := Lib.hid (fun W => isNone_any u.old W ho)
  have HIN := Lib.hid (fun W => isNone_any u.new W hn)
  have HFL := Lib.hid (find_len (n := u.name) hid)
  rw [h1] at HNM
  rw [show decide (u.old = Rf.zid) = false by simpa using h2] at HIO
  have HZZ := Lib.hid (show u.new = Rf.zid → Rf.find L u.name ≠ none from fun _ => h5)
  clear h1 h2
  clear h hid hs ho hn hm
  go_enter Try.func44, Try.ntmps44
  go_wp2_with (first
    | (go_at_call 18; ((with_reducible refine (HNM.out _).mono ?_); rintro r wx ⟨rfl, rfl⟩))
    | ((fail_if_success (fail_if_success go_guarded)); (with_reducible refine ldg_idm (x := .tmp 13) ?_ ?_ ?_ HR1.out.1 HOL.out ?_); rfl; rfl; kernel_rfl)
    | (go_at_call 26; ((with_reducible refine (HIO.out _).mono ?_); rintro r wa ⟨rfl, hba⟩; have ca := (hba.cell (p := ⟨w.heap.size, 0, none⟩) (by simp)).trans HC1.out))
    | ((fail_if_success (fail_if_success go_guarded)); (with_reducible refine ldg_idm (x := .tmp 17) ?_ ?_ ?_ (rng_below HR1.out.2 hba (by simp)) HNL.out ?_); rfl; rfl; kernel_rfl)
    | (go_at_call 26; ((with_reducible refine (HIN.out _).mono ?_); rintro r wb ⟨rfl, hbb⟩; have cb := (hbb.cell (p := ⟨w.heap.size, 0, none⟩) (by have := hba.size; simp at this; show w.heap.size < _; omega)).trans ca)))
  have hb0 := below_step HB1.out hba
  have HGB := Lib.hid ((hba.block w.heap.size (by simp)).trans HG1.out)
  clear hba ca
  generalize wa = wc at *
  have hwlt : w.heap.size < wc.heap.size := (Array.getElem?_eq_some_iff.1 HGB.out).1
  refine (find_any _ L u.name _ ((HO.out.rows HD.out).below hb0) (by unfold maxLen; omega)).mono ?_
  rintro r w4 ⟨rfl, hb4⟩
  have hb04 := below_step hb0 hb4
  have HG4 := Lib.hid ((hb4.block w.heap.size hwlt).trans HGB.out)
  have hw4 : w.heap.size < w4.heap.size := by have := hb4.size; omega
  rw [findV_eq]
  have hb05 := hb04.alloc hb04.size (.cells (idC ((Rf.find L u.name).getD Rf.zid)).toArray 35)
  have HG5 := Lib.hid ((Below.heap_alloc w4 (.cells (idC ((Rf.find L u.name).getD Rf.zid)).toArray 35) w.heap.size hw4).trans HG4.out)
  have HR5 := Lib.hid (up_rng HG5.out HOL.out)
  have HI5 := Lib.hid (news_row (heap_alloc_new w4 (.cells (idC ((Rf.find L u.name).getD Rf.zid)).toArray 35)))
  have c5 : (w4.alloc (.cells (idC ((Rf.find L u.name).getD Rf.zid)).toArray 35)).cell? ⟨w.heap.size, 0, none⟩ = some (.string u.name) := by
    rw [cell_of_row _ _ 0 _ _ _ HG5.out]; rfl
  have hq := fun W => eq_id ((Rf.find L u.name).getD Rf.zid) u.old HFL.out HOL.out W
  have HSZ := Lib.hid (fun hb hz => set_any (Value.slice ao L.length cap) L base u.name u.new (w4.alloc (.cells (idC ((Rf.find L u.name).getD Rf.zid)).toArray 35)) (HO.out.below hb05) HD.out hl HNL.out hb HS.out hz)
  have hsz5 : base ≤ (w4.alloc (.cells (idC ((Rf.find L u.name).getD Rf.zid)).toArray 35)).heap.size := by simp; omega
  clear hb4 HG4 HGB
  have HNEW := Lib.hid (rfl : (w4.alloc (.cells (idC ((Rf.find L u.name).getD Rf.zid)).toArray 35)) = (w4.alloc (.cells (idC ((Rf.find L u.name).getD Rf.zid)).toArray 35)))
  rw [show decide ((Rf.find L u.name).getD Rf.zid = u.old) = true by simpa using h4] at hq
  have HFB := Lib.hid (show (Rf.find L u.name).isSome = true by cases hx : Rf.find L u.name with | none => exact absurd hx h5 | some _ => rfl)
  clear h4 h5
  generalize (Rf.find L u.name).getD Rf.zid = fi at *
  generalize (Rf.find L u.name).isSome = fb at *
  obtain rfl : fb = true := HFB.out
  go_wp2_with (first
    | ((with_reducible apply st_id (hl := HFL.out)); rfl; rfl; rfl; rfl; rfl)
    | ((with_reducible refine ld_id (x := .tmp 6) (p := ⟨w4.heap.size, 0, none⟩) ?_ ?_ ?_ HI5.out HFL.out ?_); rfl; rfl; rfl)
    | ((with_reducible refine ld_idm (x := .tmp 31) (b := w.heap.size) (o := 1) ?_ ?_ ?_ HR5.out.1 HOL.out ?_); rfl; rfl; rfl)
    | ((with_reducible refine ld_idm (x := .tmp 46) (b := w.heap.size) (o := 33) ?_ ?_ ?_ HR5.out.2 HNL.out ?_); rfl; rfl; rfl))
  refine (HSZ.out hsz5 HZZ.out).mono ?_
  rintro r w6 h6
  obtain ⟨v', rfl, h7⟩ := appP_set hb05 h6
  have HQ := Lib.hid h7
  clear h6 h7
  go_wp2_with fail
  go_ret2
  exact HQ.out

theorem apply_any (v : Value) (L : List Rf.R) (base : Nat) (u : Rf.U) (w : World) (h : OwnF w base v L) (hid : ∀ r ∈ L, r.id.length = 32) (hl : L.length ≤ 64) (hs : Rf.Srt L) (ho : u.old.length = 32) (hn : u.new.length = 32) (hm : u.name.size ≤ maxLen) (hbase : base ≤ w.heap.size) :
    Calls Try.prog 44 #[v, .agg (upC u).toArray] w (AppP L (Rf.nxt L [] u) (Rf.wrong L [] u) base v w) := by
  have key : ∀ (x : Nat) (M : List Rf.R), Rf.wrong L [] u = x → Rf.nxt L [] u = M → Calls Try.prog 44 #[v, .agg (upC u).toArray] w (AppP L M x base v w) → Calls Try.prog 44 #[v, .agg (upC u).toArray] w (AppP L (Rf.nxt L [] u) (Rf.wrong L [] u) base v w) := by
    rintro x M rfl rfl h; exact h
  have hbad : ∀ x : Nat, x ≠ 0 → Rf.wrong L [] u = x → Rf.nxt L [] u = L := fun x hx hw => by unfold Rf.nxt; rw [hw, if_neg hx]
  have hgood : Rf.wrong L [] u = 0 → Rf.nxt L [] u = Rf.put L u.name u.new := fun hw => by unfold Rf.nxt; rw [hw, if_pos rfl]
  cases h1 : Rf.nameOk u.name with
  | false =>
    have hw : Rf.wrong L [] u = 8 := by unfold Rf.wrong; rw [if_pos (.inl (.inl h1))]
    exact key 8 L hw (hbad 8 (by decide) hw) (apply_name v L base u w h hid hl hs ho hn hm hbase h1)
  | true =>
    by_cases hzz : u.old = Rf.zid ∧ u.new = Rf.zid
    · have hw : Rf.wrong L [] u = 8 := by unfold Rf.wrong; rw [if_pos (.inl (.inr hzz))]
      exact key 8 L hw (hbad 8 (by decide) hw) (apply_zero v L base u w h hid hl hs ho hn hm hbase h1 hzz.1 hzz.2)
    · have h8 : ¬ ((Rf.nameOk u.name = false ∨ (u.old = Rf.zid ∧ u.new = Rf.zid)) ∨ Rf.hasN [] u.name = true) := by
        rintro ((h | h) | h)
        · rw [h1] at h; cases h
        · exact hzz h
        · simp [Rf.hasN] at h
      by_cases h4 : (Rf.find L u.name).getD Rf.zid = u.old
      · by_cases h5 : Rf.find L u.name = none
        · by_cases h6 : L.length = 64
          · have hw : Rf.wrong L [] u = 3 := by unfold Rf.wrong; rw [if_neg h8, if_neg (fun hh => hh h4), if_pos ⟨h5, h6⟩]
            refine key 3 L hw (hbad 3 (by decide) hw) ?_
            by_cases h2 : u.old = Rf.zid
            · exact apply_limit_c v L base u w h hid hl hs ho hn hm hbase h1 h2 (fun e => hzz ⟨h2, e⟩) h4 h5 (by omega)
            · exact apply_limit_d v L base u w h hid hl hs ho hn hm hbase h1 h2 h4 h5 (by omega)
          · have hw : Rf.wrong L [] u = 0 := by unfold Rf.wrong; rw [if_neg h8, if_neg (fun hh => hh h4), if_neg (fun hh => h6 hh.2)]
            refine key 0 _ hw (hgood hw) ?_
            by_cases h2 : u.old = Rf.zid
            · exact apply_new_c v L base u w h hid hl hs ho hn hm hbase h1 h2 (fun e => hzz ⟨h2, e⟩) h4 h5 h6
            · exact apply_new_d v L base u w h hid hl hs ho hn hm hbase h1 h2 h4 h5 h6
        · have hw : Rf.wrong L [] u = 0 := by unfold Rf.wrong; rw [if_neg h8, if_neg (fun hh => hh h4), if_neg (fun hh => h5 hh.1)]
          refine key 0 _ hw (hgood hw) ?_
          by_cases h2 : u.old = Rf.zid
          · exact apply_old_c v L base u w h hid hl hs ho hn hm hbase h1 h2 (fun e => hzz ⟨h2, e⟩) h4 h5
          · exact apply_old_d v L base u w h hid hl hs ho hn hm hbase h1 h2 h4 h5
      · have hw : Rf.wrong L [] u = 10 := by unfold Rf.wrong; rw [if_neg h8, if_pos h4]
        refine key 10 L hw (hbad 10 (by decide) hw) ?_
        by_cases h2 : u.old = Rf.zid
        · exact apply_lease_c v L base u w h hid hl hs ho hn hm hbase h1 h2 (fun e => hzz ⟨h2, e⟩) h4
        · exact apply_lease_d v L base u w h hid hl hs ho hn hm hbase h1 h2 h4

end Go.Proofs.Ytkdljagcdaphdaa
