/-
  WALKS OF LAYER 11: the document's With of an object's encoding.
-/
import Derived.Test.YtipigedopmgemaaDoorStWith2
namespace Go.Proofs.YtipigedopmgemaaDoor
open Go.RowKit
set_option linter.unusedVariables false
set_option linter.unusedSimpArgs false

/-- What With has made behind its first three calls. -/
structure Pre (w W : World) (v : Value) (cs : Array Value) (o : Ob) (ao bo : Option Addr) (ca cb : Nat) (id : List UInt8) (n1 n2 : Nat) : Prop where
  tri : Tri w W v
  ob : W.heap[n1]? = some (.cells cs 42)
  idb : W.heap[n2]? = some (.cells (idC id).toArray 35)
  oat : ObAt W cs o ao bo ca cb
  fresh : ∀ a, ao = some a ∨ bo = some a → w.heap.size + 1 + 1 < a.block
  lt1 : n1 < W.heap.size
  lt2 : n2 < W.heap.size
theorem Pre.below {w W W' : World} {v : Value} {cs : Array Value} {o : Ob} {ao bo : Option Addr} {ca cb n1 n2 : Nat} {id : List UInt8} (h : Pre w W v cs o ao bo ca cb id n1 n2) (hb : Below W.heap.size W W') : Pre w W' v cs o ao bo ca cb id n1 n2 :=
  ⟨h.tri.below hb, (hb.block _ h.lt1).trans h.ob, (hb.block _ h.lt2).trans h.idb, h.oat.below hb, h.fresh, Nat.lt_of_lt_of_le h.lt1 hb.size, Nat.lt_of_lt_of_le h.lt2 hb.size⟩
theorem Pre.idr {w W : World} {v : Value} {cs : Array Value} {o : Ob} {ao bo : Option Addr} {ca cb n1 n2 : Nat} {id : List UInt8} (h : Pre w W v cs o ao bo ca cb id n1 n2) : ∀ j u, (idC id)[j]? = some u → W.cell? ((⟨n2, 0, none⟩ : Addr).add j) = some u := row_news h.idb
/-- Items of the old store, and one that is new. -/
structure ItN (w : World) (c0 : List Value) (x : St.It) (C : List (List Value)) (M : List St.It) : Prop where
  len : C.length = M.length
  at_ : ∀ (i : Nat) (c : List Value) (y : St.It), C[i]? = some c → M[i]? = some y → DIt w c y ∨ (c = c0 ∧ y = x)
theorem ItN.nil (w : World) (c0 : List Value) (x : St.It) : ItN w c0 x [] [] := ⟨rfl, fun i c y h => by simp at h⟩
theorem ItN.push {w : World} {c0 : List Value} {x : St.It} {C : List (List Value)} {M : List St.It} {c : List Value} {y : St.It} (h : ItN w c0 x C M) (hc : DIt w c y ∨ (c = c0 ∧ y = x)) : ItN w c0 x (C ++ [c]) (M ++ [y]) := by
  refine ⟨by simp [h.len], fun i d z hd hz => ?_⟩
  by_cases hi : i < C.length
  · rw [List.getElem?_append_left hi] at hd
    rw [List.getElem?_append_left (by rw [← h.len]; exact hi)] at hz
    exact h.at_ i d z hd hz
  · have hic : i = C.length := by
      have := (List.getElem?_eq_some_iff.1 hd).1
      simp at this; omega
    subst hic
    rw [List.getElem?_append_right (Nat.le_refl _)] at hd
    rw [List.getElem?_append_right (by rw [h.len]; exact Nat.le_refl _), h.len] at hz
    simp at hd hz
    subst hd hz
    exact hc
theorem ItN.its {w W : World} {c0 : List Value} {x : St.It} {C : List (List Value)} {M : List St.It} (h : ItN w c0 x C M) (hb : Below w.heap.size w W) (hx : DIt W c0 x) : Its W C M :=
  ⟨h.len, fun i c y hc hy => by
    rcases h.at_ i c y hc hy with h1 | ⟨rfl, rfl⟩
    · exact h1.below hb
    · exact hx⟩
theorem DSt.lift {w W : World} {ao : Option Addr} {n cap : Nat} {L : List St.It} (h : DSt w (.slice ao n cap) L) (hb : Below w.heap.size w W) (i : Nat) (x : St.It) (hi : L[i]? = some x) :
    ∃ a c, ao = some a ∧ DIt w c x ∧ ∀ j u, c[j]? = some u → W.cell? ((a.add (i * 105)).add j) = some u := by
  obtain ⟨a, c, e, hd, hc⟩ := h.elem i x hi
  refine ⟨a, c, e, hd, fun j u hu => ?_⟩
  have h1 := hc j u hu
  rw [hb.cell (World.block_lt_of_cell? w _ h1)]; exact h1
theorem DIt.ids {w W : World} {c : List Value} {x : St.It} {p : Addr} (h : DIt w c x) (hc : ∀ j u, c[j]? = some u → W.cell? (p.add j) = some u) : ∀ j u, (idC x.id)[j]? = some u → W.cell? (p.add j) = some u := by
  obtain ⟨o, cs, rfl, _⟩ := h
  exact ri_id hc
/-- What is so behind With's two stores. -/
theorem Pre.final {w W : World} {v u : Value} {cs : Array Value} {o : Ob} {ao bo : Option Addr} {ca cb n1 n2 : Nat} {id : List UInt8} (h : Pre w W v cs o ao bo ca cb id n1 n2) (hl : id.length = 32) :
    ObAt ((W.setRow (w.heap.size + 1) #[u]).setRow (w.heap.size + 1 + 1) (idC id).toArray) cs o ao bo ca cb :=
  (h.oat.setRow (fun a ha => by have := h.fresh a ha; omega)).setRow (fun a ha => by have := h.fresh a ha; omega)

/-- What With's last region reads. -/
structure Rd2 (n0 n2 : Nat) (v : Value) (id : List UInt8) (W : World) : Prop where
  c : W.cell? ⟨n0, 0, none⟩ = some v
  r : W.rangeAt n2 0 (idC id)
theorem Rd2.setRow {n0 n2 k : Nat} {v : Value} {id : List UInt8} {W : World} (h : Rd2 n0 n2 v id W) (h0 : n0 ≠ k) (h2 : n2 ≠ k) (cs : Array Value) : Rd2 n0 n2 v id (W.setRow k cs) :=
  ⟨by rw [cell_setRow_other _ _ _ _ h0]; exact h.c, fun j u hu => by rw [cell_setRow_other _ _ _ _ h2]; exact h.r j u hu⟩
theorem range_row {w : World} {g : Nat} {l : List Value} {t : TypeId} (h : w.heap[g]? = some (.cells l.toArray t)) : w.rangeAt g 0 l := fun j u hu => by
  have := row_news h j u hu
  rwa [Addr.add_mid] at this

set_option maxHeartbeats 2000000 in
set_option maxRecDepth 100000 in
/-- The first half of With: up to what At answers. -/
theorem with_has (w : World) (v : Value) (L : List St.It) (s : ByteArray) (o : Ob) (h : DSt w v L) (hs : s.size ≤ 5000) (hd : Rm.dec s.data.toList = some o) (hh : St.has L (shaI s) = true) :
    Calls Tryd.prog 12 #[.agg #[v], .string s] w (WithOk w v L s) := by
  have HA := Lib.hid (fun W (hb : Below w.heap.size w W) => at_any W v L (shaI s) (h.below hb) (shaI_len s))
  have HPT := Lib.hid (show St.put L ⟨shaI s, s⟩ = L from St.put_has hh)
  have HAV := Lib.hid (show atV L (shaI s) = (St.pos L (shaI s) : Int) by unfold atV; rw [hh]; rfl)
  obtain ⟨bo', cap, rfl⟩ := h.form
  have hz28 := (zero_of_info zero28).1
  have HS0 := Lib.hid noF.size
  have HD := Lib.hid (fun W => refdec_obj s o W hs hd)
  have HI := Lib.hid (fun W => refsum_of s W (by omega))
  have HIL := Lib.hid (shaI_len s)
  have HH := Lib.hid h
  generalize (obC noOb nilV nilV).toArray = z at hz28 HS0
  unfold WithOk
  rw [HPT.out]
  rw [HAV.out] at HA
  generalize shaI s = id at *
  generalize St.pos L id = pos at *
  clear hd h hh HPT HAV
  go_enter Tryd.func12, Tryd.ntmps12
  go_wp2_with fail
  change Calls _ _ _ (((w.alloc (.cells #[.slice bo' L.length cap] 27)).alloc (.cells #[.slice none 0 0] 27)).alloc (.cells (idC zId).toArray 35)) _
  have HT := Lib.hid (Tri.made w (.slice bo' L.length cap))
  generalize ((w.alloc (.cells #[.slice bo' L.length cap] 27)).alloc (.cells #[.slice none 0 0] 27)).alloc (.cells (idC zId).toArray 35) = W at *
  refine (HD.out _).mono ?_
  rintro r w1 ⟨cs, ao, bo, ca, cb, rfl, hO, hf, hb1⟩
  have HT1 := Lib.hid (HT.out.below (hb1.alloc hb1.size (.cells cs 42)))
  have HCS := Lib.hid hO.F.size
  have HCO := Lib.hid hO.F.one
  clear hb1 HT hO hf
  go_wp2_with ((with_reducible apply st_ob (hs := HCS.out) (h1 := HCO.out)); rfl; rfl; rfl; rfl; exact HS0.out)
  refine (HI.out _).mono ?_
  rintro r w3 ⟨rfl, hb3⟩
  have HT1S : w.heap.size + 1 + 1 < w3.heap.size := by
    have h1 := HT1.out.sz
    have h2 := hb3.size
    omega
  have HT3 := Lib.hid (HT1.out.below (hb3.alloc hb3.size (.cells (idC id).toArray 35)))
  have HR3 := Lib.hid (row_news (heap_alloc_new w3 (.cells (idC id).toArray 35)))
  have c0 := HT3.out.cell
  have hlt3 := HT3.out.sz
  clear hb3 HT1
  go_wp2_with (first
    | ((with_reducible refine st_id2 (l := id) (x := .tmp 9) (y := .tmp 24) (g := w3.heap.size) ?_ ?_ ?_ ?_ ?_ ?_ HIL.out ?_); rfl; rfl; rfl; rfl; rfl; rfl)
    | ((with_reducible refine ld_id (x := .tmp 9) (p := ⟨w3.heap.size, 0, none⟩) ?_ ?_ ?_ HR3.out HIL.out ?_); rfl; rfl; rfl))
  refine (HA.out _ HT3.out.bel).mono ?_
  rintro r w5 ⟨rfl, hb5⟩
  have HT5 := Lib.hid (HT3.out.below hb5)
  have HG5 := Lib.hid (show w5.drew.rangeAt w3.heap.size 0 (idC id) from range_row ((hb5.block w3.heap.size (by simp)).trans (heap_alloc_new _ _)))
  have c5 := HT5.out.cell
  have c5' : w5.drew.cell? ⟨w.heap.size, 0, none⟩ = some (.slice bo' L.length cap) := HT5.out.cell
  have HE1 := Lib.hid (show w5.drew.heap[w.heap.size + 1]? = _ from HT5.out.b1)
  have HE2 := Lib.hid (show (w5.drew.setRow (w.heap.size + 1) #[.slice bo' L.length cap]).heap[w.heap.size + 1 + 1]? = some (.cells (idC zId).toArray 35) by rw [setRow_other _ _ _ _ (by omega)]; exact HT5.out.b2)
  have g0 : (0 : Int) ≤ (pos : Int) := by omega
  clear hb5 HT3 HR3 c0 HA
  go_wp2_with fail
  have u24 := Tryd.underlying35
  have i24 := idsize HIL.out
  have hn2 : w.heap.size + 1 + 1 < w3.heap.size := by
    have := HT1S
    omega
  refine wp_region_noPanic ?_
  refine wp_region_held_drew (S := (fun w' => Rd2 w.heap.size w3.heap.size (.slice bo' L.length cap) id w')) (by kernel_rfl) ⟨c5', HG5.out⟩ (fun hH => ?_)
  refine wpAnyH_take (i := 0) (v := ?_) rfl (by kernel_rfl) (by kernel_rfl) (by kernel_rfl) (fun _ _ _ h => h) (Or.inl ⟨by rfl, ?_⟩) (by assumption) ?_
  rotate_left
  · intro w' hSw; have hcc := hSw.c; go_simp; try rfl
  try simp only [Act.put, List.getElem_toArray, List.getElem_cons_zero, List.getElem_cons_succ, List.setIfInBounds_toArray, List.set_cons_zero, List.set_cons_succ]
  refine wpAnyH_take (i := 1) rfl (by kernel_rfl) (by kernel_rfl) (by kernel_rfl) (fun _ _ _ h => h) (yieldsIf_load_mid (by rfl) _ _ rfl _ _ rfl _ _ (fun w h => h.r) u24 rfl i24) (by assumption) ?_
  try simp only [Act.put, List.getElem_toArray, List.getElem_cons_zero, List.getElem_cons_succ, List.setIfInBounds_toArray, List.set_cons_zero, List.set_cons_succ]
  refine wpAnyH_ready (rs := [2]) (by kernel_rfl) (by simp) ?_
  refine AllReadyH.cons rfl (fun K hK => ?_) AllReadyH.nil
  rw [if_pos (by rfl)]
  refine wp_store_row 27 (.tmp 4) (.tmp 29) rfl (w.heap.size + 1) #[.slice bo' L.length cap] rfl rfl 27 _ HE1.out sizeSt rfl (by simp [Value.oneCell']) ?_
  refine hK.out _ _ (hH.setRow (by omega) (by omega) _) (fun hH2 => ?_)
  clear hK K
  try simp only [Act.put, List.getElem_toArray, List.getElem_cons_zero, List.getElem_cons_succ, List.setIfInBounds_toArray, List.set_cons_zero, List.set_cons_succ]
  refine wpAnyH_ready (rs := [3]) (by kernel_rfl) (by simp) ?_
  refine AllReadyH.cons rfl (fun K hK => ?_) AllReadyH.nil
  rw [if_pos (by rfl)]
  refine wp_store_row 35 (.tmp 5) (.tmp 30) rfl (w.heap.size + 1 + 1) (idC id).toArray rfl rfl 35 _ HE2.out (by rw [List.size_toArray]; exact i24) (by simp [idC_length, HIL.out]; rfl) (all_oneCell_toArray (idC_one id)) ?_
  refine hK.out _ _ (hH2.setRow (by omega) (by omega) _) (fun hH3 => ?_)
  clear hK K
  try simp only [Act.put, List.getElem_toArray, List.getElem_cons_zero, List.getElem_cons_succ, List.setIfInBounds_toArray, List.set_cons_zero, List.set_cons_succ]
  refine wpAnyH_take (i := 4) (v := ?_) rfl (by kernel_rfl) (by kernel_rfl) (by kernel_rfl) (fun _ _ _ h => h) (Or.inl ⟨by rfl, ?_⟩) (by assumption) ?_
  rotate_left
  · intro w' hSw; go_simp; try rfl
  try simp only [Act.put, List.getElem_toArray, List.getElem_cons_zero, List.getElem_cons_succ, List.setIfInBounds_toArray, List.set_cons_zero, List.set_cons_succ]
  refine wpAnyH_done (by kernel_rfl) ?_ _
  refine NoPanic.normal ?_
  go_wp2_with fail
  obtain ⟨r1, r2, r3⟩ := (HT5.out.below (Below.refl _ _).drew).stored (v := .slice bo' L.length cap) (id := id) HIL.out
  exact bodyPost_ret (results_three (fn := Tryd.f12) (p := 4) (q := 5) (r := 6) (by rfl) _ _ (w.heap.size + 1) (w.heap.size + 1 + 1) _ _ _ _ _ _ _ _ (by rfl) r1 underSt rfl sizeSt (by rfl) r2 Tryd.underlying35 rfl (by rw [List.size_toArray]; exact idsize HIL.out)) rfl ⟨_, rfl, HH.out.below r3, r3⟩

end Go.Proofs.YtipigedopmgemaaDoor
