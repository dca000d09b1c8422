/-
  WALKS OF LAYER 4: the document's own May (knapsackref04.May), of trees.
  WALKS OF LAYER 4: the document's own Encode (knapsackref04.Encode).
  WALKS OF LAYER 1: the document's own Get (knapsackref01.Get).
-/
import Derived.Test.YtipigedopmgemaaDoorLc
import Derived.Deep.RegionHeld3
import Derived.Test.YtipigedopmgemaaDoorLf
import Derived.Test.YtipigedopmgemaaDoorVi
section
namespace Go.Proofs.YtipigedopmgemaaDoor
open Go.RowKit
set_option linter.unusedVariables false
set_option linter.unusedSimpArgs false

theorem Kp.drewN {w W : World} {cs : Array Value} {t : TypeId} (h : Kp w cs t W) (n : Nat) : Kp w cs t (W.drewN n) := ⟨⟨h.below.os, h.below.tape, h.below.output, h.below.size, h.below.block⟩, h.held⟩

set_option maxHeartbeats 4000000 in
set_option maxRecDepth 100000 in
theorem may_tree (cs : Array Value) (o : Ob) (ao bo : Option Addr) (ca cb : Nat) (w : World) (h : ObAt w cs o ao bo ca cb) (hk : o.kind = 2) :
    Calls Tryd.prog 33 #[.agg cs] w fun r w' => r = .returned (.bool (validB o)) ∧ Below w.heap.size w w' := by
  have HZ := Lib.hid (show validB o = (blobZ o && commitZ o && tagZ o && (decide (o.ents.length ≤ 64) && entsOk .empty o.ents)) by simp [validB, foreignZ, hk])
  generalize validB o = z at HZ
  have HZ1 := Lib.hid (show blobZ o = o.data.toList.isEmpty from rfl)
  have HZ2 := Lib.hid (show treeZ o = decide (o.ents.length = 0) from isEmpty_len _)
  have HZ3 := Lib.hid (show commitZ o = (decide (o.tree = zId) && decide (o.pars.length = 0) && decide (o.time = 0) && o.text.toList.isEmpty) by rw [← isEmpty_len]; rfl)
  have HZ4 := Lib.hid (show tagZ o = (decide (o.target = zId) && decide (o.of = 0) && o.name.toList.isEmpty) from rfl)
  generalize blobZ o = z1 at HZ HZ1
  generalize treeZ o = z2 at HZ HZ2
  generalize commitZ o = z3 at HZ HZ3
  generalize tagZ o = z4 at HZ HZ4
  have c0 : cs[0]? = some (.int .i64 2) := by rw [h.F.c0, hk]
  have c1 := h.F.c1
  have c2 := h.F.c2
  have c35 := h.F.c35
  have c36 := h.F.c36
  have c37 := h.F.c37
  have c70 := h.F.c70
  have c71 := h.F.c71
  have hpl := h.pl
  have hel := h.el
  unfold maxLen at hpl hel
  have hq3 := fun W => eq_id o.tree zId h.F.trl rfl W
  have hq7 := fun W => eq_id o.target zId h.F.tal rfl W
  have HT := Lib.hid h.F.trl
  have HG := Lib.hid h.F.tal
  have HO := Lib.hid (show zId.length = 32 from rfl)
  have HNM := Lib.hid (fun W => refname_any o.name W h.nm)
  generalize decide (o.tree = zId) = tz at hq3 HZ3
  generalize decide (o.target = zId) = gz at hq7 HZ4
  have E0 := heap_alloc2_old w (.cells cs 42) (.cells (idC zId).toArray 35)
  have E1 := heap_alloc2_new w (.cells cs 42) (.cells (idC zId).toArray 35)
  have RT := Lib.hid (h.F.rtr E0)
  have RG := Lib.hid (h.F.rta E0)
  have RO := Lib.hid (id_rid E1)
  have KE := Lib.hid E0
  have C2 := Lib.hid h.F.c2
  have HE := Lib.hid h.E
  have HD := Lib.hid h.eid
  have HNN := Lib.hid h.enm
  clear E0 E1 h hk
  generalize o.pars.length = np at c35 HZ3 hpl
  generalize nameOk o.name = nb at HNM
  generalize hez : entsOk .empty o.ents = ez at HZ
  have HEZ := Lib.hid hez
  clear hez
  have hB := ((Below.refl w.heap.size w).alloc (Nat.le_refl _) (.cells cs 42)).alloc (by simp) (.cells (idC zId).toArray 35)
  go_enter Tryd.func33, Tryd.ntmps33
  go_wp2_with (first
    | (go_at_call 52; ((with_reducible refine (HNM.out _).mono ?_); rintro r wx ⟨rfl, rfl⟩))
    | ((with_reducible refine bd_zid ?_ ?_ ?_); rfl; rfl)
    | ((with_reducible refine st_id2 (x := .tmp 3) (y := .tmp 16) (g := w.heap.size + 1) ?_ ?_ ?_ ?_ ?_ ?_ HO.out ?_); rfl; rfl; rfl; rfl; rfl; simp)
    | ((fail_if_success (fail_if_success go_guarded)); (with_reducible refine ldg_idm (x := .tmp 40) ?_ ?_ ?_ RT.out HT.out ?_); rfl; rfl; kernel_rfl)
    | ((fail_if_success (fail_if_success go_guarded)); (with_reducible refine ldg_idm (x := .tmp 3) ?_ ?_ ?_ RO.out HO.out ?_); rfl; rfl; kernel_rfl)
    | ((with_reducible refine ld_idm (x := .tmp 64) ?_ ?_ ?_ RG.out HG.out ?_); rfl; rfl; rfl)
    | ((with_reducible refine ld_idm (x := .tmp 3) ?_ ?_ ?_ RO.out HO.out ?_); rfl; rfl; rfl))
  all_goals first
    | (go_ret
       refine ⟨ret_bool ?_, hB⟩
       rw [HZ.out]
       have e1 := HZ1.out
       have e2 := HZ2.out
       have e3 := HZ3.out
       have e4 := HZ4.out
       simp_all <;> omega)
    | skip
  have HF : Hid (z = ez) := by
    show z = ez
    rw [HZ.out]
    have e1 := HZ1.out
    have e3 := HZ3.out
    have e4 := HZ4.out
    simp_all <;> omega
  clear HZ HZ1 HZ2 HZ3 HZ4
  have K2 : Kp w cs 42 ((w.alloc (.cells cs 42)).alloc (.cells (idC zId).toArray 35)) := ⟨hB, KE.out⟩
  go_loopw [5] (fun i wr => ∃ (k : Nat) (last : ByteArray), k ≤ o.ents.length ∧ i = .int .i64 k ∧ Hid (z = entsOk last (o.ents.drop k)) ∧ Hid (k = 0 ∧ last = .empty ∨ 0 < k ∧ (o.ents[k - 1]?).map (·.name) = some last) ∧ Kp w cs 42 wr) (fun i _ => o.ents.length - (intOf i).toNat)
  case atStart => exact ⟨0, .empty, by omega, rfl, by rw [HF.out, ← HEZ.out]; rfl, .inl ⟨rfl, rfl⟩, K2⟩
  case round =>
    clear K2 hq3 hq7 RT RG RO hB HF
    obtain ⟨k, last, hk, rfl, HS, HLst, K1⟩ := hrel
    have c2 := K1.cell C2.out
    by_cases hlt : k < o.ents.length
    · have hlt' : (k : Int) < (o.ents.length : Int) := by omega
      have hk0 : (0 : Int) ≤ (k : Int) := by omega
      obtain ⟨e, he⟩ : ∃ e, o.ents[k]? = some e := ⟨o.ents[k], List.getElem?_eq_getElem hlt⟩
      have hmem := List.mem_of_getElem? he
      obtain ⟨a, rfl, hc⟩ := ent_cells (HE.out.below K1.below) k e he
      have HC := Lib.hid hc
      have HL := Lib.hid (HD.out e hmem)
      have HNE := Lib.hid (fun W => refname_any e.name W (HNN.out e hmem))
      have n0 : (enC e)[0]? = some (.string e.name) := rfl
      have n1 : (enC e)[1]? = some (.int .i64 e.kind) := rfl
      have HG0 := Lib.hid (fun h : nameOk e.name = true => gt_empty h)
      have HT := Lib.hid (show z = (nameOk e.name && gtB last e.name && (e.kind == 1 || e.kind == 2) && entsOk e.name (o.ents.drop (k + 1))) by
        obtain ⟨hk3, rfl⟩ := List.getElem?_eq_some_iff.1 he
        rw [HS.out, List.drop_eq_getElem_cons hk3]; rfl)
      have HNX := Lib.hid (show k + 1 = 0 ∧ e.name = .empty ∨ 0 < k + 1 ∧ (o.ents[k + 1 - 1]?).map (·.name) = some e.name from .inr ⟨by omega, by rw [Nat.add_sub_cancel, he]; rfl⟩)
      have K3 := K1.step ((Below.refl _ _).alloc (Nat.le_refl _) (.cells (enC e).toArray 90))
      generalize nameOk e.name = nb2 at HNE HG0 HT
      by_cases hk1 : k = 0
      · have HG1 := Lib.hid (fun h => by
          rcases HLst.out with ⟨_, rfl⟩ | ⟨h0, _⟩
          · exact HG0.out h
          · omega : nb2 = true → gtB last e.name = true)
        have hn0 : ¬ (0 : Int) < (k : Int) := by omega
        have hd0 : decide ((0 : Int) < (k : Int)) = false := by simp; omega
        have hd1 : decide (0 < k) = false := by simp; omega
        have HK0 := Lib.hid hk1
        clear hc he hmem HLst HG0 hk1
        go_wp2_with (first
          | (go_at_call 52; ((with_reducible refine (HNE.out _).mono ?_); rintro r wx ⟨rfl, rfl⟩))
          | ((with_reducible refine ld_en (x := .tmp 113) (p := a.add (k * 34)) ?_ ?_ ?_ HC.out HL.out ?_); rfl; rfl; rfl)
          | ((with_reducible refine st_en (x := .tmp 6) (y := .tmp 114) (e := e) ?_ ?_ ?_ ?_ ?_ HL.out ?_); rfl; rfl; rfl; rfl; rfl))
        all_goals first
          | (go_ret
             refine ⟨ret_bool ?_, K3.below⟩
             rw [HT.out]
             simp_all <;> omega)
          | skip
        go_quiet (fail)
        go_wp2
        go_roundw
        case rel => exact ⟨k + 1, e.name, by omega, by go_num, by rw [HT.out]; have h1 := HG1.out; simp only [Hid]; simp_all <;> omega, HNX, K3.drewN _⟩
        case measure => simp [intOf]; omega
      · obtain ⟨p, hp, hpn⟩ : ∃ p, o.ents[k - 1]? = some p ∧ p.name = last := by
          rcases HLst.out with ⟨h0, _⟩ | ⟨_, h1⟩
          · omega
          · cases hq : o.ents[k - 1]? with
            | none => rw [hq] at h1; simp at h1
            | some p => rw [hq] at h1; exact ⟨p, rfl, by simpa using h1⟩
        have hcp := (by
          obtain ⟨a', e', h'⟩ := ent_cells (HE.out.below K1.below) (k - 1) p hp
          cases e'
          exact h' 0 (.string last) (by rw [← hpn]; rfl) : wr.cell? ((a.add ((k - 1) * 34)).add 0) = some (.string last))
        have hcp2 : wr.cell? (a.add ((k - 1) * 34)) = some (.string last) := by simpa [Addr.add] using hcp
        have lp := World.block_lt_of_cell? wr _ hcp2
        have hn0 : (0 : Int) < (k : Int) := by omega
        have hd0 : decide ((0 : Int) < (k : Int)) = true := by simp; omega
        have hd1 : decide (0 < k) = true := by simp; omega
        have hw1 : IntKind.i64.wrap ((k : Int) - 1) = (k : Int) - 1 := IntWalk.i64_in _ (by omega)
        have h00 : (0 : Int) ≤ (k : Int) - 1 := by omega
        have htt : ((k : Int) - 1).toNat = k - 1 := by omega
        have hl2 : (k : Int) - 1 < (o.ents.length : Int) := by omega
        have hlb := (Array.getElem?_eq_some_iff.1 K1.held).1
        have SA : ((wr.alloc (.cells (enC e).toArray 90)).cell? ⟨w.heap.size, 2, none⟩ = some (.slice (some a) o.ents.length ca)) ∧ ((wr.alloc (.cells (enC e).toArray 90)).cell? (a.add ((k - 1) * 34)) = some (.string last)) ∧ ((wr.alloc (.cells (enC e).toArray 90)).cell? ⟨wr.heap.size, 0, none⟩ = some (.string e.name)) :=
          ⟨(World.cell?_alloc_lt wr _ ⟨w.heap.size, 2, none⟩ hlb).trans c2, (World.cell?_alloc_lt wr _ _ lp).trans hcp2, (cell_of_row _ _ _ _ _ (0, 0) (heap_alloc_last wr _)).trans n0⟩
        have HSA := Lib.hid SA
        have HGB := Lib.hid (gtB_eq last e.name)
        clear SA hc he hmem HLst HG0 hk1 hp hcp hcp2 hpn
        go_wp2_with (first
          | (go_at_call 52; ((with_reducible refine (HNE.out _).mono ?_); rintro r wx ⟨rfl, rfl⟩))
          | ((with_reducible refine ld_en (x := .tmp 113) (p := a.add (k * 34)) ?_ ?_ ?_ HC.out HL.out ?_); rfl; rfl; rfl)
          | ((with_reducible refine st_en (x := .tmp 6) (y := .tmp 114) (e := e) ?_ ?_ ?_ ?_ ?_ HL.out ?_); rfl; rfl; rfl; rfl; rfl))
        all_goals first
          | (go_ret
             refine ⟨ret_bool ?_, K3.below⟩
             rw [HT.out]
             simp_all <;> omega)
          | skip
        obtain ⟨s1, s2, s3⟩ := HSA.out
        go_quiet (fail)
        go_wp2
        all_goals first
          | (go_ret
             refine ⟨ret_bool ?_, (K3.drewN _).below⟩
             rw [HT.out, HGB.out]
             simp_all <;> omega)
          | exact ⟨⟨k + 1, e.name, by omega, by go_num, by rw [HT.out, HGB.out]; simp only [Hid]; simp_all <;> omega, HNX, K3.drewN _⟩, by simp [intOf]; omega⟩
    · have HT := Lib.hid (show z = true by rw [HS.out, List.drop_of_length_le (by omega)]; rfl)
      go_wp2
      go_ret
      exact ⟨ret_bool (by rw [HT.out]), K1.below⟩
end Go.Proofs.YtipigedopmgemaaDoor
end

section
namespace Go.Proofs.YtipigedopmgemaaDoor
open Go.RowKit
set_option linter.unusedVariables false
set_option linter.unusedSimpArgs false

/-- What the document's Encode hands back. -/
def endR (ok : Bool) (s : ByteArray) : Ending := match ok with
  | true => .returned (.tuple #[.string s, .bool true])
  | false => .returned (.tuple #[.string ⟨#[]⟩, .bool false])
set_option maxHeartbeats 1000000 in
set_option maxRecDepth 100000 in
theorem may_other (cs : Array Value) (o : Ob) (ao bo : Option Addr) (ca cb : Nat) (w : World) (h : ObAt w cs o ao bo ca cb) (hk : o.kind < 1 ∨ 4 < o.kind) :
    Calls Tryd.prog 33 #[.agg cs] w fun r w' => r = .returned (.bool (validB o)) ∧ Below w.heap.size w w' := by
  have HZ := Lib.hid (show validB o = false by
    unfold validB
    rw [if_neg (by omega), if_neg (by omega), if_neg (by omega), if_neg (by omega), Bool.and_false])
  generalize validB o = z at HZ
  have c0 := h.F.c0
  clear h
  rcases hk with hk | hk
  · go_enter Tryd.func33, Tryd.ntmps33
    go_wp2
    go_ret
    exact ⟨ret_bool HZ.out.symm, (Below.refl _ _).alloc (Nat.le_refl _) _⟩
  · have hk' : ¬ o.kind < 1 := by omega
    go_enter Tryd.func33, Tryd.ntmps33
    go_wp2
    go_ret
    exact ⟨ret_bool HZ.out.symm, (Below.refl _ _).alloc (Nat.le_refl _) _⟩
theorem may_any (cs : Array Value) (o : Ob) (ao bo : Option Addr) (ca cb : Nat) (w : World) (h : ObAt w cs o ao bo ca cb) :
    Calls Tryd.prog 33 #[.agg cs] w fun r w' => r = .returned (.bool (validB o)) ∧ Below w.heap.size w w' := by
  rcases (by omega : o.kind = 1 ∨ o.kind = 2 ∨ o.kind = 3 ∨ o.kind = 4 ∨ (o.kind < 1 ∨ 4 < o.kind)) with e | e | e | e | e
  · exact may_blob cs o ao bo ca cb w h e
  · exact may_tree cs o ao bo ca cb w h e
  · exact may_commit cs o ao bo ca cb w h e
  · exact may_tag cs o ao bo ca cb w h e
  · exact may_other cs o ao bo ca cb w h e
theorem empty_of {s : ByteArray} (h : s.toList.isEmpty = true) : s = ⟨#[]⟩ := bytes_ext (by
  rw [ByteArray.toList_eq] at h
  simpa using h)
theorem refbody_any (cs : Array Value) (o : Ob) (ao bo : Option Addr) (ca cb : Nat) (w : World) (h : ObAt w cs o ao bo ca cb) (ft : Fit o) (hv : validB o = true) :
    Calls Tryd.prog 36 #[.agg cs] w fun r w' => r = .returned (.string ⟨(bodyL o).toArray⟩) ∧ Below w.heap.size w w' := by
  have hk := ft.k
  have hf : foreignZ o = true := by
    unfold validB at hv
    rw [Bool.and_eq_true] at hv
    exact hv.1
  unfold foreignZ at hf
  simp only [Bool.and_eq_true, Bool.or_eq_true, beq_iff_eq] at hf
  obtain ⟨⟨⟨h1, h2⟩, h3⟩, h4⟩ := hf
  have hd : o.kind ≠ 1 → o.data = ⟨#[]⟩ := fun hn => empty_of (h1.resolve_left hn)
  have he : o.kind ≠ 2 → o.ents = [] := fun hn => by simpa [treeZ] using h2.resolve_left hn
  rcases (by omega : o.kind = 1 ∨ o.kind = 2 ∨ o.kind = 3 ∨ o.kind = 4) with e | e | e | e
  · exact refbody_blob cs o ao bo ca cb w h e (he (by omega))
  · exact refbody_tree cs o ao bo ca cb w h ft e (hd (by omega))
  · exact refbody_commit cs o ao bo ca cb w h ft e (he (by omega)) (hd (by omega))
  · exact refbody_tag cs o ao bo ca cb w h ft e (he (by omega)) (hd (by omega))

/-- The name of an object that may be is short. -/
theorem valid_name {o : Ob} (hv : validB o = true) : o.name.size ≤ 100 := by
  unfold validB foreignZ at hv
  simp only [Bool.and_eq_true, Bool.or_eq_true, beq_iff_eq, tagZ, decide_eq_true_eq] at hv
  obtain ⟨⟨_, z4⟩, zz⟩ := hv
  by_cases e4 : o.kind = 4
  · rw [if_neg (by omega), if_neg (by omega), if_neg (by omega), if_pos e4, Bool.and_eq_true] at zz
    have := nameOk_size zz.2
    omega
  · have h1 := (z4.resolve_left e4).2
    have h2 : o.name.toList = [] := by simpa using h1
    rw [ByteArray.toList_eq] at h2
    have := size_list o.name
    rw [h2] at this
    simp at this; omega

set_option maxHeartbeats 1000000 in
set_option maxRecDepth 100000 in
theorem refencode_any (cs : Array Value) (o : Ob) (ao bo : Option Addr) (ca cb : Nat) (w : World) (h : ObAt w cs o ao bo ca cb) (hd : o.data.size ≤ 5000) (ht : o.text.size ≤ 5000) :
    Calls Tryd.prog 19 #[.agg cs] w fun r w' => r = endR (encOk o) (encS o) ∧ Below w.heap.size w w' := by
  have HV := Lib.hid (fun W (hb : Below w.heap.size w W) => may_any cs o ao bo ca cb W (h.below hb))
  have HS := Lib.hid h.F.size
  have K0 := Kp.box w cs 42
  cases hv : validB o with
  | false =>
    rw [hv] at HV
    have HE := Lib.hid (show encOk o = false by simp [encOk, hv])
    rw [HE.out]
    clear h hv HE
    go_enter Tryd.func19, Tryd.ntmps19
    go_wp2_with (first
      | (go_at_call 33; refine (HV.out _ K0.below).mono ?_; rintro r w1 ⟨rfl, hx⟩)
      | ((with_reducible apply load_ob (k := K0) (hs := HS.out)); rfl; rfl; rfl))
    go_ret2
    exact ⟨rfl, (K0.step hx).below⟩
  | true =>
    rw [hv] at HV
    have ft := fit_of hv hd ht (valid_name hv)
    have hbl := body_len ft h.eid h.pid h.F.trl h.F.tal h.ti
    have HB := Lib.hid (fun W (hb : Below w.heap.size w W) => refbody_any cs o ao bo ca cb W (h.below hb) ft hv)
    have HO := Lib.hid (fun W => one_any o.kind W (by have := ft.k; omega) (by have := ft.k; omega))
    have hbs : (ByteArray.mk (bodyL o).toArray).size = (bodyL o).length := rfl
    have HX := Lib.hid (fun W => reftext_any ⟨(bodyL o).toArray⟩ W (by rw [hbs]; omega))
    have HE := Lib.hid (show encS o = ⟨#[byteK o.kind]⟩ ++ textOf ⟨(bodyL o).toArray⟩ from rfl)
    have htl : (textOf ⟨(bodyL o).toArray⟩).size ≤ 20000 := by
      have hl := Lib.uvarint_length64 (x := (ByteArray.mk (bodyL o).toArray).size) (by omega)
      unfold textOf
      rw [← size_list, put_list]; simp at hl ⊢; omega
    have HK := Lib.hid (show encOk o = decide ((encS o).size ≤ 4096) by simp [encOk, hv])
    generalize encOk o = ok at HK
    generalize encS o = es at HK HE
    have C0 := Lib.hid h.F.c0
    clear hbl hbs h ft hv
    generalize (ByteArray.mk (bodyL o).toArray) = bd at HB HX HE htl
    generalize textOf bd = tb at HX HE htl
    have hs1 : ¬ 9223372036854775807 < 1 + tb.size := by omega
    generalize byteK o.kind = bk at HO HE
    generalize o.kind = k at HO C0
    go_enter Tryd.func19, Tryd.ntmps19
    go_wp2_with (first
      | (go_at_call 33; refine (HV.out _ K0.below).mono ?_; rintro r w1 ⟨rfl, hx⟩)
      | ((with_reducible apply load_ob (k := K0) (hs := HS.out)); rfl; rfl; rfl))
    have K1 := K0.step hx
    clear hx
    refine wp_region_noPanic ?_
    refine wp_region_held_drew (S := (fun W => Kp w cs 42 W)) (by kernel_rfl) K1.drew (fun hHeld0 => ?_)
    refine wpAnyH_take (i := 0) (v := ?_) rfl (by kernel_rfl) (by kernel_rfl) (by kernel_rfl) (fun _ _ _ h => h) (Or.inl ⟨by rfl, ?_⟩) (by assumption) ?_
    rotate_left
    · intro W hS; go_simp; try rfl
    try simp only [Act.put, List.getElem_toArray, List.getElem_cons_zero, List.getElem_cons_succ, List.setIfInBounds_toArray, List.set_cons_zero, List.set_cons_succ]
    refine wpAnyH_take (i := 1) (v := ?_) rfl (by kernel_rfl) (by kernel_rfl) (by kernel_rfl) (fun _ _ _ h => h) (Or.inl ⟨by rfl, ?_⟩) (by assumption) ?_
    rotate_left
    · intro W hS; have c := hS.cell C0.out; go_simp; try rfl
    try simp only [Act.put, List.getElem_toArray, List.getElem_cons_zero, List.getElem_cons_succ, List.setIfInBounds_toArray, List.set_cons_zero, List.set_cons_succ]
    refine wpAnyH_take (i := 3) rfl (by kernel_rfl) (by kernel_rfl) (by kernel_rfl) (fun _ _ _ h => h) (yieldsIf_ob (by rfl) rfl rfl (fun W h => h) HS.out) (by assumption) ?_
    try simp only [Act.put, List.getElem_toArray, List.getElem_cons_zero, List.getElem_cons_succ, List.setIfInBounds_toArray, List.set_cons_zero, List.set_cons_succ]
    refine wpAnyH_ready (rs := [2]) (by kernel_rfl) (by simp) ?_
    refine AllReadyH.cons rfl (fun K hK => ?_) AllReadyH.nil
    go_simp
    refine (HO.out _).mono ?_
    rintro r wx1 ⟨rfl, hb1⟩
    go_wp2_with fail
    refine hK.out _ _ (hHeld0.step hb1) (fun hHeld1 => ?_)
    clear hK K
    try simp only [Act.put, List.getElem_toArray, List.getElem_cons_zero, List.getElem_cons_succ, List.setIfInBounds_toArray, List.set_cons_zero, List.set_cons_succ]
    refine wpAnyH_ready (rs := [4]) (by kernel_rfl) (by simp) ?_
    refine AllReadyH.cons rfl (fun K hK => ?_) AllReadyH.nil
    go_simp
    refine (HB.out _ hHeld1.below).mono ?_
    rintro r wx2 ⟨rfl, hb2⟩
    go_wp2_with fail
    refine hK.out _ _ (hHeld1.step hb2) (fun hHeld2 => ?_)
    clear hK K
    try simp only [Act.put, List.getElem_toArray, List.getElem_cons_zero, List.getElem_cons_succ, List.setIfInBounds_toArray, List.set_cons_zero, List.set_cons_succ]
    refine wpAnyH_ready (rs := [5]) (by kernel_rfl) (by simp) ?_
    refine AllReadyH.cons rfl (fun K hK => ?_) AllReadyH.nil
    go_simp
    refine (HX.out _).mono ?_
    rintro r wx3 ⟨rfl, hb3⟩
    go_wp2_with fail
    refine hK.out _ _ (hHeld2.step hb3) (fun hHeld3 => ?_)
    clear hK K
    try simp only [Act.put, List.getElem_toArray, List.getElem_cons_zero, List.getElem_cons_succ, List.setIfInBounds_toArray, List.set_cons_zero, List.set_cons_succ]
    refine wpAnyH_take (i := 6) (v := ?_) rfl (by kernel_rfl) (by kernel_rfl) (by kernel_rfl) (fun _ _ _ h => h) (Or.inl ⟨by rfl, ?_⟩) (by assumption) ?_
    rotate_left
    · intro W hS; go_simp; try rfl
    try simp only [Act.put, List.getElem_toArray, List.getElem_cons_zero, List.getElem_cons_succ, List.setIfInBounds_toArray, List.set_cons_zero, List.set_cons_succ]
    refine wpAnyH_take (i := 7) (v := ?_) rfl (by kernel_rfl) (by kernel_rfl) (by kernel_rfl) (fun _ _ _ h => h) (Or.inl ⟨by rfl, ?_⟩) (by assumption) ?_
    rotate_left
    · intro W hS; go_simp; try rfl
    try simp only [Act.put, List.getElem_toArray, List.getElem_cons_zero, List.getElem_cons_succ, List.setIfInBounds_toArray, List.set_cons_zero, List.set_cons_succ]
    refine wpAnyH_done (by kernel_rfl) ?_ _
    refine NoPanic.normal ?_
    have hz : es.size = 1 + tb.size := by rw [HE.out, ByteArray.size_append]; rfl
    have HZ := Lib.hid hz
    clear hz
    go_wp2
    all_goals
      go_ret2
      refine ⟨?_, hHeld3.below⟩
      first
        | (have e : ok = true := by rw [HK.out, HZ.out]; simp; omega
           rw [e, HE.out]; rfl)
        | (have e : ok = false := by rw [HK.out, HZ.out]; simp; omega
           rw [e]; rfl)
end Go.Proofs.YtipigedopmgemaaDoor
end

section
namespace Go.Proofs.YtipigedopmgemaaDoor
open Go.RowKit
set_option linter.unusedVariables false


/-- What the second loop has gathered once it has come down to i. -/
def down (l : List UInt8) (e : Nat) (i : Int) : Nat := Vi.val ((l.take (e + 1)).drop (i + 1).toNat)

theorem down_top (l : List UInt8) (e : Nat) : down l e e = 0 := by
  unfold down
  rw [List.drop_of_length_le (by rw [List.length_take]; omega)]; rfl

theorem down_end (l : List UInt8) (e : Nat) : down l e (-1) = Vi.val (l.take (e + 1)) := by
  unfold down; simp

theorem down_step {l : List UInt8} {e : Nat} (h : Vi.Ok l e) (j : Nat) (hj : j ≤ e) (hl : j < l.length) : down l e ((j : Int) - 1) = (l[j]).toNat % 128 + 128 * down l e j := by
  have := h.lt
  unfold down
  rw [show ((j : Int) - 1 + 1).toNat = j by omega, show ((j : Int) + 1).toNat = j + 1 by omega, Vi.val_drop_succ _ j (by rw [List.length_take]; omega), List.getElem_take]

theorem down_lt {l : List UInt8} {e : Nat} (h : Vi.Ok l e) (i : Int) : down l e i < 18446744073709551616 := by
  have h1 := h.val_lt
  have h2 := Vi.val_drop_le (l.take (e + 1)) (i + 1).toNat
  unfold down; omega

set_option maxHeartbeats 800000 in
set_option maxRecDepth 100000 in
theorem refget_ok (s : ByteArray) (w : World) (hs : s.size ≤ maxLen) (e : Nat) (h : Vi.Ok s.data.toList e) :
    Calls Tryd.prog 75 #[.string s] w fun r w' => r = .returned (.tuple #[.int .u64 (Vi.val (s.data.toList.take (e + 1))), .int .i64 ((e : Int) + 1)]) ∧ w = w' := by
  unfold maxLen at hs
  have hle := size_list s
  have hes : e < s.size := by have := h.lt; omega
  have h10 := h.lt10
  clear hle
  have hl : (s[e].toNat : Int) < 128 := by rw [at_list s e hes]; have := h.last; omega
  go_enter Tryd.func75, Tryd.ntmps75
  go_wp2
  go_loop [4] (fun i => ∃ k : Nat, k ≤ e ∧ i = .int .i64 k) (fun i => e - (intOf i).toNat)
  case atStart => exact ⟨0, Nat.zero_le _, rfl⟩
  case round =>
    obtain ⟨k, hk, rfl⟩ := hrel
    by_cases hlt : k < e
    · have hks : k < s.size := by omega
      have h128 : (128 : Int) ≤ (s[k].toNat : Int) := by rw [at_list s k hks]; have := h.more k (by rw [size_list]; omega) hlt; omega
      go_wp2_with fail
      go_round
      case rel => exact ⟨k + 1, by omega, by go_num⟩
      case measure => simp [intOf]; omega
    · obtain rfl : k = e := by omega
      have hb := (s[k]).toNat_lt
      have hthree : k = 9 ∨ (k ≠ 9 ∧ 0 < k) ∨ k = 0 := by omega
      rcases hthree with rfl | ⟨h9, h0⟩ | rfl
      · have h1 : (s[9].toNat : Int) ≤ 1 := by rw [at_list s 9 hes]; have := h.fits rfl; omega
        have h2 : ((s[9].toNat : Int) == 0) = false := by rw [at_list s 9 hes]; have := h.least (by omega); exact beq_eq_false_iff_ne.2 (by omega)
        go_wp2_with fail
        go_loop [5, 6] (fun n i => ∃ j : Int, -1 ≤ j ∧ j ≤ 9 ∧ i = .int .i64 j ∧ n = .int .u64 (down s.data.toList 9 j)) (fun _ i => (intOf i + 1).toNat)
        case atStart => exact ⟨9, by omega, by omega, rfl, val_int (by have := down_top s.data.toList 9; simp at this; simp [this])⟩
        case round =>
          obtain ⟨j, hj1, hj2, rfl, rfl⟩ := hrel
          by_cases hj : 0 ≤ j
          · obtain ⟨m, rfl⟩ := Int.eq_ofNat_of_zero_le hj
            have hm : m < s.size := by omega
            have hd := down_step h m (by omega) (by rw [size_list]; omega)
            have hd1 := down_lt h ((m : Int) - 1)
            have HD : Hid (128 * (down s.data.toList 9 (m : Int) : Int) + (s[m].toNat : Int) % 128 = (down s.data.toList 9 ((m : Int) - 1) : Int)) := by
              rw [at_list s m hm]; show _ = _; omega
            have hd2 : 128 * (down s.data.toList 9 (m : Int) : Int) + (s[m].toNat : Int) % 128 < 18446744073709551616 := by rw [at_list s m hm]; omega
            clear hd hd1
            go_wp2_with fail
            go_round
            case rel => exact ⟨(m : Int) - 1, by omega, by omega, by go_num, val_int HD.out⟩
            case measure => simp [intOf]
          · obtain rfl : j = -1 := by omega
            have HE := Lib.hid (down_end s.data.toList 9)
            go_wp2_with fail
            go_ret2
            exact ⟨ret_tuple2 (val_int (by rw [HE.out])) rfl, rfl⟩
      · have h1 : ((k : Int) == 9) = false := beq_eq_false_iff_ne.2 (by omega)
        have h2 : ((s[k].toNat : Int) == 0) = false := by rw [at_list s k hes]; have := h.least (by omega); exact beq_eq_false_iff_ne.2 (by omega)
        go_wp2_with fail
        go_loop [5, 6] (fun n i => ∃ j : Int, -1 ≤ j ∧ j ≤ (k : Int) ∧ i = .int .i64 j ∧ n = .int .u64 (down s.data.toList k j)) (fun _ i => (intOf i + 1).toNat)
        case atStart => exact ⟨(k : Int), by omega, by omega, rfl, val_int (by have := down_top s.data.toList k; simp [this])⟩
        case round =>
          obtain ⟨j, hj1, hj2, rfl, rfl⟩ := hrel
          by_cases hj : 0 ≤ j
          · obtain ⟨m, rfl⟩ := Int.eq_ofNat_of_zero_le hj
            have hm : m < s.size := by omega
            have hd := down_step h m (by omega) (by rw [size_list]; omega)
            have hd1 := down_lt h ((m : Int) - 1)
            have HD : Hid (128 * (down s.data.toList k (m : Int) : Int) + (s[m].toNat : Int) % 128 = (down s.data.toList k ((m : Int) - 1) : Int)) := by
              rw [at_list s m hm]; show _ = _; omega
            have hd2 : 128 * (down s.data.toList k (m : Int) : Int) + (s[m].toNat : Int) % 128 < 18446744073709551616 := by rw [at_list s m hm]; omega
            clear hd hd1
            go_wp2_with fail
            go_round
            case rel => exact ⟨(m : Int) - 1, by omega, by omega, by go_num, val_int HD.out⟩
            case measure => simp [intOf]
          · obtain rfl : j = -1 := by omega
            have HE := Lib.hid (down_end s.data.toList k)
            go_wp2_with fail
            go_ret2
            exact ⟨ret_tuple2 (val_int (by rw [HE.out])) rfl, rfl⟩
      · have hne : ¬ s = ByteArray.empty := fun h => by subst h; simp at hes
        go_wp2_with fail
        go_loop [5, 6] (fun n i => ∃ j : Int, -1 ≤ j ∧ j ≤ 0 ∧ i = .int .i64 j ∧ n = .int .u64 (down s.data.toList 0 j)) (fun _ i => (intOf i + 1).toNat)
        case atStart => exact ⟨0, by omega, by omega, rfl, val_int (by have := down_top s.data.toList 0; simp at this; simp [this])⟩
        case round =>
          obtain ⟨j, hj1, hj2, rfl, rfl⟩ := hrel
          by_cases hj : 0 ≤ j
          · obtain ⟨m, rfl⟩ := Int.eq_ofNat_of_zero_le hj
            have hm : m < s.size := by omega
            have hd := down_step h m (by omega) (by rw [size_list]; omega)
            have hd1 := down_lt h ((m : Int) - 1)
            have HD : Hid (128 * (down s.data.toList 0 (m : Int) : Int) + (s[m].toNat : Int) % 128 = (down s.data.toList 0 ((m : Int) - 1) : Int)) := by
              rw [at_list s m hm]; show _ = _; omega
            have hd2 : 128 * (down s.data.toList 0 (m : Int) : Int) + (s[m].toNat : Int) % 128 < 18446744073709551616 := by rw [at_list s m hm]; omega
            clear hd hd1
            go_wp2_with fail
            go_round
            case rel => exact ⟨(m : Int) - 1, by omega, by omega, by go_num, val_int HD.out⟩
            case measure => simp [intOf]
          · obtain rfl : j = -1 := by omega
            have HE := Lib.hid (down_end s.data.toList 0)
            go_wp2_with fail
            go_ret2
            exact ⟨ret_tuple2 (val_int (by rw [HE.out])) rfl, rfl⟩

set_option maxHeartbeats 800000 in
set_option maxRecDepth 100000 in
theorem refget_none (s : ByteArray) (w : World) (hs : s.size ≤ maxLen) (h : ∀ e, ¬ Vi.Ok s.data.toList e) :
    Calls Tryd.prog 75 #[.string s] w fun r w' => r = .returned (.tuple #[.int .u64 0, .int .i64 0]) ∧ w = w' := by
  unfold maxLen at hs
  have HN := Lib.hid h
  clear h
  go_enter Tryd.func75, Tryd.ntmps75
  go_wp2
  go_loop [4] (fun i => ∃ (k : Nat), k ≤ 10 ∧ k ≤ s.size ∧ i = .int .i64 k ∧ Hid (∀ (j : Nat) (h : j < s.data.toList.length), j < k → 128 ≤ (s.data.toList[j]).toNat)) (fun i => 10 - (intOf i).toNat)
  case atStart => exact ⟨0, by omega, Nat.zero_le _, rfl, fun j _ h => absurd h (by omega)⟩
  case round =>
    obtain ⟨k, hk, hks, rfl, HM⟩ := hrel
    by_cases hin : k < s.size ∧ k < 10
    · obtain ⟨hlt, hl10⟩ := hin
      by_cases hb : (128 : Int) ≤ (s[k].toNat : Int)
      · go_wp2_with fail
        go_round
        case rel =>
          refine ⟨k + 1, by omega, by omega, by go_num, fun j hj hjk => ?_⟩
          by_cases e : j = k
          · subst e; rw [at_list s j hlt] at hb; omega
          · exact HM.out j hj (by omega)
        case measure => simp [intOf]; omega
      · have hl : (s[k].toNat : Int) < 128 := by omega
        have hno : (0 < (k : Int) ∧ (s[k].toNat : Int) = 0) ∨ (k = 9 ∧ 1 < (s[k].toNat : Int)) := by
          by_cases c1 : 0 < k ∧ s[k].toNat = 0
          · left; omega
          · by_cases c2 : k = 9 ∧ 1 < s[k].toNat
            · right; omega
            · exfalso
              have hkl : k < s.data.toList.length := by rw [size_list]; exact hlt
              have e : s[k].toNat = (s.data.toList[k]).toNat := by rw [at_list s k hlt]
              refine HN.out k ⟨hl10, hkl, HM.out, by omega, fun h0 hz => c1 ⟨h0, by omega⟩, fun h9 => ?_⟩
              rcases Nat.lt_or_ge 1 s[k].toNat with g | g
              · exact absurd ⟨h9, g⟩ c2
              · omega
        clear hb
        rcases hno with ⟨h0, hz⟩ | ⟨rfl, h1⟩
        · have hz' : ((s[k].toNat : Int) == 0) = true := beq_iff_eq.2 hz
          clear hz
          by_cases h9 : k = 9
          · subst h9
            go_wp2_with fail
            all_goals go_ret2
            all_goals exact ⟨rfl, rfl⟩
          · have h9' : ((k : Int) == 9) = false := beq_eq_false_iff_ne.2 (by omega)
            go_wp2_with fail
            all_goals go_ret2
            all_goals exact ⟨rfl, rfl⟩
        · go_wp2_with fail
          all_goals go_ret2
          all_goals exact ⟨rfl, rfl⟩
    · by_cases hlt : k < s.size
      · have hge : (10 : Int) ≤ (k : Int) := by omega
        go_wp2_with fail
        all_goals go_ret2
        all_goals exact ⟨rfl, rfl⟩
      · go_wp2_with fail
        all_goals go_ret2
        all_goals exact ⟨rfl, rfl⟩


set_option maxHeartbeats 400000 in
set_option maxRecDepth 100000 in
theorem reftake_none (s : ByteArray) (w : World) (hs : s.size ≤ maxLen) (h : ∀ e, ¬ Vi.Ok s.data.toList e) :
    Calls Tryd.prog 72 #[.string s] w fun r w' => r = .returned (.tuple #[.string ⟨#[]⟩, .int .i64 0]) ∧ w = w' := by
  have H := Lib.hid h
  clear h
  go_enter Tryd.func72, Tryd.ntmps72
  go_wp2_with fail
  refine (refget_none s _ hs H.out).mono ?_
  rintro e w1 ⟨rfl, rfl⟩
  go_wp2_with fail
  go_ret2
  exact ⟨rfl, rfl⟩

set_option maxHeartbeats 400000 in
set_option maxRecDepth 100000 in
theorem reftake_short (s : ByteArray) (w : World) (hs : s.size ≤ maxLen) (e : Nat) (h : Vi.Ok s.data.toList e) (hv : s.size - (e + 1) < Vi.val (s.data.toList.take (e + 1))) :
    Calls Tryd.prog 72 #[.string s] w fun r w' => r = .returned (.tuple #[.string ⟨#[]⟩, .int .i64 0]) ∧ w = w' := by
  have hlt := h.lt
  rw [size_list] at hlt
  have H := Lib.hid h
  have hsz := hs
  unfold maxLen at hsz
  have hvl := h.val_lt
  clear h
  generalize hx : Vi.val (s.data.toList.take (e + 1)) = x at *
  have HX := Lib.hid hx
  clear hx
  have hk0 : ((e : Int) + 1 == 0) = false := beq_eq_false_iff_ne.2 (by omega)
  have hgt : (s.size : Int) - ((e : Int) + 1) < (x : Int) := by omega
  have hge : (0 : Int) ≤ (s.size : Int) - ((e : Int) + 1) := by omega
  go_enter Tryd.func72, Tryd.ntmps72
  go_wp2_with fail
  refine (refget_ok s _ hs e H.out).mono ?_
  rintro r w1 ⟨rfl, rfl⟩
  rw [HX.out]
  go_wp2_with fail
  all_goals go_ret2
  all_goals exact ⟨rfl, rfl⟩

set_option maxHeartbeats 400000 in
set_option maxRecDepth 100000 in
theorem reftake_ok (s : ByteArray) (w : World) (hs : s.size ≤ maxLen) (e : Nat) (h : Vi.Ok s.data.toList e) (hv : Vi.val (s.data.toList.take (e + 1)) ≤ s.size - (e + 1)) :
    Calls Tryd.prog 72 #[.string s] w fun r w' => r = .returned (.tuple #[.string (s.extract (e + 1) (e + 1 + Vi.val (s.data.toList.take (e + 1)))), .int .i64 ((e : Int) + 1 + (Vi.val (s.data.toList.take (e + 1)) : Int))]) ∧ w = w' := by
  have hlt := h.lt
  rw [size_list] at hlt
  have H := Lib.hid h
  have hsz := hs
  unfold maxLen at hsz
  have hvl := h.val_lt
  clear h
  generalize hx : Vi.val (s.data.toList.take (e + 1)) = x at *
  have HX := Lib.hid hx
  clear hx
  have hk0 : ((e : Int) + 1 == 0) = false := beq_eq_false_iff_ne.2 (by omega)
  have hgt : (x : Int) ≤ (s.size : Int) - ((e : Int) + 1) := by omega
  have hge : (0 : Int) ≤ (s.size : Int) - ((e : Int) + 1) := by omega
  go_enter Tryd.func72, Tryd.ntmps72
  go_wp2_with fail
  refine (refget_ok s _ hs e H.out).mono ?_
  rintro r w1 ⟨rfl, rfl⟩
  rw [HX.out]
  go_wp2_with fail
  all_goals go_ret2
  all_goals exact ⟨rfl, rfl⟩

end Go.Proofs.YtipigedopmgemaaDoor
end
