/-
  WALKS OF LAYER 4: the document's own May (knapsackref04.May), of trees.
-/
import Derived.Test.YtcicfjfbnbkkcaaDoorMay
import Derived.Deep.RegionHeld3
import Derived.Test.YtcicfjfbnbkkcaaDoorSameLinks
namespace Go.Proofs.YtcicfjfbnbkkcaaDoor
open Go.RowKit
set_option linter.unusedVariables false
set_option linter.unusedSimpArgs false

theorem Kp.drewN {w W : World} {cs : Array Value} {t : TypeId} (h : Kp w cs t W) (n : Nat) : Kp w cs t (W.drewN n) := ⟨⟨h.below.os, h.below.tape, h.below.output, h.below.size, h.below.block⟩, h.held⟩

set_option maxHeartbeats 4000000 in
set_option maxRecDepth 100000 in
theorem may_tree (cs : Array Value) (o : Ob) (ao bo : Option Addr) (ca cb : Nat) (w : World) (h : ObAt w cs o ao bo ca cb) (hk : o.kind = 2) :
    Calls Tryd.prog 39 #[.agg cs] w fun r w' => r = .returned (.bool (validB o)) ∧ Below w.heap.size w w' := by
  have HZ := Lib.hid (show validB o = (blobZ o && commitZ o && tagZ o && (decide (o.ents.length ≤ 64) && entsOk .empty o.ents)) by simp [validB, foreignZ, hk])
  generalize validB o = z at HZ
  have HZ1 := Lib.hid (show blobZ o = o.data.toList.isEmpty from rfl)
  have HZ2 := Lib.hid (show treeZ o = decide (o.ents.length = 0) from isEmpty_len _)
  have HZ3 := Lib.hid (show commitZ o = (decide (o.tree = zId) && decide (o.pars.length = 0) && decide (o.time = 0) && o.text.toList.isEmpty) by rw [← isEmpty_len]; rfl)
  have HZ4 := Lib.hid (show tagZ o = (decide (o.target = zId) && decide (o.of = 0) && o.name.toList.isEmpty) from rfl)
  generalize blobZ o = z1 at HZ HZ1
  generalize treeZ o = z2 at HZ HZ2
  generalize commitZ o = z3 at HZ HZ3
  generalize tagZ o = z4 at HZ HZ4
  have c0 : cs[0]? = some (.int .i64 2) := by rw [h.F.c0, hk]
  have c1 := h.F.c1
  have c2 := h.F.c2
  have c35 := h.F.c35
  have c36 := h.F.c36
  have c37 := h.F.c37
  have c70 := h.F.c70
  have c71 := h.F.c71
  have hpl := h.pl
  have hel := h.el
  unfold maxLen at hpl hel
  have hq3 := fun W => eq_id o.tree zId h.F.trl rfl W
  have hq7 := fun W => eq_id o.target zId h.F.tal rfl W
  have HT := Lib.hid h.F.trl
  have HG := Lib.hid h.F.tal
  have HO := Lib.hid (show zId.length = 32 from rfl)
  have HNM := Lib.hid (fun W => refname_any o.name W h.nm)
  generalize decide (o.tree = zId) = tz at hq3 HZ3
  generalize decide (o.target = zId) = gz at hq7 HZ4
  have E0 := heap_alloc2_old w (.cells cs 29) (.cells (idC zId).toArray 25)
  have E1 := heap_alloc2_new w (.cells cs 29) (.cells (idC zId).toArray 25)
  have RT := Lib.hid (h.F.rtr E0)
  have RG := Lib.hid (h.F.rta E0)
  have RO := Lib.hid (id_rid E1)
  have KE := Lib.hid E0
  have C2 := Lib.hid h.F.c2
  have HE := Lib.hid h.E
  have HD := Lib.hid h.eid
  have HNN := Lib.hid h.enm
  clear E0 E1 h hk
  generalize o.pars.length = np at c35 HZ3 hpl
  generalize nameOk o.name = nb at HNM
  generalize hez : entsOk .empty o.ents = ez at HZ
  have HEZ := Lib.hid hez
  clear hez
  have hB := ((Below.refl w.heap.size w).alloc (Nat.le_refl _) (.cells cs 29)).alloc (by simp) (.cells (idC zId).toArray 25)
  go_enter Tryd.func39, Tryd.ntmps39
  go_wp2_with (first
    | (go_at_call 60; ((with_reducible refine (HNM.out _).mono ?_); rintro r wx ⟨rfl, rfl⟩))
    | ((with_reducible refine bd_zid ?_ ?_ ?_); rfl; rfl)
    | ((with_reducible refine st_id2 (x := .tmp 3) (y := .tmp 16) (g := w.heap.size + 1) ?_ ?_ ?_ ?_ ?_ ?_ HO.out ?_); rfl; rfl; rfl; rfl; rfl; simp)
    | ((fail_if_success (fail_if_success go_guarded)); (with_reducible refine ldg_idm (x := .tmp 40) ?_ ?_ ?_ RT.out HT.out ?_); rfl; rfl; kernel_rfl)
    | ((fail_if_success (fail_if_success go_guarded)); (with_reducible refine ldg_idm (x := .tmp 3) ?_ ?_ ?_ RO.out HO.out ?_); rfl; rfl; kernel_rfl)
    | ((with_reducible refine ld_idm (x := .tmp 64) ?_ ?_ ?_ RG.out HG.out ?_); rfl; rfl; rfl)
    | ((with_reducible refine ld_idm (x := .tmp 3) ?_ ?_ ?_ RO.out HO.out ?_); rfl; rfl; rfl))
  all_goals first
    | (go_ret
       refine ⟨ret_bool ?_, hB⟩
       rw [HZ.out]
       have e1 := HZ1.out
       have e2 := HZ2.out
       have e3 := HZ3.out
       have e4 := HZ4.out
       simp_all <;> omega)
    | skip
  have HF : Hid (z = ez) := by
    show z = ez
    rw [HZ.out]
    have e1 := HZ1.out
    have e3 := HZ3.out
    have e4 := HZ4.out
    simp_all <;> omega
  clear HZ HZ1 HZ2 HZ3 HZ4
  have K2 : Kp w cs 29 ((w.alloc (.cells cs 29)).alloc (.cells (idC zId).toArray 25)) := ⟨hB, KE.out⟩
  go_loopw [5] (fun i wr => ∃ (k : Nat) (last : ByteArray), k ≤ o.ents.length ∧ i = .int .i64 k ∧ Hid (z = entsOk last (o.ents.drop k)) ∧ Hid (k = 0 ∧ last = .empty ∨ 0 < k ∧ (o.ents[k - 1]?).map (·.name) = some last) ∧ Kp w cs 29 wr) (fun i _ => o.ents.length - (intOf i).toNat)
  case atStart => exact ⟨0, .empty, by omega, rfl, by rw [HF.out, ← HEZ.out]; rfl, .inl ⟨rfl, rfl⟩, K2⟩
  case round =>
    clear K2 hq3 hq7 RT RG RO hB HF
    obtain ⟨k, last, hk, rfl, HS, HLst, K1⟩ := hrel
    have c2 := K1.cell C2.out
    by_cases hlt : k < o.ents.length
    · have hlt' : (k : Int) < (o.ents.length : Int) := by omega
      have hk0 : (0 : Int) ≤ (k : Int) := by omega
      obtain ⟨e, he⟩ : ∃ e, o.ents[k]? = some e := ⟨o.ents[k], List.getElem?_eq_getElem hlt⟩
      have hmem := List.mem_of_getElem? he
      obtain ⟨a, rfl, hc⟩ := ent_cells (HE.out.below K1.below) k e he
      have HC := Lib.hid hc
      have HL := Lib.hid (HD.out e hmem)
      have HNE := Lib.hid (fun W => refname_any e.name W (HNN.out e hmem))
      have n0 : (enC e)[0]? = some (.string e.name) := rfl
      have n1 : (enC e)[1]? = some (.int .i64 e.kind) := rfl
      have HG0 := Lib.hid (fun h : nameOk e.name = true => gt_empty h)
      have HT := Lib.hid (show z = (nameOk e.name && gtB last e.name && (e.kind == 1 || e.kind == 2) && entsOk e.name (o.ents.drop (k + 1))) by
        obtain ⟨hk3, rfl⟩ := List.getElem?_eq_some_iff.1 he
        rw [HS.out, List.drop_eq_getElem_cons hk3]; rfl)
      have HNX := Lib.hid (show k + 1 = 0 ∧ e.name = .empty ∨ 0 < k + 1 ∧ (o.ents[k + 1 - 1]?).map (·.name) = some e.name from .inr ⟨by omega, by rw [Nat.add_sub_cancel, he]; rfl⟩)
      have K3 := K1.step ((Below.refl _ _).alloc (Nat.le_refl _) (.cells (enC e).toArray 52))
      generalize nameOk e.name = nb2 at HNE HG0 HT
      by_cases hk1 : k = 0
      · have HG1 := Lib.hid (fun h => by
          rcases HLst.out with ⟨_, rfl⟩ | ⟨h0, _⟩
          · exact HG0.out h
          · omega : nb2 = true → gtB last e.name = true)
        have hn0 : ¬ (0 : Int) < (k : Int) := by omega
        have hd0 : decide ((0 : Int) < (k : Int)) = false := by simp; omega
        have hd1 : decide (0 < k) = false := by simp; omega
        have HK0 := Lib.hid hk1
        clear hc he hmem HLst HG0 hk1
        go_wp2_with (first
          | (go_at_call 60; ((with_reducible refine (HNE.out _).mono ?_); rintro r wx ⟨rfl, rfl⟩))
          | ((with_reducible refine ld_en (x := .tmp 113) (p := a.add (k * 34)) ?_ ?_ ?_ HC.out HL.out ?_); rfl; rfl; rfl)
          | ((with_reducible refine st_en (x := .tmp 6) (y := .tmp 114) (e := e) ?_ ?_ ?_ ?_ ?_ HL.out ?_); rfl; rfl; rfl; rfl; rfl))
        all_goals first
          | (go_ret
             refine ⟨ret_bool ?_, K3.below⟩
             rw [HT.out]
             simp_all <;> omega)
          | skip
        go_quiet (fail)
        go_wp2
        go_roundw
        case rel => exact ⟨k + 1, e.name, by omega, by go_num, by rw [HT.out]; have h1 := HG1.out; simp only [Hid]; simp_all <;> omega, HNX, K3.drewN _⟩
        case measure => simp [intOf]; omega
      · obtain ⟨p, hp, hpn⟩ : ∃ p, o.ents[k - 1]? = some p ∧ p.name = last := by
          rcases HLst.out with ⟨h0, _⟩ | ⟨_, h1⟩
          · omega
          · cases hq : o.ents[k - 1]? with
            | none => rw [hq] at h1; simp at h1
            | some p => rw [hq] at h1; exact ⟨p, rfl, by simpa using h1⟩
        have hcp := (by
          obtain ⟨a', e', h'⟩ := ent_cells (HE.out.below K1.below) (k - 1) p hp
          cases e'
          exact h' 0 (.string last) (by rw [← hpn]; rfl) : wr.cell? ((a.add ((k - 1) * 34)).add 0) = some (.string last))
        have hcp2 : wr.cell? (a.add ((k - 1) * 34)) = some (.string last) := by simpa [Addr.add] using hcp
        have lp := World.block_lt_of_cell? wr _ hcp2
        have hn0 : (0 : Int) < (k : Int) := by omega
        have hd0 : decide ((0 : Int) < (k : Int)) = true := by simp; omega
        have hd1 : decide (0 < k) = true := by simp; omega
        have hw1 : IntKind.i64.wrap ((k : Int) - 1) = (k : Int) - 1 := IntWalk.i64_in _ (by omega)
        have h00 : (0 : Int) ≤ (k : Int) - 1 := by omega
        have htt : ((k : Int) - 1).toNat = k - 1 := by omega
        have hl2 : (k : Int) - 1 < (o.ents.length : Int) := by omega
        have hlb := (Array.getElem?_eq_some_iff.1 K1.held).1
        have SA : ((wr.alloc (.cells (enC e).toArray 52)).cell? ⟨w.heap.size, 2, none⟩ = some (.slice (some a) o.ents.length ca)) ∧ ((wr.alloc (.cells (enC e).toArray 52)).cell? (a.add ((k - 1) * 34)) = some (.string last)) ∧ ((wr.alloc (.cells (enC e).toArray 52)).cell? ⟨wr.heap.size, 0, none⟩ = some (.string e.name)) :=
          ⟨(World.cell?_alloc_lt wr _ ⟨w.heap.size, 2, none⟩ hlb).trans c2, (World.cell?_alloc_lt wr _ _ lp).trans hcp2, (cell_of_row _ _ _ _ _ (0, 0) (heap_alloc_last wr _)).trans n0⟩
        have HSA := Lib.hid SA
        have HGB := Lib.hid (gtB_eq last e.name)
        clear SA hc he hmem HLst HG0 hk1 hp hcp hcp2 hpn
        go_wp2_with (first
          | (go_at_call 60; ((with_reducible refine (HNE.out _).mono ?_); rintro r wx ⟨rfl, rfl⟩))
          | ((with_reducible refine ld_en (x := .tmp 113) (p := a.add (k * 34)) ?_ ?_ ?_ HC.out HL.out ?_); rfl; rfl; rfl)
          | ((with_reducible refine st_en (x := .tmp 6) (y := .tmp 114) (e := e) ?_ ?_ ?_ ?_ ?_ HL.out ?_); rfl; rfl; rfl; rfl; rfl))
        all_goals first
          | (go_ret
             refine ⟨ret_bool ?_, K3.below⟩
             rw [HT.out]
             simp_all <;> omega)
          | skip
        obtain ⟨s1, s2, s3⟩ := HSA.out
        go_quiet (fail)
        go_wp2
        all_goals first
          | (go_ret
             refine ⟨ret_bool ?_, (K3.drewN _).below⟩
             rw [HT.out, HGB.out]
             simp_all <;> omega)
          | exact ⟨⟨k + 1, e.name, by omega, by go_num, by rw [HT.out, HGB.out]; simp only [Hid]; simp_all <;> omega, HNX, K3.drewN _⟩, by simp [intOf]; omega⟩
    · have HT := Lib.hid (show z = true by rw [HS.out, List.drop_of_length_le (by omega)]; rfl)
      go_wp2
      go_ret
      exact ⟨ret_bool (by rw [HT.out]), K1.below⟩
end Go.Proofs.YtcicfjfbnbkkcaaDoor
