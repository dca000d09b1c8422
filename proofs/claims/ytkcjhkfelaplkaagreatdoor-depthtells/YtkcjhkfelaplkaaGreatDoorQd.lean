/-
  WALKS OF LAYER 4: the document's own May (knapsackref04.May), of tags. WALKS OF LAYER 4: Links, of the program. WALKS OF
-/
import Derived.Test.YtkcjhkfelaplkaaGreatDoorQb
import Derived.Deep.RegionHeld3
import Derived.Test.YtkcjhkfelaplkaaGreatDoorQa
import Derived.Test.YtkcjhkfelaplkaaGreatDoorQc
import Derived.Deep.Upon
set_option linter.unusedVariables false
set_option linter.unusedSimpArgs false
set_option maxHeartbeats 8000000
set_option maxRecDepth 100000
section
section
namespace Go.Proofs.YtkcjhkfelaplkaaGreatDoor
open Go.RowKit
theorem may_tag (cs : Array Value) (o : Ob) (ao bo : Option Addr) (ca cb : Nat) (w : World) (h : ObAt w cs o ao bo ca cb) (hk : o.kind = 4) :
  Calls Tryz.prog 99 #[.agg cs] w fun r w' => r = .returned (.bool (validB o)) ∧ Below w.heap.size w w' := by
 have HZ := Lib.hid (show validB o = (blobZ o && treeZ o && commitZ o && (decide (1 ≤ o.of ∧ o.of ≤ 4) && nameOk o.name)) by simp [validB, foreignZ, hk])
 generalize validB o = z at HZ
 have HZ1 := Lib.hid (show blobZ o = o.data.toList.isEmpty from rfl)
 have HZ2 := Lib.hid (show treeZ o = decide (o.ents.length = 0) from isEmpty_len _)
 have HZ3 := Lib.hid (show commitZ o = (decide (o.tree = zId) && decide (o.pars.length = 0) && decide (o.time = 0) && o.text.toList.isEmpty) by rw [← isEmpty_len]; rfl)
 have HZ4 := Lib.hid (show tagZ o = (decide (o.target = zId) && decide (o.of = 0) && o.name.toList.isEmpty) from rfl)
 generalize blobZ o = z1 at HZ HZ1
 generalize treeZ o = z2 at HZ HZ2
 generalize commitZ o = z3 at HZ HZ3
 generalize tagZ o = z4 at HZ HZ4
 have c0 : cs[0]? = some (.int .i64 4) := by rw [h.F.c0, hk]
 have c1 := h.F.c1
 have c2 := h.F.c2
 have c35 := h.F.c35
 have c36 := h.F.c36
 have c37 := h.F.c37
 have c70 := h.F.c70
 have c71 := h.F.c71
 have hpl := h.pl
 have hel := h.el
 unfold maxLen at hpl hel
 have hq3 := fun W => eq_id o.tree zId h.F.trl rfl W
 have hq7 := fun W => eq_id o.target zId h.F.tal rfl W
 have HT := Lib.hid h.F.trl
 have HG := Lib.hid h.F.tal
 have HO := Lib.hid (show zId.length = 32 from rfl)
 have HNM := Lib.hid (fun W => refname_any o.name W h.nm)
 generalize decide (o.tree = zId) = tz at hq3 HZ3
 generalize decide (o.target = zId) = gz at hq7 HZ4
 have E0 := heap_alloc2_old w (.cells cs 59) (.cells (idC zId).toArray 46)
 have E1 := heap_alloc2_new w (.cells cs 59) (.cells (idC zId).toArray 46)
 have RT := Lib.hid (h.F.rtr E0)
 have RG := Lib.hid (h.F.rta E0)
 have RO := Lib.hid (id_rid E1)
 clear E0 E1 h hk
 generalize o.ents.length = ne at c2 HZ2 hel HZ
 generalize o.pars.length = np at c35 HZ3 hpl HZ
 generalize nameOk o.name = nb at HNM HZ
 have hB := ((Below.refl w.heap.size w).alloc (Nat.le_refl _) (.cells cs 59)).alloc (by simp) (.cells (idC zId).toArray 46)
 go_enter Tryz.func99, Tryz.ntmps99
 go_wp2_with (first
  | (go_at_call 133; ((with_reducible refine (HNM.out _).mono ?_); rintro r wx ⟨rfl, rfl⟩))
  | ((with_reducible refine bd_zid ?_ ?_ ?_); rfl; rfl)
  | ((with_reducible refine st_id2 (x := .tmp 3) (y := .tmp 16) (g := w.heap.size + 1) ?_ ?_ ?_ ?_ ?_ ?_ HO.out ?_); rfl; rfl; rfl; rfl; rfl; simp)
  | ((fail_if_success (fail_if_success go_guarded)); (with_reducible refine ldg_idm (x := .tmp 40) ?_ ?_ ?_ RT.out HT.out ?_); rfl; rfl; kernel_rfl)
  | ((fail_if_success (fail_if_success go_guarded)); (with_reducible refine ldg_idm (x := .tmp 3) ?_ ?_ ?_ RO.out HO.out ?_); rfl; rfl; kernel_rfl)
  | ((with_reducible refine ld_idm (x := .tmp 64) ?_ ?_ ?_ RG.out HG.out ?_); rfl; rfl; rfl)
  | ((with_reducible refine ld_idm (x := .tmp 3) ?_ ?_ ?_ RO.out HO.out ?_); rfl; rfl; rfl))
 all_goals first
  | (go_ret
     refine ⟨ret_bool ?_, hB⟩
     rw [HZ.out]
     have e1 := HZ1.out
     have e2 := HZ2.out
     have e3 := HZ3.out
     have e4 := HZ4.out
     simp_all <;> omega)
  | skip
 ·
  go_ret
  refine ⟨ret_bool ?_, hB⟩
  rename_i hx
  have hnb : nb = false := by
   rcases hx with (h | h) | h
   · omega
   · omega
   · simpa using h
  rw [HZ.out, hnb]
  simp
 obtain rfl : ne = 0 := by omega
 go_loop [5] (fun i => i = .int .i64 0) (fun _ => 0)
 case atStart => rfl
 case round =>
  subst hrel
  go_wp2
  go_ret
  refine ⟨ret_bool ?_, hB⟩
  rw [HZ.out]
  have e1 := HZ1.out
  have e2 := HZ2.out
  have e3 := HZ3.out
  have e4 := HZ4.out
  simp_all <;> omega
end Go.Proofs.YtkcjhkfelaplkaaGreatDoor
end
section
namespace Go.Proofs.YtkcjhkfelaplkaaGreatDoor
open Go.RowKit
def OwnL (w : World) (base : Nat) (v : Value) (ls : List (List UInt8 × Int)) : Prop := w.ownsRow base 166 33 v ls.length (ls.flatMap lkC)
section
variable {ops : Array Oper} {rest : List Oper} {op : Oper} {a : Act} {w : World} {Q : Exit → Act → World → Prop} {x y : Operand}
end
def linksL (o : Ob) : List (List UInt8 × Int) := if o.kind = 2 then o.ents.map (fun e => (e.id, e.kind)) else if o.kind = 3 then (o.tree, 2) :: o.pars.map (fun p => (p, 3)) else if o.kind = 4 then [(o.target, o.of)] else []
end Go.Proofs.YtkcjhkfelaplkaaGreatDoor
end
section
namespace Go.Proofs.YtkcjhkfelaplkaaGreatDoor
open Go.RowKit
end Go.Proofs.YtkcjhkfelaplkaaGreatDoor
end
end
section
section
namespace Go.Proofs.YtkcjhkfelaplkaaGreatDoor
open Go.RowKit
theorem Kp.drewN {w W : World} {cs : Array Value} {t : TypeId} (h : Kp w cs t W) (n : Nat) : Kp w cs t (W.drewN n) := ⟨⟨h.below.os, h.below.tape, h.below.output, h.below.size, h.below.block⟩, h.held⟩
theorem may_tree (cs : Array Value) (o : Ob) (ao bo : Option Addr) (ca cb : Nat) (w : World) (h : ObAt w cs o ao bo ca cb) (hk : o.kind = 2) :
  Calls Tryz.prog 99 #[.agg cs] w fun r w' => r = .returned (.bool (validB o)) ∧ Below w.heap.size w w' := by
 have HZ := Lib.hid (show validB o = (blobZ o && commitZ o && tagZ o && (decide (o.ents.length ≤ 64) && entsOk .empty o.ents)) by simp [validB, foreignZ, hk])
 generalize validB o = z at HZ
 have HZ1 := Lib.hid (show blobZ o = o.data.toList.isEmpty from rfl)
 have HZ2 := Lib.hid (show treeZ o = decide (o.ents.length = 0) from isEmpty_len _)
 have HZ3 := Lib.hid (show commitZ o = (decide (o.tree = zId) && decide (o.pars.length = 0) && decide (o.time = 0) && o.text.toList.isEmpty) by rw [← isEmpty_len]; rfl)
 have HZ4 := Lib.hid (show tagZ o = (decide (o.target = zId) && decide (o.of = 0) && o.name.toList.isEmpty) from rfl)
 generalize blobZ o = z1 at HZ HZ1
 generalize treeZ o = z2 at HZ HZ2
 generalize commitZ o = z3 at HZ HZ3
 generalize tagZ o = z4 at HZ HZ4
 have c0 : cs[0]? = some (.int .i64 2) := by rw [h.F.c0, hk]
 have c1 := h.F.c1
 have c2 := h.F.c2
 have c35 := h.F.c35
 have c36 := h.F.c36
 have c37 := h.F.c37
 have c70 := h.F.c70
 have c71 := h.F.c71
 have hpl := h.pl
 have hel := h.el
 unfold maxLen at hpl hel
 have hq3 := fun W => eq_id o.tree zId h.F.trl rfl W
 have hq7 := fun W => eq_id o.target zId h.F.tal rfl W
 have HT := Lib.hid h.F.trl
 have HG := Lib.hid h.F.tal
 have HO := Lib.hid (show zId.length = 32 from rfl)
 have HNM := Lib.hid (fun W => refname_any o.name W h.nm)
 generalize decide (o.tree = zId) = tz at hq3 HZ3
 generalize decide (o.target = zId) = gz at hq7 HZ4
 have E0 := heap_alloc2_old w (.cells cs 59) (.cells (idC zId).toArray 46)
 have E1 := heap_alloc2_new w (.cells cs 59) (.cells (idC zId).toArray 46)
 have RT := Lib.hid (h.F.rtr E0)
 have RG := Lib.hid (h.F.rta E0)
 have RO := Lib.hid (id_rid E1)
 have KE := Lib.hid E0
 have C2 := Lib.hid h.F.c2
 have HE := Lib.hid h.E
 have HD := Lib.hid h.eid
 have HNN := Lib.hid h.enm
 clear E0 E1 h hk
 generalize o.pars.length = np at c35 HZ3 hpl
 generalize nameOk o.name = nb at HNM
 generalize hez : entsOk .empty o.ents = ez at HZ
 have HEZ := Lib.hid hez
 clear hez
 have hB := ((Below.refl w.heap.size w).alloc (Nat.le_refl _) (.cells cs 59)).alloc (by simp) (.cells (idC zId).toArray 46)
 go_enter Tryz.func99, Tryz.ntmps99
 go_wp2_with (first
  | (go_at_call 133; ((with_reducible refine (HNM.out _).mono ?_); rintro r wx ⟨rfl, rfl⟩))
  | ((with_reducible refine bd_zid ?_ ?_ ?_); rfl; rfl)
  | ((with_reducible refine st_id2 (x := .tmp 3) (y := .tmp 16) (g := w.heap.size + 1) ?_ ?_ ?_ ?_ ?_ ?_ HO.out ?_); rfl; rfl; rfl; rfl; rfl; simp)
  | ((fail_if_success (fail_if_success go_guarded)); (with_reducible refine ldg_idm (x := .tmp 40) ?_ ?_ ?_ RT.out HT.out ?_); rfl; rfl; kernel_rfl)
  | ((fail_if_success (fail_if_success go_guarded)); (with_reducible refine ldg_idm (x := .tmp 3) ?_ ?_ ?_ RO.out HO.out ?_); rfl; rfl; kernel_rfl)
  | ((with_reducible refine ld_idm (x := .tmp 64) ?_ ?_ ?_ RG.out HG.out ?_); rfl; rfl; rfl)
  | ((with_reducible refine ld_idm (x := .tmp 3) ?_ ?_ ?_ RO.out HO.out ?_); rfl; rfl; rfl))
 all_goals first
  | (go_ret
     refine ⟨ret_bool ?_, hB⟩
     rw [HZ.out]
     have e1 := HZ1.out
     have e2 := HZ2.out
     have e3 := HZ3.out
     have e4 := HZ4.out
     simp_all <;> omega)
  | skip
 have HF : Hid (z = ez) := by
  show z = ez
  rw [HZ.out]
  have e1 := HZ1.out
  have e3 := HZ3.out
  have e4 := HZ4.out
  simp_all <;> omega
 clear HZ HZ1 HZ2 HZ3 HZ4
 have K2 : Kp w cs 59 ((w.alloc (.cells cs 59)).alloc (.cells (idC zId).toArray 46)) := ⟨hB, KE.out⟩
 go_loopw [5] (fun i wr => ∃ (k : Nat) (last : ByteArray), k ≤ o.ents.length ∧ i = .int .i64 k ∧ Hid (z = entsOk last (o.ents.drop k)) ∧ Hid (k = 0 ∧ last = .empty ∨ 0 < k ∧ (o.ents[k - 1]?).map (·.name) = some last) ∧ Kp w cs 59 wr) (fun i _ => o.ents.length - (intOf i).toNat)
 case atStart => exact ⟨0, .empty, by omega, rfl, by rw [HF.out, ← HEZ.out]; rfl, .inl ⟨rfl, rfl⟩, K2⟩
 case round =>
  clear K2 hq3 hq7 RT RG RO hB HF
  obtain ⟨k, last, hk, rfl, HS, HLst, K1⟩ := hrel
  have c2 := K1.cell C2.out
  by_cases hlt : k < o.ents.length
  ·
   have hlt' : (k : Int) < (o.ents.length : Int) := by omega
   have hk0 : (0 : Int) ≤ (k : Int) := by omega
   obtain ⟨e, he⟩ : ∃ e, o.ents[k]? = some e := ⟨o.ents[k], List.getElem?_eq_getElem hlt⟩
   have hmem := List.mem_of_getElem? he
   obtain ⟨a, rfl, hc⟩ := ent_cells (HE.out.below K1.below) k e he
   have HC := Lib.hid hc
   have HL := Lib.hid (HD.out e hmem)
   have HNE := Lib.hid (fun W => refname_any e.name W (HNN.out e hmem))
   have n0 : (enC e)[0]? = some (.string e.name) := rfl
   have n1 : (enC e)[1]? = some (.int .i64 e.kind) := rfl
   have HG0 := Lib.hid (fun h : nameOk e.name = true => gt_empty h)
   have HT := Lib.hid (show z = (nameOk e.name && gtB last e.name && (e.kind == 1 || e.kind == 2) && entsOk e.name (o.ents.drop (k + 1))) by
    obtain ⟨hk3, rfl⟩ := List.getElem?_eq_some_iff.1 he
    rw [HS.out, List.drop_eq_getElem_cons hk3]; rfl)
   have HNX := Lib.hid (show k + 1 = 0 ∧ e.name = .empty ∨ 0 < k + 1 ∧ (o.ents[k + 1 - 1]?).map (·.name) = some e.name from .inr ⟨by omega, by rw [Nat.add_sub_cancel, he]; rfl⟩)
   have K3 := K1.step ((Below.refl _ _).alloc (Nat.le_refl _) (.cells (enC e).toArray 178))
   generalize nameOk e.name = nb2 at HNE HG0 HT
   by_cases hk1 : k = 0
   ·
    have HG1 := Lib.hid (fun h => by
     rcases HLst.out with ⟨_, rfl⟩ | ⟨h0, _⟩
     · exact HG0.out h
     · omega : nb2 = true → gtB last e.name = true)
    have hn0 : ¬ (0 : Int) < (k : Int) := by omega
    have hd0 : decide ((0 : Int) < (k : Int)) = false := by simp; omega
    have hd1 : decide (0 < k) = false := by simp; omega
    have HK0 := Lib.hid hk1
    clear hc he hmem HLst HG0 hk1
    go_wp2_with (first
     | (go_at_call 133; ((with_reducible refine (HNE.out _).mono ?_); rintro r wx ⟨rfl, rfl⟩))
     | ((with_reducible refine ld_en (x := .tmp 113) (p := a.add (k * 34)) ?_ ?_ ?_ HC.out HL.out ?_); rfl; rfl; rfl)
     | ((with_reducible refine st_en (x := .tmp 6) (y := .tmp 114) (e := e) ?_ ?_ ?_ ?_ ?_ HL.out ?_); rfl; rfl; rfl; rfl; rfl))
    all_goals first
     | (go_ret
        refine ⟨ret_bool ?_, K3.below⟩
        rw [HT.out]
        simp_all <;> omega)
     | skip
    go_quiet (fail)
    go_wp2
    go_roundw
    case rel => exact ⟨k + 1, e.name, by omega, by go_num, by rw [HT.out]; have h1 := HG1.out; simp only [Hid]; simp_all <;> omega, HNX, K3.drewN _⟩
    case measure => simp [intOf]; omega
   ·
    obtain ⟨p, hp, hpn⟩ : ∃ p, o.ents[k - 1]? = some p ∧ p.name = last := by
     rcases HLst.out with ⟨h0, _⟩ | ⟨_, h1⟩
     · omega
     ·
      cases hq : o.ents[k - 1]? with
      | none => rw [hq] at h1; simp at h1
      | some p => rw [hq] at h1; exact ⟨p, rfl, by simpa using h1⟩
    have hcp := (by
     obtain ⟨a', e', h'⟩ := ent_cells (HE.out.below K1.below) (k - 1) p hp
     cases e'
     exact h' 0 (.string last) (by rw [← hpn]; rfl) : wr.cell? ((a.add ((k - 1) * 34)).add 0) = some (.string last))
    have hcp2 : wr.cell? (a.add ((k - 1) * 34)) = some (.string last) := by simpa [Addr.add] using hcp
    have lp := World.block_lt_of_cell? wr _ hcp2
    have hn0 : (0 : Int) < (k : Int) := by omega
    have hd0 : decide ((0 : Int) < (k : Int)) = true := by simp; omega
    have hd1 : decide (0 < k) = true := by simp; omega
    have hw1 : IntKind.i64.wrap ((k : Int) - 1) = (k : Int) - 1 := IntWalk.i64_in _ (by omega)
    have h00 : (0 : Int) ≤ (k : Int) - 1 := by omega
    have htt : ((k : Int) - 1).toNat = k - 1 := by omega
    have hl2 : (k : Int) - 1 < (o.ents.length : Int) := by omega
    have hlb := (Array.getElem?_eq_some_iff.1 K1.held).1
    have SA : ((wr.alloc (.cells (enC e).toArray 178)).cell? ⟨w.heap.size, 2, none⟩ = some (.slice (some a) o.ents.length ca)) ∧ ((wr.alloc (.cells (enC e).toArray 178)).cell? (a.add ((k - 1) * 34)) = some (.string last)) ∧ ((wr.alloc (.cells (enC e).toArray 178)).cell? ⟨wr.heap.size, 0, none⟩ = some (.string e.name)) :=
     ⟨(World.cell?_alloc_lt wr _ ⟨w.heap.size, 2, none⟩ hlb).trans c2, (World.cell?_alloc_lt wr _ _ lp).trans hcp2, (cell_of_row _ _ _ _ _ (0, 0) (heap_alloc_last wr _)).trans n0⟩
    have HSA := Lib.hid SA
    have HGB := Lib.hid (gtB_eq last e.name)
    clear SA hc he hmem HLst HG0 hk1 hp hcp hcp2 hpn
    go_wp2_with (first
     | (go_at_call 133; ((with_reducible refine (HNE.out _).mono ?_); rintro r wx ⟨rfl, rfl⟩))
     | ((with_reducible refine ld_en (x := .tmp 113) (p := a.add (k * 34)) ?_ ?_ ?_ HC.out HL.out ?_); rfl; rfl; rfl)
     | ((with_reducible refine st_en (x := .tmp 6) (y := .tmp 114) (e := e) ?_ ?_ ?_ ?_ ?_ HL.out ?_); rfl; rfl; rfl; rfl; rfl))
    all_goals first
     | (go_ret
        refine ⟨ret_bool ?_, K3.below⟩
        rw [HT.out]
        simp_all <;> omega)
     | skip
    obtain ⟨s1, s2, s3⟩ := HSA.out
    go_quiet (fail)
    go_wp2
    all_goals first
     | (go_ret
        refine ⟨ret_bool ?_, (K3.drewN _).below⟩
        rw [HT.out, HGB.out]
        simp_all <;> omega)
     | exact ⟨⟨k + 1, e.name, by omega, by go_num, by rw [HT.out, HGB.out]; simp only [Hid]; simp_all <;> omega, HNX, K3.drewN _⟩, by simp [intOf]; omega⟩
  ·
   have HT := Lib.hid (show z = true by rw [HS.out, List.drop_of_length_le (by omega)]; rfl)
   go_wp2
   go_ret
   exact ⟨ret_bool (by rw [HT.out]), K1.below⟩
end Go.Proofs.YtkcjhkfelaplkaaGreatDoor
end
section
namespace Go.Proofs.YtkcjhkfelaplkaaGreatDoor
open Go.RowKit
def endR (ok : Bool) (s : ByteArray) : Ending := match ok with
 | true => .returned (.tuple #[.string s, .bool true])
 | false => .returned (.tuple #[.string ⟨#[]⟩, .bool false])
theorem may_other (cs : Array Value) (o : Ob) (ao bo : Option Addr) (ca cb : Nat) (w : World) (h : ObAt w cs o ao bo ca cb) (hk : o.kind < 1 ∨ 4 < o.kind) :
  Calls Tryz.prog 99 #[.agg cs] w fun r w' => r = .returned (.bool (validB o)) ∧ Below w.heap.size w w' := by
 have HZ := Lib.hid (show validB o = false by
  unfold validB
  rw [if_neg (by omega), if_neg (by omega), if_neg (by omega), if_neg (by omega), Bool.and_false])
 generalize validB o = z at HZ
 have c0 := h.F.c0
 clear h
 rcases hk with hk | hk
 ·
  go_enter Tryz.func99, Tryz.ntmps99
  go_wp2
  go_ret
  exact ⟨ret_bool HZ.out.symm, (Below.refl _ _).alloc (Nat.le_refl _) _⟩
 ·
  have hk' : ¬ o.kind < 1 := by omega
  go_enter Tryz.func99, Tryz.ntmps99
  go_wp2
  go_ret
  exact ⟨ret_bool HZ.out.symm, (Below.refl _ _).alloc (Nat.le_refl _) _⟩
theorem may_any (cs : Array Value) (o : Ob) (ao bo : Option Addr) (ca cb : Nat) (w : World) (h : ObAt w cs o ao bo ca cb) :
  Calls Tryz.prog 99 #[.agg cs] w fun r w' => r = .returned (.bool (validB o)) ∧ Below w.heap.size w w' := by
 rcases (by omega : o.kind = 1 ∨ o.kind = 2 ∨ o.kind = 3 ∨ o.kind = 4 ∨ (o.kind < 1 ∨ 4 < o.kind)) with e | e | e | e | e
 · exact may_blob cs o ao bo ca cb w h e
 · exact may_tree cs o ao bo ca cb w h e
 · exact may_commit cs o ao bo ca cb w h e
 · exact may_tag cs o ao bo ca cb w h e
 · exact may_other cs o ao bo ca cb w h e
theorem empty_of {s : ByteArray} (h : s.toList.isEmpty = true) : s = ⟨#[]⟩ := bytes_ext (by
 rw [ByteArray.toList_eq] at h
 simpa using h)
theorem refbody_any (cs : Array Value) (o : Ob) (ao bo : Option Addr) (ca cb : Nat) (w : World) (h : ObAt w cs o ao bo ca cb) (ft : Fit o) (hv : validB o = true) :
  Calls Tryz.prog 102 #[.agg cs] w fun r w' => r = .returned (.string ⟨(bodyL o).toArray⟩) ∧ Below w.heap.size w w' := by
 have hk := ft.k
 have hf : foreignZ o = true := by
  unfold validB at hv
  rw [Bool.and_eq_true] at hv
  exact hv.1
 unfold foreignZ at hf
 simp only [Bool.and_eq_true, Bool.or_eq_true, beq_iff_eq] at hf
 obtain ⟨⟨⟨h1, h2⟩, h3⟩, h4⟩ := hf
 have hd : o.kind ≠ 1 → o.data = ⟨#[]⟩ := fun hn => empty_of (h1.resolve_left hn)
 have he : o.kind ≠ 2 → o.ents = [] := fun hn => by simpa [treeZ] using h2.resolve_left hn
 rcases (by omega : o.kind = 1 ∨ o.kind = 2 ∨ o.kind = 3 ∨ o.kind = 4) with e | e | e | e
 · exact refbody_blob cs o ao bo ca cb w h e (he (by omega))
 · exact refbody_tree cs o ao bo ca cb w h ft e (hd (by omega))
 · exact refbody_commit cs o ao bo ca cb w h ft e (he (by omega)) (hd (by omega))
 · exact refbody_tag cs o ao bo ca cb w h ft e (he (by omega)) (hd (by omega))
theorem valid_name {o : Ob} (hv : validB o = true) : o.name.size ≤ 100 := by
 unfold validB foreignZ at hv
 simp only [Bool.and_eq_true, Bool.or_eq_true, beq_iff_eq, tagZ, decide_eq_true_eq] at hv
 obtain ⟨⟨_, z4⟩, zz⟩ := hv
 by_cases e4 : o.kind = 4
 ·
  rw [if_neg (by omega), if_neg (by omega), if_neg (by omega), if_pos e4, Bool.and_eq_true] at zz
  have := nameOk_size zz.2
  omega
 ·
  have h1 := (z4.resolve_left e4).2
  have h2 : o.name.toList = [] := by simpa using h1
  rw [ByteArray.toList_eq] at h2
  have := size_list o.name
  rw [h2] at this
  simp at this; omega
theorem refencode_any (cs : Array Value) (o : Ob) (ao bo : Option Addr) (ca cb : Nat) (w : World) (h : ObAt w cs o ao bo ca cb) (hd : o.data.size ≤ 5000) (ht : o.text.size ≤ 5000) :
  Calls Tryz.prog 68 #[.agg cs] w fun r w' => r = endR (encOk o) (encS o) ∧ Below w.heap.size w w' := by
 have HV := Lib.hid (fun W (hb : Below w.heap.size w W) => may_any cs o ao bo ca cb W (h.below hb))
 have HS := Lib.hid h.F.size
 have K0 := Kp.box w cs 59
 cases hv : validB o with
 | false =>
   rw [hv] at HV
   have HE := Lib.hid (show encOk o = false by simp [encOk, hv])
   rw [HE.out]
   clear h hv HE
   go_enter Tryz.func68, Tryz.ntmps68
   go_wp2_with (first
    | (go_at_call 99; refine (HV.out _ K0.below).mono ?_; rintro r w1 ⟨rfl, hx⟩)
    | ((with_reducible apply load_ob (k := K0) (hs := HS.out)); rfl; rfl; rfl))
   go_ret2
   exact ⟨rfl, (K0.step hx).below⟩
 | true =>
   rw [hv] at HV
   have ft := fit_of hv hd ht (valid_name hv)
   have hbl := body_len ft h.eid h.pid h.F.trl h.F.tal h.ti
   have HB := Lib.hid (fun W (hb : Below w.heap.size w W) => refbody_any cs o ao bo ca cb W (h.below hb) ft hv)
   have HO := Lib.hid (fun W => one_any o.kind W (by have := ft.k; omega) (by have := ft.k; omega))
   have hbs : (ByteArray.mk (bodyL o).toArray).size = (bodyL o).length := rfl
   have HX := Lib.hid (fun W => reftext_any ⟨(bodyL o).toArray⟩ W (by rw [hbs]; omega))
   have HE := Lib.hid (show encS o = ⟨#[byteK o.kind]⟩ ++ textOf ⟨(bodyL o).toArray⟩ from rfl)
   have htl : (textOf ⟨(bodyL o).toArray⟩).size ≤ 20000 := by
    have hl := Lib.uvarint_length64 (x := (ByteArray.mk (bodyL o).toArray).size) (by omega)
    unfold textOf
    rw [← size_list, put_list]; simp at hl ⊢; omega
   have HK := Lib.hid (show encOk o = decide ((encS o).size ≤ 4096) by simp [encOk, hv])
   generalize encOk o = ok at HK
   generalize encS o = es at HK HE
   have C0 := Lib.hid h.F.c0
   clear hbl hbs h ft hv
   generalize (ByteArray.mk (bodyL o).toArray) = bd at HB HX HE htl
   generalize textOf bd = tb at HX HE htl
   have hs1 : ¬ 9223372036854775807 < 1 + tb.size := by omega
   generalize byteK o.kind = bk at HO HE
   generalize o.kind = k at HO C0
   go_enter Tryz.func68, Tryz.ntmps68
   go_wp2_with (first
    | (go_at_call 99; refine (HV.out _ K0.below).mono ?_; rintro r w1 ⟨rfl, hx⟩)
    | ((with_reducible apply load_ob (k := K0) (hs := HS.out)); rfl; rfl; rfl))
   have K1 := K0.step hx
   clear hx
   refine wp_region_noPanic ?_
   refine wp_region_held_drew (S := (fun W => Kp w cs 59 W)) (by kernel_rfl) K1.drew (fun hHeld0 => ?_)
   refine tk (i := 0) (v := ?_) ?_ ?_
   rotate_left
   · intro W hS; go_simp; try rfl
   try simp only [q0]
   refine tk (i := 1) (v := ?_) ?_ ?_
   rotate_left
   · intro W hS; have c := hS.cell C0.out; go_simp; try rfl
   try simp only [q0]
   refine wpAnyH_take (i := 3) rfl (by kernel_rfl) (by kernel_rfl) (by kernel_rfl) (fun _ _ _ h => h) (yieldsIf_ob (by rfl) rfl rfl (fun W h => h) HS.out) (by assumption) ?_
   try simp only [q0]
   refine wpAnyH_ready (rs := [2]) (by kernel_rfl) (by simp) ?_
   refine AllReadyH.cons rfl (fun K hK => ?_) AllReadyH.nil
   go_simp
   refine (HO.out _).mono ?_
   rintro r wx1 ⟨rfl, hb1⟩
   go_wp2_with fail
   refine hK.out _ _ (hHeld0.step hb1) (fun hHeld1 => ?_)
   clear hK K
   try simp only [q0]
   refine wpAnyH_ready (rs := [4]) (by kernel_rfl) (by simp) ?_
   refine AllReadyH.cons rfl (fun K hK => ?_) AllReadyH.nil
   go_simp
   refine (HB.out _ hHeld1.below).mono ?_
   rintro r wx2 ⟨rfl, hb2⟩
   go_wp2_with fail
   refine hK.out _ _ (hHeld1.step hb2) (fun hHeld2 => ?_)
   clear hK K
   try simp only [q0]
   refine wpAnyH_ready (rs := [5]) (by kernel_rfl) (by simp) ?_
   refine AllReadyH.cons rfl (fun K hK => ?_) AllReadyH.nil
   go_simp
   refine (HX.out _).mono ?_
   rintro r wx3 ⟨rfl, hb3⟩
   go_wp2_with fail
   refine hK.out _ _ (hHeld2.step hb3) (fun hHeld3 => ?_)
   clear hK K
   try simp only [q0]
   refine tk (i := 6) (v := ?_) ?_ ?_
   rotate_left
   · intro W hS; go_simp; try rfl
   try simp only [q0]
   refine tk (i := 7) (v := ?_) ?_ ?_
   rotate_left
   · intro W hS; go_simp; try rfl
   try simp only [q0]
   refine wpAnyH_done (by kernel_rfl) ?_ _
   refine NoPanic.normal ?_
   have hz : es.size = 1 + tb.size := by rw [HE.out, ByteArray.size_append]; rfl
   have HZ := Lib.hid hz
   clear hz
   go_wp2
   all_goals
    go_ret2
    refine ⟨?_, hHeld3.below⟩
    first
     | (have e : ok = true := by rw [HK.out, HZ.out]; simp; omega
        rw [e, HE.out]; rfl)
     | (have e : ok = false := by rw [HK.out, HZ.out]; simp; omega
        rw [e]; rfl)
end Go.Proofs.YtkcjhkfelaplkaaGreatDoor
end
section
namespace Go.Proofs.YtkcjhkfelaplkaaGreatDoor
open Go.RowKit
def down (l : List UInt8) (e : Nat) (i : Int) : Nat := Vi.val ((l.take (e + 1)).drop (i + 1).toNat)
theorem down_top (l : List UInt8) (e : Nat) : down l e e = 0 := by
 unfold down
 rw [List.drop_of_length_le (by rw [List.length_take]; omega)]; rfl
theorem down_end (l : List UInt8) (e : Nat) : down l e (-1) = Vi.val (l.take (e + 1)) := by
 unfold down; simp
theorem down_step {l : List UInt8} {e : Nat} (h : Vi.Ok l e) (j : Nat) (hj : j ≤ e) (hl : j < l.length) : down l e ((j : Int) - 1) = (l[j]).toNat % 128 + 128 * down l e j := by
 have := h.lt
 unfold down
 rw [show ((j : Int) - 1 + 1).toNat = j by omega, show ((j : Int) + 1).toNat = j + 1 by omega, Vi.val_drop_succ _ j (by rw [List.length_take]; omega), List.getElem_take]
theorem down_lt {l : List UInt8} {e : Nat} (h : Vi.Ok l e) (i : Int) : down l e i < 18446744073709551616 := by
 have h1 := h.val_lt
 have h2 := Vi.val_drop_le (l.take (e + 1)) (i + 1).toNat
 unfold down; omega
theorem refget_ok (s : ByteArray) (w : World) (hs : s.size ≤ maxLen) (e : Nat) (h : Vi.Ok s.data.toList e) :
  Calls Tryz.prog 171 #[.string s] w fun r w' => r = .returned (.tuple #[.int .u64 (Vi.val (s.data.toList.take (e + 1))), .int .i64 ((e : Int) + 1)]) ∧ w = w' := by
 unfold maxLen at hs
 have hle := size_list s
 have hes : e < s.size := by have := h.lt; omega
 have h10 := h.lt10
 clear hle
 have hl : (s[e].toNat : Int) < 128 := by rw [at_list s e hes]; have := h.last; omega
 go_enter Tryz.func171, Tryz.ntmps171
 go_wp2
 go_loop [4] (fun i => ∃ k : Nat, k ≤ e ∧ i = .int .i64 k) (fun i => e - (intOf i).toNat)
 case atStart => exact ⟨0, Nat.zero_le _, rfl⟩
 case round =>
  obtain ⟨k, hk, rfl⟩ := hrel
  by_cases hlt : k < e
  ·
   have hks : k < s.size := by omega
   have h128 : (128 : Int) ≤ (s[k].toNat : Int) := by rw [at_list s k hks]; have := h.more k (by rw [size_list]; omega) hlt; omega
   go_wp2_with fail
   go_round
   case rel => exact ⟨k + 1, by omega, by go_num⟩
   case measure => simp [intOf]; omega
  ·
   obtain rfl : k = e := by omega
   have hb := (s[k]).toNat_lt
   have hthree : k = 9 ∨ (k ≠ 9 ∧ 0 < k) ∨ k = 0 := by omega
   rcases hthree with rfl | ⟨h9, h0⟩ | rfl
   ·
    have h1 : (s[9].toNat : Int) ≤ 1 := by rw [at_list s 9 hes]; have := h.fits rfl; omega
    have h2 : ((s[9].toNat : Int) == 0) = false := by rw [at_list s 9 hes]; have := h.least (by omega); exact beq_eq_false_iff_ne.2 (by omega)
    go_wp2_with fail
    go_loop [5, 6] (fun n i => ∃ j : Int, -1 ≤ j ∧ j ≤ 9 ∧ i = .int .i64 j ∧ n = .int .u64 (down s.data.toList 9 j)) (fun _ i => (intOf i + 1).toNat)
    case atStart => exact ⟨9, by omega, by omega, rfl, val_int (by have := down_top s.data.toList 9; simp at this; simp [this])⟩
    case round =>
     obtain ⟨j, hj1, hj2, rfl, rfl⟩ := hrel
     by_cases hj : 0 ≤ j
     ·
      obtain ⟨m, rfl⟩ := Int.eq_ofNat_of_zero_le hj
      have hm : m < s.size := by omega
      have hd := down_step h m (by omega) (by rw [size_list]; omega)
      have hd1 := down_lt h ((m : Int) - 1)
      have HD : Hid (128 * (down s.data.toList 9 (m : Int) : Int) + (s[m].toNat : Int) % 128 = (down s.data.toList 9 ((m : Int) - 1) : Int)) := by
       rw [at_list s m hm]; show _ = _; omega
      have hd2 : 128 * (down s.data.toList 9 (m : Int) : Int) + (s[m].toNat : Int) % 128 < 18446744073709551616 := by rw [at_list s m hm]; omega
      clear hd hd1
      go_wp2_with fail
      go_round
      case rel => exact ⟨(m : Int) - 1, by omega, by omega, by go_num, val_int HD.out⟩
      case measure => simp [intOf]
     ·
      obtain rfl : j = -1 := by omega
      have HE := Lib.hid (down_end s.data.toList 9)
      go_wp2_with fail
      go_ret2
      exact ⟨ret_tuple2 (val_int (by rw [HE.out])) rfl, rfl⟩
   ·
    have h1 : ((k : Int) == 9) = false := beq_eq_false_iff_ne.2 (by omega)
    have h2 : ((s[k].toNat : Int) == 0) = false := by rw [at_list s k hes]; have := h.least (by omega); exact beq_eq_false_iff_ne.2 (by omega)
    go_wp2_with fail
    go_loop [5, 6] (fun n i => ∃ j : Int, -1 ≤ j ∧ j ≤ (k : Int) ∧ i = .int .i64 j ∧ n = .int .u64 (down s.data.toList k j)) (fun _ i => (intOf i + 1).toNat)
    case atStart => exact ⟨(k : Int), by omega, by omega, rfl, val_int (by have := down_top s.data.toList k; simp [this])⟩
    case round =>
     obtain ⟨j, hj1, hj2, rfl, rfl⟩ := hrel
     by_cases hj : 0 ≤ j
     ·
      obtain ⟨m, rfl⟩ := Int.eq_ofNat_of_zero_le hj
      have hm : m < s.size := by omega
      have hd := down_step h m (by omega) (by rw [size_list]; omega)
      have hd1 := down_lt h ((m : Int) - 1)
      have HD : Hid (128 * (down s.data.toList k (m : Int) : Int) + (s[m].toNat : Int) % 128 = (down s.data.toList k ((m : Int) - 1) : Int)) := by
       rw [at_list s m hm]; show _ = _; omega
      have hd2 : 128 * (down s.data.toList k (m : Int) : Int) + (s[m].toNat : Int) % 128 < 18446744073709551616 := by rw [at_list s m hm]; omega
      clear hd hd1
      go_wp2_with fail
      go_round
      case rel => exact ⟨(m : Int) - 1, by omega, by omega, by go_num, val_int HD.out⟩
      case measure => simp [intOf]
     ·
      obtain rfl : j = -1 := by omega
      have HE := Lib.hid (down_end s.data.toList k)
      go_wp2_with fail
      go_ret2
      exact ⟨ret_tuple2 (val_int (by rw [HE.out])) rfl, rfl⟩
   ·
    have hne : ¬ s = ByteArray.empty := fun h => by subst h; simp at hes
    go_wp2_with fail
    go_loop [5, 6] (fun n i => ∃ j : Int, -1 ≤ j ∧ j ≤ 0 ∧ i = .int .i64 j ∧ n = .int .u64 (down s.data.toList 0 j)) (fun _ i => (intOf i + 1).toNat)
    case atStart => exact ⟨0, by omega, by omega, rfl, val_int (by have := down_top s.data.toList 0; simp at this; simp [this])⟩
    case round =>
     obtain ⟨j, hj1, hj2, rfl, rfl⟩ := hrel
     by_cases hj : 0 ≤ j
     ·
      obtain ⟨m, rfl⟩ := Int.eq_ofNat_of_zero_le hj
      have hm : m < s.size := by omega
      have hd := down_step h m (by omega) (by rw [size_list]; omega)
      have hd1 := down_lt h ((m : Int) - 1)
      have HD : Hid (128 * (down s.data.toList 0 (m : Int) : Int) + (s[m].toNat : Int) % 128 = (down s.data.toList 0 ((m : Int) - 1) : Int)) := by
       rw [at_list s m hm]; show _ = _; omega
      have hd2 : 128 * (down s.data.toList 0 (m : Int) : Int) + (s[m].toNat : Int) % 128 < 18446744073709551616 := by rw [at_list s m hm]; omega
      clear hd hd1
      go_wp2_with fail
      go_round
      case rel => exact ⟨(m : Int) - 1, by omega, by omega, by go_num, val_int HD.out⟩
      case measure => simp [intOf]
     ·
      obtain rfl : j = -1 := by omega
      have HE := Lib.hid (down_end s.data.toList 0)
      go_wp2_with fail
      go_ret2
      exact ⟨ret_tuple2 (val_int (by rw [HE.out])) rfl, rfl⟩
theorem refget_none (s : ByteArray) (w : World) (hs : s.size ≤ maxLen) (h : ∀ e, ¬ Vi.Ok s.data.toList e) :
  Calls Tryz.prog 171 #[.string s] w fun r w' => r = .returned (.tuple #[.int .u64 0, .int .i64 0]) ∧ w = w' := by
 unfold maxLen at hs
 have HN := Lib.hid h
 clear h
 go_enter Tryz.func171, Tryz.ntmps171
 go_wp2
 go_loop [4] (fun i => ∃ (k : Nat), k ≤ 10 ∧ k ≤ s.size ∧ i = .int .i64 k ∧ Hid (∀ (j : Nat) (h : j < s.data.toList.length), j < k → 128 ≤ (s.data.toList[j]).toNat)) (fun i => 10 - (intOf i).toNat)
 case atStart => exact ⟨0, by omega, Nat.zero_le _, rfl, fun j _ h => absurd h (by omega)⟩
 case round =>
  obtain ⟨k, hk, hks, rfl, HM⟩ := hrel
  by_cases hin : k < s.size ∧ k < 10
  ·
   obtain ⟨hlt, hl10⟩ := hin
   by_cases hb : (128 : Int) ≤ (s[k].toNat : Int)
   ·
    go_wp2_with fail
    go_round
    case rel =>
     refine ⟨k + 1, by omega, by omega, by go_num, fun j hj hjk => ?_⟩
     by_cases e : j = k
     · subst e; rw [at_list s j hlt] at hb; omega
     · exact HM.out j hj (by omega)
    case measure => simp [intOf]; omega
   ·
    have hl : (s[k].toNat : Int) < 128 := by omega
    have hno : (0 < (k : Int) ∧ (s[k].toNat : Int) = 0) ∨ (k = 9 ∧ 1 < (s[k].toNat : Int)) := by
     by_cases c1 : 0 < k ∧ s[k].toNat = 0
     · left; omega
     ·
      by_cases c2 : k = 9 ∧ 1 < s[k].toNat
      · right; omega
      ·
       exfalso
       have hkl : k < s.data.toList.length := by rw [size_list]; exact hlt
       have e : s[k].toNat = (s.data.toList[k]).toNat := by rw [at_list s k hlt]
       refine HN.out k ⟨hl10, hkl, HM.out, by omega, fun h0 hz => c1 ⟨h0, by omega⟩, fun h9 => ?_⟩
       rcases Nat.lt_or_ge 1 s[k].toNat with g | g
       · exact absurd ⟨h9, g⟩ c2
       · omega
    clear hb
    rcases hno with ⟨h0, hz⟩ | ⟨rfl, h1⟩
    ·
     have hz' : ((s[k].toNat : Int) == 0) = true := beq_iff_eq.2 hz
     clear hz
     by_cases h9 : k = 9
     ·
      subst h9
      go_wp2_with fail
      all_goals go_ret2
      all_goals exact ⟨rfl, rfl⟩
     ·
      have h9' : ((k : Int) == 9) = false := beq_eq_false_iff_ne.2 (by omega)
      go_wp2_with fail
      all_goals go_ret2
      all_goals exact ⟨rfl, rfl⟩
    ·
     go_wp2_with fail
     all_goals go_ret2
     all_goals exact ⟨rfl, rfl⟩
  ·
   by_cases hlt : k < s.size
   ·
    have hge : (10 : Int) ≤ (k : Int) := by omega
    go_wp2_with fail
    all_goals go_ret2
    all_goals exact ⟨rfl, rfl⟩
   ·
    go_wp2_with fail
    all_goals go_ret2
    all_goals exact ⟨rfl, rfl⟩
theorem reftake_none (s : ByteArray) (w : World) (hs : s.size ≤ maxLen) (h : ∀ e, ¬ Vi.Ok s.data.toList e) :
  Calls Tryz.prog 168 #[.string s] w fun r w' => r = .returned (.tuple #[.string ⟨#[]⟩, .int .i64 0]) ∧ w = w' := by
 have H := Lib.hid h
 clear h
 go_enter Tryz.func168, Tryz.ntmps168
 go_wp2_with fail
 refine (refget_none s _ hs H.out).mono ?_
 rintro e w1 ⟨rfl, rfl⟩
 go_wp2_with fail
 go_ret2
 exact ⟨rfl, rfl⟩
theorem reftake_short (s : ByteArray) (w : World) (hs : s.size ≤ maxLen) (e : Nat) (h : Vi.Ok s.data.toList e) (hv : s.size - (e + 1) < Vi.val (s.data.toList.take (e + 1))) :
  Calls Tryz.prog 168 #[.string s] w fun r w' => r = .returned (.tuple #[.string ⟨#[]⟩, .int .i64 0]) ∧ w = w' := by
 have hlt := h.lt
 rw [size_list] at hlt
 have H := Lib.hid h
 have hsz := hs
 unfold maxLen at hsz
 have hvl := h.val_lt
 clear h
 generalize hx : Vi.val (s.data.toList.take (e + 1)) = x at *
 have HX := Lib.hid hx
 clear hx
 have hk0 : ((e : Int) + 1 == 0) = false := beq_eq_false_iff_ne.2 (by omega)
 have hgt : (s.size : Int) - ((e : Int) + 1) < (x : Int) := by omega
 have hge : (0 : Int) ≤ (s.size : Int) - ((e : Int) + 1) := by omega
 go_enter Tryz.func168, Tryz.ntmps168
 go_wp2_with fail
 refine (refget_ok s _ hs e H.out).mono ?_
 rintro r w1 ⟨rfl, rfl⟩
 rw [HX.out]
 go_wp2_with fail
 all_goals go_ret2
 all_goals exact ⟨rfl, rfl⟩
theorem reftake_ok (s : ByteArray) (w : World) (hs : s.size ≤ maxLen) (e : Nat) (h : Vi.Ok s.data.toList e) (hv : Vi.val (s.data.toList.take (e + 1)) ≤ s.size - (e + 1)) :
  Calls Tryz.prog 168 #[.string s] w fun r w' => r = .returned (.tuple #[.string (s.extract (e + 1) (e + 1 + Vi.val (s.data.toList.take (e + 1)))), .int .i64 ((e : Int) + 1 + (Vi.val (s.data.toList.take (e + 1)) : Int))]) ∧ w = w' := by
 have hlt := h.lt
 rw [size_list] at hlt
 have H := Lib.hid h
 have hsz := hs
 unfold maxLen at hsz
 have hvl := h.val_lt
 clear h
 generalize hx : Vi.val (s.data.toList.take (e + 1)) = x at *
 have HX := Lib.hid hx
 clear hx
 have hk0 : ((e : Int) + 1 == 0) = false := beq_eq_false_iff_ne.2 (by omega)
 have hgt : (x : Int) ≤ (s.size : Int) - ((e : Int) + 1) := by omega
 have hge : (0 : Int) ≤ (s.size : Int) - ((e : Int) + 1) := by omega
 go_enter Tryz.func168, Tryz.ntmps168
 go_wp2_with fail
 refine (refget_ok s _ hs e H.out).mono ?_
 rintro r w1 ⟨rfl, rfl⟩
 rw [HX.out]
 go_wp2_with fail
 all_goals go_ret2
 all_goals exact ⟨rfl, rfl⟩
end Go.Proofs.YtkcjhkfelaplkaaGreatDoor
end
end
section
section
namespace Go.Proofs.YtkcjhkfelaplkaaGreatDoor
open Go.RowKit
namespace Rm
def idG (l : List UInt8) : List UInt8 := l.take 32 ++ List.replicate (32 - l.length) 0
theorem idG_len (l : List UInt8) : (idG l).length = 32 := by unfold idG; simp; omega
def getG (l : List UInt8) : Nat × Nat := match vget l with
 | none => (0, 0)
 | some p => p
def takeG (l : List UInt8) : List UInt8 × Nat := match vget l with
 | none => ([], 0)
 | some (n, k) => if l.length - k < n then ([], 0) else ((l.drop k).take n, k + n)
def restG (t : List UInt8) : List UInt8 := t.drop (1 + (takeG (t.drop 1)).2)
def enG (t : List UInt8) : En := ⟨⟨(takeG (t.drop 1)).1.toArray⟩, kindV t, idG (restG t)⟩
def treeG : Nat → List UInt8 → List En → List En
 | 0, _, acc => acc
 | k + 1, t, acc => if t = [] then acc else treeG k ((restG t).drop 32) (acc ++ [enG t])
def parsG : Nat → List UInt8 → List (List UInt8) → List (List UInt8) × List UInt8
 | 0, t, acc => (acc, t)
 | k + 1, t, acc => parsG k (t.drop 32) (acc ++ [idG t])
def cgA (t : List UInt8) : List UInt8 := (t.drop 32).drop (getG (t.drop 32)).2
def cgN (t : List UInt8) : Nat := min (getG (t.drop 32)).1 9
def cgP (t : List UInt8) : List (List UInt8) × List UInt8 := parsG (cgN t) (cgA t) []
def cgT (t : List UInt8) : Nat := (getG (cgP t).2).1 % 4294967296
def cgX (t : List UInt8) : List UInt8 := (takeG ((cgP t).2.drop (getG (cgP t).2).2)).1
def commitG (t : List UInt8) : Ob := { noOb with kind := 3, tree := idG t, pars := (cgP t).1, time := cgT t, text := ⟨(cgX t).toArray⟩ }
def tagG (t : List UInt8) : Ob := { noOb with kind := 4, target := idG (t.drop 1), of := kindV t, name := ⟨(takeG ((t.drop 1).drop 32)).1.toArray⟩ }
def bodyG (k : Int) (t : List UInt8) : Ob := if k = 1 then { noOb with kind := 1, data := ⟨t.toArray⟩ } else if k = 2 then { noOb with kind := 2, ents := treeG 65 t [] } else if k = 3 then commitG t else if k = 4 then tagG t else { noOb with kind := k }
def guessF (l : List UInt8) : Ob := if (takeG (l.drop 1)).2 = 0 then noOb else bodyG (kindV l) (takeG (l.drop 1)).1
/-! ### sizes -/
theorem takeG_len (l : List UInt8) : (takeG l).1.length ≤ l.length ∧ (takeG l).2 ≤ l.length := by
 unfold takeG; split
 · simp
 ·
  rename_i n k h
  have := vget_bd h
  split
  · simp
  · rw [List.length_take, List.length_drop]; omega
theorem getG_le (l : List UInt8) : (getG l).2 ≤ l.length ∧ (getG l).1 < 18446744073709551616 := by
 unfold getG; split
 · simp
 ·
  rename_i p h
  have := vget_bd (n := p.1) (k := p.2) h
  omega
theorem parsG_len : ∀ (k : Nat) (t : List UInt8) (acc : List (List UInt8)), (parsG k t acc).1.length = acc.length + k ∧ (parsG k t acc).2.length ≤ t.length
 | 0, t, acc => ⟨rfl, Nat.le_refl _⟩
 | k + 1, t, acc => by
   have := parsG_len k (t.drop 32) (acc ++ [idG t])
   unfold parsG
   refine ⟨by rw [this.1]; simp; omega, Nat.le_trans this.2 ?_⟩
   rw [List.length_drop]; omega
/-! ### of an encoding -/
theorem takeG_fwd (t : ByteArray) (r : List UInt8) (h : t.size < 18446744073709551616) : takeG ((textOf t).data.toList ++ r) = (t.data.toList, (textOf t).data.toList.length) := by
 have he : (textOf t).data.toList = Go.Lib.uvarint t.size ++ t.data.toList := by
  unfold textOf
  rw [ByteArray.data_append, Array.toList_append]
 have hv := vget_put t.size h (t.data.toList ++ r)
 have hs := size_list t
 unfold takeG
 rw [he, List.append_assoc, hv]
 simp only
 rw [if_neg (by rw [List.length_append, List.length_append]; omega), List.drop_left' rfl, List.take_left' hs, List.length_append, hs]
theorem idG_fwd (i r : List UInt8) (h : i.length = 32) : idG (i ++ r) = i ∧ (i ++ r).drop 32 = r := by
 unfold idG
 rw [List.take_left' h, List.drop_left' h, List.length_append, show 32 - (i.length + r.length) = 0 by omega]
 exact ⟨by simp, rfl⟩
theorem getG_fwd (n : Nat) (r : List UInt8) (h : n < 18446744073709551616) : getG (Go.Lib.uvarint n ++ r) = (n, (Go.Lib.uvarint n).length) := by
 unfold getG; rw [vget_put n h r]
theorem enG_fwd (e : En) (r : List UInt8) (hn : e.name.size < 18446744073709551616) (h0 : 0 ≤ e.kind) (h1 : e.kind < 256) (hi : e.id.length = 32) : enG (enB e ++ r) = e ∧ (restG (enB e ++ r)).drop 32 = r := by
 have hl : enB e ++ r = byteK e.kind :: ((textOf e.name).data.toList ++ (e.id ++ r)) := by simp [enB]
 have hd : (enB e ++ r).drop 1 = (textOf e.name).data.toList ++ (e.id ++ r) := by rw [hl]; rfl
 have ht := takeG_fwd e.name (e.id ++ r) hn
 have hr : restG (enB e ++ r) = e.id ++ r := by
  unfold restG
  rw [hd, ht, ← List.drop_drop, hd, List.drop_left' rfl]
 have hi2 := idG_fwd e.id r hi
 refine ⟨?_, by rw [hr]; exact hi2.2⟩
 unfold enG
 rw [hr, hd, ht, hi2.1, hl]
 have hk : kindV (byteK e.kind :: ((textOf e.name).data.toList ++ (e.id ++ r))) = e.kind := (byteK_nat h0 h1).symm
 rw [hk]
theorem treeG_fwd : ∀ (es : List En) (k : Nat) (acc : List En), (∀ e ∈ es, e.name.size < 18446744073709551616 ∧ 0 ≤ e.kind ∧ e.kind < 256 ∧ e.id.length = 32) → es.length ≤ k → treeG k (es.flatMap enB) acc = acc ++ es
 | [], k, acc, _, _ => by cases k <;> simp [treeG]
 | e :: r, k, acc, h, hk => by
   obtain ⟨h1, h2, h3, h4⟩ := h e (by simp)
   obtain ⟨k, rfl⟩ : ∃ k', k = k' + 1 := ⟨k - 1, by simp at hk; omega⟩
   have hne : enB e ++ r.flatMap enB ≠ [] := fun hc => enB_ne e (List.append_eq_nil_iff.1 hc).1
   rw [List.flatMap_cons]
   unfold treeG
   obtain ⟨f1, f2⟩ := enG_fwd e (r.flatMap enB) h1 h2 h3 h4
   rw [if_neg hne, f1, f2, treeG_fwd r k _ (fun x hx => h x (by simp [hx])) (by simp at hk; omega)]
   simp
theorem parsG_fwd : ∀ (ps : List (List UInt8)) (acc : List (List UInt8)) (r : List UInt8), (∀ p ∈ ps, p.length = 32) → parsG ps.length (ps.flatten ++ r) acc = (acc ++ ps, r)
 | [], acc, r, _ => by simp [parsG]
 | p :: ps, acc, r, h => by
   have ei := idG_fwd p (ps.flatten ++ r) (h p (by simp))
   have ih := parsG_fwd ps (acc ++ [p]) r (fun x hx => h x (by simp [hx]))
   rw [List.length_cons, List.flatten_cons, List.append_assoc]
   show parsG ps.length ((p ++ (ps.flatten ++ r)).drop 32) (acc ++ [idG (p ++ (ps.flatten ++ r))]) = _
   rw [ei.1, ei.2, ih]
   simp
theorem bodyG_fwd {o : Ob} (hv : validB o = true) (ft : Fit o) (ei : ∀ e ∈ o.ents, e.id.length = 32) (pi : ∀ p ∈ o.pars, p.length = 32) (ht : o.tree.length = 32) (hg : o.target.length = 32) (hti : o.time < 4294967296) : bodyG o.kind (bodyL o) = o := by
 have hv2 := hv
 unfold validB foreignZ at hv2
 simp only [Bool.and_eq_true, Bool.or_eq_true, beq_iff_eq, blobZ, treeZ, commitZ, tagZ, decide_eq_true_eq, List.isEmpty_iff] at hv2
 obtain ⟨⟨⟨⟨z1, z2⟩, z3⟩, z4⟩, _⟩ := hv2
 have hk := ft.k
 unfold bodyG
 by_cases e1 : o.kind = 1
 ·
  rw [if_pos e1]
  have b2 := z2.resolve_left (by omega)
  obtain ⟨⟨⟨c1, c2⟩, c3⟩, c4⟩ := z3.resolve_left (by omega)
  obtain ⟨⟨d1, d2⟩, d3⟩ := z4.resolve_left (by omega)
  refine ob_ext e1.symm ?_ b2.symm c1.symm c2.symm c3.symm (empty_of c4).symm d1.symm d2.symm (empty_of d3).symm
  show (⟨(bodyL o).toArray⟩ : ByteArray) = o.data
  simp [bodyL, e1]
 rw [if_neg e1]
 have b1 := empty_of (z1.resolve_left e1)
 by_cases e2 : o.kind = 2
 ·
  rw [if_pos e2]
  obtain ⟨⟨⟨c1, c2⟩, c3⟩, c4⟩ := z3.resolve_left (by omega)
  obtain ⟨⟨d1, d2⟩, d3⟩ := z4.resolve_left (by omega)
  have hb : bodyL o = o.ents.flatMap enB := by simp [bodyL, e2]
  have hf := treeG_fwd o.ents 65 [] (fun e he => ⟨by have := ((ft.e e2).2 e he).1; omega, ((ft.e e2).2 e he).2.1, ((ft.e e2).2 e he).2.2, ei e he⟩) (by have := (ft.e e2).1; omega)
  rw [← hb, List.nil_append] at hf
  rw [hf]
  exact ob_ext e2.symm b1.symm rfl c1.symm c2.symm c3.symm (empty_of c4).symm d1.symm d2.symm (empty_of d3).symm
 rw [if_neg e2]
 have b2 := z2.resolve_left e2
 by_cases e3 : o.kind = 3
 ·
  rw [if_pos e3]
  obtain ⟨⟨d1, d2⟩, d3⟩ := z4.resolve_left (by omega)
  have hb : bodyL o = o.tree ++ (Lib.uvarint o.pars.length ++ (o.pars.flatten ++ (Lib.uvarint o.time ++ ((textOf o.text).data.toList ++ [])))) := by simp [bodyL, e3, commitL]
  have i0 := idG_fwd o.tree (Lib.uvarint o.pars.length ++ (o.pars.flatten ++ (Lib.uvarint o.time ++ ((textOf o.text).data.toList ++ [])))) ht
  have hp := ft.p e3
  have i1 := getG_fwd o.pars.length (o.pars.flatten ++ (Lib.uvarint o.time ++ ((textOf o.text).data.toList ++ []))) (by omega)
  have i2 := parsG_fwd o.pars [] (Lib.uvarint o.time ++ ((textOf o.text).data.toList ++ [])) pi
  have i3 := getG_fwd o.time ((textOf o.text).data.toList ++ []) (by omega)
  have i4 := takeG_fwd o.text [] (by have := ft.t; omega)
  rw [← hb] at i0
  have hA : cgA (bodyL o) = o.pars.flatten ++ (Lib.uvarint o.time ++ ((textOf o.text).data.toList ++ [])) := by unfold cgA; rw [i0.2, i1, List.drop_left' rfl]
  have hN : cgN (bodyL o) = o.pars.length := by unfold cgN; rw [i0.2, i1]; simp only; omega
  have hP : cgP (bodyL o) = (o.pars, Lib.uvarint o.time ++ ((textOf o.text).data.toList ++ [])) := by unfold cgP; rw [hA, hN]; exact i2
  have hT : cgT (bodyL o) = o.time := by unfold cgT; rw [hP, i3]; simp only; omega
  have hX : cgX (bodyL o) = o.text.data.toList := by unfold cgX; rw [hP, i3, List.drop_left' rfl, i4]
  unfold commitG
  rw [hP, hT, hX, i0.1]
  exact ob_ext e3.symm b1.symm b2.symm rfl rfl rfl (mk_list o.text) d1.symm d2.symm (empty_of d3).symm
 ·
  rw [if_neg e3]
  have e4 : o.kind = 4 := by omega
  rw [if_pos e4]
  obtain ⟨⟨⟨c1, c2⟩, c3⟩, c4⟩ := z3.resolve_left e3
  have hf := ft.f e4
  have hb : bodyL o = byteK o.of :: (o.target ++ ((textOf o.name).data.toList ++ [])) := by simp [bodyL, e4, tagL]
  have hd : (bodyL o).drop 1 = o.target ++ ((textOf o.name).data.toList ++ []) := by rw [hb]; rfl
  have i1 := idG_fwd o.target ((textOf o.name).data.toList ++ []) hg
  have i2 := takeG_fwd o.name [] (by have := ft.n; omega)
  unfold tagG
  rw [hd, i1.1, i1.2, i2, hb]
  refine ob_ext e4.symm b1.symm b2.symm c1.symm c2.symm c3.symm (empty_of c4).symm rfl ?_ (mk_list o.name)
  exact (byteK_nat hf.1 hf.2).symm
theorem guess_fwd {o : Ob} (hv : validB o = true) (ft : Fit o) (ei : ∀ e ∈ o.ents, e.id.length = 32) (pi : ∀ p ∈ o.pars, p.length = 32) (ht : o.tree.length = 32) (hg : o.target.length = 32) (hti : o.time < 4294967296) : guessF (encS o).data.toList = o := by
 have hk := ft.k
 have hbl := body_len ft ei pi ht hg hti
 have hl : (encS o).data.toList = byteK o.kind :: ((textOf ⟨(bodyL o).toArray⟩).data.toList ++ []) := by
  unfold encS
  rw [ByteArray.data_append, Array.toList_append, List.append_nil]; rfl
 have i1 := takeG_fwd ⟨(bodyL o).toArray⟩ [] (by rw [mk_size]; omega)
 have hd : (encS o).data.toList.drop 1 = (textOf ⟨(bodyL o).toArray⟩).data.toList ++ [] := by rw [hl]; rfl
 have hk2 : kindV (encS o).data.toList = o.kind := by rw [hl]; exact (byteK_nat (by omega) (by omega)).symm
 have hpos : (textOf ⟨(bodyL o).toArray⟩).data.toList.length ≠ 0 := by
  rw [textOf_list, List.length_append]
  have := Go.Lib.uvarint_pos (bodyL o).length
  omega
 unfold guessF
 rw [hd, i1, hk2]
 simp only
 rw [if_neg hpos]
 exact bodyG_fwd hv ft ei pi ht hg hti
end Rm
end Go.Proofs.YtkcjhkfelaplkaaGreatDoor
end
section
namespace Go.Proofs.YtkcjhkfelaplkaaGreatDoor
open Go.RowKit
theorem reget_l (l : List UInt8) (w : World) (hl : l.length ≤ 1000000) :
  Calls Tryz.prog 171 #[.string ⟨l.toArray⟩] w fun r w' => r = .returned (.tuple #[.int .u64 (Rm.getG l).1, .int .i64 (Rm.getG l).2]) ∧ w = w' := by
 have hs : (ByteArray.mk l.toArray).size = l.length := Rm.mk_size l
 have hm : (ByteArray.mk l.toArray).size ≤ maxLen := by rw [hs]; unfold maxLen; omega
 have hd : (ByteArray.mk l.toArray).data.toList = l := by simp
 unfold Rm.getG
 cases hv : Rm.vget l with
 | none => exact refget_none _ w hm (by rw [hd]; exact Rm.vget_none hv)
 | some p =>
   obtain ⟨n, k⟩ := p
   obtain ⟨e, he, rfl, rfl⟩ := Rm.vget_some hv
   have := refget_ok ⟨l.toArray⟩ w hm e (by rw [hd]; exact he)
   rw [hd] at this
   exact this
theorem retake_l (l : List UInt8) (w : World) (hl : l.length ≤ 1000000) :
  Calls Tryz.prog 168 #[.string ⟨l.toArray⟩] w fun r w' => r = .returned (.tuple #[.string ⟨(Rm.takeG l).1.toArray⟩, .int .i64 (Rm.takeG l).2]) ∧ w = w' := by
 have hs : (ByteArray.mk l.toArray).size = l.length := Rm.mk_size l
 have hm : (ByteArray.mk l.toArray).size ≤ maxLen := by rw [hs]; unfold maxLen; omega
 have hd : (ByteArray.mk l.toArray).data.toList = l := by simp
 unfold Rm.takeG
 cases hv : Rm.vget l with
 | none => exact reftake_none _ w hm (by rw [hd]; exact Rm.vget_none hv)
 | some p =>
   obtain ⟨n, k⟩ := p
   have hbd := Rm.vget_bd hv
   obtain ⟨e, he, rfl, rfl⟩ := Rm.vget_some hv
   simp only
   have he' : Vi.Ok (ByteArray.mk l.toArray).data.toList e := by rw [hd]; exact he
   by_cases hlt : l.length - (e + 1) < Vi.val (l.take (e + 1))
   ·
    rw [if_pos hlt]
    exact reftake_short _ w hm e he' (by rw [hs, hd]; exact hlt)
   ·
    rw [if_neg hlt]
    refine (reftake_ok ⟨l.toArray⟩ w hm e he' (by rw [hs, hd]; omega)).mono fun r w' ⟨h1, h2⟩ => ⟨?_, h2⟩
    rw [h1, hd]
    refine ret_tuple2 (congrArg Value.string (bytes_ext ?_)) (val_int (by omega))
    rw [extract_l, hd, Nat.add_sub_cancel_left]
theorem behind_l (l : List UInt8) (n : Nat) (w : World) (hl : l.length ≤ 1000000) (hn : n ≤ 1000000) :
  Calls Tryz.prog 169 #[.string ⟨l.toArray⟩, .int .i64 n] w fun r w' => r = .returned (.string ⟨(l.drop n).toArray⟩) ∧ w = w' := by
 have hs : (ByteArray.mk l.toArray).size = l.length := Rm.mk_size l
 have hd : (ByteArray.mk l.toArray).data.toList = l := by simp
 have he := extract_r ⟨l.toArray⟩ n
 rw [hd] at he
 have HE := Lib.hid (show (ByteArray.mk l.toArray).extract n (ByteArray.mk l.toArray).size = ⟨(l.drop n).toArray⟩ from bytes_ext (by rw [he]))
 by_cases h : l.length ≤ n
 ·
  have hnil : l.drop n = [] := List.drop_of_length_le h
  rw [hnil]
  generalize ByteArray.mk l.toArray = s at hs hd
  have h' : (s.size : Int) ≤ (n : Int) := by omega
  clear hs hd he HE hnil
  go_enter Tryz.func169, Tryz.ntmps169
  go_wp2
  go_ret
  exact ⟨rfl, rfl⟩
 ·
  generalize (⟨(l.drop n).toArray⟩ : ByteArray) = t at HE ⊢
  generalize ByteArray.mk l.toArray = s at hs hd he HE ⊢
  have h' : ¬ (s.size : Int) ≤ (n : Int) := by omega
  have h2 : (n : Int) ≤ (s.size : Int) := by omega
  have h3 : s.size ≤ 1000000 := by omega
  clear hs hd he
  go_enter Tryz.func169, Tryz.ntmps169
  go_wp2
  go_ret
  exact ⟨congrArg (fun x => Ending.returned (.string x)) HE.out, rfl⟩
def partI (l : List UInt8) (k : Nat) : List UInt8 := l.take k ++ List.replicate (32 - k) 0
theorem part_len (l : List UInt8) (k : Nat) (h : k ≤ l.length) (h32 : k ≤ 32) : (partI l k).length = 32 := by unfold partI; simp; omega
theorem part_step (l : List UInt8) (k : Nat) (h : k < l.length) (h32 : k < 32) : (idC (partI l k)).toArray.setIfInBounds k (.int .u8 ((l[k]).toNat : Int)) = (idC (partI l (k + 1))).toArray := by
 have hlt : (l.take k).length = k := by rw [List.length_take]; omega
 have e1 : partI l k = l.take k ++ (0 :: List.replicate (32 - (k + 1)) 0) := by
  unfold partI
  rw [show 32 - k = (32 - (k + 1)) + 1 by omega, List.replicate_succ]
 have e2 : partI l (k + 1) = l.take k ++ (l[k] :: List.replicate (32 - (k + 1)) 0) := by
  unfold partI
  rw [List.take_succ_eq_append_getElem h, List.append_assoc]; rfl
 rw [e1, e2]
 simp only [idC, List.map_append, List.map_cons, List.setIfInBounds_toArray]
 have hm : (List.map bv (l.take k)).length = k := by rw [List.length_map, hlt]
 rw [List.set_append_right _ _ (by omega), hm, Nat.sub_self]
 rfl
theorem part_end (l : List UInt8) : partI l (min 32 l.length) = Rm.idG l := by
 unfold partI Rm.idG
 congr 1
 ·
  by_cases h : 32 ≤ l.length
  · rw [Nat.min_eq_left h]
  · rw [Nat.min_eq_right (by omega), List.take_length, List.take_of_length_le (by omega)]
 · congr 1; omega
theorem refid_s (s : ByteArray) (w : World) (hl : s.size ≤ 1000000) :
  Calls Tryz.prog 170 #[.string s] w fun r w' => r = .returned (.agg (idC (Rm.idG s.data.toList)).toArray) ∧ Below w.heap.size w w' := by
 have hz24 := (zero_of_info zero24).1
 have HZ := Lib.hid zsize
 have HO := Lib.hid (show zId.length = 32 from rfl)
 have HSL := Lib.hid (size_list s)
 have E1 := Lib.hid (heap_alloc2_old w (.cells (idC zId).toArray 46) (.cells (idC zId).toArray 46))
 have I1 := Lib.hid (heap_alloc2_new w (.cells (idC zId).toArray 46) (.cells (idC zId).toArray 46))
 have hB := ((Below.refl w.heap.size w).alloc (Nat.le_refl _) (.cells (idC zId).toArray 46)).alloc (by simp) (.cells (idC zId).toArray 46)
 go_enter Tryz.func170, Tryz.ntmps170
 go_wp2_with (first
  | ((with_reducible refine bd_zid ?_ ?_ ?_); rfl; rfl)
  | ((with_reducible refine st_id2 (x := .tmp 3) (y := .tmp 5) (g := w.heap.size + 1) ?_ ?_ ?_ ?_ ?_ ?_ HO.out ?_); rfl; rfl; rfl; rfl; rfl; simp))
 go_loopw [4] (fun i wr => ∃ k : Nat, k ≤ 32 ∧ k ≤ s.size ∧ i = .int .i64 k ∧ Hid (wr.heap[w.heap.size + 1]? = some (.cells (idC (partI s.data.toList k)).toArray 46)) ∧ Hid (wr.heap[w.heap.size]? = some (.cells (idC zId).toArray 46)) ∧ Below w.heap.size w wr) (fun i _ => 32 - (intOf i).toNat)
 case atStart => exact ⟨0, by omega, by omega, rfl, I1, E1, hB⟩
 case round =>
  obtain ⟨k, hk, hks, rfl, HI, HE, hb⟩ := hrel
  clear E1 I1 hB
  by_cases h32 : (k : Int) < 32
  ·
   by_cases hlt : (k : Int) < (s.size : Int)
   ·
    have hks2 : k < s.size := by omega
    have hkl : k < s.data.toList.length := by rw [HSL.out]; exact hks2
    have hps := part_len s.data.toList k (by omega) (by omega)
    have hc : wr.cell? ⟨w.heap.size + 1, k, none⟩ = some (.int .u8 (((partI s.data.toList k).getD k 0).toNat : Int)) := by
     rw [cell_of_row _ _ _ _ _ (0, 0) HI.out]
     exact idC_get _ _ (by omega)
    have hf := frozen_of_row wr (w.heap.size + 1) k _ _ HI.out
    have HI2 := Lib.hid (show (wr.setCell ⟨w.heap.size + 1, k, none⟩ (.int .u8 (s[k].toNat : Int))).heap[w.heap.size + 1]? = some (.cells (idC (partI s.data.toList (k + 1))).toArray 46) by
     rw [heap_setCell_same _ _ _ _ _ _ HI.out, at_list s k hks2, part_step _ _ hkl (by omega)])
    have HE2 := Lib.hid ((heap_setCell_other wr ⟨w.heap.size + 1, k, none⟩ w.heap.size (.int .u8 (s[k].toNat : Int)) (by simp)).trans HE.out)
    generalize ((partI s.data.toList k).getD k 0) = ob at hc
    clear hps HI HE
    go_wp2_with fail
    go_roundw
    case rel => exact ⟨k + 1, by omega, by omega, by go_num, HI2, HE2, hb.setCell (by simp) _⟩
    case measure => simp [intOf]; omega
   ·
    have HP := Lib.hid (show partI s.data.toList k = Rm.idG s.data.toList by rw [← part_end, HSL.out, show min 32 s.size = k by omega])
    rw [HP.out] at HI
    have HIL := Lib.hid (Rm.idG_len s.data.toList)
    generalize hq : Rm.idG s.data.toList = q at HI HIL
    have HQ := Lib.hid hq
    have RI := Lib.hid (id_rid HI.out)
    clear HP hq
    go_wp2_with (first
     | ((with_reducible refine ld_idm (x := .tmp 3) ?_ ?_ ?_ RI.out HIL.out ?_); rfl; rfl; rfl)
     | ((with_reducible refine st_idr (x := .tmp 2) (y := .tmp 21) ?_ ?_ ?_ ?_ HE.out HZ.out HIL.out ?_); rfl; rfl; rfl; rfl))
    refine bodyPost_ret (results_cell_row (fn := Tryz.f170) (p := 2) (by rfl) _ _ w.heap.size _ _ _ _ (by rfl) (setRow_heap _ _ _ _ _ _ HE.out) Tryz.underlying46 rfl (by rw [List.size_toArray]; exact idsize HIL.out)) rfl ⟨by rw [HQ.out], below_setRow hb (Nat.le_refl _) _⟩
  ·
   have HP := Lib.hid (show partI s.data.toList k = Rm.idG s.data.toList by rw [← part_end, HSL.out, show min 32 s.size = k by omega])
   rw [HP.out] at HI
   have HIL := Lib.hid (Rm.idG_len s.data.toList)
   generalize hq : Rm.idG s.data.toList = q at HI HIL
   have HQ := Lib.hid hq
   have RI := Lib.hid (id_rid HI.out)
   clear HP hq
   go_wp2_with (first
    | ((with_reducible refine ld_idm (x := .tmp 3) ?_ ?_ ?_ RI.out HIL.out ?_); rfl; rfl; rfl)
    | ((with_reducible refine st_idr (x := .tmp 2) (y := .tmp 21) ?_ ?_ ?_ ?_ HE.out HZ.out HIL.out ?_); rfl; rfl; rfl; rfl))
   refine bodyPost_ret (results_cell_row (fn := Tryz.f170) (p := 2) (by rfl) _ _ w.heap.size _ _ _ _ (by rfl) (setRow_heap _ _ _ _ _ _ HE.out) Tryz.underlying46 rfl (by rw [List.size_toArray]; exact idsize HIL.out)) rfl ⟨by rw [HQ.out], below_setRow hb (Nat.le_refl _) _⟩
theorem refid_l (l : List UInt8) (w : World) (hl : l.length ≤ 1000000) :
  Calls Tryz.prog 170 #[.string ⟨l.toArray⟩] w fun r w' => r = .returned (.agg (idC (Rm.idG l)).toArray) ∧ Below w.heap.size w w' :=
 refid_s ⟨l.toArray⟩ w (by rw [Rm.mk_size]; exact hl)
end Go.Proofs.YtkcjhkfelaplkaaGreatDoor
end
section
namespace Go.Proofs.YtkcjhkfelaplkaaGreatDoor
open Go.RowKit
def Bx (w : World) (g : Nat) (o : Ob) (ev pv : Value) : Prop := w.heap[g]? = some (.cells (obC o ev pv).toArray 59)
theorem obC_35 (o : Ob) (ev pv : Value) (j : Nat) (v : Value) (ht : o.tree.length = 32) : (obC o ev pv).set (35 + j) v = .int .i64 o.kind :: .string o.data :: ev :: (idC o.tree ++ (pv :: .int .u32 (o.time : Int) :: .string o.text :: (idC o.target ++ [.int .i64 o.of, .string o.name])).set j v) := by
 unfold obC
 rw [show 35 + j = (32 + j) + 1 + 1 + 1 by omega]
 simp only [List.set_cons_succ]
 rw [List.set_append_right _ _ (by rw [idC_length]; omega), idC_length, show 32 + j - o.tree.length = j by omega]
theorem obC_70 (o : Ob) (ev pv : Value) (j : Nat) (v : Value) (ht : o.tree.length = 32) (hg : o.target.length = 32) : (obC o ev pv).set (70 + j) v = .int .i64 o.kind :: .string o.data :: ev :: (idC o.tree ++ (pv :: .int .u32 (o.time : Int) :: .string o.text :: (idC o.target ++ ([.int .i64 o.of, .string o.name] : List Value).set j v))) := by
 rw [show 70 + j = 35 + (35 + j) by omega, obC_35 o ev pv _ v ht, show 35 + j = (32 + j) + 1 + 1 + 1 by omega]
 simp only [List.set_cons_succ]
 rw [List.set_append_right _ _ (by rw [idC_length]; omega), idC_length, show 32 + j - o.target.length = j by omega]
theorem Bx.set {w : World} {g : Nat} {o o' : Ob} {ev pv ev' pv' : Value} (h : Bx w g o ev pv) (i : Nat) (v : Value) (he : (obC o ev pv).set i v = obC o' ev' pv') : Bx (w.setCell ⟨g, i, none⟩ v) g o' ev' pv' := by
 unfold Bx at *
 rw [heap_setCell_same _ _ _ _ _ _ h, List.setIfInBounds_toArray, he]
theorem Bx.data {w : World} {g : Nat} {o : Ob} {ev pv : Value} (h : Bx w g o ev pv) (t : ByteArray) : Bx (w.setCell ⟨g, 1, none⟩ (.string t)) g { o with data := t } ev pv := h.set 1 _ rfl
theorem Bx.ents {w : World} {g : Nat} {o : Ob} {ev pv : Value} (h : Bx w g o ev pv) (v : Value) (es : List En) : Bx (w.setCell ⟨g, 2, none⟩ v) g { o with ents := es } v pv := h.set 2 _ rfl
theorem Bx.pars {w : World} {g : Nat} {o : Ob} {ev pv : Value} (h : Bx w g o ev pv) (v : Value) (ps : List (List UInt8)) (ht : o.tree.length = 32) : Bx (w.setCell ⟨g, 35, none⟩ v) g { o with pars := ps } ev v := h.set 35 _ (obC_35 o ev pv 0 v ht)
theorem Bx.time {w : World} {g : Nat} {o : Ob} {ev pv : Value} (h : Bx w g o ev pv) (n : Nat) (ht : o.tree.length = 32) : Bx (w.setCell ⟨g, 36, none⟩ (.int .u32 (n : Int))) g { o with time := n } ev pv := h.set 36 _ (obC_35 o ev pv 1 _ ht)
theorem Bx.text {w : World} {g : Nat} {o : Ob} {ev pv : Value} (h : Bx w g o ev pv) (t : ByteArray) (ht : o.tree.length = 32) : Bx (w.setCell ⟨g, 37, none⟩ (.string t)) g { o with text := t } ev pv := h.set 37 _ (obC_35 o ev pv 2 _ ht)
theorem Bx.of {w : World} {g : Nat} {o : Ob} {ev pv : Value} (h : Bx w g o ev pv) (k : Int) (ht : o.tree.length = 32) (hg : o.target.length = 32) : Bx (w.setCell ⟨g, 70, none⟩ (.int .i64 k)) g { o with of := k } ev pv := h.set 70 _ (obC_70 o ev pv 0 _ ht hg)
theorem Bx.name {w : World} {g : Nat} {o : Ob} {ev pv : Value} (h : Bx w g o ev pv) (t : ByteArray) (ht : o.tree.length = 32) (hg : o.target.length = 32) : Bx (w.setCell ⟨g, 71, none⟩ (.string t)) g { o with name := t } ev pv := h.set 71 _ (obC_70 o ev pv 1 _ ht hg)
def setAll : List Value → Nat → List Value → List Value
 | cs, _, [] => cs
 | cs, o, v :: r => setAll (cs.set o v) (o + 1) r
theorem heap_setCells_same (g : Nat) (t : TypeId) : ∀ (vs : List Value) (o : Nat) (w : World) (cs : List Value), w.heap[g]? = some (.cells cs.toArray t) → (w.setCells g o vs).heap[g]? = some (.cells (setAll cs o vs).toArray t)
 | [], o, w, cs, h => h
 | v :: r, o, w, cs, h => by
   rw [World.setCells]
   exact heap_setCells_same g t r (o + 1) _ _ (by rw [heap_setCell_same _ _ _ _ _ _ h, List.setIfInBounds_toArray])
theorem setAll_mid : ∀ (vs pre mid post : List Value), vs.length = mid.length → setAll (pre ++ (mid ++ post)) pre.length vs = pre ++ (vs ++ post)
 | [], pre, mid, post, h => by
   obtain rfl := List.eq_nil_of_length_eq_zero h.symm
   rfl
 | v :: r, pre, mid, post, h => by
   cases mid with
   | nil => simp at h
   | cons m ms =>
     have e : (pre ++ (m :: ms ++ post)).set pre.length v = (pre ++ [v]) ++ (ms ++ post) := by
      rw [List.set_append_right _ _ (Nat.le_refl _), Nat.sub_self]; simp
     rw [setAll, e]
     have := setAll_mid r (pre ++ [v]) ms post (by simpa using h)
     rw [List.length_append] at this
     rw [show pre.length + 1 = pre.length + [v].length from rfl, this]
     simp
theorem Bx.tree {w : World} {g : Nat} {o : Ob} {ev pv : Value} (h : Bx w g o ev pv) (l : List UInt8) (hl : l.length = 32) (ht : o.tree.length = 32) : Bx (w.setCells g 3 (idC l)) g { o with tree := l } ev pv := by
 unfold Bx at *
 rw [heap_setCells_same _ _ _ _ _ _ h]
 have := setAll_mid (idC l) [.int .i64 o.kind, .string o.data, ev] (idC o.tree) (pv :: .int .u32 (o.time : Int) :: .string o.text :: (idC o.target ++ [.int .i64 o.of, .string o.name])) (by rw [idC_length, idC_length, hl, ht])
 rw [show setAll (obC o ev pv) 3 (idC l) = obC { o with tree := l } ev pv from this]
theorem Bx.target {w : World} {g : Nat} {o : Ob} {ev pv : Value} (h : Bx w g o ev pv) (l : List UInt8) (hl : l.length = 32) (ht : o.tree.length = 32) (hg : o.target.length = 32) : Bx (w.setCells g 38 (idC l)) g { o with target := l } ev pv := by
 unfold Bx at *
 rw [heap_setCells_same _ _ _ _ _ _ h]
 have e : obC o ev pv = (.int .i64 o.kind :: .string o.data :: ev :: (idC o.tree ++ [pv, .int .u32 (o.time : Int), .string o.text])) ++ (idC o.target ++ [.int .i64 o.of, .string o.name]) := by simp [obC]
 have hlen : (.int .i64 o.kind :: .string o.data :: ev :: (idC o.tree ++ [pv, .int .u32 (o.time : Int), .string o.text]) : List Value).length = 38 := by simp [idC_length, ht]
 have := setAll_mid (idC l) (.int .i64 o.kind :: .string o.data :: ev :: (idC o.tree ++ [pv, .int .u32 (o.time : Int), .string o.text])) (idC o.target) [.int .i64 o.of, .string o.name] (by rw [idC_length, idC_length, hl, hg])
 rw [hlen, ← e] at this
 rw [this]
 congr 3
 simp [obC]
theorem Bx.grown {w w' : World} {g k : Nat} {o : Ob} {ev pv : Value} (h : Bx w g o ev pv) (hg : w.grownBy w' (some k)) (hne : g ≠ k) : Bx w' g o ev pv := held_grown h hg hne
theorem Bx.below {w w' : World} {g : Nat} {o : Ob} {ev pv : Value} (h : Bx w g o ev pv) (hb : Below w.heap.size w w') : Bx w' g o ev pv := (hb.block g (Array.getElem?_eq_some_iff.1 h).1).trans h
theorem Bx.held {w : World} {g : Nat} {o : Ob} {ev pv : Value} (h : Bx w g o ev pv) : w.heap[g]? = some (.cells (obC o ev pv).toArray 59) := h
theorem Bx.F {w : World} {g : Nat} {o : Ob} {ev pv : Value} (h : Bx w g o ev pv) (ht : o.tree.length = 32) (hg : o.target.length = 32) (he : ev.oneCell' = true) (hp : pv.oneCell' = true) : ObF (obC o ev pv).toArray o ev pv := obC_F o ev pv ht hg he hp
theorem Bx.cell {w : World} {g : Nat} {o : Ob} {ev pv : Value} (h : Bx w g o ev pv) (i : Nat) (v : Value) (hv : (obC o ev pv).toArray[i]? = some v) : w.cell? ⟨g, i, none⟩ = some v := by rw [cell_of_row _ _ _ _ _ (0, 0) h]; exact hv
theorem Bx.fr {w : World} {g : Nat} {o : Ob} {ev pv : Value} (h : Bx w g o ev pv) (i : Nat) : w.frozen? ⟨g, i, none⟩ = false := frozen_of_row w g i _ _ h
theorem Bx.there {w : World} {g : Nat} {o : Ob} {ev pv : Value} (h : Bx w g o ev pv) (hs : (obC o ev pv).toArray.size = 72) (i n : Nat) (hn : i + n ≤ 72) : w.there g i n := fun j hj => by
 refine ⟨?_, h.fr _⟩
 rw [cell_of_row _ _ _ _ _ (0, 0) h, Array.getElem?_eq_getElem (by omega)]; rfl
theorem below_setCells {B : Nat} {a : World} {g : Nat} (hg : B ≤ g) : ∀ (vs : List Value) (o : Nat) (w : World), Below B a w → Below B a (w.setCells g o vs)
 | [], o, w, h => h
 | v :: r, o, w, h => below_setCells hg r (o + 1) _ (h.setCell hg v)
theorem size_setCells' (g : Nat) : ∀ (vs : List Value) (o : Nat) (w : World), (w.setCells g o vs).heap.size = w.heap.size
 | [], o, w => rfl
 | v :: r, o, w => by rw [World.setCells, size_setCells' g r (o + 1)]; simp [World.setCell]
theorem held_setCells {w : World} {g k o : Nat} {vs : List Value} {ob : Obj} (h : w.heap[k]? = some ob) (hne : k ≠ g) : (w.setCells g o vs).heap[k]? = some ob :=
 (World.heap_setCells_other w g o vs (Array.getElem?_eq_some_iff.1 h).1 hne).trans h
theorem kindV_list : ∀ (l : List UInt8) (h : 0 < l.length), Rm.kindV l = ((l[0]).toNat : Int)
 | [], h => absurd h (by simp)
 | x :: r, _ => rfl
theorem kindV_at (s : ByteArray) (h : 0 < s.size) : Rm.kindV s.data.toList = (s[0].toNat : Int) := by
 rw [at_list s 0 h]; exact kindV_list _ _
def Gsd (l : List UInt8) (w : World) (r : Ending) (w' : World) : Prop :=
 ∃ (cs : Array Value) (ao bo : Option Addr) (ca cb : Nat), r = .returned (.agg cs) ∧ ObAt w' cs (Rm.guessF l) ao bo ca cb ∧ Below w.heap.size w w' ∧ ∀ a, ao = some a ∨ bo = some a → w.heap.size ≤ a.block
section
variable {ops : Array Oper} {rest : List Oper} {op : Oper} {a : Act} {w : World} {Q : Exit → Act → World → Prop} {x y : Operand}
theorem bd_kd {k : Int} {c : Array Value} (ho : op.op = .build 59 #[(0, x)]) (hx : a.eval x = .int .i64 k) (hg : op.guard = none) (hb : Tryz.prog.built 59 [(0, .int .i64 k)] = some c)
  (h : wpList Tryz.prog ops Q rest (a.put op.dst (.agg c)) w) : wpList Tryz.prog ops Q (op :: rest) a w :=
 wpList_build_as hg _ _ ho _ (by simp only [List.map_toArray, List.map_cons, List.map_nil, hx]; exact hb) h
theorem st_ob2 {g : Nat} {cs c : Array Value} (ho : op.op = .store 59 x y) (hx : a.eval x = .pointer (some ⟨g, 0, none⟩)) (hy : a.eval y = .agg cs) (hg : op.guard = none) (hc : c.size = 72) (hgs : g = w.heap.size) (hs : cs.size = 72) (h1 : cs.all (·.oneCell') = true)
  (h : wpList Tryz.prog ops Q rest (a.put op.dst undef) (w.alloc (.cells cs 59))) : wpList Tryz.prog ops Q (op :: rest) a (w.alloc (.cells c 59)) := by
 subst hgs; exact st_ob ho hx hy hg hc hs h1 h
theorem ld_obr {g : Nat} {cs : Array Value} (ho : op.op = .load 59 x) (hx : a.eval x = .pointer (some ⟨g, 0, none⟩)) (hg : op.guard = none) (hh : w.heap[g]? = some (.cells cs 59)) (hs : cs.size = 72)
  (h : wpList Tryz.prog ops Q rest (a.put op.dst (.agg cs)) w) : wpList Tryz.prog ops Q (op :: rest) a w :=
 wpList_load_row hg 59 x ho g hx _ cs _ _ hh Tryz.underlying59 rfl (obsize hs) h
theorem st_idmid {g o : Nat} {l : List UInt8} (ho : op.op = .store 46 x y) (hx : a.eval x = .pointer (some ⟨g, o, none⟩)) (hy : a.eval y = .agg (idC l).toArray) (hgd : op.guard = none) (hl : l.length = 32) (ht : w.there g o 32)
  (h : wpList Tryz.prog ops Q rest (a.put op.dst undef) (w.setCells g o (idC l))) : wpList Tryz.prog ops Q (op :: rest) a w :=
 wpList_store_mid hgd 46 x y ho g o (idC l).toArray hx hy (by rw [List.size_toArray, idC_length, hl]; exact ht) (by rw [List.size_toArray]; exact idsize hl) (all_oneCell_toArray (idC_one l)) h
end
theorem built_kd (k : Int) : Tryz.prog.built 59 [(0, .int .i64 k)] = some (obC { noOb with kind := k } nilV nilV).toArray := by kernel_rfl
end Go.Proofs.YtkcjhkfelaplkaaGreatDoor
end
section
namespace Go.Proofs.YtkcjhkfelaplkaaGreatDoor
open Go.RowKit
theorem guess_none (s : ByteArray) (w : World) (h0 : 0 < s.size) (hs : s.size ≤ 5000) (hm2 : (Rm.takeG (s.data.toList.drop 1)).2 = 0) :
  Calls Tryz.prog 130 #[.string s] w (Gsd s.data.toList w) := by
 have hz28 := (zero_of_info zero28).1
 have HS0 := Lib.hid noF.size
 have HO0 := Lib.hid noF.one
 have HBN := Lib.hid built_none
 have HNF := Lib.hid noF
 generalize (obC noOb nilV nilV).toArray = z at hz28 HS0 HO0 HBN HNF
 have h0' : (0 : Int) < (s.size : Int) := by omega
 have h1' : (1 : Int) ≤ (s.size : Int) := by omega
 have HX1 := Lib.hid (show s.extract 1 s.size = ⟨(s.data.toList.drop 1).toArray⟩ from bytes_ext (by rw [extract_r]))
 have hl1 : (s.data.toList.drop 1).length ≤ 5000 := by rw [List.length_drop, size_list]; omega
 have hkv := kindV_at s h0
 have hb0 := s[0].toNat_lt
 have hwk : wrap64 (s[0].toNat : Int) = (s[0].toNat : Int) := by unfold wrap64; omega
 have hgf : Rm.guessF s.data.toList = (if (Rm.takeG (s.data.toList.drop 1)).2 = 0 then noOb else Rm.bodyG (Rm.kindV s.data.toList) (Rm.takeG (s.data.toList.drop 1)).1) := rfl
 have htl := Rm.takeG_len (s.data.toList.drop 1)
 have htk := fun W => retake_l (s.data.toList.drop 1) W (by omega)
 have ht5 : (Rm.takeG (s.data.toList.drop 1)).1.length ≤ 5000 := by omega
 generalize (⟨(s.data.toList.drop 1).toArray⟩ : ByteArray) = d1 at HX1 htk
 generalize Rm.takeG (s.data.toList.drop 1) = tm at *
 obtain ⟨t, m⟩ := tm
 have hm3 : m = 0 := hm2
 have ht6 : t.length ≤ 5000 := ht5
 obtain ⟨tb, rfl⟩ : ∃ tb : ByteArray, t = tb.data.toList := ⟨ByteArray.mk t.toArray, by simp⟩
 rw [size_list] at ht6
 have htk : ∀ W, Calls Tryz.prog 168 #[.string d1] W fun r w' => r = .returned (.tuple #[.string tb, .int .i64 m]) ∧ W = w' := htk
 have HTK := Lib.hid htk
 have HGF := Lib.hid hgf
 clear htk htl hl1 hgf hm2 ht5
 have HKF := Lib.hid (obC_F { noOb with kind := (s[0].toNat : Int) } nilV nilV rfl rfl rfl rfl)
 have HKB := Lib.hid (built_kd (s[0].toNat : Int))
 have HKS := Lib.hid HKF.out.size
 have HKO := Lib.hid HKF.out.one
 have B0 : Bx ((w.alloc (.cells z 59)).alloc (.cells (obC { noOb with kind := (s[0].toNat : Int) } nilV nilV).toArray 59)) (w.heap.size + 1) { noOb with kind := (s[0].toNat : Int) } nilV nilV := heap_alloc2_new _ _ _
 have E0 := Lib.hid (heap_alloc2_old w (.cells z 59) (.cells (obC { noOb with kind := (s[0].toNat : Int) } nilV nilV).toArray 59))
 have hB0 := ((Below.refl w.heap.size w).alloc (Nat.le_refl _) (.cells z 59)).alloc (by simp) (.cells (obC { noOb with kind := (s[0].toNat : Int) } nilV nilV).toArray 59)
 have c0 := B0.cell 0 _ HKF.out.c0
 have HGF2 := Lib.hid (show Rm.guessF s.data.toList = noOb by rw [HGF.out, if_pos (show ((tb.data.toList, m) : List UInt8 × Nat).2 = 0 from hm3)])
 have hmz : ((m : Int) == 0) = true := by rw [beq_iff_eq]; omega
 clear hm3
 go_enter Tryz.func130, Tryz.ntmps130
 go_wp2_with (first
  | (go_at_call 168; fail)
  | ((with_reducible refine bd_kd (x := .tmp 17) ?_ ?_ ?_ HKB.out ?_); rfl; rfl; rfl)
  | ((with_reducible refine st_ob2 (x := .tmp 3) (y := .tmp 18) (g := w.heap.size + 1) ?_ ?_ ?_ ?_ ?_ ?_ HKS.out HKO.out ?_); rfl; rfl; rfl; rfl; exact HS0.out; simp))
 rw [HX1.out]
 refine (HTK.out _).mono ?_
 rintro r w1 ⟨rfl, rfl⟩
 generalize ((w.alloc (.cells z 59)).alloc (.cells (obC { noOb with kind := (s[0].toNat : Int) } nilV nilV).toArray 59)) = W1 at B0 E0 hB0 c0 ⊢
 go_wp2_with (first
  | ((with_reducible refine bd_obz ?_ ?_ HBN.out ?_); rfl; rfl)
  | ((with_reducible refine st_obr (x := .tmp 2) (y := .tmp 27) ?_ ?_ ?_ ?_ E0.out HS0.out HS0.out HO0.out ?_); rfl; rfl; rfl; rfl))
 refine bodyPost_ret (results_cell_row (fn := Tryz.f130) (p := 2) (by rfl) _ _ w.heap.size _ _ _ _ (by rfl) (setRow_heap _ _ _ _ _ _ E0.out) Tryz.underlying59 rfl (obsize HS0.out)) rfl ⟨_, none, none, 0, 0, rfl, ?_, below_setRow hB0 (Nat.le_refl _) _, fun a ha => by rcases ha with ha | ha <;> cases ha⟩
 rw [HGF2.out]
 exact ⟨HNF.out, RowsAt.nil _ _, RowsAt.nil _ _, (fun e he => by cases he), (fun e he => by cases he), (fun e he => by cases he), Nat.zero_le _, Nat.zero_le _, (show (0 : Nat) ≤ maxLen from Nat.zero_le _), (show (0 : Nat) < 4294967296 by decide)⟩
theorem guess_blob (s : ByteArray) (w : World) (h0 : 0 < s.size) (hs : s.size ≤ 5000) (hm2 : (Rm.takeG (s.data.toList.drop 1)).2 ≠ 0) (hk : (s[0].toNat : Int) = 1) :
  Calls Tryz.prog 130 #[.string s] w (Gsd s.data.toList w) := by
 have hz28 := (zero_of_info zero28).1
 have HS0 := Lib.hid noF.size
 have HO0 := Lib.hid noF.one
 have HBN := Lib.hid built_none
 have HNF := Lib.hid noF
 generalize (obC noOb nilV nilV).toArray = z at hz28 HS0 HO0 HBN HNF
 have h0' : (0 : Int) < (s.size : Int) := by omega
 have h1' : (1 : Int) ≤ (s.size : Int) := by omega
 have HX1 := Lib.hid (show s.extract 1 s.size = ⟨(s.data.toList.drop 1).toArray⟩ from bytes_ext (by rw [extract_r]))
 have hl1 : (s.data.toList.drop 1).length ≤ 5000 := by rw [List.length_drop, size_list]; omega
 have hkv := kindV_at s h0
 have hb0 := s[0].toNat_lt
 have hwk : wrap64 (s[0].toNat : Int) = (s[0].toNat : Int) := by unfold wrap64; omega
 have hgf : Rm.guessF s.data.toList = (if (Rm.takeG (s.data.toList.drop 1)).2 = 0 then noOb else Rm.bodyG (Rm.kindV s.data.toList) (Rm.takeG (s.data.toList.drop 1)).1) := rfl
 have htl := Rm.takeG_len (s.data.toList.drop 1)
 have htk := fun W => retake_l (s.data.toList.drop 1) W (by omega)
 have ht5 : (Rm.takeG (s.data.toList.drop 1)).1.length ≤ 5000 := by omega
 generalize (⟨(s.data.toList.drop 1).toArray⟩ : ByteArray) = d1 at HX1 htk
 generalize Rm.takeG (s.data.toList.drop 1) = tm at *
 obtain ⟨t, m⟩ := tm
 have hm3 : ¬ m = 0 := hm2
 have ht6 : t.length ≤ 5000 := ht5
 obtain ⟨tb, rfl⟩ : ∃ tb : ByteArray, t = tb.data.toList := ⟨ByteArray.mk t.toArray, by simp⟩
 rw [size_list] at ht6
 have htk : ∀ W, Calls Tryz.prog 168 #[.string d1] W fun r w' => r = .returned (.tuple #[.string tb, .int .i64 m]) ∧ W = w' := htk
 have HTK := Lib.hid htk
 have HGF := Lib.hid hgf
 clear htk htl hl1 hgf hm2 ht5
 have HKF := Lib.hid (obC_F { noOb with kind := (s[0].toNat : Int) } nilV nilV rfl rfl rfl rfl)
 have HKB := Lib.hid (built_kd (s[0].toNat : Int))
 have HKS := Lib.hid HKF.out.size
 have HKO := Lib.hid HKF.out.one
 have B0 : Bx ((w.alloc (.cells z 59)).alloc (.cells (obC { noOb with kind := (s[0].toNat : Int) } nilV nilV).toArray 59)) (w.heap.size + 1) { noOb with kind := (s[0].toNat : Int) } nilV nilV := heap_alloc2_new _ _ _
 have E0 := Lib.hid (heap_alloc2_old w (.cells z 59) (.cells (obC { noOb with kind := (s[0].toNat : Int) } nilV nilV).toArray 59))
 have hB0 := ((Below.refl w.heap.size w).alloc (Nat.le_refl _) (.cells z 59)).alloc (by simp) (.cells (obC { noOb with kind := (s[0].toNat : Int) } nilV nilV).toArray 59)
 have c0 := B0.cell 0 _ HKF.out.c0
 have hmz : ((m : Int) == 0) = false := by rw [beq_eq_false_iff_ne]; omega
 have HGF2 := Lib.hid (show Rm.guessF s.data.toList = { noOb with kind := (s[0].toNat : Int), data := tb } by rw [HGF.out, if_neg (show ¬ ((tb.data.toList, m) : List UInt8 × Nat).2 = 0 from hm3), hkv, hk]; rfl)
 have hk1 : ((s[0].toNat : Int) == 1) = true := by rw [beq_iff_eq]; exact hk
 clear hm3 hk hkv
 go_enter Tryz.func130, Tryz.ntmps130
 go_wp2_with (first
  | (go_at_call 168; fail)
  | ((with_reducible refine bd_kd (x := .tmp 17) ?_ ?_ ?_ HKB.out ?_); rfl; rfl; rfl)
  | ((with_reducible refine st_ob2 (x := .tmp 3) (y := .tmp 18) (g := w.heap.size + 1) ?_ ?_ ?_ ?_ ?_ ?_ HKS.out HKO.out ?_); rfl; rfl; rfl; rfl; exact HS0.out; simp))
 rw [HX1.out]
 refine (HTK.out _).mono ?_
 rintro r w1 ⟨rfl, rfl⟩
 generalize ((w.alloc (.cells z 59)).alloc (.cells (obC { noOb with kind := (s[0].toNat : Int) } nilV nilV).toArray 59)) = W1 at B0 E0 hB0 c0 ⊢
 have c1 := B0.cell 1 _ HKF.out.c1
 have f1 := B0.fr 1
 have B1 := Lib.hid (B0.data tb)
 have E1 := Lib.hid ((heap_setCell_other _ ⟨w.heap.size + 1, 1, none⟩ w.heap.size (.string tb) (by simp)).trans E0.out)
 have hB1 := hB0.setCell (p := ⟨w.heap.size + 1, 1, none⟩) (by simp) (.string tb)
 have HF1 := Lib.hid (obC_F { noOb with kind := (s[0].toNat : Int), data := tb } nilV nilV rfl rfl rfl rfl)
 go_wp2_with (first
  | ((with_reducible refine ld_obr (x := .tmp 3) ?_ ?_ ?_ B1.out.held HF1.out.size ?_); rfl; rfl; rfl)
  | ((with_reducible refine st_obr (x := .tmp 2) (y := .tmp 138) ?_ ?_ ?_ ?_ E1.out HS0.out HF1.out.size HF1.out.one ?_); rfl; rfl; rfl; rfl))
 refine bodyPost_ret (results_cell_row (fn := Tryz.f130) (p := 2) (by rfl) _ _ w.heap.size _ _ _ _ (by rfl) (setRow_heap _ _ _ _ _ _ E1.out) Tryz.underlying59 rfl (obsize (Lib.hid HF1.out.size).out)) rfl ⟨_, none, none, 0, 0, rfl, ?_, below_setRow hB1 (Nat.le_refl _) _, fun a ha => by rcases ha with ha | ha <;> cases ha⟩
 rw [HGF2.out]
 exact ⟨HF1.out, RowsAt.nil _ _, RowsAt.nil _ _, (fun e he => by cases he), (fun e he => by cases he), (fun e he => by cases he), Nat.zero_le _, Nat.zero_le _, (show (0 : Nat) ≤ maxLen from Nat.zero_le _), (show (0 : Nat) < 4294967296 by decide)⟩
theorem guess_other (s : ByteArray) (w : World) (h0 : 0 < s.size) (hs : s.size ≤ 5000) (hm2 : (Rm.takeG (s.data.toList.drop 1)).2 ≠ 0) (hk : ¬ (1 ≤ (s[0].toNat : Int) ∧ (s[0].toNat : Int) ≤ 4)) :
  Calls Tryz.prog 130 #[.string s] w (Gsd s.data.toList w) := by
 have hz28 := (zero_of_info zero28).1
 have HS0 := Lib.hid noF.size
 have HO0 := Lib.hid noF.one
 have HBN := Lib.hid built_none
 have HNF := Lib.hid noF
 generalize (obC noOb nilV nilV).toArray = z at hz28 HS0 HO0 HBN HNF
 have h0' : (0 : Int) < (s.size : Int) := by omega
 have h1' : (1 : Int) ≤ (s.size : Int) := by omega
 have HX1 := Lib.hid (show s.extract 1 s.size = ⟨(s.data.toList.drop 1).toArray⟩ from bytes_ext (by rw [extract_r]))
 have hl1 : (s.data.toList.drop 1).length ≤ 5000 := by rw [List.length_drop, size_list]; omega
 have hkv := kindV_at s h0
 have hb0 := s[0].toNat_lt
 have hwk : wrap64 (s[0].toNat : Int) = (s[0].toNat : Int) := by unfold wrap64; omega
 have hgf : Rm.guessF s.data.toList = (if (Rm.takeG (s.data.toList.drop 1)).2 = 0 then noOb else Rm.bodyG (Rm.kindV s.data.toList) (Rm.takeG (s.data.toList.drop 1)).1) := rfl
 have htl := Rm.takeG_len (s.data.toList.drop 1)
 have htk := fun W => retake_l (s.data.toList.drop 1) W (by omega)
 have ht5 : (Rm.takeG (s.data.toList.drop 1)).1.length ≤ 5000 := by omega
 generalize (⟨(s.data.toList.drop 1).toArray⟩ : ByteArray) = d1 at HX1 htk
 generalize Rm.takeG (s.data.toList.drop 1) = tm at *
 obtain ⟨t, m⟩ := tm
 have hm3 : ¬ m = 0 := hm2
 have ht6 : t.length ≤ 5000 := ht5
 obtain ⟨tb, rfl⟩ : ∃ tb : ByteArray, t = tb.data.toList := ⟨ByteArray.mk t.toArray, by simp⟩
 rw [size_list] at ht6
 have htk : ∀ W, Calls Tryz.prog 168 #[.string d1] W fun r w' => r = .returned (.tuple #[.string tb, .int .i64 m]) ∧ W = w' := htk
 have HTK := Lib.hid htk
 have HGF := Lib.hid hgf
 clear htk htl hl1 hgf hm2 ht5
 have HKF := Lib.hid (obC_F { noOb with kind := (s[0].toNat : Int) } nilV nilV rfl rfl rfl rfl)
 have HKB := Lib.hid (built_kd (s[0].toNat : Int))
 have HKS := Lib.hid HKF.out.size
 have HKO := Lib.hid HKF.out.one
 have B0 : Bx ((w.alloc (.cells z 59)).alloc (.cells (obC { noOb with kind := (s[0].toNat : Int) } nilV nilV).toArray 59)) (w.heap.size + 1) { noOb with kind := (s[0].toNat : Int) } nilV nilV := heap_alloc2_new _ _ _
 have E0 := Lib.hid (heap_alloc2_old w (.cells z 59) (.cells (obC { noOb with kind := (s[0].toNat : Int) } nilV nilV).toArray 59))
 have hB0 := ((Below.refl w.heap.size w).alloc (Nat.le_refl _) (.cells z 59)).alloc (by simp) (.cells (obC { noOb with kind := (s[0].toNat : Int) } nilV nilV).toArray 59)
 have c0 := B0.cell 0 _ HKF.out.c0
 have hmz : ((m : Int) == 0) = false := by rw [beq_eq_false_iff_ne]; omega
 have HGF2 := Lib.hid (show Rm.guessF s.data.toList = { noOb with kind := (s[0].toNat : Int) } by rw [HGF.out, if_neg (show ¬ ((tb.data.toList, m) : List UInt8 × Nat).2 = 0 from hm3), hkv]; unfold Rm.bodyG; rw [if_neg (by omega), if_neg (by omega), if_neg (by omega), if_neg (by omega)])
 have hk1 : ((s[0].toNat : Int) == 1) = false := by rw [beq_eq_false_iff_ne]; omega
 have hk2 : ((s[0].toNat : Int) == 2) = false := by rw [beq_eq_false_iff_ne]; omega
 have hk3 : ((s[0].toNat : Int) == 3) = false := by rw [beq_eq_false_iff_ne]; omega
 have hk4 : ((s[0].toNat : Int) == 4) = false := by rw [beq_eq_false_iff_ne]; omega
 clear hm3 hk hkv
 go_enter Tryz.func130, Tryz.ntmps130
 go_wp2_with (first
  | (go_at_call 168; fail)
  | ((with_reducible refine bd_kd (x := .tmp 17) ?_ ?_ ?_ HKB.out ?_); rfl; rfl; rfl)
  | ((with_reducible refine st_ob2 (x := .tmp 3) (y := .tmp 18) (g := w.heap.size + 1) ?_ ?_ ?_ ?_ ?_ ?_ HKS.out HKO.out ?_); rfl; rfl; rfl; rfl; exact HS0.out; simp))
 rw [HX1.out]
 refine (HTK.out _).mono ?_
 rintro r w1 ⟨rfl, rfl⟩
 generalize ((w.alloc (.cells z 59)).alloc (.cells (obC { noOb with kind := (s[0].toNat : Int) } nilV nilV).toArray 59)) = W1 at B0 E0 hB0 c0 ⊢
 have B1 := Lib.hid B0
 go_wp2_with (first
  | ((with_reducible refine ld_obr (x := .tmp 3) ?_ ?_ ?_ B1.out.held HKF.out.size ?_); rfl; rfl; rfl)
  | ((with_reducible refine st_obr (x := .tmp 2) (y := .tmp 138) ?_ ?_ ?_ ?_ E0.out HS0.out HKF.out.size HKF.out.one ?_); rfl; rfl; rfl; rfl))
 refine bodyPost_ret (results_cell_row (fn := Tryz.f130) (p := 2) (by rfl) _ _ w.heap.size _ _ _ _ (by rfl) (setRow_heap _ _ _ _ _ _ E0.out) Tryz.underlying59 rfl (obsize HKS.out)) rfl ⟨_, none, none, 0, 0, rfl, ?_, below_setRow hB0 (Nat.le_refl _) _, fun a ha => by rcases ha with ha | ha <;> cases ha⟩
 rw [HGF2.out]
 exact ⟨HKF.out, RowsAt.nil _ _, RowsAt.nil _ _, (fun e he => by cases he), (fun e he => by cases he), (fun e he => by cases he), Nat.zero_le _, Nat.zero_le _, (show (0 : Nat) ≤ maxLen from Nat.zero_le _), (show (0 : Nat) < 4294967296 by decide)⟩
end Go.Proofs.YtkcjhkfelaplkaaGreatDoor
end
section
namespace Go.Proofs.YtkcjhkfelaplkaaGreatDoor
open Go.RowKit
theorem behind_1 (t : ByteArray) (w : World) (hl : t.size ≤ 1000000) :
  Calls Tryz.prog 169 #[.string t, .int .i64 1] w fun r w' => r = .returned (.string ⟨(t.data.toList.drop 1).toArray⟩) ∧ w = w' := by
 have := behind_l t.data.toList 1 w (by rw [size_list]; exact hl) (by decide)
 rw [Rm.mk_list] at this
 exact this
theorem behind_32 (l : List UInt8) (w : World) (hl : l.length ≤ 1000000) :
  Calls Tryz.prog 169 #[.string ⟨l.toArray⟩, .int .i64 32] w fun r w' => r = .returned (.string ⟨(l.drop 32).toArray⟩) ∧ w = w' := behind_l l 32 w hl (by decide)
theorem guess_tag1 (s : ByteArray) (w : World) (h0 : 0 < s.size) (hs : s.size ≤ 5000) (hm2 : (Rm.takeG (s.data.toList.drop 1)).2 ≠ 0) (hk : (s[0].toNat : Int) = 4) (hte : (Rm.takeG (s.data.toList.drop 1)).1 = []) :
  Calls Tryz.prog 130 #[.string s] w (Gsd s.data.toList w) := by
 have hz28 := (zero_of_info zero28).1
 have HS0 := Lib.hid noF.size
 have HO0 := Lib.hid noF.one
 have HBN := Lib.hid built_none
 have HNF := Lib.hid noF
 generalize (obC noOb nilV nilV).toArray = z at hz28 HS0 HO0 HBN HNF
 have h0' : (0 : Int) < (s.size : Int) := by omega
 have h1' : (1 : Int) ≤ (s.size : Int) := by omega
 have HX1 := Lib.hid (show s.extract 1 s.size = ⟨(s.data.toList.drop 1).toArray⟩ from bytes_ext (by rw [extract_r]))
 have hl1 : (s.data.toList.drop 1).length ≤ 5000 := by rw [List.length_drop, size_list]; omega
 have hkv := kindV_at s h0
 have hb0 := s[0].toNat_lt
 have hwk : wrap64 (s[0].toNat : Int) = (s[0].toNat : Int) := by unfold wrap64; omega
 have hgf : Rm.guessF s.data.toList = (if (Rm.takeG (s.data.toList.drop 1)).2 = 0 then noOb else Rm.bodyG (Rm.kindV s.data.toList) (Rm.takeG (s.data.toList.drop 1)).1) := rfl
 have htl := Rm.takeG_len (s.data.toList.drop 1)
 have htk := fun W => retake_l (s.data.toList.drop 1) W (by omega)
 have ht5 : (Rm.takeG (s.data.toList.drop 1)).1.length ≤ 5000 := by omega
 generalize (⟨(s.data.toList.drop 1).toArray⟩ : ByteArray) = d1 at HX1 htk
 generalize Rm.takeG (s.data.toList.drop 1) = tm at *
 obtain ⟨t, m⟩ := tm
 have hm3 : ¬ m = 0 := hm2
 have ht6 : t.length ≤ 5000 := ht5
 obtain ⟨tb, rfl⟩ : ∃ tb : ByteArray, t = tb.data.toList := ⟨ByteArray.mk t.toArray, by simp⟩
 rw [size_list] at ht6
 have htk : ∀ W, Calls Tryz.prog 168 #[.string d1] W fun r w' => r = .returned (.tuple #[.string tb, .int .i64 m]) ∧ W = w' := htk
 have HTK := Lib.hid htk
 have HGF := Lib.hid hgf
 clear htk htl hl1 hgf hm2 ht5
 have HKF := Lib.hid (obC_F { noOb with kind := (s[0].toNat : Int) } nilV nilV rfl rfl rfl rfl)
 have HKB := Lib.hid (built_kd (s[0].toNat : Int))
 have HKS := Lib.hid HKF.out.size
 have HKO := Lib.hid HKF.out.one
 have B0 : Bx ((w.alloc (.cells z 59)).alloc (.cells (obC { noOb with kind := (s[0].toNat : Int) } nilV nilV).toArray 59)) (w.heap.size + 1) { noOb with kind := (s[0].toNat : Int) } nilV nilV := heap_alloc2_new _ _ _
 have E0 := Lib.hid (heap_alloc2_old w (.cells z 59) (.cells (obC { noOb with kind := (s[0].toNat : Int) } nilV nilV).toArray 59))
 have hB0 := ((Below.refl w.heap.size w).alloc (Nat.le_refl _) (.cells z 59)).alloc (by simp) (.cells (obC { noOb with kind := (s[0].toNat : Int) } nilV nilV).toArray 59)
 have c0 := B0.cell 0 _ HKF.out.c0
 have hmz : ((m : Int) == 0) = false := by rw [beq_eq_false_iff_ne]; omega
 have htx : tb = ByteArray.empty := bytes_ext (by rw [show tb.data.toList = [] from hte]; rfl)
 have hgf2 : Rm.guessF s.data.toList = { noOb with kind := (s[0].toNat : Int), target := Rm.idG (tb.data.toList.drop 1), of := Rm.kindV tb.data.toList, name := ⟨(Rm.takeG ((tb.data.toList.drop 1).drop 32)).1.toArray⟩ } := by rw [HGF.out, if_neg (show ¬ ((tb.data.toList, m) : List UInt8 × Nat).2 = 0 from hm3), hkv, hk]; rfl
 have hk1 : ((s[0].toNat : Int) == 1) = false := by rw [beq_eq_false_iff_ne]; omega
 have hk2 : ((s[0].toNat : Int) == 2) = false := by rw [beq_eq_false_iff_ne]; omega
 have hk3 : ((s[0].toNat : Int) == 3) = false := by rw [beq_eq_false_iff_ne]; omega
 have hk4 : ((s[0].toNat : Int) == 4) = true := by rw [beq_iff_eq]; exact hk
 have hl0 : tb.data.toList.length ≤ 5000 := by rw [size_list]; exact ht6
 have hl1 : (tb.data.toList.drop 1).length ≤ 5000 := by rw [List.length_drop]; omega
 have hl2 : ((tb.data.toList.drop 1).drop 32).length ≤ 5000 := by rw [List.length_drop]; omega
 have HB1 := Lib.hid (fun W => behind_1 tb W (by omega))
 have hid := fun W => refid_l (tb.data.toList.drop 1) W (by omega)
 have hb2 := fun W => behind_32 (tb.data.toList.drop 1) W (by omega)
 have ht2 := fun W => retake_l ((tb.data.toList.drop 1).drop 32) W (by omega)
 have hil := Rm.idG_len (tb.data.toList.drop 1)
 have htl2 := (Rm.takeG_len ((tb.data.toList.drop 1).drop 32)).1
 have hnl : (Rm.takeG ((tb.data.toList.drop 1).drop 32)).1.length ≤ 5000 := by omega
 have hkz : Rm.kindV tb.data.toList = 0 := by rw [htx]; rfl
 rw [hkz] at hgf2
 clear hkz
 clear htl2 hl0 hl1 hl2
 generalize (⟨(tb.data.toList.drop 1).toArray⟩ : ByteArray) = t1 at HB1 hid hb2
 generalize (⟨((tb.data.toList.drop 1).drop 32).toArray⟩ : ByteArray) = t2 at hb2 ht2
 generalize Rm.idG (tb.data.toList.drop 1) = idl at hgf2 hid hil
 generalize Rm.takeG ((tb.data.toList.drop 1).drop 32) = tm2 at hgf2 ht2 hnl
 obtain ⟨nm, m2⟩ := tm2
 obtain ⟨nb, rfl⟩ : ∃ nb : ByteArray, nm = nb.data.toList := ⟨⟨nm.toArray⟩, by simp⟩
 have hnl2 : nb.size ≤ maxLen := by rw [← size_list]; unfold maxLen; have : nb.data.toList.length ≤ 5000 := hnl; omega
 have HGF3 := Lib.hid (show Rm.guessF s.data.toList = { noOb with kind := (s[0].toNat : Int), target := idl, of := 0, name := nb } from hgf2)
 have HT3 := Lib.hid (fun W => show Calls Tryz.prog 168 #[.string t2] W fun r w' => r = .returned (.tuple #[.string nb, .int .i64 m2]) ∧ W = w' from ht2 W)
 have HID := Lib.hid hid
 have HB2 := Lib.hid hb2
 have HIL := Lib.hid hil
 subst htx
 clear hm3 hk hkv hte ht2 hgf2 hnl HGF hid hb2 hil
 go_enter Tryz.func130, Tryz.ntmps130
 go_wp2_with (first
  | (go_at_call 168; fail)
  | ((with_reducible refine bd_kd (x := .tmp 17) ?_ ?_ ?_ HKB.out ?_); rfl; rfl; rfl)
  | ((with_reducible refine st_ob2 (x := .tmp 3) (y := .tmp 18) (g := w.heap.size + 1) ?_ ?_ ?_ ?_ ?_ ?_ HKS.out HKO.out ?_); rfl; rfl; rfl; rfl; exact HS0.out; simp))
 rw [HX1.out]
 refine (HTK.out _).mono ?_
 rintro r w1 ⟨rfl, rfl⟩
 generalize ((w.alloc (.cells z 59)).alloc (.cells (obC { noOb with kind := (s[0].toNat : Int) } nilV nilV).toArray 59)) = W1 at B0 E0 hB0 c0 ⊢
 have BB := Lib.hid B0
 have EE := E0
 have hBB := hB0
 have hZZ : w.heap.size + 2 ≤ W1.heap.size := by
  have := (Array.getElem?_eq_some_iff.1 BB.out).1; omega
 go_wp2_with (first
  | (go_at_call 169; fail))
 refine (HB1.out _).mono ?_
 rintro r w2 ⟨rfl, rfl⟩
 go_wp2_with (first
  | (go_at_call 170; fail))
 refine (HID.out _).mono ?_
 rintro r w3 ⟨rfl, hx3⟩
 have B3 := BB.out.below hx3
 have E3 := Lib.hid ((hx3.block w.heap.size (by omega)).trans EE.out)
 have hB3 := hBB.trans (hx3.mono hBB.size)
 have hZ3 := Nat.le_trans hZZ hx3.size
 clear BB EE hBB hZZ hx3
 have HF3 := Lib.hid (obC_F { noOb with kind := (s[0].toNat : Int), of := noOb.of } nilV nilV rfl rfl rfl rfl)
 have HTH := Lib.hid (B3.there HF3.out.size 38 32 (by decide))
 have B4 := B3.target idl HIL.out rfl rfl
 have E4 := Lib.hid (held_setCells (g := w.heap.size + 1) (o := 38) (vs := idC idl) E3.out (by omega))
 have hB4 := below_setCells (g := w.heap.size + 1) (by omega) (idC idl) 38 _ hB3
 go_wp2_with (first
  | (go_at_call 169; fail)
  | ((with_reducible refine st_idmid (x := .tmp 130) (y := .tmp 129) ?_ ?_ ?_ ?_ HIL.out HTH.out ?_); rfl; rfl; rfl; rfl))
 refine (HB2.out _).mono ?_
 rintro r w5 ⟨rfl, rfl⟩
 generalize w3.setCells (w.heap.size + 1) 38 (idC idl) = w4 at B4 E4 hB4 ⊢
 clear B3 E3 hB3 hZ3 HTH
 go_wp2_with fail
 refine (HT3.out _).mono ?_
 rintro r w5 ⟨rfl, rfl⟩
 have HF4 := Lib.hid (obC_F { noOb with kind := (s[0].toNat : Int), of := noOb.of, target := idl } nilV nilV rfl HIL.out rfl rfl)
 have c71 := B4.cell 71 _ HF4.out.c71
 have f71 := B4.fr 71
 have B5 := Lib.hid (B4.name nb rfl HIL.out)
 have E5 := Lib.hid ((heap_setCell_other w4 ⟨w.heap.size + 1, 71, none⟩ w.heap.size (.string nb) (by simp)).trans E4.out)
 have hB5 := hB4.setCell (p := ⟨w.heap.size + 1, 71, none⟩) (by simp) (.string nb)
 have HF5 := Lib.hid (obC_F { noOb with kind := (s[0].toNat : Int), of := noOb.of, target := idl, name := nb } nilV nilV rfl HIL.out rfl rfl)
 go_wp2_with (first
  | ((with_reducible refine ld_obr (x := .tmp 3) ?_ ?_ ?_ B5.out.held HF5.out.size ?_); rfl; rfl; rfl)
  | ((with_reducible refine st_obr (x := .tmp 2) (y := .tmp 138) ?_ ?_ ?_ ?_ E5.out HS0.out HF5.out.size HF5.out.one ?_); rfl; rfl; rfl; rfl))
 refine bodyPost_ret (results_cell_row (fn := Tryz.f130) (p := 2) (by rfl) _ _ w.heap.size _ _ _ _ (by rfl) (setRow_heap _ _ _ _ _ _ E5.out) Tryz.underlying59 rfl (obsize (Lib.hid HF5.out.size).out)) rfl ⟨_, none, none, 0, 0, rfl, ?_, below_setRow hB5 (Nat.le_refl _) _, fun a ha => by rcases ha with ha | ha <;> cases ha⟩
 rw [HGF3.out]
 exact ⟨HF5.out, RowsAt.nil _ _, RowsAt.nil _ _, (fun e he => by cases he), (fun e he => by cases he), (fun e he => by cases he), Nat.zero_le _, Nat.zero_le _,  hnl2, (show (0 : Nat) < 4294967296 by decide)⟩
theorem guess_tag2 (s : ByteArray) (w : World) (h0 : 0 < s.size) (hs : s.size ≤ 5000) (hm2 : (Rm.takeG (s.data.toList.drop 1)).2 ≠ 0) (hk : (s[0].toNat : Int) = 4) (hte : (Rm.takeG (s.data.toList.drop 1)).1 ≠ []) :
  Calls Tryz.prog 130 #[.string s] w (Gsd s.data.toList w) := by
 have hz28 := (zero_of_info zero28).1
 have HS0 := Lib.hid noF.size
 have HO0 := Lib.hid noF.one
 have HBN := Lib.hid built_none
 have HNF := Lib.hid noF
 generalize (obC noOb nilV nilV).toArray = z at hz28 HS0 HO0 HBN HNF
 have h0' : (0 : Int) < (s.size : Int) := by omega
 have h1' : (1 : Int) ≤ (s.size : Int) := by omega
 have HX1 := Lib.hid (show s.extract 1 s.size = ⟨(s.data.toList.drop 1).toArray⟩ from bytes_ext (by rw [extract_r]))
 have hl1 : (s.data.toList.drop 1).length ≤ 5000 := by rw [List.length_drop, size_list]; omega
 have hkv := kindV_at s h0
 have hb0 := s[0].toNat_lt
 have hwk : wrap64 (s[0].toNat : Int) = (s[0].toNat : Int) := by unfold wrap64; omega
 have hgf : Rm.guessF s.data.toList = (if (Rm.takeG (s.data.toList.drop 1)).2 = 0 then noOb else Rm.bodyG (Rm.kindV s.data.toList) (Rm.takeG (s.data.toList.drop 1)).1) := rfl
 have htl := Rm.takeG_len (s.data.toList.drop 1)
 have htk := fun W => retake_l (s.data.toList.drop 1) W (by omega)
 have ht5 : (Rm.takeG (s.data.toList.drop 1)).1.length ≤ 5000 := by omega
 generalize (⟨(s.data.toList.drop 1).toArray⟩ : ByteArray) = d1 at HX1 htk
 generalize Rm.takeG (s.data.toList.drop 1) = tm at *
 obtain ⟨t, m⟩ := tm
 have hm3 : ¬ m = 0 := hm2
 have ht6 : t.length ≤ 5000 := ht5
 obtain ⟨tb, rfl⟩ : ∃ tb : ByteArray, t = tb.data.toList := ⟨ByteArray.mk t.toArray, by simp⟩
 rw [size_list] at ht6
 have htk : ∀ W, Calls Tryz.prog 168 #[.string d1] W fun r w' => r = .returned (.tuple #[.string tb, .int .i64 m]) ∧ W = w' := htk
 have HTK := Lib.hid htk
 have HGF := Lib.hid hgf
 clear htk htl hl1 hgf hm2 ht5
 have HKF := Lib.hid (obC_F { noOb with kind := (s[0].toNat : Int) } nilV nilV rfl rfl rfl rfl)
 have HKB := Lib.hid (built_kd (s[0].toNat : Int))
 have HKS := Lib.hid HKF.out.size
 have HKO := Lib.hid HKF.out.one
 have B0 : Bx ((w.alloc (.cells z 59)).alloc (.cells (obC { noOb with kind := (s[0].toNat : Int) } nilV nilV).toArray 59)) (w.heap.size + 1) { noOb with kind := (s[0].toNat : Int) } nilV nilV := heap_alloc2_new _ _ _
 have E0 := Lib.hid (heap_alloc2_old w (.cells z 59) (.cells (obC { noOb with kind := (s[0].toNat : Int) } nilV nilV).toArray 59))
 have hB0 := ((Below.refl w.heap.size w).alloc (Nat.le_refl _) (.cells z 59)).alloc (by simp) (.cells (obC { noOb with kind := (s[0].toNat : Int) } nilV nilV).toArray 59)
 have c0 := B0.cell 0 _ HKF.out.c0
 have hmz : ((m : Int) == 0) = false := by rw [beq_eq_false_iff_ne]; omega
 have htx : ¬ tb = ByteArray.empty := fun e => hte (by rw [e]; rfl)
 have hgf2 : Rm.guessF s.data.toList = { noOb with kind := (s[0].toNat : Int), target := Rm.idG (tb.data.toList.drop 1), of := Rm.kindV tb.data.toList, name := ⟨(Rm.takeG ((tb.data.toList.drop 1).drop 32)).1.toArray⟩ } := by rw [HGF.out, if_neg (show ¬ ((tb.data.toList, m) : List UInt8 × Nat).2 = 0 from hm3), hkv, hk]; rfl
 have hk1 : ((s[0].toNat : Int) == 1) = false := by rw [beq_eq_false_iff_ne]; omega
 have hk2 : ((s[0].toNat : Int) == 2) = false := by rw [beq_eq_false_iff_ne]; omega
 have hk3 : ((s[0].toNat : Int) == 3) = false := by rw [beq_eq_false_iff_ne]; omega
 have hk4 : ((s[0].toNat : Int) == 4) = true := by rw [beq_iff_eq]; exact hk
 have hl0 : tb.data.toList.length ≤ 5000 := by rw [size_list]; exact ht6
 have hl1 : (tb.data.toList.drop 1).length ≤ 5000 := by rw [List.length_drop]; omega
 have hl2 : ((tb.data.toList.drop 1).drop 32).length ≤ 5000 := by rw [List.length_drop]; omega
 have HB1 := Lib.hid (fun W => behind_1 tb W (by omega))
 have hid := fun W => refid_l (tb.data.toList.drop 1) W (by omega)
 have hb2 := fun W => behind_32 (tb.data.toList.drop 1) W (by omega)
 have ht2 := fun W => retake_l ((tb.data.toList.drop 1).drop 32) W (by omega)
 have hil := Rm.idG_len (tb.data.toList.drop 1)
 have htl2 := (Rm.takeG_len ((tb.data.toList.drop 1).drop 32)).1
 have hnl : (Rm.takeG ((tb.data.toList.drop 1).drop 32)).1.length ≤ 5000 := by omega
 have htz : 0 < tb.size := by
  have := size_list tb
  have h3 : tb.data.toList ≠ [] := fun e => htx (bytes_ext (by rw [e]; rfl))
  have := List.length_pos_iff.2 h3
  omega
 have hkt := kindV_at tb htz
 have hbt := tb[0].toNat_lt
 have htz' : (0 : Int) < (tb.size : Int) := by omega
 have hne1 : (!tb.toList.isEmpty) = true := by
  rw [ByteArray.toList_eq]
  have h3 : tb.data.toList ≠ [] := fun e => htx (bytes_ext (by rw [e]; rfl))
  simpa using h3
 have hne2 : ¬ tb = ByteArray.empty := htx
 have hwt : wrap64 (tb[0].toNat : Int) = (tb[0].toNat : Int) := by unfold wrap64; omega
 rw [hkt] at hgf2
 clear hkt
 clear htl2 hl0 hl1 hl2
 generalize (⟨(tb.data.toList.drop 1).toArray⟩ : ByteArray) = t1 at HB1 hid hb2
 generalize (⟨((tb.data.toList.drop 1).drop 32).toArray⟩ : ByteArray) = t2 at hb2 ht2
 generalize Rm.idG (tb.data.toList.drop 1) = idl at hgf2 hid hil
 generalize Rm.takeG ((tb.data.toList.drop 1).drop 32) = tm2 at hgf2 ht2 hnl
 obtain ⟨nm, m2⟩ := tm2
 obtain ⟨nb, rfl⟩ : ∃ nb : ByteArray, nm = nb.data.toList := ⟨⟨nm.toArray⟩, by simp⟩
 have hnl2 : nb.size ≤ maxLen := by rw [← size_list]; unfold maxLen; have : nb.data.toList.length ≤ 5000 := hnl; omega
 have HGF3 := Lib.hid (show Rm.guessF s.data.toList = { noOb with kind := (s[0].toNat : Int), target := idl, of := (tb[0].toNat : Int), name := nb } from hgf2)
 have HT3 := Lib.hid (fun W => show Calls Tryz.prog 168 #[.string t2] W fun r w' => r = .returned (.tuple #[.string nb, .int .i64 m2]) ∧ W = w' from ht2 W)
 have HID := Lib.hid hid
 have HB2 := Lib.hid hb2
 have HIL := Lib.hid hil
 clear hm3 hk hkv hte ht2 hgf2 hnl HGF hid hb2 hil
 go_enter Tryz.func130, Tryz.ntmps130
 go_wp2_with (first
  | (go_at_call 168; fail)
  | ((with_reducible refine bd_kd (x := .tmp 17) ?_ ?_ ?_ HKB.out ?_); rfl; rfl; rfl)
  | ((with_reducible refine st_ob2 (x := .tmp 3) (y := .tmp 18) (g := w.heap.size + 1) ?_ ?_ ?_ ?_ ?_ ?_ HKS.out HKO.out ?_); rfl; rfl; rfl; rfl; exact HS0.out; simp))
 rw [HX1.out]
 refine (HTK.out _).mono ?_
 rintro r w1 ⟨rfl, rfl⟩
 generalize ((w.alloc (.cells z 59)).alloc (.cells (obC { noOb with kind := (s[0].toNat : Int) } nilV nilV).toArray 59)) = W1 at B0 E0 hB0 c0 ⊢
 have c70 := B0.cell 70 _ HKF.out.c70
 have f70 := B0.fr 70
 have B2 := Lib.hid (B0.of (tb[0].toNat : Int) rfl rfl)
 have E2 := Lib.hid ((heap_setCell_other W1 ⟨w.heap.size + 1, 70, none⟩ w.heap.size (.int .i64 (tb[0].toNat : Int)) (by simp)).trans E0.out)
 have hB2 := hB0.setCell (p := ⟨w.heap.size + 1, 70, none⟩) (by simp) (.int .i64 (tb[0].toNat : Int))
 have hZ2 : w.heap.size + 2 ≤ (W1.setCell ⟨w.heap.size + 1, 70, none⟩ (.int .i64 (tb[0].toNat : Int))).heap.size := by
  have := (Array.getElem?_eq_some_iff.1 B2.out).1; omega
 have BB := B2
 have EE := E2
 have hBB := hB2
 have hZZ : w.heap.size + 2 ≤ (W1.setCell ⟨w.heap.size + 1, 70, none⟩ (.int .i64 (tb[0].toNat : Int))).heap.size := by
  have := (Array.getElem?_eq_some_iff.1 BB.out).1; omega
 clear hZ2 B2 E2 hB2
 go_wp2_with (first
  | (go_at_call 169; fail))
 refine (HB1.out _).mono ?_
 rintro r w2 ⟨rfl, rfl⟩
 go_wp2_with (first
  | (go_at_call 170; fail))
 refine (HID.out _).mono ?_
 rintro r w3 ⟨rfl, hx3⟩
 have B3 := BB.out.below hx3
 have E3 := Lib.hid ((hx3.block w.heap.size (by omega)).trans EE.out)
 have hB3 := hBB.trans (hx3.mono hBB.size)
 have hZ3 := Nat.le_trans hZZ hx3.size
 clear BB EE hBB hZZ hx3
 have HF3 := Lib.hid (obC_F { noOb with kind := (s[0].toNat : Int), of := (tb[0].toNat : Int) } nilV nilV rfl rfl rfl rfl)
 have HTH := Lib.hid (B3.there HF3.out.size 38 32 (by decide))
 have B4 := B3.target idl HIL.out rfl rfl
 have E4 := Lib.hid (held_setCells (g := w.heap.size + 1) (o := 38) (vs := idC idl) E3.out (by omega))
 have hB4 := below_setCells (g := w.heap.size + 1) (by omega) (idC idl) 38 _ hB3
 go_wp2_with (first
  | (go_at_call 169; fail)
  | ((with_reducible refine st_idmid (x := .tmp 130) (y := .tmp 129) ?_ ?_ ?_ ?_ HIL.out HTH.out ?_); rfl; rfl; rfl; rfl))
 refine (HB2.out _).mono ?_
 rintro r w5 ⟨rfl, rfl⟩
 generalize w3.setCells (w.heap.size + 1) 38 (idC idl) = w4 at B4 E4 hB4 ⊢
 clear B3 E3 hB3 hZ3 HTH
 go_wp2_with fail
 refine (HT3.out _).mono ?_
 rintro r w5 ⟨rfl, rfl⟩
 have HF4 := Lib.hid (obC_F { noOb with kind := (s[0].toNat : Int), of := (tb[0].toNat : Int), target := idl } nilV nilV rfl HIL.out rfl rfl)
 have c71 := B4.cell 71 _ HF4.out.c71
 have f71 := B4.fr 71
 have B5 := Lib.hid (B4.name nb rfl HIL.out)
 have E5 := Lib.hid ((heap_setCell_other w4 ⟨w.heap.size + 1, 71, none⟩ w.heap.size (.string nb) (by simp)).trans E4.out)
 have hB5 := hB4.setCell (p := ⟨w.heap.size + 1, 71, none⟩) (by simp) (.string nb)
 have HF5 := Lib.hid (obC_F { noOb with kind := (s[0].toNat : Int), of := (tb[0].toNat : Int), target := idl, name := nb } nilV nilV rfl HIL.out rfl rfl)
 go_wp2_with (first
  | ((with_reducible refine ld_obr (x := .tmp 3) ?_ ?_ ?_ B5.out.held HF5.out.size ?_); rfl; rfl; rfl)
  | ((with_reducible refine st_obr (x := .tmp 2) (y := .tmp 138) ?_ ?_ ?_ ?_ E5.out HS0.out HF5.out.size HF5.out.one ?_); rfl; rfl; rfl; rfl))
 refine bodyPost_ret (results_cell_row (fn := Tryz.f130) (p := 2) (by rfl) _ _ w.heap.size _ _ _ _ (by rfl) (setRow_heap _ _ _ _ _ _ E5.out) Tryz.underlying59 rfl (obsize (Lib.hid HF5.out.size).out)) rfl ⟨_, none, none, 0, 0, rfl, ?_, below_setRow hB5 (Nat.le_refl _) _, fun a ha => by rcases ha with ha | ha <;> cases ha⟩
 rw [HGF3.out]
 exact ⟨HF5.out, RowsAt.nil _ _, RowsAt.nil _ _, (fun e he => by cases he), (fun e he => by cases he), (fun e he => by cases he), Nat.zero_le _, Nat.zero_le _,  hnl2, (show (0 : Nat) < 4294967296 by decide)⟩
end Go.Proofs.YtkcjhkfelaplkaaGreatDoor
end
end
