/-
  WALKS OF LAYER 4: the document's own Links (knapsackref04.Links), of commits, tags and others.
-/
import Derived.Test.YtmeancbpcjjfmaaRefLinks
namespace Go.Proofs.Ytmeancbpcjjfmaa
open Go.RowKit
set_option linter.unusedVariables false
set_option linter.unusedSimpArgs false

set_option maxHeartbeats 1000000 in
set_option maxRecDepth 100000 in
theorem reflinks_none (cs : Array Value) (o : Ob) (ao bo : Option Addr) (ca cb : Nat) (w : World) (h : ObAt w cs o ao bo ca cb) (n2 : o.kind ≠ 2) (n3 : o.kind ≠ 3) (n4 : o.kind ≠ 4) :
    Calls Try.prog 10 #[.agg cs] w fun r w' => ∃ v, r = .returned v ∧ OwnL w' w.heap.size v (linksL o) ∧ Below w.heap.size w w' := by
  have HM := Lib.hid (show linksL o = [] by simp [linksL, n2, n3, n4])
  generalize linksL o = M at HM
  have c0 := h.F.c0
  have m2 : (o.kind == 2) = false := beq_eq_false_iff_ne.2 n2
  have m3 : (o.kind == 3) = false := beq_eq_false_iff_ne.2 n3
  have m4 : (o.kind == 4) = false := beq_eq_false_iff_ne.2 n4
  clear h n2 n3 n4
  go_enter Try.func10, Try.ntmps10
  go_wp2
  go_ret
  exact ⟨_, rfl, by rw [HM.out]; exact World.ownsRow_nil _ _ _ _, (Below.refl _ _).alloc (Nat.le_refl _) _⟩

set_option maxHeartbeats 1000000 in
set_option maxRecDepth 100000 in
theorem reflinks_tag (cs : Array Value) (o : Ob) (ao bo : Option Addr) (ca cb : Nat) (w : World) (h : ObAt w cs o ao bo ca cb) (hk : o.kind = 4) :
    Calls Try.prog 10 #[.agg cs] w fun r w' => ∃ v, r = .returned v ∧ OwnL w' w.heap.size v (linksL o) ∧ Below w.heap.size w w' := by
  have HM := Lib.hid (show linksL o = [] ++ [(o.target, o.of)] by simp [linksL, hk])
  generalize linksL o = M at HM
  have c0 : cs[0]? = some (.int .i64 4) := by rw [h.F.c0, hk]
  have c70 := h.F.c70
  have HG := Lib.hid h.F.tal
  have RG := Lib.hid (h.F.rta (heap_alloc_last w (.cells cs 28)))
  have hB0 : Below w.heap.size w (w.alloc (.cells cs 28)) := (Below.refl _ _).alloc (Nat.le_refl _) _
  have hown : OwnL (w.alloc (.cells cs 28)) w.heap.size (.slice none 0 0) [] := World.ownsRow_nil _ _ _ _
  obtain ⟨i0, hi, hz0, hz1, hz2⟩ := info_parts infoLk
  clear h hk
  go_enter Try.func10, Try.ntmps10
  go_wp2_with (first
    | ((with_reducible refine ld_idm (x := .tmp 61) ?_ ?_ ?_ RG.out HG.out ?_); rfl; rfl; rfl)
    | ((with_reducible refine bd_lk (x := .tmp 62) (y := .tmp 64) (k := o.of) ?_ ?_ ?_ ?_ HG.out ?_); rfl; rfl; rfl; rfl)
    | ((with_reducible refine bs_lk (x := .tmp 65) (k := o.of) ?_ ?_ ?_ HG.out ?_); rfl; rfl; rfl)
    | (at_builtin; refine wpList_append_own _ rfl _ _ 36 rfl w.heap.size 52 i0 (.agg (lkC (zId, 0)).toArray) 33 40 Try.underlying36 hi hz0 hz1 hz2 (by decide) (by decide) _ _ _ rfl (World.ownsRow.alloc hown _) ⟨_, 0, none⟩ 1 1 (lkC (o.target, o.of)) rfl ?a1 ?a2 ?a3 ?a4 ?a5 ?a6 ?_))
  case a1 => rw [lkC_length]; exact congrArg (· + 1) HG.out
  case a2 => exact news_row (heap_alloc_last _ _)
  case a3 => exact lkC_one _
  case a4 => unfold maxLen; first | omega | (simp; done) | (simp; omega)
  case a5 => first | omega | (simp; done) | (simp; omega)
  case a6 => first | omega | (simp; done) | (simp; omega)
  intro v' w1 hown' hgrow _
  have hb' : Below w.heap.size w w1 := (hB0.alloc hB0.size _).grown hgrow (by have := hB0.size; simp; omega) (fun k hk => (World.ownsRow.lt hown k hk).1)
  have HO2 := Lib.hid (own_push (ls := []) (l := (o.target, o.of)) hown')
  clear hgrow hown'
  go_wp2
  go_ret
  exact ⟨_, rfl, by rw [HM.out]; exact HO2.out, hb'⟩

set_option maxHeartbeats 1000000 in
set_option maxRecDepth 100000 in
theorem reflinks_commit (cs : Array Value) (o : Ob) (ao bo : Option Addr) (ca cb : Nat) (w : World) (h : ObAt w cs o ao bo ca cb) (hp : o.pars.length ≤ 100) (hk : o.kind = 3) :
    Calls Try.prog 10 #[.agg cs] w fun r w' => ∃ v, r = .returned v ∧ OwnL w' w.heap.size v (linksL o) ∧ Below w.heap.size w w' := by
  have HM := Lib.hid (show linksL o = (o.tree, 2) :: o.pars.map (fun p => (p, 3)) by simp [linksL, hk])
  generalize linksL o = M at HM
  have C0 := Lib.hid (show cs[0]? = some (.int .i64 3) by rw [h.F.c0, hk])
  have c0 := C0.out
  have C35 := Lib.hid h.F.c35
  have HP := Lib.hid h.P
  have HD := Lib.hid h.pid
  have HT := Lib.hid h.F.trl
  have RT := Lib.hid (h.F.rtr (heap_alloc_last w (.cells cs 28)))
  have K0 := Kp.box w cs 28
  have hown : OwnL (w.alloc (.cells cs 28)) (w.heap.size + 1) (.slice none 0 0) [] := World.ownsRow_nil _ _ _ _
  obtain ⟨i0, hi, hz0, hz1, hz2⟩ := info_parts infoLk
  clear h hk
  go_enter Try.func10, Try.ntmps10
  go_wp2_with (first
    | ((with_reducible refine ld_idm (x := .tmp 36) ?_ ?_ ?_ RT.out HT.out ?_); rfl; rfl; rfl)
    | ((with_reducible refine bd_lk (x := .tmp 37) (y := .const (.int .i64 2)) (k := 2) ?_ ?_ ?_ ?_ HT.out ?_); rfl; rfl; rfl; rfl)
    | ((with_reducible refine bs_lk (x := .tmp 38) (k := 2) ?_ ?_ ?_ HT.out ?_); rfl; rfl; rfl)
    | (at_builtin; refine wpList_append_own _ rfl _ _ 36 rfl (w.heap.size + 1) 52 i0 (.agg (lkC (zId, 0)).toArray) 33 40 Try.underlying36 hi hz0 hz1 hz2 (by decide) (by decide) _ _ _ rfl (World.ownsRow.alloc hown _) ⟨_, 0, none⟩ 1 1 (lkC (o.tree, 2)) rfl ?a1 ?a2 ?a3 ?a4 ?a5 ?a6 ?_))
  case a1 => rw [lkC_length]; exact congrArg (· + 1) HT.out
  case a2 => exact news_row (heap_alloc_last _ _)
  case a3 => exact lkC_one _
  case a4 => unfold maxLen; first | omega | (simp; done) | (simp; omega)
  case a5 => first | omega | (simp; done) | (simp; omega)
  case a6 => first | omega | (simp; done) | (simp; omega)
  intro v' w1 hown' hgrow _
  have hK1 := (Array.getElem?_eq_some_iff.1 K0.held).1
  have K1 : Kp w cs 28 w1 := ⟨((K0.below.alloc K0.below.size _).grown hgrow (by have := K0.below.size; simp; omega) (fun q hq => Nat.le_of_succ_le ((World.ownsRow.lt hown q hq).1))), by rw [hgrow.block w.heap.size (by simp; omega) (own_ne hown (by omega))]; exact (Lib.alloc_old _ _ _ hK1).trans K0.held⟩
  have HO2 := Lib.hid (own_push (ls := []) (l := (o.tree, 2)) hown')
  clear hgrow hown' hown K0 RT hK1
  go_wp2
  go_loopw [3, 5] (fun v i wr => ∃ (k : Nat) (acc : List (List UInt8 × Int)), k ≤ o.pars.length ∧ i = .int .i64 k ∧ Hid (acc = (o.tree, 2) :: (o.pars.take k).map fun p => (p, 3)) ∧ OwnL wr (w.heap.size + 1) v acc ∧ Kp w cs 28 wr) (fun _ i _ => o.pars.length - (intOf i).toNat)
  case atStart => exact ⟨0, _, by omega, rfl, rfl, HO2.out, K1⟩
  case round =>
    clear K1 HO2
    obtain ⟨k, acc, hk, rfl, HA, hown, K1⟩ := hrel
    have hal : acc.length ≤ 101 := by rw [HA.out, List.length_cons, List.length_map, List.length_take]; omega
    have c35 := K1.cell C35.out
    by_cases hlt : k < o.pars.length
    · have hlt' : (k : Int) < (o.pars.length : Int) := by omega
      obtain ⟨e, he⟩ : ∃ e, o.pars[k]? = some e := ⟨o.pars[k], List.getElem?_eq_getElem hlt⟩
      obtain ⟨a, rfl, hc⟩ := par_cells (HP.out.below K1.below) k e he
      have HC := Lib.hid hc
      have HL := Lib.hid (HD.out e (List.mem_of_getElem? he))
      have HK := Lib.hid he
      clear hc he
      go_wp2_with (first
        | ((with_reducible refine ld_id (x := .tmp 52) (p := a.add (k * 32)) ?_ ?_ ?_ HC.out HL.out ?_); rfl; rfl; rfl)
        | ((with_reducible refine bd_lk (x := .tmp 53) (y := .const (.int .i64 3)) (k := 3) ?_ ?_ ?_ ?_ HL.out ?_); rfl; rfl; rfl; rfl)
        | ((with_reducible refine bs_lk (x := .tmp 54) (k := 3) ?_ ?_ ?_ HL.out ?_); rfl; rfl; rfl)
        | (at_builtin; refine wpList_append_own _ rfl _ _ 36 rfl (w.heap.size + 1) 52 i0 (.agg (lkC (zId, 0)).toArray) 33 40 Try.underlying36 hi hz0 hz1 hz2 (by decide) (by decide) _ _ _ rfl (World.ownsRow.alloc hown _) ⟨_, 0, none⟩ 1 1 (lkC (e, 3)) rfl ?b1 ?b2 ?b3 ?b4 ?b5 ?b6 ?_))
      case b1 => rw [lkC_length]; exact congrArg (· + 1) HL.out
      case b2 => exact news_row (heap_alloc_last _ _)
      case b3 => exact lkC_one _
      case b4 => unfold maxLen; first | omega | (simp; omega)
      case b5 => first | omega | (simp; omega)
      case b6 => have := (Array.getElem?_eq_some_iff.1 K1.held).1; simp; omega
      intro v' w2 hown' hgrow _
      have hK1 := (Array.getElem?_eq_some_iff.1 K1.held).1
      have K2 : Kp w cs 28 w2 := ⟨((K1.below.alloc K1.below.size _).grown hgrow (by have := K1.below.size; simp; omega) (fun q hq => Nat.le_of_succ_le ((World.ownsRow.lt hown q hq).1))), by rw [hgrow.block w.heap.size (by simp; omega) (own_ne hown (by omega))]; exact (Lib.alloc_old _ _ _ hK1).trans K1.held⟩
      have HO2 := Lib.hid (own_push hown')
      have HA2 := Lib.hid (show acc ++ [(e, 3)] = (o.tree, 2) :: (o.pars.take (k + 1)).map fun p => (p, 3) by rw [take_map_succ _ _ _ _ HK.out, HA.out]; rfl)
      clear hown hgrow hown' hK1
      go_wp2
      go_roundw
      case rel => exact ⟨k + 1, _, by omega, by go_num, HA2, HO2.out, K2⟩
      case measure => simp [intOf]; omega
    · have HT2 := Lib.hid (show acc = M by rw [HA.out, HM.out, List.take_of_length_le (by omega)])
      rw [HT2.out] at hown
      have c0' := K1.cell C0.out
      go_wp2
      go_ret
      exact ⟨_, rfl, own_le hown (by omega), K1.below⟩

theorem reflinks_any (cs : Array Value) (o : Ob) (ao bo : Option Addr) (ca cb : Nat) (w : World) (h : ObAt w cs o ao bo ca cb) (he : o.ents.length ≤ 100) (hp : o.pars.length ≤ 100) :
    Calls Try.prog 10 #[.agg cs] w fun r w' => ∃ v, r = .returned v ∧ OwnL w' w.heap.size v (linksL o) ∧ Below w.heap.size w w' := by
  by_cases h2 : o.kind = 2
  · exact reflinks_tree cs o ao bo ca cb w h he h2
  by_cases h3 : o.kind = 3
  · exact reflinks_commit cs o ao bo ca cb w h hp h3
  by_cases h4 : o.kind = 4
  · exact reflinks_tag cs o ao bo ca cb w h h4
  · exact reflinks_none cs o ao bo ca cb w h h2 h3 h4
end Go.Proofs.Ytmeancbpcjjfmaa
