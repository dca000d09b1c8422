/-
  WALKS OF LAYER 9: Fine, of the program and of the document.
-/
import Derived.Test.YtkdljagcdaphdaaWalksB
namespace Go.Proofs.Ytkdljagcdaphdaa
open Go.RowKit
set_option linter.unusedVariables false
set_option linter.unusedSimpArgs false

theorem ldg_idm {ops : Array Oper} {rest : List Oper} {op : Oper} {a : Act} {w : World} {Q : Exit → Act → World → Prop} {x : Operand} {l : List UInt8} {b o : Nat} (ho : op.op = .load 35 x) (hx : a.eval x = .pointer (some ⟨b, o, none⟩)) (hw : Region.wanted op (yielded ops a.tmps) = true) (hc : w.rangeAt b o (idC l)) (hl : l.length = 32)
    (h : wpList Try.prog ops Q rest (a.put op.dst (.agg (idC l).toArray)) w) : wpList Try.prog ops Q (op :: rest) a w :=
  wpList_load_mid_g hw 35 x ho b o hx _ _ hc Try.underlying35 rfl (idsize hl) h
theorem bdg_zid {ops : Array Oper} {rest : List Oper} {o : Oper} {a : Act} {w : World} {Q : Exit → Act → World → Prop} (ho : o.op = .build 35 #[]) (hw : Region.wanted o (yielded ops a.tmps) = true)
    (h : wpList Try.prog ops Q rest (a.put o.dst (.agg (idC Rf.zid).toArray)) w) : wpList Try.prog ops Q (o :: rest) a w :=
  wpList_step fun K hK => by
    rw [if_pos hw]
    unfold Oper.wp execOp
    simp only [ho, Sem.run_bind, run_program, Result.andThen_ok, List.map_toArray, List.map_nil, built_zid]
    exact hK _ _ h
theorem rf_rid {r : Rf.R} {w : World} {g : Nat} {t : TypeId} (h : w.heap[g]? = some (.cells (rfC r).toArray t)) : w.rangeAt g 1 (idC r.id) := fun j v hv => by
  rw [cell_of_row _ _ _ _ t (0, 0) h]
  simp only [rfC, List.getElem?_toArray]
  rw [show 1 + j = j + 1 by omega, List.getElem?_cons_succ]
  exact hv
theorem mid_rid {w : World} {a : Addr} {n : Nat} {r : Rf.R} (h : ∀ j x, (rfC r)[j]? = some x → w.cell? ((a.add n).add j) = some x) : w.rangeAt a.block (a.off + n + 1) (idC r.id) := fun j v hv => by
  have := rf_id h j v hv
  rw [add_add_mid a n 1 (by decide), Addr.add_mid] at this
  exact this
/-- The name ahead. -/
def lastN (L : List Rf.R) : Nat → Option ByteArray
  | 0 => none
  | k + 1 => (L[k]?).map Rf.R.name
theorem fine_step {L : List Rf.R} {k : Nat} {e : Rf.R} (he : L[k]? = some e) : Rf.fineF (lastN L k) (L.drop k) = (Rf.okr e && Rf.aft (lastN L k) e.name && Rf.fineF (lastN L (k + 1)) (L.drop (k + 1))) := by
  obtain ⟨hk, rfl⟩ := List.getElem?_eq_some_iff.1 he
  rw [List.drop_eq_getElem_cons hk]
  simp [Rf.fineF, lastN, List.getElem?_eq_getElem hk]

set_option maxHeartbeats 1000000 in
set_option maxRecDepth 100000 in
theorem fine_any (v : Value) (L : List Rf.R) (w : World) (hL : RefsAt w v L) (hn : ∀ r ∈ L, r.name.size ≤ maxLen) (hl : L.length ≤ maxLen) :
    Calls Try.prog 11 #[v] w fun r w' => r = .returned (.bool (Rf.fine L)) ∧ Below w.heap.size w w' := by
  obtain ⟨ao, cap, rfl⟩ := hL.form
  unfold maxLen at hl
  have HL := Lib.hid hL
  have HN := Lib.hid hn
  clear hL hn
  by_cases h64 : L.length ≤ 64
  · have h64' : ¬ (64 : Int) < (L.length : Int) := by omega
    have HZ := Lib.hid (show Rf.fine L = Rf.fineF none L by unfold Rf.fine; simp [h64])
    generalize Rf.fine L = z at HZ
    go_enter Try.func11, Try.ntmps11
    go_wp2_with fail
    go_loopw [10] (fun i wr => ∃ (k : Nat), k ≤ L.length ∧ i = .int .i64 k ∧ Hid (z = Rf.fineF (lastN L k) (L.drop k)) ∧ Below w.heap.size w wr) (fun i _ => L.length - (intOf i).toNat)
    case atStart => exact ⟨0, by omega, rfl, HZ.out, Below.refl _ _⟩
    case round =>
      obtain ⟨k, hk, rfl, HE, hb⟩ := hrel
      by_cases hlt : k < L.length
      · have hlt' : (k : Int) < (L.length : Int) := by omega
        have hk0 : (0 : Int) ≤ (k : Int) := by omega
        obtain ⟨e, he⟩ : ∃ e, L[k]? = some e := ⟨L[k], List.getElem?_eq_getElem hlt⟩
        obtain ⟨a, rfl, hid, hc⟩ := (HL.out.below hb).elem k e he
        have HC := Lib.hid hc
        have HD := Lib.hid hid
        have HS := Lib.hid (HE.out.trans (fine_step he))
        have n0 : (rfC e)[0]? = some (.string e.name) := rfl
        have HNM := Lib.hid (fun W => name_any e.name W (HN.out e (List.mem_of_getElem? he)))
        have HB1 := Lib.hid (hb.alloc hb.size (.cells (rfC e).toArray 54))
        have HR1 := Lib.hid (rf_rid (heap_alloc_new wr (.cells (rfC e).toArray 54)))
        have HIN := Lib.hid (fun W => isNone_any e.id W hid)
        have HOK := Lib.hid (show Rf.okr e = (Rf.nameOk e.name && !decide (e.id = Rf.zid)) from rfl)
        have hbs := hb.size
        clear hc hid
        cases hnm : Rf.nameOk e.name with
        | false =>
          rw [hnm] at HNM HOK
          have HZ2 := Lib.hid (show z = false by rw [HS.out, HOK.out]; rfl)
          clear hnm HS HOK he
          go_wp2_with (first
            | (go_at_call 18; ((with_reducible refine (HNM.out _).mono ?_); rintro r wx ⟨rfl, rfl⟩))
            | ((with_reducible apply ld_rf (hc := HC.out) (hid := HD.out)); rfl; rfl; rfl)
            | ((with_reducible apply st_rf (hid := HD.out)); rfl; rfl; rfl; rfl; rfl))
          go_ret
          exact ⟨ret_bool HZ2.out.symm, HB1.out⟩
        | true =>
          rw [hnm] at HNM HOK
          cases hid0 : decide (e.id = Rf.zid) with
          | true =>
            rw [hid0] at HIN HOK
            have HZ2 := Lib.hid (show z = false by rw [HS.out, HOK.out]; rfl)
            clear hnm HS HOK he hid0
            go_wp2_with (first
              | (go_at_call 18; ((with_reducible refine (HNM.out _).mono ?_); rintro r wx ⟨rfl, rfl⟩))
              | (go_at_call 26; ((with_reducible refine (HIN.out _).mono ?_); rintro r wx ⟨rfl, hbx⟩))
              | ((with_reducible apply ld_rf (hc := HC.out) (hid := HD.out)); rfl; rfl; rfl)
              | ((with_reducible apply st_rf (hid := HD.out)); rfl; rfl; rfl; rfl; rfl)
              | ((fail_if_success (fail_if_success go_guarded)); (with_reducible refine ldg_idm (x := .tmp 20) ?_ ?_ ?_ HR1.out HD.out ?_); rfl; rfl; kernel_rfl))
            go_ret
            exact ⟨ret_bool HZ2.out.symm, HB1.out.trans (hbx.mono (by simp; omega))⟩
          | false =>
            rw [hid0] at HIN HOK
            have HBX := Lib.hid (cell_of_row (wr.alloc (.cells (rfC e).toArray 54)) wr.heap.size 0 _ _ (0, 0) (heap_alloc_new wr (.cells (rfC e).toArray 54)))
            clear hnm hid0
            rcases Nat.eq_zero_or_pos k with hkz | hkp
            · have HS2 := Lib.hid (show z = Rf.fineF (lastN L (k + 1)) (L.drop (k + 1)) by rw [HS.out, HOK.out, hkz]; rfl)
              have g1 : decide ((0 : Int) < (k : Int)) = false := by simp; omega
              have g2 : decide (0 < k) = false := by simp; omega
              have g3 : ¬ (0 : Int) < (k : Int) := by omega
              clear HS he hkz
              go_wp2_with (first
                | (go_at_call 18; ((with_reducible refine (HNM.out _).mono ?_); rintro r wx ⟨rfl, rfl⟩))
                | (go_at_call 26; ((with_reducible refine (HIN.out _).mono ?_); rintro r wx ⟨rfl, hbx⟩))
                | ((with_reducible apply ld_rf (hc := HC.out) (hid := HD.out)); rfl; rfl; rfl)
                | ((with_reducible apply st_rf (hid := HD.out)); rfl; rfl; rfl; rfl; rfl)
                | ((fail_if_success (fail_if_success go_guarded)); (with_reducible refine ldg_idm (x := .tmp 20) ?_ ?_ ?_ HR1.out HD.out ?_); rfl; rfl; kernel_rfl))
              go_quiet (fail)
              go_wp2_with fail
              go_roundw
              case rel => exact ⟨k + 1, by omega, by go_num, HS2, below_drewN (HB1.out.trans (hbx.mono (by simp; omega))) _⟩
              case measure => simp [intOf]; omega
            · obtain ⟨j, hj⟩ : ∃ j, k = j + 1 := ⟨k - 1, by omega⟩
              obtain ⟨p, hp⟩ : ∃ p, L[j]? = some p := ⟨L[j], List.getElem?_eq_getElem (by omega)⟩
              have HS2 := Lib.hid (show z = (Op.bytesLess p.name.toList e.name.toList && Rf.fineF (lastN L (k + 1)) (L.drop (k + 1))) by
                have hla : lastN L k = some p.name := by rw [hj]; simp [lastN, hp]
                rw [HS.out, HOK.out, hla]; rfl)
              have HC2 := Lib.hid (fun W (q : Below w.heap.size w W) => (by
                obtain ⟨a', e', h'⟩ := (HL.out.below q).name j p hp
                cases e'
                exact h' : W.cell? (a.add (j * 33)) = some (.string p.name)))
              have g1 : decide ((0 : Int) < (k : Int)) = true := by simp; omega
              have g2 : decide (0 < k) = true := by simp; omega
              have g3 : (0 : Int) < (k : Int) := by omega
              have g4 : (0 : Int) ≤ (j : Int) := by omega
              have g5 : (j : Int) < (L.length : Int) := by omega
              have HJ := Lib.hid (show (k : Int) - 1 = (j : Int) by omega)
              clear HS he hp hj
              go_wp2_with (first
                | (go_at_call 18; ((with_reducible refine (HNM.out _).mono ?_); rintro r wx ⟨rfl, rfl⟩))
                | (go_at_call 26; ((with_reducible refine (HIN.out _).mono ?_); rintro r wx ⟨rfl, hbx⟩))
                | ((with_reducible apply ld_rf (hc := HC.out) (hid := HD.out)); rfl; rfl; rfl)
                | ((with_reducible apply st_rf (hid := HD.out)); rfl; rfl; rfl; rfl; rfl)
                | ((fail_if_success (fail_if_success go_guarded)); (with_reducible refine ldg_idm (x := .tmp 20) ?_ ?_ ?_ HR1.out HD.out ?_); rfl; rfl; kernel_rfl))
              have HBW := Lib.hid (HB1.out.trans (hbx.mono (show w.heap.size ≤ _ by simp; omega)))
              have c1 := HC2.out _ HBW.out
              have c2 : wx.cell? ⟨wr.heap.size, 0, none⟩ = some (.string e.name) := by rw [hbx.cell (by simp)]; exact HBX.out
              have g6 := HJ.out
              have g7 : IntKind.i64.wrap ((k : Int) - 1) = (j : Int) := by rw [g6]; exact IntWalk.i64_in _ (by omega)
              cases hbl : Op.bytesLess p.name.toList e.name.toList with
              | true =>
                have HS3 := Lib.hid (show z = Rf.fineF (lastN L (k + 1)) (L.drop (k + 1)) by rw [HS2.out, hbl]; rfl)
                go_quiet (fail)
                go_wp2_with fail
                go_roundw
                case rel => exact ⟨k + 1, by omega, by go_num, HS3, below_drewN HBW.out _⟩
                case measure => simp [intOf]; omega
              | false =>
                have HS3 := Lib.hid (show z = false by rw [HS2.out, hbl]; rfl)
                go_quiet (fail)
                go_wp2_with fail
                go_ret
                exact ⟨ret_bool HS3.out.symm, below_drewN HBW.out _⟩
      · have HS := Lib.hid (show z = true by rw [HE.out, List.drop_of_length_le (by omega)]; rfl)
        go_wp2_with fail
        go_ret
        exact ⟨ret_bool HS.out.symm, hb⟩
  · have h64' : (64 : Int) < (L.length : Int) := by omega
    have HS := Lib.hid (show Rf.fine L = false by unfold Rf.fine; simp [h64])
    generalize Rf.fine L = z at HS
    go_enter Try.func11, Try.ntmps11
    go_wp2_with fail
    go_ret
    exact ⟨ret_bool HS.out.symm, Below.refl _ _⟩

end Go.Proofs.Ytkdljagcdaphdaa
