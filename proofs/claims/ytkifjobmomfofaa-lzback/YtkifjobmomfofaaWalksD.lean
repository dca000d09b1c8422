/-
  WALKS OF LAYER 5: appendTo, produce.
-/
import Derived.Test.YtkifjobmomfofaaWalksC
import Derived.Lib.AppendStr
import Derived.Deep.Heap
namespace Go.Proofs.Ytkifjobmomfofaa
open Go.RowKit
set_option linter.unusedVariables false

theorem strCells_list (s : ByteArray) : Lib.strCells s = cellsOf s.data.toList := by simp [Lib.strCells, cellsOf]
theorem cellsOf_append (a b : List UInt8) : cellsOf a ++ cellsOf b = cellsOf (a ++ b) := by simp [cellsOf]

/-- A call that gave back a row of bytes, its own or of the caller's. -/
def Rowed (base : Nat) (w : World) (acc : List UInt8) (r : Ending) (w' : World) : Prop :=
  ∃ v, r = .returned v ∧ w'.ownsRow base 5 1 v acc.length (cellsOf acc) ∧ Below base w w'

theorem own_ne {w : World} {base e n b t : Nat} {v : Value} {xs : List Value} {cs : Array Value} {fr : Nat × Nat} (h : w.ownsRow base e 1 v n xs) (hb : w.heap[b]? = some (.cells cs t fr)) (ht : t ≠ e) : some b ≠ v.ownBlock := by
  rcases h.2 with ⟨rfl, _⟩ | ⟨g, cap, cur, rfl, _, hh, _⟩
  · simp [Value.ownBlock]
  · intro e1
    simp only [Value.ownBlock, Option.some.injEq] at e1
    subst e1
    rw [hh] at hb
    simp at hb
    exact ht hb.2.1.symm

set_option maxHeartbeats 800000 in
set_option maxRecDepth 100000 in
theorem appendTo_lit (c : Nat) (la : ByteArray) (v : Value) (acc : List UInt8) (base : Nat) (w : World) (hbase : base ≤ w.heap.size) (hown : w.ownsRow base 5 1 v acc.length (cellsOf acc)) (hl : acc.length + la.size ≤ 140737488355328) :
    Calls Try.prog 23 #[stV c la 0, v] w (Rowed base w (acc ++ la.data.toList)) := by
  obtain ⟨i0, hi, hz0, hz1, hz2⟩ := info_parts Try.infoByte
  unfold stV
  go_enter Try.func23, Try.ntmps23
  go_wp2_with (at_builtin; refine Lib.wpList_append_own_string _ rfl _ _ 36 9 rfl base 5 i0 Try.underlying36 Try.underlying9 hi hz0 hz1 hz2 _ _ _ rfl (hown.alloc _) la rfl ?c1 ?c2 ?c3 ?_)
  case c1 => unfold maxLen; omega
  case c2 => omega
  case c3 => simp; omega
  intro v' w1 hown' hgrow _
  rw [strCells_list, cellsOf_append] at hown'
  have hb' : Below base w w1 := ((Below.refl base w).alloc hbase _).grown hgrow (by simp; omega) (fun k hk => (hown.lt k hk).1)
  go_wp2_with fail
  go_ret
  exact ⟨v', rfl, by simpa using hown', hb'⟩

theorem copy_back (f c j : Nat) (acc1 : List UInt8) (h : j < c) : Lz.copy f (c - j) acc1 = Lz.copy f (c - (j + 1)) (acc1 ++ [acc1.getD (acc1.length - f) 0]) := by
  rw [show c - j = (c - (j + 1)) + 1 by omega]; rfl

set_option maxHeartbeats 800000 in
set_option maxRecDepth 100000 in
theorem appendTo_match (c f : Nat) (la : ByteArray) (v : Value) (acc : List UInt8) (base : Nat) (w : World) (hbase : base ≤ w.heap.size) (hown : w.ownsRow base 5 1 v acc.length (cellsOf acc)) (hl : acc.length + c ≤ 140737488355328) (hf1 : 1 ≤ f) (hf2 : f ≤ acc.length) :
    Calls Try.prog 23 #[stV c la f, v] w (Rowed base w (Lz.copy f c acc)) := by
  obtain ⟨i0, hi, hz0, hz1, hz2⟩ := info_parts Try.infoByte
  unfold stV
  have hf0 : ((f : Int) == 0) = false := beq_eq_false_iff_ne.2 (by omega)
  go_enter Try.func23, Try.ntmps23
  go_wp2_with fail
  go_loopw [1, 14] (fun o i wr => ∃ (j : Nat) (acc1 : List UInt8), i = .int .u64 j ∧ j ≤ c ∧ acc1.length ≤ acc.length + j ∧ acc.length + j ≤ acc1.length ∧ Hid (Lz.copy f c acc = Lz.copy f (c - j) acc1) ∧ wr.ownsRow base 5 1 o acc1.length (cellsOf acc1) ∧ Below base w wr ∧ w.heap.size + 1 ≤ wr.heap.size ∧ Hid (wr.heap[w.heap.size]? = some (.cells #[.int .u64 c, .string la, .int .i64 f] 51))) (fun _ i _ => c - (intOf i).toNat)
  case atStart => exact ⟨0, acc, rfl, Nat.zero_le _, Nat.le_refl _, Nat.le_refl _, rfl, hown.alloc _, (Below.refl base w).alloc hbase _, by simp, Deep.blk_alloc_new _ _⟩
  case round =>
    obtain ⟨j, acc1, rfl, hj, hl1, hl2, HC, hown1, hb, hsz, HB⟩ := hrel
    clear hown
    by_cases hlt : j < c
    · obtain ⟨g, cap, rfl, hnl, hg, hcells⟩ := own_bytes hown1 (by omega)
      have hidx : acc1.length - f < acc1.length := by omega
      have hcell := hcells (acc1.length - f) hidx
      rw [show ((⟨g, 0, none⟩ : Addr).add (acc1.length - f)) = ⟨g, acc1.length - f, none⟩ by simp [Addr.add]; omega] at hcell
      have hgd := Lz.getD_at acc1 (acc1.length - f) hidx
      rw [← hgd] at hcell
      have HC1 := Lib.hid (HC.out.trans (copy_back f c j acc1 hlt))
      generalize hbb : acc1.getD (acc1.length - f) 0 = b at *
      have hbf : wr.cell? ⟨w.heap.size, 2, none⟩ = some (.int .i64 f) := by rw [cell_of_row wr _ 2 _ _ _ HB.out]; rfl
      have hne := own_ne hown1 HB.out (by decide)
      have HNE := Lib.hid hne
      have hlow := hown1.lt
      have HLOW := Lib.hid hlow
      clear hnl hcells hgd hbb hidx hne hlow HC
      go_wp2_with (at_builtin; refine wpList_append_own _ rfl _ _ 36 rfl base 5 i0 (.int .u8 0) 1 1 Try.underlying36 hi hz0 hz1 hz2 rfl (by decide) _ _ _ rfl (hown1.alloc _) ⟨wr.heap.size, 0, none⟩ 1 1 [.int .u8 (b.toNat : Int)] rfl rfl ?c1 ?c2 ?c3 ?c4 ?c5 ?_)
      case c1 => exact cell_one_new _ _ _
      case c2 => intro u hu; simp at hu; subst hu; rfl
      case c3 => unfold maxLen; omega
      case c4 => omega
      case c5 => simp; omega
      intro v' w1 hown' hgrow _
      rw [cellsOf_snoc acc1 _ _ rfl] at hown'
      have hb' : Below base w w1 := (hb.alloc (by omega) _).grown hgrow (by simp; omega) (fun k hk => (HLOW.out k hk).1)
      have hbx : w1.heap[w.heap.size]? = some (.cells #[.int .u64 c, .string la, .int .i64 f] 51) := by
        rw [hgrow.block w.heap.size (by simp; omega) HNE.out, Deep.blk_alloc_lt _ _ _ (by omega)]; exact HB.out
      have hs1 : w.heap.size + 1 ≤ w1.heap.size := by have := hgrow.size; simp at this; omega
      have HBX := Lib.hid hbx
      clear hown1 hgrow hb hbx HB hbf hcell
      go_wp2_with fail
      exact ⟨⟨j + 1, acc1 ++ [b], by go_num, by omega, by simp; omega, by simp; omega, HC1.out, by simpa using hown', hb', hs1, HBX⟩, by simp [intOf]; omega⟩
    · obtain rfl : j = c := by omega
      go_wp2_with fail
      go_ret
      have e := HC.out
      rw [Nat.sub_self] at e
      rw [show Lz.copy f j acc = acc1 from e]
      exact ⟨_, rfl, hown1, hb⟩

theorem appendTo_any (l : List UInt8) (c f h : Nat) (la : ByteArray) (v : Value) (acc : List UInt8) (base : Nat) (w : World) (hst : Lz.stp l acc.length = some (c, f, h)) (hla : la.data.toList = litL l c f h) (hbase : base ≤ w.heap.size) (hown : w.ownsRow base 5 1 v acc.length (cellsOf acc)) (hl : acc.length + c ≤ 140737488355328) :
    Calls Try.prog 23 #[stV c la f, v] w (Rowed base w (Lz.emit l acc c f h)) := by
  have hb := Lz.stp_bd hst
  unfold Lz.emit
  unfold litL at hla
  by_cases hf : f = 0
  · subst hf
    rw [if_pos rfl] at hla ⊢
    rw [← hla]
    have hs := size_list la
    have hlen : la.data.toList.length ≤ c := by rw [hla]; exact List.length_take_le _ _
    exact appendTo_lit c la v acc base w hbase hown (by omega)
  · rw [if_neg hf]
    exact appendTo_match c f la v acc base w hbase hown hl (by omega) (by omega)

theorem ret_bytes {w : World} {base : Nat} {v : Value} {l : List UInt8} (h : w.ownsRow base 5 1 v l.length (cellsOf l)) : (convert 36 9 v).run Try.prog w = .ok (.string ⟨l.toArray⟩) w := by
  rcases h.2 with ⟨rfl, h0⟩ | ⟨g, cap, cur, rfl, _⟩
  · obtain rfl : l = [] := List.eq_nil_of_length_eq_zero h0
    simp [convert, run_underlying Try.underlying36, run_underlying Try.underlying9, run_underlying Try.underlying5, Conv.bytesToString, go_sem]
    rfl
  · exact run_convert_bytes_back (P := Try.prog) w 36 9 5 ⟨g, 0, none⟩ cap l Try.underlying36 Try.underlying5 Try.underlying9 (fun j hj => by
      refine h.cells (by rfl) j _ ?_
      simp [cellsOf, hj])

theorem own_below {w w' : World} {B e n : Nat} {v : Value} {xs : List Value} (h : w.ownsRow B e 1 v n xs) (hb : Below w.heap.size w w') : w'.ownsRow B e 1 v n xs := by
  refine ⟨h.1, h.2.imp id ?_⟩
  rintro ⟨g, cap, cur, hv, hg, hh, hrest⟩
  have hlt : g < w.heap.size := (Array.getElem?_eq_some_iff.1 hh).1
  exact ⟨g, cap, cur, hv, hg, (hb.block g hlt).trans hh, hrest⟩

theorem own_slice {w : World} {base e n : Nat} {v : Value} {xs : List Value} (h : w.ownsRow base e 1 v n xs) : ∃ p cap, v = .slice p n cap := by
  rcases h.2 with ⟨rfl, rfl⟩ | ⟨g, cap, cur, rfl, _⟩
  · exact ⟨_, _, rfl⟩
  · exact ⟨_, _, rfl⟩

set_option maxHeartbeats 800000 in
set_option maxRecDepth 100000 in
theorem produce_any (s : ByteArray) (most t : Nat) (w : World) (hs : s.size ≤ maxLen) (hm : most ≤ 4294967296) (R : List UInt8) (hM : Lz.mesF most s.size s.data.toList 0 = (0, t)) (hR : Lz.proF s.size s.data.toList [] = R) :
    Calls Try.prog 17 #[.string s, .int .i64 t] w fun r w' => r = .returned (.string ⟨R.toArray⟩) ∧ Below w.heap.size w w' := by
  obtain ⟨i0, hi, hz0, hz1, hz2⟩ := info_parts Try.infoByte
  have htm : t ≤ most := by have := (Lz.mes_le most s.size s.data.toList 0 (Nat.zero_le _)).1; rw [hM] at this; exact this
  have HR := Lib.hid hR
  have HM := Lib.hid hM
  clear hR hM
  go_enter Try.func17, Try.ntmps17
  go_wp2_with (refine wpList_make_own _ rfl _ _ 36 rfl w.heap.size 5 i0 (.int .u8 0) 1 Try.underlying36 hi hz0 hz1 .i64 .i64 (t : Int) t rfl rfl rfl ?c1 ?c2 ?c3 ?_)
  case c1 => rw [hz2]; omega
  case c2 => unfold maxLen; omega
  case c3 => exact Nat.le_refl _
  intro w1 hown hgrow
  have hb0 : Below w.heap.size w w1 := (Below.refl _ _).grown hgrow (Nat.le_refl _) (fun k hk => by cases hk)
  clear hgrow
  go_wp2_with fail
  go_loopw [0, 5] (fun d o wr => ∃ (x : ByteArray) (acc : List UInt8) (k : Nat), d = .string x ∧ x.size ≤ k ∧ x.size ≤ s.size ∧ Hid (Lz.mesF most k x.data.toList acc.length = (0, t)) ∧ Hid (Lz.proF k x.data.toList acc = R) ∧ acc.length ≤ most ∧ wr.ownsRow w.heap.size 5 1 o acc.length (cellsOf acc) ∧ Below w.heap.size w wr) (fun d _ _ => strSize d)
  case atStart => exact ⟨s, [], s.size, rfl, Nat.le_refl _, Nat.le_refl _, HM, HR, Nat.zero_le _, hown, hb0⟩
  case round =>
    obtain ⟨x, acc, k, rfl, hk, hxs, HM1, HR1, hal, hown1, hb⟩ := hrel
    clear HR HM hown hb0
    by_cases hx : x = ByteArray.empty
    · subst hx
      have hr := HR1.out
      rw [show ByteArray.empty.data.toList = [] from rfl, Lz.proF_nil] at hr
      subst hr
      clear HR1 HM1
      have hcv := ret_bytes hown1
      clear hown1
      go_wp2_with fail
      go_ret
      exact ⟨rfl, hb⟩
    · have hx0 := list_ne hx
      have hxz := size_ne hx
      have hxe := not_empty hx
      have hkl : x.data.toList.length ≤ k := by rw [size_list]; exact hk
      have hbs := hb.size
      cases hst : Lz.stp x.data.toList acc.length with
      | none =>
        have hr := HM1.out
        rw [Lz.mesF_bad hx0 hkl hst] at hr
        cases hr
      | some p =>
        obtain ⟨c, f, h⟩ := p
        have hsb := Lz.stp_bd hst
        have hd0 := Lz.drop_lt hst
        by_cases hmo : most < acc.length + c
        · have hr := HM1.out
          rw [Lz.mesF_most hx0 hkl hst hmo] at hr
          cases hr
        · obtain ⟨k, rfl⟩ : ∃ k', k = k' + 1 := ⟨k - 1, by omega⟩
          have hr := HR1.out
          rw [Lz.proF_step hx0 hst] at hr
          have HR2 := Lib.hid hr
          have hr2 := HM1.out
          rw [Lz.mesF_step hx0 hst hmo, ← Lz.emit_length (l := x.data.toList) (out := acc) hst] at hr2
          have HM2 := Lib.hid hr2
          have HE := Lib.hid (Lz.emit_length (l := x.data.toList) (out := acc) hst)
          have HS := Lib.hid hst
          have hd1 := hd0 k hkl
          clear HM1 HR1 hst hd0 hr hr2
          obtain ⟨pa, cap, rfl⟩ := own_slice hown1
          go_wp2_with fail
          refine (takeStep_ok x acc.length _ (by omega) (by omega) c f h HS.out).mono ?_
          rintro e w2 ⟨la, lb, ha, hbb, rfl, hb2⟩
          have hlz := size_list lb
          rw [hbb] at hlz
          have HBB := Lib.hid hbb
          have HA := Lib.hid ha
          clear ha hbb
          unfold stV
          have hlt : lb.size < x.size := by
            rw [← hlz, List.length_drop, size_list]
            have : 1 ≤ Lz.used c f h := by unfold Lz.used; split <;> omega
            omega
          have hlk : lb.size ≤ k := by omega
          have hs2 := hb2.size
          have hown2 := own_below hown1 hb2
          clear hlz hd1 hown1
          go_wp2_with fail
          refine (appendTo_any x.data.toList c f h la _ acc w.heap.size _ HS.out HA.out (by simp; omega) (hown2.alloc _) (by omega)).mono ?_
          rintro e w3 ⟨v3, rfl, hown3, hb3⟩
          go_wp2_with fail
          have hel := HE.out
          exact ⟨⟨lb, Lz.emit x.data.toList acc c f h, k, rfl, hlk, by omega, by rw [HBB.out]; exact HM2.out, by rw [HBB.out]; exact HR2.out, by omega, hown3, ((below_step hb hb2).alloc (Nat.le_trans hbs hs2) _).trans hb3⟩, by simp [strSize]; omega⟩

end Go.Proofs.Ytkifjobmomfofaa
