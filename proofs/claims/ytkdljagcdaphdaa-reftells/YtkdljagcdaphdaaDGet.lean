/-
  WALKS OF LAYER 9: the document's Get.
-/
import Derived.Test.YtkdljagcdaphdaaDPut
import Derived.Test.YtkdljagcdaphdaaGetW
import Derived.Test.YtkdljagcdaphdaaWalksD
namespace Go.Proofs.Ytkdljagcdaphdaa
open Go.RowKit
set_option linter.unusedVariables false
set_option linter.unusedSimpArgs false

/-- What the document's Get answers. -/
def DGetP (s : List UInt8) (w : World) (r : Ending) (w' : World) : Prop :=
  (∃ L v, Rf.Is s L ∧ RefsAt w' v L ∧ r = .returned (.tuple #[v, .bool true]) ∧ Below w.heap.size w w') ∨ ((∀ L, ¬ Rf.Is s L) ∧ r = .returned (.tuple #[.slice none 0 0, .bool false]) ∧ Below w.heap.size w w')
theorem ext_mid (s : ByteArray) (a k : Nat) : (s.extract a k).data.toList = (s.data.toList.drop a).take (k - a) := by
  simp only [ByteArray.data_extract, Array.toList_extract, List.extract_eq_take_drop]
theorem drop_line {s : ByteArray} {a k : Nat} (ha : a ≤ k) (hk : k < s.size) (hc : s[k] = 10) : s.data.toList.drop a = (s.extract a k).data.toList ++ 10 :: s.data.toList.drop (k + 1) := by
  rw [ext_mid]
  have hk' : k < s.data.toList.length := by simpa using hk
  have e : s.data.toList[k] = 10 := hc
  have h1 : (s.data.toList.drop a).drop (k - a) = 10 :: s.data.toList.drop (k + 1) := by
    rw [List.drop_drop, show a + (k - a) = k by omega, List.drop_eq_getElem_cons hk', e]
  rw [← h1, List.take_append_drop]
theorem body_long {r : Rf.R} (h : r.id.length = 32) (ho : Rf.okr r = true) : 65 < (Rf.bodyL r).length := by
  unfold Rf.okr Rf.nameOk at ho
  simp at ho
  have h2 := S2.hexL_length r.id
  rw [h] at h2
  simp [Rf.bodyL, h2]
  omega
theorem body_take {r : Rf.R} (h : r.id.length = 32) : (Rf.bodyL r).take 64 = S2.hexL r.id ∧ (Rf.bodyL r).drop 65 = r.name.data.toList := by
  have h2 := S2.hexL_length r.id
  rw [h] at h2
  unfold Rf.bodyL
  constructor
  · rw [List.take_append_of_le_length (by omega), List.take_of_length_le (by omega)]
  · rw [List.drop_append, List.drop_eq_nil_of_le (by omega), h2]; rfl
theorem yields_bd_rf {ops : Array Oper} {S : World → Prop} {o : Oper} {a : Act} {n : ByteArray} {l : List UInt8} (hw : Region.wanted o (yielded ops a.tmps) = true) (x y : Operand) (ho : o.op = .build 54 #[(0, x), (1, y)]) (hx : a.eval x = .string n) (hy : a.eval y = .agg (idC l).toArray) (hl : l.length = 32) :
    YieldsIf Try.prog ops S o (.agg (rfC ⟨n, l⟩).toArray) a := .inl ⟨hw, fun w _ => by
  unfold execOp
  have hr := run_build (P := Try.prog) w 54 #[(0, .string n), (1, .agg (idC l).toArray)] _ (built_rf n l hl)
  simp only [ho, Sem.run_bind, Sem.run_pure, Result.andThen_ok, List.map_toArray, List.map_cons, List.map_nil, hx, hy, hr]⟩
theorem wp_bs_rf {o : Oper} {a : Act} {w : World} {K : Act → World → Prop} {Q : Exit → Act → World → Prop} {r : Rf.R} (x : Operand) (ho : o.op = .buildSlice 22 1 #[(0, x)]) (hx : a.eval x = .agg (rfC r).toArray) (hl : r.id.length = 32)
    (h : K (a.put o.dst (.slice (some ⟨w.heap.size, 0, none⟩) 1 1)) (w.alloc (.cells (rfC r).toArray 54))) : o.wp Try.prog a w K Q := by
  have hf := builtS_rf r hl
  unfold Program.builtSlice at hf
  cases hie : Try.prog.info? 54 with
  | none => simp [hie] at hf
  | some ie =>
    simp only [hie] at hf
    cases hz : ie.zero with
    | none => simp [hz] at hf
    | some z =>
      simp only [hz] at hf
      by_cases hc : 1 * ie.size > 2 ^ 24 ∨ 1 * ie.size = 0
      · rw [if_pos hc] at hf; cases hf
      · rw [if_neg hc] at hf
        exact wp_buildSlice 22 54 1 #[(0, x)] ho (rfC r).toArray ie z Try.underlying22 hie hz (fun h' => hc (Or.inl h')) (fun h' => hc (Or.inr h')) (by simp only [List.map_toArray, List.map_cons, List.map_nil, hx]; exact hf) h
theorem wp_ap_ow {op : Oper} {a : Act} {K : Act → World → Prop} {Q : Exit → Act → World → Prop} {w wr : World} {v : Value} {acc : List Rf.R} {r : Rf.R} (s x : Operand)
    (ho : op.op = .call { callee := .builtin .append, args := #[s, x], argTypes := #[22, 22] }) (hs : a.eval s = v) (hx : a.eval x = .slice (some ⟨wr.heap.size, 0, none⟩) 1 1)
    (h : Ow w wr v acc) (hid : r.id.length = 32) (hl : acc.length ≤ 2000)
    (hK : ∀ v' w', Hid (Ow w w' v' (acc ++ [r])) → (wr.alloc (.cells (rfC r).toArray 54)).grownBy w' v.ownBlock → K (a.put op.dst v') w') : op.wp Try.prog a (wr.alloc (.cells (rfC r).toArray 54)) K Q := by
  obtain ⟨i0, hi, hz0, hz1, hz2⟩ := info_parts infoRf
  have hlt := h.bel.size
  refine wp_append_own _ s x 22 ho w.heap.size 54 i0 _ 33 48 Try.underlying22 hi hz0 hz1 hz2 (by simp [Value.cells, idC, Rf.zid]) (by decide) v acc.length (acc.flatMap rfC) hs (World.ownsRow.alloc h.own _) ⟨wr.heap.size, 0, none⟩ 1 1 (rfC r) hx (by rw [rfC_length, hid]) (news_row (heap_alloc_new _ _)) (rfC_one r) (by unfold maxLen; omega) (by omega) (by simp; omega) ?_
  intro v' w' h1 h2 _
  exact hK v' w' ⟨own_push h1, (h.bel.alloc h.bel.size _).grown h2 (by simp; omega) (fun k hk => (h.own.lt k hk).1)⟩ h2
theorem own_nei {w : World} {base e k n b t : Nat} {v : Value} {xs : List Value} {cs : Array Value} (h : w.ownsRow base e k v n xs) (hb : w.heap[b]? = some (.cells cs t)) (ht : t ≠ e) : some b ≠ v.ownBlock := by
  rcases h.2 with ⟨rfl, _⟩ | ⟨g, cap, cur, rfl, _, hh, _⟩
  · simp [Value.ownBlock]
  · intro e1
    simp only [Value.ownBlock, Option.some.injEq] at e1
    subst e1
    rw [hh] at hb
    simp at hb
    exact ht hb.2.symm
/-- Block g holds an id. -/
structure Bi (W : World) (g : Nat) (x : List UInt8) : Prop where
  out : W.heap[g]? = some (.cells (idC x).toArray 35)
theorem Bi.rng {W : World} {g : Nat} {x : List UInt8} (h : Bi W g x) : W.rangeAt g 0 (idC x) := fun j u hu => by
  rw [cell_of_row _ _ _ _ _ _ h.out]; simpa using hu
theorem Bi.al {W : World} {g : Nat} {x : List UInt8} (h : Bi W g x) (o : Obj) : Bi (W.alloc o) g x := ⟨(Below.heap_alloc _ _ _ (Array.getElem?_eq_some_iff.1 h.out).1).trans h.out⟩
theorem Bi.grown {w W W' : World} {g : Nat} {x : List UInt8} {v : Value} {acc : List Rf.R} (h : Bi W g x) (ho : Ow w W v acc) (o : Obj) (hg : (W.alloc o).grownBy W' v.ownBlock) : Bi W' g x := by
  refine ⟨(hg.block g ?_ ?_).trans (h.al o).out⟩
  · have := (Array.getElem?_eq_some_iff.1 h.out).1
    simp; omega
  · exact own_nei ho.own h.out (by decide)

set_option maxHeartbeats 2000000 in
set_option maxRecDepth 100000 in
theorem refget_any (s : ByteArray) (w : World) (hs : s.size ≤ 1500) : Calls Try.prog 14 #[.string s] w (DGetP s.data.toList w) := by
  have HW := Lib.hid (Ow.nil w)
  go_enter Try.func14, Try.ntmps14
  go_wp2_with fail
  go_loopw [4, 5, 6] (fun v av i wr => ∃ (k a : Nat) (acc : List Rf.R), k ≤ s.size ∧ a ≤ k ∧ i = .int .i64 k ∧ av = .int .i64 a ∧ acc.length ≤ a ∧ Hid (10 ∉ (s.extract a k).data.toList) ∧ Hid (Rf.Pre s.data.toList acc (s.data.toList.drop a)) ∧ Hid (Rf.Ok32 acc) ∧ Hid (∀ r ∈ acc, r.name.size ≤ 1500) ∧ Hid (Ow w wr v acc)) (fun _ _ i _ => s.size - (intOf i).toNat)
  case atStart => exact ⟨0, 0, [], by omega, by omega, rfl, rfl, by simp, (by show 10 ∉ _; rw [ext_mid]; simp), Rf.Pre.start _, (fun r hr => by cases hr), (fun r hr => by cases hr), HW.out⟩
  case round =>
    obtain ⟨k, a, acc, hk, hak, rfl, rfl, hal, HX, HP, HK, HN, HO⟩ := hrel
    by_cases hlt : k < s.size
    · have hlt' : (k : Int) < (s.size : Int) := by omega
      have hk0 : (0 : Int) ≤ (k : Int) := by omega
      have ha0 : (0 : Int) ≤ (a : Int) := by omega
      have hak' : (a : Int) ≤ (k : Int) := by omega
      have hks' : (k : Int) ≤ (s.size : Int) := by omega
      by_cases hc : s[k] = 10
      · have HDL := Lib.hid (drop_line hak hlt hc)
        have hcq : ((s[k].toNat : Int) != 10) = false := by rw [hc]; rfl
        rw [HDL.out] at HP
        have HLS := Lib.hid (show (s.extract a k).size = k - a by simp; omega)
        clear hc HDL
        by_cases h65 : k - a < 65
        · have h65c : ((k - a : Nat) : Int) < 65 := by omega
          have HQ := Lib.hid (show DGetP s.data.toList w (.returned (.tuple #[.slice none 0 0, .bool false])) wr from .inr ⟨HP.out.bad HX.out (fun r h1 h2 e => by
            have := body_long h1 h2
            rw [e] at this
            have h3 := HLS.out
            simp at this h3; omega), rfl, HO.out.bel⟩)
          clear h65
          go_wp2_with fail
          go_ret2
          exact HQ.out
        · have h65c : ¬ ((k - a : Nat) : Int) < 65 := by omega
          have h64c : (64 : Int) ≤ ((k - a : Nat) : Int) := by omega
          have hsl : (s.extract a k).size ≤ 1500 := by have := HLS.out; omega
          have h65l : 65 ≤ (s.extract a k).size := by have := HLS.out; omega
          have HUX := Lib.hid (fun W => refunhex_u ((s.extract a k).extract 0 64) W (by simp; omega))
          clear h65
          go_wp2_with fail
          generalize s.extract a k = line at *
          have h65i : (65 : Int) ≤ (line.size : Int) := by omega
          refine (HUX.out _).mono ?_
          rintro r w3 ⟨x, b, hx, rfl, hb1, hb2, hb3⟩
          rw [ext_take] at hb1 hb2
          have HXL := Lib.hid hx
          have HO3 := Lib.hid ((HO.out.below hb3).below (below_new w3 (.cells (idC x).toArray 35)))
          have HG3 := Lib.hid (show Bi (w3.alloc (.cells (idC x).toArray 35)) w3.heap.size x from ⟨heap_alloc_new _ _⟩)
          have hz3 : w3.heap.size < (w3.alloc (.cells (idC x).toArray 35)).heap.size := by simp
          clear HUX hx hb3 HO
          cases b with
          | false =>
            have HQ := Lib.hid (show DGetP s.data.toList w (.returned (.tuple #[.slice none 0 0, .bool false])) (w3.alloc (.cells (idC x).toArray 35)) from .inr ⟨HP.out.bad HX.out (fun r h1 h2 e => hb2 rfl r.id h1 (by rw [← e]; exact (body_take h1).1.symm)), rfl, HO3.out.bel⟩)
            clear hb1 hb2
            go_wp2_with ((with_reducible apply st_id (l := x) (hl := HXL.out)); rfl; rfl; rfl; rfl; rfl)
            go_ret2
            exact HQ.out
          | true =>
            have HPN := Lib.hid (HP.out.next (x := ⟨line.extract 65 line.size, x⟩) HX.out (fun r h1 h2 e => Rf.r_ext (by rw [← (body_take h1).2, e, ext_drop]) (Rf.id_inj h1 HXL.out (by rw [hb1 rfl, ← (body_take h1).1, e]))))
            have HKN := Lib.hid (show Rf.Ok32 (acc ++ [(⟨line.extract 65 line.size, x⟩ : Rf.R)]) from fun r hr => by
              rcases List.mem_append.1 hr with h | h
              · exact HK.out r h
              · simp at h; rw [h]; exact HXL.out)
            have HNN := Lib.hid (show ∀ r ∈ acc ++ [(⟨line.extract 65 line.size, x⟩ : Rf.R)], r.name.size ≤ 1500 from fun r hr => by
              rcases List.mem_append.1 hr with h | h
              · exact HN.out r h
              · simp at h; rw [h]; simp; omega)
            have HE0 := Lib.hid (show 10 ∉ (s.extract (k + 1) (k + 1)).data.toList by rw [ext_mid]; simp)
            have u24 := Try.underlying35
            have i24 := idsize HXL.out
            clear hb1 hb2
            go_wp2_with ((with_reducible apply st_id (l := x) (hl := HXL.out)); rfl; rfl; rfl; rfl; rfl)
            generalize w3.heap.size = g at *
            generalize w3.alloc (.cells (idC x).toArray 35) = w4 at *
            refine wp_region_noPanic ?_
            refine wp_region_held_drew (S := (fun w' => Bi w' g x)) (by kernel_rfl) (show Bi w4.drew g x from ⟨HG3.out.out⟩) (fun hH => ?_)
            refine wpAnyH_take (i := 0) (v := ?_) rfl (by kernel_rfl) (by kernel_rfl) (by kernel_rfl) (fun _ _ _ h => h) (Or.inl ⟨by rfl, ?_⟩) (by assumption) ?_
            rotate_left
            · intro w hSw; go_simp; try rfl
            try simp only [Act.put, List.getElem_toArray, List.getElem_cons_zero, List.getElem_cons_succ, List.setIfInBounds_toArray, List.set_cons_zero, List.set_cons_succ]
            refine wpAnyH_take (i := 1) (v := ?_) rfl (by kernel_rfl) (by kernel_rfl) (by kernel_rfl) (fun _ _ _ h => h) (Or.inl ⟨by rfl, ?_⟩) (by assumption) ?_
            rotate_left
            · intro w hSw; go_simp; try rfl
            try simp only [Act.put, List.getElem_toArray, List.getElem_cons_zero, List.getElem_cons_succ, List.setIfInBounds_toArray, List.set_cons_zero, List.set_cons_succ]
            refine wpAnyH_take (i := 2) (v := ?_) rfl (by kernel_rfl) (by kernel_rfl) (by kernel_rfl) (fun _ _ _ h => h) (Or.inl ⟨by rfl, ?_⟩) (by assumption) ?_
            rotate_left
            · intro w hSw; go_simp; try rfl
            try simp only [Act.put, List.getElem_toArray, List.getElem_cons_zero, List.getElem_cons_succ, List.setIfInBounds_toArray, List.set_cons_zero, List.set_cons_succ]
            refine wpAnyH_take (i := 3) rfl (by kernel_rfl) (by kernel_rfl) (by kernel_rfl) (fun _ _ _ h => h) (yieldsIf_load_mid (by rfl) _ _ rfl _ _ rfl _ _ (fun w h => h.rng) u24 rfl i24) (by assumption) ?_
            try simp only [Act.put, List.getElem_toArray, List.getElem_cons_zero, List.getElem_cons_succ, List.setIfInBounds_toArray, List.set_cons_zero, List.set_cons_succ]
            refine wpAnyH_take (i := 4) rfl (by kernel_rfl) (by kernel_rfl) (by kernel_rfl) (fun _ _ _ h => h) (yields_bd_rf (n := line.extract 65 line.size) (l := x) (by rfl) (.tmp 40) (.tmp 41) rfl rfl rfl HXL.out) (by assumption) ?_
            try simp only [Act.put, List.getElem_toArray, List.getElem_cons_zero, List.getElem_cons_succ, List.setIfInBounds_toArray, List.set_cons_zero, List.set_cons_succ]
            refine wpAnyH_ready (rs := [5]) (by kernel_rfl) (by simp) ?_
            refine AllReadyH.cons rfl (fun K hK => ?_) AllReadyH.nil
            rw [if_pos (by rfl)]
            refine wp_bs_rf (r := ⟨line.extract 65 line.size, x⟩) (.tmp 42) rfl rfl HXL.out ?_
            refine hK.out _ _ (hH.al _) (fun hH2 => ?_)
            clear hK K
            try simp only [Act.put, List.getElem_toArray, List.getElem_cons_zero, List.getElem_cons_succ, List.setIfInBounds_toArray, List.set_cons_zero, List.set_cons_succ]
            refine wpAnyH_ready (rs := [6]) (by kernel_rfl) (by simp) ?_
            refine AllReadyH.cons rfl (fun K hK => ?_) AllReadyH.nil
            rw [if_pos (by rfl)]
            refine wp_ap_ow (wr := w4.drew) (r := ⟨line.extract 65 line.size, x⟩) (.tmp 38) (.tmp 43) rfl rfl rfl (HO3.out.below (Below.refl _ _).drew) HXL.out (by omega) ?_
            intro v5 w5 HO5 hgr
            refine hK.out _ _ (hH.grown (HO3.out.below (Below.refl _ _).drew) _ hgr) (fun hH3 => ?_)
            clear hgr
            clear hK K
            try simp only [Act.put, List.getElem_toArray, List.getElem_cons_zero, List.getElem_cons_succ, List.setIfInBounds_toArray, List.set_cons_zero, List.set_cons_succ]
            refine wpAnyH_take (i := 7) (v := ?_) rfl (by kernel_rfl) (by kernel_rfl) (by kernel_rfl) (fun _ _ _ h => h) (Or.inl ⟨by rfl, ?_⟩) (by assumption) ?_
            rotate_left
            · intro w hSw; go_simp; try rfl
            try simp only [Act.put, List.getElem_toArray, List.getElem_cons_zero, List.getElem_cons_succ, List.setIfInBounds_toArray, List.set_cons_zero, List.set_cons_succ]
            refine wpAnyH_done (by kernel_rfl) ?_ _
            refine NoPanic.normal ?_
            go_wp2_with fail
            go_roundw
            case rel => exact ⟨k + 1, k + 1, acc ++ [⟨line.extract 65 line.size, x⟩], by omega, by omega, by go_num, by go_num, by simp; omega, HE0, HPN, HKN, HNN, HO5⟩
            case measure => simp [intOf]; omega
      · have hcq : ((s[k].toNat : Int) != 10) = true := by
          rw [bne_iff_ne]
          intro h
          exact hc (UInt8.toNat_inj.1 (by show s[k].toNat = 10; omega))
        have HX2 := Lib.hid (show 10 ∉ (s.extract a (k + 1)).data.toList by
          have h := HX.out
          rw [ext_mid] at h ⊢
          rw [show k + 1 - a = (k - a) + 1 by omega, List.take_add_one]
          intro q
          rcases List.mem_append.1 q with q | q
          · exact h q
          · rw [List.getElem?_drop, show a + (k - a) = k by omega] at q
            have hk' : k < s.data.toList.length := by simpa using hlt
            rw [List.getElem?_eq_getElem hk'] at q
            simp at q
            exact hc q.symm)
        clear hc
        go_wp2_with fail
        go_roundw
        case rel => exact ⟨k + 1, a, acc, by omega, by omega, by go_num, rfl, hal, HX2, HP, HK, HN, HO⟩
        case measure => simp [intOf]; omega
    · obtain rfl : k = s.size := by omega
      have hlt2 : ¬ (s.size : Int) < (s.size : Int) := by omega
      have HNR := Lib.hid (show 10 ∉ s.data.toList.drop a by
        have h := HX.out
        rw [ext_drop] at h
        exact h)
      have hal2 : acc.length ≤ 1500 := by omega
      have HFN := Lib.hid (reffine_any _ acc wr (HO.out.own.rows HK.out) (fun r hr => by have := HN.out r hr; unfold maxLen; omega) (by unfold maxLen; omega))
      cases hf : Rf.fine acc with
      | false =>
        rw [hf] at HFN
        have HQ := Lib.hid (show ∀ w', Below wr.heap.size wr w' → DGetP s.data.toList w (.returned (.tuple #[.slice none 0 0, .bool false])) w' from fun w' hb => .inr ⟨(fun L q => by
          have := HP.out.fin HNR.out q
          rw [this] at q
          rw [q.1] at hf
          cases hf), rfl, (HO.out.below hb).bel⟩)
        clear hf
        go_wp2_with fail
        refine HFN.out.mono ?_
        rintro r w2 ⟨rfl, hb⟩
        go_wp2_with fail
        go_ret2
        exact HQ.out _ hb
      | true =>
        rw [hf] at HFN
        have HF := Lib.hid hf
        have hl64 : acc.length ≤ 200 := by have := ((Rf.fine_iff acc).1 hf).1; omega
        clear hf
        go_wp2_with fail
        refine HFN.out.mono ?_
        rintro r w2 ⟨rfl, hb2⟩
        have HO2 := Lib.hid (HO.out.below hb2)
        have HPT := Lib.hid (refput_any _ acc w2 (HO2.out.own.rows HK.out) (fun r hr => by have := HN.out r hr; omega) hl64)
        clear HFN hb2 HO
        go_wp2_with fail
        refine HPT.out.mono ?_
        rintro r w3 ⟨rfl, hb3⟩
        have HO3 := Lib.hid (HO2.out.below hb3)
        clear HPT hb3 HO2
        by_cases he : Rf.textL acc = s.data.toList
        · have HQ := Lib.hid (show DGetP s.data.toList w (.returned (.tuple #[_, .bool true])) w3 from .inl ⟨acc, _, ⟨HF.out, HK.out, he⟩, HO3.out.own.rows HK.out, rfl, HO3.out.bel⟩)
          have HTX := Lib.hid (show (⟨(Rf.textL acc).toArray⟩ : ByteArray) = s from Rf.bytes_ext (by simpa using he))
          rw [HTX.out]
          have hb0 : (s.toList != s.toList) = false := by simp
          clear he
          go_wp2_with fail
          go_ret2
          exact HQ.out
        · have HQ := Lib.hid (show DGetP s.data.toList w (.returned (.tuple #[.slice none 0 0, .bool false])) w3 from .inr ⟨(fun L q => by
            have := HP.out.fin HNR.out q
            rw [this] at q
            exact he q.2.2), rfl, HO3.out.bel⟩)
          have HTX := Lib.hid (show (⟨(Rf.textL acc).toArray⟩ : ByteArray) ≠ s from fun e => he (by rw [← e]))
          generalize (⟨(Rf.textL acc).toArray⟩ : ByteArray) = t at HTX ⊢
          have hb0 : (t.toList == s.toList) = false := by rw [Rf.beq_iff]; simpa using HTX.out
          have hb1 : (t.toList != s.toList) = true := by rw [bne, hb0]; rfl
          clear he
          go_wp2_with fail
          go_ret2
          exact HQ.out

end Go.Proofs.Ytkdljagcdaphdaa
