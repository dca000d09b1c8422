/-
  WALKS OF LAYER 12: the walker's add.
-/
import Derived.Test.YtfckfjndnhjpoaaGreatDoorRf
import Derived.BigQuiet
import Derived.Deep.QuietTactic
import Derived.Test.YtfckfjndnhjpoaaGreatDoorQa
set_option linter.unusedVariables false
set_option linter.unusedSimpArgs false
set_option maxHeartbeats 8000000
set_option maxRecDepth 100000
namespace Go.Proofs.YtfckfjndnhjpoaaGreatDoor
open Go.RowKit
def ObQ (L : List St.It) (id : List UInt8) (K : Nat) (W : World) (cs : Array Value) (is : Bool) : Prop :=
 (is = false ∧ Gr.ob L id = none) ∨ (is = true ∧ ∃ o ev pv, Gr.ob L id = some o ∧ ObF cs o ev pv ∧ IdsAt W pv o.pars ∧ (∀ p ∈ o.pars, p.length = 32) ∧ o.time < 4294967296 ∧ ∀ (a : Addr) n c, pv = .slice (some a) n c → K ≤ a.block)
theorem ObQ.le {L : List St.It} {id : List UInt8} {K K' : Nat} {W : World} {cs : Array Value} {is : Bool} (h : ObQ L id K W cs is) (hk : K' ≤ K) : ObQ L id K' W cs is := by
 rcases h with h | ⟨h0, o, ev, pv, h1, h2, h3, h4, h5, h6⟩
 · exact .inl h
 · exact .inr ⟨h0, o, ev, pv, h1, h2, h3, h4, h5, fun a n c e => Nat.le_trans hk (h6 a n c e)⟩
theorem ObQ.moved {L : List St.It} {id : List UInt8} {K : Nat} {W W' : World} {cs : Array Value} {is : Bool} (h : ObQ L id K W cs is) (hb : ∀ g, K ≤ g → g < W.heap.size → W'.heap[g]? = W.heap[g]?) : ObQ L id K W' cs is := by
 rcases h with h | ⟨h0, o, ev, pv, h1, h2, h3, h4, h5, h6⟩
 · exact .inl h
 ·
  refine .inr ⟨h0, o, ev, pv, h1, h2, ?_, h4, h5, h6⟩
  obtain ⟨ao, cap, rfl⟩ := RowsAt.form h3
  exact RowsAt.moved h3 (by decide) (fun _ a ha hlt => hb _ (h6 a _ _ (by rw [ha])) hlt)
theorem object_any (w : World) (base b : Nat) (v : Value) (L : List St.It) (id : List UInt8) (h : PSt w base b v L) (hd : Gr.Dec L) (hil : id.length = 32) :
  Calls Tryz.prog 43 #[.pointer (some ⟨b, 0, none⟩), .agg (idC id).toArray] w fun r w' => ∃ cs is, r = .returned (.tuple #[.agg cs, .bool is]) ∧ cs.size = 72 ∧ cs.all (·.oneCell') = true ∧ Below w.heap.size w w' ∧ ObQ L id w.heap.size w' cs is := by
 cases hh : St.has L id with
 | false =>
   refine (object_none w base b v L id h hil hh).mono ?_
   rintro r w' ⟨cs, rfl, h1, h2, h3⟩
   exact ⟨cs, false, rfl, h1, h2, h3, .inl ⟨rfl, Gr.ob_none hh⟩⟩
 | true =>
   obtain ⟨k, r, o, h1, rfl, h3, h4⟩ := Gr.has_ob hd h.srt hh
   refine (object_at w base b v L k r o h h1 h3).mono ?_
   rintro e w' ⟨cs, ao, bo, ca, cb, rfl, hO, hfar, hb⟩
   exact ⟨cs, true, rfl, hO.F.size, hO.F.one, hb, .inr ⟨rfl, o, _, _, h4, hO.F, hO.P, hO.pid, hO.ti, fun a n c e => by injection e with e; exact hfar a (.inr e)⟩⟩
theorem built_cd (c : Cd) : Tryz.prog.built 109 [(0, .agg (idC c.id).toArray), (1, .int .u32 (c.time : Int)), (2, c.par)] = some (cdC c).toArray := by
 obtain ⟨i0, hi, hz0, hz1, hz2⟩ := info_parts infoCd
 unfold Program.built
 have placesCd : (Tryz.prog.fieldsOf 109).toList.mapM (fun f => (Tryz.prog.info? f.type).map fun i => (f.offset, i.size)) = some [(0, 32), (32, 1), (33, 1)] := by kernel_rfl
 rw [hi, underCd]
 simp only [hz0, placesCd]
 have hzl : zCd.length = 34 := by decide
 have hic : (idC c.id).length = 32 := by rw [idC_length, c.idl]
 have hp1 : c.par.cells = #[c.par] := by have := c.parl; cases hcp : c.par <;> simp_all [Value.oneCell', Value.cells]
 show Instr.fill _ zCd.toArray _ = _
 generalize zCd = Z at hzl
 rw [fill_one _ _ 0 0 32 _ _ rfl (by simpa [Value.cells] using hic) (by simp [hzl])]
 have e1 : splice Z 0 (idC c.id) = idC c.id ++ Z.drop 32 := by unfold splice; simp [hic]
 rw [show (splice Z.toArray.toList 0 (Value.agg (idC c.id).toArray).cells.toList) = idC c.id ++ Z.drop 32 from e1]
 rw [fill_one _ _ 1 32 1 _ _ rfl rfl (by simp [hzl, hic])]
 have e2 : splice (idC c.id ++ Z.drop 32) 32 [.int .u32 (c.time : Int)] = idC c.id ++ (.int .u32 (c.time : Int) :: Z.drop 33) := by
  unfold splice
  rw [List.take_append_of_le_length (by omega), List.take_of_length_le (by omega), List.drop_append, hic]
  simp [List.drop_eq_nil_of_le, hic]
 rw [show (splice (idC c.id ++ Z.drop 32).toArray.toList 32 (Value.int .u32 (c.time : Int)).cells.toList) = idC c.id ++ (.int .u32 (c.time : Int) :: Z.drop 33) from e2]
 rw [fill_one _ _ 2 33 1 c.par _ rfl (by rw [hp1]; rfl) (by simp [hzl, hic])]
 have e3 : splice (idC c.id ++ (.int .u32 (c.time : Int) :: Z.drop 33)) 33 [c.par] = cdC c := by
  unfold splice cdC
  have hl : (idC c.id ++ ([Value.int .u32 (c.time : Int)] : List Value)).length = 33 := by simp [hic]
  rw [show idC c.id ++ (Value.int .u32 (c.time : Int) :: Z.drop 33) = (idC c.id ++ [Value.int .u32 (c.time : Int)]) ++ Z.drop 33 by simp]
  rw [take_app _ _ _ hl, List.drop_eq_nil_of_le (by simp [hzl, hic])]
  simp
 rw [show (splice (idC c.id ++ (Value.int .u32 (c.time : Int) :: Z.drop 33)).toArray.toList 33 c.par.cells.toList) = cdC c from by rw [hp1]; exact e3]
 rfl
theorem still_bd {ops : Array Oper} {w : World} {Q : Act → Prop} {a : Act} {o : Oper} {rest : List Oper} {x y z : Operand} {u1 u2 u3 : Value} {c : Array Value} (ho : o.op = .build 109 #[(0, x), (1, y), (2, z)]) (hx : a.eval x = u1) (hy : a.eval y = u2) (hz : a.eval z = u3) (hg : o.guard = none)
  (hb : Tryz.prog.built 109 [(0, u1), (1, u2), (2, u3)] = some c) (h : wpStill Tryz.prog ops w Q rest (a.put o.dst (.agg c))) : wpStill Tryz.prog ops w Q (o :: rest) a := by
 refine wpStill_step fun K hK => ?_
 rw [if_pos (by simp [Region.wanted, hg])]
 unfold Oper.still execOp
 have hr := run_build (P := Tryz.prog) w 109 #[(0, u1), (1, u2), (2, u3)] _ hb
 simp only [ho, Sem.run_bind, Sem.run_pure, Result.andThen_ok, List.map_toArray, List.map_cons, List.map_nil, hx, hy, hz, hr]
 exact ⟨rfl, hK _ h⟩
def AddP (w W : World) (K b mb n : Nat) (sp v : Value) (L : List St.It) (C : List Cd) (S I : List (List UInt8)) (W' : World) : Prop :=
 ∃ v' C' n', Wr w W' K b mb n' sp v' L C' (S ++ Wk.nw (Gr.cm L) S I) ∧ Fr W W' b mb v ∧ Nx W v v' ∧ n' ≤ n + I.length ∧ (C'.map Cd.id).Perm (C.map Cd.id ++ Wk.nw (Gr.cm L) S I) ∧ ∀ c ∈ C', c ∈ C ∨ ∀ (a : Addr) n q, c.par = .slice (some a) n q → W.heap.size ≤ a.block
theorem add_wk (w W : World) (K b mb n sbase sb : Nat) (sv v : Value) (L : List St.It) (C : List Cd) (S : List (List UInt8)) (id : List UInt8) (h : Wr w W K b mb n (.pointer (some ⟨sb, 0, none⟩)) v L C S) (hP : PSt w sbase sb sv L) (hd : Gr.Dec L) (hid : id.length = 32) (hn : n < 100000) (hC : C.length ≤ 900) :
  Calls Tryz.prog 54 #[.pointer (some ⟨b, 0, none⟩), .agg (idC id).toArray] W fun r W' => r = .returned (.tuple #[]) ∧ AddP w W K b mb n (.pointer (some ⟨sb, 0, none⟩)) v L C S [id] W' := by
 have hz28 := (zero_of_info zero28).1
 have HS0 := Lib.hid noF.size
 generalize (obC noOb nilV nilV).toArray = z at hz28 HS0
 have HOB := Lib.hid (fun W' (hb : Below w.heap.size w W') => object_any W' sbase sb sv L id (hP.below hb) hd hid)
 have HIZ := Lib.hid (show (Tryz.prog.info? 42).map (·.size) = some (idC id).length from idsize hid)
 have HIL := Lib.hid hid
 have hWs : w.heap.size ≤ W.heap.size := h.bel.size
 have HBD1 := Lib.hid (show Below (W.heap.size + 1) (W.alloc (.cells (idC id).toArray 42)) (W.alloc (.cells (idC id).toArray 42)).drew from (Below.refl _ _).drew)
 have HBW := Lib.hid (show Below w.heap.size w (W.alloc (.cells (idC id).toArray 42)) from h.bel.alloc hWs _)
 have HBD := Lib.hid (show Below w.heap.size w (W.alloc (.cells (idC id).toArray 42)).drew from HBW.out.drew)
 have hbl := h.wb.bl
 have HSP := Lib.hid (show ∀ W' : World, (∀ g, g < W.heap.size + 1 → W'.heap[g]? = (W.alloc (.cells (idC id).toArray 42)).heap[g]?) → W'.cell? ⟨b, 0, none⟩ = some (.pointer (some ⟨sb, 0, none⟩)) from fun W' hw => by
  rw [World.cell?_of_block (w := W) ((hw b (by omega)).trans (heap_alloc_old _ _ hbl)), cell_of_row _ _ 0 _ _ _ h.wb.box]; rfl)
 have HRW := Lib.hid (show ∀ W' : World, (∀ g, g < W.heap.size + 1 → W'.heap[g]? = (W.alloc (.cells (idC id).toArray 42)).heap[g]?) → ∀ j u, (idC id)[j]? = some u → W'.cell? ((⟨W.heap.size, 0, none⟩ : Addr).add j) = some u from fun W' hw => row_news ((hw _ (by omega)).trans (heap_alloc_last _ _)))
 have HW := Lib.hid h
 have HDD := Lib.hid hd
 clear h hP hd hid
 go_enter Tryz.func54, Tryz.ntmps54
 go_upto_region 1 with (fail)
 go_cut [4, 5] from 6 to 14 (fun ov isv wx => ∃ g cs is, ov = .pointer (some ⟨g, 0, none⟩) ∧ isv = .bool is ∧ W.heap.size + 1 ≤ g ∧ cs.size = 72 ∧ Hid (wx.heap[g]? = some (.cells cs 54)) ∧ Hid (ObQ L id (W.heap.size + 1) wx cs is) ∧ Hid (Below (W.heap.size + 1) (W.alloc (.cells (idC id).toArray 42)) wx))
 case first =>
  refine wp_region_noPanic ?_
  refine wp_region_held_drew (S := (fun w' => ∀ g, g < W.heap.size + 1 → w'.heap[g]? = (W.alloc (.cells (idC id).toArray 42)).heap[g]?)) (by kernel_rfl) (fun g _ => rfl) (fun hH => ?_)
  refine tk (i := 0) (v := ?_) ?_ ?_
  rotate_left
  · intro w' hSw; go_simp; try rfl
  try simp only [q0]
  refine tk (i := 1) (v := ?_) ?_ ?_
  rotate_left
  · intro w' hSw; go_simp; try rfl
  try simp only [q0]
  refine tk (i := 2) (v := ?_) ?_ ?_
  rotate_left
  · intro w' hSw; go_simp; try rfl
  try simp only [q0]
  refine tk (i := 3) (v := ?_) ?_ ?_
  rotate_left
  · intro w' hSw; have q0 := HSP.out _ hSw; go_simp; try rfl
  try simp only [q0]
  refine wpAnyH_take (i := 4) rfl (by kernel_rfl) (by kernel_rfl) (by kernel_rfl) (fun _ _ _ h => h) (yields_at (p := ⟨W.heap.size, 0, none⟩) (cs := idC id) (by rfl) rfl rfl (fun w' hw' => HRW.out w' hw') Tryz.underlying42 rfl HIZ.out) (by assumption) ?_
  try simp only [q0]
  refine wpAnyH_ready (rs := [5, 9]) (by kernel_rfl) (by simp) ?_
  refine AllReadyH.cons rfl (fun K hK => ?_) (AllReadyH.cons rfl (fun K hK => ?_) AllReadyH.nil)
  ·
   go_simp
   with_reducible refine (HOB.out _ HBD.out).mono ?_
   rintro r w5 ⟨cs, is, rfl, hcs, hco, hb5, hq⟩
   have HCS := Lib.hid hcs
   have HCO := Lib.hid hco
   have HB5 := Lib.hid (show Below (W.heap.size + 1) (W.alloc (.cells (idC id).toArray 42)) w5 from by have h1 := HBD1.out.trans (hb5.mono (show W.heap.size + 1 ≤ _ by simp)); exact h1)
   have hz5 : W.heap.size + 1 ≤ w5.heap.size := by have := HB5.out.size; simpa using this
   have HQ := Lib.hid hq
   clear hcs hco hb5 hq
   go_wp2_with fail
   refine hK.out _ _ (fun g hg => HB5.out.block g hg) (fun _ => ?_)
   clear hK K
   try simp only [q0]
   refine tk (i := 6) (v := ?_) ?_ ?_
   rotate_left
   · intro w' hSw; go_simp; try rfl
   try simp only [q0]
   refine tk (i := 7) (v := ?_) ?_ ?_
   rotate_left
   · intro w' hSw; go_simp; try rfl
   try simp only [q0]
   refine tk (i := 8) (v := ?_) ?_ ?_
   rotate_left
   · intro w' hSw; go_simp; try rfl
   try simp only [q0]
   refine wpAnyH_ready (rs := [9]) (by kernel_rfl) (by simp) ?_
   refine AllReadyH.cons rfl (fun K hK => ?_) AllReadyH.nil
   go_simp
   refine hK.out _ _ (fun g hg => (heap_alloc_old _ _ (by omega)).trans (HB5.out.block g hg)) (fun _ => ?_)
   clear hK K
   try simp only [q0]
   have HN6 := Lib.hid (heap_alloc_last w5 (.cells z 54))
   refine wpAnyH_ready (rs := [10]) (by kernel_rfl) (by simp) ?_
   refine AllReadyH.cons rfl (fun K hK => ?_) AllReadyH.nil
   rw [if_pos (by rfl)]
   refine wp_store_row 54 (.tmp 4) (.tmp 13) rfl w5.heap.size cs rfl rfl 54 _ HN6.out (obsize HCS.out) (by rw [HS0.out, HCS.out]) HCO.out ?_
   refine hK.out _ _ (fun g hg => (setRow_other _ _ _ _ (by omega)).trans ((heap_alloc_old _ _ (by omega)).trans (HB5.out.block g hg))) (fun _ => ?_)
   clear hK K
   try simp only [q0]
   refine tk (i := 11) (v := ?_) ?_ ?_
   rotate_left
   · intro w' hSw; go_simp; try rfl
   try simp only [q0]
   refine wpAnyH_done (by kernel_rfl) ?_ _
   refine NoPanic.normal ?_
   go_wp2_with fail
   go_meet
   case rel => exact ⟨w5.heap.size, cs, is, rfl, rfl, hz5, HCS.out, setRow_heap _ _ _ _ _ _ HN6.out, (HQ.out.le (by simp)).moved (fun g _ hg => (setRow_other _ _ _ _ (by omega)).trans (heap_alloc_old _ _ hg)), below_setRow (HB5.out.alloc hz5 _) hz5 _⟩
  ·
   go_simp
   refine hK.out _ _ (fun g hg => heap_alloc_old _ _ (by simp; omega)) (fun _ => ?_)
   clear hK K
   try simp only [q0]
   have hb4 : Below (W.heap.size + 1) (W.alloc (.cells (idC id).toArray 42)) ((W.alloc (.cells (idC id).toArray 42)).alloc (.cells z 54)).drew := ((Below.refl _ _).alloc (by simp) _).drew
   have HB4 := Lib.hid hb4
   have HB4W := Lib.hid (show Below w.heap.size w ((W.alloc (.cells (idC id).toArray 42)).alloc (.cells z 54)).drew from (HBW.out.alloc (by have := HBW.out.size; exact this) _).drew)
   clear hb4
   refine wpAnyH_ready (rs := [5]) (by kernel_rfl) (by simp) ?_
   refine AllReadyH.cons rfl (fun K hK => ?_) AllReadyH.nil
   go_simp
   with_reducible refine (HOB.out _ HB4W.out).mono ?_
   rintro r w5 ⟨cs, is, rfl, hcs, hco, hb5, hq⟩
   have HCS := Lib.hid hcs
   have HCO := Lib.hid hco
   have HB5 := Lib.hid (show Below (W.heap.size + 1) (W.alloc (.cells (idC id).toArray 42)) w5 from HB4.out.trans (hb5.mono (by simp)))
   have hz5 : W.heap.size + 2 ≤ w5.heap.size := by have := hb5.size; simpa using this
   have HN6 := Lib.hid (show w5.heap[W.heap.size + 1]? = some (.cells z 54) from (hb5.block (W.heap.size + 1) (by simp)).trans (by have := heap_alloc_last (W.alloc (.cells (idC id).toArray 42)) (.cells z 54); rwa [show (W.alloc (.cells (idC id).toArray 42)).heap.size = W.heap.size + 1 by simp] at this))
   have HQ := Lib.hid hq
   clear hcs hco hb5 hq
   go_wp2_with fail
   refine hK.out _ _ (fun g hg => HB5.out.block g hg) (fun _ => ?_)
   clear hK K
   try simp only [q0]
   refine tk (i := 6) (v := ?_) ?_ ?_
   rotate_left
   · intro w' hSw; go_simp; try rfl
   try simp only [q0]
   refine tk (i := 7) (v := ?_) ?_ ?_
   rotate_left
   · intro w' hSw; go_simp; try rfl
   try simp only [q0]
   refine tk (i := 8) (v := ?_) ?_ ?_
   rotate_left
   · intro w' hSw; go_simp; try rfl
   try simp only [q0]
   refine wpAnyH_ready (rs := [10]) (by kernel_rfl) (by simp) ?_
   refine AllReadyH.cons rfl (fun K hK => ?_) AllReadyH.nil
   rw [if_pos (by rfl)]
   refine wp_store_row 54 (.tmp 4) (.tmp 13) rfl (W.heap.size + 1) cs rfl rfl 54 _ HN6.out (obsize HCS.out) (by rw [HS0.out, HCS.out]) HCO.out ?_
   refine hK.out _ _ (fun g hg => (setRow_other _ _ _ _ (by omega)).trans (HB5.out.block g hg)) (fun _ => ?_)
   clear hK K
   try simp only [q0]
   refine tk (i := 11) (v := ?_) ?_ ?_
   rotate_left
   · intro w' hSw; go_simp; try rfl
   try simp only [q0]
   refine wpAnyH_done (by kernel_rfl) ?_ _
   refine NoPanic.normal ?_
   go_wp2_with fail
   go_meet
   case rel => exact ⟨W.heap.size + 1, cs, is, rfl, rfl, Nat.le_refl _, HCS.out, setRow_heap _ _ _ _ _ _ HN6.out, (HQ.out.moved (fun g hk hg => setRow_other _ _ _ _ (by simp at hk; omega))).le (by simp), below_setRow HB5.out (Nat.le_refl _) _⟩
 case rest =>
  obtain ⟨g, cs, is, rfl, rfl, hgK, hcs, HG, HQ, HBX⟩ := hcut
  have X0 := Lib.hid (heap_alloc_last W (.cells (idC id).toArray 42))
  have hbW : Below W.heap.size W wc := (below_new W _).trans (HBX.out.mono (by omega))
  have hszc : W.heap.size + 1 ≤ wc.heap.size := by have := HBX.out.size; simpa using this
  have HWC := Lib.hid (HW.out.below hbW)
  have HBC := Lib.hid hbW
  have HXC := Lib.hid ((HBX.out.block W.heap.size (by omega)).trans X0.out)
  have hKW := HW.out.KW
  have hvl : ∀ q, v.ownBlock = some q → q < W.heap.size := fun q hq => (HW.out.wb.own.own.lt q hq).2
  have HVL := Lib.hid hvl
  clear hbW hvl X0 HBX HRW HSP HBD HBW HBD1 HOB HS0 hz28
  have HNO := Lib.hid (show ∀ W', Wk.nw (Gr.cm L) S [id] = [] → (∃ n', Wr w W' K b mb n' (.pointer (some ⟨sb, 0, none⟩)) v L C S ∧ Fr W W' b mb v ∧ n' ≤ n + 1) → AddP w W K b mb n (.pointer (some ⟨sb, 0, none⟩)) v L C S [id] W' from fun W' hnw ⟨n', h1, h2, h3⟩ => ⟨v, C, n', by rw [hnw, List.append_nil]; exact h1, h2, Nx.refl _ _, h3, by rw [hnw, List.append_nil], fun c hc => .inl hc⟩)
  have HNW := Lib.hid (show Wk.nw (Gr.cm L) S [id] = if Gr.cm L id = true ∧ id ∉ S then [id] else [] from by simp [Wk.nw])
  rcases HQ.out with ⟨rfl, hob⟩ | ⟨rfl, o, ev, pv, hob, hF, hat, hpl, hti, hfar⟩
  ·
   have HEND := Lib.hid (fun q => HNO.out (wc.drewN q) (by rw [HNW.out, if_neg (by unfold Gr.cm; rw [hob]; simp)]) ⟨n, HWC.out.below ⟨rfl, rfl, rfl, Nat.le_refl _, fun _ _ => rfl⟩, (Fr.of_below HBC.out b mb v).trans (Fr.of_below (⟨rfl, rfl, rfl, Nat.le_refl _, fun _ _ => rfl⟩ : Below wc.heap.size wc (wc.drewN q)) b mb v) (Nx.refl _ _), by omega⟩)
   clear HNO HNW hob HQ HG HWC HBC HXC
   go_wp2_with fail
   go_quiet (fail)
   go_wp2_with fail
   refine bodyPost_ret (results_none rfl _ _ _) rfl ?_
   exact ⟨rfl, HEND.out _⟩
  ·
   have hk0 : wc.cell? ⟨g, 0, none⟩ = some (.int .i64 o.kind) := by
    rw [cell_of_row _ _ 0 _ _ _ HG.out]; exact hF.c0
   by_cases hk3 : o.kind = 3
   ·
    have HCM := Lib.hid (show Gr.cm L id = true from by unfold Gr.cm; rw [hob]; simpa using hk3)
    have HTM := Lib.hid (show Gr.tm L id = o.time from by unfold Gr.tm; rw [hob])
    have HPR := Lib.hid (show Gr.prs L id = o.pars from by unfold Gr.prs; rw [hob])
    have HF := Lib.hid hF
    have HAT := Lib.hid hat
    have HPL := Lib.hid hpl
    have HFAR := Lib.hid hfar
    rw [hk3] at hk0
    have hm2 : wc.drew.cell? ⟨b, 2, none⟩ = some (.map (some mb)) := by
     show wc.cell? _ = _
     rw [cell_of_row _ _ 2 _ _ _ HWC.out.wb.box]; rfl
    have HID := Lib.hid (show ∀ j u, (idC id)[j]? = some u → wc.drew.cell? ((⟨W.heap.size, 0, none⟩ : Addr).add j) = some u from row_news HXC.out)
    have HAD := Lib.hid (add_any wc.drew mb n S id (HWC.out.s.below (Below.refl _ _).drew) (by omega) HIL.out)
    clear hob hF hat hpl hfar HQ hk3
    have hgl : g < wc.heap.size := (Array.getElem?_eq_some_iff.1 HG.out).1
    have HTI := Lib.hid hti
    have HI2 := Lib.hid (show ∀ w' : World, (∀ q, q < wc.heap.size → q ≠ mb → w'.heap[q]? = wc.heap[q]?) → ∀ j u, (idC id)[j]? = some u → w'.cell? ((⟨W.heap.size, 0, none⟩ : Addr).add j) = some u from fun w' hw => row_news ((hw _ (by omega) (by have := HWC.out.mK; omega)).trans HXC.out))
    have HM2 := Lib.hid (show ∀ w' : World, (∀ q, q < wc.heap.size → q ≠ mb → w'.heap[q]? = wc.heap[q]?) → w'.cell? ⟨b, 2, none⟩ = some (.map (some mb)) from fun w' hw => by
     rw [World.cell?_of_block (w := wc) (hw _ HWC.out.wb.bl HWC.out.bm)]; exact hm2)
    have HK2 := Lib.hid (show ∀ w' : World, (∀ q, q < wc.heap.size → q ≠ mb → w'.heap[q]? = wc.heap[q]?) → w'.cell? ⟨g, 0, none⟩ = some (.int .i64 3) from fun w' hw => by
     rw [World.cell?_of_block (w := wc) (hw g hgl (by have := HWC.out.mK; omega))]; exact hk0)
    clear hk0 hm2 HID
    by_cases hin : id ∈ S
    ·
     rw [if_pos hin, decide_eq_true hin] at HAD
     rw [if_neg (fun k => k.2 hin)] at HNW
     go_wp2_with fail
     refine wp_region_noPanic ?_
     refine wp_region_held_drew (S := (fun w' => ∀ q, q < wc.heap.size → q ≠ mb → w'.heap[q]? = wc.heap[q]?)) (by kernel_rfl) (fun q _ _ => rfl) (fun hH => ?_)
     refine tk (i := 0) (v := ?_) ?_ ?_
     rotate_left
     · intro w' hSw; go_simp; try rfl
     try simp only [q0]
     refine tk (i := 1) (v := ?_) ?_ ?_
     rotate_left
     · intro w' hSw; go_simp; try rfl
     try simp only [q0]
     refine tk (i := 2) (v := ?_) ?_ ?_
     rotate_left
     · intro w' hSw; go_simp; try rfl
     try simp only [q0]
     refine tk (i := 3) (v := ?_) ?_ ?_
     rotate_left
     · intro w' hSw; go_simp; try rfl
     try simp only [q0]
     refine tk (i := 4) (v := ?_) ?_ ?_
     rotate_left
     · intro w' hSw; have q0 := HK2.out _ hSw; go_simp; try rfl
     try simp only [q0]
     refine tk (i := 5) (v := ?_) ?_ ?_
     rotate_left
     · intro w' hSw; go_simp; try rfl
     try simp only [q0]
     refine tk (i := 6) (v := ?_) ?_ ?_
     rotate_left
     · intro w' hSw; go_simp; try rfl
     try simp only [q0]
     refine tk (i := 7) (v := ?_) ?_ ?_
     rotate_left
     · intro w' hSw; go_simp; try rfl
     try simp only [q0]
     refine tk (i := 8) (v := ?_) ?_ ?_
     rotate_left
     · intro w' hSw; go_simp; try rfl
     try simp only [q0]
     refine tk (i := 9) (v := ?_) ?_ ?_
     rotate_left
     · intro w' hSw; go_simp; try rfl
     try simp only [q0]
     refine tk (i := 10) (v := ?_) ?_ ?_
     rotate_left
     · intro w' hSw; go_simp; try rfl
     try simp only [q0]
     refine tk (i := 11) (v := ?_) ?_ ?_
     rotate_left
     · intro w' hSw; have q0 := HM2.out _ hSw; go_simp; try rfl
     try simp only [q0]
     refine wpAnyH_take (i := 12) rfl (by kernel_rfl) (by kernel_rfl) (by kernel_rfl) (fun _ _ _ h => h) (yields_at (p := ⟨W.heap.size, 0, none⟩) (cs := idC id) (by rfl) rfl rfl (fun w' hw' => HI2.out w' hw') Tryz.underlying42 rfl HIZ.out) (by assumption) ?_
     try simp only [q0]
     refine wpAnyH_ready (rs := [13]) (by kernel_rfl) (by simp) ?_
     refine AllReadyH.cons rfl (fun K hK => ?_) AllReadyH.nil
     go_simp
     with_reducible refine HAD.out.mono ?_
     rintro r w2 ⟨rfl, hs2, hg2⟩
     have HS2 := Lib.hid hs2
     have HG2 := Lib.hid hg2
     clear hs2 hg2
     go_wp2_with fail
     refine hK.out _ _ (fun q hq hqm => (HG2.out.block q hq (fun e => by injection e with e; exact hqm e)).trans rfl) (fun _ => ?_)
     clear hK K
     try simp only [q0]
     refine tk (i := 14) (v := ?_) ?_ ?_
     rotate_left
     · intro w' hSw; go_simp; try rfl
     try simp only [q0]
     refine tk (i := 15) (v := ?_) ?_ ?_
     rotate_left
     · intro w' hSw; go_simp; try rfl
     try simp only [q0]
     refine wpAnyH_done (by kernel_rfl) ?_ _
     refine NoPanic.normal ?_
     have HEND := Lib.hid (HNO.out w2 HNW.out ⟨n + 1, (HWC.out.below (Below.refl _ _).drew).seen HS2.out HG2.out, ((Fr.of_below HBC.out b mb v).trans (Fr.of_below (Below.refl _ _).drew b mb v) (Nx.refl _ _)).trans (Fr.of_grown HG2.out b v) (Nx.refl _ _), Nat.le_refl _⟩)
     clear HNO HNW HS2 HG2 HWC HBC
     go_wp2_with fail
     refine bodyPost_ret (results_none rfl _ _ _) rfl ?_
     exact ⟨rfl, HEND.out⟩
    ·
     rw [if_neg hin, decide_eq_false hin] at HAD
     rw [if_pos ⟨HCM.out, hin⟩] at HNW
     go_wp2_with fail
     refine wp_region_noPanic ?_
     refine wp_region_held_drew (S := (fun w' => ∀ q, q < wc.heap.size → q ≠ mb → w'.heap[q]? = wc.heap[q]?)) (by kernel_rfl) (fun q _ _ => rfl) (fun hH => ?_)
     refine tk (i := 0) (v := ?_) ?_ ?_
     rotate_left
     · intro w' hSw; go_simp; try rfl
     try simp only [q0]
     refine tk (i := 1) (v := ?_) ?_ ?_
     rotate_left
     · intro w' hSw; go_simp; try rfl
     try simp only [q0]
     refine tk (i := 2) (v := ?_) ?_ ?_
     rotate_left
     · intro w' hSw; go_simp; try rfl
     try simp only [q0]
     refine tk (i := 3) (v := ?_) ?_ ?_
     rotate_left
     · intro w' hSw; go_simp; try rfl
     try simp only [q0]
     refine tk (i := 4) (v := ?_) ?_ ?_
     rotate_left
     · intro w' hSw; have q0 := HK2.out _ hSw; go_simp; try rfl
     try simp only [q0]
     refine tk (i := 5) (v := ?_) ?_ ?_
     rotate_left
     · intro w' hSw; go_simp; try rfl
     try simp only [q0]
     refine tk (i := 6) (v := ?_) ?_ ?_
     rotate_left
     · intro w' hSw; go_simp; try rfl
     try simp only [q0]
     refine tk (i := 7) (v := ?_) ?_ ?_
     rotate_left
     · intro w' hSw; go_simp; try rfl
     try simp only [q0]
     refine tk (i := 8) (v := ?_) ?_ ?_
     rotate_left
     · intro w' hSw; go_simp; try rfl
     try simp only [q0]
     refine tk (i := 9) (v := ?_) ?_ ?_
     rotate_left
     · intro w' hSw; go_simp; try rfl
     try simp only [q0]
     refine tk (i := 10) (v := ?_) ?_ ?_
     rotate_left
     · intro w' hSw; go_simp; try rfl
     try simp only [q0]
     refine tk (i := 11) (v := ?_) ?_ ?_
     rotate_left
     · intro w' hSw; have q0 := HM2.out _ hSw; go_simp; try rfl
     try simp only [q0]
     refine wpAnyH_take (i := 12) rfl (by kernel_rfl) (by kernel_rfl) (by kernel_rfl) (fun _ _ _ h => h) (yields_at (p := ⟨W.heap.size, 0, none⟩) (cs := idC id) (by rfl) rfl rfl (fun w' hw' => HI2.out w' hw') Tryz.underlying42 rfl HIZ.out) (by assumption) ?_
     try simp only [q0]
     refine wpAnyH_ready (rs := [13]) (by kernel_rfl) (by simp) ?_
     refine AllReadyH.cons rfl (fun K hK => ?_) AllReadyH.nil
     go_simp
     with_reducible refine HAD.out.mono ?_
     rintro r w2 ⟨rfl, hs2, hg2⟩
     have HS2 := Lib.hid hs2
     have HG2 := Lib.hid hg2
     clear hs2 hg2
     go_wp2_with fail
     refine hK.out _ _ (fun q hq hqm => (HG2.out.block q hq (fun e => by injection e with e; exact hqm e)).trans rfl) (fun _ => ?_)
     clear hK K
     try simp only [q0]
     refine tk (i := 14) (v := ?_) ?_ ?_
     rotate_left
     · intro w' hSw; go_simp; try rfl
     try simp only [q0]
     refine tk (i := 15) (v := ?_) ?_ ?_
     rotate_left
     · intro w' hSw; go_simp; try rfl
     try simp only [q0]
     refine wpAnyH_done (by kernel_rfl) ?_ _
     refine NoPanic.normal ?_
     have hW2 := (HWC.out.below (Below.refl _ _).drew).seen HS2.out HG2.out
     have hbmb := hW2.bm
     have hmK := hW2.mK
     have hg2z := HG2.out.size
     have HGG := Lib.hid ((HG2.out.block g hgl (fun e => by injection e with e; omega)).trans HG.out)
     have HI3 := Lib.hid (show ∀ j u, (idC id)[j]? = some u → w2.drew.cell? ((⟨W.heap.size, 0, none⟩ : Addr).add j) = some u from row_news ((HG2.out.block W.heap.size (by exact hszc) (fun e => by injection e with e; omega)).trans HXC.out))
     obtain ⟨co, ccap, hpvf⟩ := RowsAt.form HAT.out
     obtain ⟨c, hcid, hctm, hcpar⟩ : ∃ c : Cd, c.id = id ∧ c.time = o.time ∧ c.par = pv := ⟨⟨id, o.time, pv, HIL.out, HTI.out, by rw [hpvf]; rfl⟩, rfl, rfl, rfl⟩
     have q36 : w2.drew.cell? ⟨g, 36, none⟩ = some (.int .u32 (c.time : Int)) := by
      show w2.cell? _ = _
      rw [cell_of_row _ _ 36 _ _ _ HGG.out, hctm]; exact HF.out.c36
     have q35 : w2.drew.cell? ⟨g, 35, none⟩ = some c.par := by
      show w2.cell? _ = _
      rw [cell_of_row _ _ 35 _ _ _ HGG.out, hcpar]; exact HF.out.c35
     have hbd := built_cd c
     rw [hcid] at hbd
     have HBD := Lib.hid hbd
     clear hbd
     have hW2d := hW2.below (Below.refl _ _).drew
     have HPU := Lib.hid (hpush_cd w2.drew K b _ _ v C c hW2d.wb hW2d.KW hW2d.hp (by omega))
     have HPK := Lib.hid (show POk w2.drew K v c.par (Gr.prs L c.id) from by
      rw [hcid, hcpar, HPR.out]
      have hfar := HFAR.out
      subst hpvf
      refine ⟨RowsAt.moved HAT.out (by decide) (fun _ a ha hlt => HG2.out.block _ hlt (fun e => by injection e with e; have := hfar a _ _ (by rw [ha]); omega)), HPL.out, fun a k q e => ?_⟩
      have := hfar a k q e
      exact ⟨by omega, fun _ e2 => by have := HVL.out _ e2; omega⟩)
     have HFI := Lib.hid (show ∀ (w4 : World) (v4 : Value) (C4 : List Cd), WB w4 K b (.pointer (some ⟨sb, 0, none⟩)) (.map (some mb)) v4 C4 → C4.Perm (C ++ [c]) → Hp.Is Cd.lt (cdF C4) C4.length → Ch w2.drew w4 b v → Nx w2.drew v v4 → AddP w W K b mb n (.pointer (some ⟨sb, 0, none⟩)) v L C S [id] w4 from fun w4 v4 C4 k1 k2 k3 k4 k5 => by
      refine ⟨v4, C4, n + 1, ?_, ?_, ?_, Nat.le_refl _, ?_, fun x hx => ?_⟩
      ·
       rw [HNW.out]
       refine hW2d.heap k1 k3 k4 k5 (fun x hx => ?_)
       rcases List.mem_append.1 (k2.mem_iff.1 hx) with h | h
       · exact .inl h
       ·
        rw [List.mem_singleton.1 h]
        exact .inr ⟨by rw [hctm, hcid, HTM.out], by rw [hcid]; exact HCM.out, HPK.out⟩
      · exact ((((Fr.of_below HBC.out b mb v).trans (Fr.of_below (Below.refl _ _).drew b mb v) (Nx.refl _ _)).trans (Fr.of_grown HG2.out b v) (Nx.refl _ _)).trans (Fr.of_below (Below.refl _ _).drew b mb v) (Nx.refl _ _)).trans (Fr.of_ch k4 mb) (Nx.refl _ _)
      ·
       rcases k5 with e | e
       · exact .inl e
       · exact .inr fun q hq => by have := e q hq; have h1 : w2.drew.heap.size = w2.heap.size := rfl; have h2 : wc.drew.heap.size = wc.heap.size := rfl; omega
      ·
       rw [HNW.out]
       have := k2.map Cd.id
       rwa [List.map_append, List.map_singleton, hcid] at this
      ·
       rcases List.mem_append.1 (k2.mem_iff.1 hx) with h | h
       · exact .inl h
       ·
        rw [List.mem_singleton.1 h, hcpar]
        exact .inr fun a k q e => by have := HFAR.out a k q e; omega)
     clear HS2 HG2 HNO HNW HWC HBC hW2 hW2d HF HAT HPL HFAR HG hpvf HPK HCM HTM HPR HXC hcpar hctm hcid
     generalize c.par = cp at *
     generalize (c.time : Int) = ct at *
     generalize (cdC c).toArray = cc at *
     go_wp2_with fail
     refine rgn_tail 11 (by kernel_rfl) (by kernel_rfl) ?_
     simp only [List.take_succ_cons, List.take_zero, List.drop_succ_cons, List.drop_zero]
     repeat still_step
     (with_reducible apply still_id (hc := HI3.out) (hl := HIL.out))
     rfl
     rfl
     rfl
     repeat still_step
     refine still_bd (x := .tmp 35) (y := .tmp 37) (z := .tmp 39) rfl rfl rfl rfl rfl HBD.out ?_
     repeat still_step
     refine wpStill_nil ?_
     go_wp2_with fail
     with_reducible refine HPU.out.mono ?_
     rintro r w4 ⟨rfl, v4, C4, hW4, hp4, hI4, hc4, hn4⟩
     have HEND := Lib.hid (HFI.out w4 v4 C4 hW4 hp4 hI4 hc4 hn4)
     clear hW4 hp4 hI4 hc4 hn4 HFI
     go_wp2_with fail
     refine bodyPost_end (results_none rfl _ _ _) rfl ?_
     exact ⟨rfl, HEND.out⟩
   ·
    have hkb : (o.kind != 3) = true := by simpa using hk3
    have HEND := Lib.hid (fun q => HNO.out (wc.drewN q) (by rw [HNW.out, if_neg (by unfold Gr.cm; rw [hob]; simp [hk3])]) ⟨n, HWC.out.below ⟨rfl, rfl, rfl, Nat.le_refl _, fun _ _ => rfl⟩, (Fr.of_below HBC.out b mb v).trans (Fr.of_below (⟨rfl, rfl, rfl, Nat.le_refl _, fun _ _ => rfl⟩ : Below wc.heap.size wc (wc.drewN q)) b mb v) (Nx.refl _ _), by omega⟩)
    clear HNO HNW hob HQ HG HWC HBC HXC hF hat hpl hfar hk3
    go_wp2_with fail
    go_quiet (fail)
    go_wp2_with fail
    refine bodyPost_ret (results_none rfl _ _ _) rfl ?_
    exact ⟨rfl, HEND.out _⟩
end Go.Proofs.YtfckfjndnhjpoaaGreatDoor
