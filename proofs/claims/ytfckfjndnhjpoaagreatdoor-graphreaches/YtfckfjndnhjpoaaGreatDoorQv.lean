/-
  WALKS OF LAYER 12: the document's In; Has, Kind, Object, Links of its store.
-/
import Derived.Test.YtfckfjndnhjpoaaGreatDoorQr
import Derived.Test.YtfckfjndnhjpoaaGreatDoorQu
import Derived.Test.YtfckfjndnhjpoaaGreatDoorQhl
import Derived.Test.YtfckfjndnhjpoaaGreatDoorQa
set_option linter.unusedVariables false
set_option linter.unusedSimpArgs false
set_option maxHeartbeats 8000000
set_option maxRecDepth 100000
section
namespace Go.Proofs.YtfckfjndnhjpoaaGreatDoor
open Go.RowKit
theorem in_any (w : World) (v : Value) (I : List (List UInt8)) (id : List UInt8) (h : IdsAt w v I) (hl : ∀ i ∈ I, i.length = 32) (hil : id.length = 32) (hn : I.length ≤ 100000) :
  Calls Tryz.prog 22 #[v, .agg (idC id).toArray] w fun r w' => r = .returned (.bool (decide (id ∈ I))) ∧ Below w.heap.size w w' := by
 obtain ⟨ao, cap, rfl⟩ : ∃ ao cap, v = .slice ao I.length cap := by simpa using RowsAt.form h
 have HB1 := Lib.hid (below_new w (.cells (idC id).toArray 42))
 have HN1 := Lib.hid (row_news (heap_alloc_new w (.cells (idC id).toArray 42)))
 have HH := Lib.hid h
 have HL := Lib.hid hl
 have HIL := Lib.hid hil
 generalize hZ : decide (id ∈ I) = Z
 have HZ := Lib.hid hZ
 clear h hl hil hZ
 go_enter Tryz.func22, Tryz.ntmps22
 go_wp2_with fail
 go_loopw [5] (fun i wr => ∃ (k : Nat), k ≤ I.length ∧ i = .int .i64 k ∧ Hid (∀ (j : Nat) (x : List UInt8), j < k → I[j]? = some x → x ≠ id) ∧ Hid (Below w.heap.size w wr) ∧ Hid (∀ j u, (idC id)[j]? = some u → wr.cell? ((⟨w.heap.size, 0, none⟩ : Addr).add j) = some u)) (fun i _ => I.length - (intOf i).toNat)
 case atStart => exact ⟨0, by omega, rfl, fun j x h => absurd h (by omega), HB1.out, HN1.out⟩
 case round =>
  obtain ⟨k, hk, rfl, HA, HB, HI⟩ := hrel
  by_cases hlt : k < I.length
  ·
   have hlt' : (k : Int) < (I.length : Int) := by omega
   have hk0 : (0 : Int) ≤ (k : Int) := by omega
   obtain ⟨x, hx⟩ : ∃ x, I[k]? = some x := ⟨I[k], List.getElem?_eq_getElem hlt⟩
   have hxl := HL.out x (List.mem_of_getElem? hx)
   obtain ⟨a, rfl, _, hc⟩ := (RowsAt.below HH.out HB.out).elem k (idC x) (by simp [hx])
   have HC1 := Lib.hid (show ∀ j u, (idC x)[j]? = some u → wr.drew.cell? ((a.add (k * 32)).add j) = some u from hc)
   have HC2 := Lib.hid (show ∀ j u, (idC id)[j]? = some u → wr.drew.cell? ((⟨w.heap.size, 0, none⟩ : Addr).add j) = some u from HI.out)
   have HXL := Lib.hid hxl
   have HX := Lib.hid hx
   have hq := fun W => eq_id x id hxl HIL.out W
   clear hx hxl hc
   by_cases he : x = id
   ·
    have HR := Lib.hid (show Z = true by rw [← HZ.out]; exact decide_eq_true (by rw [← he]; exact List.mem_of_getElem? HX.out))
    rw [show decide (x = id) = true from decide_eq_true he] at hq
    clear he
    go_wp2_with fail
    refine rgn_still (by kernel_rfl) (by kernel_rfl) ?_
    repeat still_step
    (with_reducible apply still_id (hc := HC1.out) (hl := HXL.out))
    rfl
    rfl
    rfl
    (with_reducible apply still_id (hc := HC2.out) (hl := HIL.out))
    rfl
    rfl
    rfl
    repeat still_step
    refine wpStill_nil ?_
    go_wp2_with fail
    go_ret
    exact ⟨ret_bool HR.out.symm, HB.out.drew⟩
   ·
    have HA2 := Lib.hid (show ∀ (j : Nat) (y : List UInt8), j < k + 1 → I[j]? = some y → y ≠ id from fun j y hj hy => by
     by_cases e : j = k
     · subst e; rw [HX.out] at hy; cases hy; exact he
     · exact HA.out j y (by omega) hy)
    rw [show decide (x = id) = false from decide_eq_false he] at hq
    clear he
    go_wp2_with fail
    refine rgn_still (by kernel_rfl) (by kernel_rfl) ?_
    repeat still_step
    (with_reducible apply still_id (hc := HC1.out) (hl := HXL.out))
    rfl
    rfl
    rfl
    (with_reducible apply still_id (hc := HC2.out) (hl := HIL.out))
    rfl
    rfl
    rfl
    repeat still_step
    refine wpStill_nil ?_
    go_wp2_with fail
    go_roundw
    case rel => exact ⟨k + 1, by omega, by go_num, HA2.out, HB.out.drew, HI.out⟩
    case measure => simp [intOf]; omega
  ·
   have HR := Lib.hid (show Z = false by
    rw [← HZ.out]
    refine decide_eq_false (fun hin => ?_)
    obtain ⟨j, hj⟩ := List.getElem?_of_mem hin
    exact HA.out j id (by have := (List.getElem?_eq_some_iff.1 hj).1; omega) hj rfl)
   have hlt' : ¬ (k : Int) < (I.length : Int) := by omega
   go_wp2_with fail
   go_ret
   exact ⟨ret_bool HR.out.symm, HB.out⟩
theorem atV_has (L : List St.It) (id : List UInt8) : (St.has L id = true ∧ atV L id = (St.pos L id : Int)) ∨ (St.has L id = false ∧ atV L id = -1) := by
 unfold atV
 cases St.has L id with
 | true => exact .inl ⟨rfl, rfl⟩
 | false => exact .inr ⟨rfl, rfl⟩
theorem refhas_any (w : World) (v : Value) (L : List St.It) (id : List UInt8) (h : DSt w v L) (hil : id.length = 32) :
  Calls Tryz.prog 49 #[.agg #[v], .agg (idC id).toArray] w fun r w' => r = .returned (.bool (St.has L id)) ∧ Below w.heap.size w w' := by
 have HA := Lib.hid (fun W (hb : Below w.heap.size w W) => at_any W v L id (h.below hb) hil)
 obtain ⟨ao, cap, rfl⟩ := h.form
 have HB2 := Lib.hid (below2 w (.cells #[.slice ao L.length cap] 28) (.cells (idC id).toArray 42))
 have c2 := (box2_cell w (.slice ao L.length cap) 28 (.cells (idC id).toArray 42))
 have HN2 := Lib.hid (row_news (new2 w (.cells #[.slice ao L.length cap] 28) (.cells (idC id).toArray 42)))
 have HIL := Lib.hid hil
 have HC := Lib.hid (atV_has L id)
 generalize atV L id = Z at *
 generalize St.pos L id = pos at *
 generalize St.has L id = hs at *
 clear h hil
 go_enter Tryz.func49, Tryz.ntmps49
 go_wp2_with ((with_reducible refine ld_id (x := .tmp 3) (p := ⟨w.heap.size + 1, 0, none⟩) ?_ ?_ ?_ HN2.out HIL.out ?_); rfl; rfl; rfl)
 refine (HA.out _ HB2.out).mono ?_
 rintro r w3 ⟨rfl, hb3⟩
 have hB := HB2.out.trans (hb3.mono (show w.heap.size ≤ _ by simp; omega))
 clear hb3 c2 HA HN2 HB2
 rcases HC.out with ⟨rfl, rfl⟩ | ⟨rfl, rfl⟩
 ·
  have hk0 : (0 : Int) ≤ (pos : Int) := by omega
  clear HC
  go_wp2_with fail
  go_ret
  exact ⟨rfl, hB⟩
 ·
  clear HC
  go_wp2_with fail
  go_ret
  exact ⟨rfl, hB⟩
def Gr.kd (L : List St.It) (id : List UInt8) : Int := match Gr.ob L id with
 | none => 0
 | some o => o.kind
theorem refkindX_any (w : World) (v : Value) (L : List St.It) (id : List UInt8) (h : DSt w v L) (hil : id.length = 32) :
  Calls Tryz.prog 31 #[.agg #[v], .agg (idC id).toArray] w fun r w' => r = .returned (.int .i64 (Gr.kd L id)) ∧ Below w.heap.size w w' := by
 have hfew := h.few
 have HA := Lib.hid (fun W (hb : Below w.heap.size w W) => at_any W v L id (h.below hb) hil)
 obtain ⟨ao, cap, rfl⟩ := h.form
 have HB2 := Lib.hid (below2 w (.cells #[.slice ao L.length cap] 28) (.cells (idC id).toArray 42))
 have c2 := (box2_cell w (.slice ao L.length cap) 28 (.cells (idC id).toArray 42))
 have HN2 := Lib.hid (row_news (new2 w (.cells #[.slice ao L.length cap] 28) (.cells (idC id).toArray 42)))
 have HH := Lib.hid h
 have HIL := Lib.hid hil
 have hpl := St.pos_le L id
 have HV : Hid (St.has L id = false → atV L id = -1 ∧ Gr.kd L id = 0) := Lib.hid (fun h => ⟨by unfold atV; rw [h]; rfl, by unfold Gr.kd; rw [Gr.ob_none h]⟩)
 have HW : Hid (St.has L id = true → atV L id = (St.pos L id : Int) ∧ ∃ x, L[St.pos L id]? = some x ∧ ∀ o, Rm.dec x.text.data.toList = some o → Gr.kd L id = o.kind) := Lib.hid (fun h' => by
  obtain ⟨x, hx, he⟩ := St.has_at h.srt h'
  refine ⟨by unfold atV; rw [h']; rfl, x, hx, fun o ho => ?_⟩
  unfold Gr.kd
  rw [show Gr.ob L id = some o by rw [← he, Gr.ob_at h.srt hx, ho]])
 generalize atV L id = Z at *
 generalize St.pos L id = pos at *
 generalize Gr.kd L id = KD at *
 clear h hil
 go_enter Tryz.func31, Tryz.ntmps31
 go_wp2_with ((with_reducible refine ld_id (x := .tmp 3) (p := ⟨w.heap.size + 1, 0, none⟩) ?_ ?_ ?_ HN2.out HIL.out ?_); rfl; rfl; rfl)
 refine (HA.out _ HB2.out).mono ?_
 rintro r w3 ⟨rfl, hb3⟩
 have hB := HB2.out.trans (hb3.mono (show w.heap.size ≤ _ by simp; omega))
 have c3 := (hb3.cell (p := ⟨w.heap.size, 0, none⟩) (by simp; omega)).trans c2
 clear hb3 c2 HA HN2 HB2
 cases hq : St.has L id with
 | false =>
   obtain ⟨rfl, rfl⟩ := (HV.out hq)
   clear HV HW hq
   go_wp2_with fail
   go_ret
   exact ⟨rfl, hB⟩
 | true =>
   obtain ⟨rfl, x, hx, hkd⟩ := HW.out hq
   clear HV HW hq
   have hlt : pos < L.length := (List.getElem?_eq_some_iff.1 hx).1
   obtain ⟨a, c, rfl, hd, hc⟩ := (HH.out.below hB).elem pos x hx
   have hxl := hd.idl
   obtain ⟨o, cs, rfl, _, _, hO0, hdec, _⟩ := hd
   have hcell := ri_ob hc hxl 0 _ hO0
   rw [add_two a (pos * 105) 33 (by decide)] at hcell
   have hA1 := add_block a (pos * 105)
   have hA2 : (a.add (pos * 105)).off = a.off + pos * 105 := by unfold Addr.add; split <;> simp_all
   have hlt' : (pos : Int) < (L.length : Int) := by omega
   have hk0 : (0 : Int) ≤ (pos : Int) := by omega
   obtain rfl := hkd o hdec
   clear hx hc hO0 hdec hxl hkd
   go_wp2_with fail
   go_ret
   exact ⟨rfl, hB⟩
def Gr.obz (L : List St.It) (id : List UInt8) : Ob := (Gr.ob L id).getD noOb
theorem ld_obat {ops : Array Oper} {rest : List Oper} {op : Oper} {a : Act} {w : World} {Q : Exit → Act → World → Prop} {x : Operand} {p : Addr} {cs : Array Value} (ho : op.op = .load 54 x) (hx : a.eval x = .pointer (some p)) (hg : op.guard = none) (hc : ∀ j v, cs[j]? = some v → w.cell? (p.add j) = some v) (hs : cs.size = 72)
  (h : wpList Tryz.prog ops Q rest (a.put op.dst (.agg cs)) w) : wpList Tryz.prog ops Q (op :: rest) a w := by
 have := wpList_load_at (w := w) (Q := Q) (rest := rest) (ops := ops) hg 54 x ho p hx cs.toList _ (fun j v hj => hc j v (by simpa using hj)) Tryz.underlying54 rfl (by have := obsize hs; simpa using this)
 exact this (by simpa using h)
theorem zero_at (w : World) : ObAt w (obC noOb nilV nilV).toArray noOb none none 0 0 :=
 ⟨noF, RowsAt.nil _ _, RowsAt.nil _ _, (fun e he => by cases he), (fun e he => by cases he), (fun e he => by cases he), (show (0 : Nat) ≤ maxLen from Nat.zero_le _), (show (0 : Nat) ≤ maxLen from Nat.zero_le _), (show (0 : Nat) ≤ maxLen from Nat.zero_le _), (show (0 : Nat) < 4294967296 by decide)⟩
theorem zId_len2 : zId.length = 32 := by decide
namespace R
theorem refobject_any (B kk : Nat) (w : World) (v : Value) (L : List St.It) (id : List UInt8) (h : DSt B kk w v L) (hil : id.length = 32) :
  Calls Tryz.prog 23 #[.agg #[v], .agg (idC id).toArray] w fun r w' => ∃ cs ao bo ca cb, r = .returned (.agg cs) ∧ ObAt w' cs (Gr.obz L id) ao bo ca cb ∧ Below w.heap.size w w' := by
 have hfew := h.few
 have HA := Lib.hid (fun W (hb : Below w.heap.size w W) => at_any W v L id (h.old.below hb) hil)
 obtain ⟨bo', cap, rfl⟩ := h.form
 have hz28 := (zero_of_info zero28).1
 have HS0 := Lib.hid noF.size
 have HN0 := Lib.hid noF.one
 have HBN := Lib.hid built_none
 have HZA := Lib.hid zero_at
 have HH := Lib.hid h
 have HIL := Lib.hid hil
 have hpl := St.pos_le L id
 have HV : Hid (St.has L id = false → atV L id = -1 ∧ Gr.obz L id = noOb) := Lib.hid (fun h => ⟨by unfold atV; rw [h]; rfl, by unfold Gr.obz; rw [Gr.ob_none h]; rfl⟩)
 have HW : Hid (St.has L id = true → atV L id = (St.pos L id : Int) ∧ ∃ x, L[St.pos L id]? = some x ∧ ∀ o, Rm.dec x.text.data.toList = some o → Gr.obz L id = o) := Lib.hid (fun h' => by
  obtain ⟨x, hx, he⟩ := St.has_at h.srt h'
  refine ⟨by unfold atV; rw [h']; rfl, x, hx, fun o ho => ?_⟩
  unfold Gr.obz
  rw [show Gr.ob L id = some o by rw [← he, Gr.ob_at h.srt hx, ho]]; rfl)
 generalize atV L id = Z at *
 generalize St.pos L id = pos at *
 generalize Gr.obz L id = OZ at *
 generalize (obC noOb nilV nilV).toArray = z at *
 clear h hil
 have HB2 := Lib.hid (below2 w (.cells #[.slice bo' L.length cap] 28) (.cells (idC id).toArray 42))
 have HB3 := Lib.hid (HB2.out.alloc HB2.out.size (.cells z 54))
 have c2 := (box2_cell w (.slice bo' L.length cap) 28 (.cells (idC id).toArray 42))
 have HN2 := Lib.hid (row_news (new2 w (.cells #[.slice bo' L.length cap] 28) (.cells (idC id).toArray 42)))
 have HX3 := Lib.hid (heap_alloc_new ((w.alloc (.cells #[.slice bo' L.length cap] 28)).alloc (.cells (idC id).toArray 42)) (.cells z 54))
 have HBN3 := Lib.hid (below_new ((w.alloc (.cells #[.slice bo' L.length cap] 28)).alloc (.cells (idC id).toArray 42)) (.cells z 54))
 have hsz2 : ((w.alloc (.cells #[.slice bo' L.length cap] 28)).alloc (.cells (idC id).toArray 42)).heap.size = w.heap.size + 2 := by simp
 rw [hsz2] at HX3 HBN3
 have HN3 := Lib.hid (show ∀ j u, (idC id)[j]? = some u → _ from fun j u hu => (HBN3.out.cell (by have := World.block_lt_of_cell? _ _ (HN2.out j u hu); omega)).trans (HN2.out j u hu))
 have c3 := (HBN3.out.cell (p := ⟨w.heap.size, 0, none⟩) (show w.heap.size < w.heap.size + 2 by omega)).trans c2
 clear c2 HN2 HBN3 hsz2
 go_enter Tryz.func23, Tryz.ntmps23
 go_wp2_with ((with_reducible refine ld_id (x := .tmp 3) (p := ⟨w.heap.size + 1, 0, none⟩) ?_ ?_ ?_ HN3.out HIL.out ?_); rfl; rfl; rfl)
 refine (HA.out _ HB3.out).mono ?_
 rintro r w3 ⟨rfl, hb3⟩
 have hB := HB3.out.trans (hb3.mono HB3.out.size)
 have c4 := (hb3.cell (p := ⟨w.heap.size, 0, none⟩) (by simp; omega)).trans c3
 have E3 := Lib.hid ((hb3.block (w.heap.size + 2) (by simp)).trans HX3.out)
 have hlt3 := (Array.getElem?_eq_some_iff.1 E3.out).1
 clear hb3 c3 HA HN3 HB3 HX3 HB2
 cases hq : St.has L id with
 | false =>
   obtain ⟨rfl, rfl⟩ := (HV.out hq)
   clear HV HW hq
   go_wp2_with (first
    | ((with_reducible refine bd_obz ?_ ?_ HBN.out ?_); rfl; rfl)
    | ((with_reducible refine st_obr (x := .tmp 4) (y := .tmp 11) ?_ ?_ ?_ ?_ E3.out HS0.out HS0.out HN0.out ?_); rfl; rfl; rfl; rfl))
   refine bodyPost_ret (results_cell_row (fn := Tryz.f23) (p := 4) (by rfl) _ _ (w.heap.size + 2) _ _ _ _ (by rfl) (setRow_heap _ _ _ _ _ _ E3.out) Tryz.underlying54 rfl (obsize HS0.out)) rfl ⟨_, none, none, 0, 0, rfl, HZA.out _, below_setRow hB (by omega) _⟩
 | true =>
   obtain ⟨rfl, x, hx, hkd⟩ := HW.out hq
   clear HV HW hq
   have hlt : pos < L.length := (List.getElem?_eq_some_iff.1 hx).1
   obtain ⟨a, c, rfl, hd, hc0⟩ := HH.out.elem pos x hx
   have hc : ∀ (j : Nat) (u : Value), c[j]? = some u → w3.cell? ((a.add (pos * 105)).add j) = some u := fun j u hu => by
    have h1 := hc0 j u hu
    rw [hB.cell (World.block_lt_of_cell? _ _ h1)]; exact h1
   have hxl := hd.idl
   obtain ⟨o, cs, ao, bo, ca, cb, rfl, hO, hF, hdec, _⟩ := hd
   have HCS := Lib.hid hO.F.size
   have HCO := Lib.hid hO.F.one
   have HO := Lib.hid ((hO.below hB).moved (w' := w3.setRow (w.heap.size + 2) cs) (Far.fresh (k' := w.heap.size + 2) hO hF (by omega)) (fun g _ hne _ => setRow_other _ _ _ _ (fun e => hne e)))
   have HOC := Lib.hid (show ∀ (j : Nat) (u : Value), cs[j]? = some u → w3.cell? ((⟨a.block, a.off + pos * 105 + 33, none⟩ : Addr).add j) = some u from fun j u hu => by
    have h1 := ri_ob hc hxl j u hu
    rw [← add_two a (pos * 105) 33 (by decide), add_add]
    exact h1)
   have hA1 := add_block a (pos * 105)
   have hA2 : (a.add (pos * 105)).off = a.off + pos * 105 := by unfold Addr.add; split <;> simp_all
   have hlt' : (pos : Int) < (L.length : Int) := by omega
   have hk0 : (0 : Int) ≤ (pos : Int) := by omega
   obtain rfl := hkd o hdec
   clear hx hc hc0 hdec hxl hkd hO hF
   go_wp2_with (first
    | ((with_reducible refine ld_obat (x := .tmp 16) (p := ⟨a.block, a.off + pos * 105 + 33, none⟩) (cs := cs) ?_ ?_ ?_ HOC.out HCS.out ?_); rfl; rfl; rfl)
    | ((with_reducible refine st_obr (x := .tmp 4) (y := .tmp 17) ?_ ?_ ?_ ?_ E3.out HS0.out HCS.out HCO.out ?_); rfl; rfl; rfl; rfl))
   refine bodyPost_ret (results_cell_row (fn := Tryz.f23) (p := 4) (by rfl) _ _ (w.heap.size + 2) _ _ _ _ (by rfl) (setRow_heap _ _ _ _ _ _ E3.out) Tryz.underlying54 rfl (obsize HCS.out)) rfl ⟨_, ao, bo, ca, cb, rfl, HO.out, below_setRow hB (by omega) _⟩
theorem obz_few {B kk : Nat} {w : World} {v : Value} {L : List St.It} (h : DSt B kk w v L) (id : List UInt8) : (Gr.obz L id).ents.length ≤ 64 ∧ (Gr.obz L id).pars.length ≤ 8 ∧ Rm.Ids (Gr.obz L id) := by
 unfold Gr.obz Gr.ob
 have hn : Rm.Ids noOb := ⟨(fun e he => by cases he), (fun e he => by cases he), zId_len2, zId_len2, (show (0 : Nat) < 4294967296 by decide)⟩
 cases hq : St.has L id with
 | false =>
   rw [if_neg (by simp)]
   exact ⟨(show noOb.ents.length ≤ 64 by decide), (show noOb.pars.length ≤ 8 by decide), hn⟩
 | true =>
   obtain ⟨x, hx, he⟩ := St.has_at h.srt hq
   rw [if_pos rfl, hx]
   simp only [Option.bind_some]
   cases hd : Rm.dec x.text.data.toList with
   | none => exact ⟨(show noOb.ents.length ≤ 64 by decide), (show noOb.pars.length ≤ 8 by decide), hn⟩
   | some o => exact ⟨(Gr.dec_few hd).1, (Gr.dec_few hd).2, Rm.dec_ids hd⟩
theorem reflinksS_any (B kk : Nat) (w : World) (v : Value) (L : List St.It) (id : List UInt8) (h : DSt B kk w v L) (hil : id.length = 32) :
  Calls Tryz.prog 83 #[.agg #[v], .agg (idC id).toArray] w fun r w' => ∃ v', r = .returned v' ∧ OwnL w' w.heap.size v' (linksL (Gr.obz L id)) ∧ Below w.heap.size w w' := by
 have HF := Lib.hid (obz_few h id)
 have HOB := Lib.hid (fun W (hb : Below w.heap.size w W) => refobject_any B kk W v L id (h.below hb) hil)
 obtain ⟨ao, cap, rfl⟩ := h.form
 have HB2 := Lib.hid (below2 w (.cells #[.slice ao L.length cap] 28) (.cells (idC id).toArray 42))
 have c2 := (box2_cell w (.slice ao L.length cap) 28 (.cells (idC id).toArray 42))
 have HN2 := Lib.hid (row_news (new2 w (.cells #[.slice ao L.length cap] 28) (.cells (idC id).toArray 42)))
 have HIL := Lib.hid hil
 generalize Gr.obz L id = o at *
 clear h hil
 go_enter Tryz.func83, Tryz.ntmps83
 go_wp2_with ((with_reducible refine ld_id (x := .tmp 3) (p := ⟨w.heap.size + 1, 0, none⟩) ?_ ?_ ?_ HN2.out HIL.out ?_); rfl; rfl; rfl)
 refine (HOB.out _ HB2.out).mono ?_
 rintro r w3 ⟨cs, ao', bo', ca, cb, rfl, hO, hb3⟩
 have hB := HB2.out.trans (hb3.mono HB2.out.size)
 have HLK := Lib.hid (reflinks_any cs o ao' bo' ca cb w3 hO (by have := HF.out.1; omega) (by have := HF.out.2.1; omega))
 clear hb3 c2 HOB HN2 HB2 hO
 go_wp2_with fail
 refine HLK.out.mono ?_
 rintro r w4 ⟨lv, rfl, hL, hb4⟩
 have hLw := Lib.hid (own_le hL hB.size)
 have hB4 := hB.trans (hb4.mono hB.size)
 clear hL hb4 HLK
 go_wp2_with fail
 go_ret
 exact ⟨_, rfl, hLw.out, hB4⟩
end R
end Go.Proofs.YtfckfjndnhjpoaaGreatDoor
end
section
namespace Go.Proofs.YtfckfjndnhjpoaaGreatDoor
open Go.RowKit
theorem Gr.nx_eq {L : List St.It} {C : List (List UInt8)} (id : List UInt8) : Gr.nx L C id = if Gr.kd L id = 3 ∧ id ∈ C then ((linksL (Gr.obz L id)).take 1).map (·.1) else (linksL (Gr.obz L id)).map (·.1) := by
 unfold Gr.nx Gr.kd Gr.obz
 cases Gr.ob L id with
 | none => simp [linksL, noOb]
 | some o =>
   simp only [Option.getD_some]
   unfold Gr.lk linksL Gr.cutO
   by_cases h3 : o.kind = 3 <;> by_cases hc : id ∈ C <;> simp [h3, hc]
theorem take_map_succ1 {ls : List (List UInt8 × Int)} {k : Nat} {l : List UInt8 × Int} (hk : k = 0) (h : ls[k]? = some l) : ((ls.take k).take 1).map (·.1) ++ [l.1] = ((ls.take (k + 1)).take 1).map (·.1) := by
 subst hk
 cases ls with
 | nil => simp at h
 | cons a r => simp at h; subst h; simp
theorem take_one_same {ls : List (List UInt8 × Int)} {k : Nat} (hk : ¬ k = 0) : ((ls.take k).take 1).map (·.1) = ((ls.take (k + 1)).take 1).map (·.1) := by
 rw [List.take_take, List.take_take, Nat.min_eq_left (by omega), Nat.min_eq_left (by omega)]
theorem own_le0 {w : World} {B B' e k n : Nat} {v : Value} {xs : List Value} (h : w.ownsRow B e k v n xs) (hb : B' ≤ B) : w.ownsRow B' e k v n xs := by
 refine ⟨h.1, h.2.imp id ?_⟩
 rintro ⟨g, cap, cur, hv, hg, rest⟩
 exact ⟨g, cap, cur, hv, Nat.le_trans hb hg, rest⟩
namespace R
theorem next_any (B kk : Nat) (w : World) (v cv : Value) (L : List St.It) (id : List UInt8) (C : List (List UInt8)) (h : DSt B kk w v L) (hil : id.length = 32) (hC : IdsAt w cv C) (hCl : ∀ i ∈ C, i.length = 32) (hCn : C.length ≤ 100000) :
  Calls Tryz.prog 48 #[.agg #[v], .agg (idC id).toArray, cv] w fun r w' => ∃ v', r = .returned v' ∧ OwnI w' w.heap.size v' (Gr.nx L C id) ∧ Below w.heap.size w w' := by
 have hfew3 := obz_few h id
 have hfew := Gr.few hfew3.1 hfew3.2.1
 have HLS := Lib.hid (Gr.links_ids hfew3.2.2)
 have HLK := Lib.hid (fun W (hb : Below w.heap.size w W) => reflinksS_any B kk W v L id (h.below hb) hil)
 have HIN := Lib.hid (fun W (hb : Below w.heap.size w W) => in_any W cv C id (RowsAt.below hC hb) hCl hil hCn)
 have HKD := Lib.hid (fun W (hb : Below w.heap.size w W) => refkindX_any W v L id (h.old.below hb) hil)
 have HNX := Lib.hid (Gr.nx_eq (L := L) (C := C) id)
 obtain ⟨ao, cap, rfl⟩ := h.form
 have HB2 := Lib.hid (below2 w (.cells #[.slice ao L.length cap] 28) (.cells (idC id).toArray 42))
 have c2 := (box2_cell w (.slice ao L.length cap) 28 (.cells (idC id).toArray 42))
 have HN2 := Lib.hid (row_news (new2 w (.cells #[.slice ao L.length cap] 28) (.cells (idC id).toArray 42)))
 have HIL := Lib.hid hil
 generalize linksL (Gr.obz L id) = ls at *
 generalize Gr.kd L id = kd at *
 clear h hil hC hCl hfew3
 rcases (by by_cases a : kd = 3 <;> by_cases b : id ∈ C <;> simp [a, b] : (kd = 3 ∧ id ∈ C) ∨ (kd = 3 ∧ ¬ id ∈ C) ∨ kd ≠ 3) with ⟨hk, hin⟩ | ⟨hk, hin⟩ | hk
 ·
  rw [decide_eq_true hin] at HIN
  rw [HNX.out, if_pos ⟨hk, hin⟩]
  subst hk
  clear HNX hin
  go_enter Tryz.func48, Tryz.ntmps48
  go_wp2_with ((with_reducible refine ld_id (l := id) (x := .tmp 4) (p := ⟨w.heap.size + 1, 0, none⟩) ?_ ?_ ?_ HN2.out HIL.out ?_); rfl; rfl; rfl)
  refine (HLK.out _ HB2.out).mono ?_
  rintro r w3 ⟨lv, rfl, hLv, hb3⟩
  have hB3 := HB2.out.trans (hb3.mono HB2.out.size)
  have c3 := (hb3.cell (p := ⟨w.heap.size, 0, none⟩) (by simp; omega)).trans c2
  have HN3 := Lib.hid (show ∀ j u, (idC id)[j]? = some u → w3.cell? ((⟨w.heap.size + 1, 0, none⟩ : Addr).add j) = some u from fun j u hu => by
   have h1 := HN2.out j u hu
   rw [hb3.cell (World.block_lt_of_cell? _ _ h1)]; exact h1)
  obtain ⟨lo, lc, hform⟩ := own_shape hLv
  subst hform
  have HR3 := Lib.hid (hLv.rows HLS.out)
  clear hLv hb3 HLK HN2 c2
  go_wp2_with ((with_reducible refine ld_id (l := id) (x := .tmp 4) (p := ⟨w.heap.size + 1, 0, none⟩) ?_ ?_ ?_ HN3.out HIL.out ?_); rfl; rfl; rfl)
  refine (HIN.out _ hB3).mono ?_
  rintro r w4 ⟨rfl, hb4⟩
  have hB4 := hB3.trans (hb4.mono hB3.size)
  have c4 := (hb4.cell (p := ⟨w.heap.size, 0, none⟩) (World.block_lt_of_cell? _ _ c3)).trans c3
  have HN4 := Lib.hid (show ∀ j u, (idC id)[j]? = some u → w4.cell? ((⟨w.heap.size + 1, 0, none⟩ : Addr).add j) = some u from fun j u hu => by
   have h1 := HN3.out j u hu
   rw [hb4.cell (World.block_lt_of_cell? _ _ h1)]; exact h1)
  have HR4 := Lib.hid (RowsAt.below HR3.out hb4)
  clear hb4 HIN HN3 c3 HR3
  go_wp2_with ((with_reducible refine ld_id (l := id) (x := .tmp 4) (p := ⟨w.heap.size + 1, 0, none⟩) ?_ ?_ ?_ HN4.out HIL.out ?_); rfl; rfl; rfl)
  refine (HKD.out _ hB4).mono ?_
  rintro r w5 ⟨rfl, hb5⟩
  have HB5 := Lib.hid (hB4.trans (hb5.mono hB4.size))
  have HR5 := Lib.hid (RowsAt.below HR4.out hb5)
  clear hb5 HKD HN4 c4 HR4 hB3 hB4
  go_wp2_with fail
  go_loopw [10, 11] (fun ov i wr => ∃ (k : Nat) (O : List (List UInt8)), k ≤ ls.length ∧ i = .int .i64 k ∧ Hid (O.length ≤ k) ∧ Hid (O = ((ls.take k).take 1).map (·.1)) ∧ Hid (OwnI wr w5.heap.size ov O) ∧ Hid (Below w5.heap.size w5 wr)) (fun _ i _ => ls.length - (intOf i).toNat)
  case atStart => exact ⟨0, [], by omega, rfl, Nat.le_refl _, by show ([] : List (List UInt8)) = _; simp, OwnI.nil _ _, Below.refl _ _⟩
  case round =>
   obtain ⟨k, O, hk', rfl, HOL, HOE, HO, HB⟩ := hrel
   obtain ⟨oo, oc, rfl⟩ := HO.out.form
   have hO2 : O.length ≤ 2000 := by have := HOL.out; omega
   have hbs := HB.out.size
   by_cases hlt : k < ls.length
   ·
    have hlt' : (k : Int) < (ls.length : Int) := by omega
    have hk0 : (0 : Int) ≤ (k : Int) := by omega
    obtain ⟨l, hl⟩ : ∃ l, ls[k]? = some l := ⟨ls[k], List.getElem?_eq_getElem hlt⟩
    have HLL := Lib.hid (HLS.out l (List.mem_of_getElem? hl))
    obtain ⟨la, rfl, hlc⟩ := lk_cells (RowsAt.below HR5.out HB.out) k l hl
    have HLC := Lib.hid (lk_id hlc)
    have HKL := Lib.hid hl
    clear hlc hl
    by_cases hkz : k = 0
    ·
     have hz : ¬ (0 : Int) < (k : Int) := by omega
     have HKZ := Lib.hid hkz
     clear hkz
     go_wp2_with (first
      | ((with_reducible refine ld_id (l := l.1) (x := .tmp 40) (p := la.add (k * 33)) ?_ ?_ ?_ HLC.out HLL.out ?_); rfl; rfl; rfl)
      | ((with_reducible refine bs_id2 (l := l.1) (x := .tmp 41) ?_ ?_ ?_ HLL.out ?_); rfl; rfl; rfl)
      | ((with_reducible refine ap_id (.tmp 36) (.tmp 42) ?_ ?_ ?_ ?_ HO.out hbs HLL.out hO2 (fun v' w' h1 h2 => ?_)); rfl; rfl; rfl; rfl))
     go_roundw
     case rel => exact ⟨k + 1, O ++ [l.1], by omega, by go_num, by show _ ≤ _; have := HOL.out; simp; omega, by show _ = _; rw [HOE.out, take_map_succ1 HKZ.out HKL.out], h1.out, HO.out.grown HB.out hbs h2.out⟩
     case measure => simp [intOf]; omega
    ·
     have hz : (0 : Int) < (k : Int) := by omega
     go_wp2_with fail
     go_roundw
     case rel => exact ⟨k + 1, O, by omega, by go_num, by show _ ≤ _; have := HOL.out; omega, by show _ = _; rw [HOE.out, take_one_same hkz], HO.out, HB.out⟩
     case measure => simp [intOf]; omega
   ·
    have hlt' : ¬ (k : Int) < (ls.length : Int) := by omega
    have HT := Lib.hid (show O = (ls.take 1).map (·.1) by rw [HOE.out, show k = ls.length by omega]; simp)
    have HO6 := Lib.hid (show OwnI wr w.heap.size (.slice oo O.length oc) O from ⟨own_le0 HO.out.own HB5.out.size, HO.out.len⟩)
    go_wp2_with fail
    go_ret
    refine ⟨_, rfl, ?_, HB5.out.trans (HB.out.mono HB5.out.size)⟩
    first
     | (rw [← HT.out]; exact HO6.out)
     | (rw [← List.map_take, ← HT.out]; exact HO6.out)
 ·
  rw [decide_eq_false hin] at HIN
  rw [HNX.out, if_neg (fun h => hin h.2)]
  subst hk
  clear HNX hin
  go_enter Tryz.func48, Tryz.ntmps48
  go_wp2_with ((with_reducible refine ld_id (l := id) (x := .tmp 4) (p := ⟨w.heap.size + 1, 0, none⟩) ?_ ?_ ?_ HN2.out HIL.out ?_); rfl; rfl; rfl)
  refine (HLK.out _ HB2.out).mono ?_
  rintro r w3 ⟨lv, rfl, hLv, hb3⟩
  have hB3 := HB2.out.trans (hb3.mono HB2.out.size)
  have c3 := (hb3.cell (p := ⟨w.heap.size, 0, none⟩) (by simp; omega)).trans c2
  have HN3 := Lib.hid (show ∀ j u, (idC id)[j]? = some u → w3.cell? ((⟨w.heap.size + 1, 0, none⟩ : Addr).add j) = some u from fun j u hu => by
   have h1 := HN2.out j u hu
   rw [hb3.cell (World.block_lt_of_cell? _ _ h1)]; exact h1)
  obtain ⟨lo, lc, hform⟩ := own_shape hLv
  subst hform
  have HR3 := Lib.hid (hLv.rows HLS.out)
  clear hLv hb3 HLK HN2 c2
  go_wp2_with ((with_reducible refine ld_id (l := id) (x := .tmp 4) (p := ⟨w.heap.size + 1, 0, none⟩) ?_ ?_ ?_ HN3.out HIL.out ?_); rfl; rfl; rfl)
  refine (HIN.out _ hB3).mono ?_
  rintro r w4 ⟨rfl, hb4⟩
  have hB4 := hB3.trans (hb4.mono hB3.size)
  have c4 := (hb4.cell (p := ⟨w.heap.size, 0, none⟩) (World.block_lt_of_cell? _ _ c3)).trans c3
  have HN4 := Lib.hid (show ∀ j u, (idC id)[j]? = some u → w4.cell? ((⟨w.heap.size + 1, 0, none⟩ : Addr).add j) = some u from fun j u hu => by
   have h1 := HN3.out j u hu
   rw [hb4.cell (World.block_lt_of_cell? _ _ h1)]; exact h1)
  have HR4 := Lib.hid (RowsAt.below HR3.out hb4)
  clear hb4 HIN HN3 c3 HR3
  go_wp2_with ((with_reducible refine ld_id (l := id) (x := .tmp 4) (p := ⟨w.heap.size + 1, 0, none⟩) ?_ ?_ ?_ HN4.out HIL.out ?_); rfl; rfl; rfl)
  refine (HKD.out _ hB4).mono ?_
  rintro r w5 ⟨rfl, hb5⟩
  have HB5 := Lib.hid (hB4.trans (hb5.mono hB4.size))
  have HR5 := Lib.hid (RowsAt.below HR4.out hb5)
  clear hb5 HKD HN4 c4 HR4 hB3 hB4
  go_wp2_with fail
  go_loopw [10, 11] (fun ov i wr => ∃ (k : Nat) (O : List (List UInt8)), k ≤ ls.length ∧ i = .int .i64 k ∧ Hid (O.length ≤ k) ∧ Hid (O = (ls.take k).map (·.1)) ∧ Hid (OwnI wr w5.heap.size ov O) ∧ Hid (Below w5.heap.size w5 wr)) (fun _ i _ => ls.length - (intOf i).toNat)
  case atStart => exact ⟨0, [], by omega, rfl, Nat.le_refl _, by show ([] : List (List UInt8)) = _; simp, OwnI.nil _ _, Below.refl _ _⟩
  case round =>
   obtain ⟨k, O, hk', rfl, HOL, HOE, HO, HB⟩ := hrel
   obtain ⟨oo, oc, rfl⟩ := HO.out.form
   have hO2 : O.length ≤ 2000 := by have := HOL.out; omega
   have hbs := HB.out.size
   by_cases hlt : k < ls.length
   ·
    have hlt' : (k : Int) < (ls.length : Int) := by omega
    have hk0 : (0 : Int) ≤ (k : Int) := by omega
    obtain ⟨l, hl⟩ : ∃ l, ls[k]? = some l := ⟨ls[k], List.getElem?_eq_getElem hlt⟩
    have HLL := Lib.hid (HLS.out l (List.mem_of_getElem? hl))
    obtain ⟨la, rfl, hlc⟩ := lk_cells (RowsAt.below HR5.out HB.out) k l hl
    have HLC := Lib.hid (lk_id hlc)
    have HKL := Lib.hid hl
    clear hlc hl
    go_wp2_with (first
     | ((with_reducible refine ld_id (l := l.1) (x := .tmp 40) (p := la.add (k * 33)) ?_ ?_ ?_ HLC.out HLL.out ?_); rfl; rfl; rfl)
     | ((with_reducible refine bs_id2 (l := l.1) (x := .tmp 41) ?_ ?_ ?_ HLL.out ?_); rfl; rfl; rfl)
     | ((with_reducible refine ap_id (.tmp 36) (.tmp 42) ?_ ?_ ?_ ?_ HO.out hbs HLL.out hO2 (fun v' w' h1 h2 => ?_)); rfl; rfl; rfl; rfl))
    go_roundw
    case rel => exact ⟨k + 1, O ++ [l.1], by omega, by go_num, by show _ ≤ _; have := HOL.out; simp; omega, by show _ = _; rw [HOE.out, take_map_succ _ _ _ _ HKL.out], h1.out, HO.out.grown HB.out hbs h2.out⟩
    case measure => simp [intOf]; omega
   ·
    have hlt' : ¬ (k : Int) < (ls.length : Int) := by omega
    have HT := Lib.hid (show O = (ls).map (·.1) by rw [HOE.out, show k = ls.length by omega]; simp)
    have HO6 := Lib.hid (show OwnI wr w.heap.size (.slice oo O.length oc) O from ⟨own_le0 HO.out.own HB5.out.size, HO.out.len⟩)
    go_wp2_with fail
    go_ret
    refine ⟨_, rfl, ?_, HB5.out.trans (HB.out.mono HB5.out.size)⟩
    first
     | (rw [← HT.out]; exact HO6.out)
     | (rw [← List.map_take, ← HT.out]; exact HO6.out)
 ·
  rw [HNX.out, if_neg (fun h => hk h.1)]
  have hkb : (kd == 3) = false := by simpa using hk
  clear HNX hk
  generalize decide (id ∈ C) = inb at *
  go_enter Tryz.func48, Tryz.ntmps48
  go_wp2_with ((with_reducible refine ld_id (l := id) (x := .tmp 4) (p := ⟨w.heap.size + 1, 0, none⟩) ?_ ?_ ?_ HN2.out HIL.out ?_); rfl; rfl; rfl)
  refine (HLK.out _ HB2.out).mono ?_
  rintro r w3 ⟨lv, rfl, hLv, hb3⟩
  have hB3 := HB2.out.trans (hb3.mono HB2.out.size)
  have c3 := (hb3.cell (p := ⟨w.heap.size, 0, none⟩) (by simp; omega)).trans c2
  have HN3 := Lib.hid (show ∀ j u, (idC id)[j]? = some u → w3.cell? ((⟨w.heap.size + 1, 0, none⟩ : Addr).add j) = some u from fun j u hu => by
   have h1 := HN2.out j u hu
   rw [hb3.cell (World.block_lt_of_cell? _ _ h1)]; exact h1)
  obtain ⟨lo, lc, hform⟩ := own_shape hLv
  subst hform
  have HR3 := Lib.hid (hLv.rows HLS.out)
  clear hLv hb3 HLK HN2 c2
  go_wp2_with ((with_reducible refine ld_id (l := id) (x := .tmp 4) (p := ⟨w.heap.size + 1, 0, none⟩) ?_ ?_ ?_ HN3.out HIL.out ?_); rfl; rfl; rfl)
  refine (HIN.out _ hB3).mono ?_
  rintro r w4 ⟨rfl, hb4⟩
  have hB4 := hB3.trans (hb4.mono hB3.size)
  have c4 := (hb4.cell (p := ⟨w.heap.size, 0, none⟩) (World.block_lt_of_cell? _ _ c3)).trans c3
  have HN4 := Lib.hid (show ∀ j u, (idC id)[j]? = some u → w4.cell? ((⟨w.heap.size + 1, 0, none⟩ : Addr).add j) = some u from fun j u hu => by
   have h1 := HN3.out j u hu
   rw [hb4.cell (World.block_lt_of_cell? _ _ h1)]; exact h1)
  have HR4 := Lib.hid (RowsAt.below HR3.out hb4)
  clear hb4 HIN HN3 c3 HR3
  go_wp2_with ((with_reducible refine ld_id (l := id) (x := .tmp 4) (p := ⟨w.heap.size + 1, 0, none⟩) ?_ ?_ ?_ HN4.out HIL.out ?_); rfl; rfl; rfl)
  refine (HKD.out _ hB4).mono ?_
  rintro r w5 ⟨rfl, hb5⟩
  have HB5 := Lib.hid (hB4.trans (hb5.mono hB4.size))
  have HR5 := Lib.hid (RowsAt.below HR4.out hb5)
  clear hb5 HKD HN4 c4 HR4 hB3 hB4
  go_wp2_with fail
  go_loopw [10, 11] (fun ov i wr => ∃ (k : Nat) (O : List (List UInt8)), k ≤ ls.length ∧ i = .int .i64 k ∧ Hid (O.length ≤ k) ∧ Hid (O = (ls.take k).map (·.1)) ∧ Hid (OwnI wr w5.heap.size ov O) ∧ Hid (Below w5.heap.size w5 wr)) (fun _ i _ => ls.length - (intOf i).toNat)
  case atStart => exact ⟨0, [], by omega, rfl, Nat.le_refl _, by show ([] : List (List UInt8)) = _; simp, OwnI.nil _ _, Below.refl _ _⟩
  case round =>
   obtain ⟨k, O, hk', rfl, HOL, HOE, HO, HB⟩ := hrel
   obtain ⟨oo, oc, rfl⟩ := HO.out.form
   have hO2 : O.length ≤ 2000 := by have := HOL.out; omega
   have hbs := HB.out.size
   by_cases hlt : k < ls.length
   ·
    have hlt' : (k : Int) < (ls.length : Int) := by omega
    have hk0 : (0 : Int) ≤ (k : Int) := by omega
    obtain ⟨l, hl⟩ : ∃ l, ls[k]? = some l := ⟨ls[k], List.getElem?_eq_getElem hlt⟩
    have HLL := Lib.hid (HLS.out l (List.mem_of_getElem? hl))
    obtain ⟨la, rfl, hlc⟩ := lk_cells (RowsAt.below HR5.out HB.out) k l hl
    have HLC := Lib.hid (lk_id hlc)
    have HKL := Lib.hid hl
    clear hlc hl
    go_wp2_with (first
     | ((with_reducible refine ld_id (l := l.1) (x := .tmp 40) (p := la.add (k * 33)) ?_ ?_ ?_ HLC.out HLL.out ?_); rfl; rfl; rfl)
     | ((with_reducible refine bs_id2 (l := l.1) (x := .tmp 41) ?_ ?_ ?_ HLL.out ?_); rfl; rfl; rfl)
     | ((with_reducible refine ap_id (.tmp 36) (.tmp 42) ?_ ?_ ?_ ?_ HO.out hbs HLL.out hO2 (fun v' w' h1 h2 => ?_)); rfl; rfl; rfl; rfl))
    go_roundw
    case rel => exact ⟨k + 1, O ++ [l.1], by omega, by go_num, by show _ ≤ _; have := HOL.out; simp; omega, by show _ = _; rw [HOE.out, take_map_succ _ _ _ _ HKL.out], h1.out, HO.out.grown HB.out hbs h2.out⟩
    case measure => simp [intOf]; omega
   ·
    have hlt' : ¬ (k : Int) < (ls.length : Int) := by omega
    have HT := Lib.hid (show O = (ls).map (·.1) by rw [HOE.out, show k = ls.length by omega]; simp)
    have HO6 := Lib.hid (show OwnI wr w.heap.size (.slice oo O.length oc) O from ⟨own_le0 HO.out.own HB5.out.size, HO.out.len⟩)
    go_wp2_with fail
    go_ret
    refine ⟨_, rfl, ?_, HB5.out.trans (HB.out.mono HB5.out.size)⟩
    first
     | (rw [← HT.out]; exact HO6.out)
     | (rw [← List.map_take, ← HT.out]; exact HO6.out)
end R
end Go.Proofs.YtfckfjndnhjpoaaGreatDoor
end
