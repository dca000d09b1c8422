/-
  WALKS OF LAYER 12: the document's In; Has, Kind, Object, Links of its store.
-/
import Derived.Test.YtkcjhkfelaplkaaGreatDoorQr
import Derived.Test.YtkcjhkfelaplkaaGreatDoorQu
import Derived.Test.YtkcjhkfelaplkaaGreatDoorQhl
import Derived.Test.YtkcjhkfelaplkaaGreatDoorQa
set_option linter.unusedVariables false
set_option linter.unusedSimpArgs false
set_option maxHeartbeats 8000000
set_option maxRecDepth 100000
section
namespace Go.Proofs.YtkcjhkfelaplkaaGreatDoor
open Go.RowKit
theorem in_any (w : World) (v : Value) (I : List (List UInt8)) (id : List UInt8) (h : IdsAt w v I) (hl : ∀ i ∈ I, i.length = 32) (hil : id.length = 32) (hn : I.length ≤ 100000) :
  Calls Tryz.prog 36 #[v, .agg (idC id).toArray] w fun r w' => r = .returned (.bool (decide (id ∈ I))) ∧ Below w.heap.size w w' := by
 obtain ⟨ao, cap, rfl⟩ : ∃ ao cap, v = .slice ao I.length cap := by simpa using RowsAt.form h
 have HB1 := Lib.hid (below_new w (.cells (idC id).toArray 46))
 have HN1 := Lib.hid (row_news (heap_alloc_new w (.cells (idC id).toArray 46)))
 have HH := Lib.hid h
 have HL := Lib.hid hl
 have HIL := Lib.hid hil
 generalize hZ : decide (id ∈ I) = Z
 have HZ := Lib.hid hZ
 clear h hl hil hZ
 go_enter Tryz.func36, Tryz.ntmps36
 go_wp2_with fail
 go_loopw [5] (fun i wr => ∃ (k : Nat), k ≤ I.length ∧ i = .int .i64 k ∧ Hid (∀ (j : Nat) (x : List UInt8), j < k → I[j]? = some x → x ≠ id) ∧ Hid (Below w.heap.size w wr) ∧ Hid (∀ j u, (idC id)[j]? = some u → wr.cell? ((⟨w.heap.size, 0, none⟩ : Addr).add j) = some u)) (fun i _ => I.length - (intOf i).toNat)
 case atStart => exact ⟨0, by omega, rfl, fun j x h => absurd h (by omega), HB1.out, HN1.out⟩
 case round =>
  obtain ⟨k, hk, rfl, HA, HB, HI⟩ := hrel
  by_cases hlt : k < I.length
  ·
   have hlt' : (k : Int) < (I.length : Int) := by omega
   have hk0 : (0 : Int) ≤ (k : Int) := by omega
   obtain ⟨x, hx⟩ : ∃ x, I[k]? = some x := ⟨I[k], List.getElem?_eq_getElem hlt⟩
   have hxl := HL.out x (List.mem_of_getElem? hx)
   obtain ⟨a, rfl, _, hc⟩ := (RowsAt.below HH.out HB.out).elem k (idC x) (by simp [hx])
   have HC1 := Lib.hid (show ∀ j u, (idC x)[j]? = some u → wr.drew.cell? ((a.add (k * 32)).add j) = some u from hc)
   have HC2 := Lib.hid (show ∀ j u, (idC id)[j]? = some u → wr.drew.cell? ((⟨w.heap.size, 0, none⟩ : Addr).add j) = some u from HI.out)
   have HXL := Lib.hid hxl
   have HX := Lib.hid hx
   have hq := fun W => eq_id x id hxl HIL.out W
   clear hx hxl hc
   by_cases he : x = id
   ·
    have HR := Lib.hid (show Z = true by rw [← HZ.out]; exact decide_eq_true (by rw [← he]; exact List.mem_of_getElem? HX.out))
    rw [show decide (x = id) = true from decide_eq_true he] at hq
    clear he
    go_wp2_with fail
    refine rgn_still (by kernel_rfl) (by kernel_rfl) ?_
    repeat still_step
    (with_reducible apply still_id (hc := HC1.out) (hl := HXL.out))
    rfl
    rfl
    rfl
    (with_reducible apply still_id (hc := HC2.out) (hl := HIL.out))
    rfl
    rfl
    rfl
    repeat still_step
    refine wpStill_nil ?_
    go_wp2_with fail
    go_ret
    exact ⟨ret_bool HR.out.symm, HB.out.drew⟩
   ·
    have HA2 := Lib.hid (show ∀ (j : Nat) (y : List UInt8), j < k + 1 → I[j]? = some y → y ≠ id from fun j y hj hy => by
     by_cases e : j = k
     · subst e; rw [HX.out] at hy; cases hy; exact he
     · exact HA.out j y (by omega) hy)
    rw [show decide (x = id) = false from decide_eq_false he] at hq
    clear he
    go_wp2_with fail
    refine rgn_still (by kernel_rfl) (by kernel_rfl) ?_
    repeat still_step
    (with_reducible apply still_id (hc := HC1.out) (hl := HXL.out))
    rfl
    rfl
    rfl
    (with_reducible apply still_id (hc := HC2.out) (hl := HIL.out))
    rfl
    rfl
    rfl
    repeat still_step
    refine wpStill_nil ?_
    go_wp2_with fail
    go_roundw
    case rel => exact ⟨k + 1, by omega, by go_num, HA2.out, HB.out.drew, HI.out⟩
    case measure => simp [intOf]; omega
  ·
   have HR := Lib.hid (show Z = false by
    rw [← HZ.out]
    refine decide_eq_false (fun hin => ?_)
    obtain ⟨j, hj⟩ := List.getElem?_of_mem hin
    exact HA.out j id (by have := (List.getElem?_eq_some_iff.1 hj).1; omega) hj rfl)
   have hlt' : ¬ (k : Int) < (I.length : Int) := by omega
   go_wp2_with fail
   go_ret
   exact ⟨ret_bool HR.out.symm, HB.out⟩
def Gr.kd (L : List St.It) (id : List UInt8) : Int := match Gr.ob L id with
 | none => 0
 | some o => o.kind
theorem refkindX_any (w : World) (v : Value) (L : List St.It) (id : List UInt8) (h : DSt w v L) (hil : id.length = 32) :
  Calls Tryz.prog 20 #[.agg #[v], .agg (idC id).toArray] w fun r w' => r = .returned (.int .i64 (Gr.kd L id)) ∧ Below w.heap.size w w' := by
 have hfew := h.few
 have HA := Lib.hid (fun W (hb : Below w.heap.size w W) => at_any W v L id (h.below hb) hil)
 obtain ⟨ao, cap, rfl⟩ := h.form
 have HB2 := Lib.hid (below2 w (.cells #[.slice ao L.length cap] 28) (.cells (idC id).toArray 46))
 have c2 := (box2_cell w (.slice ao L.length cap) 28 (.cells (idC id).toArray 46))
 have HN2 := Lib.hid (row_news (new2 w (.cells #[.slice ao L.length cap] 28) (.cells (idC id).toArray 46)))
 have HH := Lib.hid h
 have HIL := Lib.hid hil
 have hpl := St.pos_le L id
 have HV : Hid (St.has L id = false → atV L id = -1 ∧ Gr.kd L id = 0) := Lib.hid (fun h => ⟨by unfold atV; rw [h]; rfl, by unfold Gr.kd; rw [Gr.ob_none h]⟩)
 have HW : Hid (St.has L id = true → atV L id = (St.pos L id : Int) ∧ ∃ x, L[St.pos L id]? = some x ∧ ∀ o, Rm.dec x.text.data.toList = some o → Gr.kd L id = o.kind) := Lib.hid (fun h' => by
  obtain ⟨x, hx, he⟩ := St.has_at h.srt h'
  refine ⟨by unfold atV; rw [h']; rfl, x, hx, fun o ho => ?_⟩
  unfold Gr.kd
  rw [show Gr.ob L id = some o by rw [← he, Gr.ob_at h.srt hx, ho]])
 generalize atV L id = Z at *
 generalize St.pos L id = pos at *
 generalize Gr.kd L id = KD at *
 clear h hil
 go_enter Tryz.func20, Tryz.ntmps20
 go_wp2_with ((with_reducible refine ld_id (x := .tmp 3) (p := ⟨w.heap.size + 1, 0, none⟩) ?_ ?_ ?_ HN2.out HIL.out ?_); rfl; rfl; rfl)
 refine (HA.out _ HB2.out).mono ?_
 rintro r w3 ⟨rfl, hb3⟩
 have hB := HB2.out.trans (hb3.mono (show w.heap.size ≤ _ by simp; omega))
 have c3 := (hb3.cell (p := ⟨w.heap.size, 0, none⟩) (by simp; omega)).trans c2
 clear hb3 c2 HA HN2 HB2
 cases hq : St.has L id with
 | false =>
   obtain ⟨rfl, rfl⟩ := (HV.out hq)
   clear HV HW hq
   go_wp2_with fail
   go_ret
   exact ⟨rfl, hB⟩
 | true =>
   obtain ⟨rfl, x, hx, hkd⟩ := HW.out hq
   clear HV HW hq
   have hlt : pos < L.length := (List.getElem?_eq_some_iff.1 hx).1
   obtain ⟨a, c, rfl, hd, hc⟩ := (HH.out.below hB).elem pos x hx
   have hxl := hd.idl
   obtain ⟨o, cs, rfl, _, _, hO0, hdec, _⟩ := hd
   have hcell := ri_ob hc hxl 0 _ hO0
   rw [add_two a (pos * 105) 33 (by decide)] at hcell
   have hA1 := add_block a (pos * 105)
   have hA2 : (a.add (pos * 105)).off = a.off + pos * 105 := by unfold Addr.add; split <;> simp_all
   have hlt' : (pos : Int) < (L.length : Int) := by omega
   have hk0 : (0 : Int) ≤ (pos : Int) := by omega
   obtain rfl := hkd o hdec
   clear hx hc hO0 hdec hxl hkd
   go_wp2_with fail
   go_ret
   exact ⟨rfl, hB⟩
def Gr.obz (L : List St.It) (id : List UInt8) : Ob := (Gr.ob L id).getD noOb
theorem ld_obat {ops : Array Oper} {rest : List Oper} {op : Oper} {a : Act} {w : World} {Q : Exit → Act → World → Prop} {x : Operand} {p : Addr} {cs : Array Value} (ho : op.op = .load 59 x) (hx : a.eval x = .pointer (some p)) (hg : op.guard = none) (hc : ∀ j v, cs[j]? = some v → w.cell? (p.add j) = some v) (hs : cs.size = 72)
  (h : wpList Tryz.prog ops Q rest (a.put op.dst (.agg cs)) w) : wpList Tryz.prog ops Q (op :: rest) a w := by
 have := wpList_load_at (w := w) (Q := Q) (rest := rest) (ops := ops) hg 59 x ho p hx cs.toList _ (fun j v hj => hc j v (by simpa using hj)) Tryz.underlying59 rfl (by have := obsize hs; simpa using this)
 exact this (by simpa using h)
theorem zero_at (w : World) : ObAt w (obC noOb nilV nilV).toArray noOb none none 0 0 :=
 ⟨noF, RowsAt.nil _ _, RowsAt.nil _ _, (fun e he => by cases he), (fun e he => by cases he), (fun e he => by cases he), (show (0 : Nat) ≤ maxLen from Nat.zero_le _), (show (0 : Nat) ≤ maxLen from Nat.zero_le _), (show (0 : Nat) ≤ maxLen from Nat.zero_le _), (show (0 : Nat) < 4294967296 by decide)⟩
namespace R
theorem refobject_any (B kk : Nat) (w : World) (v : Value) (L : List St.It) (id : List UInt8) (h : DSt B kk w v L) (hil : id.length = 32) :
  Calls Tryz.prog 19 #[.agg #[v], .agg (idC id).toArray] w fun r w' => ∃ cs ao bo ca cb, r = .returned (.agg cs) ∧ ObAt w' cs (Gr.obz L id) ao bo ca cb ∧ Below w.heap.size w w' := by
 have hfew := h.few
 have HA := Lib.hid (fun W (hb : Below w.heap.size w W) => at_any W v L id (h.old.below hb) hil)
 obtain ⟨bo', cap, rfl⟩ := h.form
 have hz28 := (zero_of_info zero28).1
 have HS0 := Lib.hid noF.size
 have HN0 := Lib.hid noF.one
 have HBN := Lib.hid built_none
 have HZA := Lib.hid zero_at
 have HH := Lib.hid h
 have HIL := Lib.hid hil
 have hpl := St.pos_le L id
 have HV : Hid (St.has L id = false → atV L id = -1 ∧ Gr.obz L id = noOb) := Lib.hid (fun h => ⟨by unfold atV; rw [h]; rfl, by unfold Gr.obz; rw [Gr.ob_none h]; rfl⟩)
 have HW : Hid (St.has L id = true → atV L id = (St.pos L id : Int) ∧ ∃ x, L[St.pos L id]? = some x ∧ ∀ o, Rm.dec x.text.data.toList = some o → Gr.obz L id = o) := Lib.hid (fun h' => by
  obtain ⟨x, hx, he⟩ := St.has_at h.srt h'
  refine ⟨by unfold atV; rw [h']; rfl, x, hx, fun o ho => ?_⟩
  unfold Gr.obz
  rw [show Gr.ob L id = some o by rw [← he, Gr.ob_at h.srt hx, ho]]; rfl)
 generalize atV L id = Z at *
 generalize St.pos L id = pos at *
 generalize Gr.obz L id = OZ at *
 generalize (obC noOb nilV nilV).toArray = z at *
 clear h hil
 have HB2 := Lib.hid (below2 w (.cells #[.slice bo' L.length cap] 28) (.cells (idC id).toArray 46))
 have HB3 := Lib.hid (HB2.out.alloc HB2.out.size (.cells z 59))
 have c2 := (box2_cell w (.slice bo' L.length cap) 28 (.cells (idC id).toArray 46))
 have HN2 := Lib.hid (row_news (new2 w (.cells #[.slice bo' L.length cap] 28) (.cells (idC id).toArray 46)))
 have HX3 := Lib.hid (heap_alloc_new ((w.alloc (.cells #[.slice bo' L.length cap] 28)).alloc (.cells (idC id).toArray 46)) (.cells z 59))
 have HBN3 := Lib.hid (below_new ((w.alloc (.cells #[.slice bo' L.length cap] 28)).alloc (.cells (idC id).toArray 46)) (.cells z 59))
 have hsz2 : ((w.alloc (.cells #[.slice bo' L.length cap] 28)).alloc (.cells (idC id).toArray 46)).heap.size = w.heap.size + 2 := by simp
 rw [hsz2] at HX3 HBN3
 have HN3 := Lib.hid (show ∀ j u, (idC id)[j]? = some u → _ from fun j u hu => (HBN3.out.cell (by have := World.block_lt_of_cell? _ _ (HN2.out j u hu); omega)).trans (HN2.out j u hu))
 have c3 := (HBN3.out.cell (p := ⟨w.heap.size, 0, none⟩) (show w.heap.size < w.heap.size + 2 by omega)).trans c2
 clear c2 HN2 HBN3 hsz2
 go_enter Tryz.func19, Tryz.ntmps19
 go_wp2_with ((with_reducible refine ld_id (x := .tmp 3) (p := ⟨w.heap.size + 1, 0, none⟩) ?_ ?_ ?_ HN3.out HIL.out ?_); rfl; rfl; rfl)
 refine (HA.out _ HB3.out).mono ?_
 rintro r w3 ⟨rfl, hb3⟩
 have hB := HB3.out.trans (hb3.mono HB3.out.size)
 have c4 := (hb3.cell (p := ⟨w.heap.size, 0, none⟩) (by simp; omega)).trans c3
 have E3 := Lib.hid ((hb3.block (w.heap.size + 2) (by simp)).trans HX3.out)
 have hlt3 := (Array.getElem?_eq_some_iff.1 E3.out).1
 clear hb3 c3 HA HN3 HB3 HX3 HB2
 cases hq : St.has L id with
 | false =>
   obtain ⟨rfl, rfl⟩ := (HV.out hq)
   clear HV HW hq
   go_wp2_with (first
    | ((with_reducible refine bd_obz ?_ ?_ HBN.out ?_); rfl; rfl)
    | ((with_reducible refine st_obr (x := .tmp 4) (y := .tmp 11) ?_ ?_ ?_ ?_ E3.out HS0.out HS0.out HN0.out ?_); rfl; rfl; rfl; rfl))
   refine bodyPost_ret (results_cell_row (fn := Tryz.f19) (p := 4) (by rfl) _ _ (w.heap.size + 2) _ _ _ _ (by rfl) (setRow_heap _ _ _ _ _ _ E3.out) Tryz.underlying59 rfl (obsize HS0.out)) rfl ⟨_, none, none, 0, 0, rfl, HZA.out _, below_setRow hB (by omega) _⟩
 | true =>
   obtain ⟨rfl, x, hx, hkd⟩ := HW.out hq
   clear HV HW hq
   have hlt : pos < L.length := (List.getElem?_eq_some_iff.1 hx).1
   obtain ⟨a, c, rfl, hd, hc0⟩ := HH.out.elem pos x hx
   have hc : ∀ (j : Nat) (u : Value), c[j]? = some u → w3.cell? ((a.add (pos * 105)).add j) = some u := fun j u hu => by
    have h1 := hc0 j u hu
    rw [hB.cell (World.block_lt_of_cell? _ _ h1)]; exact h1
   have hxl := hd.idl
   obtain ⟨o, cs, ao, bo, ca, cb, rfl, hO, hF, hdec, _⟩ := hd
   have HCS := Lib.hid hO.F.size
   have HCO := Lib.hid hO.F.one
   have HO := Lib.hid ((hO.below hB).moved (w' := w3.setRow (w.heap.size + 2) cs) (Far.fresh (k' := w.heap.size + 2) hO hF (by omega)) (fun g _ hne _ => setRow_other _ _ _ _ (fun e => hne e)))
   have HOC := Lib.hid (show ∀ (j : Nat) (u : Value), cs[j]? = some u → w3.cell? ((⟨a.block, a.off + pos * 105 + 33, none⟩ : Addr).add j) = some u from fun j u hu => by
    have h1 := ri_ob hc hxl j u hu
    rw [← add_two a (pos * 105) 33 (by decide), add_add]
    exact h1)
   have hA1 := add_block a (pos * 105)
   have hA2 : (a.add (pos * 105)).off = a.off + pos * 105 := by unfold Addr.add; split <;> simp_all
   have hlt' : (pos : Int) < (L.length : Int) := by omega
   have hk0 : (0 : Int) ≤ (pos : Int) := by omega
   obtain rfl := hkd o hdec
   clear hx hc hc0 hdec hxl hkd hO hF
   go_wp2_with (first
    | ((with_reducible refine ld_obat (x := .tmp 16) (p := ⟨a.block, a.off + pos * 105 + 33, none⟩) (cs := cs) ?_ ?_ ?_ HOC.out HCS.out ?_); rfl; rfl; rfl)
    | ((with_reducible refine st_obr (x := .tmp 4) (y := .tmp 17) ?_ ?_ ?_ ?_ E3.out HS0.out HCS.out HCO.out ?_); rfl; rfl; rfl; rfl))
   refine bodyPost_ret (results_cell_row (fn := Tryz.f19) (p := 4) (by rfl) _ _ (w.heap.size + 2) _ _ _ _ (by rfl) (setRow_heap _ _ _ _ _ _ E3.out) Tryz.underlying59 rfl (obsize HCS.out)) rfl ⟨_, ao, bo, ca, cb, rfl, HO.out, below_setRow hB (by omega) _⟩
end R
end Go.Proofs.YtkcjhkfelaplkaaGreatDoor
end
section
namespace Go.Proofs.YtkcjhkfelaplkaaGreatDoor
open Go.RowKit
theorem own_le0 {w : World} {B B' e k n : Nat} {v : Value} {xs : List Value} (h : w.ownsRow B e k v n xs) (hb : B' ≤ B) : w.ownsRow B' e k v n xs := by
 refine ⟨h.1, h.2.imp id ?_⟩
 rintro ⟨g, cap, cur, hv, hg, rest⟩
 exact ⟨g, cap, cur, hv, Nat.le_trans hb hg, rest⟩
namespace R
end R
end Go.Proofs.YtkcjhkfelaplkaaGreatDoor
end
