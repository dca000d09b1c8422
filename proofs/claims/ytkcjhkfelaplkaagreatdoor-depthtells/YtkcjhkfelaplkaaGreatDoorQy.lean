/-
  WALKS OF LAYER 12: the law's Ids: ids by places.
-/
import Derived.Test.YtkcjhkfelaplkaaGreatDoorQv
import Derived.Test.YtkcjhkfelaplkaaGreatDoorQu
import Derived.Test.YtkcjhkfelaplkaaGreatDoorQs
import Derived.Test.YtkcjhkfelaplkaaGreatDoorQa
set_option linter.unusedVariables false
set_option linter.unusedSimpArgs false
set_option maxHeartbeats 8000000
set_option maxRecDepth 100000
section
namespace Go.Proofs.YtkcjhkfelaplkaaGreatDoor
open Go.RowKit
def oneId (x : UInt8) : List UInt8 := x :: List.replicate 31 0
theorem oneId_len (x : UInt8) : (oneId x).length = 32 := rfl
theorem built_one (x : UInt8) : Tryz.prog.built 46 [(0, .int .u8 (x.toNat : Int))] = some (idC (oneId x)).toArray := by kernel_rfl
theorem bd_one {q : Nat} {ops : Array Oper} {rest : List Oper} {op : Oper} {a : Act} {w : World} {Q : Exit → Act → World → Prop} {x : Operand} {b : UInt8} (ho : op.op = .build 46 #[(0, x)]) (hx : a.eval x = .int .u8 (q : Int)) (hg : op.guard = none) (hq : b.toNat = q)
  (h : wpList Tryz.prog ops Q rest (a.put op.dst (.agg (idC (oneId b)).toArray)) w) : wpList Tryz.prog ops Q (op :: rest) a w :=
 wpList_build_as hg _ _ ho _ (by simp only [List.map_toArray, List.map_cons, List.map_nil, hx, ← hq]; exact built_one b) h
theorem lawIds_any (w : World) (v rv : Value) (I : List (List UInt8)) (R : List UInt8) (hI : IdsAt w v I) (hIl : ∀ i ∈ I, i.length = 32) (hIn : I.length ≤ 100) (hR : ByAt w rv R) (hRn : R.length ≤ 10) :
  Calls Tryz.prog 10 #[v, rv] w fun r w' => ∃ v' J, r = .returned v' ∧ OwnI w' w.heap.size v' J ∧ J.length ≤ 10 ∧ Below w.heap.size w w' := by
 obtain ⟨ao, cap, rfl⟩ : ∃ ao cap, v = .slice ao I.length cap := by simpa using RowsAt.form hI
 obtain ⟨bo, bc, rfl⟩ := hR.form
 have HI := Lib.hid hI
 have HL := Lib.hid hIl
 have HR := Lib.hid hR
 clear hI hIl hR
 go_enter Tryz.func10, Tryz.ntmps10
 go_wp2_with fail
 go_loopw [5, 6] (fun ov i wr => ∃ (k : Nat) (J : List (List UInt8)), k ≤ R.length ∧ i = .int .i64 k ∧ Hid (J.length = k) ∧ Hid (OwnI wr w.heap.size ov J) ∧ Hid (Below w.heap.size w wr)) (fun _ i _ => R.length - (intOf i).toNat)
 case atStart => exact ⟨0, [], by omega, rfl, rfl, OwnI.nil _ _, Below.refl _ _⟩
 case round =>
  obtain ⟨k, J, hk, rfl, HJK, HO, HB⟩ := hrel
  obtain ⟨oo, oc, rfl⟩ := HO.out.form
  have hJ2 : J.length ≤ 2000 := by have := HJK.out; omega
  have hbs := HB.out.size
  by_cases hlt : k < R.length
  ·
   have hlt' : (k : Int) < (R.length : Int) := by omega
   have hk0 : (0 : Int) ≤ (k : Int) := by omega
   obtain ⟨x, hx⟩ : ∃ x, R[k]? = some x := ⟨R[k], List.getElem?_eq_getElem hlt⟩
   obtain ⟨ra, hra, hc⟩ := (HR.out.below HB.out).elem k x hx
   subst hra
   have hA1 := add_block ra k
   have hA2 : (ra.add k).off = ra.off + k := by unfold Addr.add; split <;> simp_all
   have hx256 : x.toNat < 256 := x.toNat_lt
   generalize hqx : x.toNat = q at *
   have HQX := Lib.hid hqx
   clear hqx
   have hx0 : (0 : Int) ≤ (q : Int) := by omega
   have hrb : (q : Int) ≤ 255 := by omega
   have hwr : IntKind.i64.wrap (q : Int) = (q : Int) := IntWalk.i64_in _ (by omega)
   clear hx
   by_cases h0 : I.length = 0 ∨ 200 ≤ q
   ·
    have HOL := Lib.hid (oneId_len x)
    by_cases hI0 : I.length = 0
    ·
     have hIz : ((I.length : Int) == 0) = true := by rw [hI0]; rfl
     clear h0 hI0
     go_wp2_with (first
      | ((with_reducible refine bd_one (b := x) (x := .tmp 28) ?_ ?_ ?_ HQX.out ?_); rfl; rfl; rfl)
      | ((with_reducible refine bs_id2 (l := oneId x) (x := .tmp 29) ?_ ?_ ?_ HOL.out ?_); rfl; rfl; rfl)
      | ((with_reducible refine ap_id (.tmp 24) (.tmp 30) ?_ ?_ ?_ ?_ HO.out hbs HOL.out hJ2 (fun v' w' h1 h2 => ?_)); rfl; rfl; rfl; rfl))
     go_roundw
     case rel => exact ⟨k + 1, J ++ [oneId x], by omega, by go_num, by show _ = _; have := HJK.out; simp; omega, h1.out, HO.out.grown HB.out hbs h2.out⟩
     case measure => simp [intOf]; omega
    ·
     have hIz : ((I.length : Int) == 0) = false := by simpa using hI0
     have h200 : (200 : Int) ≤ (q : Int) := by omega
     clear h0
     go_wp2_with (first
      | ((with_reducible refine bd_one (b := x) (x := .tmp 28) ?_ ?_ ?_ HQX.out ?_); rfl; rfl; rfl)
      | ((with_reducible refine bs_id2 (l := oneId x) (x := .tmp 29) ?_ ?_ ?_ HOL.out ?_); rfl; rfl; rfl)
      | ((with_reducible refine ap_id (.tmp 24) (.tmp 30) ?_ ?_ ?_ ?_ HO.out hbs HOL.out hJ2 (fun v' w' h1 h2 => ?_)); rfl; rfl; rfl; rfl))
     go_roundw
     case rel => exact ⟨k + 1, J ++ [oneId x], by omega, by go_num, by show _ = _; have := HJK.out; simp; omega, h1.out, HO.out.grown HB.out hbs h2.out⟩
     case measure => simp [intOf]; omega
   ·
    have hI0 : I.length ≠ 0 := fun e => h0 (.inl e)
    have hIz : ((I.length : Int) == 0) = false := by simpa using hI0
    have h200 : ¬ (200 : Int) ≤ (q : Int) := by omega
    obtain ⟨m, hm⟩ : ∃ m, m = I.length - 1 - q % I.length := ⟨_, rfl⟩
    have hmod : q % I.length < I.length := Nat.mod_lt _ (by omega)
    have hml : m < I.length := by omega
    have hmi : (I.length : Int) - 1 - (q : Int) % (I.length : Int) = (m : Int) := by
     rw [hm, ← Int.natCast_emod]; omega
    have hml' : (m : Int) < (I.length : Int) := by omega
    have hm0 : (0 : Int) ≤ (m : Int) := by omega
    have hJp : (0 : Int) < (I.length : Int) := by omega
    obtain ⟨id, hid⟩ : ∃ y, I[m]? = some y := ⟨I[m], List.getElem?_eq_getElem hml⟩
    have HXL := Lib.hid (HL.out id (List.mem_of_getElem? hid))
    obtain ⟨ia, hia, _, hic⟩ := (RowsAt.below HI.out HB.out).elem m (idC id) (by simp [hid])
    subst hia
    have HC := Lib.hid hic
    clear hid hic hm hmod h0
    go_wp2_with (first
     | ((with_reducible refine ld_id (l := id) (x := .tmp 46) (p := ia.add (m * 32)) ?_ ?_ ?_ HC.out HXL.out ?_); rfl; rfl; rfl)
     | ((with_reducible refine bs_id2 (l := id) (x := .tmp 47) ?_ ?_ ?_ HXL.out ?_); rfl; rfl; rfl)
     | ((with_reducible refine ap_id (.tmp 32) (.tmp 48) ?_ ?_ ?_ ?_ HO.out hbs HXL.out hJ2 (fun v' w' h1 h2 => ?_)); rfl; rfl; rfl; rfl))
    go_roundw
    case rel => exact ⟨k + 1, J ++ [id], by omega, by go_num, by show _ = _; have := HJK.out; simp; omega, h1.out, HO.out.grown HB.out hbs h2.out⟩
    case measure => simp [intOf]; omega
  ·
   have hlt' : ¬ (k : Int) < (R.length : Int) := by omega
   go_wp2_with fail
   go_ret
   exact ⟨_, rfl, J, HO.out, by have := HJK.out; omega, HB.out⟩
end Go.Proofs.YtkcjhkfelaplkaaGreatDoor
end
section
namespace Go.Proofs.YtkcjhkfelaplkaaGreatDoor
open Go.RowKit
def Gr.endF (L : List St.It) : Nat → List UInt8 → Option (List UInt8)
 | 0, _ => none
 | n + 1, id => match Gr.ob L id with
   | none => none
   | some o => if o.kind = 4 then Gr.endF L n o.target else some id
def Gr.chn (L : List St.It) : Nat → List UInt8 → List UInt8
 | 0, id => id
 | n + 1, id => match Gr.ob L id with
   | none => id
   | some o => Gr.chn L n o.target
def Gr.tagB (L : List St.It) (id : List UInt8) : Bool := match Gr.ob L id with
 | none => false
 | some o => decide (o.kind = 4)
theorem Gr.endF_mono {L : List St.It} : ∀ (n : Nat) (id x : List UInt8), Gr.endF L n id = some x → Gr.endF L (n + 1) id = some x
 | 0, _, _, h => by simp [Gr.endF] at h
 | n + 1, id, x, h => by
   rw [Gr.endF] at h ⊢
   cases ho : Gr.ob L id with
   | none => rw [ho] at h; simp at h
   | some o =>
     rw [ho] at h
     simp only at h ⊢
     by_cases h4 : o.kind = 4
     · rw [if_pos h4] at h ⊢; exact Gr.endF_mono n _ _ h
     · rw [if_neg h4] at h ⊢; exact h
theorem Gr.endF_step {L : List St.It} : ∀ (i q : Nat) (id : List UInt8), (∀ j, j < i → Gr.tagB L (Gr.chn L j id) = true) → Gr.endF L (i + q) id = Gr.endF L q (Gr.chn L i id)
 | 0, q, id, _ => by simp [Gr.chn]
 | i + 1, q, id, h => by
   have h0 := h 0 (by omega)
   simp only [Gr.chn] at h0
   unfold Gr.tagB at h0
   cases ho : Gr.ob L id with
   | none => rw [ho] at h0; simp at h0
   | some o =>
     rw [ho] at h0
     have h4 : o.kind = 4 := by simpa using h0
     rw [show i + 1 + q = (i + q) + 1 by omega, Gr.endF, ho]
     simp only [if_pos h4]
     have := Gr.endF_step i q o.target (fun j hj => by
      have := h (j + 1) (by omega)
      simpa [Gr.chn, ho] using this)
     rw [this]
     simp [Gr.chn, ho]
theorem Gr.ob_has {L : List St.It} {id : List UInt8} {o : Ob} (h : Gr.ob L id = some o) : id ∈ idsOf L := by
 unfold Gr.ob at h
 split at h
 ·
  rename_i hh
  unfold St.has at hh
  rw [List.any_eq_true] at hh
  obtain ⟨r, hr, he⟩ := hh
  exact List.mem_map.2 ⟨r, hr, by simpa using he⟩
 · cases h
theorem Gr.not_nodup {A : List Gr.Id} (h : ¬ A.Nodup) : ∃ (i j : Nat) (x : Gr.Id), i < j ∧ A[i]? = some x ∧ A[j]? = some x := by
 induction A with
 | nil => exact absurd .nil h
 | cons a r ih =>
   by_cases ha : a ∈ r
   ·
    obtain ⟨j, hj⟩ := List.getElem?_of_mem ha
    exact ⟨0, j + 1, a, by omega, rfl, by simpa using hj⟩
   ·
    have : ¬ r.Nodup := fun hn => h (List.nodup_cons.2 ⟨ha, hn⟩)
    obtain ⟨i, j, x, hij, h1, h2⟩ := ih this
    exact ⟨i + 1, j + 1, x, by omega, by simpa using h1, by simpa using h2⟩
theorem Gr.endF_le {L : List St.It} {n m : Nat} {id x : List UInt8} (h : Gr.endF L n id = some x) (hm : n ≤ m) : Gr.endF L m id = some x := by
 induction hm with
 | refl => exact h
 | step _ ih => exact Gr.endF_mono _ _ _ ih
theorem Gr.endF_less {L : List St.It} {n : Nat} {id x : List UInt8} (h : Gr.endF L n id = some x) (hn : L.length < n) : ∃ m, m < n ∧ Gr.endF L m id = some x := by
 by_cases ht : ∀ j, j < n - 1 → Gr.tagB L (Gr.chn L j id) = true
 ·
  have hlast : Gr.endF L 1 (Gr.chn L (n - 1) id) = some x := by
   rw [← Gr.endF_step (n - 1) 1 id ht, show n - 1 + 1 = n by omega]; exact h
  have hin : ∀ j, j < n → Gr.chn L j id ∈ idsOf L := fun j hj => by
   rcases Nat.lt_or_ge j (n - 1) with k | k
   ·
    have := ht j k
    unfold Gr.tagB at this
    cases ho : Gr.ob L (Gr.chn L j id) with
    | none => rw [ho] at this; simp at this
    | some o => exact Gr.ob_has ho
   ·
    have : j = n - 1 := by omega
    subst this
    rw [Gr.endF] at hlast
    cases ho : Gr.ob L (Gr.chn L (n - 1) id) with
    | none => rw [ho] at hlast; simp at hlast
    | some o => exact Gr.ob_has ho
  have hnd : ¬ ((List.range n).map (fun j => Gr.chn L j id)).Nodup := fun hd => by
   have := Gr.nodup_len hd (B := idsOf L) (fun x hx => by
    obtain ⟨j, hj, rfl⟩ := List.mem_map.1 hx
    exact hin j (by simpa using hj))
   simp [idsOf] at this
   omega
  obtain ⟨i, j, y, hij, h1, h2⟩ := Gr.not_nodup hnd
  have hjn : j < n := by
   have := (List.getElem?_eq_some_iff.1 h2).1
   simpa using this
  rw [List.getElem?_map, List.getElem?_range (by omega)] at h1
  rw [List.getElem?_map, List.getElem?_range (by omega)] at h2
  simp only [Option.map_some, Option.some.injEq] at h1 h2
  refine ⟨i + (n - j), by omega, ?_⟩
  rw [Gr.endF_step i (n - j) id (fun q hq => ht q (by omega)), h1, ← h2, ← Gr.endF_step j (n - j) id (fun q hq => ht q (by omega)), show j + (n - j) = n by omega]
  exact h
 ·
  have hex : ∃ j, j < n - 1 ∧ (∀ q, q < j → Gr.tagB L (Gr.chn L q id) = true) ∧ Gr.tagB L (Gr.chn L j id) = false := by
   false_or_by_contra
   rename_i hno
   apply ht
   intro j
   induction j using Nat.strongRecOn with
   | ind j ih =>
     intro hj
     cases hb : Gr.tagB L (Gr.chn L j id) with
     | true => rfl
     | false => exact absurd ⟨j, hj, fun q hq => ih q hq (by omega), hb⟩ hno
  obtain ⟨j, hj, hq, hb⟩ := hex
  refine ⟨j + 1, by omega, ?_⟩
  have h2 : Gr.endF L (n - j) (Gr.chn L j id) = some x := by
   rw [← Gr.endF_step j (n - j) id hq, show j + (n - j) = n by omega]; exact h
  rw [Gr.endF_step j 1 id hq]
  rw [show n - j = (n - j - 1) + 1 by omega, Gr.endF] at h2
  rw [Gr.endF]
  unfold Gr.tagB at hb
  cases ho : Gr.ob L (Gr.chn L j id) with
  | none => rw [ho] at h2; simp at h2
  | some o =>
    rw [ho] at hb h2
    have h4 : ¬ o.kind = 4 := by simpa using hb
    simp only [if_neg h4] at h2 ⊢
    exact h2
theorem Gr.endF_few {L : List St.It} {id x : List UInt8} : ∀ (n : Nat), Gr.endF L n id = some x → Gr.endF L L.length id = some x := by
 intro n
 induction n using Nat.strongRecOn with
 | ind n ih =>
   intro h
   rcases Nat.lt_or_ge L.length n with hn | hn
   ·
    obtain ⟨m, hm, h2⟩ := Gr.endF_less h hn
    exact ih m hm h2
   · exact Gr.endF_le h hn
theorem Gr.endF_more (L : List St.It) (id : List UInt8) : Gr.endF L (L.length + 1) id = Gr.endF L L.length id := by
 cases h : Gr.endF L (L.length + 1) id with
 | some x => exact (Gr.endF_few _ h).symm
 | none =>
   cases h2 : Gr.endF L L.length id with
   | none => rfl
   | some x => rw [Gr.endF_mono _ _ _ h2] at h; cases h
end Go.Proofs.YtkcjhkfelaplkaaGreatDoor
end
section
namespace Go.Proofs.YtkcjhkfelaplkaaGreatDoor
open Go.RowKit
theorem Gr.dec_kind {l : List UInt8} {o : Ob} (h : Rm.dec l = some o) : o.kind ≠ 0 := by
 obtain ⟨hv, _⟩ := Rm.dec_inv h
 intro h0
 unfold validB at hv
 rw [h0] at hv
 simp at hv
theorem Gr.ob_dec {L : List St.It} {id : List UInt8} {o : Ob} (h : Gr.ob L id = some o) : ∃ r : St.It, r ∈ L ∧ Rm.dec r.text.data.toList = some o := by
 unfold Gr.ob at h
 split at h
 ·
  cases hr : L[St.pos L id]? with
  | none => rw [hr] at h; simp at h
  | some r =>
    rw [hr] at h
    exact ⟨r, List.mem_of_getElem? hr, by simpa using h⟩
 · cases h
theorem Gr.endF_z (L : List St.It) (n : Nat) (x : List UInt8) : Gr.endF L (n + 1) x = if (Gr.obz L x).kind = 0 then none else if (Gr.obz L x).kind = 4 then Gr.endF L n (Gr.obz L x).target else some x := by
 unfold Gr.obz
 rw [Gr.endF]
 cases ho : Gr.ob L x with
 | none => rfl
 | some o =>
   obtain ⟨r, _, hd⟩ := Gr.ob_dec ho
   have h0 := Gr.dec_kind hd
   simp only [Option.getD_some, if_neg h0]
def Gr.AEnd (E : Option (List UInt8)) (w : World) (r : Ending) (w' : World) : Prop :=
 r = .returned (.tuple #[.agg (idC (E.getD zId)).toArray, .bool E.isSome]) ∧ (E.getD zId).length = 32 ∧ Below w.heap.size w w'
namespace R
theorem refend_any (B kk : Nat) (w : World) (v : Value) (L : List St.It) (id : List UInt8) (h : DSt B kk w v L) (hil : id.length = 32) :
  Calls Tryz.prog 84 #[.agg #[v], .agg (idC id).toArray] w (Gr.AEnd (Gr.endF L (L.length + 1) id) w) := by
 have hfew := h.few
 have HOB := Lib.hid (fun W (hb : Below w.heap.size w W) (x : List UInt8) (hx : x.length = 32) => refobject_any B kk W v L x (h.below hb) hx)
 have HEZ := Lib.hid (Gr.endF_z L)
 obtain ⟨ao, cap, rfl⟩ := h.form
 have hz24 := (zero_of_info zero24).1
 have hz28 := (zero_of_info zero28).1
 have HS0 := Lib.hid noF.size
 generalize (obC noOb nilV nilV).toArray = z at hz28 HS0
 have HB2 := Lib.hid (below2 w (.cells #[.slice ao L.length cap] 28) (.cells (idC id).toArray 46))
 have c2 := (box2_cell w (.slice ao L.length cap) 28 (.cells (idC id).toArray 46))
 have n2 := (new2 w (.cells #[.slice ao L.length cap] 28) (.cells (idC id).toArray 46))
 have hsz2 : ((w.alloc (.cells #[.slice ao L.length cap] 28)).alloc (.cells (idC id).toArray 46)).heap.size = w.heap.size + 2 := by simp
 have HB3 := Lib.hid (HB2.out.alloc HB2.out.size (.cells (idC zId).toArray 46))
 have HX3 := Lib.hid (heap_alloc_new ((w.alloc (.cells #[.slice ao L.length cap] 28)).alloc (.cells (idC id).toArray 46)) (.cells (idC zId).toArray 46))
 have HBN3 := Lib.hid (below_new ((w.alloc (.cells #[.slice ao L.length cap] 28)).alloc (.cells (idC id).toArray 46)) (.cells (idC zId).toArray 46))
 rw [hsz2] at HX3 HBN3
 have HC3 := Lib.hid ((HBN3.out.cell (p := ⟨w.heap.size, 0, none⟩) (show w.heap.size < w.heap.size + 2 by omega)).trans c2)
 have HN3 := Lib.hid ((HBN3.out.block (w.heap.size + 1) (by omega)).trans n2)
 have HIL := Lib.hid hil
 unfold Gr.AEnd
 generalize hE : Gr.endF L (L.length + 1) id = E
 have HE := Lib.hid hE
 clear h hil c2 n2 hsz2 HB2 HBN3 hE
 go_enter Tryz.func84, Tryz.ntmps84
 go_wp2_with fail
 go_loopw [6] (fun i wr => ∃ (k : Nat) (x : List UInt8) (c : List UInt8), k ≤ L.length + 1 ∧ i = .int .i64 k ∧ Hid (Gr.endF L (L.length + 1 - k) x = E) ∧ Hid (x.length = 32) ∧ Hid (wr.cell? ⟨w.heap.size, 0, none⟩ = some (.slice ao L.length cap)) ∧ Hid (wr.heap[w.heap.size + 1]? = some (.cells (idC x).toArray 46)) ∧ Hid (wr.heap[w.heap.size + 2]? = some (.cells (idC zId).toArray 46)) ∧ Hid (Below w.heap.size w wr)) (fun i _ => L.length + 1 - (intOf i).toNat)
 case atStart => exact ⟨0, id, id, by omega, rfl, HE.out, HIL.out, HC3.out, HN3.out, HX3.out, HB3.out⟩
 case round =>
  clear HC3 HN3 HX3 HB3 HE HIL
  obtain ⟨k, x, _, hk, rfl, HE, HIL, HC, HN, HX, HB⟩ := hrel
  have c0 := HC.out
  have hlt3 := (Array.getElem?_eq_some_iff.1 HX.out).1
  by_cases hlt : k ≤ L.length
  ·
   have hlt' : (k : Int) ≤ (L.length : Int) := by omega
   have HE2 := Lib.hid (show Gr.endF L (L.length - k + 1) x = E by have := HE.out; rwa [show L.length + 1 - k = L.length - k + 1 by omega] at this)
   rw [HEZ.out] at HE2
   have HCA := Lib.hid (HOB.out wr HB.out x HIL.out)
   have HID := Lib.hid (row_news HN.out)
   clear HE
   generalize Gr.obz L x = o at *
   go_wp2_with ((with_reducible refine ld_id (l := x) (x := .tmp 3) (p := ⟨w.heap.size + 1, 0, none⟩) ?_ ?_ ?_ HID.out HIL.out ?_); rfl; rfl; rfl)
   refine HCA.out.mono ?_
   rintro r wx ⟨cs, ao', bo', ca, cb, rfl, hO, hb3⟩
   have hb4 := hb3.alloc hb3.size (.cells cs 59)
   have HB4 := Lib.hid (HB.out.trans (hb4.mono HB.out.size))
   have HC4 := Lib.hid ((hb4.cell (p := ⟨w.heap.size, 0, none⟩) (World.block_lt_of_cell? _ _ c0)).trans c0)
   have HN4 := Lib.hid ((hb4.block (w.heap.size + 1) (by omega)).trans HN.out)
   have HX4 := Lib.hid ((hb4.block (w.heap.size + 2) (by omega)).trans HX.out)
   have HID4 := Lib.hid (row_news HN4.out)
   have HCS := Lib.hid hO.F.size
   have HCO := Lib.hid hO.F.one
   have HTL := Lib.hid hO.F.tal
   have HRG := Lib.hid (hO.F.rta (heap_alloc_last wx (.cells cs 59)))
   have k0 := hO.F.c0
   clear hO hb3 hb4 HCA HID HC HN HX HB c0
   by_cases h0 : o.kind = 0
   ·
    have hq0 : (o.kind == 0) = true := by rw [h0]; rfl
    have HE3 := Lib.hid (show E = none by have := HE2.out; rw [if_pos h0] at this; exact this.symm)
    clear HE2 h0
    go_wp2_with (first
     | ((with_reducible apply st_ob (hs := HCS.out) (h1 := HCO.out)); rfl; rfl; rfl; rfl; exact HS0.out)
     | ((with_reducible refine bd_zid ?_ ?_ ?_); rfl; rfl)
     | ((with_reducible refine st_idg (l := zId) (x := .tmp 4) (y := .tmp 21) (g := w.heap.size + 2) ?_ ?_ ?_ ?_ HX4.out ?_ ?_ ?_); rfl; rfl; rfl; rfl; rfl; rfl))
    refine bodyPost_ret (results_cell_tmp (fn := Tryz.f84) (p := 4) (q := 5) (by rfl) _ _ (w.heap.size + 2) _ _ _ _ (by rfl) (setRow_heap _ _ _ _ _ _ HX4.out) Tryz.underlying46 rfl (by rw [List.size_toArray]; exact idsize rfl)) rfl ⟨by rw [HE3.out]; rfl, by rw [HE3.out]; rfl, below_setRow HB4.out (by omega) _⟩
   ·
    have hq0 : (o.kind == 0) = false := by simpa using h0
    by_cases h4 : o.kind = 4
    ·
     have hq4 : (o.kind == 4) = true := by rw [h4]; rfl
     have HE3 := Lib.hid (show Gr.endF L (L.length - k) o.target = E by have := HE2.out; rw [if_neg h0, if_pos h4] at this; exact this)
     clear HE2 h0
     rw [h4] at k0 
     clear hq0 hq4
     go_wp2_with (first
      | ((with_reducible apply st_ob (hs := HCS.out) (h1 := HCO.out)); rfl; rfl; rfl; rfl; exact HS0.out)
      | ((with_reducible apply ld_idm (x := .tmp 26) (hc := HRG.out) (hl := HTL.out)); rfl; rfl; rfl)
      | ((with_reducible refine st_idg (l := o.target) (x := .tmp 3) (y := .tmp 27) (g := w.heap.size + 1) ?_ ?_ ?_ ?_ HN4.out ?_ HTL.out ?_); rfl; rfl; rfl; rfl; exact (idC_length _).trans HIL.out))
     go_roundw
     case rel => exact ⟨k + 1, o.target, id, by omega, by go_num, by show _ = _; rw [show L.length + 1 - (k + 1) = L.length - k by omega]; exact HE3.out, HTL.out, by show _ = _; rw [← HC4.out]; exact cell_setRow_other _ _ _ _ (by simp), setRow_heap _ _ _ _ _ _ HN4.out, by show _ = _; rw [setRow_other _ _ _ _ (by omega)]; exact HX4.out, below_setRow HB4.out (by omega) _⟩
     case measure => simp [intOf]; omega
    ·
     have hq4 : (o.kind == 4) = false := by simpa using h4
     have HE3 := Lib.hid (show E = some x by have := HE2.out; rw [if_neg h0, if_neg h4] at this; exact this.symm)
     clear HE2 h0 h4
     go_wp2_with (first
      | ((with_reducible apply st_ob (hs := HCS.out) (h1 := HCO.out)); rfl; rfl; rfl; rfl; exact HS0.out)
      | ((with_reducible refine ld_id (l := x) (x := .tmp 3) (p := ⟨w.heap.size + 1, 0, none⟩) ?_ ?_ ?_ HID4.out HIL.out ?_); rfl; rfl; rfl)
      | ((with_reducible refine st_idg (l := x) (x := .tmp 4) (y := .tmp 25) (g := w.heap.size + 2) ?_ ?_ ?_ ?_ HX4.out ?_ HIL.out ?_); rfl; rfl; rfl; rfl; rfl))
     refine bodyPost_ret (results_cell_tmp (fn := Tryz.f84) (p := 4) (q := 5) (by rfl) _ _ (w.heap.size + 2) _ _ _ _ (by rfl) (setRow_heap _ _ _ _ _ _ HX4.out) Tryz.underlying46 rfl (by rw [List.size_toArray]; exact idsize HIL.out)) rfl ⟨by rw [HE3.out]; rfl, by rw [HE3.out]; exact HIL.out, below_setRow HB4.out (by omega) _⟩
  ·
   have hlt' : ¬ (k : Int) ≤ (L.length : Int) := by omega
   have HE3 := Lib.hid (show E = none by have := HE.out; rw [show L.length + 1 - k = 0 by omega] at this; exact this.symm)
   go_wp2_with (first
    | ((with_reducible refine bd_zid ?_ ?_ ?_); rfl; rfl)
    | ((with_reducible refine st_idg (l := zId) (x := .tmp 4) (y := .tmp 28) (g := w.heap.size + 2) ?_ ?_ ?_ ?_ HX.out ?_ ?_ ?_); rfl; rfl; rfl; rfl; rfl; rfl))
   refine bodyPost_ret (results_cell_tmp (fn := Tryz.f84) (p := 4) (q := 5) (by rfl) _ _ (w.heap.size + 2) _ _ _ _ (by rfl) (setRow_heap _ _ _ _ _ _ HX.out) Tryz.underlying46 rfl (by rw [List.size_toArray]; exact idsize rfl)) rfl ⟨by rw [HE3.out]; rfl, by rw [HE3.out]; rfl, below_setRow HB.out (by omega) _⟩
end R
end Go.Proofs.YtkcjhkfelaplkaaGreatDoor
end
section
namespace Go.Proofs.YtkcjhkfelaplkaaGreatDoor
open Go.RowKit
theorem end_any (w : World) (base b : Nat) (v : Value) (L : List St.It) (id : List UInt8) (hP : PSt w base b v L) (hd : Gr.Dec L) (hil : id.length = 32) :
  Calls Tryz.prog 41 #[.pointer (some ⟨b, 0, none⟩), .agg (idC id).toArray] w (Gr.AEnd (Gr.endF L L.length id) w) := by
 have hfew := hP.few
 have HNO := Lib.hid (fun W (hb : Below w.heap.size w W) (id : List UInt8) (hil : id.length = 32) (hh : St.has L id = false) => object_none W base b v L id (hP.below hb) hil hh)
 have HAT := Lib.hid (fun W (hb : Below w.heap.size w W) (k : Nat) (r : St.It) (o : Ob) (hr : L[k]? = some r) (ho : Rm.dec r.text.data.toList = some o) => object_at W base b v L k r o (hP.below hb) hr ho)
 have HHO := Lib.hid (fun (id : List UInt8) (h : St.has L id = true) => Gr.has_ob hd hP.srt h)
 have HLE := Lib.hid (fun W (hb : Below w.heap.size w W) => len_any W base b v L (hP.below hb))
 have HE0 := Lib.hid (fun (n : Nat) (x : List UInt8) (h : St.has L x = false) => show Gr.endF L (n + 1) x = none by rw [Gr.endF, Gr.ob_none h])
 have HE1 := Lib.hid (fun (n : Nat) (x : List UInt8) (o : Ob) (h : Gr.ob L x = some o) => show Gr.endF L (n + 1) x = if o.kind = 4 then Gr.endF L n o.target else some x by rw [Gr.endF, h])
 have hz24 := (zero_of_info zero24).1
 have hz28 := (zero_of_info zero28).1
 have HS0 := Lib.hid noF.size
 generalize (obC noOb nilV nilV).toArray = z at hz28 HS0
 have HB2 := Lib.hid (below2 w (.cells (idC id).toArray 46) (.cells (idC zId).toArray 46))
 have HN2 := Lib.hid (show ((w.alloc (.cells (idC id).toArray 46)).alloc (.cells (idC zId).toArray 46)).heap[w.heap.size]? = some (.cells (idC id).toArray 46) from by
  rw [heap_alloc_old _ _ (by simp)]; exact heap_alloc_new _ _)
 have HX2 := Lib.hid (new2 w (.cells (idC id).toArray 46) (.cells (idC zId).toArray 46))
 have HIL := Lib.hid hil
 unfold Gr.AEnd
 generalize hE : Gr.endF L L.length id = E
 have HE := Lib.hid hE
 clear hP hd hil hE
 go_enter Tryz.func41, Tryz.ntmps41
 go_wp2_with fail
 refine (HLE.out _ HB2.out).mono ?_
 rintro r w2 ⟨rfl, rfl⟩
 go_wp2_with fail
 go_loopw [10] (fun i wr => ∃ (k : Nat) (x : List UInt8), k ≤ L.length ∧ i = .int .i64 k ∧ Hid (Gr.endF L (L.length - k) x = E) ∧ Hid (x.length = 32) ∧ Hid (wr.heap[w.heap.size]? = some (.cells (idC x).toArray 46)) ∧ Hid (wr.heap[w.heap.size + 1]? = some (.cells (idC zId).toArray 46)) ∧ Hid (Below w.heap.size w wr)) (fun i _ => L.length - (intOf i).toNat)
 case atStart => exact ⟨0, id, by omega, rfl, HE.out, HIL.out, HN2.out, HX2.out, HB2.out⟩
 case round =>
  clear HN2 HX2 HB2 HE HIL HLE
  obtain ⟨k, x, hk, rfl, HE, HIL, HN, HX, HB⟩ := hrel
  have hlt3 := (Array.getElem?_eq_some_iff.1 HX.out).1
  by_cases hlt : k < L.length
  ·
   have hlt' : (k : Int) < (L.length : Int) := by omega
   have HID := Lib.hid (row_news HN.out)
   obtain ⟨m, hm⟩ : ∃ m, L.length - k = m + 1 := ⟨L.length - k - 1, by omega⟩
   have HE2 := Lib.hid (show Gr.endF L (m + 1) x = E by rw [← hm]; exact HE.out)
   have HM := Lib.hid (show L.length - (k + 1) = m by omega)
   clear HE hm
   cases hh : St.has L x with
   | false =>
     have HE3 := Lib.hid (show E = none by rw [← HE2.out]; exact HE0.out m x hh)
     have HOB := Lib.hid (HNO.out wr HB.out x HIL.out hh)
     clear HNO HAT HHO HE0 HE1 HE2
     go_wp2_with ((with_reducible refine ld_id (l := x) (x := .tmp 3) (p := ⟨w.heap.size, 0, none⟩) ?_ ?_ ?_ HID.out HIL.out ?_); rfl; rfl; rfl)
     refine HOB.out.mono ?_
     rintro r wx ⟨cs, rfl, hcs, hco, hb3⟩
     have hb4 := hb3.alloc hb3.size (.cells cs 59)
     have HB4 := Lib.hid (HB.out.trans (hb4.mono HB.out.size))
     have HX4 := Lib.hid ((hb4.block (w.heap.size + 1) (by omega)).trans HX.out)
     have HCS := Lib.hid hcs
     have HCO := Lib.hid hco
     clear hb3 hb4 HOB HID HN HX HB hcs hco
     go_wp2_with (first
      | ((with_reducible apply st_ob (hs := HCS.out) (h1 := HCO.out)); rfl; rfl; rfl; rfl; exact HS0.out)
      | ((with_reducible refine bd_zid ?_ ?_ ?_); rfl; rfl)
      | ((with_reducible refine st_idg (l := zId) (x := .tmp 4) (y := .tmp 20) (g := w.heap.size + 1) ?_ ?_ ?_ ?_ HX4.out ?_ ?_ ?_); rfl; rfl; rfl; rfl; rfl; rfl))
     refine bodyPost_ret (results_cell_tmp (fn := Tryz.f41) (p := 4) (q := 5) (by rfl) _ _ (w.heap.size + 1) _ _ _ _ (by rfl) (setRow_heap _ _ _ _ _ _ HX4.out) Tryz.underlying46 rfl (by rw [List.size_toArray]; exact idsize rfl)) rfl ⟨by rw [HE3.out]; rfl, by rw [HE3.out]; rfl, below_setRow HB4.out (by omega) _⟩
   | true =>
     obtain ⟨j, rr, o, hj, hid, hdec, hob⟩ := HHO.out x hh
     have HOB := Lib.hid (HAT.out wr HB.out j rr o hj hdec)
     rw [hid] at HOB
     have HE3 := Lib.hid (HE1.out m x o hob)
     rw [HE2.out] at HE3
     clear HNO HAT HHO HE0 HE1 HE2 hj hid hdec hob
     go_wp2_with ((with_reducible refine ld_id (l := x) (x := .tmp 3) (p := ⟨w.heap.size, 0, none⟩) ?_ ?_ ?_ HID.out HIL.out ?_); rfl; rfl; rfl)
     refine HOB.out.mono ?_
     rintro r wx ⟨cs, ao, bo, ca, cb, rfl, hO, hnew, hb3⟩
     have hb4 := hb3.alloc hb3.size (.cells cs 59)
     have HB4 := Lib.hid (HB.out.trans (hb4.mono HB.out.size))
     have HN4 := Lib.hid ((hb4.block w.heap.size (by omega)).trans HN.out)
     have HX4 := Lib.hid ((hb4.block (w.heap.size + 1) (by omega)).trans HX.out)
     have HID4 := Lib.hid (row_news HN4.out)
     have HCS := Lib.hid hO.F.size
     have HCO := Lib.hid hO.F.one
     have HTL := Lib.hid hO.F.tal
     have HRG := Lib.hid (hO.F.rta (heap_alloc_last wx (.cells cs 59)))
     have k0 := hO.F.c0
     clear hO hb3 hb4 HOB HID HN HX HB hnew
     by_cases h4 : o.kind = 4
     ·
      have HE4 := Lib.hid (show Gr.endF L m o.target = E by rw [HE3.out, if_pos h4])
      rw [h4] at k0
      clear HE3 h4
      go_wp2_with (first
       | ((with_reducible apply st_ob (hs := HCS.out) (h1 := HCO.out)); rfl; rfl; rfl; rfl; exact HS0.out)
       | ((with_reducible apply ld_idm (x := .tmp 25) (hc := HRG.out) (hl := HTL.out)); rfl; rfl; rfl)
       | ((with_reducible refine st_idg (l := o.target) (x := .tmp 3) (y := .tmp 26) (g := w.heap.size) ?_ ?_ ?_ ?_ HN4.out ?_ HTL.out ?_); rfl; rfl; rfl; rfl; exact (idC_length _).trans HIL.out))
      go_roundw
      case rel => exact ⟨k + 1, o.target, by omega, by go_num, by show _ = _; rw [HM.out]; exact HE4.out, HTL.out, setRow_heap _ _ _ _ _ _ HN4.out, by show _ = _; rw [setRow_other _ _ _ _ (by omega)]; exact HX4.out, below_setRow HB4.out (by omega) _⟩
      case measure => simp [intOf]; omega
     ·
      have hq4 : (o.kind == 4) = false := by simpa using h4
      have HE4 := Lib.hid (show E = some x by rw [HE3.out, if_neg h4])
      clear HE3 h4
      go_wp2_with (first
       | ((with_reducible apply st_ob (hs := HCS.out) (h1 := HCO.out)); rfl; rfl; rfl; rfl; exact HS0.out)
       | ((with_reducible refine ld_id (l := x) (x := .tmp 3) (p := ⟨w.heap.size, 0, none⟩) ?_ ?_ ?_ HID4.out HIL.out ?_); rfl; rfl; rfl)
       | ((with_reducible refine st_idg (l := x) (x := .tmp 4) (y := .tmp 24) (g := w.heap.size + 1) ?_ ?_ ?_ ?_ HX4.out ?_ HIL.out ?_); rfl; rfl; rfl; rfl; rfl))
      refine bodyPost_ret (results_cell_tmp (fn := Tryz.f41) (p := 4) (q := 5) (by rfl) _ _ (w.heap.size + 1) _ _ _ _ (by rfl) (setRow_heap _ _ _ _ _ _ HX4.out) Tryz.underlying46 rfl (by rw [List.size_toArray]; exact idsize HIL.out)) rfl ⟨by rw [HE4.out]; rfl, by rw [HE4.out]; exact HIL.out, below_setRow HB4.out (by omega) _⟩
  ·
   have hlt' : ¬ (k : Int) < (L.length : Int) := by omega
   have HE3 := Lib.hid (show E = none by have := HE.out; rw [show L.length - k = 0 by omega] at this; exact this.symm)
   go_wp2_with (first
    | ((with_reducible refine bd_zid ?_ ?_ ?_); rfl; rfl)
    | ((with_reducible refine st_idg (l := zId) (x := .tmp 4) (y := .tmp 28) (g := w.heap.size + 1) ?_ ?_ ?_ ?_ HX.out ?_ ?_ ?_); rfl; rfl; rfl; rfl; rfl; rfl))
   refine bodyPost_ret (results_cell_tmp (fn := Tryz.f41) (p := 4) (q := 5) (by rfl) _ _ (w.heap.size + 1) _ _ _ _ (by rfl) (setRow_heap _ _ _ _ _ _ HX.out) Tryz.underlying46 rfl (by rw [List.size_toArray]; exact idsize rfl)) rfl ⟨by rw [HE3.out]; rfl, by rw [HE3.out]; rfl, below_setRow HB.out (by omega) _⟩
end Go.Proofs.YtkcjhkfelaplkaaGreatDoor
end
section
namespace Go.Proofs.YtkcjhkfelaplkaaGreatDoor
open Go.RowKit
theorem named_any (w : World) (sv lo lf lc : Value) (S : List Sd) (h : SdsAt w sv S) (hg : goodG S) :
  Calls Tryz.prog 11 #[.agg #[sv, lo, lf, lc]] w fun r w' => ∃ iv I, r = .returned iv ∧ IdsAt w' iv I ∧ (∀ i ∈ I, i.length = 32) ∧ I.length ≤ 24 ∧ Below w.heap.size w w' := by
 have HB1 := Lib.hid (below_new w (.cells #[sv, lo, lf, lc] 25))
 have HGR := Lib.hid (R.grow_any (w.alloc (.cells #[sv, lo, lf, lc] 25)) sv S (h.below HB1.out) hg)
 obtain ⟨ao, cap, rfl⟩ := h.form
 clear h hg
 go_enter Tryz.func11, Tryz.ntmps11
 go_wp2_with fail
 refine HGR.out.mono ?_
 rintro r w3 ⟨gv, iv, L, I, kk, rfl, hD, hL, hI, hIl, hIn, hb3⟩
 obtain ⟨vo, vc, rfl⟩ := hD.form
 have HB3 := Lib.hid (HB1.out.trans (hb3.mono HB1.out.size))
 have HI := Lib.hid hI
 have HIL := Lib.hid hIl
 clear hb3 HGR hI hIl hD
 go_wp2_with fail
 go_ret
 exact ⟨_, I, rfl, RowsAt.below HI.out (below_new _ _), HIL.out, hIn, HB3.out.alloc HB3.out.size _⟩
end Go.Proofs.YtkcjhkfelaplkaaGreatDoor
end
