/-
  WALKS OF LAYER 11: the object that a seed makes (make1), where it is a blob; the parts of the other kinds.
-/
import Derived.Test.YtkcjhkfelaplkaaGreatDoorQl
import Derived.Test.YtkcjhkfelaplkaaGreatDoorQa
set_option linter.unusedVariables false
set_option linter.unusedSimpArgs false
set_option maxHeartbeats 8000000
set_option maxRecDepth 100000
section
namespace Go.Proofs.YtkcjhkfelaplkaaGreatDoor
open Go.RowKit
theorem nameq_any (k : Nat) (w : World) (hk : k < 20) :
  Calls Tryz.prog 104 #[.int .i64 (k : Int)] w fun r w' => ∃ c : UInt8, r = .returned (.string ⟨#[c]⟩) ∧ Below w.heap.size w w' := by
 have h0 : (0 : Int) ≤ (k : Int) := by omega
 have h1 : (k : Int) % 20 = (k : Int) := by omega
 have hcv := conv_one w (byteK (97 + (k : Int))) (97 + (k : Int)) (byteK_nat (by omega) (by omega))
 have h2 : (97 : Int) + (k : Int) ≤ 116 := by omega
 go_enter Tryz.func104, Tryz.ntmps104
 go_wp2
 go_ret
 exact ⟨_, rfl, (Below.refl _ _).alloc (Nat.le_refl _) _⟩
structure ByAt (w : World) (v : Value) (R : List UInt8) : Prop where
 out : (v = .slice none 0 0 ∧ R = []) ∨ ∃ a cap, v = .slice (some a) R.length cap ∧ ∀ (j : Nat) (x : UInt8), R[j]? = some x → w.cell? (a.add j) = some (.int .u8 (x.toNat : Int))
theorem ByAt.below {w w' : World} {v : Value} {R : List UInt8} (h : ByAt w v R) (hb : Below w.heap.size w w') : ByAt w' v R := by
 refine ⟨?_⟩
 rcases h.out with h0 | ⟨a, cap, hv, hc⟩
 · exact .inl h0
 · exact .inr ⟨a, cap, hv, fun j x hx => by rw [hb.cell (World.block_lt_of_cell? w _ (hc j x hx))]; exact hc j x hx⟩
theorem ByAt.form {w : World} {v : Value} {R : List UInt8} (h : ByAt w v R) : ∃ ao cap, v = .slice ao R.length cap := by
 rcases h.out with ⟨rfl, rfl⟩ | ⟨a, cap, rfl, _⟩
 · exact ⟨none, 0, rfl⟩
 · exact ⟨some a, cap, rfl⟩
theorem ByAt.elem {w : World} {ao : Option Addr} {n cap : Nat} {R : List UInt8} (h : ByAt w (.slice ao n cap) R) (j : Nat) (x : UInt8) (hx : R[j]? = some x) : ∃ a, ao = some a ∧ w.cell? (a.add j) = some (.int .u8 (x.toNat : Int)) := by
 rcases h.out with ⟨_, rfl⟩ | ⟨a, cap', hv, hc⟩
 · simp at hx
 ·
  simp only [Value.slice.injEq] at hv
  exact ⟨a, hv.1, hc j x hx⟩
def sdC (K : Nat) (rv : Value) (T : Nat) (X : ByteArray) : Array Value := #[.int .u8 (K : Int), rv, .int .u16 (T : Int), .string X]
def MkP (w : World) (r : Ending) (w' : World) : Prop :=
 ∃ (cs : Array Value) (o : Ob) (ao bo : Option Addr) (ca cb : Nat), r = .returned (.agg cs) ∧ ObAt w' cs o ao bo ca cb ∧ o.data.size ≤ 5000 ∧ o.text.size ≤ 5000 ∧ Below w.heap.size w w'
structure S3 (w W : World) (v : Value) (sc : Array Value) (z : Array Value) : Prop where
 b0 : W.heap[w.heap.size]? = some (.cells #[v] 28)
 b1 : W.heap[w.heap.size + 1]? = some (.cells sc 134)
 b2 : W.heap[w.heap.size + 1 + 1]? = some (.cells z 59)
 bel : Below w.heap.size w W
 sz : w.heap.size + 1 + 1 < W.heap.size
theorem S3.below {w W W' : World} {v : Value} {sc z : Array Value} (h : S3 w W v sc z) (hb : Below (w.heap.size + 1 + 1 + 1) W W') : S3 w W' v sc z := by
 have := h.sz
 have := hb.size
 exact ⟨(hb.block _ (by omega)).trans h.b0, (hb.block _ (by omega)).trans h.b1, (hb.block _ (by omega)).trans h.b2, h.bel.trans (hb.mono (by omega)), by omega⟩
theorem S3.made (w : World) (v : Value) (sc z : Array Value) : S3 w (((w.alloc (.cells #[v] 28)).alloc (.cells sc 134)).alloc (.cells z 59)) v sc z := by
 refine ⟨?_, ?_, ?_, ((below_new w _).alloc (by simp) _).alloc (by simp; omega) _, by simp⟩
 ·
  rw [(below_new _ _).block _ (by simp; omega), (below_new _ _).block _ (by simp)]
  exact heap_alloc_new _ _
 ·
  rw [(below_new _ _).block _ (by simp)]
  have := heap_alloc_new (w.alloc (.cells #[v] 28)) (.cells sc 134)
  simpa using this
 ·
  have := heap_alloc_new ((w.alloc (.cells #[v] 28)).alloc (.cells sc 134)) (.cells z 59)
  simpa using this
theorem S3.c0 {w W : World} {v : Value} {sc z : Array Value} (h : S3 w W v sc z) : W.cell? ⟨w.heap.size, 0, none⟩ = some v := by rw [cell_of_row _ _ 0 _ _ _ h.b0]; rfl
theorem S3.c1 {w W : World} {v rv : Value} {K T : Nat} {X : ByteArray} {z : Array Value} (h : S3 w W v (sdC K rv T X) z) : W.cell? ⟨w.heap.size + 1, 0, none⟩ = some (.int .u8 (K : Int)) ∧ W.cell? ⟨w.heap.size + 1, 1, none⟩ = some rv ∧ W.cell? ⟨w.heap.size + 1, 2, none⟩ = some (.int .u16 (T : Int)) ∧ W.cell? ⟨w.heap.size + 1, 3, none⟩ = some (.string X) :=
 ⟨by rw [cell_of_row _ _ 0 _ _ _ h.b1]; rfl, by rw [cell_of_row _ _ 1 _ _ _ h.b1]; rfl, by rw [cell_of_row _ _ 2 _ _ _ h.b1]; rfl, by rw [cell_of_row _ _ 3 _ _ _ h.b1]; rfl⟩
theorem none_at (w : World) {cs : Array Value} {o : Ob} (hF : ObF cs o nilV nilV) (he : o.ents = []) (hp : o.pars = []) (hn : o.name.size ≤ maxLen) (ht : o.time < 4294967296) : ObAt w cs o none none 0 0 :=
 ⟨by rw [he, hp]; exact hF, by rw [he]; exact RowsAt.nil _ _, by rw [hp]; exact RowsAt.nil _ _, (fun e h => by rw [he] at h; cases h), (fun e h => by rw [he] at h; cases h), (fun e h => by rw [hp] at h; cases h), by rw [he]; exact Nat.zero_le _, by rw [hp]; exact Nat.zero_le _, hn, ht⟩
theorem make_blob (w : World) (vo : Option Addr) (vn vc : Nat) (iv rv : Value) (K T : Nat) (X : ByteArray) (hK : K % 4 = 0) (hKl : K < 256) (hX : X.size ≤ 300) (ro : Option Addr) (rn rc : Nat) (hrv : rv = .slice ro rn rc) :
  Calls Tryz.prog 69 #[.agg #[.slice vo vn vc], iv, .agg (sdC K rv T X)] w (MkP w) := by
 have hz28 := (zero_of_info zero28).1
 have HS0 := Lib.hid noF.size
 have HBN := Lib.hid (built_blob X)
 have HF := Lib.hid (obC_F { noOb with kind := 1, data := X } nilV nilV rfl rfl rfl rfl)
 generalize hcs : (obC { noOb with kind := 1, data := X } nilV nilV).toArray = cs at *
 have HCS := Lib.hid HF.out.size
 have HCO := Lib.hid HF.out.one
 generalize (obC noOb nilV nilV).toArray = z at hz28 HS0
 have hk1 : ((K : Int) % 4 == 1) = false := by simp; omega
 have hk2 : ((K : Int) % 4 == 2) = false := by simp; omega
 have hk3 : ((K : Int) % 4 == 3) = false := by simp; omega
 have hK0 : (0 : Int) ≤ (K : Int) := by omega
 subst hrv
 clear hcs
 go_enter Tryz.func69, Tryz.ntmps69
 go_upto_region 1 with (fail)
 change Code.wp _ _ _ _ (((w.alloc (.cells #[.slice vo vn vc] 28)).alloc (.cells (sdC K (.slice ro rn rc) T X) 134)).alloc (.cells z 59))
 have HS := Lib.hid (S3.made w (.slice vo vn vc) (sdC K (.slice ro rn rc) T X) z)
 generalize ((w.alloc (.cells #[.slice vo vn vc] 28)).alloc (.cells (sdC K (.slice ro rn rc) T X) 134)).alloc (.cells z 59) = W at *
 obtain ⟨c10, c11, c12, c13⟩ := HS.out.c1
 have HE := Lib.hid HS.out.b2
 go_wp2_with (first
  | ((with_reducible refine bd_blob (x := .const (.int .i64 1)) (y := .tmp 164) (d := X) ?_ ?_ ?_ ?_ HBN.out ?_); rfl; rfl; rfl; rfl)
  | ((with_reducible refine st_obr (x := .tmp 6) (y := .tmp 165) ?_ ?_ ?_ ?_ HE.out HS0.out HCS.out HCO.out ?_); rfl; rfl; rfl; rfl))
 refine bodyPost_ret (v := .agg cs) ?_ rfl ⟨cs, _, none, none, 0, 0, rfl, none_at _ HF.out rfl rfl (show (0 : Nat) ≤ maxLen from Nat.zero_le _) (show (0 : Nat) < 4294967296 by decide), by show X.size ≤ 5000; omega, Nat.zero_le _, below_setRow HS.out.bel (by omega) _⟩
 exact results_cell_row (by rfl) _ _ (w.heap.size + 1 + 1) _ _ _ _ (by rfl) (setRow_heap _ _ _ _ _ _ HE.out) Tryz.underlying59 rfl (obsize HCS.out)
end Go.Proofs.YtkcjhkfelaplkaaGreatDoor
end
section
namespace Go.Proofs.YtkcjhkfelaplkaaGreatDoor
open Go.RowKit
structure TrS (w W : World) (v : Value) (sc z : Array Value) (es : List En) (ev : Value) : Prop where
 s3 : S3 w W v sc z
 bx : Bx W (w.heap.size + 1 + 1 + 1) { noOb with kind := 2, ents := es } ev nilV
 own : W.ownsRow (w.heap.size + 1 + 1 + 1 + 1) 178 34 ev es.length (es.flatMap enC)
 eid : ∀ e ∈ es, e.id.length = 32 ∧ e.name.size = 1
theorem TrS.lt {w W : World} {v : Value} {sc z : Array Value} {es : List En} {ev : Value} (h : TrS w W v sc z es ev) : w.heap.size + 1 + 1 + 1 < W.heap.size := (Array.getElem?_eq_some_iff.1 h.bx.held).1
theorem TrS.below {w W W' : World} {v : Value} {sc z : Array Value} {es : List En} {ev : Value} (h : TrS w W v sc z es ev) (hb : Below W.heap.size W W') : TrS w W' v sc z es ev :=
 ⟨h.s3.below (hb.mono (by have := h.lt; omega)), h.bx.below hb, own_bel h.own hb, h.eid⟩
theorem TrS.next {w W W5 : World} {v : Value} {sc z : Array Value} {es : List En} {ev v' : Value} {e : En} {o : Obj} (h : TrS w W v sc z es ev) (ho : W5.ownsRow (w.heap.size + 1 + 1 + 1 + 1) 178 34 v' (es.length + 1) (es.flatMap enC ++ enC e)) (hg : (W.alloc o).grownBy W5 ev.ownBlock) (he : e.id.length = 32 ∧ e.name.size = 1) :
  TrS w (W5.setCell ⟨w.heap.size + 1 + 1 + 1, 2, none⟩ v') v sc z (es ++ [e]) v' := by
 have hlt := h.lt
 have hbase : ∀ k, ev.ownBlock = some k → w.heap.size + 1 + 1 + 1 + 1 ≤ k := fun k hk => (h.own.lt k hk).1
 have hB : Below (w.heap.size + 1 + 1 + 1 + 1) W W5 := ((Below.refl _ _).alloc (by omega) o).grown hg (by simp; omega) hbase
 have B5 : Bx W5 (w.heap.size + 1 + 1 + 1) { noOb with kind := 2, ents := es } ev nilV := (hB.block _ (by omega)).trans h.bx.held
 refine ⟨h.s3.below ((hB.mono (by omega)).setCell (p := ⟨w.heap.size + 1 + 1 + 1, 2, none⟩) (by simp) v'), B5.ents v' (es ++ [e]), ?_, fun x hx => ?_⟩
 ·
  rw [List.flatMap_append, List.length_append]
  refine own_kept (w := W5) (by simpa using ho) (fun g hg => Below.heap_setCell _ _ _ _ (fun e => ?_))
  have := (ho.lt g hg).1
  have e' : g = w.heap.size + 1 + 1 + 1 := e
  omega
 ·
  rcases List.mem_append.1 hx with h1 | h1
  · exact h.eid x h1
  · rw [List.mem_singleton.1 h1]; exact he
theorem TrS.obat {w W : World} {v : Value} {sc z : Array Value} {es : List En} {ao : Option Addr} {cap : Nat} (h : TrS w W v sc z es (.slice ao es.length cap)) (hl : es.length ≤ maxLen) (cs : Array Value) : ObAt (W.setRow (w.heap.size + 1 + 1) cs) (obC { noOb with kind := 2, ents := es } (.slice ao es.length cap) nilV).toArray { noOb with kind := 2, ents := es } ao none cap 0 := by
 have hlen : ∀ c ∈ es.map enC, c.length = 34 := fun c hc => by
  obtain ⟨e, he, rfl⟩ := List.mem_map.1 hc
  rw [enC_length, (h.eid e he).1]
 have ho : (W.setRow (w.heap.size + 1 + 1) cs).ownsRow (w.heap.size + 1 + 1 + 1 + 1) 178 34 (.slice ao es.length cap) es.length (es.flatMap enC) := own_kept h.own (fun g hg => setRow_other _ _ _ _ (by have := (h.own.lt g hg).1; omega))
 refine ⟨obC_F _ _ _ rfl rfl rfl rfl, own_rowsK (C := es.map enC) (by simpa [List.flatMap] using ho) hlen, RowsAt.nil _ _, fun e he => (h.eid e he).1, fun e he => ?_, (fun p hp => by cases hp), hl, Nat.zero_le _, Nat.zero_le _, (show (0 : Nat) < 4294967296 by decide)⟩
 have := (h.eid e he).2
 unfold maxLen
 show e.name.size ≤ _
 omega
theorem TrS.cell5 {w W W5 : World} {v : Value} {sc z : Array Value} {es : List En} {ev : Value} {o : Obj} (h : TrS w W v sc z es ev) (hg : (W.alloc o).grownBy W5 ev.ownBlock) : W5.cell? ⟨w.heap.size + 1 + 1 + 1, 2, none⟩ = some ev ∧ W5.frozen? ⟨w.heap.size + 1 + 1 + 1, 2, none⟩ = false := by
 have hlt := h.lt
 have hbase : ∀ k, ev.ownBlock = some k → w.heap.size + 1 + 1 + 1 + 1 ≤ k := fun k hk => (h.own.lt k hk).1
 have hB : Below (w.heap.size + 1 + 1 + 1 + 1) W W5 := ((Below.refl _ _).alloc (by omega) o).grown hg (by simp; omega) hbase
 have B5 : Bx W5 (w.heap.size + 1 + 1 + 1) { noOb with kind := 2, ents := es } ev nilV := (hB.block _ (by omega)).trans h.bx.held
 exact ⟨B5.cell 2 _ rfl, B5.fr 2⟩
theorem TrS.c2 {w W : World} {v : Value} {sc z : Array Value} {es : List En} {ev : Value} (h : TrS w W v sc z es ev) : W.cell? ⟨w.heap.size + 1 + 1 + 1, 2, none⟩ = some ev := h.bx.cell 2 _ rfl
theorem TrS.c2a {w W : World} {v : Value} {sc z : Array Value} {es : List En} {ev : Value} (h : TrS w W v sc z es ev) (o : Obj) : (W.alloc o).cell? ⟨w.heap.size + 1 + 1 + 1, 2, none⟩ = some ev := (h.below (below_new W o)).c2
structure Sx (B g : Nat) (id : List UInt8) (w0 W : World) : Prop where
 b : Below B w0 W
 r : W.heap[g]? = some (.cells (idC id).toArray 46 (0, 0))
theorem Sx.rng {B g : Nat} {id : List UInt8} {w0 W : World} (h : Sx B g id w0 W) : W.rangeAt g 0 (idC id) := range_row h.r
theorem Sx.lt {B g : Nat} {id : List UInt8} {w0 W : World} (h : Sx B g id w0 W) : g < W.heap.size := (Array.getElem?_eq_some_iff.1 h.r).1
theorem Sx.below {B g : Nat} {id : List UInt8} {w0 W W' : World} (h : Sx B g id w0 W) (hb : Below W.heap.size W W') (hB : B ≤ W.heap.size) : Sx B g id w0 W' := ⟨h.b.trans (hb.mono hB), (hb.block g h.lt).trans h.r⟩
theorem yieldsIf_en2 {ops : Array Oper} {S : World → Prop} {op : Oper} {a : Act} {x y z : Operand} {n : ByteArray} {k : Int} {l : List UInt8} (hw : Region.wanted op (yielded ops a.tmps) = true) (ho : op.op = .build 178 #[(0, x), (1, y), (2, z)])
  (hx : a.eval x = .string n) (hy : a.eval y = .int .i64 k) (hz : a.eval z = .agg (idC l).toArray) (hl : l.length = 32) : YieldsIf Tryz.prog ops S op (.agg (enC ⟨n, k, l⟩).toArray) a :=
 .inl ⟨hw, fun W _ => by
  unfold execOp
  simp only [ho, List.map_toArray, List.map_cons, List.map_nil, hx, hy, hz, Sem.run_bind, run_build W _ _ _ (built_en n k l hl), Result.andThen_ok, Sem.run_pure]⟩
theorem wp_ap_en {op : Oper} {a : Act} {wr : World} {K : Act → World → Prop} {Q : Exit → Act → World → Prop} {v : Value} {es : List En} {e : En} {base : Nat} (s x : Operand)
  (ho : op.op = .call { callee := .builtin .append, args := #[s, x], argTypes := #[56, 56] }) (hs : a.eval s = v) (hx : a.eval x = .slice (some ⟨wr.heap.size, 0, none⟩) 1 1)
  (h : wr.ownsRow base 178 34 v es.length (es.flatMap enC)) (hb : base ≤ wr.heap.size) (hid : e.id.length = 32) (hl : es.length ≤ 2000)
  (hK : ∀ v' w', Hid (w'.ownsRow base 178 34 v' (es.length + 1) (es.flatMap enC ++ enC e)) → Hid ((wr.alloc (.cells (enC e).toArray 178)).grownBy w' v.ownBlock) → K (a.put op.dst v') w') : op.wp Tryz.prog a (wr.alloc (.cells (enC e).toArray 178)) K Q := by
 obtain ⟨i0, hi, hz0, hz1, hz2⟩ := info_parts infoEn
 refine wp_append_own _ s x 56 ho base 178 i0 _ 34 56 Tryz.underlying56 hi hz0 hz1 hz2 (by decide) (by decide) v es.length (es.flatMap enC) hs (World.ownsRow.alloc h _) ⟨wr.heap.size, 0, none⟩ 1 1 (enC e) hx (by rw [enC_length]; exact congrArg (· + 2) hid) (row_news (heap_alloc_new _ _)) (enC_one _) (by unfold maxLen; omega) (by omega) (by simp; omega) ?_
 intro v' w' h1 h2 _
 exact hK v' w' h1 h2
theorem make_tree (w : World) (v iv rv : Value) (L : List St.It) (I : List (List UInt8)) (K T : Nat) (X : ByteArray) (R : List UInt8) (h : DSt w v L) (hI : IdsAt w iv I) (hil : ∀ i ∈ I, i.length = 32) (hIl : I.length ≤ 1000) (hR : ByAt w rv R) (hRl : R.length ≤ 10) (hK : K % 4 = 1) (hKl : K < 256) :
  Calls Tryz.prog 69 #[.agg #[v], iv, .agg (sdC K rv T X)] w (MkP w) := by
 have hz28 := (zero_of_info zero28).1
 have HS0 := Lib.hid noF.size
 have HPK := Lib.hid (fun W (hb : Below w.heap.size w W) (n : Nat) (hn : n ≤ 100000) => pick_9 W v iv L I n (h.below hb) (RowsAt.below hI hb) hil hIl hn)
 obtain ⟨vo, vc, rfl⟩ := h.form
 obtain ⟨ro, rc, rfl⟩ := hR.form
 have HR := Lib.hid hR
 have hk0 : (0 : Int) ≤ (K : Int) := by omega
 have HKD := Lib.hid (fun W (hb : Below w.heap.size w W) (id : List UInt8) (hl : id.length = 32) => refkind_any W (.slice vo L.length vc) L id (h.below hb) hl)
 have HNM := Lib.hid (fun (k : Nat) (hk : k < 20) W => nameq_any k W hk)
 have HBT := Lib.hid (built_kd 2)
 have HFT := Lib.hid (obC_F { noOb with kind := 2 } nilV nilV rfl rfl rfl rfl)
 have hk1 : ((K : Int) % 4 == 1) = true := by simp; omega
 generalize hz : (obC noOb nilV nilV).toArray = z at hz28 HS0
 clear hz h hI
 go_enter Tryz.func69, Tryz.ntmps69
 go_upto_region 1 with (fail)
 change Code.wp _ _ _ _ (((w.alloc (.cells #[.slice vo L.length vc] 28)).alloc (.cells (sdC K (.slice ro R.length rc) T X) 134)).alloc (.cells z 59))
 have HS := Lib.hid (S3.made w (.slice vo L.length vc) (sdC K (.slice ro R.length rc) T X) z)
 have hws : (((w.alloc (.cells #[.slice vo L.length vc] 28)).alloc (.cells (sdC K (.slice ro R.length rc) T X) 134)).alloc (.cells z 59)).heap.size = w.heap.size + 1 + 1 + 1 := by simp
 generalize ((w.alloc (.cells #[.slice vo L.length vc] 28)).alloc (.cells (sdC K (.slice ro R.length rc) T X) 134)).alloc (.cells z 59) = W at *
 obtain ⟨c10, c11, c12, c13⟩ := HS.out.c1
 have HT0 := Lib.hid (show TrS w (W.alloc (.cells (obC { noOb with kind := 2 } nilV nilV).toArray 59)) (.slice vo L.length vc) (sdC K (.slice ro R.length rc) T X) z [] nilV from
  ⟨HS.out.below (by rw [← hws]; exact below_new _ _), by unfold Bx; rw [← hws]; exact heap_alloc_new _ _, World.ownsRow_nil _ _ _ _, (fun e he => by cases he)⟩)
 have HTS := Lib.hid HFT.out.size
 have HWS := Lib.hid hws.symm
 have HTO := Lib.hid HFT.out.one
 go_wp2_with (first
  | ((with_reducible refine bd_kd (x := .const (.int .i64 2)) (k := 2) ?_ ?_ ?_ HBT.out ?_); rfl; rfl; rfl)
  | ((with_reducible refine st_ob2 (x := .tmp 7) (y := .tmp 25) (g := w.heap.size + 1 + 1 + 1) ?_ ?_ ?_ ?_ ?_ HWS.out HTS.out HTO.out ?_); rfl; rfl; rfl; rfl; exact HS0.out))
 generalize W.alloc (.cells (obC { noOb with kind := 2 } nilV nilV).toArray 59) = W1 at *
 clear c10 c11 c12 c13 hws HS HBT HFT HTS HTO
 go_loopw [8] (fun i wr => ∃ (k : Nat) (es : List En) (ev : Value), k ≤ R.length ∧ k ≤ 5 ∧ i = .int .i64 k ∧ es.length ≤ k ∧ Hid (TrS w wr (.slice vo L.length vc) (sdC K (.slice ro R.length rc) T X) z es ev)) (fun i _ => 5 - (intOf i).toNat)
 case atStart => exact ⟨0, [], nilV, by omega, by omega, rfl, by simp, HT0.out⟩
 case round =>
  obtain ⟨k, es, ev, hkR, hk5, rfl, hek, HT⟩ := hrel
  obtain ⟨c10, c11, c12, c13⟩ := HT.out.s3.c1
  have hlen := HT.out.lt
  have HBW := Lib.hid HT.out.s3.bel
  by_cases hlt : k < R.length ∧ k < 5
  ·
   obtain ⟨h1, h2⟩ := hlt
   have h1' : (k : Int) < (R.length : Int) := by omega
   have h2' : (k : Int) < 5 := by omega
   have h2b : decide ((k : Int) < 5) = true := by simpa using h2'
   have hk0' : (0 : Int) ≤ (k : Int) := by omega
   obtain ⟨r, hr⟩ : ∃ r, R[k]? = some r := ⟨R[k], List.getElem?_eq_getElem h1⟩
   obtain ⟨ra, rfl, hcr⟩ := (HR.out.below HBW.out).elem k r hr
   have hrb : (r.toNat : Int) ≤ 255 := by have := r.toNat_lt; omega
   have hrb0 : (0 : Int) ≤ (r.toNat : Int) := by omega
   have hwr : IntKind.i64.wrap (r.toNat : Int) = (r.toNat : Int) := IntWalk.i64_in _ (by omega)
   have hra := World.block_lt_of_cell? _ _ ((HR.out.elem k r hr).elim fun a ha => by have := ha.1; cases this; exact ha.2)
   have HSF := Lib.hid (show ∀ W', Below (w.heap.size + 1 + 1 + 1) wr.drew W' → W'.cell? ⟨w.heap.size, 0, none⟩ = some (.slice vo L.length vc) ∧ W'.cell? ⟨w.heap.size + 1, 1, none⟩ = some (.slice (some ra) R.length rc) ∧ W'.cell? (ra.add k) = some (.int .u8 (r.toNat : Int)) from fun W' hb =>
    ⟨(hb.cell (p := ⟨w.heap.size, 0, none⟩) (by show w.heap.size < _; omega)).trans HT.out.s3.c0, (hb.cell (p := ⟨w.heap.size + 1, 1, none⟩) (by show w.heap.size + 1 < _; omega)).trans c11, (hb.cell (p := ra.add k) (by have := hra; omega)).trans hcr⟩)
   have HPKK := Lib.hid (fun W (hb : Below w.heap.size w W) => HPK.out W hb r.toNat (by have := r.toNat_lt; omega))
   clear hr hcr hra
   go_upto_region 7 with (fail)
   go_cut [9, 10] from 37 to 48 (fun p b wc => ∃ (g : Nat) (id : List UInt8) (t : Bool), p = .pointer (some ⟨g, 0, none⟩) ∧ b = .bool t ∧ Hid (Below wr.heap.size wr wc) ∧ Hid (wc.heap[g]? = some (.cells (idC id).toArray 46 (0, 0))) ∧ wr.heap.size ≤ g ∧ Hid (id.length = 32))
   case first =>
    have HPK := HPKK
    clear HPKK c10 c11 c12 c13
    refine wp_region_noPanic ?_
    refine wp_region_held_drew (S := (fun w' => Below (w.heap.size + 1 + 1 + 1) wr.drew w')) (by kernel_rfl) (Below.refl _ _) (fun hH => ?_)
    refine tk (i := 0) (v := ?_) ?_ ?_
    rotate_left
    · intro w' hSw; obtain ⟨q0, q1, q2⟩ := HSF.out _ hSw; go_simp; try rfl
    try simp only [q0]
    refine tk (i := 1) (v := ?_) ?_ ?_
    rotate_left
    · intro w' hSw; obtain ⟨q0, q1, q2⟩ := HSF.out _ hSw; go_simp; try rfl
    try simp only [q0]
    refine tk (i := 2) (v := ?_) ?_ ?_
    rotate_left
    · intro w' hSw; obtain ⟨q0, q1, q2⟩ := HSF.out _ hSw; go_simp; try rfl
    try simp only [q0]
    refine tk (i := 3) (v := ?_) ?_ ?_
    rotate_left
    · intro w' hSw; obtain ⟨q0, q1, q2⟩ := HSF.out _ hSw; go_simp; try rfl
    try simp only [q0]
    refine tk (i := 4) (v := ?_) ?_ ?_
    rotate_left
    · intro w' hSw; obtain ⟨q0, q1, q2⟩ := HSF.out _ hSw; go_simp; try rfl
    try simp only [q0]
    refine tk (i := 5) (v := ?_) ?_ ?_
    rotate_left
    · intro w' hSw; obtain ⟨q0, q1, q2⟩ := HSF.out _ hSw; go_simp; try rfl
    try simp only [q0]
    refine tk (i := 6) (v := ?_) ?_ ?_
    rotate_left
    · intro w' hSw; obtain ⟨q0, q1, q2⟩ := HSF.out _ hSw; go_simp; try rfl
    try simp only [q0]
    refine tk (i := 7) (v := ?_) ?_ ?_
    rotate_left
    · intro w' hSw; obtain ⟨q0, q1, q2⟩ := HSF.out _ hSw; go_simp; try rfl
    try simp only [q0]
    refine wpAnyH_ready (rs := [8, 12]) (by kernel_rfl) (by simp) ?_
    refine AllReadyH.cons rfl (fun K hK => ?_) (AllReadyH.cons rfl (fun K hK => ?_) AllReadyH.nil)
    ·
     go_simp
     with_reducible refine (HPK.out _ HBW.out.drew).mono ?_
     rintro r w6 ⟨id, b, rfl, hidl, hb6⟩
     have hs6 : w.heap.size + 1 + 1 + 1 ≤ w6.heap.size := by have := hb6.size; simp only [World.size_drew] at this; omega
     have hd6 : Below (w.heap.size + 1 + 1 + 1) wr.drew w6 := hb6.mono (show _ ≤ wr.heap.size by omega)
     go_wp2_with fail
     refine hK.out _ _ hd6 (fun hH2 => ?_)
     clear hK K
     try simp only [q0]
     refine tk (i := 9) (v := ?_) ?_ ?_
     rotate_left
     · intro w' hSw; go_simp; try rfl
     try simp only [q0]
     refine tk (i := 10) (v := ?_) ?_ ?_
     rotate_left
     · intro w' hSw; go_simp; try rfl
     try simp only [q0]
     refine tk (i := 11) (v := ?_) ?_ ?_
     rotate_left
     · intro w' hSw; go_simp; try rfl
     try simp only [q0]
     refine wpAnyH_ready (rs := [12]) (by kernel_rfl) (by simp) ?_
     refine AllReadyH.cons rfl (fun K hK => ?_) AllReadyH.nil
     go_simp
     refine hK.out _ _ (hd6.alloc hs6 _) (fun hH3 => ?_)
     clear hK K
     try simp only [q0]
     refine wpAnyH_ready (rs := [13]) (by kernel_rfl) (by simp) ?_
     refine AllReadyH.cons rfl (fun K hK => ?_) AllReadyH.nil
     rw [if_pos (by rfl)]
     refine wp_store_row 46 (.tmp 9) (.tmp 47) rfl w6.heap.size (idC id).toArray rfl rfl 46 _ (heap_alloc_new _ _) (by rw [List.size_toArray]; exact idsize hidl) (by simp [idC_length, hidl]) (all_oneCell_toArray (idC_one id)) ?_
     refine hK.out _ _ (below_setRow (hd6.alloc hs6 _) (by omega) _) (fun hH4 => ?_)
     clear hK K
     try simp only [q0]
     refine tk (i := 14) (v := ?_) ?_ ?_
     rotate_left
     · intro w' hSw; go_simp; try rfl
     try simp only [q0]
     refine wpAnyH_done (by kernel_rfl) ?_ _
     refine NoPanic.normal ?_
     have hfin := Lib.hid (fun (o : Obj) => below_setRow ((((Below.refl wr.heap.size wr).drew.trans hb6).alloc (by have := hb6.size; simp only [World.size_drew] at this; exact this) o)) (show wr.heap.size ≤ w6.heap.size by have := hb6.size; simpa using this) (idC id).toArray)
     have hrow := Lib.hid (fun (c : Array Value) => setRow_heap _ _ c (idC id).toArray 46 (0, 0) (heap_alloc_new w6 (.cells c 46)))
     have hge : wr.heap.size ≤ w6.heap.size := by have := hb6.size; simpa using this
     have hidl2 := Lib.hid hidl
     clear hb6 hd6 hs6 hH2 hH3 hH4 hidl
     go_wp2_with fail
     go_meet
     exact ⟨_, id, b, rfl, rfl, hfin.out _, hrow.out _, hge, hidl2.out⟩
    ·
     go_simp
     refine hK.out _ _ ((Below.refl _ _).alloc (by simp only [World.size_drew]; omega) _) (fun hH2 => ?_)
     clear hK K
     try simp only [q0]
     refine wpAnyH_ready (rs := [8]) (by kernel_rfl) (by simp) ?_
     refine AllReadyH.cons rfl (fun K hK => ?_) AllReadyH.nil
     go_simp
     with_reducible refine (HPK.out _ ((HBW.out.trans ((below_new wr _).mono HBW.out.size)).drew)).mono ?_
     rintro r w6 ⟨id, b, rfl, hidl, hb6⟩
     have hb7 : Below wr.heap.size wr w6 := (below_new wr _).drew.trans (hb6.mono (below_new wr _).size)
     have hd6 : Below (w.heap.size + 1 + 1 + 1) wr.drew w6 := by
      have hx := hb7.mono (show w.heap.size + 1 + 1 + 1 ≤ wr.heap.size by omega)
      exact ⟨hx.os, hx.tape, hx.output, hx.size, hx.block⟩
     go_wp2_with fail
     refine hK.out _ _ hd6 (fun hH3 => ?_)
     clear hK K
     try simp only [q0]
     refine tk (i := 9) (v := ?_) ?_ ?_
     rotate_left
     · intro w' hSw; go_simp; try rfl
     try simp only [q0]
     refine tk (i := 10) (v := ?_) ?_ ?_
     rotate_left
     · intro w' hSw; go_simp; try rfl
     try simp only [q0]
     refine tk (i := 11) (v := ?_) ?_ ?_
     rotate_left
     · intro w' hSw; go_simp; try rfl
     try simp only [q0]
     refine wpAnyH_ready (rs := [13]) (by kernel_rfl) (by simp) ?_
     refine AllReadyH.cons rfl (fun K hK => ?_) AllReadyH.nil
     rw [if_pos (by rfl)]
     refine wp_store_row 46 (.tmp 9) (.tmp 47) rfl wr.heap.size (idC id).toArray rfl rfl 46 _ ((hb6.block wr.heap.size (by simp)).trans (heap_alloc_new wr _)) (by rw [List.size_toArray]; exact idsize hidl) (by simp [idC_length, hidl]) (all_oneCell_toArray (idC_one id)) ?_
     refine hK.out _ _ (below_setRow hd6 (show _ ≤ wr.heap.size by omega) _) (fun hH4 => ?_)
     clear hK K
     try simp only [q0]
     refine tk (i := 14) (v := ?_) ?_ ?_
     rotate_left
     · intro w' hSw; go_simp; try rfl
     try simp only [q0]
     refine wpAnyH_done (by kernel_rfl) ?_ _
     refine NoPanic.normal ?_
     have hfin := Lib.hid (below_setRow hb7 (Nat.le_refl _) (idC id).toArray)
     have hrow := Lib.hid (setRow_heap _ _ _ (idC id).toArray _ _ ((hb6.block wr.heap.size (by simp)).trans (heap_alloc_new wr _)))
     have hge : wr.heap.size ≤ wr.heap.size := Nat.le_refl _
     have hidl2 := Lib.hid hidl
     clear hb6 hb7 hd6 hH2 hH3 hH4 hidl
     go_wp2_with fail
     go_meet
     exact ⟨_, id, b, rfl, rfl, hfin.out, hrow.out, hge, hidl2.out⟩
   case rest =>
    obtain ⟨g, id, t, rfl, rfl, HBC, HG, hge, HIDL⟩ := hcut
    have HTC0 := Lib.hid (HT.out.below HBC.out)
    clear c10 c11 c12 c13 HPKK HSF HT HBC hwr
    cases t with
    | false =>
      go_wp2_with fail
      go_roundw
      case rel => exact ⟨k + 1, es, ev, by omega, by omega, by go_num, by omega, HTC0.out⟩
      case measure => simp [intOf]; omega
    | true =>
      have HTC := Lib.hid (HTC0.out.below (Below.refl wc.heap.size wc).drew)
      have cW := HTC.out.c2
      have HS9 := Lib.hid (show ∀ W', Below (w.heap.size + 1 + 1 + 1) wc.drew W' → W'.cell? ⟨w.heap.size, 0, none⟩ = some (.slice vo L.length vc) from fun W' hb => (hb.cell (p := ⟨w.heap.size, 0, none⟩) (by show w.heap.size < _; omega)).trans HTC.out.s3.c0)
      have u24 := Tryz.underlying46
      have i24 := idsize HIDL.out
      clear HTC0
      go_wp2_with fail
      refine wp_region_noPanic ?_
      refine wp_region_held_drew (S := (fun w' => Sx (w.heap.size + 1 + 1 + 1) g id wc.drew w')) (by kernel_rfl) ⟨Below.refl _ _, HG.out⟩ (fun hH => ?_)
      refine tk (i := 0) (v := ?_) ?_ ?_
      rotate_left
      · intro w' hSw; go_simp; try rfl
      try simp only [q0]
      refine tk (i := 2) (v := ?_) ?_ ?_
      rotate_left
      · intro w' hSw; go_simp; try rfl
      try simp only [q0]
      refine tk (i := 4) (v := ?_) ?_ ?_
      rotate_left
      · intro w' hSw; have q0 := HS9.out _ hSw.b; go_simp; try rfl
      try simp only [q0]
      refine wpAnyH_take (i := 5) rfl (by kernel_rfl) (by kernel_rfl) (by kernel_rfl) (fun _ _ _ h => h) (yieldsIf_load_mid (by rfl) _ _ rfl _ _ rfl _ _ (fun w h => h.rng) u24 rfl i24) (by assumption) ?_
      try simp only [q0]
      refine wpAnyH_take (i := 7) rfl (by kernel_rfl) (by kernel_rfl) (by kernel_rfl) (fun _ _ _ h => h) (yieldsIf_load_mid (by rfl) _ _ rfl _ _ rfl _ _ (fun w h => h.rng) u24 rfl i24) (by assumption) ?_
      try simp only [q0]
      refine wpAnyH_ready (rs := [1, 3]) (by kernel_rfl) (by simp) ?_
      refine AllReadyH.cons rfl (fun K hK => ?_) (AllReadyH.cons rfl (fun K hK => ?_) AllReadyH.nil)
      ·
       go_simp
       refine hK.out _ _ hH (fun _ => ?_)
       clear hK K
       try simp only [q0]
       refine wpAnyH_ready (rs := [3]) (by kernel_rfl) (by simp) ?_
       refine AllReadyH.cons rfl (fun K hK => ?_) AllReadyH.nil
       go_simp
       with_reducible refine (HNM.out k (by omega) _).mono ?_
       rintro rr wA ⟨c, rfl, hxA⟩
       have HTA := Lib.hid (HTC.out.below hxA)
       have cA := HTA.out.c2
       have hSA : Sx (w.heap.size + 1 + 1 + 1) g id wc.drew wA := Sx.below hH hxA (by have := HTC.out.lt; omega)
       go_wp2_with fail
       refine hK.out _ _ hSA (fun _ => ?_)
       clear hK K hxA
       try simp only [q0]
       refine wpAnyH_ready (rs := [6]) (by kernel_rfl) (by simp) ?_
       refine AllReadyH.cons rfl (fun K hK => ?_) AllReadyH.nil
       go_simp
       with_reducible refine (HKD.out _ HTA.out.s3.bel id HIDL.out).mono ?_
       rintro rr wB ⟨Kd, rfl, hKd0, hKd4, hxB⟩
       have HTB := Lib.hid (HTA.out.below hxB)
       have cB := HTB.out.c2
       have cBa := HTB.out.c2a (.cells (enC ⟨⟨#[c]⟩, Kd, id⟩).toArray 178)
       have hSB : Sx (w.heap.size + 1 + 1 + 1) g id wc.drew wB := hSA.below hxB (by have := HTA.out.lt; omega)
       have hBt := HTB.out.lt
       have hSB2 : Sx (w.heap.size + 1 + 1 + 1) g id wc.drew (wB.alloc (.cells (enC ⟨⟨#[c]⟩, Kd, id⟩).toArray 178)) := hSB.below (below_new _ _) (by omega)
       go_wp2_with fail
       refine hK.out _ _ hSB (fun _ => ?_)
       clear hK K hxB
       try simp only [q0]
       refine wpAnyH_take (i := 8) rfl (by kernel_rfl) (by kernel_rfl) (by kernel_rfl) (fun _ _ _ h => h) (yieldsIf_en2 (n := ⟨#[c]⟩) (k := Kd) (l := id) (by rfl) rfl rfl rfl rfl HIDL.out) (by assumption) ?_
       try simp only [q0]
       refine wpAnyH_ready (rs := [9]) (by kernel_rfl) (by simp) ?_
       refine AllReadyH.cons rfl (fun K hK => ?_) AllReadyH.nil
       rw [if_pos (by rfl)]
       refine wp_bs_en (n := ⟨#[c]⟩) (k := Kd) (l := id) rfl rfl HIDL.out ?_
       refine hK.out _ _ hSB2 (fun _ => ?_)
       clear hK K
       try simp only [q0]
       refine wpAnyH_ready (rs := [10]) (by kernel_rfl) (by simp) ?_
       refine AllReadyH.cons rfl (fun K hK => ?_) AllReadyH.nil
       rw [if_pos (by rfl)]
       refine wp_ap_en (e := ⟨⟨#[c]⟩, Kd, id⟩) (es := es) (.tmp 51) (.tmp 59) rfl rfl rfl HTB.out.own (by omega) HIDL.out (by omega) ?_
       intro v' w5 HO5 HG5
       obtain ⟨cc5, ff5⟩ := HTB.out.cell5 HG5.out
       have hB5 : Below (w.heap.size + 1 + 1 + 1) wc.drew w5 := hSB2.b.grown HG5.out (by simp; omega) (fun j hj => by have := (HTB.out.own.lt j hj).1; omega)
       have hS5 : Sx (w.heap.size + 1 + 1 + 1) g id wc.drew w5 := ⟨hB5, (HG5.out.block g hSB2.lt (own_box HTB.out.own hSB.r (by decide))).trans hSB2.r⟩
       refine hK.out _ _ hS5 (fun _ => ?_)
       clear hK K
       try simp only [q0]
       have HNX := Lib.hid (HTB.out.next HO5.out HG5.out ⟨HIDL.out, rfl⟩)
       obtain ⟨lo, lc, hform⟩ := own_shape HO5.out
       subst hform
       refine tk (i := 11) (v := ?_) ?_ ?_
       rotate_left
       · intro w' hSw; go_simp; try rfl
       try simp only [q0]
       refine wpAnyH_ready (rs := [12]) (by kernel_rfl) (by simp) ?_
       refine AllReadyH.cons rfl (fun K hK => ?_) AllReadyH.nil
       go_simp
       refine hK.out _ _ ⟨hS5.b.setCell (p := ⟨w.heap.size + 1 + 1 + 1, 2, none⟩) (by simp) _, (Below.heap_setCell _ _ _ _ (by have := HTC.out.lt; show g ≠ w.heap.size + 1 + 1 + 1; omega)).trans hS5.r⟩ (fun _ => ?_)
       clear hK K
       try simp only [q0]
       refine wpAnyH_done (by kernel_rfl) ?_ _
       refine NoPanic.normal ?_
       clear cc5 ff5 hB5 hS5 hSB2 hSB hSA cA cB cBa HO5 HG5
       go_wp2_with fail
       go_roundw
       case rel => exact ⟨k + 1, es ++ [⟨⟨#[c]⟩, Kd, id⟩], _, by omega, by omega, by go_num, by simp; omega, HNX⟩
       case measure => simp [intOf]; omega
      ·
       go_simp
       with_reducible refine (HNM.out k (by omega) _).mono ?_
       rintro rr wA ⟨c, rfl, hxA⟩
       have HTA := Lib.hid (HTC.out.below hxA)
       have cA := HTA.out.c2
       have hSA : Sx (w.heap.size + 1 + 1 + 1) g id wc.drew wA := Sx.below hH hxA (by have := HTC.out.lt; omega)
       go_wp2_with fail
       refine hK.out _ _ hSA (fun _ => ?_)
       clear hK K hxA
       try simp only [q0]
       refine wpAnyH_ready (rs := [1, 6]) (by kernel_rfl) (by simp) ?_
       refine AllReadyH.cons rfl (fun K hK => ?_) (AllReadyH.cons rfl (fun K hK => ?_) AllReadyH.nil)
       ·
        go_simp
        refine hK.out _ _ hSA (fun _ => ?_)
        clear hK K
        try simp only [q0]
        refine wpAnyH_ready (rs := [6]) (by kernel_rfl) (by simp) ?_
        refine AllReadyH.cons rfl (fun K hK => ?_) AllReadyH.nil
        go_simp
        with_reducible refine (HKD.out _ HTA.out.s3.bel id HIDL.out).mono ?_
        rintro rr wB ⟨Kd, rfl, hKd0, hKd4, hxB⟩
        have HTB := Lib.hid (HTA.out.below hxB)
        have cB := HTB.out.c2
        have cBa := HTB.out.c2a (.cells (enC ⟨⟨#[c]⟩, Kd, id⟩).toArray 178)
        have hSB : Sx (w.heap.size + 1 + 1 + 1) g id wc.drew wB := hSA.below hxB (by have := HTA.out.lt; omega)
        have hBt := HTB.out.lt
        have hSB2 : Sx (w.heap.size + 1 + 1 + 1) g id wc.drew (wB.alloc (.cells (enC ⟨⟨#[c]⟩, Kd, id⟩).toArray 178)) := hSB.below (below_new _ _) (by omega)
        go_wp2_with fail
        refine hK.out _ _ hSB (fun _ => ?_)
        clear hK K hxB
        try simp only [q0]
        refine wpAnyH_take (i := 8) rfl (by kernel_rfl) (by kernel_rfl) (by kernel_rfl) (fun _ _ _ h => h) (yieldsIf_en2 (n := ⟨#[c]⟩) (k := Kd) (l := id) (by rfl) rfl rfl rfl rfl HIDL.out) (by assumption) ?_
        try simp only [q0]
        refine wpAnyH_ready (rs := [9]) (by kernel_rfl) (by simp) ?_
        refine AllReadyH.cons rfl (fun K hK => ?_) AllReadyH.nil
        rw [if_pos (by rfl)]
        refine wp_bs_en (n := ⟨#[c]⟩) (k := Kd) (l := id) rfl rfl HIDL.out ?_
        refine hK.out _ _ hSB2 (fun _ => ?_)
        clear hK K
        try simp only [q0]
        refine wpAnyH_ready (rs := [10]) (by kernel_rfl) (by simp) ?_
        refine AllReadyH.cons rfl (fun K hK => ?_) AllReadyH.nil
        rw [if_pos (by rfl)]
        refine wp_ap_en (e := ⟨⟨#[c]⟩, Kd, id⟩) (es := es) (.tmp 51) (.tmp 59) rfl rfl rfl HTB.out.own (by omega) HIDL.out (by omega) ?_
        intro v' w5 HO5 HG5
        obtain ⟨cc5, ff5⟩ := HTB.out.cell5 HG5.out
        have hB5 : Below (w.heap.size + 1 + 1 + 1) wc.drew w5 := hSB2.b.grown HG5.out (by simp; omega) (fun j hj => by have := (HTB.out.own.lt j hj).1; omega)
        have hS5 : Sx (w.heap.size + 1 + 1 + 1) g id wc.drew w5 := ⟨hB5, (HG5.out.block g hSB2.lt (own_box HTB.out.own hSB.r (by decide))).trans hSB2.r⟩
        refine hK.out _ _ hS5 (fun _ => ?_)
        clear hK K
        try simp only [q0]
        have HNX := Lib.hid (HTB.out.next HO5.out HG5.out ⟨HIDL.out, rfl⟩)
        obtain ⟨lo, lc, hform⟩ := own_shape HO5.out
        subst hform
        refine tk (i := 11) (v := ?_) ?_ ?_
        rotate_left
        · intro w' hSw; go_simp; try rfl
        try simp only [q0]
        refine wpAnyH_ready (rs := [12]) (by kernel_rfl) (by simp) ?_
        refine AllReadyH.cons rfl (fun K hK => ?_) AllReadyH.nil
        go_simp
        refine hK.out _ _ ⟨hS5.b.setCell (p := ⟨w.heap.size + 1 + 1 + 1, 2, none⟩) (by simp) _, (Below.heap_setCell _ _ _ _ (by have := HTC.out.lt; show g ≠ w.heap.size + 1 + 1 + 1; omega)).trans hS5.r⟩ (fun _ => ?_)
        clear hK K
        try simp only [q0]
        refine wpAnyH_done (by kernel_rfl) ?_ _
        refine NoPanic.normal ?_
        clear cc5 ff5 hB5 hS5 hSB2 hSB hSA cA cB cBa HO5 HG5
        go_wp2_with fail
        go_roundw
        case rel => exact ⟨k + 1, es ++ [⟨⟨#[c]⟩, Kd, id⟩], _, by omega, by omega, by go_num, by simp; omega, HNX⟩
        case measure => simp [intOf]; omega
       ·
        go_simp
        with_reducible refine (HKD.out _ HTA.out.s3.bel id HIDL.out).mono ?_
        rintro rr wB ⟨Kd, rfl, hKd0, hKd4, hxB⟩
        have HTB := Lib.hid (HTA.out.below hxB)
        have cB := HTB.out.c2
        have cBa := HTB.out.c2a (.cells (enC ⟨⟨#[c]⟩, Kd, id⟩).toArray 178)
        have hSB : Sx (w.heap.size + 1 + 1 + 1) g id wc.drew wB := hSA.below hxB (by have := HTA.out.lt; omega)
        have hBt := HTB.out.lt
        have hSB2 : Sx (w.heap.size + 1 + 1 + 1) g id wc.drew (wB.alloc (.cells (enC ⟨⟨#[c]⟩, Kd, id⟩).toArray 178)) := hSB.below (below_new _ _) (by omega)
        go_wp2_with fail
        refine hK.out _ _ hSB (fun _ => ?_)
        clear hK K hxB
        try simp only [q0]
        refine wpAnyH_take (i := 8) rfl (by kernel_rfl) (by kernel_rfl) (by kernel_rfl) (fun _ _ _ h => h) (yieldsIf_en2 (n := ⟨#[c]⟩) (k := Kd) (l := id) (by rfl) rfl rfl rfl rfl HIDL.out) (by assumption) ?_
        try simp only [q0]
        refine wpAnyH_ready (rs := [1, 9]) (by kernel_rfl) (by simp) ?_
        refine AllReadyH.cons rfl (fun K hK => ?_) (AllReadyH.cons rfl (fun K hK => ?_) AllReadyH.nil)
        ·
         go_simp
         refine hK.out _ _ hSB (fun _ => ?_)
         clear hK K
         try simp only [q0]
         refine wpAnyH_ready (rs := [9]) (by kernel_rfl) (by simp) ?_
         refine AllReadyH.cons rfl (fun K hK => ?_) AllReadyH.nil
         rw [if_pos (by rfl)]
         refine wp_bs_en (n := ⟨#[c]⟩) (k := Kd) (l := id) rfl rfl HIDL.out ?_
         refine hK.out _ _ hSB2 (fun _ => ?_)
         clear hK K
         try simp only [q0]
         refine wpAnyH_ready (rs := [10]) (by kernel_rfl) (by simp) ?_
         refine AllReadyH.cons rfl (fun K hK => ?_) AllReadyH.nil
         rw [if_pos (by rfl)]
         refine wp_ap_en (e := ⟨⟨#[c]⟩, Kd, id⟩) (es := es) (.tmp 51) (.tmp 59) rfl rfl rfl HTB.out.own (by omega) HIDL.out (by omega) ?_
         intro v' w5 HO5 HG5
         obtain ⟨cc5, ff5⟩ := HTB.out.cell5 HG5.out
         have hB5 : Below (w.heap.size + 1 + 1 + 1) wc.drew w5 := hSB2.b.grown HG5.out (by simp; omega) (fun j hj => by have := (HTB.out.own.lt j hj).1; omega)
         have hS5 : Sx (w.heap.size + 1 + 1 + 1) g id wc.drew w5 := ⟨hB5, (HG5.out.block g hSB2.lt (own_box HTB.out.own hSB.r (by decide))).trans hSB2.r⟩
         refine hK.out _ _ hS5 (fun _ => ?_)
         clear hK K
         try simp only [q0]
         have HNX := Lib.hid (HTB.out.next HO5.out HG5.out ⟨HIDL.out, rfl⟩)
         obtain ⟨lo, lc, hform⟩ := own_shape HO5.out
         subst hform
         refine tk (i := 11) (v := ?_) ?_ ?_
         rotate_left
         · intro w' hSw; go_simp; try rfl
         try simp only [q0]
         refine wpAnyH_ready (rs := [12]) (by kernel_rfl) (by simp) ?_
         refine AllReadyH.cons rfl (fun K hK => ?_) AllReadyH.nil
         go_simp
         refine hK.out _ _ ⟨hS5.b.setCell (p := ⟨w.heap.size + 1 + 1 + 1, 2, none⟩) (by simp) _, (Below.heap_setCell _ _ _ _ (by have := HTC.out.lt; show g ≠ w.heap.size + 1 + 1 + 1; omega)).trans hS5.r⟩ (fun _ => ?_)
         clear hK K
         try simp only [q0]
         refine wpAnyH_done (by kernel_rfl) ?_ _
         refine NoPanic.normal ?_
         clear cc5 ff5 hB5 hS5 hSB2 hSB hSA cA cB cBa HO5 HG5
         go_wp2_with fail
         go_roundw
         case rel => exact ⟨k + 1, es ++ [⟨⟨#[c]⟩, Kd, id⟩], _, by omega, by omega, by go_num, by simp; omega, HNX⟩
         case measure => simp [intOf]; omega
        ·
         rw [if_pos (by rfl)]
         refine wp_bs_en (n := ⟨#[c]⟩) (k := Kd) (l := id) rfl rfl HIDL.out ?_
         refine hK.out _ _ hSB2 (fun _ => ?_)
         clear hK K
         try simp only [q0]
         refine wpAnyH_ready (rs := [1]) (by kernel_rfl) (by simp) ?_
         refine AllReadyH.cons rfl (fun K hK => ?_) AllReadyH.nil
         go_simp
         refine hK.out _ _ hSB2 (fun _ => ?_)
         clear hK K
         try simp only [q0]
         refine wpAnyH_ready (rs := [10]) (by kernel_rfl) (by simp) ?_
         refine AllReadyH.cons rfl (fun K hK => ?_) AllReadyH.nil
         rw [if_pos (by rfl)]
         refine wp_ap_en (e := ⟨⟨#[c]⟩, Kd, id⟩) (es := es) (.tmp 51) (.tmp 59) rfl rfl rfl HTB.out.own (by omega) HIDL.out (by omega) ?_
         intro v' w5 HO5 HG5
         obtain ⟨cc5, ff5⟩ := HTB.out.cell5 HG5.out
         have hB5 : Below (w.heap.size + 1 + 1 + 1) wc.drew w5 := hSB2.b.grown HG5.out (by simp; omega) (fun j hj => by have := (HTB.out.own.lt j hj).1; omega)
         have hS5 : Sx (w.heap.size + 1 + 1 + 1) g id wc.drew w5 := ⟨hB5, (HG5.out.block g hSB2.lt (own_box HTB.out.own hSB.r (by decide))).trans hSB2.r⟩
         refine hK.out _ _ hS5 (fun _ => ?_)
         clear hK K
         try simp only [q0]
         have HNX := Lib.hid (HTB.out.next HO5.out HG5.out ⟨HIDL.out, rfl⟩)
         obtain ⟨lo, lc, hform⟩ := own_shape HO5.out
         subst hform
         refine tk (i := 11) (v := ?_) ?_ ?_
         rotate_left
         · intro w' hSw; go_simp; try rfl
         try simp only [q0]
         refine wpAnyH_ready (rs := [12]) (by kernel_rfl) (by simp) ?_
         refine AllReadyH.cons rfl (fun K hK => ?_) AllReadyH.nil
         go_simp
         refine hK.out _ _ ⟨hS5.b.setCell (p := ⟨w.heap.size + 1 + 1 + 1, 2, none⟩) (by simp) _, (Below.heap_setCell _ _ _ _ (by have := HTC.out.lt; show g ≠ w.heap.size + 1 + 1 + 1; omega)).trans hS5.r⟩ (fun _ => ?_)
         clear hK K
         try simp only [q0]
         refine wpAnyH_done (by kernel_rfl) ?_ _
         refine NoPanic.normal ?_
         clear cc5 ff5 hB5 hS5 hSB2 hSB hSA cA cB cBa HO5 HG5
         go_wp2_with fail
         go_roundw
         case rel => exact ⟨k + 1, es ++ [⟨⟨#[c]⟩, Kd, id⟩], _, by omega, by omega, by go_num, by simp; omega, HNX⟩
         case measure => simp [intOf]; omega
  ·
   have HE2 := Lib.hid HT.out.s3.b2
   obtain ⟨eo, ec, hform⟩ := own_shape HT.out.own
   subst hform
   have HOB := Lib.hid (HT.out.obat (by unfold maxLen; omega) (obC { noOb with kind := 2, ents := es } (.slice eo es.length ec) nilV).toArray)
   have HBX := Lib.hid HT.out.bx.held
   have HCS := Lib.hid HOB.out.F.size
   have HCO := Lib.hid HOB.out.F.one
   have hfin : ∀ w', Below w.heap.size w w' → ObAt w' (obC { noOb with kind := 2, ents := es } (.slice eo es.length ec) nilV).toArray { noOb with kind := 2, ents := es } eo none ec 0 → MkP w (.returned (.agg (obC { noOb with kind := 2, ents := es } (.slice eo es.length ec) nilV).toArray)) w' := fun w' hb ho => ⟨_, _, _, _, _, _, rfl, ho, Nat.zero_le _, Nat.zero_le _, hb⟩
   have HFIN := Lib.hid (hfin _ (below_setRow HBW.out (by omega) _) HOB.out)
   clear hfin HT
   by_cases h1 : k < R.length
   ·
    have h1' : (k : Int) < (R.length : Int) := by omega
    have h2' : ¬ (k : Int) < 5 := by omega
    have h2b : decide ((k : Int) < 5) = false := by simpa using h2'
    clear hlt
    generalize hcs : (obC { noOb with kind := 2, ents := es } (.slice eo es.length ec) nilV).toArray = cs at *
    go_wp2_with (first
     | ((with_reducible refine ld_obr (x := .tmp 7) (g := w.heap.size + 1 + 1 + 1) ?_ ?_ ?_ HBX.out HCS.out ?_); rfl; rfl; rfl)
     | ((with_reducible refine st_obr (x := .tmp 6) (y := .tmp 62) (g := w.heap.size + 1 + 1) ?_ ?_ ?_ ?_ HE2.out HS0.out HCS.out HCO.out ?_); rfl; rfl; rfl; rfl))
    exact bodyPost_ret (v := .agg cs) (results_cell_row (by rfl) _ _ (w.heap.size + 1 + 1) _ _ _ _ (by rfl) (setRow_heap _ _ _ _ _ _ HE2.out) Tryz.underlying59 rfl (obsize HCS.out)) rfl HFIN.out
   ·
    have h1' : ¬ (k : Int) < (R.length : Int) := by omega
    clear hlt
    generalize hcs : (obC { noOb with kind := 2, ents := es } (.slice eo es.length ec) nilV).toArray = cs at *
    go_wp2_with (first
     | ((with_reducible refine ld_obr (x := .tmp 7) (g := w.heap.size + 1 + 1 + 1) ?_ ?_ ?_ HBX.out HCS.out ?_); rfl; rfl; rfl)
     | ((with_reducible refine st_obr (x := .tmp 6) (y := .tmp 62) (g := w.heap.size + 1 + 1) ?_ ?_ ?_ ?_ HE2.out HS0.out HCS.out HCO.out ?_); rfl; rfl; rfl; rfl))
    exact bodyPost_ret (v := .agg cs) (results_cell_row (by rfl) _ _ (w.heap.size + 1 + 1) _ _ _ _ (by rfl) (setRow_heap _ _ _ _ _ _ HE2.out) Tryz.underlying59 rfl (obsize HCS.out)) rfl HFIN.out
end Go.Proofs.YtkcjhkfelaplkaaGreatDoor
end
