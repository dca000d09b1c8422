/-
  WALKS OF LAYER 13: sets of ids: has, add, setOf.
-/
import Derived.Test.YtkcjhkfelaplkaaGreatDoorQq
import Derived.Carry
import Derived.Test.YtkcjhkfelaplkaaGreatDoorQt
import Derived.Shelf.SlSortCmp.NoneTotal
import Derived.Lib.BytesEntry
import Derived.Test.YtkcjhkfelaplkaaGreatDoorQh
import Derived.Test.YtkcjhkfelaplkaaGreatDoorRb
import Derived.Lib.SlicesCompact
import Derived.Test.YtkcjhkfelaplkaaGreatDoorQa
set_option linter.unusedVariables false
set_option linter.unusedSimpArgs false
set_option maxHeartbeats 8000000
set_option maxRecDepth 100000
section
namespace Go.Proofs.YtkcjhkfelaplkaaGreatDoor
open Go.RowKit Go.WideMaps Go.Maps
section
variable (w : World) {ops : Array Oper} {rest : List Oper} {o : Oper} {a : Act} {Q : Exit → Act → World → Prop}
theorem dpids_look (hg : o.guard = none) (m x : Operand) (hop : o.op = Op.lookup 98 m x true) (b n : Nat) (S : List (List UInt8))
  (hm : a.eval m = .map (some b)) (hM : Ids w b n S) (s : List UInt8) (hx : a.eval x = .agg (idC s).toArray) (hs : s.length = 32) (z : Bool) (hq : decide (s ∈ S) = z)
  (hK : wpList Tryz.prog ops Q rest (a.put o.dst (.tuple #[.agg #[], .bool z])) w) : wpList Tryz.prog ops Q (o :: rest) a w := by
 obtain ⟨D, h1, h2, h3⟩ := hM.out
 refine wpList_lookup_own_unit w hg m x 98 hop 46 160 idKeyed Tryz.underlying98 (zeroUnit w) b n D hm h1 (.agg (idC s).toArray) (idKey s) hx (keyOf_id hs) ?_
 rw [h3 s hs, hq]
 exact hK
theorem dpids_keep (hg : o.guard = none) (m x v : Operand) (hop : o.op = Op.mapUpdate 98 m x v) (b n : Nat) (S : List (List UInt8))
  (hm : a.eval m = .map (some b)) (hM : Ids w b n S) (hn : n < maxLen) (s : List UInt8) (hx : a.eval x = .agg (idC s).toArray) (hs : s.length = 32) (hv : a.eval v = .agg #[])
  (hK : ∀ w', Ids w' b (n + 1) (S ++ [s]) → w.grownBy w' (some b) → wpList Tryz.prog ops Q rest (a.put o.dst undef) w') : wpList Tryz.prog ops Q (o :: rest) a w := by
 obtain ⟨D, h1, h2, h3⟩ := hM.out
 refine wpList_mapUpdate_own w hg m x v 98 hop 46 160 idKeyed Tryz.underlying98 _ b n D hm h1 hn (.agg (idC s).toArray) (.agg #[]) (idKey s) hx hv (keyOf_id hs) _ [] unitElem_mk ?_
 intro w' hown hgrow
 refine hK w' ⟨_, hown, h2.put _ _, fun id hid => ?_⟩ hgrow
 have hh : decide (id ∈ S ++ [s]) = (decide (id ∈ S) || decide (s = id)) := by
  simp only [List.mem_append, List.mem_singleton, Bool.decide_or]
  congr 1
  exact decide_eq_decide.2 ⟨Eq.symm, Eq.symm⟩
 rw [hh]
 by_cases hk : s = id
 ·
  subst hk
  rw [Maps.has_put_same h2 (show WideAt.IsKeyLit (idKey s) from trivial) _]; simp
 ·
  have hne : idKey id ≠ idKey s := fun e => hk (idKey_inj hs hid e.symm)
  rw [Maps.has_put_other hne, h3 id hid]; simp [hk]
end
theorem dphas_any (w : World) (b n : Nat) (S : List (List UInt8)) (id : List UInt8) (h : Ids w b n S) (hid : id.length = 32) :
  Calls Tryz.prog 72 #[.map (some b), .agg (idC id).toArray] w fun r w' => r = .returned (.bool (decide (id ∈ S))) ∧ Below w.heap.size w w' := by
 have HM := Lib.hid (h.alloc (.cells (idC id).toArray 46))
 have HB := Lib.hid (below_new w (.cells (idC id).toArray 46))
 have HR := Lib.hid (row_news (heap_alloc_new w (.cells (idC id).toArray 46)))
 have HIL := Lib.hid hid
 generalize hz : decide (id ∈ S) = z
 have HZ := Lib.hid hz
 clear h hid hz
 go_enter Tryz.func72, Tryz.ntmps72
 go_wp2_with (first
  | ((with_reducible refine ld_id (x := .tmp 3) (p := ⟨w.heap.size, 0, none⟩) ?_ ?_ ?_ HR.out HIL.out ?_); rfl; rfl; rfl)
  | ((with_reducible refine dpids_look _ ?_ (.tmp 8) (.tmp 9) ?_ b n S ?_ HM.out id ?_ HIL.out z HZ.out ?_); rfl; rfl; rfl; rfl))
 go_ret
 exact ⟨rfl, HB.out.alloc HB.out.size _⟩
theorem dpadd_any (w : World) (b n : Nat) (S : List (List UInt8)) (id : List UInt8) (h : Ids w b n S) (hn : n < 1000000) (hid : id.length = 32) :
  Calls Tryz.prog 79 #[.map (some b), .agg (idC id).toArray] w fun r w' => r = .returned (.bool (!decide (id ∈ S))) ∧ Ids w' b (n + 1) (if id ∈ S then S else S ++ [id]) ∧ w.grownBy w' (some b) := by
 have HM := Lib.hid (h.alloc (.cells (idC id).toArray 46))
 have HB := Lib.hid (below_new w (.cells (idC id).toArray 46))
 have HR := Lib.hid (row_news (heap_alloc_new w (.cells (idC id).toArray 46)))
 have HIL := Lib.hid hid
 have hb := h.lt
 clear h hid
 by_cases hin : id ∈ S
 ·
  rw [if_pos hin, decide_eq_true hin]
  have HC := Lib.hid (dphas_any _ b n S id HM.out HIL.out)
  rw [decide_eq_true hin] at HC
  go_enter Tryz.func79, Tryz.ntmps79
  go_wp2_with ((with_reducible refine ld_id (x := .tmp 3) (p := ⟨w.heap.size, 0, none⟩) ?_ ?_ ?_ HR.out HIL.out ?_); rfl; rfl; rfl)
  refine HC.out.mono ?_
  rintro r w2 ⟨rfl, hb2⟩
  have HM2 := Lib.hid (HM.out.below hb2)
  go_wp2_with fail
  go_ret
  obtain ⟨D, h1, h2⟩ := HM2.out.out
  have hbb := HB.out.trans (hb2.mono HB.out.size)
  exact ⟨rfl, ⟨D, h1.mono (by omega), h2⟩, ⟨hbb.os, hbb.tape, hbb.output, hbb.size, fun k hk _ => hbb.block k hk⟩⟩
 ·
  rw [if_neg hin, decide_eq_false hin]
  have HC := Lib.hid (dphas_any _ b n S id HM.out HIL.out)
  rw [decide_eq_false hin] at HC
  go_enter Tryz.func79, Tryz.ntmps79
  go_wp2_with ((with_reducible refine ld_id (x := .tmp 3) (p := ⟨w.heap.size, 0, none⟩) ?_ ?_ ?_ HR.out HIL.out ?_); rfl; rfl; rfl)
  refine HC.out.mono ?_
  rintro r w2 ⟨rfl, hb2⟩
  have HM2 := Lib.hid (HM.out.below hb2)
  have HR2 := Lib.hid (show ∀ j u, (idC id)[j]? = some u → w2.cell? ((⟨w.heap.size, 0, none⟩ : Addr).add j) = some u from fun j u hu => by
   have h1 := HR.out j u hu
   rw [hb2.cell (World.block_lt_of_cell? _ _ h1)]; exact h1)
  have HBB := Lib.hid (HB.out.trans (hb2.mono HB.out.size))
  clear hb2 HC HR HM HB
  go_wp2_with (first
   | ((with_reducible refine ld_id (x := .tmp 3) (p := ⟨w.heap.size, 0, none⟩) ?_ ?_ ?_ HR2.out HIL.out ?_); rfl; rfl; rfl)
   | ((with_reducible refine dpids_keep _ ?_ (.tmp 8) (.tmp 9) (.tmp 10) ?_ b n S ?_ HM2.out (by unfold maxLen; omega) id ?_ HIL.out ?_ (fun w3 h3 h4 => ?_)); rfl; rfl; rfl; rfl; rfl))
  go_ret
  exact ⟨rfl, h3, grown_below HBB.out h4⟩
theorem dpset_any (w : World) (v : Value) (I : List (List UInt8)) (h : IdsAt w v I) (hl : ∀ i ∈ I, i.length = 32) (hn : I.length ≤ 10000) :
  Calls Tryz.prog 70 #[v] w fun r w' => ∃ b n S, r = .returned (.map (some b)) ∧ Ids w' b n S ∧ (∀ x, x ∈ S ↔ x ∈ I) ∧ w.heap.size ≤ b ∧ n ≤ 10000 ∧ Below w.heap.size w w' := by
 obtain ⟨ao, cap, rfl⟩ := h.form
 rw [List.length_map] at h ⊢
 have HH := Lib.hid h
 have HL := Lib.hid hl
 have HM0 := Lib.hid (Ids.made w)
 have HB0 := Lib.hid (below_new w (.map #[] 0))
 clear h hl
 have hmm := @run_makeMap Tryz.prog
 go_enter Tryz.func70, Tryz.ntmps70
 go_wp2_with fail
 change Code.wp _ _ _ _ (w.alloc (.map #[] 0))
 clear hmm
 generalize w.alloc (.map #[] 0) = w1 at *
 go_loopw [9] (fun i wr => ∃ (k n : Nat) (S : List (List UInt8)), k ≤ I.length ∧ i = .int .i64 k ∧ n ≤ k ∧ Hid (Ids wr w.heap.size n S) ∧ Hid (∀ x, x ∈ S ↔ x ∈ I.take k) ∧ Hid (Below w.heap.size w wr)) (fun i _ => I.length - (intOf i).toNat)
 case atStart => exact ⟨0, 0, [], by omega, rfl, by omega, HM0.out, fun x => by simp, HB0.out⟩
 case round =>
  obtain ⟨k, n, S, hk, rfl, hnk, HM, HS, HB⟩ := hrel
  by_cases hlt : k < I.length
  ·
   have hlt' : (k : Int) < (I.length : Int) := by omega
   have hk0 : (0 : Int) ≤ (k : Int) := by omega
   obtain ⟨id, hi⟩ : ∃ id, I[k]? = some id := ⟨I[k], List.getElem?_eq_getElem hlt⟩
   have HID := Lib.hid (HL.out id (List.mem_of_getElem? hi))
   obtain ⟨a, rfl, _, hc⟩ := (HH.out.below HB.out).elem k (idC id) (by rw [List.getElem?_map, hi]; rfl)
   have HC := Lib.hid hc
   have HTK := Lib.hid (show I.take (k + 1) = I.take k ++ [id] by rw [List.take_succ_eq_append_getElem hlt]; rw [List.getElem?_eq_getElem hlt] at hi; injection hi with e; rw [e])
   have HR := Lib.hid (row_news (heap_alloc_new wr (.cells (idC id).toArray 46)))
   have HAD := Lib.hid (dpadd_any (wr.alloc (.cells (idC id).toArray 46)) w.heap.size n S id (HM.out.alloc _) (by omega) HID.out)
   have HBA := Lib.hid (below_new wr (.cells (idC id).toArray 46))
   clear hc hi
   go_wp2_with (first
    | ((with_reducible refine ld_id (x := .tmp 11) ?_ ?_ ?_ HC.out HID.out ?_); rfl; rfl; rfl)
    | ((with_reducible apply st_id (hl := HID.out)); rfl; rfl; rfl; rfl; rfl)
    | ((with_reducible refine ld_id (x := .tmp 5) (p := ⟨wr.heap.size, 0, none⟩) ?_ ?_ ?_ HR.out HID.out ?_); rfl; rfl; rfl))
   refine HAD.out.mono ?_
   rintro r w3 ⟨rfl, h3, hg3⟩
   have HM3 := Lib.hid h3
   have HS3 := Lib.hid (show ∀ x, x ∈ (if id ∈ S then S else S ++ [id]) ↔ x ∈ I.take (k + 1) from fun x => by
    rw [HTK.out, List.mem_append, List.mem_singleton, ← HS.out x]
    by_cases hin : id ∈ S
    · rw [if_pos hin]; exact ⟨.inl, fun h => h.elim (fun h => h) (fun e => by rw [e]; exact hin)⟩
    · rw [if_neg hin, List.mem_append, List.mem_singleton])
   have HB3 := Lib.hid ((HB.out.trans (HBA.out.mono HB.out.size)).grown hg3 (by have := HB.out.size; have := HBA.out.size; omega) (fun k hk => by injection hk with e; omega))
   clear h3 hg3 HAD
   go_wp2_with fail
   go_roundw
   case rel => exact ⟨k + 1, n + 1, _, by omega, by go_num, by omega, HM3.out, HS3.out, HB3.out⟩
   case measure => simp [intOf]; omega
  ·
   have hlt' : ¬ (k : Int) < (I.length : Int) := by omega
   go_wp2_with fail
   go_ret
   exact ⟨_, rfl, n, S, HM.out, fun x => by rw [HS.out x, List.take_of_length_le (by omega)], Nat.le_refl _, by omega, HB.out⟩
end Go.Proofs.YtkcjhkfelaplkaaGreatDoor
end
section
namespace Go.Proofs.YtkcjhkfelaplkaaGreatDoor
open Go.RowKit Go.Sort
section
variable {α : Type} [Inhabited α]
theorem flatK_list (enc : α → List Value) (k : Nat) (hk : ∀ x, (enc x).length = k) (d : Array α) : (flatK enc k d).toList = (d.toList.map enc).flatten := by
 have hC : ∀ c ∈ d.toList.map enc, c.length = k := fun c hc => by
  obtain ⟨x, _, rfl⟩ := List.mem_map.1 hc
  exact hk x
 have hl : ((d.toList.map enc).flatten).length = d.size * k := by
  have := flatK_len _ hC
  rw [List.length_map] at this; exact this
 apply List.ext_getElem
 · rw [hl]; simp
 ·
  intro t h1 h2
  have ht : t < d.size * k := by rw [hl] at h2; exact h2
  have hk0 : 0 < k := by
   rcases Nat.eq_zero_or_pos k with h | h
   · subst h; simp at ht
   · exact h
  have hq : t / k < d.size := (Nat.div_lt_iff_lt_mul hk0).2 ht
  have hm : t % k < k := Nat.mod_lt _ hk0
  have e1 : (enc d[t / k]!)[t % k]? = some ((enc d[t / k]!)[t % k]!) := by
   rw [List.getElem!_eq_getElem?_getD, List.getElem?_eq_getElem (by rw [hk]; exact hm)]; rfl
  have h3 := flatK_get (d.toList.map enc) hC (t / k) (enc d[t / k]!) (by rw [List.getElem?_map, getElem!_pos d _ hq]; simp [hq]) (t % k) _ e1
  have e2 : t / k * k + t % k = t := by rw [Nat.mul_comm]; exact Nat.div_add_mod t k
  rw [e2] at h3
  have h4 := get_flatK enc k d t ht
  have h5 : (flatK enc k d)[t]! = (flatK enc k d).toList[t] := by
   rw [getElem!_pos _ t (by simpa using ht)]; simp
  rw [← h5, h4]
  rw [List.getElem?_eq_getElem (by rw [hl]; exact ht)] at h3
  exact (Option.some.inj h3).symm
theorem own_sortedK {w : World} {base g cap n m : Nat} {e : TypeId} {os : Array Obj} {cur : Array Value} (enc : α → List Value) (k : Nat) (hk : ∀ x, (enc x).length = k) (d : Array α) (hl : d.size = n) (hb : base ≤ g) (hh : w.heap[g]? = some (.cells cur e (0, 0)))
  (h1 : n ≤ cap) (h2 : cap ≤ maxLen) (h3 : cur.size = cap * k) : (sortWorldK enc k w g 0 m d os).ownsRow base e k (.slice (some ⟨g, 0, none⟩) n cap) n ((d.toList.map enc).flatten) := by
 have hC : ∀ c ∈ d.toList.map enc, c.length = k := fun c hc => by
  obtain ⟨x, _, rfl⟩ := List.mem_map.1 hc
  exact hk x
 have hlen : ((d.toList.map enc).flatten).length = n * k := by
  have := flatK_len _ hC
  rw [List.length_map] at this; rw [← hl]; exact this
 have hg : g < w.heap.size := (Array.getElem?_eq_some_iff.1 hh).1
 refine ⟨hlen, .inr ⟨g, cap, putCells id 0 (flatK enc k d) cur, rfl, hb, ?_, h1, h2, by simp [putCells, h3], ?_⟩⟩
 ·
  unfold sortWorldK
  rw [heap_grow_old _ _ (by rw [size_putRowK]; exact hg)]
  unfold putRowK putRow mapBlock
  simp [Sort.ahead, Array.getElem?_modify, hh, onCells]
 ·
  have hle : n * k ≤ cap * k := Nat.mul_le_mul_right k h1
  rw [← flatK_list enc k hk d]
  apply List.ext_getElem?
  intro j
  by_cases hj : j < n * k
  ·
   rw [List.getElem?_take_of_lt hj, Array.getElem?_toList, Array.getElem?_toList]
   have hs : j < (flatK enc k d).size := by rw [size_flatK, hl]; exact hj
   unfold putCells
   rw [Array.getElem?_mapIdx, Array.getElem?_eq_getElem (by omega : j < cur.size), Option.map_some, if_pos ⟨Nat.zero_le _, by omega⟩, Array.getElem?_eq_getElem hs, Nat.sub_zero, getElem!_pos _ j hs]
   rfl
  · rw [List.getElem?_take_eq_none (by omega), List.getElem?_eq_none (by simp [hl]; omega)]
theorem holdsK_own {w : World} {base g cap n : Nat} {e : TypeId} (enc : α → List Value) (k : Nat) (hk : ∀ x, (enc x).length = k) (d : Array α) (hl : d.size = n) (h : w.ownsRow base e k (.slice (some ⟨g, 0, none⟩) n cap) n ((d.toList.map enc).flatten)) : HoldsK enc k w g 0 d := by
 intro j hj
 rw [size_flatK, hl] at hj
 rw [Nat.zero_add]
 refine ⟨?_, h.frozenAt j⟩
 rw [h.cellAt j hj, ← flatK_list enc k hk d]
 have hs : j < (flatK enc k d).size := by rw [size_flatK, hl]; exact hj
 rw [Array.getElem?_toList, Array.getElem?_eq_getElem hs, getElem!_pos _ j hs]
 rfl
end
end Go.Proofs.YtkcjhkfelaplkaaGreatDoor
end
section
namespace Go.Proofs.YtkcjhkfelaplkaaGreatDoor
open Go.RowKit Go.Sort
theorem dp_cmp : ∀ a b : List UInt8, a.length = b.length → Lib.compareBytes a b = Gr.cfL a b
 | [], [], _ => rfl
 | [], _ :: _, h => by simp at h
 | _ :: _, [], h => by simp at h
 | x :: a, y :: b, h => by
   have ih := dp_cmp a b (by simpa using h)
   unfold Gr.cfL at ih ⊢
   unfold Lib.compareBytes St.lt
   by_cases e : x = y
   ·
    subst e
    have hlt : ¬ x < x := UInt8.lt_irrefl x
    simp only [hlt, if_false, if_true, ih, List.cons.injEq, true_and]
   ·
    have hne : ¬ (x :: a = y :: b) := fun k => e (List.cons.inj k).1
    rw [if_neg e, if_neg hne]
    by_cases hlt : x < y
    ·
     have : x.toNat < y.toNat := UInt8.lt_iff_toNat_lt.1 hlt
     simp [hlt, this]
    ·
     have h2 : ¬ x.toNat < y.toNat := fun k => hlt (UInt8.lt_iff_toNat_lt.2 k)
     have h3 : y < x := UInt8.lt_of_le_of_ne (UInt8.not_lt.1 hlt) (Ne.symm e)
     simp [hlt, h2, h3]
theorem dp_bytes (l : List UInt8) : Lib.bytesOf (l.map fun b => ((b.toNat : Int))) = l := by
 unfold Lib.bytesOf
 rw [List.map_map]
 have : ((fun (x : Int) => x.toNat.toUInt8) ∘ fun (b : UInt8) => ((b.toNat : Int))) = id := by
  funext b; simp
 first
  | (rw [this]; simp)
  | simp [Function.comp_def]
theorem dp_load (w : World) (l : List UInt8) (a : Addr) (h : ∀ j u, (idC l)[j]? = some u → w.cell? (a.add j) = some u) : (Extern.Bytes.loadBytes a l.length .empty).run Tryz.prog w = .ok ⟨l.toArray⟩ w := by
 have := Lib.run_loadBytesX (P := Tryz.prog) w (l.map fun b => ((b.toNat : Int))) a .empty (fun j x hj => h j (.int .u8 x) (by
  rw [List.getElem?_map] at hj
  unfold idC
  rw [List.getElem?_map]
  cases hq : l[j]? with
  | none => rw [hq] at hj; cases hj
  | some b => rw [hq] at hj; simp only [Option.map_some, Option.some.injEq] at hj ⊢; rw [← hj]; rfl))
 rw [dp_bytes, List.length_map] at this
 rw [this]
 congr 1
 apply ByteArray.ext
 simp
theorem dp_cmp_run (w : World) (a b : List UInt8) (pa pb : Addr) (ca cb : Nat) (hl : a.length = b.length) (ha : ∀ j u, (idC a)[j]? = some u → w.cell? (pa.add j) = some u) (hb : ∀ j u, (idC b)[j]? = some u → w.cell? (pb.add j) = some u) :
  (Extern.BytealgCompare.compare #[.slice (some pa) a.length ca, .slice (some pb) b.length cb]).run Tryz.prog w = .ok (.int .i64 (Gr.cfL a b)) w := by
 change Sem.run Tryz.prog (do pure (goInt (Extern.BytealgCompare.cmp (← Extern.Bytes.loadBytes pa a.length .empty) (← Extern.Bytes.loadBytes pb b.length .empty)))) w = _
 simp only [Sem.run_bind, Sem.run_pure, Result.andThen, dp_load w a pa ha, dp_load w b pb hb]
 rw [Lib.cmp_eq]
 show Result.ok (goInt (Lib.compareBytes a b)) w = _
 rw [dp_cmp a b hl]
 rfl
theorem dp_cmp_call (w : World) (a b : List UInt8) (pa pb : Addr) (ca cb : Nat) (hl : a.length = b.length) (ha : ∀ j u, (idC a)[j]? = some u → w.cell? (pa.add j) = some u) (hb : ∀ j u, (idC b)[j]? = some u → w.cell? (pb.add j) = some u) :
  (callFunc 124 #[.slice (some pa) a.length ca, .slice (some pb) b.length cb]).run Tryz.prog w = .ok (.value (.int .i64 (Gr.cfL a b))) w := by
 rw [run_callFunc_extern Tryz.func124 (by kernel_rfl) (by kernel_rfl) (by kernel_rfl) (e := Extern.BytealgCompare.compare) (by kernel_rfl), dp_cmp_run w a b pa pb ca cb hl ha hb]
 rfl
theorem bcompare_any (w : World) (a b : List UInt8) (pa pb : Addr) (ha : a.length = 32) (hb : b.length = 32) (hac : ∀ j u, (idC a)[j]? = some u → w.cell? (pa.add j) = some u) (hbc : ∀ j u, (idC b)[j]? = some u → w.cell? (pb.add j) = some u) :
  Calls Tryz.prog 83 #[.slice (some pa) 32 32, .slice (some pb) 32 32] w fun r w' => r = .returned (.int .i64 (Gr.cfL a b)) ∧ w' = w := by
 have hc := dp_cmp_call w a b pa pb 32 32 (by rw [ha, hb]) hac hbc
 rw [ha, hb] at hc
 clear hac hbc ha hb
 generalize Gr.cfL a b = R at *
 go_enter Tryz.func83, Tryz.ntmps83
 go_wp2_with fail
 go_ret
 exact ⟨rfl, rfl⟩
theorem dpcompare_l (a b : List UInt8) (ha : a.length = 32) (hb : b.length = 32) (w : World) :
  Calls Tryz.prog 46 #[.agg (idC a).toArray, .agg (idC b).toArray] w fun r w' => r = .returned (.int .i64 (Gr.cfL a b)) ∧ RowKit.Below w.heap.size w w' ∧ w.drawn ≤ w'.drawn := by
 have HX2 := Lib.hid (row_news (show ((w.alloc (.cells (idC a).toArray 46)).alloc (.cells (idC b).toArray 46)).heap[w.heap.size]? = some (.cells (idC a).toArray 46) from heap_alloc2_old _ _ _))
 have HY2 := Lib.hid (row_news (new2 w (.cells (idC a).toArray 46) (.cells (idC b).toArray 46)))
 have HB2 := Lib.hid (below2 w (.cells (idC a).toArray 46) (.cells (idC b).toArray 46))
 have HBC := Lib.hid (bcompare_any (((w.alloc (.cells (idC a).toArray 46)).alloc (.cells (idC b).toArray 46)).drew) a b ⟨w.heap.size, 0, none⟩ ⟨w.heap.size + 1, 0, none⟩ ha hb HX2.out HY2.out)
 have HD2 := Lib.hid (show w.drawn ≤ ((w.alloc (.cells (idC a).toArray 46)).alloc (.cells (idC b).toArray 46)).drawn from Nat.le_refl _)
 clear ha hb HX2 HY2
 go_enter Tryz.func46, Tryz.ntmps46
 go_wp2_with fail
 refine rgn_tail 2 (by kernel_rfl) (by kernel_rfl) ?_
 simp only [List.take_succ_cons, List.take_zero, List.drop_succ_cons, List.drop_zero]
 repeat still_step
 refine wpStill_nil ?_
 go_wp2_with fail
 with_reducible refine HBC.out.mono ?_
 rintro r w2 ⟨rfl, rfl⟩
 go_wp2_with fail
 go_ret
 exact ⟨rfl, HB2.out.drew, Nat.le_succ _⟩
end Go.Proofs.YtkcjhkfelaplkaaGreatDoor
end
section
namespace Go.Proofs.YtkcjhkfelaplkaaGreatDoor
open Go.RowKit Go.Sort
theorem Dp.eg : ∀ args w, (callFunc 46 args).run Tryz.prog w = .ok (.enter 46 args) w := enters_of Tryz.func46 (by kernel_rfl) rfl
theorem Dp.cmp (blk off size : Nat) (w : World) : CmpLays Tryz.prog 46 #[] Gr.enc 32 Gr.cf blk off size w := fun m os dk hs x y => by
 have h := dpcompare_l x.1 y.1 x.2 y.2 (sortWorldK Gr.enc 32 w blk off m dk os)
 simp only [Array.append_empty]
 exact h.mono fun e w' ⟨h1, h2, h3⟩ => ⟨h1, grow_of h2 h3⟩
theorem dpsort_any (w : World) (base : Nat) (v : Value) (I : List (List UInt8)) (h : OwnI w base v I) (hn : I.length ≤ 100000) :
  Calls Tryz.prog 73 #[v, .func (.func 46) #[] #[]] w fun r w' => r = .returned (.tuple #[]) ∧ ∃ I', I'.Perm I ∧ (∀ (i j : Nat) (x y : List UInt8), i < j → I'[i]? = some x → I'[j]? = some y → St.lt y x = false) ∧ OwnI w' base v I' ∧ w.grownBy w' v.ownBlock := by
 rcases Nat.eq_zero_or_pos I.length with h0 | h0
 ·
  have hI : I = [] := List.eq_nil_of_length_eq_zero h0
  subst hI
  obtain ⟨ao, cap, rfl⟩ := h.rows.form
  have := AnyF.slices_SortFunc_none Tryz.sortId ao cap (.func (.func 46) #[] #[]) w
  refine Calls.mono this fun e w' ⟨h1, h2⟩ => ⟨h1, [], .refl _, fun i j x y _ hx => by simp at hx, ?_, ?_⟩
  · subst h2; exact h
  · subst h2; exact World.grownBy.refl _ _
 ·
  obtain ⟨g, cap, rfl, hb, hlt⟩ := h.own.form h0
  have hH := holds_of_own h
  have hsz : (Gr.subs I h.len).toArray.size = I.length := by simp [Gr.subs_len]
  have hc := AnyQ.slices_SortFunc Tryz.sortId 32 Tryz.isAgg46 Tryz.sizeOf46 Gr.enc Gr.enc_len Gr.enc_one Gr.cf Gr.swo 46 #[] g 0 cap (Gr.subs I h.len).toArray w Dp.eg (Dp.cmp _ _ _ _) hH hlt (by omega)
  rw [hsz] at hc
  refine Calls.mono hc fun e w' ⟨h1, d', n, os, hp, hs, hw⟩ => ⟨h1, d'.toList.map (·.1), ?_, ?_, ?_, ?_⟩
  ·
   have h3 := hp.2.2
   have e1 : (d'.extract 0 I.length).toList = d'.toList := by
    have : d'.size = I.length := by rw [hp.1, hsz]
    rw [← this]; simp
   have e2 : ((Gr.subs I h.len).toArray.extract 0 I.length).toList = Gr.subs I h.len := by
    have h9 : (Gr.subs I h.len).length = I.length := Gr.subs_len _ _
    simp [h9, List.take_of_length_le]
   rw [e1, e2] at h3
   have := h3.map (·.1)
   rwa [Gr.subs_map] at this
  ·
   intro i j x y hij hx hy
   rw [List.getElem?_map] at hx hy
   have hjs : j < d'.size := by
    cases hq : d'.toList[j]? with
    | none => rw [hq] at hy; simp at hy
    | some z => have := (List.getElem?_eq_some_iff.1 hq).1; simpa using this
   have hjn : j < I.length := by rw [hp.1, hsz] at hjs; exact hjs
   have := hs i j (Nat.zero_le _) hij hjn
   rw [Gr.ltOf_cf, getElem!_pos d' j hjs, getElem!_pos d' i (by omega)] at this
   rw [List.getElem?_eq_getElem (by simpa using hjs)] at hy
   rw [List.getElem?_eq_getElem (by simp; omega)] at hx
   simp only [Option.map_some, Option.some.injEq, Array.getElem_toList] at hx hy
   rw [← hx, ← hy]; exact this
  ·
   have hsz' : d'.size = I.length := by rw [hp.1, hsz]
   rcases h.own.2 with ⟨hv', _⟩ | ⟨g', c', cur, hv', hb', hh, h1', h2', h3', h4'⟩
   · cases hv'
   ·
    simp only [Value.slice.injEq, Option.some.injEq, Addr.mk.injEq, and_true] at hv'
    obtain ⟨rfl, _, rfl⟩ := hv'
    have hle : (d'.toList.map (·.1)).length = I.length := by simp [hsz']
    have h5 := own_sortedK (w := w) (base := base) (os := os) (m := n) Gr.enc 32 Gr.enc_len d' hsz' hb' hh h1' h2' h3'
    rw [← hw] at h5
    refine ⟨?_, fun i hi => ?_⟩
    · rw [hle, List.map_map]; exact h5
    ·
     obtain ⟨x, _, rfl⟩ := List.mem_map.1 hi
     exact x.2
  · rw [hw]; exact sorted_grown
end Go.Proofs.YtkcjhkfelaplkaaGreatDoor
end
section
namespace Go.Proofs.YtkcjhkfelaplkaaGreatDoor
open Go.RowKit Go.Sort
theorem OwnI.set {w : World} {base : Nat} {g n cap i : Nat} {C : List (List UInt8)} (h : OwnI w base (.slice (some ⟨g, 0, none⟩) n cap) C) (c : List UInt8) (hcl : c.length = 32) (hi : i < C.length) : OwnI (w.setCells g (i * 32) (idC c)) base (.slice (some ⟨g, 0, none⟩) n cap) (C.set i c) := by
 have hl := h.own.1
 rcases h.own.2 with ⟨hv, h0⟩ | ⟨g', c', cur, hv, hb, hh, h1, h2, h3, h4⟩
 · cases hv
 ·
  simp only [Value.slice.injEq, Option.some.injEq, Addr.mk.injEq, and_true] at hv
  obtain ⟨rfl, rfl, rfl⟩ := hv
  have hfl : ((C.map idC).flatten).length = C.length * 32 := by rw [flatK_len _ (ids_len h.len)]; simp
  have hcl2 : (idC c).length = 32 := by rw [idC_length, hcl]
  have hcu : C.length * 32 ≤ cur.toList.length := by
   rw [← hfl, ← h4]; rw [List.length_take]; omega
  have hset := setCells_row g 46 (idC c) (i * 32) w cur.toList (by simpa using hh) (by omega)
  have hfs : ((C.set i c).map idC).flatten = splice (C.map idC).flatten (i * 32) (idC c) := by
   rw [List.map_set]
   exact flatK_set (C.map idC) (ids_len h.len) i (idC c) (by simpa using hi) hcl2
  refine ⟨⟨by rw [hfs, splice_length _ _ _ (by omega)]; simpa using hl, .inr ⟨g, cap, (splice cur.toList (i * 32) (idC c)).toArray, by simp, hb, hset, by simpa using h1, ?_, ?_, ?_⟩⟩, fun x hx => ?_⟩
  · exact h2
  · rw [List.size_toArray, splice_length _ _ _ (by omega)]; simpa using h3
  · rw [List.length_set, List.toList_toArray, splice_take _ _ _ _ (by omega) hcu, h4, hfs]
  ·
   rcases List.mem_or_eq_of_mem_set hx with k | k
   · exact h.len x k
   · rw [k]; exact hcl
theorem OwnI.cleared {w : World} {base g n cap k : Nat} {C : List (List UInt8)} (h : OwnI w base (.slice (some ⟨g, 0, none⟩) n cap) C) (vs : List Value) (hk : k ≤ C.length) (hv : vs.length = (C.length - k) * 32) : OwnI (w.setCells g (k * 32) vs) base (.slice (some ⟨g, 0, none⟩) k cap) (C.take k) := by
 have hl := h.own.1
 rcases h.own.2 with ⟨hv', h0⟩ | ⟨g', c', cur, hv', hb, hh, h1, h2, h3, h4⟩
 · cases hv'
 ·
  simp only [Value.slice.injEq, Option.some.injEq, Addr.mk.injEq, and_true] at hv'
  obtain ⟨rfl, rfl, rfl⟩ := hv'
  have hfl : ((C.map idC).flatten).length = C.length * 32 := by rw [flatK_len _ (ids_len h.len)]; simp
  have hfk : (((C.take k).map idC).flatten).length = k * 32 := by
   rw [flatK_len _ (ids_len fun i hi => h.len i (List.mem_of_mem_take hi))]; simp [Nat.min_eq_left hk]
  have hcu : C.length * 32 ≤ cur.toList.length := by
   rw [← hfl, ← h4]; rw [List.length_take]; omega
  have hset := setCells_row g 46 vs (k * 32) w cur.toList (by simpa using hh) (by rw [hv]; omega)
  have hkl : (C.take k).length = k := by simp [Nat.min_eq_left hk]
  refine ⟨⟨by rw [hfk, hkl], .inr ⟨g, cap, (splice cur.toList (k * 32) vs).toArray, by rw [hkl], hb, hset, by rw [hkl]; omega, h2, ?_, ?_⟩⟩, fun x hx => h.len x (List.mem_of_mem_take hx)⟩
  · rw [List.size_toArray, splice_length _ _ _ (by rw [hv]; omega)]; simpa using h3
  ·
   rw [hkl, List.toList_toArray]
   unfold splice
   rw [List.take_append_of_le_length (by rw [List.length_take]; omega), List.take_of_length_le (by rw [List.length_take]; omega)]
   have h5 : (cur.toList.take (C.length * 32)).take (k * 32) = ((C.take k).map idC).flatten := by
    rw [h4]
    have h6 : (C.map idC).flatten = ((C.take k).map idC).flatten ++ ((C.drop k).map idC).flatten := by
     rw [← List.flatten_append, ← List.map_append, List.take_append_drop]
    rw [h6, List.take_append_of_le_length (by omega), List.take_of_length_le (by omega)]
   rw [List.take_take, Nat.min_eq_left (by omega)] at h5
   exact h5
section
variable {P : Program}
theorem run_clear_k (w : World) (t e : TypeId) (z : List Value) (ht : P.underlying t = some (.slice e)) (hv : ∀ w, (zeroValue e).run P w = .ok (.agg z.toArray) w) (h1 : ∀ v ∈ z, v.oneCell' = true) (b o m c : Nat) (hm : 0 < m) (hz : 0 < z.length)
  (hc : ∀ j, j < m * z.length → (w.cell? ⟨b, o + j, none⟩).isSome = true) (hf : ∀ j, j < m * z.length → w.frozen? ⟨b, o + j, none⟩ = false) :
  ∃ vs : List Value, vs.length = m * z.length ∧ ∀ ty, (Builtin.clear_ #[t] ty #[.slice (some ⟨b, o, none⟩) m c]).run P w = .ok (.tuple #[]) (w.setCells b o vs) := by
 obtain ⟨vs, hvs⟩ : ∃ vs, (Builtin.zeroCells (Value.agg z.toArray).cells m).toList = vs := ⟨_, rfl⟩
 have hl : vs.length = m * z.length := by rw [← hvs]; simp [Builtin.zeroCells, Value.cells]
 have ho : ∀ v ∈ vs, v.oneCell' = true := fun v hv' => by
  rw [← hvs] at hv'
  simp only [Builtin.zeroCells, Value.cells, Array.toList_map, List.mem_map] at hv'
  obtain ⟨i, _, rfl⟩ := hv'
  have hlt : i % z.toArray.size < z.toArray.size := Nat.mod_lt _ (by simpa using hz)
  rw [getElem!_pos z.toArray (i % z.toArray.size) hlt]
  exact h1 _ (by simp)
 refine ⟨vs, hl, fun ty => ?_⟩
 have hst := run_storeCells_cells (P := P) b o vs 0 w (by rw [hl]; simpa using hc) (by rw [hl]; simpa using hf) ho
 simp only [Nat.add_zero] at hst
 obtain ⟨m', rfl⟩ : ∃ m', m = m' + 1 := ⟨m - 1, by omega⟩
 simp [Builtin.clear_, run_underlying ht, hv, hvs, hst]
end
theorem zeroId_run (w : World) : (zeroValue 46).run Tryz.prog w = .ok (.agg (idC zId).toArray) w := by
 obtain ⟨i0, hi, hz0, hz1, hz2⟩ := info_parts infoIdz
 simp [zeroValue, typeInfo, hi, hz0]
theorem clear_ids {w : World} {base g cap k : Nat} {C : List (List UInt8)} (h : OwnI w base (.slice (some ⟨g, 0, none⟩) C.length cap) C) (hk : k < C.length) (c : Nat) :
  ∃ w', (∀ ty, (Builtin.clear_ #[34] ty #[.slice (some ⟨g, k * 32, none⟩) (C.length - k) c]).run Tryz.prog w = .ok (.tuple #[]) w') ∧ OwnI w' base (.slice (some ⟨g, 0, none⟩) k cap) (C.take k) ∧ w.grownBy w' (some g) := by
 have hfl : ((C.map idC).flatten).length = C.length * 32 := by rw [flatK_len _ (ids_len h.len)]; simp
 have hz : (idC zId).length = 32 := by decide
 have hsum : k * 32 + (C.length - k) * 32 = C.length * 32 := by rw [← Nat.add_mul]; congr 1; omega
 obtain ⟨vs, h1, h2⟩ := run_clear_k (P := Tryz.prog) w 34 46 (idC zId) Tryz.underlying34 zeroId_run (idC_one zId) g (k * 32) (C.length - k) c (by omega) (by rw [hz]; decide)
  (fun j hj => by
    rw [hz] at hj
    rw [h.own.cellAt (k * 32 + j) (by omega), List.getElem?_eq_getElem (by omega)]; rfl)
  (fun j hj => h.own.frozenAt _)
 rw [hz] at h1
 exact ⟨_, h2, h.cleared vs (by omega) h1, grown_setCells g vs _ w⟩
theorem dp_compact_upto (d : Array (List UInt8)) (hl : ∀ x ∈ d.toList, x.length = 32) (hs : ∀ (i j : Nat) (x y : List UInt8), i < j → d.toList[i]? = some x → d.toList[j]? = some y → St.lt y x = false) : ∀ m, m ≤ d.size → Gr.Up (Lib.compactUpTo d m) ∧ (∀ x, x ∈ Lib.compactUpTo d m ↔ ∃ j, j < m ∧ d.toList[j]? = some x)
 | 0, _ => by
   refine ⟨?_, fun x => ?_⟩
   · exact List.Pairwise.nil
   · simp [Lib.compactUpTo]
 | m + 1, hm => by
   obtain ⟨h1, h2⟩ := dp_compact_upto d hl hs m (by omega)
   have hget : ∀ j, j < d.size → d.toList[j]? = some d[j]! := fun j hj => by
    rw [List.getElem?_eq_getElem (by simpa using hj), getElem!_pos d j hj]; simp
   rw [Lib.compactUpTo_succ]
   by_cases hk : Lib.keeps d m = true
   ·
    rw [if_pos hk]
    refine ⟨?_, fun x => ?_⟩
    ·
     unfold Gr.Up
     rw [List.pairwise_append]
     refine ⟨h1, List.pairwise_singleton _ _, fun a ha b hb => ?_⟩
     rw [List.mem_singleton.1 hb]
     obtain ⟨j, hj, hx⟩ := (h2 a).1 ha
     have hmm := hget m (by omega)
     have hla := hl a (List.mem_of_getElem? hx)
     have hlm := hl d[m]! (List.mem_of_getElem? hmm)
     have hp := hget (m - 1) (by omega)
     have hne : d[m]! ≠ d[m - 1]! := by
      unfold Lib.keeps at hk
      rcases of_decide_eq_true hk with k | k
      · omega
      · exact k
     have hlp := hl d[m - 1]! (List.mem_of_getElem? hp)
     have hpm : St.lt d[m - 1]! d[m]! = true := by
      rcases St.lt_tri (a := d[m - 1]!) (b := d[m]!) (by rw [hlp, hlm]) with k | k | k
      · exact k
      · exact absurd k.symm hne
      · have := hs (m - 1) m _ _ (by omega) hp hmm; rw [this] at k; cases k
     rcases Nat.lt_or_ge j (m - 1) with hj2 | hj2
     ·
      have h3 := hs j (m - 1) _ _ hj2 hx hp
      rcases St.lt_tri (a := a) (b := d[m - 1]!) (by rw [hla, hlp]) with k | k | k
      · exact St.lt_trans k hpm
      · rw [k]; exact hpm
      · rw [h3] at k; cases k
     ·
      have : j = m - 1 := by omega
      subst this
      rw [hp] at hx
      injection hx with hx
      rw [← hx]; exact hpm
    ·
     rw [List.mem_append, List.mem_singleton, h2 x]
     constructor
     ·
      rintro (⟨j, hj, hx⟩ | rfl)
      · exact ⟨j, by omega, hx⟩
      · exact ⟨m, by omega, hget m (by omega)⟩
     ·
      rintro ⟨j, hj, hx⟩
      by_cases e : j = m
      ·
       subst e
       rw [hget j (by omega)] at hx
       injection hx with hx
       exact .inr hx.symm
      · exact .inl ⟨j, by omega, hx⟩
   ·
    rw [if_neg hk, List.append_nil]
    refine ⟨h1, fun x => ?_⟩
    rw [h2 x]
    constructor
    · rintro ⟨j, hj, hx⟩; exact ⟨j, by omega, hx⟩
    ·
     rintro ⟨j, hj, hx⟩
     by_cases e : j = m
     ·
      subst e
      have hk2 : ¬ (j = 0 ∨ d[j]! ≠ d[j - 1]!) := fun k => hk (by unfold Lib.keeps; exact decide_eq_true k)
      have h0 : j ≠ 0 := fun e => hk2 (.inl e)
      have he : d[j]! = d[j - 1]! := by
       by_cases e : d[j]! = d[j - 1]!
       · exact e
       · exact absurd (.inr e) hk2
      refine ⟨j - 1, by omega, ?_⟩
      rw [hget (j - 1) (by omega), ← he, ← hx, hget j (by omega)]
     · exact ⟨j, by omega, hx⟩
theorem dp_compact (I : List (List UInt8)) (hl : ∀ x ∈ I, x.length = 32) (hs : ∀ (i j : Nat) (x y : List UInt8), i < j → I[i]? = some x → I[j]? = some y → St.lt y x = false) : Gr.Up (Lib.compact I) ∧ ∀ x, x ∈ Lib.compact I ↔ x ∈ I := by
 obtain ⟨h1, h2⟩ := dp_compact_upto I.toArray (by simpa using hl) (by simpa using hs) I.length (by simp)
 refine ⟨h1, fun x => ?_⟩
 unfold Lib.compact
 rw [h2 x]
 constructor
 · rintro ⟨j, _, hj⟩; exact List.mem_of_getElem? (by simpa using hj)
 ·
  intro hx
  obtain ⟨j, hj⟩ := List.getElem?_of_mem hx
  exact ⟨j, (List.getElem?_eq_some_iff.1 hj).1, by simpa using hj⟩
end Go.Proofs.YtkcjhkfelaplkaaGreatDoor
end
