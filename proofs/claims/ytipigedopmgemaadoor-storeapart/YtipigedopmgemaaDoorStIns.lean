/-
  LAYER 11: the program's items as its memory holds them; rows of them that calls have made; slices.Clone and slices.Insert of one item (layer 9's walks over another element of 33 cells).
-/
import Derived.Test.YtipigedopmgemaaDoorStMath
import Derived.Test.YtipigedopmgemaaDoorLa
import Derived.WalkKit
import Derived.WalkSpells
import Derived.WalkLawsBesides
import Derived.Lib.Hide
import Derived.IntWalk
import Derived.OwnWalk
import Derived.Laws.CopyOwn
import Derived.Deep.Heap
import Derived.Deep.Cut
import Derived.Deep.RegionWith
import Derived.Deep.RegionHeld3
import Derived.Deep.RegionLaw
import Derived.Deep.AppendLies
import Derived.Great.Walk
import Derived.Sort.Walk0
import Derived.Lib.Overlaps
import Derived.Lib.AppendZerosOnto
import Derived.Lib.SliceRun
namespace Go.Proofs.YtipigedopmgemaaDoor
open Go.RowKit
set_option linter.unusedVariables false
set_option linter.unusedSimpArgs false

theorem below_new (w : World) (o : Obj) : Below w.heap.size w (w.alloc o) := (Below.refl _ _).alloc (Nat.le_refl _) _
def zIt : List Value := idC zId ++ [Value.string ⟨#[]⟩]
def itC (r : St.It) : List Value := idC r.id ++ [.string r.text]
theorem itC_length (r : St.It) : (itC r).length = r.id.length + 1 := by simp [itC, idC]
theorem itC_one (r : St.It) : ∀ v ∈ itC r, v.oneCell' = true := by
  intro v hv; simp only [itC, List.mem_append, List.mem_singleton] at hv
  rcases hv with h | rfl
  · exact idC_one _ _ h
  · rfl
theorem infoIt : (Tryd.prog.info? 70).map (fun i => (i.zero, i.size, i.bytes)) = some (some (.agg zIt.toArray), 33, 48) := by kernel_rfl
theorem infoIz : (Tryd.prog.info? 70).map (·.size) = some 33 := by kernel_rfl
theorem underIt : Tryd.prog.underlying 70 = some (.struct (Tryd.prog.fieldsOf 70)) := by kernel_rfl
theorem itsize {r : St.It} (h : r.id.length = 32) : (Tryd.prog.info? 70).map (·.size) = some (itC r).length := by rw [itC_length, h]; exact infoIz
/-- A slice of items in memory. -/
def ItsAt (w : World) (v : Value) (L : List St.It) : Prop := RowsAt w v 33 (L.map itC)
theorem ItsAt.form {w : World} {v : Value} {L : List St.It} (h : ItsAt w v L) : ∃ ao cap, v = .slice ao L.length cap := by simpa using RowsAt.form h
theorem ItsAt.below {w w' : World} {v : Value} {L : List St.It} (h : ItsAt w v L) (hb : Below w.heap.size w w') : ItsAt w' v L := RowsAt.below h hb
theorem ItsAt.elem {w : World} {ao : Option Addr} {n cap : Nat} {L : List St.It} (h : ItsAt w (.slice ao n cap) L) (i : Nat) (r : St.It) (hi : L[i]? = some r) :
    ∃ a, ao = some a ∧ r.id.length = 32 ∧ ∀ j x, (itC r)[j]? = some x → w.cell? ((a.add (i * 33)).add j) = some x := by
  obtain ⟨a, h1, h2, h3⟩ := RowsAt.elem h i (itC r) (by simp [hi])
  rw [itC_length] at h2
  exact ⟨a, h1, by omega, h3⟩
theorem ItsAt.len {w : World} {v : Value} {L : List St.It} (h : ItsAt w v L) : ∀ r ∈ L, r.id.length = 32 := fun r hr => by
  obtain ⟨ao, cap, rfl⟩ := h.form
  obtain ⟨i, hi⟩ := List.getElem?_of_mem hr
  obtain ⟨a, _, h2, _⟩ := h.elem i r hi
  exact h2
theorem it_id {w : World} {p : Addr} {r : St.It} (h : ∀ j x, (itC r)[j]? = some x → w.cell? (p.add j) = some x) : ∀ j x, (idC r.id)[j]? = some x → w.cell? (p.add j) = some x := fun j x hx => h j x (by
  simp only [itC]
  rw [List.getElem?_append_left (List.getElem?_eq_some_iff.1 hx).1]; exact hx)
theorem it_text {w : World} {p : Addr} {r : St.It} (h : ∀ j x, (itC r)[j]? = some x → w.cell? (p.add j) = some x) (hl : r.id.length = 32) : w.cell? (p.add 32) = some (.string r.text) := h 32 _ (by
  simp only [itC]
  rw [List.getElem?_append_right (by rw [idC_length]; omega), idC_length, hl]; rfl)

theorem own_bel {w w' : World} {B e k n : Nat} {v : Value} {xs : List Value} (h : w.ownsRow B e k v n xs) (hb : Below w.heap.size w w') : w'.ownsRow B e k v n xs := by
  refine ⟨h.1, h.2.imp id ?_⟩
  rintro ⟨g, cap, cur, hv, hg, hh, hrest⟩
  have hlt : g < w.heap.size := (Array.getElem?_eq_some_iff.1 hh).1
  exact ⟨g, cap, cur, hv, hg, (hb.block g hlt).trans hh, hrest⟩
/-- A row of refs that a call has made. -/
def OwnF (w : World) (base : Nat) (v : Value) (L : List St.It) : Prop := w.ownsRow base 70 33 v L.length (L.flatMap itC)
theorem flat_len (L : List St.It) (h : ∀ r ∈ L, r.id.length = 32) : (L.flatMap itC).length = L.length * 33 := by
  induction L with
  | nil => rfl
  | cons r t ih =>
    rw [List.flatMap_cons, List.length_append, ih (fun x hx => h x (by simp [hx])), itC_length, h r (by simp), List.length_cons]; omega
theorem it_flat_get (L : List St.It) : (∀ r ∈ L, r.id.length = 32) → ∀ (i : Nat) (p : St.It), L[i]? = some p → ∀ (j : Nat) (x : Value), (itC p)[j]? = some x → (L.flatMap itC)[i * 33 + j]? = some x := by
  induction L with
  | nil => intro _ i l hi; simp at hi
  | cons a r ih =>
    intro h i l hi j x hx
    have ha : (itC a).length = 33 := by rw [itC_length, h a (by simp)]
    rw [List.flatMap_cons]
    cases i with
    | zero =>
      simp at hi; subst hi
      have hj : j < 33 := by
        have := (List.getElem?_eq_some_iff.1 hx).1; omega
      rw [Nat.zero_mul, Nat.zero_add, List.getElem?_append_left (by omega)]
      exact hx
    | succ i =>
      simp at hi
      rw [List.getElem?_append_right (by omega), show (i + 1) * 33 + j - (itC a).length = i * 33 + j by omega]
      exact ih (fun x hx => h x (by simp [hx])) i l hi j x hx
theorem OwnF.rows {w : World} {base : Nat} {v : Value} {L : List St.It} (h : OwnF w base v L) (hid : ∀ r ∈ L, r.id.length = 32) : ItsAt w v L := by
  refine ⟨?_⟩
  rcases h.2 with ⟨rfl, h0⟩ | ⟨g, cap, cur, rfl, hg, hb⟩
  · exact .inl ⟨rfl, by have : L = [] := by simpa using h0
                        simp [this]⟩
  · refine .inr ⟨⟨g, 0, none⟩, cap, by simp, fun i cs hi => ?_⟩
    rw [List.getElem?_map] at hi
    cases hq : L[i]? with
    | none => simp [hq] at hi
    | some r =>
      simp [hq] at hi; subst hi
      refine ⟨by rw [itC_length, hid r (List.mem_of_getElem? hq)], fun j x hx => ?_⟩
      have := World.ownsRow.cells h (g := g) rfl (i * 33 + j) x (it_flat_get L hid i r hq j x hx)
      rw [Addr.add_mid] at this
      rw [Addr.add_mid, Addr.add_mid]
      simpa [Nat.add_assoc] using this
theorem own_nil (w : World) (base : Nat) : OwnF w base (.slice none 0 0) [] := World.ownsRow_nil _ _ _ _
theorem own_push {w : World} {base : Nat} {v : Value} {L : List St.It} {p : St.It} (h : w.ownsRow base 70 33 v (L.length + 1) (L.flatMap itC ++ itC p)) : OwnF w base v (L ++ [p]) := by
  unfold OwnF
  rw [List.flatMap_append, List.length_append]
  simpa using h
theorem row_news {w : World} {g : Nat} {l : List Value} {t : TypeId} (h : w.heap[g]? = some (.cells l.toArray t)) : ∀ j u, l[j]? = some u → w.cell? ((⟨g, 0, none⟩ : Addr).add j) = some u := fun j u hu => by
  rw [Addr.add_mid, Nat.zero_add, cell_of_row _ _ _ _ t (0, 0) h]
  simpa using hu
theorem below_grown {w w' : World} (h : Below w.heap.size w w') : w.grownBy w' none := ⟨h.os, h.tape, h.output, h.size, fun k hk _ => h.block k hk⟩

theorem drop_app {α : Type} (A B : List α) (n : Nat) (h : A.length = n) : (A ++ B).drop n = B := by subst h; exact List.drop_left
theorem take_app {α : Type} (A B : List α) (n : Nat) (h : A.length = n) : (A ++ B).take n = A := by subst h; exact List.take_left
theorem take_app2 {α : Type} (A B : List α) (n k : Nat) (h : A.length = n) : (A ++ B).take (n + k) = A ++ B.take k := by
  subst h; rw [List.take_append, List.take_of_length_le (by omega), Nat.add_sub_cancel_left]
theorem splice_cons {α : Type} (L : List α) (o : Nat) (v : α) (r : List α) (h : o < L.length) : splice (L.set o v) (o + 1) r = splice L o (v :: r) := by
  unfold splice
  rw [List.take_set, List.drop_set_of_lt (by omega), List.length_cons, show o + (r.length + 1) = o + 1 + r.length by omega]
  rw [List.take_succ_eq_append_getElem h, List.set_append_right _ _ (by simp; omega)]
  simp [Nat.min_eq_left (Nat.le_of_lt h)]
theorem setCells_row (b : Nat) (t : TypeId) : ∀ (vs : List Value) (o : Nat) (w : World) (cur : List Value), w.heap[b]? = some (.cells cur.toArray t (0, 0)) → o + vs.length ≤ cur.length → (w.setCells b o vs).heap[b]? = some (.cells (splice cur o vs).toArray t (0, 0))
  | [], o, w, cur, h, hl => by simpa [World.setCells, splice] using h
  | v :: r, o, w, cur, h, hl => by
    have hl' : o + (r.length + 1) ≤ cur.length := by simpa using hl
    rw [World.setCells]
    have h1 := heap_setCell_same w b o cur.toArray t v h
    have e : cur.toArray.setIfInBounds o v = (cur.set o v).toArray := by simp
    rw [e] at h1
    have := setCells_row b t r (o + 1) _ (cur.set o v) h1 (by simp; omega)
    rw [this, splice_cons _ _ _ _ (by omega)]
theorem grown_setCell (w : World) (a : Addr) (u : Value) : w.grownBy (w.setCell a u) (some a.block) :=
  ⟨rfl, rfl, rfl, by simp [World.setCell], fun k hk hne => Below.heap_setCell _ _ _ _ (fun e => hne (by rw [e]))⟩
theorem grown_refl (w : World) (row : Option Nat) : w.grownBy w row := ⟨rfl, rfl, rfl, Nat.le_refl _, fun _ _ _ => rfl⟩
theorem grown_setCells (b : Nat) : ∀ (vs : List Value) (o : Nat) (w : World), w.grownBy (w.setCells b o vs) (some b)
  | [], o, w => grown_refl w _
  | v :: r, o, w => (grown_setCell w ⟨b, o, none⟩ v).trans (grown_setCells b r (o + 1) _)
theorem grown_drew (w : World) (row : Option Nat) : w.grownBy w.drew row := ⟨rfl, rfl, rfl, Nat.le_refl _, fun _ _ _ => rfl⟩
theorem row_at {w : World} {g : Nat} {cur : List Value} {t : TypeId} (h : w.heap[g]? = some (.cells cur.toArray t (0, 0))) (o : Nat) (x : Value) (hx : cur[o]? = some x) : w.cell? ⟨g, o, none⟩ = some x := by
  rw [cell_of_row _ _ o _ _ _ h]; simpa using hx
theorem row_there {w : World} {g : Nat} {cur : List Value} {t : TypeId} (h : w.heap[g]? = some (.cells cur.toArray t (0, 0))) (o : Nat) (ho : o < cur.length) : (w.cell? ⟨g, o, none⟩).isSome = true := by
  rw [row_at h o _ (List.getElem?_eq_getElem ho)]; rfl
theorem row_free {w : World} {g : Nat} {cur : List Value} {t : TypeId} (h : w.heap[g]? = some (.cells cur.toArray t (0, 0))) (o : Nat) : w.frozen? ⟨g, o, none⟩ = false := frozen_of_row _ _ o _ _ h

section
variable {P : Program}
/-- ALL IS READ BEFORE ANYTHING IS WRITTEN: elements of k cells. -/
theorem run_copy_k (w : World) (dT sT ty elem : TypeId) (k b o dLen dCap : Nat) (a : Addr) (sLen sCap n : Nat) (cs : List Value)
    (hu : P.underlying dT = some (.slice elem)) (hs : (P.info? elem).map (·.size) = some k) (hn : Nat.min sLen dLen = n) (hl0 : cs.length = n * k)
    (hsrc : ∀ j v, cs[j]? = some v → w.cell? (a.add j) = some v) (hc : ∀ j, j < cs.length → (w.cell? ⟨b, o + j, none⟩).isSome = true) (hf : ∀ j, j < cs.length → w.frozen? ⟨b, o + j, none⟩ = false) (h1 : ∀ v ∈ cs, v.oneCell' = true) :
    (Builtin.copy_ #[dT, sT] ty #[.slice (some ⟨b, o, none⟩) dLen dCap, .slice (some a) sLen sCap]).run P w = .ok (goInt n) (w.setCells b o cs) := by
  have hl := run_loadCells_list (P := P) w a cs hsrc
  have hst := run_storeCells_cells (P := P) b o cs 0 w (by simpa using hc) (by simpa using hf) h1
  rw [hl0] at hl
  cases hq : P.info? elem with
  | none => simp [hq] at hs
  | some i =>
    have hi : i.size = k := by simpa [hq] using hs
    simp [Builtin.copy_, run_underlying hu, Builtin.lenOf, Builtin.firstCells, sizeOf, typeInfo, hq, hi, hn, hl, hst]
theorem wpList_copy_k {w : World} {ops : Array Oper} {rest : List Oper} {o : Oper} {a : Act} {Q : Exit → Act → World → Prop} (hgd : o.guard = none) (d s : Operand) (dT sT : TypeId)
    (ho : o.op = .call { callee := .builtin .copy, args := #[d, s], argTypes := #[dT, sT] }) (elem : TypeId) (k : Nat) (hu : P.underlying dT = some (.slice elem)) (hs : (P.info? elem).map (·.size) = some k)
    (g off dLen dCap : Nat) (ad : Addr) (sLen sCap n : Nat) (hd : a.eval d = .slice (some ⟨g, off, none⟩) dLen dCap) (hx : a.eval s = .slice (some ad) sLen sCap) (hn : Nat.min sLen dLen = n)
    (cur : List Value) (t : TypeId) (hg : w.heap[g]? = some (.cells cur.toArray t (0, 0))) (cs : List Value) (hl0 : cs.length = n * k)
    (hsrc : ∀ j v, cs[j]? = some v → w.cell? (ad.add j) = some v) (hfit : off + cs.length ≤ cur.length) (h1 : ∀ v ∈ cs, v.oneCell' = true)
    (h : ∀ w', Hid (w'.heap[g]? = some (.cells (splice cur off cs).toArray t (0, 0))) → w.grownBy w' (some g) → wpList P ops Q rest (a.put o.dst (goInt n)) w') : wpList P ops Q (o :: rest) a w := by
  refine wpList_plain hgd fun K hK => ?_
  have hrun := run_copy_k (P := P) w dT sT o.type elem k g off dLen dCap ad sLen sCap n cs hu hs hn hl0 hsrc (fun j hj => row_there hg _ (by omega)) (fun j _ => row_free hg _) h1
  unfold Oper.wp execOp
  simp only [ho, resolve, invoke, builtin, Sem.run_bind, Sem.run_pure, Result.andThen_ok, List.map_toArray, List.map_cons, List.map_nil, hd, hx, hrun]
  exact hK _ _ (h _ (setCells_row g t cs off w cur hg hfit) (grown_setCells g cs off w))
theorem step_copy_k {w : World} {ops : Array Oper} {o : Oper} {a : Act} {K : Act → World → Prop} {Q : Exit → Act → World → Prop} {E : Prop} (hgd : o.guard = none) (d s : Operand) (dT sT : TypeId)
    (ho : o.op = .call { callee := .builtin .copy, args := #[d, s], argTypes := #[dT, sT] }) (elem : TypeId) (k : Nat) (hu : P.underlying dT = some (.slice elem)) (hs : (P.info? elem).map (·.size) = some k)
    (g off dLen dCap : Nat) (ad : Addr) (sLen sCap n : Nat) (hd : a.eval d = .slice (some ⟨g, off, none⟩) dLen dCap) (hx : a.eval s = .slice (some ad) sLen sCap) (hn : Nat.min sLen dLen = n)
    (cur : List Value) (t : TypeId) (hg : w.heap[g]? = some (.cells cur.toArray t (0, 0))) (cs : List Value) (hl0 : cs.length = n * k)
    (hsrc : ∀ j v, cs[j]? = some v → w.cell? (ad.add j) = some v) (hfit : off + cs.length ≤ cur.length) (h1 : ∀ v ∈ cs, v.oneCell' = true)
    (h : ∀ w', Hid (w'.heap[g]? = some (.cells (splice cur off cs).toArray t (0, 0))) → w.grownBy w' (some g) → K (a.put o.dst (goInt n)) w') :
    if Region.wanted o (yielded ops a.tmps) = true then Oper.wp P o a w K Q else E := by
  have hw : Region.wanted o (yielded ops a.tmps) = true := by simp [Region.wanted, hgd]
  rw [if_pos hw]
  have hrun := run_copy_k (P := P) w dT sT o.type elem k g off dLen dCap ad sLen sCap n cs hu hs hn hl0 hsrc (fun j hj => row_there hg _ (by omega)) (fun j _ => row_free hg _) h1
  unfold Oper.wp execOp
  simp only [ho, resolve, invoke, builtin, Sem.run_bind, Sem.run_pure, Result.andThen_ok, List.map_toArray, List.map_cons, List.map_nil, hd, hx, hrun]
  exact h _ (setCells_row g t cs off w cur hg hfit) (grown_setCells g cs off w)
/-- append where there is room. -/
theorem step_room_k {w : World} {ops : Array Oper} {o : Oper} {a : Act} {K : Act → World → Prop} {Q : Exit → Act → World → Prop} {E : Prop} (hgd : o.guard = none) (s x : Operand) (t : TypeId)
    (ho : o.op = Op.call { callee := Callee.builtin Builtin.append, args := #[s, x], argTypes := #[t, t] }) (e : TypeId) (k : Nat) (hu : P.underlying t = some (.slice e)) (hs : (P.info? e).map (·.size) = some k)
    (g n cap : Nat) (hd : a.eval s = .slice (some ⟨g, 0, none⟩) n cap) (ad : Addr) (m c : Nat) (hx : a.eval x = .slice (some ad) m c)
    (cur : List Value) (ty : TypeId) (hg : w.heap[g]? = some (.cells cur.toArray ty (0, 0))) (cs : List Value) (hl0 : cs.length = m * k)
    (hsrc : ∀ j v, cs[j]? = some v → w.cell? (ad.add j) = some v) (hroom : n + m ≤ cap) (hfit : n * k + cs.length ≤ cur.length) (h1 : ∀ v ∈ cs, v.oneCell' = true)
    (h : ∀ w', Hid (w'.heap[g]? = some (.cells (splice cur (n * k) cs).toArray ty (0, 0))) → w.grownBy w' (some g) → K (a.put o.dst (.slice (some ⟨g, 0, none⟩) (n + m) cap)) w') :
    if Region.wanted o (yielded ops a.tmps) = true then Oper.wp P o a w K Q else E := by
  cases hq : P.info? e with
  | none => simp [hq] at hs
  | some i =>
    have hi : i.size = k := by simpa [hq] using hs
    refine step_append_room hgd s x t ho e i k hu hq hi g 0 n cap hd ad m c cs hx hl0 hsrc h1 hroom (fun j hj => ⟨row_there hg _ (by omega), row_free hg _⟩) ?_
    rw [Nat.zero_add]
    exact h _ (setCells_row g ty cs (n * k) w cur hg hfit) (grown_setCells g cs (n * k) w)
theorem wpList_room_k {w : World} {ops : Array Oper} {rest : List Oper} {o : Oper} {a : Act} {Q : Exit → Act → World → Prop} (hgd : o.guard = none) (s x : Operand) (t : TypeId)
    (ho : o.op = Op.call { callee := Callee.builtin Builtin.append, args := #[s, x], argTypes := #[t, t] }) (e : TypeId) (k : Nat) (hu : P.underlying t = some (.slice e)) (hs : (P.info? e).map (·.size) = some k)
    (g n cap : Nat) (hd : a.eval s = .slice (some ⟨g, 0, none⟩) n cap) (ad : Addr) (m c : Nat) (hx : a.eval x = .slice (some ad) m c)
    (cur : List Value) (ty : TypeId) (hg : w.heap[g]? = some (.cells cur.toArray ty (0, 0))) (cs : List Value) (hl0 : cs.length = m * k)
    (hsrc : ∀ j v, cs[j]? = some v → w.cell? (ad.add j) = some v) (hroom : n + m ≤ cap) (hfit : n * k + cs.length ≤ cur.length) (h1 : ∀ v ∈ cs, v.oneCell' = true)
    (h : ∀ w', Hid (w'.heap[g]? = some (.cells (splice cur (n * k) cs).toArray ty (0, 0))) → w.grownBy w' (some g) → wpList P ops Q rest (a.put o.dst (.slice (some ⟨g, 0, none⟩) (n + m) cap)) w') : wpList P ops Q (o :: rest) a w :=
  wpList_step fun K hK => step_room_k hgd s x t ho e k hu hs g n cap hd ad m c hx cur ty hg cs hl0 hsrc hroom hfit h1 (fun w' h2 h3 => hK _ _ (h w' h2 h3))
/-- clear of one element. -/
theorem run_clear_one (w : World) (t e ty : TypeId) (z : List Value) (ht : P.underlying t = some (.slice e)) (hv : ∀ w, (zeroValue e).run P w = .ok (.agg z.toArray) w) (h1 : ∀ v ∈ z, v.oneCell' = true) (b o c : Nat)
    (cur : List Value) (tt : TypeId) (hg : w.heap[b]? = some (.cells cur.toArray tt (0, 0))) (hfit : o + z.length ≤ cur.length) :
    (Builtin.clear_ #[t] ty #[.slice (some ⟨b, o, none⟩) 1 c]).run P w = .ok (.tuple #[]) (w.setCells b o z) := by
  have hzc : (Builtin.zeroCells (Value.agg z.toArray).cells 1).toList = z := by
    simp [Builtin.zeroCells, Value.cells]
    apply List.ext_getElem
    · simp
    · intro i h1 h2
      simp at h1
      simp [Nat.mod_eq_of_lt h2, List.getElem?_eq_getElem h2]
  have hst := run_storeCells_cells (P := P) b o z 0 w (fun j hj => row_there hg _ (by omega)) (fun j _ => row_free hg _) h1
  simp only [Nat.add_zero] at hst
  simp [Builtin.clear_, run_underlying ht, hv, hzc, hst]
end

/-! ### slices.Clone -/
theorem add_add (p : Addr) (i j : Nat) : (p.add i).add j = p.add (i + j) := by
  unfold Addr.add
  by_cases hi : i = 0
  · simp [hi]
  · by_cases hj : j = 0
    · simp [hi, hj]
    · simp [hi, hj]; omega
theorem it_flat_at : ∀ (L : List St.It), (∀ r ∈ L, r.id.length = 32) → ∀ (j : Nat) (u : Value), (L.flatMap itC)[j]? = some u → ∃ i r q, L[i]? = some r ∧ (itC r)[q]? = some u ∧ j = i * 33 + q
  | [], _, j, u, h => by simp at h
  | a :: t, hid, j, u, h => by
    have ha : (itC a).length = 33 := by rw [itC_length, hid a (by simp)]
    rw [List.flatMap_cons] at h
    by_cases hj : j < 33
    · rw [List.getElem?_append_left (by omega)] at h
      exact ⟨0, a, j, rfl, h, by omega⟩
    · rw [List.getElem?_append_right (by omega), ha] at h
      obtain ⟨i, r, q, h1, h2, h3⟩ := it_flat_at t (fun x hx => hid x (by simp [hx])) (j - 33) u h
      exact ⟨i + 1, r, q, by simpa using h1, h2, by omega⟩
theorem ItsAt.cells {w : World} {a : Addr} {n cap : Nat} {L : List St.It} (h : ItsAt w (.slice (some a) n cap) L) : ∀ j u, (L.flatMap itC)[j]? = some u → w.cell? (a.add j) = some u := fun j u hu => by
  obtain ⟨i, r, q, h1, h2, h3⟩ := it_flat_at L h.len j u hu
  obtain ⟨a', e, _, hc⟩ := h.elem i r h1
  cases e
  have := hc q u h2
  rw [add_add, ← h3] at this
  exact this
theorem flat_one (L : List St.It) : ∀ v ∈ L.flatMap itC, v.oneCell' = true := fun v hv => by
  obtain ⟨r, _, h⟩ := List.mem_flatMap.1 hv
  exact itC_one r v h
theorem eql_nil (w : World) (a : Option Addr) (n c : Nat) : (binOp .eql 63 (.slice a n c) (.slice none 0 0)).run Tryd.prog w = .ok (.bool a.isNone) w := Lib.run_eql_slice_nil w _ _ a n c 0 0 Tryd.underlying63
set_option maxHeartbeats 1000000 in
set_option maxRecDepth 100000 in
theorem clone_any (v : Value) (L : List St.It) (w : World) (hL : ItsAt w v L) (hl : L.length ≤ 64) :
    Calls Tryd.prog 26 #[v] w fun r w' => ∃ v', r = .returned v' ∧ OwnF w' w.heap.size v' L ∧ Below w.heap.size w w' := by
  have hlen := flat_len L hL.len
  obtain ⟨ao, cap, rfl⟩ := hL.form
  obtain ⟨i0, hi, hz0, hz1, hz2⟩ := info_parts infoIt
  have HL := Lib.hid hL
  clear hL
  have hq := eql_nil w
  cases ao with
  | none =>
    have HN := Lib.hid (show L = [] by
      rcases HL.out.out with ⟨_, h0⟩ | ⟨a, c, h0, _⟩
      · simpa using h0
      · simp at h0)
    clear hlen
    go_enter Tryd.func26, Tryd.ntmps26
    go_wp2_with fail
    go_ret
    exact ⟨_, rfl, by rw [HN.out]; exact own_nil _ _, Below.refl _ _⟩
  | some a =>
    have HC := Lib.hid ((HL.out.below (below_new w (.cells #[] 70))).cells)
    have HLEN := Lib.hid hlen
    clear hlen
    go_enter Tryd.func26, Tryd.ntmps26
    go_wp2_with (at_builtin; refine wpList_append_own _ rfl _ _ 63 rfl w.heap.size 70 i0 _ 33 48 Tryd.underlying63 hi hz0 hz1 hz2 rfl (by decide) _ _ _ rfl (World.ownsRow_made w #[] 0 (Nat.le_refl _) (Nat.zero_le _) rfl) a L.length cap (L.flatMap itC) rfl ?qc1 ?qc2 ?qc3 ?qc4 ?qc5 ?qc6 ?_)
    case qc1 => exact HLEN.out
    case qc2 => exact HC.out
    case qc3 => exact flat_one L
    case qc4 => unfold maxLen; omega
    case qc5 => omega
    case qc6 => simp
    intro v' w1 hown hgrow hnil
    have hb := ((Below.refl _ w).alloc (Nat.le_refl _) (.cells #[] 70)).grown hgrow (by simp) (by intro k hk; simp [Value.ownBlock] at hk; omega)
    have HO := Lib.hid (show OwnF w1 w.heap.size v' L by unfold OwnF; simpa using hown)
    clear hown hgrow hnil
    go_wp2_with fail
    go_ret
    exact ⟨_, rfl, HO.out, hb⟩

theorem flat_take (L : List St.It) (h : ∀ r ∈ L, r.id.length = 32) (i : Nat) (hi : i ≤ L.length) : (L.flatMap itC).take (i * 33) = (L.take i).flatMap itC := by
  have h1 : (L.take i).flatMap itC ++ (L.drop i).flatMap itC = L.flatMap itC := by rw [← List.flatMap_append, List.take_append_drop]
  have h2 := flat_len (L.take i) (fun r hr => h r (List.mem_of_mem_take hr))
  rw [List.length_take, Nat.min_eq_left hi] at h2
  rw [← h1, ← h2, List.take_left]
theorem flat_drop (L : List St.It) (h : ∀ r ∈ L, r.id.length = 32) (i : Nat) (hi : i ≤ L.length) : (L.flatMap itC).drop (i * 33) = (L.drop i).flatMap itC := by
  have h1 : (L.take i).flatMap itC ++ (L.drop i).flatMap itC = L.flatMap itC := by rw [← List.flatMap_append, List.take_append_drop]
  have h2 := flat_len (L.take i) (fun r hr => h r (List.mem_of_mem_take hr))
  rw [List.length_take, Nat.min_eq_left hi] at h2
  rw [← h1, ← h2, List.drop_left]
/-- A row of refs, its block known whole. -/
theorem OwnF.open_ {w : World} {base : Nat} {v : Value} {L : List St.It} (h : OwnF w base v L) (hne : 0 < L.length) :
    ∃ g cap cur, v = .slice (some ⟨g, 0, none⟩) L.length cap ∧ base ≤ g ∧ w.heap[g]? = some (.cells (cur : List Value).toArray 70 (0, 0)) ∧ L.length ≤ cap ∧ cap ≤ maxLen ∧ cur.length = cap * 33 ∧ cur.take (L.length * 33) = L.flatMap itC := by
  rcases h.2 with ⟨_, h0⟩ | ⟨g, cap, cur, hv, hb, hh, h1, h2, h3, h4⟩
  · omega
  · exact ⟨g, cap, cur.toList, hv, hb, by simpa using hh, h1, h2, by simpa using h3, h4⟩
theorem OwnF.shut {w : World} {base g cap : Nat} {cur : List Value} {L : List St.It} (hb : base ≤ g) (hh : w.heap[g]? = some (.cells cur.toArray 70 (0, 0))) (h1 : L.length ≤ cap) (h2 : cap ≤ maxLen) (h3 : cur.length = cap * 33) (h4 : cur.take (L.length * 33) = L.flatMap itC) (hid : ∀ r ∈ L, r.id.length = 32) :
    OwnF w base (.slice (some ⟨g, 0, none⟩) L.length cap) L := ⟨flat_len L hid, .inr ⟨g, cap, cur.toArray, rfl, hb, hh, h1, h2, by simpa using h3, by simpa using h4⟩⟩

theorem overlaps_no (w : World) (vb g : Nat) (c cur : Array Value) (hv : w.heap[vb]? = some (.cells c 70 (0, 0))) (hg : w.heap[g]? = some (.cells cur 70 (0, 0))) (hne : vb ≠ g) (hk : cur.size ≠ 0) (o : Nat) (lb cb : Nat) :
    (callFunc 70 #[.slice (some ⟨vb, 0, none⟩) 1 1, .slice (some ⟨g, o, none⟩) lb cb]).run Tryd.prog w = .ok (.value (.bool false)) w := by
  rw [run_callFunc_extern Tryd.func70 (by kernel_rfl) (by kernel_rfl) (by kernel_rfl) (e := Extern.SlicesOverlaps.overlaps #[63, 63] #[4]) (by kernel_rfl),
    Lib.run_overlaps_apart w 63 4 70 Tryd.underlying63 33 (fun w => by
      obtain ⟨i0, hi, _, hz1, _⟩ := info_parts infoIt
      simp [Go.sizeOf, typeInfo, hi, hz1]) ⟨vb, 0, none⟩ ⟨g, o, none⟩ 1 1 lb cb hne 70 70 c.size cur.size (by simp [World.shape?, hv]) (by simp [World.shape?, hg]) hk (frozen_of_row _ _ _ _ _ hv) (frozen_of_row _ _ _ _ _ hv)]
  rfl

set_option maxHeartbeats 2000000 in
set_option maxRecDepth 100000 in
theorem insert_room (g cap i m vb : Nat) (cur : List Value) (r : St.It) (w : World) (hg : w.heap[g]? = some (.cells cur.toArray 70 (0, 0))) (hv : w.heap[vb]? = some (.cells (itC r).toArray 70 (0, 0))) (hne : vb ≠ g) (hrl : r.id.length = 32)
    (hcl : cur.length = cap * 33) (hm : i + 1 + m + 1 ≤ cap) (hcm : cap ≤ 9223372036854775807) (h1 : ∀ v ∈ cur.take ((i + 1 + m) * 33), v.oneCell' = true) :
    Calls Tryd.prog 46 #[.slice (some ⟨g, 0, none⟩) (i + 1 + m) cap, .int .i64 (i : Int), .slice (some ⟨vb, 0, none⟩) 1 1] w fun e w' =>
      e = .returned (.slice (some ⟨g, 0, none⟩) (i + 1 + m + 1) cap) ∧ (∃ cur' : List Value, w'.heap[g]? = some (.cells cur'.toArray 70 (0, 0)) ∧ cur'.length = cap * 33 ∧ cur'.take ((i + 1 + m + 1) * 33) = cur.take (i * 33) ++ (itC r ++ (cur.take ((i + 1 + m) * 33)).drop (i * 33))) ∧ w.grownBy w' (some g) := by
  have hvlt : vb < w.heap.size := (Array.getElem?_eq_some_iff.1 hv).1
  have hov := overlaps_no w vb g _ _ hv hg hne (by simp [hcl]; omega) ((i + 1) * 33)
  have HG := Lib.hid hg
  have HV := Lib.hid hv
  have HCL := Lib.hid hcl
  have HRL := Lib.hid (show (itC r).length = 33 by rw [itC_length, hrl])
  obtain ⟨news, hnews⟩ : ∃ news, news = (cur.take ((i + 1 + m) * 33)).drop (i * 33) := ⟨_, rfl⟩
  have HNL := Lib.hid (show news.length = (m + 1) * 33 by rw [hnews]; simp; omega)
  have HN1 := Lib.hid (show ∀ v ∈ news, v.oneCell' = true from fun v hv => h1 v (by rw [hnews] at hv; exact List.mem_of_mem_drop hv))
  have HNC := Lib.hid (show ∀ j v, news[j]? = some v → w.drew.cell? ((⟨g, i * 33, none⟩ : Addr).add j) = some v from fun j v hj => by
    rw [Addr.add_mid]
    refine row_at (w := w.drew) hg _ _ ?_
    rw [hnews, List.getElem?_drop, List.getElem?_take] at hj
    split at hj
    · exact hj
    · cases hj)
  have HNW := Lib.hid hnews
  clear hg hcl h1 hnews hv
  have b1 : (0 : Int) ≤ (i : Int) := by omega
  have b3 : ((i : Int) == (i : Int) + 1 + (m : Int)) = false := beq_eq_false_iff_ne.2 (by omega)
  have b4 : ¬ cap = i := by omega
  have b5 : ¬ cap = i + 1 := by omega
  have b6 : (i : Int) ≤ (i : Int) + 1 + (m : Int) := by omega
  have b7 : ¬ (cap : Int) < (i : Int) + 1 + (m : Int) + 1 := by omega
  have b8 : (i : Int) ≤ (i : Int) + 1 + (m : Int) + 1 := by omega
  have b9 : (i : Int) + 1 ≤ (i : Int) + 1 + (m : Int) + 1 := by omega
  have e3 : ((i : Int) + 1).toNat = i + 1 := by omega
  have e4 : IntKind.i64.wrap ((i : Int) + 1) = (i : Int) + 1 := IntWalk.i64_in _ (by omega)
  have b0 : (0 : Int) ≤ (i : Int) + 1 := by omega
  go_enter Tryd.func46, Tryd.ntmps46
  go_wp2_with (simp only [hov])
  go_region_law (refine step_copy_k rfl (.tmp 73) (.tmp 76) 63 63 rfl 70 33 Tryd.underlying63 infoIz g ((i + 1) * 33) (i + 1 + m + 1 - (i + 1)) (cap - (i + 1)) ⟨g, i * 33, none⟩ (i + 1 + m + 1 - i) (cap - i) (m + 1) (by simp [Act.eval, Act.put]) (by simp [Act.eval, Act.put]) (by simp only [Nat.min_def]; split <;> omega) cur 70 HG.out news HNL.out HNC.out (by rw [HNL.out, HCL.out]; omega) HN1.out ?_; intro w1 HG1 hgr1)
  have HC1 := Lib.hid (show (splice cur ((i + 1) * 33) news).length = cap * 33 by rw [length_splice _ _ _ (by rw [HNL.out, HCL.out]; omega), HCL.out])
  have HT1 := Lib.hid (show (splice cur ((i + 1) * 33) news).take (i * 33) = cur.take (i * 33) ∧ ((splice cur ((i + 1) * 33) news).drop ((i + 1) * 33)).take ((m + 1) * 33) = news by
    unfold splice
    have hl : (cur.take ((i + 1) * 33)).length = (i + 1) * 33 := by rw [List.length_take, HCL.out]; omega
    refine ⟨?_, ?_⟩
    · rw [List.take_append_of_le_length (by omega), List.take_take, Nat.min_eq_left (by omega)]
    · rw [drop_app _ _ _ hl, take_app _ _ _ HNL.out])
  have HV1 := Lib.hid (row_news ((hgr1.block vb hvlt (by simpa using hne)).trans HV.out))
  generalize splice cur ((i + 1) * 33) news = cur1 at *
  have HGR := Lib.hid ((grown_drew w (some g)).trans hgr1)
  clear hgr1 hov
  go_wp2_with ((with_reducible refine wpList_copy_k (P := Tryd.prog) ?_ (.tmp 80) (.tmp 81) 63 63 ?_ 70 33 Tryd.underlying63 infoIz g (i * 33) (i + 1 + m + 1 - i) (cap - i) ⟨vb, 0, none⟩ 1 1 1 ?_ ?_ ?_ cur1 70 HG1.out (itC r) ?_ HV1.out ?_ (itC_one r) ?_); rfl; rfl; rfl; rfl; (simp only [Nat.min_def]; split <;> omega); (rw [HRL.out]); (rw [HRL.out, HC1.out]; omega); intro w2 HG2 hgr2)
  go_ret
  refine ⟨rfl, ⟨_, HG2.out, ?_, ?_⟩, HGR.out.trans hgr2⟩
  · rw [length_splice _ _ _ (by rw [HRL.out, HC1.out]; omega), HC1.out]
  · unfold splice
    have hl : (cur.take (i * 33)).length = i * 33 := by rw [List.length_take, HCL.out]; omega
    rw [HT1.out.1, HRL.out, show (i + 1 + m + 1) * 33 = i * 33 + (33 + (m + 1) * 33) by omega, take_app2 _ _ _ _ hl, take_app2 _ _ _ _ HRL.out, show i * 33 + 33 = (i + 1) * 33 by omega, HT1.out.2, HNW.out]

theorem wpList_zeros {P : Program} {w : World} {ops : Array Oper} {rest : List Oper} {o : Oper} {a : Act} {Q : Exit → Act → World → Prop} (hgd : o.guard = none) (d s : Operand) (t t' : TypeId)
    (ho : o.op = .call { callee := .builtin .append, args := #[d, s], argTypes := #[t, t'] }) (v v' : Value) (x : Int) (k : Nat) (hd : a.eval d = v) (hx : a.eval s = .int .i64 x) (hk : x = (k : Int)) {w' : World}
    (hr : ∀ ty, (Builtin.append_ #[t, t'] ty #[v, .int .i64 (k : Int)]).run P w = .ok v' w') (h : wpList P ops Q rest (a.put o.dst v') w') : wpList P ops Q (o :: rest) a w := by
  refine wpList_plain hgd fun K hK => ?_
  subst hk
  unfold Oper.wp execOp
  simp only [ho, resolve, invoke, builtin, Sem.run_bind, Sem.run_pure, Result.andThen_ok, List.map_toArray, List.map_cons, List.map_nil, hd, hx, hr]
  exact hK _ _ h

theorem own_cap (ao : Option Addr) (n c n' c' : Nat) : (Value.slice ao n c).ownBlock = (Value.slice ao n' c').ownBlock := by cases ao <;> rfl
set_option maxRecDepth 100000 in
/-- The new row of 'append(s[:i], make(S, k)...)'. -/
theorem zeros_row (w : World) (g cap i k : Nat) (cur : List Value) (hg : w.heap[g]? = some (.cells cur.toArray 70 (0, 0))) (hcl : cur.length = cap * 33) (hi : i ≤ cap) (hk : 0 < k) (hr : cap < i + k) (hb : i + k ≤ 1000) :
    ∃ (G : Nat) (ROW : List Value) (w' : World), i + k ≤ G ∧ G ≤ maxLen ∧ ROW.length = G * 33 ∧ Hid (ROW.take (i * 33) = cur.take (i * 33)) ∧ Hid (w'.heap[w.heap.size]? = some (.cells ROW.toArray 70 (0, 0))) ∧ Hid (w.grownBy w' none) ∧ w.heap.size < w'.heap.size ∧
      ∀ ty, (Builtin.append_ #[63, 3] ty #[.slice (some ⟨g, 0, none⟩) i cap, .int .i64 (k : Int)]).run Tryd.prog w = .ok (.slice (some ⟨w.heap.size, 0, none⟩) (i + k) G) w' := by
  obtain ⟨i0, hi0, hz0, hz1, hz2⟩ := info_parts infoIt
  have hold : (Builtin.firstCells i0.size i (.slice (some ⟨g, 0, none⟩) i cap)).run Tryd.prog w.drew = .ok (cur.take (i * 33)).toArray w.drew := by
    rw [hz1]
    exact run_firstCells_some w.drew 33 i ⟨g, 0, none⟩ i cap (cur.take (i * 33)) (by rw [List.length_take, hcl]; omega) (fun j v hj => by
      rw [Addr.add_mid, Nat.zero_add]
      rw [List.getElem?_take] at hj
      split at hj
      · exact row_at (w := w.drew) hg _ _ hj
      · cases hj)
  have hge := grownCap_ge w (i + k) cap 70
  have hle := grownCap_le_maxLen w (i + k) cap 70 (by unfold maxLen; omega)
  have hrun := fun ty => Lib.run_append_grow_zeros (P := Tryd.prog) w 63 3 ty 70 i0 _ .i64 .i64 Tryd.underlying63 Tryd.underlying3 hi0 hz0 (some ⟨g, 0, none⟩) i cap _ hold k hk (by omega) hr (by omega) (by rw [hz2]; omega) (by rw [hz2]; exact growslice_fits hr (by omega))
  generalize hG : grownCap w (i + k) cap 70 = G at hrun hge hle
  generalize hR : ((cur.take (i * 33)).toArray ++ Builtin.zeroCells (Value.agg zIt.toArray).cells k ++ Builtin.zeroCells (Value.agg zIt.toArray).cells (G - (i + k))) = ROW at hrun
  refine ⟨G, ROW.toList, w.drew.alloc (.cells ROW 70), hge, hle, ?_, ?_, ?_, ?_, ?_, hrun⟩
  · have hz : (Value.agg zIt.toArray).cells.size = 33 := rfl
    rw [← hR]
    simp only [Array.length_toList, Array.size_append, size_zeroCells, hz, List.size_toArray, List.length_take, hcl]
    rw [Nat.min_eq_left (by omega), ← Nat.add_mul, ← Nat.add_mul]
    congr 1; omega
  · show _ = _
    rw [← hR, Array.toList_append, Array.toList_append, List.append_assoc]
    exact take_app _ _ _ (by simp [hcl]; omega)
  · show _ = _
    rw [Array.toArray_toList]; exact heap_alloc_new w.drew _
  · exact ⟨rfl, rfl, rfl, by simp, fun k hk _ => Below.heap_alloc w.drew _ k hk⟩
  · simp

set_option maxHeartbeats 2000000 in
set_option maxRecDepth 100000 in
theorem insert_grow (g i m vb : Nat) (cur : List Value) (r : St.It) (w : World) (hg : w.heap[g]? = some (.cells cur.toArray 70 (0, 0))) (hv : w.heap[vb]? = some (.cells (itC r).toArray 70 (0, 0))) (hrl : r.id.length = 32)
    (hcl : cur.length = (i + 1 + m) * 33) (hsm : i + 1 + m ≤ 64) (h1 : ∀ v ∈ cur, v.oneCell' = true) :
    Calls Tryd.prog 46 #[.slice (some ⟨g, 0, none⟩) (i + 1 + m) (i + 1 + m), .int .i64 (i : Int), .slice (some ⟨vb, 0, none⟩) 1 1] w fun e w' =>
      ∃ G, e = .returned (.slice (some ⟨w.heap.size, 0, none⟩) (i + 1 + m + 1) G) ∧ i + 1 + m + 1 ≤ G ∧ G ≤ maxLen ∧ (∃ cur' : List Value, w'.heap[w.heap.size]? = some (.cells cur'.toArray 70 (0, 0)) ∧ cur'.length = G * 33 ∧ cur'.take ((i + 1 + m + 1) * 33) = cur.take (i * 33) ++ (itC r ++ cur.drop (i * 33))) ∧ w.grownBy w' none := by
  have hvlt : vb < w.heap.size := (Array.getElem?_eq_some_iff.1 hv).1
  have hglt : g < w.heap.size := (Array.getElem?_eq_some_iff.1 hg).1
  obtain ⟨G, ROW, w0, hG1, hG2, hRL, HRT, HG0, HGR0, hsz, hzr⟩ := zeros_row w g (i + 1 + m) i (m + 2) cur hg hcl (by omega) (by omega) (by omega) (by omega)
  have HRL0 := Lib.hid hRL
  have HZR := Lib.hid hzr
  have HGM := Lib.hid hG2
  have hG3 := hG2
  unfold maxLen at hG3
  have HV0 := Lib.hid (row_news ((HGR0.out.block vb hvlt (by simp)).trans hv))
  have HO0 := Lib.hid ((HGR0.out.block g hglt (by simp)).trans hg)
  have HCL := Lib.hid hcl
  have HRL := Lib.hid (show (itC r).length = 33 by rw [itC_length, hrl])
  have H1 := Lib.hid h1
  clear hg hcl h1 hv hRL hzr hG2
  have b1 : (0 : Int) ≤ (i : Int) := by omega
  have b3 : ((i : Int) == (i : Int) + 1 + (m : Int)) = false := beq_eq_false_iff_ne.2 (by omega)
  have b4 : ¬ i + 1 + m = i := by omega
  have b6 : (i : Int) ≤ (i : Int) + 1 + (m : Int) := by omega
  have b7 : (i : Int) + 1 + (m : Int) < (i : Int) + 1 + (m : Int) + 1 := by omega
  have b10 : ¬ G = i := by omega
  have b11 : ¬ G = i + 1 := by omega
  go_enter Tryd.func46, Tryd.ntmps46
  go_wp2_with (first
    | (at_builtin; refine wpList_zeros (P := Tryd.prog) rfl (.tmp 34) (.tmp 39) 63 3 rfl (.slice (some ⟨g, 0, none⟩) i (i + 1 + m)) (.slice (some ⟨w.heap.size, 0, none⟩) (i + (m + 2)) G) _ (m + 2) rfl rfl (by omega) HZR.out ?_)
    | ((with_reducible refine wpList_copy_k (P := Tryd.prog) ?_ (.tmp 43) (.tmp 44) 63 63 ?_ 70 33 Tryd.underlying63 infoIz w.heap.size (i * 33) (m + 2) (G - i) ⟨vb, 0, none⟩ 1 1 1 ?_ ?_ ?_ ROW 70 HG0.out (itC r) ?_ HV0.out ?_ (itC_one r) ?_); rfl; rfl; rfl; rfl; (simp only [Nat.min_def]; split <;> omega); (rw [HRL.out]); (rw [HRL.out, HRL0.out]; omega); intro w1 HG1 hgr1))
  have HO1 := Lib.hid ((hgr1.block g (by omega) (by simp; omega)).trans HO0.out)
  have HC1 := Lib.hid (show (splice ROW (i * 33) (itC r)).length = G * 33 by rw [length_splice _ _ _ (by rw [HRL.out, HRL0.out]; omega), HRL0.out])
  have HT1 := Lib.hid (show (splice ROW (i * 33) (itC r)).take ((i + 1) * 33) = cur.take (i * 33) ++ itC r by
    unfold splice
    have hl : (ROW.take (i * 33)).length = i * 33 := by rw [List.length_take, HRL0.out]; omega
    rw [show (i + 1) * 33 = i * 33 + 33 by omega, take_app2 _ _ _ _ hl, take_app _ _ _ HRL.out, HRT.out])
  generalize splice ROW (i * 33) (itC r) = cur1 at *
  have HGR := Lib.hid (HGR0.out.andThen hgr1 (fun j hj => by cases hj; exact .inl (Nat.le_refl _)))
  obtain ⟨news, hnews⟩ : ∃ news, news = cur.drop (i * 33) := ⟨_, rfl⟩
  have HNL := Lib.hid (show news.length = (m + 1) * 33 by rw [hnews, List.length_drop, HCL.out]; omega)
  have HN1 := Lib.hid (show ∀ v ∈ news, v.oneCell' = true from fun v hv => H1.out v (by rw [hnews] at hv; exact List.mem_of_mem_drop hv))
  have HNC := Lib.hid (show ∀ j v, news[j]? = some v → w1.drew.cell? ((⟨g, i * 33, none⟩ : Addr).add j) = some v from fun j v hj => by
    rw [Addr.add_mid]
    refine row_at (w := w1.drew) HO1.out _ _ ?_
    rwa [hnews, List.getElem?_drop] at hj)
  have HNW := Lib.hid hnews
  clear hgr1 hnews
  have e3 : ((i : Int) + 1).toNat = i + 1 := by omega
  have e4 : IntKind.i64.wrap ((i : Int) + 1) = (i : Int) + 1 := IntWalk.i64_in _ (by omega)
  have b0 : (0 : Int) ≤ (i : Int) + 1 := by omega
  have b9 : (i : Int) + 1 ≤ (i : Int) + ((m : Int) + 2) := by omega
  have e5 : i + (m + 2) - (i + 1) = m + 1 := by omega
  have e6 : i + 1 + m - i = m + 1 := by omega
  go_region_law (refine step_copy_k rfl (.tmp 50) (.tmp 53) 63 63 rfl 70 33 Tryd.underlying63 infoIz w.heap.size ((i + 1) * 33) (m + 1) (G - (i + 1)) ⟨g, i * 33, none⟩ (m + 1) (m + 1) (m + 1) (by simp [Act.eval, Act.put]) (by simp [Act.eval, Act.put]) (by simp only [Nat.min_def]; split <;> omega) cur1 70 HG1.out news HNL.out HNC.out (by rw [HNL.out, HC1.out]; omega) HN1.out ?_; intro w2 HG2 hgr2)
  have HGR2 := Lib.hid ((HGR.out.trans (grown_drew w1 none)).andThen hgr2 (fun j hj => by cases hj; exact .inl (Nat.le_refl _)))
  clear hgr2
  go_wp2_with fail
  go_ret
  refine ⟨G, by rw [show i + 1 + m + 1 = i + (m + 2) by omega]; rfl, by omega, HGM.out, ⟨_, HG2.out, ?_, ?_⟩, HGR2.out⟩
  · rw [length_splice _ _ _ (by rw [HNL.out, HC1.out]; omega), HC1.out]
  · unfold splice
    have hl : (cur.take (i * 33) ++ itC r).length = (i + 1) * 33 := by rw [List.length_append, HRL.out, List.length_take, HCL.out]; omega
    rw [HT1.out, show (i + 1 + m + 1) * 33 = (i + 1) * 33 + (m + 1) * 33 by omega, take_app2 _ _ _ _ hl, take_app _ _ _ HNL.out, HNW.out, List.append_assoc]

set_option maxHeartbeats 2000000 in
set_option maxRecDepth 100000 in
theorem insert_end (v : Value) (L : List St.It) (base vb : Nat) (r : St.It) (w : World) (h : OwnF w base v L) (hv : w.heap[vb]? = some (.cells (itC r).toArray 70 (0, 0))) (hrl : r.id.length = 32) (hl : L.length ≤ 64) (hbase : base ≤ w.heap.size) :
    Calls Tryd.prog 46 #[v, .int .i64 (L.length : Int), .slice (some ⟨vb, 0, none⟩) 1 1] w fun e w' =>
      ∃ v', e = .returned v' ∧ OwnF w' base v' (L ++ [r]) ∧ w.grownBy w' v.ownBlock ∧ (v'.ownBlock = v.ownBlock ∨ v'.ownBlock = some w.heap.size) := by
  obtain ⟨i0, hi0, hz0, hz1, hz2⟩ := info_parts infoIt
  have HV := Lib.hid (row_news hv)
  have HRL := Lib.hid (show (itC r).length = 1 * 33 by rw [itC_length, hrl])
  have HO := Lib.hid h
  obtain ⟨ao, cap, hform, hcap, hc63⟩ : ∃ ao cap, v = .slice ao L.length cap ∧ L.length ≤ cap ∧ cap ≤ 9223372036854775807 := by
    rcases h.2 with ⟨h0, h1⟩ | ⟨g, cap, cur, h0, _, _, h1, h2, _⟩
    · exact ⟨none, 0, by rw [h0, h1], by omega, by omega⟩
    · exact ⟨_, cap, h0, h1, by unfold maxLen at h2; omega⟩
  subst hform
  clear h hv
  have b1 : (0 : Int) ≤ (L.length : Int) := by omega
  go_enter Tryd.func46, Tryd.ntmps46
  go_wp2_with (at_builtin; refine wpList_append_own_at _ rfl _ _ 63 rfl base 70 i0 _ 33 48 Tryd.underlying63 hi0 hz0 hz1 hz2 rfl (by decide) _ _ _ rfl HO.out ⟨vb, 0, none⟩ 1 1 (itC r) rfl HRL.out HV.out (itC_one r) (by unfold maxLen; omega) (by omega) hbase ?_)
  all_goals
    intro v' w1 hown hgrow _ hat
    have HOW := Lib.hid (own_push hown)
    clear hown
    go_wp2_with fail
    go_ret
    exact ⟨_, rfl, HOW.out, by first | exact hgrow | (rw [own_cap ao L.length cap L.length L.length]; exact hgrow), by first | exact hat | (rw [own_cap ao L.length cap L.length L.length]; exact hat)⟩

/-- What Insert of one ref leaves, wherever. -/
theorem insert_own (v : Value) (L : List St.It) (base vb i : Nat) (r : St.It) (w : World) (h : OwnF w base v L) (hid : ∀ r ∈ L, r.id.length = 32) (hv : w.heap[vb]? = some (.cells (itC r).toArray 70 (0, 0))) (hne : v.ownBlock ≠ some vb) (hrl : r.id.length = 32) (hi : i ≤ L.length) (hl : L.length ≤ 64) (hbase : base ≤ w.heap.size) :
    Calls Tryd.prog 46 #[v, .int .i64 (i : Int), .slice (some ⟨vb, 0, none⟩) 1 1] w fun e w' =>
      ∃ v', e = .returned v' ∧ OwnF w' base v' (L.take i ++ (r :: L.drop i)) ∧ w.grownBy w' v.ownBlock ∧ (v'.ownBlock = v.ownBlock ∨ v'.ownBlock = some w.heap.size) := by
  by_cases hie : i = L.length
  · subst hie
    refine (insert_end v L base vb r w h hv hrl hl hbase).mono ?_
    rintro e w' ⟨v', rfl, h1, h2, h3⟩
    exact ⟨v', rfl, by rw [List.take_length, List.drop_length]; exact h1, h2, h3⟩
  · obtain ⟨g, cap, cur, rfl, hb, hh, h1, h2, h3, h4⟩ := h.open_ (by omega)
    have hm := h2
    unfold maxLen at hm
    obtain ⟨m, hmm⟩ : ∃ m, L.length = i + 1 + m := ⟨L.length - (i + 1), by omega⟩
    have hlen : (L.take i ++ (r :: L.drop i)).length = i + 1 + m + 1 := by simp; omega
    have hid2 : ∀ x ∈ L.take i ++ (r :: L.drop i), x.id.length = 32 := fun x hx => by
      rcases List.mem_append.1 hx with h | h
      · exact hid x (List.mem_of_mem_take h)
      · rcases List.mem_cons.1 h with rfl | h
        · exact hrl
        · exact hid x (List.mem_of_mem_drop h)
    have hc1 : cur.take (i * 33) = (L.take i).flatMap itC := by
      rw [← flat_take L hid i (by omega), ← h4, List.take_take, Nat.min_eq_left (by omega)]
    have hc2 : (cur.take ((i + 1 + m) * 33)).drop (i * 33) = (L.drop i).flatMap itC := by
      rw [← hmm, h4, flat_drop L hid _ (by omega)]
    have hfl : (L.take i ++ (r :: L.drop i)).flatMap itC = (L.take i).flatMap itC ++ (itC r ++ (L.drop i).flatMap itC) := by
      rw [List.flatMap_append, List.flatMap_cons]
    rw [hmm] at h1 ⊢
    by_cases hroom : i + 1 + m + 1 ≤ cap
    · refine (insert_room g cap i m vb cur r w hh hv (fun e => hne (by rw [e]; rfl)) hrl h3 hroom (by omega) (by rw [← hmm, h4]; exact flat_one L)).mono ?_
      rintro e w' ⟨rfl, ⟨cur', hg', hl', ht'⟩, hgr⟩
      refine ⟨_, rfl, ?_, hgr, .inl rfl⟩
      have := OwnF.shut (L := L.take i ++ (r :: L.drop i)) hb hg' (by omega) h2 hl' (by rw [hlen, ht', hc1, hc2, hfl]) hid2
      rwa [hlen] at this
    · have hce : cap = i + 1 + m := by omega
      subst hce
      have hcur : cur.take ((i + 1 + m) * 33) = cur := List.take_of_length_le (by omega)
      refine (insert_grow g i m vb cur r w hh hv hrl h3 (by omega) (by rw [← hcur, ← hmm, h4]; exact flat_one L)).mono ?_
      rintro e w' ⟨G, rfl, hG1, hG2, ⟨cur', hg', hl', ht'⟩, hgr⟩
      refine ⟨_, rfl, ?_, hgr.but _, .inr rfl⟩
      rw [hcur] at hc2
      have := OwnF.shut (L := L.take i ++ (r :: L.drop i)) hbase hg' (by omega) hG2 hl' (by rw [hlen, ht', hc1, hc2, hfl]) hid2
      rwa [hlen] at this


end Go.Proofs.YtipigedopmgemaaDoor
