/-
  THE MATHEMATICS OF LAYER 12, no program: what is reached, by a stack and by a list that grows; rows of ids, sorted, each
-/
import Derived.Test.YtkcjhkfelaplkaaGreatDoorQi
import Derived.Test.YtkcjhkfelaplkaaGreatDoorQj
import Derived.Maps.OwnSet
import Derived.WideKeyArr2
import Derived.Carry
import Derived.Test.YtkcjhkfelaplkaaGreatDoorQp
import Derived.Maps.AppendAt
import Derived.Test.YtkcjhkfelaplkaaGreatDoorQa
set_option linter.unusedVariables false
set_option linter.unusedSimpArgs false
set_option maxHeartbeats 8000000
set_option maxRecDepth 100000
section
namespace Go.Proofs.YtkcjhkfelaplkaaGreatDoor
abbrev Gr.Id := List UInt8
inductive Gr.Rch (nx : Gr.Id → List Gr.Id) (F : List Gr.Id) : Gr.Id → Prop
 | base {x} : x ∈ F → Gr.Rch nx F x
 | step {x y} : Gr.Rch nx F x → y ∈ nx x → Gr.Rch nx F y
theorem Gr.nodup_len : ∀ {A B : List Gr.Id}, A.Nodup → (∀ x ∈ A, x ∈ B) → A.length ≤ B.length
 | [], _, _, _ => Nat.zero_le _
 | a :: r, B, hn, hs => by
   have ha := hs a (by simp)
   have hn' := List.nodup_cons.1 hn
   have := Gr.nodup_len (A := r) (B := B.erase a) hn'.2 (fun x hx => by
    have hne : x ≠ a := fun e => by subst e; exact hn'.1 hx
    exact (List.mem_erase_of_ne hne).2 (hs x (by simp [hx])))
   rw [List.length_erase_of_mem ha] at this
   have hp : 0 < B.length := List.length_pos_of_mem ha
   simp only [List.length_cons]; omega
structure Gr.Dfs (nx : Gr.Id → List Gr.Id) (hs : Gr.Id → Bool) (F W S T M : List Gr.Id) : Prop where
 sound : ∀ x, x ∈ W ∨ x ∈ S → Gr.Rch nx F x
 from_ : ∀ x ∈ F, x ∈ W ∨ x ∈ S
 clos : ∀ x ∈ S, ∀ y ∈ nx x, y ∈ W ∨ y ∈ S
 seen : ∀ x, x ∈ S ↔ x ∈ T ∨ x ∈ M
 tn : T.Nodup
 mn : M.Nodup
 th : ∀ x ∈ T, hs x = true
 mh : ∀ x ∈ M, hs x = false
theorem Gr.Dfs.skip {nx : Gr.Id → List Gr.Id} {hs : Gr.Id → Bool} {F W S T M : List Gr.Id} {x : Gr.Id} (h : Gr.Dfs nx hs F (W ++ [x]) S T M) (hx : x ∈ S) : Gr.Dfs nx hs F W S T M where
 sound := fun y hy => h.sound y (by
  rcases hy with hy | hy
  · exact .inl (by simp [hy])
  · exact .inr hy)
 from_ := fun y hy => by
  rcases h.from_ y hy with k | k
  ·
   rcases List.mem_append.1 k with k | k
   · exact .inl k
   · rw [List.mem_singleton.1 k]; exact .inr hx
  · exact .inr k
 clos := fun z hz y hy => by
  rcases h.clos z hz y hy with k | k
  ·
   rcases List.mem_append.1 k with k | k
   · exact .inl k
   · rw [List.mem_singleton.1 k]; exact .inr hx
  · exact .inr k
 seen := h.seen
 tn := h.tn
 mn := h.mn
 th := h.th
 mh := h.mh
theorem Gr.nodup_snoc {T : List Gr.Id} {x : Gr.Id} (h : T.Nodup) (hx : x ∉ T) : (T ++ [x]).Nodup := by
 rw [List.nodup_append]
 refine ⟨h, by simp, fun a ha b hb => ?_⟩
 rw [List.mem_singleton.1 hb]
 exact fun e => hx (by rw [← e]; exact ha)
theorem Gr.Dfs.miss {nx : Gr.Id → List Gr.Id} {hs : Gr.Id → Bool} {F W S T M : List Gr.Id} {x : Gr.Id} (h : Gr.Dfs nx hs F (W ++ [x]) S T M) (hx : x ∉ S) (hh : hs x = false) (hn : nx x = []) : Gr.Dfs nx hs F W (S ++ [x]) T (M ++ [x]) where
 sound := fun y hy => h.sound y (by
  simp only [List.mem_append, List.mem_singleton] at hy ⊢
  rcases hy with hy | hy | hy
  · exact .inl (.inl hy)
  · exact .inr hy
  · exact .inl (.inr hy))
 from_ := fun y hy => by
  have := h.from_ y hy
  simp only [List.mem_append, List.mem_singleton] at this ⊢
  rcases this with (k | k) | k
  · exact .inl k
  · exact .inr (.inr k)
  · exact .inr (.inl k)
 clos := fun z hz y hy => by
  simp only [List.mem_append, List.mem_singleton] at hz
  rcases hz with hz | rfl
  ·
   have := h.clos z hz y hy
   simp only [List.mem_append, List.mem_singleton] at this ⊢
   rcases this with (k | k) | k
   · exact .inl k
   · exact .inr (.inr k)
   · exact .inr (.inl k)
  · rw [hn] at hy; cases hy
 seen := fun y => by simp only [List.mem_append, List.mem_singleton]; rw [h.seen y]; exact or_assoc
 tn := h.tn
 mn := Gr.nodup_snoc h.mn (fun k => hx ((h.seen x).2 (.inr k)))
 th := h.th
 mh := fun y hy => by
  rcases List.mem_append.1 hy with k | k
  · exact h.mh y k
  · rw [List.mem_singleton.1 k]; exact hh
structure Gr.Bfs (nx : Gr.Id → List Gr.Id) (F A : List Gr.Id) (i : Nat) : Prop where
 sound : ∀ x ∈ A, Gr.Rch nx F x
 from_ : ∀ x ∈ F, x ∈ A
 clos : ∀ j x, j < i → A[j]? = some x → ∀ y ∈ nx x, y ∈ A
 nd : A.Nodup
def Gr.uni (A : List Gr.Id) : List Gr.Id → List Gr.Id
 | [] => A
 | x :: r => Gr.uni (if x ∈ A then A else A ++ [x]) r
theorem Gr.uni_mem (A B : List Gr.Id) (x : Gr.Id) : x ∈ Gr.uni A B ↔ x ∈ A ∨ x ∈ B := by
 induction B generalizing A with
 | nil => simp [Gr.uni]
 | cons b r ih =>
   simp only [Gr.uni]
   rw [ih]
   by_cases hb : b ∈ A
   ·
    rw [if_pos hb]; simp only [List.mem_cons]
    exact ⟨fun h => h.elim .inl (fun k => .inr (.inr k)), fun h => h.elim .inl (fun k => k.elim (fun e => .inl (e ▸ hb)) .inr)⟩
   ·
    rw [if_neg hb]; simp only [List.mem_append, List.mem_singleton, List.mem_cons, List.not_mem_nil, or_false]
    exact or_assoc
def Gr.Up (L : List Gr.Id) : Prop := L.Pairwise (fun a b => St.lt a b = true)
theorem Gr.up_eq : ∀ {A B : List Gr.Id}, Gr.Up A → Gr.Up B → (∀ x, x ∈ A ↔ x ∈ B) → A = B
 | [], [], _, _, _ => rfl
 | [], b :: q, _, _, h => by have := (h b).2 (by simp); cases this
 | a :: r, [], _, _, h => by have := (h a).1 (by simp); cases this
 | a :: r, b :: q, ha, hb, h => by
   have ha' := List.pairwise_cons.1 ha
   have hb' := List.pairwise_cons.1 hb
   have e : a = b := by
    rcases List.mem_cons.1 ((h a).1 (by simp)) with k | k
    · exact k
    ·
     rcases List.mem_cons.1 ((h b).2 (by simp)) with k2 | k2
     · exact k2.symm
     ·
      have h1 := hb'.1 a k
      have h2 := ha'.1 b k2
      rw [St.lt_asymm h1] at h2; cases h2
   subst e
   refine congrArg (a :: ·) (Gr.up_eq ha'.2 hb'.2 (fun x => ?_))
   constructor
   ·
    intro hx
    rcases List.mem_cons.1 ((h x).1 (by simp [hx])) with k | k
    · subst k; have := ha'.1 x hx; rw [St.lt_irrefl] at this; cases this
    · exact k
   ·
    intro hx
    rcases List.mem_cons.1 ((h x).2 (by simp [hx])) with k | k
    · subst k; have := hb'.1 x hx; rw [St.lt_irrefl] at this; cases this
    · exact k
theorem Gr.up_ins {L : List Gr.Id} {id : Gr.Id} {n : Nat} (h : Gr.Up L) (hl : ∀ x ∈ L, x.length = 32) (hid : id.length = 32) (hn : n ≤ L.length) (h1 : ∀ j x, n ≤ j → L[j]? = some x → St.lt id x = true) (h2 : n = 0 ∨ ∃ y, L[n - 1]? = some y ∧ y ≠ id ∧ St.lt id y = false) : Gr.Up (L.take n ++ id :: L.drop n) := by
 have hcut : L.take n ++ L.drop n = L := List.take_append_drop _ _
 have h' := h
 unfold Gr.Up at h'
 rw [← hcut, List.pairwise_append] at h'
 obtain ⟨ht, hd, htd⟩ := h'
 have hbig : ∀ b ∈ L.drop n, St.lt id b = true := fun b hb => by
  obtain ⟨j, hj⟩ := List.getElem?_of_mem hb
  rw [List.getElem?_drop] at hj
  exact h1 _ b (by omega) hj
 have hsmall : ∀ a ∈ L.take n, St.lt a id = true := fun a ha => by
  rcases h2 with rfl | ⟨y, hy, hne, hlt⟩
  · simp at ha
  ·
   have hy32 := hl y (List.mem_of_getElem? hy)
   have hyl : St.lt y id = true := by
    rcases St.lt_tri (a := y) (b := id) (by rw [hy32, hid]) with k | k | k
    · exact k
    · exact absurd k hne
    · rw [k] at hlt; cases hlt
   obtain ⟨j, hj⟩ := List.getElem?_of_mem ha
   rw [List.getElem?_take] at hj
   split at hj
   ·
    rename_i hjn
    rcases Nat.lt_or_ge j (n - 1) with k | k
    ·
     obtain ⟨hj1, hj2⟩ := List.getElem?_eq_some_iff.1 hj
     obtain ⟨hy1, hy2⟩ := List.getElem?_eq_some_iff.1 hy
     have := List.pairwise_iff_getElem.1 h j (n - 1) hj1 hy1 k
     rw [hj2, hy2] at this
     exact St.lt_trans this hyl
    ·
     have : j = n - 1 := by omega
     subst this
     rw [hj] at hy
     injection hy with e
     subst e; exact hyl
   · cases hj
 unfold Gr.Up
 rw [List.pairwise_append]
 refine ⟨ht, List.pairwise_cons.2 ⟨hbig, hd⟩, fun a ha b hb => ?_⟩
 rcases List.mem_cons.1 hb with rfl | hb
 · exact hsmall a ha
 · exact htd a ha b hb
theorem Gr.mem_ins {L : List Gr.Id} {id : Gr.Id} {n : Nat} (x : Gr.Id) : x ∈ L.take n ++ id :: L.drop n ↔ x ∈ L ∨ x = id := by
 have hcut : x ∈ L ↔ x ∈ L.take n ∨ x ∈ L.drop n := by rw [← List.mem_append, List.take_append_drop]
 rw [hcut]
 simp only [List.mem_append, List.mem_cons]
 constructor
 ·
  rintro (k | k | k)
  · exact .inl (.inl k)
  · exact .inr k
  · exact .inl (.inr k)
 ·
  rintro ((k | k) | k)
  · exact .inl k
  · exact .inr (.inr k)
  · exact .inr (.inl k)
theorem Gr.up_of {L : List Gr.Id} (hn : L.Nodup) (hl : ∀ x ∈ L, x.length = 32) (hs : ∀ (i j : Nat) (x y : Gr.Id), i < j → L[i]? = some x → L[j]? = some y → St.lt y x = false) : Gr.Up L := by
 unfold Gr.Up
 rw [List.pairwise_iff_getElem]
 intro i j hi hj hij
 have hne : L[i] ≠ L[j] := List.pairwise_iff_getElem.1 hn i j hi hj hij
 have := hs i j _ _ hij (List.getElem?_eq_getElem hi) (List.getElem?_eq_getElem hj)
 rcases St.lt_tri (a := L[i]) (b := L[j]) (by rw [hl _ (List.getElem_mem hi), hl _ (List.getElem_mem hj)]) with k | k | k
 · exact k
 · exact absurd k hne
 · rw [k] at this; cases this
end Go.Proofs.YtkcjhkfelaplkaaGreatDoor
end
section
namespace Go.Proofs.YtkcjhkfelaplkaaGreatDoor
open Go.RowKit Go.WideMaps Go.Maps
theorem mapM_of {α β : Type} {f : α → Option β} {g : α → β} : ∀ {L : List α}, (∀ i ∈ L, f i = some (g i)) → L.mapM f = some (L.map g)
 | [], _ => rfl
 | a :: r, h => by
   rw [List.mapM_cons, h a (by simp), mapM_of (L := r) (fun i hi => h i (by simp [hi]))]; rfl
theorem idArr : ArrKey Tryz.prog 46 5 32 := ⟨Tryz.underlying46, by kernel_rfl, by kernel_rfl, by kernel_rfl⟩
theorem idKeyed : Keyed Tryz.prog 46 := Keyed.of_law idArr.law
theorem typesPos : ∃ m, Tryz.prog.types.size = m + 1 := ⟨Tryz.prog.types.size - 1, by have : 0 < Tryz.prog.types.size := of_decide_eq_true (by kernel_rfl); omega⟩
def idLits (l : List UInt8) : List Lit := ((List.range 32).map fun i => [Lit.int .u8 ((l.getD i 0).toNat : Int)]).flatten
def idKey (l : List UInt8) : Lit := .string (keyBytes (idLits l))
theorem keyOf_id {l : List UInt8} (h : l.length = 32) : keyOf Tryz.prog 46 (.agg (idC l).toArray) = some (idKey l) := by
 have A := idArr
 have hkt := A.keyType typesPos
 obtain ⟨m, hm⟩ := typesPos
 have hl : (idC l).length = 32 := by rw [idC_length, h]
 have h1 : Tryz.prog.keyLits (m + 1 + 1) 46 (idC l) = some (idLits l) := by
  unfold Program.keyLits
  simp only [A.hu]
  rw [if_pos (by rw [A.size, hl])]
  rw [mapM_of (g := fun i => [Lit.int .u8 ((l.getD i 0).toNat : Int)])]
  · rfl
  ·
   intro i hi
   have hi' : i < 32 := by simpa using hi
   rw [A.one, Nat.mul_one]
   have hd : ((idC l).drop i).take 1 = [Value.int .u8 ((l.getD i 0).toNat : Int)] := by
    rw [List.drop_eq_getElem_cons (by omega), List.take_succ_cons, List.take_zero]
    simp [idC, bv, List.getD_eq_getElem?_getD, List.getElem?_eq_getElem (show i < l.length by omega)]
   rw [hd]
   unfold Program.keyLits
   simp only [Tryz.underlying5]
   rw [if_pos]
   have := (l.getD i 0).toNat_lt
   generalize (l.getD i 0).toNat = q at *
   simp [Lit.wf, IntKind.min, IntKind.max, IntKind.signed, IntKind.bits]
   omega
 unfold keyOf
 simp only [A.hu]
 rw [if_pos (by simp [hkt, Value.formed, A.hu, A.size, hl]), hm]
 simp only [Value.cells]
 rw [h1]; rfl
theorem idKey_inj {a b : List UInt8} (ha : a.length = 32) (hb : b.length = 32) (h : idKey a = idKey b) : a = b := by
 have := idKeyed.inj (keyOf_id ha) (by rw [h]; exact keyOf_id hb)
 injection this with e
 exact idC_inj (by simpa using e)
theorem zeroUnit (w : World) : (zeroValue 160).run Tryz.prog w = .ok (.agg #[]) w := by kernel_rfl
structure Ids (w : World) (b n : Nat) (S : List (List UInt8)) : Prop where
 out : ∃ D : DataW Unit, w.ownsMap Tryz.prog 46 unitElem b n D ∧ Maps.IsMap D ∧ ∀ id : List UInt8, id.length = 32 → Maps.has D (idKey id) = decide (id ∈ S)
theorem Ids.made (w : World) : Ids (w.alloc (.map #[] 0)) w.heap.size 0 [] := ⟨.map [], World.ownsMap_made _ _ _ _, Maps.isMap_empty, fun id _ => by simp; rfl⟩
theorem Ids.kept {w w' : World} {b n : Nat} {S : List (List UInt8)} {row : Option Nat} (h : Ids w b n S) (hg : w.grownBy w' row) (hne : some b ≠ row) : Ids w' b n S := by
 obtain ⟨D, h1, h2⟩ := h.out
 exact ⟨D, h1.kept hg hne, h2⟩
theorem Ids.lt {w : World} {b n : Nat} {S : List (List UInt8)} (h : Ids w b n S) : b < w.heap.size := by
 obtain ⟨D, h1, h2⟩ := h.out
 exact h1.lt
theorem Ids.below {w w' : World} {b n : Nat} {S : List (List UInt8)} (h : Ids w b n S) (hb : Below w.heap.size w w') : Ids w' b n S := h.kept (below_grown hb) (by simp)
theorem Ids.alloc {w : World} {b n : Nat} {S : List (List UInt8)} (h : Ids w b n S) (o : Obj) : Ids (w.alloc o) b n S := h.below ((Below.refl _ _).alloc (Nat.le_refl _) o)
section
variable (w : World) {ops : Array Oper} {rest : List Oper} {o : Oper} {a : Act} {Q : Exit → Act → World → Prop}
end
end Go.Proofs.YtkcjhkfelaplkaaGreatDoor
end
section
namespace Go.Proofs.YtkcjhkfelaplkaaGreatDoor
open Go.RowKit Go.WideMaps Go.Maps
theorem grown_below {w w1 w' : World} {row : Option Nat} (hb : Below w.heap.size w w1) (hg : w1.grownBy w' row) : w.grownBy w' row :=
 ⟨hg.os.trans hb.os, hg.tape.trans hb.tape, hg.output.trans hb.output, Nat.le_trans hb.size hg.size, fun k hk hne => (hg.block k (Nat.lt_of_lt_of_le hk hb.size) hne).trans (hb.block k hk)⟩
end Go.Proofs.YtkcjhkfelaplkaaGreatDoor
end
section
namespace Go.Proofs.YtkcjhkfelaplkaaGreatDoor
open Go.RowKit
structure Far (B k : Nat) (o : Ob) (ao bo : Option Addr) : Prop where
 e : o.ents ≠ [] → ∀ a, ao = some a → B ≤ a.block ∧ a.block ≠ k
 p : o.pars ≠ [] → ∀ a, bo = some a → B ≤ a.block ∧ a.block ≠ k
theorem RowsAt.moved {w w' : World} {n m cap : Nat} {ao : Option Addr} {C : List (List Value)} (h : RowsAt w (.slice ao n cap) m C) (hm : 0 < m) (hs : C ≠ [] → ∀ a, ao = some a → a.block < w.heap.size → w'.heap[a.block]? = w.heap[a.block]?) : RowsAt w' (.slice ao n cap) m C := by
 rcases h.out with h0 | ⟨a, cap', hv, hc⟩
 · exact ⟨.inl h0⟩
 ·
  refine ⟨.inr ⟨a, cap', hv, fun i cs hi => ⟨(hc i cs hi).1, fun j x hx => ?_⟩⟩⟩
  have h1 := (hc i cs hi).2 j x hx
  have hl := World.block_lt_of_cell? w _ h1
  have hb : ((a.add (i * m)).add j).block = a.block := by rw [add_block, add_block]
  rw [hb] at hl
  have hne : C ≠ [] := fun e => by rw [e] at hi; simp at hi
  have ha : ao = some a := by simp only [Value.slice.injEq] at hv; exact hv.1
  rw [World.cell?_of_block (w := w) (by rw [hb]; exact hs hne a ha hl)]
  exact h1
theorem RowsAt.blk {w : World} {n m cap : Nat} {a : Addr} {C : List (List Value)} (h : RowsAt w (.slice (some a) n cap) m C) (hm : 0 < m) (hc : C ≠ []) : a.block < w.heap.size := by
 rcases h.out with ⟨_, h0⟩ | ⟨a', cap', hv, hr⟩
 · exact absurd h0 hc
 ·
  obtain ⟨c, r, rfl⟩ := List.exists_cons_of_ne_nil hc
  obtain ⟨h1, h2⟩ := hr 0 c rfl
  have h3 := h2 0 c[0] (by rw [List.getElem?_eq_getElem])
  have h4 := World.block_lt_of_cell? w _ h3
  rw [add_block, add_block] at h4
  simp only [Value.slice.injEq] at hv
  obtain rfl : a = a' := by simpa using hv.1
  exact h4
theorem ObAt.moved {w w' : World} {cs : Array Value} {o : Ob} {ao bo : Option Addr} {ca cb B k : Nat} (h : ObAt w cs o ao bo ca cb) (hf : Far B k o ao bo) (hs : ∀ g, B ≤ g → g ≠ k → g < w.heap.size → w'.heap[g]? = w.heap[g]?) : ObAt w' cs o ao bo ca cb :=
 ⟨h.F, h.E.moved (by decide) (fun hc a ha hl => by
   obtain ⟨h1, h2⟩ := hf.e (fun e => hc (by rw [e]; rfl)) a ha
   exact hs _ h1 h2 hl), h.P.moved (by decide) (fun hc a ha hl => by
   obtain ⟨h1, h2⟩ := hf.p (fun e => hc (by rw [e]; rfl)) a ha
   exact hs _ h1 h2 hl), h.eid, h.enm, h.pid, h.el, h.pl, h.nm, h.ti⟩
theorem Far.fresh {w : World} {cs : Array Value} {o : Ob} {ao bo : Option Addr} {ca cb B k k' : Nat} (h : ObAt w cs o ao bo ca cb) (hf : Far B k o ao bo) (hk : w.heap.size ≤ k') : Far B k' o ao bo :=
 ⟨fun hc a ha => ⟨(hf.e hc a ha).1, fun e => by
  subst ha
  have := h.E.blk (by decide) (fun e => hc (by simpa using e))
  omega⟩, fun hc a ha => ⟨(hf.p hc a ha).1, fun e => by
  subst ha
  have := h.P.blk (by decide) (fun e => hc (by simpa using e))
  omega⟩⟩
theorem Far.le {B B' k : Nat} {o : Ob} {ao bo : Option Addr} (hf : Far B k o ao bo) (hb : B' ≤ B) : Far B' k o ao bo :=
 ⟨fun hc a ha => ⟨Nat.le_trans hb (hf.e hc a ha).1, (hf.e hc a ha).2⟩, fun hc a ha => ⟨Nat.le_trans hb (hf.p hc a ha).1, (hf.p hc a ha).2⟩⟩
namespace R
def DIt (B k : Nat) (w : World) (c : List Value) (x : St.It) : Prop :=
 ∃ (o : Ob) (cs : Array Value) (ao bo : Option Addr) (ca cb : Nat), c = riC x.id x.text cs ∧ ObAt w cs o ao bo ca cb ∧ Far B k o ao bo ∧ Rm.dec x.text.data.toList = some o ∧ shaI x.text = x.id
theorem DIt.old {B k : Nat} {w : World} {c : List Value} {x : St.It} (h : DIt B k w c x) : Go.Proofs.YtkcjhkfelaplkaaGreatDoor.DIt w c x := by
 obtain ⟨o, cs, ao, bo, ca, cb, h1, h2, h3, h4, h5⟩ := h
 exact ⟨o, cs, h1, h2.F.size, h2.F.one, h2.F.c0, h4, h5⟩
theorem DIt.moved {B k : Nat} {w w' : World} {c : List Value} {x : St.It} (h : DIt B k w c x) (hs : ∀ g, B ≤ g → g ≠ k → g < w.heap.size → w'.heap[g]? = w.heap[g]?) : DIt B k w' c x := by
 obtain ⟨o, cs, ao, bo, ca, cb, h1, h2, h3, h4, h5⟩ := h
 exact ⟨o, cs, ao, bo, ca, cb, h1, h2.moved h3 hs, h3, h4, h5⟩
theorem DIt.movedTo {B k k' : Nat} {w w' : World} {c : List Value} {x : St.It} (h : DIt B k w c x) (hs : ∀ g, B ≤ g → g ≠ k → g < w.heap.size → w'.heap[g]? = w.heap[g]?) (hk : w.heap.size ≤ k') : DIt B k' w' c x := by
 obtain ⟨o, cs, ao, bo, ca, cb, h1, h2, h3, h4, h5⟩ := h
 exact ⟨o, cs, ao, bo, ca, cb, h1, h2.moved h3 hs, Far.fresh h2 h3 hk, h4, h5⟩
theorem DIt.fresh {B k k' : Nat} {w : World} {c : List Value} {x : St.It} (h : DIt B k w c x) (hk : w.heap.size ≤ k') : DIt B k' w c x := by
 obtain ⟨o, cs, ao, bo, ca, cb, h1, h2, h3, h4, h5⟩ := h
 exact ⟨o, cs, ao, bo, ca, cb, h1, h2, Far.fresh h2 h3 hk, h4, h5⟩
theorem DIt.le {B B' k : Nat} {w : World} {c : List Value} {x : St.It} (h : DIt B k w c x) (hk : B' ≤ B) : DIt B' k w c x := by
 obtain ⟨o, cs, ao, bo, ca, cb, h1, h2, h3, h4, h5⟩ := h
 exact ⟨o, cs, ao, bo, ca, cb, h1, h2, h3.le hk, h4, h5⟩
theorem DIt.below {B k : Nat} {w w' : World} {c : List Value} {x : St.It} (h : DIt B k w c x) (hb : Below w.heap.size w w') : DIt B k w' c x := by
 obtain ⟨o, cs, ao, bo, ca, cb, h1, h2, h3, h4, h5⟩ := h
 exact ⟨o, cs, ao, bo, ca, cb, h1, h2.below hb, h3, h4, h5⟩
theorem DIt.len {B k : Nat} {w : World} {c : List Value} {x : St.It} (h : DIt B k w c x) : c.length = 105 := h.old.len
theorem DIt.one {B k : Nat} {w : World} {c : List Value} {x : St.It} (h : DIt B k w c x) : ∀ v ∈ c, v.oneCell' = true := h.old.one
theorem DIt.idl {B k : Nat} {w : World} {c : List Value} {x : St.It} (h : DIt B k w c x) : x.id.length = 32 := h.old.idl
theorem DIt.ids {B k : Nat} {w W : World} {c : List Value} {x : St.It} {p : Addr} (h : DIt B k w c x) (hc : ∀ j u, c[j]? = some u → W.cell? (p.add j) = some u) : ∀ j u, (idC x.id)[j]? = some u → W.cell? (p.add j) = some u := h.old.ids hc
structure Its (B k : Nat) (w : World) (C : List (List Value)) (L : List St.It) : Prop where
 len : C.length = L.length
 at_ : ∀ (i : Nat) (c : List Value) (x : St.It), C[i]? = some c → L[i]? = some x → DIt B k w c x
theorem Its.old {B k : Nat} {w : World} {C : List (List Value)} {L : List St.It} (h : Its B k w C L) : Go.Proofs.YtkcjhkfelaplkaaGreatDoor.Its w C L := ⟨h.len, fun i c x h1 h2 => (h.at_ i c x h1 h2).old⟩
theorem Its.below {B k : Nat} {w w' : World} {C : List (List Value)} {L : List St.It} (h : Its B k w C L) (hb : Below w.heap.size w w') : Its B k w' C L := ⟨h.len, fun i c x h1 h2 => (h.at_ i c x h1 h2).below hb⟩
theorem Its.push {B k : Nat} {w : World} {C : List (List Value)} {L : List St.It} {c : List Value} {x : St.It} (h : Its B k w C L) (hc : DIt B k w c x) : Its B k w (C ++ [c]) (L ++ [x]) := by
 refine ⟨by simp [h.len], fun i d y hd hy => ?_⟩
 by_cases hi : i < C.length
 ·
  rw [List.getElem?_append_left hi] at hd
  rw [List.getElem?_append_left (by rw [← h.len]; exact hi)] at hy
  exact h.at_ i d y hd hy
 ·
  have hic : i = C.length := by
   have := (List.getElem?_eq_some_iff.1 hd).1
   simp at this; omega
  subst hic
  rw [List.getElem?_append_right (Nat.le_refl _)] at hd
  rw [List.getElem?_append_right (by rw [h.len]; exact Nat.le_refl _), h.len] at hy
  simp at hd hy
  subst hd hy
  exact hc
structure DSt (B k : Nat) (w : World) (v : Value) (L : List St.It) : Prop where
 rows : ∃ C, OwnR w 0 v C ∧ Its B k w C L
 srt : St.Srt L
 few : L.length ≤ 62
theorem DSt.old {B k : Nat} {w : World} {v : Value} {L : List St.It} (h : DSt B k w v L) : Go.Proofs.YtkcjhkfelaplkaaGreatDoor.DSt w v L := by
 obtain ⟨C, h1, h2⟩ := h.rows
 exact ⟨⟨C, h1, h2.old⟩, h.srt, h.few⟩
theorem DSt.below {B k : Nat} {w w' : World} {v : Value} {L : List St.It} (h : DSt B k w v L) (hb : Below w.heap.size w w') : DSt B k w' v L := by
 obtain ⟨C, h1, h2⟩ := h.rows
 exact ⟨⟨C, h1.below hb, h2.below hb⟩, h.srt, h.few⟩
theorem DSt.form {B k : Nat} {w : World} {v : Value} {L : List St.It} (h : DSt B k w v L) : ∃ ao cap, v = .slice ao L.length cap := h.old.form
theorem DSt.len {B k : Nat} {w : World} {v : Value} {L : List St.It} (h : DSt B k w v L) : St.Len L := h.old.len
theorem DSt.nil (B k : Nat) (w : World) : DSt B k w (.slice none 0 0) [] := ⟨⟨[], OwnR.nil _ _, rfl, fun i c x h => by simp at h⟩, St.nil_srt, Nat.zero_le _⟩
theorem DSt.elem {B k : Nat} {w : World} {ao : Option Addr} {n cap : Nat} {L : List St.It} (h : DSt B k w (.slice ao n cap) L) (i : Nat) (x : St.It) (hi : L[i]? = some x) :
  ∃ a c, ao = some a ∧ DIt B k w c x ∧ ∀ j u, c[j]? = some u → w.cell? ((a.add (i * 105)).add j) = some u := by
 obtain ⟨C, h1, h2⟩ := h.rows
 have hl : i < C.length := by rw [h2.len]; exact (List.getElem?_eq_some_iff.1 hi).1
 have hc := List.getElem?_eq_getElem hl
 obtain ⟨a, e, _, h3⟩ := h1.rows.elem i _ hc
 exact ⟨a, _, e, h2.at_ i _ x hc hi, h3⟩
theorem DSt.kept {B k : Nat} {w w' : World} {v : Value} {L : List St.It} (h : DSt B k w v L) (hk : ∀ (g : Nat) (cs : Array Value), w.heap[g]? = some (Obj.cells cs 91 (0, 0)) → w'.heap[g]? = w.heap[g]?) (hs : ∀ g, B ≤ g → g ≠ k → g < w.heap.size → w'.heap[g]? = w.heap[g]?) : DSt B k w' v L := by
 obtain ⟨C, h1, h2⟩ := h.rows
 refine ⟨⟨C, ⟨⟨h1.own.1, h1.own.2.imp id ?_⟩, h1.len⟩, h2.len, fun i c x hc hx => (h2.at_ i c x hc hx).moved hs⟩, h.srt, h.few⟩
 rintro ⟨g, cap, cur, hv, hg, hh, hrest⟩
 exact ⟨g, cap, cur, hv, hg, (hk g _ hh).trans hh, hrest⟩
theorem DSt.fresh {B k k' : Nat} {w : World} {v : Value} {L : List St.It} (h : DSt B k w v L) (hk : w.heap.size ≤ k') : DSt B k' w v L := by
 obtain ⟨C, h1, h2⟩ := h.rows
 exact ⟨⟨C, h1, h2.len, fun i c x hc hx => (h2.at_ i c x hc hx).fresh hk⟩, h.srt, h.few⟩
theorem DSt.le {B B' k : Nat} {w : World} {v : Value} {L : List St.It} (h : DSt B k w v L) (hk : B' ≤ B) : DSt B' k w v L := by
 obtain ⟨C, h1, h2⟩ := h.rows
 exact ⟨⟨C, h1, h2.len, fun i c x hc hx => (h2.at_ i c x hc hx).le hk⟩, h.srt, h.few⟩
theorem DSt.grown {B k : Nat} {wr w' : World} {v iv : Value} {L : List St.It} {I : List (List UInt8)} {base : Nat} {o : Obj} (h : DSt B k wr v L) (hO : OwnI wr base iv I) (hk : ∀ g, iv.ownBlock = some g → g = k ∨ g < B) (hg : (wr.alloc o).grownBy w' iv.ownBlock) : DSt B k w' v L :=
 h.kept (fun g cs hh => by
  have hlt := (Array.getElem?_eq_some_iff.1 hh).1
  rw [hg.block g (by simp; omega) (own_box hO.own hh (by decide)), heap_alloc_old _ _ hlt])
 (fun g hB hne hlt => by
   rw [hg.block g (by simp; omega) (fun e => (hk g e.symm).elim (fun h1 => hne h1) (fun h1 => by omega)), heap_alloc_old _ _ hlt])
theorem DSt.grownTo {B k k' : Nat} {wr w' : World} {v iv : Value} {L : List St.It} {I : List (List UInt8)} {base : Nat} {o : Obj} (h : DSt B k wr v L) (hO : OwnI wr base iv I) (hk : ∀ g, iv.ownBlock = some g → g = k ∨ g < B) (hg : (wr.alloc o).grownBy w' iv.ownBlock) (hk' : wr.heap.size ≤ k') : DSt B k' w' v L := by
 have h0 := h.grown hO hk hg
 obtain ⟨C, h1, h2⟩ := h0.rows
 obtain ⟨C', h1', h2'⟩ := h.rows
 have hm : ∀ (g : Nat) (cs : Array Value), wr.heap[g]? = some (Obj.cells cs 91 (0, 0)) → w'.heap[g]? = wr.heap[g]? := fun g cs hh => by
  have hlt := (Array.getElem?_eq_some_iff.1 hh).1
  rw [hg.block g (by simp; omega) (own_box hO.own hh (by decide)), heap_alloc_old _ _ hlt]
 refine ⟨⟨C', ⟨⟨h1'.own.1, h1'.own.2.imp id ?_⟩, h1'.len⟩, h2'.len, fun i c x hc hx => (h2'.at_ i c x hc hx).movedTo (fun g hB hne hlt => by
  rw [hg.block g (by simp; omega) (fun e => (hk g e.symm).elim (fun h1 => hne h1) (fun h1 => by omega)), heap_alloc_old _ _ hlt]) hk'⟩, h.srt, h.few⟩
 rintro ⟨g, cap, cur, hv, hgb, hh, hrest⟩
 exact ⟨g, cap, cur, hv, hgb, (hm g _ hh).trans hh, hrest⟩
theorem DSt.box {B k : Nat} {w : World} {v : Value} {L : List St.It} {b : Nat} {c : Array Value} (h : DSt B k w v L) (hb : w.heap[b]? = some (.cells c 28 (0, 0))) (hB : b < B) (cs : Array Value) : DSt B k (w.setRow b cs) v L :=
 h.kept (fun g cs' hh => setRow_other w b g cs (fun e => by subst e; rw [hb] at hh; simp at hh)) (fun g h1 h2 h3 => setRow_other w b g cs (by omega))
def WithOk (B k : Nat) (w : World) (v : Value) (L : List St.It) (s : ByteArray) (r : Ending) (w' : World) : Prop :=
 ∃ v', r = .returned (.tuple #[.agg #[v'], .agg (idC (shaI s)).toArray, .bool true]) ∧ DSt B k w' v' (St.put L ⟨shaI s, s⟩) ∧ Below w.heap.size w w'
end R
theorem ap_id_at {ops : Array Oper} {rest : List Oper} {op : Oper} {a : Act} {wr : World} {Q : Exit → Act → World → Prop} {v : Value} {I : List (List UInt8)} {id : List UInt8} {base : Nat} (s x : Operand)
  (ho : op.op = .call { callee := .builtin .append, args := #[s, x], argTypes := #[34, 34] }) (hs : a.eval s = v) (hx : a.eval x = .slice (some ⟨wr.heap.size, 0, none⟩) 1 1) (hg : op.guard = none)
  (h : OwnI wr base v I) (hb : base ≤ wr.heap.size) (hid : id.length = 32) (hl : I.length ≤ 100000)
  (hK : ∀ v' w', Hid (OwnI w' base v' (I ++ [id])) → Hid ((wr.alloc (.cells (idC id).toArray 46)).grownBy w' v.ownBlock) → Hid (v'.ownBlock = v.ownBlock ∨ v'.ownBlock = some (wr.heap.size + 1)) → wpList Tryz.prog ops Q rest (a.put op.dst v') w') : wpList Tryz.prog ops Q (op :: rest) a (wr.alloc (.cells (idC id).toArray 46)) := by
 obtain ⟨i0, hi, hz0, hz1, hz2⟩ := info_parts infoIdz
 refine wpList_append_own_at _ hg s x 34 ho base 46 i0 _ 32 32 Tryz.underlying34 hi hz0 hz1 hz2 (by decide) (by decide) v I.length (I.map idC).flatten hs (World.ownsRow.alloc h.own _) ⟨wr.heap.size, 0, none⟩ 1 1 (idC id) hx (by rw [idC_length, hid]) (row_news (heap_alloc_new _ _)) (idC_one id) (by unfold maxLen; omega) (by omega) (by simp; omega) ?_
 intro v' w' h1 h2 _ h4
 have h5 : v'.ownBlock = v.ownBlock ∨ v'.ownBlock = some (wr.heap.size + 1) := by simpa using h4
 refine hK v' w' ⟨?_, ?_⟩ h2 h5
 ·
  have := own_pushK (C := I.map idC) (c := idC id) (by simpa using h1)
  rw [show (I ++ [id]).map idC = I.map idC ++ [idC id] by simp, show (I ++ [id]).length = (I.map idC ++ [idC id]).length by simp]
  exact this
 ·
  intro i hi
  rcases List.mem_append.1 hi with h' | h'
  · exact h.len i h'
  · rw [List.mem_singleton.1 h']; exact hid
end Go.Proofs.YtkcjhkfelaplkaaGreatDoor
end
