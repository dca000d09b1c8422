/-
  WALKS OF LAYER 11: seeds in memory; Few; Grow.
-/
import Derived.Test.YtkcjhkfelaplkaaGreatDoorQo
import Derived.ProofKit
import Derived.OpenShut
import Derived.LaidMore
import Derived.ChangeSlices
import Derived.Carry
import Derived.Deep.Slices
import Derived.Deep.Lists
import Derived.Test.YtkcjhkfelaplkaaGreatDoorQk
import Derived.Test.YtkcjhkfelaplkaaGreatDoorQa
set_option linter.unusedVariables false
set_option linter.unusedSimpArgs false
set_option maxHeartbeats 8000000
set_option maxRecDepth 100000
section
namespace Go.Proofs.YtkcjhkfelaplkaaGreatDoor
open Go.RowKit
structure Sd where
 k : Nat
 refs : List UInt8
 t : Nat
 x : ByteArray
def Sd.ok (s : Sd) : Prop := s.refs.length ≤ 10 ∧ s.x.size ≤ 300
instance (s : Sd) : Decidable s.ok := by unfold Sd.ok; infer_instance
structure SdsAt (w : World) (v : Value) (S : List Sd) : Prop where
 out : (v = .slice none 0 0 ∧ S = []) ∨ ∃ a cap, v = .slice (some a) S.length cap ∧ ∀ (i : Nat) (s : Sd), S[i]? = some s → ∃ rv, ByAt w rv s.refs ∧ ∀ (j : Nat) (u : Value), (sdC s.k rv s.t s.x)[j]? = some u → w.cell? ((a.add (i * 4)).add j) = some u
 k : ∀ s ∈ S, s.k < 256 ∧ s.t < 65536 ∧ s.refs.length ≤ maxLen ∧ s.x.size ≤ maxLen
theorem SdsAt.below {w w' : World} {v : Value} {S : List Sd} (h : SdsAt w v S) (hb : Below w.heap.size w w') : SdsAt w' v S := by
 refine ⟨?_, h.k⟩
 rcases h.out with h0 | ⟨a, cap, hv, hc⟩
 · exact .inl h0
 ·
  refine .inr ⟨a, cap, hv, fun i s hi => ?_⟩
  obtain ⟨rv, h1, h2⟩ := hc i s hi
  exact ⟨rv, h1.below hb, fun j u hu => by rw [hb.cell (World.block_lt_of_cell? w _ (h2 j u hu))]; exact h2 j u hu⟩
theorem SdsAt.form {w : World} {v : Value} {S : List Sd} (h : SdsAt w v S) : ∃ ao cap, v = .slice ao S.length cap := by
 rcases h.out with ⟨rfl, rfl⟩ | ⟨a, cap, rfl, _⟩
 · exact ⟨none, 0, rfl⟩
 · exact ⟨some a, cap, rfl⟩
theorem SdsAt.elem {w : World} {ao : Option Addr} {n cap : Nat} {S : List Sd} (h : SdsAt w (.slice ao n cap) S) (i : Nat) (s : Sd) (hi : S[i]? = some s) : ∃ a rv, ao = some a ∧ ByAt w rv s.refs ∧ ∀ (j : Nat) (u : Value), (sdC s.k rv s.t s.x)[j]? = some u → w.cell? ((a.add (i * 4)).add j) = some u := by
 rcases h.out with ⟨_, rfl⟩ | ⟨a, cap', hv, hc⟩
 · simp at hi
 ·
  simp only [Value.slice.injEq] at hv
  obtain ⟨rv, h1, h2⟩ := hc i s hi
  exact ⟨a, rv, hv.1, h1, h2⟩
def goodS (S : List Sd) : Prop := S.length ≤ 20 ∧ ∀ s ∈ S, s.ok
instance (S : List Sd) : Decidable (goodS S) := by unfold goodS; infer_instance
theorem yields_at {ops : Array Oper} {S : World → Prop} {op : Oper} {a : Act} {ty : TypeId} {x : Operand} {p : Addr} {cs : List Value} {d : TypeDesc} (hw : Region.wanted op (yielded ops a.tmps) = true) (ho : op.op = .load ty x) (hx : a.eval x = .pointer (some p)) (hS : ∀ w, S w → ∀ j v, cs[j]? = some v → w.cell? (p.add j) = some v)
  (hu : Tryz.prog.underlying ty = some d) (hd : d.isRow = true) (hi : (Tryz.prog.info? ty).map (·.size) = some cs.length) : YieldsIf Tryz.prog ops S op (.agg cs.toArray) a :=
 .inl ⟨hw, fun w hw' => by
  unfold execOp
  simp only [ho, hx, Instr.loadAt, Instr.sureAddr, Sem.run_bind, Sem.run_pure, Result.andThen_ok, run_loadVar_at w p ty cs d (hS w hw') hu hd hi]⟩
theorem seed_size0 : (Tryz.prog.info? 134).map (·.size) = some 4 := by kernel_rfl
theorem seed_size {k : Nat} {rv : Value} {t : Nat} {x : ByteArray} : (Tryz.prog.info? 134).map (·.size) = some (sdC k rv t x).toList.length := seed_size0
theorem underSeed : Tryz.prog.underlying 134 = some (.struct (Tryz.prog.fieldsOf 134)) := by kernel_rfl
theorem DSt.kept {w w' : World} {v : Value} {L : List St.It} (h : DSt w v L) (hk : ∀ (g : Nat) (cs : Array Value), w.heap[g]? = some (Obj.cells cs 91 (0, 0)) → w'.heap[g]? = w.heap[g]?) : DSt w' v L := by
 obtain ⟨C, h1, h2⟩ := h.rows
 refine ⟨⟨C, ⟨⟨h1.own.1, h1.own.2.imp id ?_⟩, h1.len⟩, h2.len, h2.at_⟩, h.srt, h.few⟩
 rintro ⟨g, cap, cur, hv, hg, hh, hrest⟩
 exact ⟨g, cap, cur, hv, hg, (hk g _ hh).trans hh, hrest⟩
theorem DSt.grown {wr w' : World} {v iv : Value} {L : List St.It} {I : List (List UInt8)} {base : Nat} {o : Obj} (h : DSt wr v L) (hO : OwnI wr base iv I) (hg : (wr.alloc o).grownBy w' iv.ownBlock) : DSt w' v L :=
 h.kept (fun g cs hh => by
  have hlt := (Array.getElem?_eq_some_iff.1 hh).1
  rw [hg.block g (by simp; omega) (own_box hO.own hh (by decide)), heap_alloc_old _ _ hlt])
theorem DSt.box {w : World} {v : Value} {L : List St.It} {b : Nat} {c : Array Value} (h : DSt w v L) (hb : w.heap[b]? = some (.cells c 28 (0, 0))) (cs : Array Value) : DSt (w.setRow b cs) v L :=
 h.kept (fun g cs' hh => setRow_other w b g cs (fun e => by subst e; rw [hb] at hh; simp at hh))
theorem OwnI.box {w : World} {base : Nat} {iv : Value} {I : List (List UInt8)} {b : Nat} {c : Array Value} (h : OwnI w base iv I) (hb : w.heap[b]? = some (.cells c 28 (0, 0))) (cs : Array Value) : OwnI (w.setRow b cs) base iv I :=
 ⟨own_kept h.own (fun g hg => setRow_other w b g cs (fun e => own_box h.own hb (by decide) (by rw [hg, e]))), h.len⟩
theorem box_grown {wr w' : World} {iv : Value} {I : List (List UInt8)} {base b : Nat} {c : Array Value} {o : Obj} (hO : OwnI wr base iv I) (hb : wr.heap[b]? = some (Obj.cells c 28 (0, 0))) (hg : (wr.alloc o).grownBy w' iv.ownBlock) : w'.heap[b]? = some (Obj.cells c 28 (0, 0)) := by
 have hlt := (Array.getElem?_eq_some_iff.1 hb).1
 rw [hg.block b (by simp; omega) (own_box hO.own hb (by decide)), heap_alloc_old _ _ hlt]
 exact hb
end Go.Proofs.YtkcjhkfelaplkaaGreatDoor
end
section
namespace Go.Proofs.YtkcjhkfelaplkaaGreatDoor
open Go.ChangeShapes Go.WideShapes Go.ChangeAt Go.RowKit Go.Deep
theorem opLaid : laidOutB Tryz.prog = true := by kernel_rfl
theorem opK8 : Tryz.prog.cellsOf 5 = 1 := by kernel_rfl
theorem opK16 : Tryz.prog.cellsOf 132 = 1 := by kernel_rfl
theorem opKs : Tryz.prog.cellsOf 9 = 1 := by kernel_rfl
theorem opKb : Tryz.prog.cellsOf 23 = 1 := by kernel_rfl
theorem opKsd : Tryz.prog.cellsOf 134 = 4 := by kernel_rfl
theorem list_of {α : Type} {P : Nat → α → Prop} : ∀ n : Nat, (∀ i, i < n → ∃ e, P i e) → ∃ l : List α, l.length = n ∧ ∀ i e, l[i]? = some e → P i e
 | 0, _ => ⟨[], rfl, fun i e h => by simp at h⟩
 | n + 1, h => by
   obtain ⟨l, hl, hp⟩ := list_of n (fun i hi => h i (by omega))
   obtain ⟨e, he⟩ := h n (by omega)
   refine ⟨l ++ [e], by simp [hl], fun i x hx => ?_⟩
   by_cases hi : i < n
   ·
    rw [List.getElem?_append_left (by omega)] at hx
    exact hp i x hx
   ·
    have hin : i < n + 1 := by
     have := (List.getElem?_eq_some_iff.1 hx).1
     simp [hl] at this; omega
    have : i = n := by omega
    subst this
    rw [List.getElem?_append_right (by omega), hl] at hx
    simp at hx; subst hx; exact he
section
variable {H : Type} {enc : TypeId × Value → H} {w : World} {base : Nat} {spare : Nat → Bool} {held : Bool} {fuel : Nat} {cs : List Value} {x : DataW H × List MemPlace}
theorem open_by (h : DataW.trod enc Tryz.prog w base (fun _ => true) held fuel 23 cs = some x) :
  ∃ (R : List UInt8) (ao : Option Addr) (ca : Nat), cs = [.slice ao R.length ca] ∧ ByAt w (.slice ao R.length ca) R ∧ R.length ≤ maxLen := by
 rcases open_ints Tryz.underlying23 Tryz.underlying5 opK8 h with ⟨rfl, _⟩ | ⟨a, len, cap, zs, hcs, hb, hl, hm, hz, hx, hc, hw⟩
 · exact ⟨[], none, 0, rfl, ⟨.inl ⟨rfl, rfl⟩⟩, Nat.zero_le _⟩
 ·
  have hz' : zs.length = cap := by simpa using hz
  obtain ⟨R, hlen, hes⟩ := list_of (P := fun i (e : UInt8) => w.cell? (a.add i) = some (.int .u8 (e.toNat : Int))) len (fun i hi => by
   have hlt : i < zs.length := by omega
   have hmem : zs.getD i 0 ∈ zs := by
    rw [List.getD_eq_getElem?_getD, List.getElem?_eq_getElem hlt]; exact List.getElem_mem hlt
   have hwf := hw _ hmem
   simp [Lit.wf, IntKind.min, IntKind.max, IntKind.signed, IntKind.bits] at hwf
   refine ⟨UInt8.ofNat (zs.getD i 0).toNat, ?_⟩
   rw [hc i hlt]
   have h1 : (zs.getD i 0).toNat < 256 := by simp only [List.getD_eq_getElem?_getD] at hwf ⊢; omega
   have h2 : (UInt8.ofNat (zs.getD i 0).toNat).toNat = (zs.getD i 0).toNat := by
    rw [UInt8.toNat_ofNat']; exact Nat.mod_eq_of_lt h1
   rw [h2]
   have h3 : (((zs.getD i 0).toNat : Nat) : Int) = zs.getD i 0 := by simp only [List.getD_eq_getElem?_getD] at hwf ⊢; omega
   rw [h3])
  subst hlen
  exact ⟨R, some a, cap, hcs, ⟨.inr ⟨a, cap, rfl, hes⟩⟩, by omega⟩
theorem wf_u8 {k : Int} (h : (Lit.int .u8 k).wf = true) : 0 ≤ k ∧ k < 256 := by
 simp [Lit.wf, IntKind.min, IntKind.max, IntKind.signed, IntKind.bits] at h
 omega
theorem wf_u16 {k : Int} (h : (Lit.int .u16 k).wf = true) : 0 ≤ k ∧ k < 65536 := by
 simp [Lit.wf, IntKind.min, IntKind.max, IntKind.signed, IntKind.bits] at h
 omega
theorem four_list : ∀ {cs : List Value}, cs.length = 4 → ∃ a b c d, cs = [a, b, c, d]
 | [a, b, c, d], _ => ⟨a, b, c, d, rfl⟩
theorem sd_of {k t : Int} {rv : Value} {R : List UInt8} {X : ByteArray} (hlen : cs.length = 4) (e0 : (cs.drop 0).take 1 = [Value.int .u8 k]) (e1 : (cs.drop 1).take 1 = [rv]) (e2 : (cs.drop 2).take 1 = [Value.int .u16 t]) (e3 : (cs.drop 3).take 1 = [Value.string X])
  (hk : 0 ≤ k ∧ k < 256) (ht : 0 ≤ t ∧ t < 65536) (hR : ByAt w rv R) (hRl : R.length ≤ maxLen) (hX : X.size ≤ maxLen) :
  ∃ (s : Sd) (rv : Value), cs = (sdC s.k rv s.t s.x).toList ∧ ByAt w rv s.refs ∧ s.k < 256 ∧ s.t < 65536 ∧ s.refs.length ≤ maxLen ∧ s.x.size ≤ maxLen := by
 obtain ⟨c0, c1, c2, c3, rfl⟩ := four_list hlen
 simp only [List.drop_zero, List.take_succ_cons, List.take_zero, List.drop_succ_cons, List.cons.injEq, and_true] at e0 e1 e2 e3
 subst e0 e1 e2 e3
 refine ⟨⟨k.toNat, R, t.toNat, X⟩, c1, ?_, hR, ?_, ?_, hRl, hX⟩
 ·
  simp only [sdC]
  rw [show ((k.toNat : Nat) : Int) = k from Int.toNat_of_nonneg hk.1, show ((t.toNat : Nat) : Int) = t from Int.toNat_of_nonneg ht.1]
 ·
  show k.toNat < 256
  omega
 ·
  show t.toNat < 65536
  omega
theorem open_sd (h : DataW.trod enc Tryz.prog w base (fun _ => true) held fuel 134 cs = some x) :
  ∃ (s : Sd) (rv : Value), cs = (sdC s.k rv s.t s.x).toList ∧ ByAt w rv s.refs ∧ s.k < 256 ∧ s.t < 65536 ∧ s.refs.length ≤ maxLen ∧ s.x.size ≤ maxLen := by
 obtain ⟨xs, n, _, _, hlen, hl, hg⟩ := DataW.trod_struct Tryz.underlying134 h
 have hl4 : xs.length = 4 := hl
 rw [opKsd] at hlen
 have g0 : DataW.trod enc Tryz.prog w base (fun _ => true) held n 5 ((cs.drop 0).take (Tryz.prog.cellsOf 5)) = xs[0]? := hg 0 _ rfl
 have g1 : DataW.trod enc Tryz.prog w base (fun _ => true) held n 23 ((cs.drop 1).take (Tryz.prog.cellsOf 23)) = xs[1]? := hg 1 _ rfl
 have g2 : DataW.trod enc Tryz.prog w base (fun _ => true) held n 132 ((cs.drop 2).take (Tryz.prog.cellsOf 132)) = xs[2]? := hg 2 _ rfl
 have g3 : DataW.trod enc Tryz.prog w base (fun _ => true) held n 9 ((cs.drop 3).take (Tryz.prog.cellsOf 9)) = xs[3]? := hg 3 _ rfl
 rw [opK8, List.getElem?_eq_getElem (by omega)] at g0
 rw [opKb, List.getElem?_eq_getElem (by omega)] at g1
 rw [opK16, List.getElem?_eq_getElem (by omega)] at g2
 rw [opKs, List.getElem?_eq_getElem (by omega)] at g3
 obtain ⟨k, e0, _, hk⟩ := DataW.trod_int Tryz.underlying5 g0
 obtain ⟨R, ro, rc, e1, hR, hRl⟩ := open_by g1
 obtain ⟨t, e2, _, ht⟩ := DataW.trod_int Tryz.underlying132 g2
 obtain ⟨X, e3, _, hX⟩ := DataW.trod_string Tryz.underlying9 g3
 exact sd_of hlen e0 e1 e2 e3 (wf_u8 hk) (wf_u16 ht) hR hRl hX
theorem open_sds (h : DataW.trod enc Tryz.prog w base (fun _ => true) held fuel 22 cs = some x) :
  ∃ (S : List Sd) (ao : Option Addr) (ca : Nat), cs = [.slice ao S.length ca] ∧ SdsAt w (.slice ao S.length ca) S ∧ S.length ≤ maxLen := by
 rcases open_slice Tryz.underlying22 h with ⟨rfl, _⟩ | ⟨a, len, cap, m, n, D, Pl, hcs, hb, hl, hm, hmm, hx, hi⟩
 · exact ⟨[], none, 0, rfl, ⟨.inl ⟨rfl, rfl⟩, fun s hs => by cases hs⟩, Nat.zero_le _⟩
 ·
  have hm' : m = cap := by simpa using hmm
  rw [opKsd] at hi
  obtain ⟨S, hlen, hes⟩ := list_of (P := fun i (s : Sd) => (∃ rv, ByAt w rv s.refs ∧ ∀ (j : Nat) (u : Value), (sdC s.k rv s.t s.x)[j]? = some u → w.cell? ((a.add (i * 4)).add j) = some u) ∧ s.k < 256 ∧ s.t < 65536 ∧ s.refs.length ≤ maxLen ∧ s.x.size ≤ maxLen) len (fun i hi' => by
   obtain ⟨cs', hc, ht⟩ := hi i (by omega)
   obtain ⟨s, rv, rfl, hR, hk⟩ := open_sd ht
   obtain ⟨_, hcl, hat⟩ := World.cells?_some hc
   refine ⟨s, ⟨rv, hR, fun j u hu => ?_⟩, hk⟩
   have hj : j < 4 := by
    obtain ⟨hj, _⟩ := Array.getElem?_eq_some_iff.1 hu
    exact hj
   rw [hat j hj, ← hu, Array.getElem?_toList])
  subst hlen
  refine ⟨S, some a, cap, hcs, ⟨.inr ⟨a, cap, rfl, fun i s hs => (hes i s hs).1⟩, fun s hs => ?_⟩, by omega⟩
  obtain ⟨i, hi'⟩ := List.getElem?_of_mem hs
  exact (hes i s hi').2
end
end Go.Proofs.YtkcjhkfelaplkaaGreatDoor
end
section
namespace Go.Proofs.YtkcjhkfelaplkaaGreatDoor
open Go.RowKit
theorem still_idw {ops : Array Oper} {w : World} {Q : Act → Prop} {a : Act} {o : Oper} {rest : List Oper} {l : List UInt8} {x : Operand} {p : Addr} (ho : o.op = .load 46 x) (hx : a.eval x = .pointer (some p)) (hw : Region.wanted o (yielded ops a.tmps) = true)
  (hc : ∀ j v, (idC l)[j]? = some v → w.cell? (p.add j) = some v) (hl : l.length = 32)
  (h : wpStill Tryz.prog ops w Q rest (a.put o.dst (.agg (idC l).toArray))) : wpStill Tryz.prog ops w Q (o :: rest) a := by
 refine wpStill_step fun K hK => ?_
 rw [if_pos hw]
 unfold Oper.still execOp
 simp only [ho, hx, Instr.loadAt, Instr.sureAddr, Sem.run_bind, Sem.run_pure, Result.andThen_ok, run_loadVar_at w p 46 (idC l) _ hc Tryz.underlying46 rfl (idsize hl)]
 exact ⟨rfl, hK _ h⟩
theorem DSt.outd {w : World} {ao : Option Addr} {n cap : Nat} {L : List St.It} (h : DSt w (.slice ao n cap) L) (i : Nat) (x : St.It) (hi : L[i]? = some x) :
  ∃ o, Rm.dec x.text.data.toList = some o ∧ shaI x.text = x.id := by
 obtain ⟨a, c, e, hd, hc⟩ := h.elem i x hi
 obtain ⟨o, cs, _, _, _, _, h1, h2⟩ := hd
 exact ⟨o, h1, h2⟩
theorem put_next {W w : World} {v' : Value} {L : List St.It} {k b : Nat} {x : St.It} {ao : Option Addr} {n cap : Nat} (hd : DSt W (.slice ao n cap) L) (hx : L[k]? = some x) (hp : PSt w b b v' (L.take k)) (hk : S2.KIn w) :
  Calls Tryz.prog 39 #[.pointer (some ⟨b, 0, none⟩), .string x.text] w fun r w' => r = .returned (.tuple #[.agg (idC x.id).toArray, .int .i64 0]) ∧ ∃ v5, PSt w' b b v5 (L.take (k + 1)) ∧ Below b w w' := by
 obtain ⟨o, h1, h2⟩ := hd.outd k x hx
 have hkl := (List.getElem?_eq_some_iff.1 hx).1
 have hfew := hd.few
 have hs : x.text.size ≤ maxLen := by
  obtain ⟨_, _, hl4, _⟩ := Rm.dec_inv h1
  rw [size_list] at hl4
  unfold maxLen; omega
 refine (put_ok w b b v' (L.take k) x.text o hp hk hs h1 (by simp; omega) (Nat.le_of_lt hp.lt)).mono ?_
 rintro r w' ⟨rfl, v5, h3, h4, _⟩
 rw [h2] at h3 ⊢
 exact ⟨rfl, v5, (St.put_up hd.srt hx) ▸ h3, h4.below hp⟩
theorem of_any (w : World) (v : Value) (L : List St.It) (h : DSt w v L) (hk : S2.KIn w) :
  Calls Tryz.prog 9 #[.agg #[v]] w fun r w' => ∃ b v', r = .returned (.pointer (some ⟨b, 0, none⟩)) ∧ w.heap.size ≤ b ∧ PSt w' b b v' L ∧ Below w.heap.size w w' := by
 have hfew := h.few
 obtain ⟨ao, cap, rfl⟩ := h.form
 have HH := Lib.hid h
 have HX1 := Lib.hid (heap_alloc_new w (.cells #[.slice ao L.length cap] 28))
 have hz1 : (w.alloc (.cells #[.slice ao L.length cap] 28)).heap.size = w.heap.size + 1 := by simp
 have HZ1 := Lib.hid hz1
 have HB2 := Lib.hid (below2 w (.cells #[.slice ao L.length cap] 28) (.cells #[.slice none 0 0] 142))
 have HX2 := Lib.hid (((below_new (w.alloc (.cells #[.slice ao L.length cap] 28)) (.cells #[.slice none 0 0] 142)).block w.heap.size (by simp)).trans HX1.out)
 have hp := new_st (w.alloc (.cells #[.slice ao L.length cap] 28))
 rw [hz1] at hp
 have HP2 := Lib.hid hp
 have hkp := hk.pos
 have HK2 := Lib.hid (hk.step HB2.out)
 have HNEW := Lib.hid (new_any (w.alloc (.cells #[.slice ao L.length cap] 28)))
 clear h hp hz1 hk
 go_enter Tryz.func9, Tryz.ntmps9
 go_wp2_with fail
 refine HNEW.out.mono ?_
 rintro r w2 ⟨rfl, rfl⟩
 rw [HZ1.out]
 generalize (w.alloc (.cells #[.slice ao L.length cap] 28)).alloc (.cells #[.slice none 0 0] 142) = w2 at *
 clear HNEW HX1 HZ1
 go_wp2_with fail
 go_loopw [4] (fun i wr => ∃ (k : Nat) (v' : Value), k ≤ L.length ∧ i = .int .i64 k ∧ Hid (PSt wr (w.heap.size + 1) (w.heap.size + 1) v' (L.take k)) ∧ Hid (S2.KIn wr) ∧ Hid (Below w.heap.size w wr) ∧ Hid (wr.heap[w.heap.size]? = some (.cells #[.slice ao L.length cap] 28))) (fun i _ => L.length - (intOf i).toNat)
 case atStart => exact ⟨0, _, by omega, rfl, HP2.out, HK2.out, HB2.out, HX2.out⟩
 case round =>
  obtain ⟨k, v', hk, rfl, HP, HKI, HB, HX⟩ := hrel
  have c0 : wr.cell? ⟨w.heap.size, 0, none⟩ = some (.slice ao L.length cap) := by rw [cell_of_row _ _ 0 _ _ _ HX.out]; rfl
  by_cases hlt : k < L.length
  ·
   have hlt' : (k : Int) < (L.length : Int) := by omega
   have hk0 : (0 : Int) ≤ (k : Int) := by omega
   obtain ⟨x, hx⟩ : ∃ x, L[k]? = some x := ⟨L[k], List.getElem?_eq_getElem hlt⟩
   have hxl := HH.out.len x (List.mem_of_getElem? hx)
   have HPUT := Lib.hid (put_next HH.out hx HP.out HKI.out)
   have HOUT := Lib.hid (fun W (hb : Below w.heap.size w W) => (HH.out.below hb).out k x hx)
   obtain ⟨a, rfl, _, ct⟩ := HOUT.out wr HB.out
   have hA1 := add_block a (k * 105)
   have hA2 : (a.add (k * 105)).off = a.off + k * 105 := by unfold Addr.add; split <;> simp_all
   have HXL := Lib.hid hxl
   have hq : ∀ W, (Op.equalIn 10000 46 (.agg (idC x.id).toArray) (.agg (idC x.id).toArray)).run Tryz.prog W = .ok true W := fun W => by
    have := eq_id x.id x.id hxl hxl W; simpa using this
   clear hx hxl
   go_wp2_with fail
   refine HPUT.out.mono ?_
   rintro r w5 ⟨rfl, v5, hp5, hb5⟩
   have HB5 := Lib.hid (HB.out.trans (hb5.mono (by omega)))
   have HB6 := Lib.hid (HB5.out.trans ((below_new w5 (.cells (idC x.id).toArray 46)).mono HB5.out.size))
   have HX6 := Lib.hid (((below_new w5 (.cells (idC x.id).toArray 46)).block w.heap.size (by have := hp5.lt; omega)).trans ((hb5.block w.heap.size (by omega)).trans HX.out))
   have HP6 := Lib.hid (hp5.below (below_new w5 (.cells (idC x.id).toArray 46)))
   have HK6 := Lib.hid ((HKI.out.below hb5 (by omega)).step (below_new w5 (.cells (idC x.id).toArray 46)))
   obtain ⟨a', he', hc, _⟩ := HOUT.out _ HB6.out
   cases he'
   have HC2 := Lib.hid (show ∀ j u, (idC x.id)[j]? = some u → (w5.alloc (.cells (idC x.id).toArray 46)).drew.cell? ((a.add (k * 105)).add j) = some u from hc)
   have HC1 := Lib.hid (show ∀ j u, (idC x.id)[j]? = some u → (w5.alloc (.cells (idC x.id).toArray 46)).drew.cell? ((⟨w5.heap.size, 0, none⟩ : Addr).add j) = some u from row_news (heap_alloc_new w5 (.cells (idC x.id).toArray 46)))
   have c6 : (w5.alloc (.cells (idC x.id).toArray 46)).drew.cell? ⟨w.heap.size, 0, none⟩ = some (.slice (some a) L.length cap) := by
    show (w5.alloc (.cells (idC x.id).toArray 46)).cell? ⟨w.heap.size, 0, none⟩ = _
    rw [cell_of_row _ _ 0 _ _ _ HX6.out]; rfl
   clear hp5 hb5 HPUT HOUT hc HP HKI HB HX c0 ct
   go_wp2_with ((with_reducible refine st_id2 (l := x.id) (x := .tmp 5) (y := .tmp 26) (g := w5.heap.size) ?_ ?_ ?_ ?_ ?_ ?_ HXL.out ?_); rfl; rfl; rfl; rfl; rfl; rfl)
   refine rgn_still (by kernel_rfl) (by kernel_rfl) ?_
   repeat still_step
   (with_reducible apply still_idw (hc := HC1.out) (hl := HXL.out))
   rfl
   rfl
   kernel_rfl
   repeat still_step
   (with_reducible apply still_idw (hc := HC2.out) (hl := HXL.out))
   rfl
   rfl
   kernel_rfl
   repeat still_step
   refine wpStill_nil ?_
   go_wp2_with fail
   go_roundw
   case rel => exact ⟨k + 1, _, by omega, by go_num, HP6.out.below (Below.refl _ _).drew, HK6.out, HB6.out.drew, HX6.out⟩
   case measure => simp [intOf]; omega
  ·
   have : k = L.length := by omega
   subst this
   have HP' := Lib.hid (show PSt wr (w.heap.size + 1) (w.heap.size + 1) v' L from by simpa using HP.out)
   go_wp2_with fail
   go_ret
   exact ⟨_, _, rfl, by omega, HP'.out, HB.out⟩
end Go.Proofs.YtkcjhkfelaplkaaGreatDoor
end
