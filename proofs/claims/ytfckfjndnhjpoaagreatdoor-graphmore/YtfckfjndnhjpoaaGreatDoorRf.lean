/-
  LAYER 12: where the program's Walk stands in memory; each.
-/
import Derived.Test.YtfckfjndnhjpoaaGreatDoorRe
import Derived.Test.YtfckfjndnhjpoaaGreatDoorQu
import Derived.Test.YtfckfjndnhjpoaaGreatDoorQy
import Derived.Test.YtfckfjndnhjpoaaGreatDoorRc
import Derived.Test.YtfckfjndnhjpoaaGreatDoorQa
set_option linter.unusedVariables false
set_option linter.unusedSimpArgs false
set_option maxHeartbeats 8000000
set_option maxRecDepth 100000
namespace Go.Proofs.YtfckfjndnhjpoaaGreatDoor
open Go.RowKit
def Gr.cm (L : List St.It) (id : List UInt8) : Bool := match Gr.ob L id with
 | none => false
 | some o => decide (o.kind = 3)
def Gr.prs (L : List St.It) (id : List UInt8) : List (List UInt8) := match Gr.ob L id with
 | none => []
 | some o => o.pars
def Gr.tm (L : List St.It) (id : List UInt8) : Nat := match Gr.ob L id with
 | none => 0
 | some o => o.time
def Wk.nw (cm : List UInt8 → Bool) (S : List (List UInt8)) : List (List UInt8) → List (List UInt8)
 | [] => []
 | x :: r => if cm x = true ∧ x ∉ S then x :: Wk.nw cm (S ++ [x]) r else Wk.nw cm S r
theorem Wk.nw_snoc (cm : List UInt8 → Bool) (x : List UInt8) : ∀ (I S : List (List UInt8)), Wk.nw cm S (I ++ [x]) = Wk.nw cm S I ++ Wk.nw cm (S ++ Wk.nw cm S I) [x]
 | [], S => by simp [Wk.nw]
 | y :: r, S => by
   rw [List.cons_append, Wk.nw, Wk.nw]
   by_cases h : cm y = true ∧ y ∉ S
   ·
    rw [if_pos h, if_pos h, Wk.nw_snoc cm x r (S ++ [y])]
    simp
   · rw [if_neg h, if_neg h, Wk.nw_snoc cm x r S]
theorem Wk.nw_mem (cm : List UInt8 → Bool) (y : List UInt8) : ∀ (I S : List (List UInt8)), y ∈ S ++ Wk.nw cm S I ↔ y ∈ S ∨ (y ∈ I ∧ cm y = true)
 | [], S => by simp [Wk.nw]
 | x :: r, S => by
   rw [Wk.nw]
   by_cases h : cm x = true ∧ x ∉ S
   ·
    rw [if_pos h]
    have := Wk.nw_mem cm y r (S ++ [x])
    rw [List.append_assoc] at this
    rw [show S ++ x :: Wk.nw cm (S ++ [x]) r = S ++ ([x] ++ Wk.nw cm (S ++ [x]) r) by simp, this, List.mem_append, List.mem_singleton, List.mem_cons]
    constructor
    ·
     rintro ((k | k) | ⟨k, l⟩)
     · exact .inl k
     · exact .inr ⟨.inl k, k ▸ h.1⟩
     · exact .inr ⟨.inr k, l⟩
    ·
     rintro (k | ⟨k | k, l⟩)
     · exact .inl (.inl k)
     · exact .inl (.inr k)
     · exact .inr ⟨k, l⟩
   ·
    rw [if_neg h, Wk.nw_mem cm y r S, List.mem_cons]
    constructor
    ·
     rintro (k | ⟨k, l⟩)
     · exact .inl k
     · exact .inr ⟨.inr k, l⟩
    ·
     rintro (k | ⟨k | k, l⟩)
     · exact .inl k
     ·
      subst k
      by_cases hs : y ∈ S
      · exact .inl hs
      · exact absurd ⟨l, hs⟩ h
     · exact .inr ⟨k, l⟩
theorem Wk.nw_nodup (cm : List UInt8 → Bool) : ∀ (I S : List (List UInt8)), S.Nodup → (S ++ Wk.nw cm S I).Nodup
 | [], S, h => by simpa [Wk.nw] using h
 | x :: r, S, h => by
   rw [Wk.nw]
   by_cases k : cm x = true ∧ x ∉ S
   ·
    rw [if_pos k]
    have := Wk.nw_nodup cm r (S ++ [x]) (Gr.nodup_snoc h k.2)
    simpa using this
   · rw [if_neg k]; exact Wk.nw_nodup cm r S h
theorem Ids.at_ {w w' : World} {b n : Nat} {S : List (List UInt8)} (h : Ids w b n S) (hk : w'.heap[b]? = w.heap[b]?) : Ids w' b n S := by
 obtain ⟨D, ⟨es, clock, h1, h2⟩, h3⟩ := h.out
 exact ⟨D, ⟨es, clock, hk.trans h1, h2⟩, h3⟩
structure POk (W : World) (K : Nat) (v pv : Value) (P : List (List UInt8)) : Prop where
 at_ : IdsAt W pv P
 len : ∀ p ∈ P, p.length = 32
 far : ∀ (a : Addr) n cap, pv = .slice (some a) n cap → K ≤ a.block ∧ (P ≠ [] → v.ownBlock ≠ some a.block)
theorem POk.move {W W' : World} {K : Nat} {v v' pv : Value} {P : List (List UInt8)} (h : POk W K v pv P) (hb : ∀ g, K ≤ g → g < W.heap.size → v.ownBlock ≠ some g → W'.heap[g]? = W.heap[g]?) (hn : Nx W v v') : POk W' K v' pv P := by
 obtain ⟨ao, cap, rfl⟩ := RowsAt.form h.at_
 refine ⟨RowsAt.moved h.at_ (by decide) (fun hC a ha hlt => ?_), h.len, fun a n c he => ?_⟩
 ·
  subst ha
  have hf := h.far a _ _ rfl
  exact hb _ hf.1 hlt (hf.2 (fun e => hC (by rw [e]; rfl)))
 ·
  have hf := h.far a n c he
  refine ⟨hf.1, fun hP => ?_⟩
  rcases hn with e | e
  · rw [e]; exact hf.2 hP
  ·
   intro hk
   have h1 := e _ hk
   simp only [Value.slice.injEq] at he
   obtain ⟨rfl, _, _⟩ := he
   have h2 := RowsAt.blk h.at_ (by decide) (by simpa using hP)
   omega
structure Fr (W W' : World) (b mb : Nat) (v : Value) : Prop where
 os : W'.os = W.os
 tape : W'.tape = W.tape
 output : W'.output = W.output
 size : W.heap.size ≤ W'.heap.size
 block : ∀ g, g < W.heap.size → g ≠ b → g ≠ mb → v.ownBlock ≠ some g → W'.heap[g]? = W.heap[g]?
theorem Fr.of_ch {W W' : World} {b : Nat} {v : Value} (h : Ch W W' b v) (mb : Nat) : Fr W W' b mb v := ⟨h.os, h.tape, h.output, h.size, fun g a c _ d => h.block g a c d⟩
theorem Fr.of_below {W W' : World} (h : Below W.heap.size W W') (b mb : Nat) (v : Value) : Fr W W' b mb v := ⟨h.os, h.tape, h.output, h.size, fun g a _ _ _ => h.block g a⟩
theorem Fr.of_grown {W W' : World} {mb : Nat} (h : W.grownBy W' (some mb)) (b : Nat) (v : Value) : Fr W W' b mb v := ⟨h.os, h.tape, h.output, h.size, fun g a _ c _ => h.block g a (fun e => by injection e with e; exact c e)⟩
theorem Fr.trans {W W1 W2 : World} {b mb : Nat} {v v1 : Value} (h : Fr W W1 b mb v) (h2 : Fr W1 W2 b mb v1) (hn : Nx W v v1) : Fr W W2 b mb v :=
 ⟨h2.os.trans h.os, h2.tape.trans h.tape, h2.output.trans h.output, Nat.le_trans h.size h2.size, fun g hg hb hm hv => (h2.block g (Nat.lt_of_lt_of_le hg h.size) hb hm (fun e => by
  rcases hn with f | f
  · exact hv (by rw [← f]; exact e)
  · have := f g e; omega)).trans (h.block g hg hb hm hv)⟩
structure Wr (w W : World) (K b mb n : Nat) (sp v : Value) (L : List St.It) (C : List Cd) (S : List (List UInt8)) : Prop where
 wb : WB W K b sp (.map (some mb)) v C
 hp : Hp.Is Cd.lt (cdF C) C.length
 s : Ids W mb n S
 ok : ∀ c ∈ C, c.time = Gr.tm L c.id ∧ Gr.cm L c.id = true ∧ POk W K v c.par (Gr.prs L c.id)
 bel : Below w.heap.size w W
 mK : mb < K
 bm : b ≠ mb
 b0 : w.heap.size ≤ b
 m0 : w.heap.size ≤ mb
 KW : K ≤ W.heap.size
theorem Wr.below {w W W' : World} {K b mb n : Nat} {sp v : Value} {L : List St.It} {C : List Cd} {S : List (List UInt8)} (h : Wr w W K b mb n sp v L C S) (hb : Below W.heap.size W W') : Wr w W' K b mb n sp v L C S :=
 ⟨h.wb.below hb, h.hp, h.s.below hb, fun c hc => ⟨(h.ok c hc).1, (h.ok c hc).2.1, (h.ok c hc).2.2.move (fun g _ hg _ => hb.block g hg) (Nx.refl _ _)⟩, h.bel.trans (hb.mono h.bel.size), h.mK, h.bm, h.b0, h.m0, Nat.le_trans h.KW hb.size⟩
theorem Wr.seen {w W W' : World} {K b mb n n' : Nat} {sp v : Value} {L : List St.It} {C : List Cd} {S S' : List (List UInt8)} (h : Wr w W K b mb n sp v L C S) (hs : Ids W' mb n' S') (hg : W.grownBy W' (some mb)) : Wr w W' K b mb n' sp v L C S' := by
 have hbl := h.wb.bl
 have h1 := h.mK
 have h2 := h.m0
 refine ⟨⟨(hg.block b hbl (fun e => by injection e with e; exact h.bm e)).trans h.wb.box, ⟨own_kept h.wb.own.own (fun q hq => hg.block q (h.wb.own.own.lt q hq).2 (fun e => by injection e with e; have := (h.wb.own.own.lt q hq).1; omega))⟩, h.wb.lt⟩, h.hp, hs, fun c hc => ⟨(h.ok c hc).1, (h.ok c hc).2.1, (h.ok c hc).2.2.move (fun g hk hg2 _ => hg.block g hg2 (fun e => by injection e with e; omega)) (Nx.refl _ _)⟩, h.bel.grown hg h.bel.size (fun k hk => by injection hk with e; omega), h.mK, h.bm, h.b0, h.m0, Nat.le_trans h.KW hg.size⟩
theorem Wr.heap {w W W' : World} {K b mb n : Nat} {sp v v' : Value} {L : List St.It} {C C' : List Cd} {S : List (List UInt8)} (h : Wr w W K b mb n sp v L C S) (hw : WB W' K b sp (.map (some mb)) v' C') (hh : Hp.Is Cd.lt (cdF C') C'.length) (hc : Ch W W' b v) (hn : Nx W v v')
  (ho : ∀ c ∈ C', c ∈ C ∨ (c.time = Gr.tm L c.id ∧ Gr.cm L c.id = true ∧ POk W K v c.par (Gr.prs L c.id))) : Wr w W' K b mb n sp v' L C' S := by
 have hbK := h.wb.lt
 have h1 := h.mK
 have h2 := h.m0
 have h3 := h.b0
 have hm : ∀ {pv : Value} {P : List (List UInt8)}, POk W K v pv P → POk W' K v' pv P := fun hp => hp.move (fun g hk hg hv => hc.block g hg (by omega) hv) hn
 have hmb := h.s.lt
 have hmb2 : W'.heap[mb]? = W.heap[mb]? := hc.block mb hmb (fun e => h.bm e.symm) (fun e => by have := (h.wb.own.own.lt mb e).1; omega)
 refine ⟨hw, hh, ?_, fun c hc' => ?_, h.bel.trans (hc.below h.bel.size (by omega) (fun g hg => by have := (h.wb.own.own.lt g hg).1; omega)), h.mK, h.bm, h.b0, h.m0, Nat.le_trans h.KW hc.size⟩
 · exact h.s.at_ hmb2
 ·
  rcases ho c hc' with k | ⟨k1, k2, k3⟩
  · exact ⟨(h.ok c k).1, (h.ok c k).2.1, hm (h.ok c k).2.2⟩
  · exact ⟨k1, k2, hm k3⟩
theorem each_any (f : FuncId) (p iv : Value) (I : List (List UInt8)) (R : Nat → World → Prop) (w : World) (hE : ∀ args w, (callFunc f args).run Tryz.prog w = .ok (.enter f args) w) (hl : ∀ i ∈ I, i.length = 32) (hn : I.length ≤ 100000) (hI : ∀ k W, R k W → IdsAt W iv I)
  (hs : ∀ k W x, R k W → I[k]? = some x → Calls Tryz.prog f #[p, .agg (idC x).toArray] (W.alloc (.cells (idC x).toArray 42)) fun r W' => r = .returned (.tuple #[]) ∧ R (k + 1) W') (h0 : R 0 w) :
  Calls Tryz.prog 51 #[iv, .func (.func f) #[p] #[]] w fun r w' => r = .returned (.tuple #[]) ∧ R I.length w' := by
 obtain ⟨ao, cap, rfl⟩ : ∃ ao cap, iv = .slice ao I.length cap := by simpa using RowsAt.form (hI 0 w h0)
 have HL := Lib.hid hl
 have HI := Lib.hid hI
 have HS := Lib.hid hs
 have HE := Lib.hid hE
 have H0 := Lib.hid h0
 clear hl hI hs h0 hE
 go_enter Tryz.func51, Tryz.ntmps51
 go_wp2_with fail
 go_loopw [8] (fun i wr => ∃ k : Nat, k ≤ I.length ∧ i = .int .i64 k ∧ Hid (R k wr)) (fun i _ => I.length - (intOf i).toNat)
 case atStart => exact ⟨0, by omega, rfl, H0⟩
 case round =>
  obtain ⟨k, hk, rfl, HR⟩ := hrel
  by_cases hlt : k < I.length
  ·
   have hlt' : (k : Int) < (I.length : Int) := by omega
   have hk0 : (0 : Int) ≤ (k : Int) := by omega
   obtain ⟨x, hx⟩ : ∃ x, I[k]? = some x := ⟨I[k], List.getElem?_eq_getElem hlt⟩
   have HXL := Lib.hid (HL.out x (List.mem_of_getElem? hx))
   obtain ⟨a, rfl, _, hc⟩ := (HI.out k wr HR.out).elem k (idC x) (by simp [hx])
   have HC := Lib.hid hc
   have HST := Lib.hid (HS.out k wr x HR.out hx)
   have HN := Lib.hid (row_news (heap_alloc_new wr (.cells (idC x).toArray 42)))
   have hE := HE.out #[p, .agg (idC x).toArray] (wr.alloc (.cells (idC x).toArray 42))
   clear hc hx
   go_wp2_with (first
    | ((with_reducible refine ld_id (l := x) (x := .tmp 10) ?_ ?_ ?_ HC.out HXL.out ?_); rfl; rfl; rfl)
    | ((with_reducible apply st_id (hl := HXL.out)); rfl; rfl; rfl; rfl; rfl)
    | ((with_reducible refine ld_id (l := x) (x := .tmp 5) (p := ⟨wr.heap.size, 0, none⟩) ?_ ?_ ?_ HN.out HXL.out ?_); rfl; rfl; rfl))
   with_reducible refine HST.out.mono ?_
   rintro r w2 ⟨rfl, hr2⟩
   have HR2 := Lib.hid hr2
   clear hr2 hE
   go_wp2_with fail
   go_roundw
   case rel => exact ⟨k + 1, by omega, by go_num, HR2.out⟩
   case measure => simp [intOf]; omega
  ·
   have hlt' : ¬ (k : Int) < (I.length : Int) := by omega
   have hke : k = I.length := by omega
   subst hke
   go_wp2_with fail
   refine bodyPost_end (results_none rfl _ _ _) rfl ?_
   exact ⟨rfl, HR.out⟩
end Go.Proofs.YtfckfjndnhjpoaaGreatDoor
