/-
  LAYER 12: where the program's Walk stands in memory; each.
-/
import Derived.Test.YtkcjhkfelaplkaaGreatDoorRc
import Derived.Test.YtkcjhkfelaplkaaGreatDoorQu
import Derived.Test.YtkcjhkfelaplkaaGreatDoorQy
import Derived.Test.YtkcjhkfelaplkaaGreatDoorRb
import Derived.BigQuiet
import Derived.Deep.QuietTactic
import Derived.Test.YtkcjhkfelaplkaaGreatDoorQp
import Derived.Test.YtkcjhkfelaplkaaGreatDoorQa
set_option linter.unusedVariables false
set_option linter.unusedSimpArgs false
set_option maxHeartbeats 8000000
set_option maxRecDepth 100000
section
namespace Go.Proofs.YtkcjhkfelaplkaaGreatDoor
open Go.RowKit
def Gr.cm (L : List St.It) (id : List UInt8) : Bool := match Gr.ob L id with
 | none => false
 | some o => decide (o.kind = 3)
def Gr.prs (L : List St.It) (id : List UInt8) : List (List UInt8) := match Gr.ob L id with
 | none => []
 | some o => o.pars
def Wk.nw (cm : List UInt8 → Bool) (S : List (List UInt8)) : List (List UInt8) → List (List UInt8)
 | [] => []
 | x :: r => if cm x = true ∧ x ∉ S then x :: Wk.nw cm (S ++ [x]) r else Wk.nw cm S r
theorem Wk.nw_snoc (cm : List UInt8 → Bool) (x : List UInt8) : ∀ (I S : List (List UInt8)), Wk.nw cm S (I ++ [x]) = Wk.nw cm S I ++ Wk.nw cm (S ++ Wk.nw cm S I) [x]
 | [], S => by simp [Wk.nw]
 | y :: r, S => by
   rw [List.cons_append, Wk.nw, Wk.nw]
   by_cases h : cm y = true ∧ y ∉ S
   ·
    rw [if_pos h, if_pos h, Wk.nw_snoc cm x r (S ++ [y])]
    simp
   · rw [if_neg h, if_neg h, Wk.nw_snoc cm x r S]
theorem Wk.nw_mem (cm : List UInt8 → Bool) (y : List UInt8) : ∀ (I S : List (List UInt8)), y ∈ S ++ Wk.nw cm S I ↔ y ∈ S ∨ (y ∈ I ∧ cm y = true)
 | [], S => by simp [Wk.nw]
 | x :: r, S => by
   rw [Wk.nw]
   by_cases h : cm x = true ∧ x ∉ S
   ·
    rw [if_pos h]
    have := Wk.nw_mem cm y r (S ++ [x])
    rw [List.append_assoc] at this
    rw [show S ++ x :: Wk.nw cm (S ++ [x]) r = S ++ ([x] ++ Wk.nw cm (S ++ [x]) r) by simp, this, List.mem_append, List.mem_singleton, List.mem_cons]
    constructor
    ·
     rintro ((k | k) | ⟨k, l⟩)
     · exact .inl k
     · exact .inr ⟨.inl k, k ▸ h.1⟩
     · exact .inr ⟨.inr k, l⟩
    ·
     rintro (k | ⟨k | k, l⟩)
     · exact .inl (.inl k)
     · exact .inl (.inr k)
     · exact .inr ⟨k, l⟩
   ·
    rw [if_neg h, Wk.nw_mem cm y r S, List.mem_cons]
    constructor
    ·
     rintro (k | ⟨k, l⟩)
     · exact .inl k
     · exact .inr ⟨.inr k, l⟩
    ·
     rintro (k | ⟨k | k, l⟩)
     · exact .inl k
     ·
      subst k
      by_cases hs : y ∈ S
      · exact .inl hs
      · exact absurd ⟨l, hs⟩ h
     · exact .inr ⟨k, l⟩
theorem Wk.nw_nodup (cm : List UInt8 → Bool) : ∀ (I S : List (List UInt8)), S.Nodup → (S ++ Wk.nw cm S I).Nodup
 | [], S, h => by simpa [Wk.nw] using h
 | x :: r, S, h => by
   rw [Wk.nw]
   by_cases k : cm x = true ∧ x ∉ S
   ·
    rw [if_pos k]
    have := Wk.nw_nodup cm r (S ++ [x]) (Gr.nodup_snoc h k.2)
    simpa using this
   · rw [if_neg k]; exact Wk.nw_nodup cm r S h
theorem Ids.at_ {w w' : World} {b n : Nat} {S : List (List UInt8)} (h : Ids w b n S) (hk : w'.heap[b]? = w.heap[b]?) : Ids w' b n S := by
 obtain ⟨D, ⟨es, clock, h1, h2⟩, h3⟩ := h.out
 exact ⟨D, ⟨es, clock, hk.trans h1, h2⟩, h3⟩
structure Fr (W W' : World) (b mb : Nat) (v : Value) : Prop where
 os : W'.os = W.os
 tape : W'.tape = W.tape
 output : W'.output = W.output
 size : W.heap.size ≤ W'.heap.size
 block : ∀ g, g < W.heap.size → g ≠ b → g ≠ mb → v.ownBlock ≠ some g → W'.heap[g]? = W.heap[g]?
theorem Fr.of_ch {W W' : World} {b : Nat} {v : Value} (h : Ch W W' b v) (mb : Nat) : Fr W W' b mb v := ⟨h.os, h.tape, h.output, h.size, fun g a c _ d => h.block g a c d⟩
theorem Fr.of_below {W W' : World} (h : Below W.heap.size W W') (b mb : Nat) (v : Value) : Fr W W' b mb v := ⟨h.os, h.tape, h.output, h.size, fun g a _ _ _ => h.block g a⟩
theorem Fr.of_grown {W W' : World} {mb : Nat} (h : W.grownBy W' (some mb)) (b : Nat) (v : Value) : Fr W W' b mb v := ⟨h.os, h.tape, h.output, h.size, fun g a _ c _ => h.block g a (fun e => by injection e with e; exact c e)⟩
theorem Fr.trans {W W1 W2 : World} {b mb : Nat} {v v1 : Value} (h : Fr W W1 b mb v) (h2 : Fr W1 W2 b mb v1) (hn : Nx W v v1) : Fr W W2 b mb v :=
 ⟨h2.os.trans h.os, h2.tape.trans h.tape, h2.output.trans h.output, Nat.le_trans h.size h2.size, fun g hg hb hm hv => (h2.block g (Nat.lt_of_lt_of_le hg h.size) hb hm (fun e => by
  rcases hn with f | f
  · exact hv (by rw [← f]; exact e)
  · have := f g e; omega)).trans (h.block g hg hb hm hv)⟩
end Go.Proofs.YtkcjhkfelaplkaaGreatDoor
end
section
namespace Go.Proofs.YtkcjhkfelaplkaaGreatDoor
open Go.RowKit
def ObQ (L : List St.It) (id : List UInt8) (K : Nat) (W : World) (cs : Array Value) (is : Bool) : Prop :=
 (is = false ∧ Gr.ob L id = none) ∨ (is = true ∧ ∃ o ev pv, Gr.ob L id = some o ∧ ObF cs o ev pv ∧ IdsAt W pv o.pars ∧ (∀ p ∈ o.pars, p.length = 32) ∧ o.time < 4294967296 ∧ ∀ (a : Addr) n c, pv = .slice (some a) n c → K ≤ a.block)
theorem ObQ.le {L : List St.It} {id : List UInt8} {K K' : Nat} {W : World} {cs : Array Value} {is : Bool} (h : ObQ L id K W cs is) (hk : K' ≤ K) : ObQ L id K' W cs is := by
 rcases h with h | ⟨h0, o, ev, pv, h1, h2, h3, h4, h5, h6⟩
 · exact .inl h
 · exact .inr ⟨h0, o, ev, pv, h1, h2, h3, h4, h5, fun a n c e => Nat.le_trans hk (h6 a n c e)⟩
theorem ObQ.moved {L : List St.It} {id : List UInt8} {K : Nat} {W W' : World} {cs : Array Value} {is : Bool} (h : ObQ L id K W cs is) (hb : ∀ g, K ≤ g → g < W.heap.size → W'.heap[g]? = W.heap[g]?) : ObQ L id K W' cs is := by
 rcases h with h | ⟨h0, o, ev, pv, h1, h2, h3, h4, h5, h6⟩
 · exact .inl h
 ·
  refine .inr ⟨h0, o, ev, pv, h1, h2, ?_, h4, h5, h6⟩
  obtain ⟨ao, cap, rfl⟩ := RowsAt.form h3
  exact RowsAt.moved h3 (by decide) (fun _ a ha hlt => hb _ (h6 a _ _ (by rw [ha])) hlt)
theorem object_any (w : World) (base b : Nat) (v : Value) (L : List St.It) (id : List UInt8) (h : PSt w base b v L) (hd : Gr.Dec L) (hil : id.length = 32) :
  Calls Tryz.prog 78 #[.pointer (some ⟨b, 0, none⟩), .agg (idC id).toArray] w fun r w' => ∃ cs is, r = .returned (.tuple #[.agg cs, .bool is]) ∧ cs.size = 72 ∧ cs.all (·.oneCell') = true ∧ Below w.heap.size w w' ∧ ObQ L id w.heap.size w' cs is := by
 cases hh : St.has L id with
 | false =>
   refine (object_none w base b v L id h hil hh).mono ?_
   rintro r w' ⟨cs, rfl, h1, h2, h3⟩
   exact ⟨cs, false, rfl, h1, h2, h3, .inl ⟨rfl, Gr.ob_none hh⟩⟩
 | true =>
   obtain ⟨k, r, o, h1, rfl, h3, h4⟩ := Gr.has_ob hd h.srt hh
   refine (object_at w base b v L k r o h h1 h3).mono ?_
   rintro e w' ⟨cs, ao, bo, ca, cb, rfl, hO, hfar, hb⟩
   exact ⟨cs, true, rfl, hO.F.size, hO.F.one, hb, .inr ⟨rfl, o, _, _, h4, hO.F, hO.P, hO.pid, hO.ti, fun a n c e => by injection e with e; exact hfar a (.inr e)⟩⟩
end Go.Proofs.YtkcjhkfelaplkaaGreatDoor
end
section
namespace Go.Proofs.YtkcjhkfelaplkaaGreatDoor
open Go.RowKit
theorem idsize2 {l : List UInt8} (h : l.length = 32) : (Tryz.prog.info? 46).map (·.size) = some (idC l).toArray.size := by rw [List.size_toArray]; exact idsize h
theorem aend_any {E : Option (List UInt8)} {w w' : World} {r : Ending} (h : Gr.AEnd E w r w') : ∃ x is, r = .returned (.tuple #[.agg (idC x).toArray, .bool is]) ∧ x.length = 32 ∧ Below w.heap.size w w' ∧ (if is = true then E = some x else E = none) := by
 obtain ⟨h1, h2, h3⟩ := h
 refine ⟨_, _, h1, h2, h3, ?_⟩
 cases E <;> simp
def Gr.eds (L : List St.It) : List (List UInt8) → List (List UInt8)
 | [] => []
 | x :: r => match Gr.endF L L.length x with
   | none => Gr.eds L r
   | some y => y :: Gr.eds L r
theorem Gr.eds_app (L : List St.It) : ∀ (A B : List (List UInt8)), Gr.eds L (A ++ B) = Gr.eds L A ++ Gr.eds L B
 | [], B => rfl
 | x :: r, B => by
   rw [List.cons_append, Gr.eds, Gr.eds]
   cases Gr.endF L L.length x with
   | none => exact Gr.eds_app L r B
   | some y => simp only [Gr.eds_app L r B, List.cons_append]
end Go.Proofs.YtkcjhkfelaplkaaGreatDoor
end
section
namespace Go.Proofs.YtkcjhkfelaplkaaGreatDoor
open Go.RowKit
theorem Wk.nw_app (cm : List UInt8 → Bool) : ∀ (A B S : List (List UInt8)), Wk.nw cm S (A ++ B) = Wk.nw cm S A ++ Wk.nw cm (S ++ Wk.nw cm S A) B
 | [], B, S => by simp [Wk.nw]
 | y :: r, B, S => by
   rw [List.cons_append, Wk.nw, Wk.nw]
   by_cases h : cm y = true ∧ y ∉ S
   ·
    rw [if_pos h, if_pos h, Wk.nw_app cm r B (S ++ [y])]
    simp
   · rw [if_neg h, if_neg h, Wk.nw_app cm r B S]
theorem Wk.nw_cm (cm : List UInt8 → Bool) : ∀ (A S : List (List UInt8)), ∀ x ∈ Wk.nw cm S A, cm x = true
 | [], S, x, h => by simp [Wk.nw] at h
 | y :: r, S, x, h => by
   rw [Wk.nw] at h
   by_cases k : cm y = true ∧ y ∉ S
   ·
    rw [if_pos k] at h
    rcases List.mem_cons.1 h with e | e
    · rw [e]; exact k.1
    · exact Wk.nw_cm cm r _ x e
   ·
    rw [if_neg k] at h
    exact Wk.nw_cm cm r _ x h
theorem Gr.cm_in {L : List St.It} {x : List UInt8} (h : Gr.cm L x = true) : x ∈ idsOf L := by
 unfold Gr.cm at h
 cases ho : Gr.ob L x with
 | none => rw [ho] at h; cases h
 | some o => exact Gr.ob_has ho
theorem Gr.cm_few {L : List St.It} {S : List (List UInt8)} (hn : S.Nodup) (hc : ∀ x ∈ S, Gr.cm L x = true) : S.length ≤ L.length := by
 have := Gr.nodup_len (A := S) (B := idsOf L) hn (fun x hx => Gr.cm_in (hc x hx))
 simpa [idsOf] using this
theorem Fr.below {W W' : World} {b mb B : Nat} {v : Value} (h : Fr W W' b mb v) (hB : B ≤ W.heap.size) (hb : B ≤ b) (hm : B ≤ mb) (hv : ∀ g, v.ownBlock = some g → B ≤ g) : Below B W W' :=
 ⟨h.os, h.tape, h.output, h.size, fun g hg => h.block g (by omega) (by omega) (by omega) (fun e => by have := hv g e; omega)⟩
end Go.Proofs.YtkcjhkfelaplkaaGreatDoor
end
section
namespace Go.Proofs.YtkcjhkfelaplkaaGreatDoor
open Go.RowKit
theorem Gr.prs_few (L : List St.It) (x : List UInt8) : (Gr.prs L x).length ≤ 8 := by
 unfold Gr.prs
 cases h : Gr.ob L x with
 | none => simp
 | some o =>
   unfold Gr.ob at h
   split at h
   ·
    obtain ⟨r, _, h2⟩ := Option.bind_eq_some_iff.1 h
    exact (Gr.dec_few h2).2
   · cases h
end Go.Proofs.YtkcjhkfelaplkaaGreatDoor
end
section
namespace Go.Proofs.YtkcjhkfelaplkaaGreatDoor
open Go.ChangeShapes Go.WideShapes Go.ChangeAt Go.RowKit Go.Deep
theorem opKsl : Tryz.prog.cellsOf 22 = 1 := by kernel_rfl
theorem opKh : Tryz.prog.cellsOf 25 = 4 := by kernel_rfl
theorem four_of {a b c d : Value} : ∀ {cs : List Value}, cs.length = 4 → (cs.drop 0).take 1 = [a] → (cs.drop 1).take 1 = [b] → (cs.drop 2).take 1 = [c] → (cs.drop 3).take 1 = [d] → cs = [a, b, c, d]
 | [c0, c1, c2, c3], _, e0, e1, e2, e3 => by
   simp at e0 e1 e2 e3
   rw [e0, e1, e2, e3]
section
variable {H : Type} {enc : TypeId × Value → H} {w : World} {base : Nat} {held : Bool} {fuel : Nat} {cs : List Value} {x : DataW H × List MemPlace}
theorem open_hist (h : DataW.trod enc Tryz.prog w base (fun _ => true) held fuel 25 cs = some x) :
  ∃ (S : List Sd) (O F C : List UInt8) (so oo fo co : Option Addr) (sc oc fc cc : Nat), cs = [.slice so S.length sc, .slice oo O.length oc, .slice fo F.length fc, .slice co C.length cc] ∧ SdsAt w (.slice so S.length sc) S ∧ S.length ≤ maxLen ∧ ByAt w (.slice oo O.length oc) O ∧ ByAt w (.slice fo F.length fc) F ∧ ByAt w (.slice co C.length cc) C := by
 obtain ⟨xs, n, _, _, hlen, hl, hg⟩ := DataW.trod_struct Tryz.underlying25 h
 have hl4 : xs.length = 4 := hl
 rw [opKh] at hlen
 have g0 : DataW.trod enc Tryz.prog w base (fun _ => true) held n 22 ((cs.drop 0).take (Tryz.prog.cellsOf 22)) = xs[0]? := hg 0 _ rfl
 have g1 : DataW.trod enc Tryz.prog w base (fun _ => true) held n 23 ((cs.drop 1).take (Tryz.prog.cellsOf 23)) = xs[1]? := hg 1 _ rfl
 have g2 : DataW.trod enc Tryz.prog w base (fun _ => true) held n 23 ((cs.drop 2).take (Tryz.prog.cellsOf 23)) = xs[2]? := hg 2 _ rfl
 have g3 : DataW.trod enc Tryz.prog w base (fun _ => true) held n 23 ((cs.drop 3).take (Tryz.prog.cellsOf 23)) = xs[3]? := hg 3 _ rfl
 rw [opKsl, List.getElem?_eq_getElem (by omega)] at g0
 rw [opKb, List.getElem?_eq_getElem (by omega)] at g1 g2 g3
 obtain ⟨S, so, sc, e0, hS, hSl⟩ := open_sds g0
 obtain ⟨O, oo, oc, e1, hO, _⟩ := open_by g1
 obtain ⟨F, fo, fc, e2, hF, _⟩ := open_by g2
 obtain ⟨C, co, cc, e3, hC, _⟩ := open_by g3
 exact ⟨S, O, F, C, so, oo, fo, co, sc, oc, fc, cc, four_of hlen e0 e1 e2 e3, hS, hSl, hO, hF, hC⟩
end
end Go.Proofs.YtkcjhkfelaplkaaGreatDoor
end
