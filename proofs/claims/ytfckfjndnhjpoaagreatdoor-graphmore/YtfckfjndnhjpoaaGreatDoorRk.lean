/-
  LAYER 12, the law's examples hold.
-/
import Derived.Test.YtfckfjndnhjpoaaGreatDoorRj
import Derived.Test.YtfckfjndnhjpoaaGreatDoorQp
import Derived.Test.YtfckfjndnhjpoaaGreatDoorQa
set_option linter.unusedVariables false
set_option linter.unusedSimpArgs false
set_option maxHeartbeats 8000000
set_option maxRecDepth 100000
section
namespace Go.Proofs.YtfckfjndnhjpoaaGreatDoor
open Go.RowKit
def Kn.L2 : List St.It := St.put (St.put [] Kn.it) Kn.iy
def Kn.L3 : List St.It := St.put (St.put (St.put [] Kn.it) Kn.io) Kn.iy
theorem Kn.dec2 : ∀ r ∈ Kn.L2, (Rm.dec r.text.data.toList).isSome = true := by decide +kernel
theorem Kn.dec3 : ∀ r ∈ Kn.L3, (Rm.dec r.text.data.toList).isSome = true := by decide +kernel
theorem Kn.dec_of {L : List St.It} (h : ∀ r ∈ L, (Rm.dec r.text.data.toList).isSome = true) : Gr.Dec L := fun r hr => Option.isSome_iff_exists.1 (h r hr)
theorem Kn.w1 : Wk.nw (Gr.cm Kn.L3) [] (Gr.eds Kn.L3 [Kn.iy.id]) = [Kn.iy.id] := by decide +kernel
theorem Kn.w2 : Gr.pr Kn.L3 [] Kn.iy.id = [Kn.io.id] := by decide +kernel
theorem Kn.w3 : Gr.pr Kn.L3 [] Kn.io.id = [] := by decide +kernel
theorem Kn.ne : Kn.io.id ≠ Kn.iy.id := fun e => by have := Kn.ids.2.2.1; rw [e] at this; simp at this
theorem Kn.walk : Wk (Gr.ah Kn.L3) (Gr.pr Kn.L3 []) [Kn.iy.id] [] [Kn.iy.id, Kn.io.id] := by
 refine .more (x := Kn.iy.id) (S' := [Kn.iy.id, Kn.io.id]) (by simp) (by simp) (fun y hy _ hne => absurd (List.mem_singleton.1 hy) hne) (fun y => by rw [Kn.w2]; simp) ?_
 refine .more (x := Kn.io.id) (S' := [Kn.iy.id, Kn.io.id]) (by simp) (by simpa using Kn.ne) (fun y hy hyO hne => ?_) (fun y => by rw [Kn.w3]; simp) ?_
 ·
  simp only [List.mem_cons, List.not_mem_nil, or_false] at hy
  rcases hy with e | e
  · exact absurd (by rw [e]; simp) hyO
  · exact absurd e hne
 · exact .done fun x hx => by simpa using hx
theorem knows_any (w : World) (hk : S2.KIn w) : Calls Tryz.prog 9 #[] w fun r w' => r = .returned (.bool true) ∧ Below w.heap.size w w' := by
 have hsz := Kn.sizes
 have hde := Kn.decs
 have hall : ∀ s, s = encS Kn.tree ∨ s = encS Kn.old ∨ s = encS Kn.young → s.size ≤ 5000 ∧ Rm.dec s.data.toList ≠ none := fun s hs => by
  rcases hs with rfl | rfl | rfl
  · exact ⟨by omega, fun e => by rw [e] at hde; simp at hde⟩
  · exact ⟨by omega, fun e => by rw [e] at hde; simp at hde⟩
  · exact ⟨by omega, fun e => by rw [e] at hde; simp at hde⟩
 refine knows_gen (encS Kn.tree) (encS Kn.old) (encS Kn.young) (shaI (encS Kn.tree)) (shaI (encS Kn.old)) (shaI (encS Kn.young)) _ _ (fun g => (obC { noOb with kind := 3, tree := shaI (encS Kn.tree), pars := [shaI (encS Kn.old)], time := 5 } nilV (.slice (some ⟨g, 0, none⟩) 1 1)).toArray)
  (fun W v => ∃ B k, R.DSt B k W v Kn.L2) (fun W v => ∃ B k, R.DSt B k W v Kn.L3) (fun W b => ∃ base v, PSt W base b v Kn.L2) (fun W b => ∃ base v, PSt W base b v Kn.L3) w hk (shaI_len _) (shaI_len _) (shaI_len _)
  (Lib.hid Kn.built_t) (Lib.hid Kn.enc_t) (Lib.hid fun W => refsum_of _ W (by omega)) (Lib.hid (Kn.built_o _ (shaI_len _) 9)) (Lib.hid Kn.enc_o) (Lib.hid fun W => refsum_of _ W (by omega))
  (Lib.hid fun g => Kn.built_y _ (shaI_len _) _ _ _ _ rfl [shaI (encS Kn.old)] 5) (Lib.hid fun W g h => Kn.enc_y W g h) (Lib.hid fun W => refsum_of _ W (by omega))
  (Lib.hid fun W g hg hc => ?_) (Lib.hid fun W g hg hc => ?_) (Lib.hid fun W v ⟨B, k, h⟩ hk => ?_) (Lib.hid fun W v ⟨B, k, h⟩ hk => ?_) (Lib.hid fun W W' b ⟨base, v, h⟩ hb => ⟨base, v, h.below hb⟩) (Lib.hid fun W W' b ⟨base, v, h⟩ hb => ⟨base, v, h.below hb⟩)
  (Lib.hid fun W b fv ⟨base, v, h⟩ hf => ?_) (Lib.hid fun W b fv ⟨base, v, h⟩ hf => ?_)
 ·
  refine (all_nil W g [encS Kn.tree, encS Kn.young] hg hc (fun s hs => hall s (by simp only [List.mem_cons, List.not_mem_nil, or_false] at hs; rcases hs with h | h; exact .inl h; exact .inr (.inr h))) (by simp)).mono ?_
  rintro r w' ⟨v', rfl, hd, hb⟩
  exact ⟨v', rfl, ⟨_, _, hd⟩, hb⟩
 ·
  refine (all_nil W g [encS Kn.tree, encS Kn.old, encS Kn.young] hg hc (fun s hs => hall s (by simpa using hs)) (by simp)).mono ?_
  rintro r w' ⟨v', rfl, hd, hb⟩
  exact ⟨v', rfl, ⟨_, _, hd⟩, hb⟩
 ·
  refine (of_any W v Kn.L2 h.old hk).mono ?_
  rintro r w' ⟨b, v', rfl, _, hp, hb⟩
  exact ⟨b, rfl, ⟨_, _, hp⟩, hb⟩
 ·
  refine (of_any W v Kn.L3 h.old hk).mono ?_
  rintro r w' ⟨b, v', rfl, _, hp, hb⟩
  exact ⟨b, rfl, ⟨_, _, hp⟩, hb⟩
 ·
  refine (reach_any W base b v fv (.slice none 0 0) Kn.L2 [Kn.iy.id] [] h (Kn.dec_of Kn.dec2) hf (fun i hi => by rw [List.mem_singleton.1 hi]; exact shaI_len _) (by simp) (RowsAt.nil _ _) (fun i hi => by cases hi) (by simp)).mono ?_
  rintro r w' ⟨tv, mv, T, M, rfl, h1, h2, h3, h4, h5, _, _, _, _, hb⟩
  obtain ⟨rfl, rfl⟩ := Kn.there h3 h4 h5
  exact ⟨tv, mv, rfl, h1, h2, hb⟩
 ·
  refine (walk_any W base b v fv (.slice none 0 0) Kn.L3 [Kn.iy.id] [] h (Kn.dec_of Kn.dec3) hf (fun i hi => by rw [List.mem_singleton.1 hi]; exact shaI_len _) (by simp) (RowsAt.nil _ _) (fun i hi => by cases hi) (by simp)).mono ?_
  rintro r w' ⟨rv, R, rfl, h1, _, _, hw, hb⟩
  rw [Kn.w1] at hw
  obtain rfl := Wk.same (Gr.ah_asy _) hw Kn.walk
  exact ⟨rv, rfl, h1, hb⟩
theorem knows_kn : KnT := fun W hk => knows_any W hk
end Go.Proofs.YtfckfjndnhjpoaaGreatDoor
end
section
namespace Go.Proofs.YtfckfjndnhjpoaaGreatDoor
open Go.ChangeShapes Go.WideShapes Go.ChangeAt Go.RowKit Go.Deep
theorem opKsl : Tryz.prog.cellsOf 22 = 1 := by kernel_rfl
theorem opKh : Tryz.prog.cellsOf 25 = 4 := by kernel_rfl
theorem four_of {a b c d : Value} : ∀ {cs : List Value}, cs.length = 4 → (cs.drop 0).take 1 = [a] → (cs.drop 1).take 1 = [b] → (cs.drop 2).take 1 = [c] → (cs.drop 3).take 1 = [d] → cs = [a, b, c, d]
 | [c0, c1, c2, c3], _, e0, e1, e2, e3 => by
   simp at e0 e1 e2 e3
   rw [e0, e1, e2, e3]
section
variable {H : Type} {enc : TypeId × Value → H} {w : World} {base : Nat} {held : Bool} {fuel : Nat} {cs : List Value} {x : DataW H × List MemPlace}
theorem open_hist (h : DataW.trod enc Tryz.prog w base (fun _ => true) held fuel 25 cs = some x) :
  ∃ (S : List Sd) (O F C : List UInt8) (so oo fo co : Option Addr) (sc oc fc cc : Nat), cs = [.slice so S.length sc, .slice oo O.length oc, .slice fo F.length fc, .slice co C.length cc] ∧ SdsAt w (.slice so S.length sc) S ∧ S.length ≤ maxLen ∧ ByAt w (.slice oo O.length oc) O ∧ ByAt w (.slice fo F.length fc) F ∧ ByAt w (.slice co C.length cc) C := by
 obtain ⟨xs, n, _, _, hlen, hl, hg⟩ := DataW.trod_struct Tryz.underlying25 h
 have hl4 : xs.length = 4 := hl
 rw [opKh] at hlen
 have g0 : DataW.trod enc Tryz.prog w base (fun _ => true) held n 22 ((cs.drop 0).take (Tryz.prog.cellsOf 22)) = xs[0]? := hg 0 _ rfl
 have g1 : DataW.trod enc Tryz.prog w base (fun _ => true) held n 23 ((cs.drop 1).take (Tryz.prog.cellsOf 23)) = xs[1]? := hg 1 _ rfl
 have g2 : DataW.trod enc Tryz.prog w base (fun _ => true) held n 23 ((cs.drop 2).take (Tryz.prog.cellsOf 23)) = xs[2]? := hg 2 _ rfl
 have g3 : DataW.trod enc Tryz.prog w base (fun _ => true) held n 23 ((cs.drop 3).take (Tryz.prog.cellsOf 23)) = xs[3]? := hg 3 _ rfl
 rw [opKsl, List.getElem?_eq_getElem (by omega)] at g0
 rw [opKb, List.getElem?_eq_getElem (by omega)] at g1 g2 g3
 obtain ⟨S, so, sc, e0, hS, hSl⟩ := open_sds g0
 obtain ⟨O, oo, oc, e1, hO, _⟩ := open_by g1
 obtain ⟨F, fo, fc, e2, hF, _⟩ := open_by g2
 obtain ⟨C, co, cc, e3, hC, _⟩ := open_by g3
 exact ⟨S, O, F, C, so, oo, fo, co, sc, oc, fc, cc, four_of hlen e0 e1 e2 e3, hS, hSl, hO, hF, hC⟩
end
end Go.Proofs.YtfckfjndnhjpoaaGreatDoor
end
