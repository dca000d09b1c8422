/-
  WALKS OF LAYER 5: shorten, Pack.
-/
import Derived.Test.YtkifjobmomfofaaWalksI
namespace Go.Proofs.Ytkifjobmomfofaa
open Go.RowKit Go.WideMaps Go.Maps
set_option linter.unusedVariables false
set_option linter.unusedSimpArgs false

theorem below_grown {w w' : World} (h : Below w.heap.size w w') : w.grownBy w' none := ⟨h.os, h.tape, h.output, h.size, fun k hk _ => h.block k hk⟩
theorem Mp.below {w w' : World} {b n : Nat} {M : List UInt8 → Option Nat} (h : Mp w b n M) (hb : Below w.heap.size w w') : Mp w' b n M := h.kept (below_grown hb) (by simp)
theorem own_kept {w w' : World} {base e n b : Nat} {v : Value} {xs : List Value} (h : w.ownsRow base e 1 v n xs) (hg : w.grownBy w' (some b)) (hb : b < base) : w'.ownsRow base e 1 v n xs := by
  refine h.kept hg ?_
  cases hv : v.ownBlock with
  | none => exact .inl rfl
  | some k => exact .inr (fun e => by have := (h.lt k hv).1; cases e; omega)
theorem Mp.appended {w w' : World} {base e n b m : Nat} {v : Value} {xs : List Value} {M : List UInt8 → Option Nat} (h : Mp w b m M) (ho : w.ownsRow base e 1 v n xs) (hg : w.grownBy w' v.ownBlock) (hb : b < base) : Mp w' b m M := by
  refine h.kept hg (fun e => ?_)
  have := (ho.lt b e.symm).1
  omega

theorem encs_append (A B : List Lz.Ins) : Lz.encs (A ++ B) = Lz.encs A ++ Lz.encs B := by simp [Lz.encs]

/-- Where shorten stands in memory. -/
structure ShW (w : World) (l : List UInt8) (p wr : Nat) (L : List Lz.Ins) (o : Value) (w1 : World) : Prop where
  kn : ∃ M, Kn l p M ∧ Mp w1 w.heap.size p M
  own : w1.ownsRow (w.heap.size + 1) 5 1 o (Lz.encs L).length (cellsOf (Lz.encs L))
  below : Below w.heap.size w w1
  big : w.heap.size + 1 ≤ w1.heap.size

/-- The end of shorten. -/
def Shd (l : List UInt8) (w : World) (r : Ending) (w' : World) : Prop :=
  ∃ L : List Lz.Ins, r = .returned (.string ⟨(Lz.encs L).toArray⟩) ∧ Lz.oks [] L ∧ Lz.outs [] L = l ∧ (Eqs l → (Lz.encs L).length ≤ 5) ∧ Below w.heap.size w w'

set_option maxHeartbeats 2000000 in
set_option maxRecDepth 100000 in
theorem shorten_any (s : ByteArray) (w : World) (hs : s.size ≤ 16777216) :
    Calls Try.prog 15 #[.string s] w (Shd s.data.toList w) := by
  obtain ⟨i0, hi, hz0, hz1, hz2⟩ := info_parts Try.infoByte
  have hmm := @run_makeMap Try.prog
  have hlen := size_list s
  have HLEN := Lib.hid hlen
  clear hlen
  go_enter Try.func15, Try.ntmps15
  go_wp2_with fail
  clear hmm
  go_loopw [4, 5, 6] (fun o a5 a6 w1 => ∃ (p wr : Nat) (L : List Lz.Ins), a5 = .int .i64 wr ∧ a6 = .int .i64 p ∧ p ≤ s.size ∧ wr ≤ p ∧ Sh s.data.toList p wr L ∧ ShW w s.data.toList p wr L o w1) (fun _ _ a6 _ => s.size - (intOf a6).toNat)
  case atStart => exact ⟨0, 0, [], rfl, rfl, Nat.zero_le _, Nat.le_refl _, Sh.zero _, ⟨⟨_, Kn.zero _, Mp.made w⟩, World.ownsRow_nil _ _ _ _, (Below.refl _ _).alloc (Nat.le_refl _) _, by simp⟩⟩
  case round =>
    obtain ⟨p, q, L, rfl, rfl, hp, hwp, hS, hW⟩ := hrel
    obtain ⟨⟨M, hK, hM⟩, hown, hb, hbig⟩ := hW
    have hol := hS.len
    by_cases hlt : p < s.size
    · have HI : Hid (∀ x, M ((s.data.toList.drop p).take 4) = some x → x < p ∧ (s.data.toList.drop x).take 4 = (s.data.toList.drop p).take 4) := fun x hx => hK.old _ x hx
      have HS := Lib.hid hS
      have HK := Lib.hid hK
      clear hS hK
      go_wp2_with fail
      refine (findMatch_any s p w.heap.size p M _ hs hp hM _ rfl HI.out).mono ?_
      rintro e w2 ⟨c, f, rfl, ⟨n1, rfl⟩, hF⟩
      have HF := Lib.hid hF
      clear hF
      by_cases hc : c = 0
      · subst hc
        have HS2 := Lib.hid (HS.out.next (by rw [HLEN.out]; exact hlt) HK.out HF.out)
        go_wp2_with fail
        refine (keepPlace_any s p w.heap.size p M _ hs hp (by omega) (hM.drewN n1)).mono ?_
        rintro e w3 ⟨rfl, hM3, hg3⟩
        have hW3 : ShW w s.data.toList (p + 1) q L _ w3 := ⟨⟨_, HK.out.step, hM3⟩, own_kept (show (wr.drewN n1).ownsRow _ _ _ _ _ _ from hown) hg3 (by omega), (below_drewN hb n1).grown hg3 hb.size (fun k hk => by cases hk; exact Nat.le_refl _), Nat.le_trans hbig hg3.size⟩
        go_wp2_with fail
        exact ⟨⟨p + 1, q, L, rfl, by go_num, by omega, by omega, HS2.out, hW3⟩, by simp [intOf]; omega⟩
      · have hc0 : ((c : Int) == 0) = false := beq_eq_false_iff_ne.2 (by omega)
        have HS2 := Lib.hid (HS.out.found (by rw [HLEN.out]; exact hlt) (by rw [HLEN.out]; omega) HK.out hc HF.out)
        have hpc : p + c ≤ s.size := by have := HS2.out.pl; rw [HLEN.out] at this; exact this
        have hff : f ≤ 65535 := by rcases HF.out with ⟨h0, _⟩ | ⟨_, _, _, h, _⟩; exact absurd h0 hc; exact h
        have hlt1 : (s.extract q p).size ≤ 16777216 := by simp; omega
        have hle1 : (s.extract q p).data.toList = (s.data.toList.drop q).take (p - q) := extract_list s q p
        have HE1 := Lib.hid hle1
        have HE2 := Lib.hid (litE_encs s.data.toList q p hwp (by rw [HLEN.out]; exact hp))
        have hn2 : (Lz.encs (L ++ litI s.data.toList q p)).length ≤ 31 * (p + c) := by
          have := HS2.out.len; rw [Lz.encs_snoc, List.length_append] at this; omega
        clear hle1
        go_wp2_with fail
        refine (literalStep_any (s.extract q p) _ hlt1).mono ?_
        rintro e w3 ⟨b3, rfl, hb3, hbl3⟩
        rw [HE1.out, HE2.out] at hb3
        have hM3 := (hM.drewN n1).below hbl3
        have hown3 := own_below (show (wr.drewN n1).ownsRow _ _ _ _ _ _ from hown) hbl3
        have hB3 : Below w.heap.size w w3 := (below_drewN hb n1).trans (hbl3.mono hb.size)
        have hs3 : w.heap.size + 1 ≤ w3.heap.size := Nat.le_trans hbig hbl3.size
        have hz3 := size_list b3
        rw [hb3] at hz3
        have hn3 : (Lz.encs L).length + b3.size ≤ 31 * (p + c) := by rw [← hz3, ← List.length_append, ← encs_append]; exact hn2
        have hn3' : (Lz.encs L).length + b3.size = (Lz.encs (L ++ litI s.data.toList q p)).length := by rw [← hz3, ← List.length_append, ← encs_append]
        have HN3 := Lib.hid hn3'
        have HB3 := Lib.hid hb3
        clear hb3 hz3 hn3' hM hown hb hbig hbl3
        go_wp2_with (at_builtin; refine Lib.wpList_append_own_string _ rfl _ _ 36 9 rfl (w.heap.size + 1) 5 i0 Try.underlying36 Try.underlying9 hi hz0 hz1 hz2 _ _ _ rfl hown3 b3 rfl ?c1 ?c2 ?c3 ?_)
        case c1 => unfold maxLen; omega
        case c2 => omega
        case c3 => exact hs3
        intro v4 w4 hown4 hg4 _
        rw [strCells_list, HB3.out, cellsOf_append, ← encs_append, HN3.out] at hown4
        have hM4 := hM3.appended hown3 hg4 (by omega)
        have hB4 : Below w.heap.size w w4 := hB3.grown hg4 (by omega) (fun k hk => by have := (hown3.lt k hk).1; omega)
        have hs4 := Nat.le_trans hs3 hg4.size
        clear hM3 hown3 hB3 hs3 hg4
        generalize hA : L ++ litI s.data.toList q p = A at *
        clear hA
        go_wp2_with fail
        refine (matchStep_any c f _ (by omega) (by omega)).mono ?_
        rintro e w5 ⟨b5, rfl, hb5, hbl5⟩
        have hM5 := hM4.below hbl5
        have hown5 := own_below hown4 hbl5
        have hB5 : Below w.heap.size w w5 := hB4.trans (hbl5.mono hB4.size)
        have hs5 : w.heap.size + 1 ≤ w5.heap.size := Nat.le_trans hs4 hbl5.size
        have hz5 := size_list b5
        rw [hb5] at hz5
        have hml := enc_mat_len c f (by omega) (by omega)
        have hn5 : b5.size ≤ 20 := by omega
        have hn5' : (Lz.encs A).length + b5.size = (Lz.encs (A ++ [.mat c f])).length := by rw [Lz.encs_snoc, List.length_append, hz5]
        have HN5 := Lib.hid hn5'
        have HB5 := Lib.hid hb5
        clear hb5 hz5 hn5' hM4 hown4 hB4 hs4 hbl5 hml
        go_wp2_with (at_builtin; refine Lib.wpList_append_own_string _ rfl _ _ 36 9 rfl (w.heap.size + 1) 5 i0 Try.underlying36 Try.underlying9 hi hz0 hz1 hz2 _ _ _ rfl hown5 b5 rfl ?d1 ?d2 ?d3 ?_)
        case d1 => unfold maxLen; omega
        case d2 => omega
        case d3 => exact hs5
        intro v6 w6 hown6 hg6 _
        rw [strCells_list, HB5.out, cellsOf_append, ← Lz.encs_snoc, HN5.out] at hown6
        have hM6 := hM5.appended hown5 hg6 (by omega)
        have hB6 : Below w.heap.size w w6 := hB5.grown hg6 (by omega) (fun k hk => by have := (hown5.lt k hk).1; omega)
        have hs6 := Nat.le_trans hs5 hg6.size
        clear hM5 hown5 hB5 hs5 hg6
        generalize hA2 : A ++ [Lz.Ins.mat c f] = A2 at *
        clear hA2
        go_wp2_with fail
        go_loopw [6, 42] (fun a6 a42 w7 => ∃ j : Nat, j ≤ c ∧ a6 = .int .i64 ((p : Int) + (j : Int)) ∧ a42 = .int .i64 j ∧ ShW w s.data.toList (p + j) q A2 v6 w7) (fun _ a42 _ => c - (intOf a42).toNat)
        case atStart => exact ⟨0, Nat.zero_le _, by simp, rfl, ⟨⟨M, HK.out, hM6⟩, hown6, hB6, hs6⟩⟩
        case round =>
          obtain ⟨j, hj, rfl, rfl, hW7⟩ := hrel
          clear hM6 hown6 hB6 hs6
          by_cases hjc : j < c
          · obtain ⟨⟨M7, hK7, hM7⟩, hown7, hB7, hs7⟩ := hW7
            have HKK := Lib.hid hK7
            clear hK7
            have hkp := keepPlace_any s (p + j) w.heap.size (p + j) M7 wr hs (by omega) (by omega) hM7
            rw [show ((p + j : Nat) : Int) = (p : Int) + (j : Int) by omega] at hkp
            have HKP := Lib.hid hkp
            clear hkp
            go_wp2_with fail
            refine HKP.out.mono ?_
            rintro e w8 ⟨rfl, hM8, hg8⟩
            have hW8 : ShW w s.data.toList (p + (j + 1)) q A2 v6 w8 := ⟨⟨_, HKK.out.step, hM8⟩, own_kept hown7 hg8 (by omega), hB7.grown hg8 hB7.size (fun k hk => by cases hk; exact Nat.le_refl _), Nat.le_trans hs7 hg8.size⟩
            go_wp2_with fail
            exact ⟨⟨j + 1, by omega, by go_num, by go_num, hW8⟩, by simp [intOf]; omega⟩
          · obtain rfl : j = c := by omega
            have hW9 : ShW w s.data.toList (p + j) (p + j) A2 v6 wr := ⟨hW7.kn, hW7.own, hW7.below, hW7.big⟩
            go_wp2_with fail
            exact ⟨⟨p + j, p + j, A2, by go_num, by go_num, by omega, Nat.le_refl _, HS2.out, hW9⟩, by simp [intOf]; omega⟩
    · obtain rfl : p = s.size := by omega
      have hSd := hS
      rw [← HLEN.out] at hSd
      obtain ⟨d1, d2, d3, d4⟩ := hSd.done (by rw [HLEN.out]; omega)
      rw [HLEN.out] at d1 d2 d3 d4
      have HD := Lib.hid (And.intro d1 (And.intro d2 d3))
      have HE4 := Lib.hid d4
      have hlt1 : (s.extract q s.size).size ≤ 16777216 := by simp; omega
      have HE1 := Lib.hid (extract_list s q s.size)
      have HE2 := Lib.hid (litE_encs s.data.toList q s.size hwp (by rw [HLEN.out]; exact Nat.le_refl _))
      clear d1 d2 d3 d4 hSd hS hK
      go_wp2_with fail
      refine (literalStep_any (s.extract q s.size) _ hlt1).mono ?_
      rintro e w3 ⟨b3, rfl, hb3, hbl3⟩
      rw [HE1.out, HE2.out] at hb3
      have hown3 := own_below hown hbl3
      have hB3 : Below w.heap.size w w3 := hb.trans (hbl3.mono hb.size)
      have hs3 : w.heap.size + 1 ≤ w3.heap.size := Nat.le_trans hbig hbl3.size
      have hz3 := size_list b3
      rw [hb3] at hz3
      have hn3 : b3.size ≤ 10 + s.size := by
        rw [← hz3]
        unfold litI
        split
        · simp [Lz.encs]
        · have := enc_lit_len ((s.data.toList.drop q).take (s.size - q)) (by rw [List.length_take]; omega)
          rw [List.length_take, List.length_drop] at this
          simp only [Lz.encs, List.flatMap_cons, List.flatMap_nil, List.append_nil]; omega
      have hn3' : (Lz.encs L).length + b3.size = (Lz.encs (L ++ litI s.data.toList q s.size)).length := by rw [← hz3, ← List.length_append, ← encs_append]
      have HN3 := Lib.hid hn3'
      have HB3 := Lib.hid hb3
      clear hb3 hz3 hn3' hM hown hb hbig hbl3
      go_wp2_with (at_builtin; refine Lib.wpList_append_own_string _ rfl _ _ 36 9 rfl (w.heap.size + 1) 5 i0 Try.underlying36 Try.underlying9 hi hz0 hz1 hz2 _ _ _ rfl hown3 b3 rfl ?f1 ?f2 ?f3 ?_)
      case f1 => unfold maxLen; omega
      case f2 => omega
      case f3 => exact hs3
      intro v4 w4 hown4 hg4 _
      rw [strCells_list, HB3.out, cellsOf_append, ← encs_append, HN3.out] at hown4
      have hB4 : Below w.heap.size w w4 := hB3.grown hg4 (by omega) (fun k hk => by have := (hown3.lt k hk).1; omega)
      have hcv := ret_bytes hown4
      clear hown3 hB3 hs3 hg4 hown4
      go_wp2_with fail
      go_ret
      exact ⟨_, rfl, HD.out.1, HD.out.2.1, HD.out.2.2, hB4⟩

end Go.Proofs.Ytkifjobmomfofaa
