/-
  PROVED: for every two streams, size and turns the law BandMixed (P8.1 to P8.3) answers true, and its argument reads afterwards as before: of two streams of up to 1500 bytes each, put with any size, or told ErrArg, whose lines are mixed by up to 200 turns, Get answers both streams; with a line of channel 3 behind them ErrRefused; the document's examples hold.
  Conditions: none beyond the row's own (the argument within the form's reach).
-/
import Derived.Test.YtaaemdmeicjnbaaLawM
import Derived.Test.YtaaemdmeicjnbaaOpen
namespace Go.Proofs.Ytaaemdmeicjnbaa
open Go.ChangeShapes Go.WideShapes Go.ChangeAt Go.RowKit Go.Deep
open Go.ChangeMaps (open_string shut_string)
set_option linter.unusedVariables false
set_option linter.unusedSimpArgs false
open Pk (Ln)

theorem kB : Try.prog.cellsOf 4 = 1 := by kernel_rfl
theorem kBs : Try.prog.cellsOf 40 = 1 := by kernel_rfl
theorem kMx : Try.prog.cellsOf 42 = 4 := by kernel_rfl
section
variable {H : Type} {enc : TypeId × Value → H} {w : World} {base : Nat} {spare : Nat → Bool} {held : Bool} {fuel : Nat} {cs : List Value} {x : DataW H × List MemPlace}
theorem open_bools (h : DataW.trod enc Try.prog w base (fun _ => true) held fuel 40 cs = some x) :
    ∃ (L : List Bool) (ao : Option Addr) (ca : Nat), cs = [.slice ao L.length ca] ∧ BoolsAt w (.slice ao L.length ca) L ∧ L.length ≤ maxLen := by
  rcases open_slice Try.underlying40 h with ⟨rfl, _⟩ | ⟨a, len, cap, m, n, D, Pl, hcs, hb, hl, hm, hmm, hx, hi⟩
  · exact ⟨[], none, 0, rfl, ⟨.inl ⟨rfl, rfl⟩⟩, Nat.zero_le _⟩
  · have hm' : m = cap := by simpa using hmm
    rw [kB] at hi
    obtain ⟨L, hlen, hes⟩ := list_of (P := fun i (e : Bool) => w.cell? (a.add i) = some (.bool e)) len (fun i hi' => by
      obtain ⟨cs', hc, ht⟩ := hi i (by omega)
      obtain ⟨e, rfl, _⟩ := DataW.trod_bool Try.underlying4 ht
      obtain ⟨_, hcl, hat⟩ := World.cells?_some hc
      refine ⟨e, ?_⟩
      have := hat 0 (by omega)
      rw [Nat.mul_one, show (a.add i).add 0 = a.add i by simp [Addr.add]] at this
      rw [this]; rfl)
    subst hlen
    exact ⟨L, some a, cap, hcs, ⟨.inr ⟨a, cap, rfl, hes⟩⟩, by omega⟩
theorem open_mix (h : DataW.trod enc Try.prog w base (fun _ => true) held fuel 42 cs = some x) :
    ∃ (A B : ByteArray) (n : Int) (T : List Bool) (to : Option Addr) (tc : Nat), cs = [.string A, .string B, .int .i64 n, .slice to T.length tc] ∧ BoolsAt w (.slice to T.length tc) T ∧ A.size ≤ maxLen ∧ B.size ≤ maxLen ∧ T.length ≤ maxLen := by
  obtain ⟨xs, n, _, _, hlen, hl, hg⟩ := DataW.trod_struct Try.underlying42 h
  have hl4 : xs.length = 4 := hl
  rw [kMx] at hlen
  have g0 : DataW.trod enc Try.prog w base (fun _ => true) held n 9 ((cs.drop 0).take (Try.prog.cellsOf 9)) = xs[0]? := hg 0 _ rfl
  have g1 : DataW.trod enc Try.prog w base (fun _ => true) held n 9 ((cs.drop 1).take (Try.prog.cellsOf 9)) = xs[1]? := hg 1 _ rfl
  have g2 : DataW.trod enc Try.prog w base (fun _ => true) held n 3 ((cs.drop 2).take (Try.prog.cellsOf 3)) = xs[2]? := hg 2 _ rfl
  have g3 : DataW.trod enc Try.prog w base (fun _ => true) held n 40 ((cs.drop 3).take (Try.prog.cellsOf 40)) = xs[3]? := hg 3 _ rfl
  rw [kS, List.getElem?_eq_getElem (by omega)] at g0 g1
  rw [kI, List.getElem?_eq_getElem (by omega)] at g2
  rw [kBs, List.getElem?_eq_getElem (by omega)] at g3
  obtain ⟨A, e0, _, hA⟩ := DataW.trod_string Try.underlying9 g0
  obtain ⟨B, e1, _, hB⟩ := DataW.trod_string Try.underlying9 g1
  obtain ⟨k, e2, _, _⟩ := DataW.trod_int Try.underlying3 g2
  obtain ⟨T, to, tc, e3, hT, hTl⟩ := open_bools g3
  match cs, hlen, e0, e1, e2, e3 with
  | [c0, c1, c2, c3], _, e0, e1, e2, e3 =>
    simp at e0 e1 e2 e3
    exact ⟨A, B, k, T, to, tc, by rw [e0, e1, e2, e3], hT, hA, hB, hTl⟩
end

set_option maxRecDepth 100000 in
theorem mixed_lifted (os : Os) (started : os.Started) (H : Type) (enc : TypeId × Value → H) :
    ReturnsInHanded {} Try.checked os 5 .any (Rows.bandMixedSpec.pre6 enc Try.prog Try.f5 Rows.bandMixedRow.domain false) (Rows.bandMixedSpec.post enc Try.prog Try.f5 false true false false) := by
  refine returnsInHanded_of_change_sized (C := Try.checked) Try.own started (by kernel_rfl) Try.func5
    (ChangeSpec.witness6 (enc := enc) (C := Try.checked) false ⟨#[], #[.agg #[.string .empty, .string .empty, .int .i64 0, .slice none 0 0]], []⟩ 8 (by kernel_rfl) (by kernel_rfl) (by kernel_rfl) (by kernel_rfl)) ?_
  intro W base args ds gs before hval0 hW hcnd hsz0 _
  have hval : ∀ (j : Nat) t v, Try.f5.params[j]? = some t → args[j]? = some v → Value.okWide Try.prog W .any base t v := hval0
  have hW' := hW
  obtain ⟨p, q, hA0, hV, rfl, hfz, hnd⟩ := hW
  have hA : DataW.TrodAll enc Try.prog W 0 (fun _ => true) true Try.f5.params.toList args.toList ds p := hA0
  rw [Try.params5] at hA hval
  obtain ⟨v0, d0, rfl, rfl, h0⟩ := trodAll_one hA
  obtain ⟨rfl, rfl⟩ := trodVars_none hV
  have h0k := h0
  obtain ⟨fuel, hf⟩ := h0
  clear hA0 hval0
  simp only [List.append_nil, List.nil_append] at hW'
  have hlt : ∀ x ∈ p, x.block < W.heap.size := fun x hx => by simpa using hW'.lt x hx
  have hargs : ∀ (W' : World), Below W.heap.size W W' → DataW.Trod enc Try.prog W' 0 (fun b => decide (b < W.heap.size)) true 42 v0 d0 p :=
    fun W' hn => Below.trod laidOut (by kernel_rfl) (of_decide_eq_true (by kernel_rfl)) h0k hn hlt
  obtain ⟨cs, rfl, hcs⟩ := okWide_struct Try.underlying42 (hval 0 42 v0 rfl rfl)
  obtain ⟨A, B, n, T, to, tc, hc, hT, hAs, hBs, hTl⟩ := open_mix hf
  have hc' : cs = #[.string A, .string B, .int .i64 n, .slice to T.length tc] := by
    apply Array.ext'
    simpa [Value.cells] using hc
  subst hc'
  refine (bandmixed_any A B n to tc T W hAs hBs hTl hT).mono fun e W' ⟨he, hb⟩ => ?_
  subst he
  exact ⟨_, rfl, _, _, _, [], _, [], hW', trodAll_cons_mk (shut_bool Try.underlying4 _) trodAll_mk0,
    trodAll_cons_mk (hargs W' hb) trodAll_mk0,
    rfl, hb.frame _, fun h => by cases h⟩

theorem mixed_holds : Rows.BandMixedSaid :=
  OpenClaim.holds_of_wide 5 Try.f5 rfl rfl rfl rfl rfl rfl rfl ⟨rfl, rfl, rfl, rfl, rfl⟩ rfl rfl rfl rfl rfl (by kernel_rfl) Try.func5 (by kernel_rfl)
    (of_decide_eq_true (by kernel_rfl)) (by unfold Func.isWrapper; first | (rw [if_pos (by decide +kernel)]; kernel_rfl) | (rw [if_neg (by decide +kernel)]; exact ⟨rfl, rfl⟩))
    (fun os started H enc _ => mixed_lifted os started H enc)

end Go.Proofs.Ytaaemdmeicjnbaa
