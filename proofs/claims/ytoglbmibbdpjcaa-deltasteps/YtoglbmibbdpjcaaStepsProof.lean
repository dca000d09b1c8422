/-
  PROVED: for every base, every slice of steps and every three ints the law DeltaSteps (P6.1) answers true, and its arguments read afterwards as before: what a base of up to 400 bytes comes to by up to 30 steps, of up to 100 bytes as they stand, with whatever lengths told and limits up to 20000, is what the document's own Apply says, or its error; the document's examples hold.
  Conditions: none beyond the row's own (each argument within the form's reach).
-/
import Derived.Test.YtoglbmibbdpjcaaStepsLaw
import Derived.ProofKit
import Derived.OpenShut
import Derived.SizedLaws
import Derived.Deep.Slices
import Derived.ChangeSame
import Derived.Carry
import Derived.WideKeyArr2
namespace Go.Proofs.Ytoglbmibbdpjcaa
open Go.ChangeShapes Go.WideShapes Go.ChangeAt Go.RowKit Go.Deep
open Go.ChangeMaps (open_string shut_string)
set_option linter.unusedVariables false
set_option linter.unusedSimpArgs false

theorem Try.own : ownKnob Try.prog.godebug = none := by kernel_rfl
theorem laidOut : laidOutB Try.prog = true := by kernel_rfl
theorem kI : Try.prog.cellsOf 3 = 1 := by kernel_rfl
theorem kS : Try.prog.cellsOf 9 = 1 := by kernel_rfl
theorem kSp : Try.prog.cellsOf 37 = 3 := by kernel_rfl

theorem list_of {α : Type} {P : Nat → α → Prop} : ∀ n : Nat, (∀ i, i < n → ∃ e, P i e) → ∃ l : List α, l.length = n ∧ ∀ i e, l[i]? = some e → P i e
  | 0, _ => ⟨[], rfl, fun i e h => by simp at h⟩
  | n + 1, h => by
    obtain ⟨l, hl, hp⟩ := list_of n (fun i hi => h i (by omega))
    obtain ⟨e, he⟩ := h n (by omega)
    refine ⟨l ++ [e], by simp [hl], fun i x hx => ?_⟩
    by_cases hi : i < n
    · rw [List.getElem?_append_left (by omega)] at hx
      exact hp i x hx
    · have hin : i < n + 1 := by
        have := (List.getElem?_eq_some_iff.1 hx).1
        simp [hl] at this; omega
      have : i = n := by omega
      subst this
      rw [List.getElem?_append_right (by omega), hl] at hx
      simp at hx; subst hx; exact he

section
variable {H : Type} {enc : TypeId × Value → H} {w : World} {base : Nat} {spare : Nat → Bool} {held : Bool} {fuel : Nat} {cs : List Value} {x : DataW H × List MemPlace}
theorem open_sp (h : DataW.trod enc Try.prog w base spare held fuel 37 cs = some x) : ∃ e : Sp, cs = [.int .i64 e.pl, .int .i64 e.n, .string e.text] := by
  obtain ⟨xs, n, _, _, hlen, hl, hg⟩ := DataW.trod_struct Try.underlying37 h
  have hl3 : xs.length = 3 := hl
  rw [kSp] at hlen
  have g0 : DataW.trod enc Try.prog w base spare held n 3 ((cs.drop 0).take (Try.prog.cellsOf 3)) = xs[0]? := hg 0 _ rfl
  have g1 : DataW.trod enc Try.prog w base spare held n 3 ((cs.drop 1).take (Try.prog.cellsOf 3)) = xs[1]? := hg 1 _ rfl
  have g2 : DataW.trod enc Try.prog w base spare held n 9 ((cs.drop 2).take (Try.prog.cellsOf 9)) = xs[2]? := hg 2 _ rfl
  rw [kI, List.getElem?_eq_getElem (by omega)] at g0 g1
  rw [kS, List.getElem?_eq_getElem (by omega)] at g2
  obtain ⟨a, e0, _, _⟩ := DataW.trod_int Try.underlying3 g0
  obtain ⟨b, e1, _, _⟩ := DataW.trod_int Try.underlying3 g1
  obtain ⟨s, e2, _, _⟩ := DataW.trod_string Try.underlying9 g2
  match cs, hlen, e0, e1, e2 with
  | [c0, c1, c2], _, e0, e1, e2 =>
    simp at e0 e1 e2
    exact ⟨⟨a, b, s⟩, by rw [e0, e1, e2]⟩
theorem open_steps (h : DataW.trod enc Try.prog w base (fun _ => true) held fuel 34 cs = some x) :
    ∃ (L : List Sp) (ao : Option Addr) (ca : Nat), cs = [.slice ao L.length ca] ∧ StepsAt w (.slice ao L.length ca) L ∧ L.length ≤ maxLen := by
  rcases open_slice Try.underlying34 h with ⟨rfl, _⟩ | ⟨a, len, cap, m, n, D, Pl, hcs, hb, hl, hm, hmm, hx, hi⟩
  · exact ⟨[], none, 0, rfl, ⟨.inl ⟨rfl, rfl⟩⟩, Nat.zero_le _⟩
  · have hm' : m = cap := by simpa using hmm
    rw [kSp] at hi
    obtain ⟨L, hlen, hes⟩ := list_of (P := fun i (e : Sp) => w.cell? (a.add (i * 3)) = some (.int .i64 e.pl) ∧ w.cell? ((a.add (i * 3)).add 1) = some (.int .i64 e.n) ∧ w.cell? ((a.add (i * 3)).add 2) = some (.string e.text)) len (fun i hi' => by
      obtain ⟨cs', hc, ht⟩ := hi i (by omega)
      obtain ⟨e, rfl⟩ := open_sp ht
      obtain ⟨_, hcl, hat⟩ := World.cells?_some hc
      refine ⟨e, ?_, by rw [hat 1 (by omega)]; rfl, by rw [hat 2 (by omega)]; rfl⟩
      have := hat 0 (by omega)
      rw [show (a.add (i * 3)).add 0 = a.add (i * 3) by simp [Addr.add]] at this
      rw [this]; rfl)
    subst hlen
    exact ⟨L, some a, cap, hcs, ⟨.inr ⟨a, cap, rfl, hes⟩⟩, by omega⟩
end

theorem kA : Try.prog.cellsOf 35 = 3 := by kernel_rfl
theorem open_three {H : Type} {enc : TypeId × Value → H} {W : World} {base b0 : Nat} {r : Reach} {sp : Nat → Bool} {held : Bool} {v : Value} {d : DataW H} {ps : List MemPlace}
    (hv : Value.okWide Try.prog W r b0 35 v) (h : DataW.Trod enc Try.prog W base sp held 35 v d ps) : ∃ x y z : Int, v = .agg #[.int .i64 x, .int .i64 y, .int .i64 z] ∧ ps = [] := by
  have hv2 : ∃ xs : Array Value, v = .agg xs ∧ xs.size = 3 := by
    simp only [Value.okWide, Try.underlying35] at hv
    obtain ⟨cs, h1, h2, _⟩ := hv
    exact ⟨cs, h1, by rw [h2, kA]⟩
  obtain ⟨xs, rfl, hn⟩ := hv2
  obtain ⟨fuel, hf⟩ := h
  obtain ⟨ys, m, _, ex, hlen, hl, hel⟩ := DataW.trod_array Try.underlying35 hf
  rw [kI] at hel
  have key : ∀ (i : Nat) (hi : i < 3), ∃ z, xs.toList[i]? = some (.int .i64 z) ∧ ys[i]? = some (.lit (.int .i64 z), []) := by
    intro i hi
    have hli : i < ys.length := by omega
    have k := hel i hi
    rw [List.getElem?_eq_getElem hli] at k
    obtain ⟨z, e1, e2, e3⟩ := DataW.trod_int Try.underlying3 k
    refine ⟨z, ?_, by rw [List.getElem?_eq_getElem hli, e2]⟩
    have e4 := congrArg (·[0]?) e1
    simpa [Value.cells, List.getElem?_take, List.getElem?_drop] using e4
  obtain ⟨x, x0, _⟩ := key 0 (by omega)
  obtain ⟨y, y0, _⟩ := key 1 (by omega)
  obtain ⟨z, z0, _⟩ := key 2 (by omega)
  refine ⟨x, y, z, ?_, ?_⟩
  · congr 1
    apply Array.ext'
    apply List.ext_getElem?
    intro i
    match i with
    | 0 => exact x0
    | 1 => exact y0
    | 2 => exact z0
    | i + 3 => rw [List.getElem?_eq_none (by simp [hn])]; rfl
  · rw [(Prod.mk.inj ex).2]
    rw [List.flatMap_eq_nil_iff]
    intro y hy
    obtain ⟨i, hi, rfl⟩ := List.getElem_of_mem hy
    obtain ⟨z, _, e2⟩ := key i (by omega)
    rw [List.getElem?_eq_getElem hi] at e2
    rw [Option.some.inj e2]

set_option maxRecDepth 100000 in
theorem steps_lifted (os : Os) (started : os.Started) (H : Type) (enc : TypeId × Value → H) :
    ReturnsInHanded {} Try.checked os 4 .any (Rows.deltaStepsSpec.pre6 enc Try.prog Try.f4 Rows.deltaStepsRow.domain false) (Rows.deltaStepsSpec.post enc Try.prog Try.f4 false true false false) := by
  refine returnsInHanded_of_change_sized (C := Try.checked) Try.own started (by kernel_rfl) Try.func4
    (ChangeSpec.witness6 (enc := enc) (C := Try.checked) false ⟨#[], #[.string .empty, .slice none 0 0, .agg #[.int .i64 0, .int .i64 0, .int .i64 0]], []⟩ 8 (by kernel_rfl) (by kernel_rfl) (by kernel_rfl) (by kernel_rfl)) ?_
  intro W base args ds gs before hval0 hW hcnd hsz0 _
  have hval : ∀ (j : Nat) t v, Try.f4.params[j]? = some t → args[j]? = some v → Value.okWide Try.prog W .any base t v := hval0
  have hW' := hW
  obtain ⟨p, q, hA0, hV, rfl, hfz, hnd⟩ := hW
  have hA : DataW.TrodAll enc Try.prog W 0 (fun _ => true) true Try.f4.params.toList args.toList ds p := hA0
  rw [Try.params4] at hA hval
  obtain ⟨v0, v1, v2, d0, d1, d2, p0, p1, p2, rfl, rfl, rfl, h0, h1, h2⟩ := trodAll_three hA
  obtain ⟨rfl, rfl⟩ := trodVars_none hV
  obtain ⟨s, rfl, rfl, rfl, hs⟩ := open_string Try.underlying9 (hval 0 9 v0 rfl rfl) h0
  have h2k := h2
  obtain ⟨x, y, z, rfl, rfl⟩ := open_three (hval 2 35 v2 rfl rfl) h2
  have h1k := h1
  obtain ⟨fuel, hf⟩ := h1
  clear hA0 hval0
  simp only [List.append_nil, List.nil_append] at hW'
  have hlt : ∀ x ∈ p1, x.block < W.heap.size := fun x hx => by simpa using hW'.lt x hx
  have hargs : ∀ (W' : World), Below W.heap.size W W' → DataW.Trod enc Try.prog W' 0 (fun b => decide (b < W.heap.size)) true 34 v1 d1 p1 :=
    fun W' hn => Below.trod laidOut (by kernel_rfl) (of_decide_eq_true (by kernel_rfl)) h1k hn hlt
  have hargs2 : ∀ (W' : World), Below W.heap.size W W' → DataW.Trod enc Try.prog W' 0 (fun b => decide (b < W.heap.size)) true 35 (.agg #[.int .i64 x, .int .i64 y, .int .i64 z]) d2 [] :=
    fun W' hn => Below.trod laidOut (by kernel_rfl) (of_decide_eq_true (by kernel_rfl)) h2k hn (fun _ hx => by cases hx)
  obtain ⟨a0, len, cap, rfl⟩ := okWide_slice Try.underlying34 (hval 1 34 v1 rfl rfl)
  obtain ⟨L, ao, ca, hcs, hL, hlm⟩ := open_steps hf
  simp [Value.cells] at hcs
  obtain ⟨rfl, rfl, rfl⟩ := hcs
  refine (deltasteps_any s _ L x y z W hs hL hlm).mono fun e W' ⟨he, hb⟩ => ?_
  subst he
  exact ⟨_, rfl, _, _, _, [], _, [], hW', trodAll_cons_mk (shut_bool Try.underlying4 _) trodAll_mk0,
    trodAll_cons_mk (shut_string Try.underlying9 hs) (trodAll_cons_mk (hargs W' hb) (trodAll_cons_mk (hargs2 W' hb) trodAll_mk0)),
    rfl, hb.frame _, fun h => by cases h⟩

theorem steps_holds : Rows.DeltaStepsSaid :=
  OpenClaim.holds_of_wide 4 Try.f4 rfl rfl rfl rfl rfl rfl rfl ⟨rfl, rfl, rfl, rfl, rfl⟩ rfl rfl rfl rfl rfl (by kernel_rfl) Try.func4 (by kernel_rfl)
    (of_decide_eq_true (by kernel_rfl)) (by unfold Func.isWrapper; first | (rw [if_pos (by decide +kernel)]; kernel_rfl) | (rw [if_neg (by decide +kernel)]; exact ⟨rfl, rfl⟩))
    (fun os started H enc _ => steps_lifted os started H enc)

end Go.Proofs.Ytoglbmibbdpjcaa
