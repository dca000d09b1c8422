/-
  PROVED: for every three lists of ids the law DepthNext (P13.1) answers true, and its arguments read afterwards as before: of lists of up to 30 ids each the program's next shallow commits are those of the document, in increasing order, each once; the document's examples hold.
  Conditions: none beyond the row's own (each argument within the form's reach).
-/
import Derived.Test.YtkcjhkfelaplkaaDpNextLaw
import Derived.Test.YtkcjhkfelaplkaaDpOpen
namespace Go.Proofs.Ytkcjhkfelaplkaa
open Go.ChangeShapes Go.WideShapes Go.ChangeAt Go.RowKit Go.Deep
open Go.ChangeMaps (open_string shut_string)
set_option linter.unusedVariables false
set_option linter.unusedSimpArgs false

theorem dpnext_any_law (w : World) (ov sv dv : Value) (O S D : List (List UInt8)) (hO : IdsAt w ov O) (hS : IdsAt w sv S) (hD : IdsAt w dv D) (lO : ∀ i ∈ O, i.length = 32) (lS : ∀ i ∈ S, i.length = 32) (lD : ∀ i ∈ D, i.length = 32) :
    Calls Try.prog 3 #[ov, sv, dv] w fun r w' => r = .returned (.bool true) ∧ Below w.heap.size w w' := by
  by_cases h : 30 < O.length ∨ 30 < S.length ∨ 30 < D.length
  · obtain ⟨oo, oc, rfl⟩ : ∃ ao cap, ov = .slice ao O.length cap := by simpa using RowsAt.form hO
    obtain ⟨so, sc, rfl⟩ : ∃ ao cap, sv = .slice ao S.length cap := by simpa using RowsAt.form hS
    obtain ⟨do_, dc, rfl⟩ : ∃ ao cap, dv = .slice ao D.length cap := by simpa using RowsAt.form hD
    exact dpnext_long w oo so do_ _ _ _ _ _ _ h
  · exact dpnext_short w ov sv dv O S D hO hS hD lO lS lD (by omega) (by omega) (by omega)
theorem dpLaidOut : laidOutB Try.prog = true := by kernel_rfl
set_option maxRecDepth 100000 in
theorem depthnext_lifted (os : Os) (started : os.Started) (H : Type) (enc : TypeId × Value → H) :
    ReturnsInHanded {} Try.checked os 3 .any (Rows.depthNextSpec.pre6 enc Try.prog Try.f3 Rows.depthNextRow.domain false) (Rows.depthNextSpec.post enc Try.prog Try.f3 false true false false) := by
  refine returnsInHanded_of_change_sized (C := Try.checked) dpown started (by kernel_rfl) Try.func3
    (ChangeSpec.witness6 (enc := enc) (C := Try.checked) false ⟨#[], #[.slice none 0 0, .slice none 0 0, .slice none 0 0], []⟩ 8 (by kernel_rfl) (by kernel_rfl) (by kernel_rfl) (by kernel_rfl)) ?_
  intro W base args ds gs before hval0 hW hcnd hsz0 _
  have hval : ∀ (j : Nat) t v, Try.f3.params[j]? = some t → args[j]? = some v → Value.okWide Try.prog W .any base t v := hval0
  have hW' := hW
  obtain ⟨p, q, hA0, hV, rfl, hfz, hnd⟩ := hW
  have hA : DataW.TrodAll enc Try.prog W 0 (fun _ => true) true Try.f3.params.toList args.toList ds p := hA0
  rw [Try.params3] at hA hval
  obtain ⟨v0, v1, v2, d0, d1, d2, p0, p1, p2, rfl, rfl, rfl, h0, h1, h2⟩ := trodAll_three hA
  obtain ⟨rfl, rfl⟩ := trodVars_none hV
  have h0k := h0
  have h1k := h1
  have h2k := h2
  obtain ⟨fuel, hf⟩ := h0
  obtain ⟨fuel1, hf1⟩ := h1
  obtain ⟨fuel2, hf2⟩ := h2
  clear hA0 hval0
  simp only [List.append_nil, List.nil_append] at hW'
  have hlt0 : ∀ x ∈ p0, x.block < W.heap.size := fun x hx => by simpa using hW'.lt x (by simp [hx])
  have hlt1 : ∀ x ∈ p1, x.block < W.heap.size := fun x hx => by simpa using hW'.lt x (by simp [hx])
  have hlt2 : ∀ x ∈ p2, x.block < W.heap.size := fun x hx => by simpa using hW'.lt x (by simp [hx])
  have hargs0 : ∀ (W' : World), Below W.heap.size W W' → DataW.Trod enc Try.prog W' 0 (fun b => decide (b < W.heap.size)) true 22 v0 d0 p0 :=
    fun W' hn => Below.trod dpLaidOut (by kernel_rfl) (of_decide_eq_true (by kernel_rfl)) h0k hn hlt0
  have hargs1 : ∀ (W' : World), Below W.heap.size W W' → DataW.Trod enc Try.prog W' 0 (fun b => decide (b < W.heap.size)) true 22 v1 d1 p1 :=
    fun W' hn => Below.trod dpLaidOut (by kernel_rfl) (of_decide_eq_true (by kernel_rfl)) h1k hn hlt1
  have hargs2 : ∀ (W' : World), Below W.heap.size W W' → DataW.Trod enc Try.prog W' 0 (fun b => decide (b < W.heap.size)) true 22 v2 d2 p2 :=
    fun W' hn => Below.trod dpLaidOut (by kernel_rfl) (of_decide_eq_true (by kernel_rfl)) h2k hn hlt2
  obtain ⟨a0, len0, cap0, rfl⟩ := okWide_slice Try.underlying22 (hval 0 22 v0 rfl rfl)
  obtain ⟨a1, len1, cap1, rfl⟩ := okWide_slice Try.underlying22 (hval 1 22 v1 rfl rfl)
  obtain ⟨a2, len2, cap2, rfl⟩ := okWide_slice Try.underlying22 (hval 2 22 v2 rfl rfl)
  obtain ⟨O, ao, ca, hcs, hO, hOl⟩ := open_ids hf
  obtain ⟨S, bo, cb, hcs1, hS, hSl⟩ := open_ids hf1
  obtain ⟨D, co, cc, hcs2, hD, hDl⟩ := open_ids hf2
  simp [Value.cells] at hcs hcs1 hcs2
  obtain ⟨rfl, rfl, rfl⟩ := hcs
  obtain ⟨rfl, rfl, rfl⟩ := hcs1
  obtain ⟨rfl, rfl, rfl⟩ := hcs2
  refine (dpnext_any_law W _ _ _ O S D hO hS hD hOl hSl hDl).mono fun e W' ⟨he, hb⟩ => ?_
  subst he
  exact ⟨_, rfl, _, _, _, [], _, [], hW', trodAll_cons_mk (shut_bool Try.underlying4 _) trodAll_mk0,
    trodAll_cons_mk (hargs0 W' hb) (trodAll_cons_mk (hargs1 W' hb) (trodAll_cons_mk (hargs2 W' hb) trodAll_mk0)),
    rfl, hb.frame _, fun h => by cases h⟩

theorem depthnext_holds : Rows.DepthNextSaid :=
  OpenClaim.holds_of_wide 3 Try.f3 rfl rfl rfl rfl rfl rfl rfl ⟨rfl, rfl, rfl, rfl, rfl⟩ rfl rfl rfl rfl rfl (by kernel_rfl) Try.func3 (by kernel_rfl)
    (of_decide_eq_true (by kernel_rfl)) (by unfold Func.isWrapper; first | (rw [if_pos (by decide +kernel)]; kernel_rfl) | (rw [if_neg (by decide +kernel)]; exact ⟨rfl, rfl⟩))
    (fun os started H enc _ => depthnext_lifted os started H enc)

end Go.Proofs.Ytkcjhkfelaplkaa
