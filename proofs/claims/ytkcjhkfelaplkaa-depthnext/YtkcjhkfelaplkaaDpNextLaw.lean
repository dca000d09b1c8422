/-
  LAYER 13: the law DepthNext, walked.
-/
import Derived.Test.YtkcjhkfelaplkaaDpKn
import Derived.Test.YtkcjhkfelaplkaaDpRefNext
import Derived.Test.YtkcjhkfelaplkaaBase2
namespace Go.Proofs.Ytkcjhkfelaplkaa
open Go.RowKit
set_option linter.unusedVariables false
set_option linter.unusedSimpArgs false

set_option maxHeartbeats 2000000 in
set_option maxRecDepth 100000 in
theorem dpnext_long (w : World) (oo so do_ : Option Addr) (no ns nd co cs cd : Nat) (h : 30 < no ∨ 30 < ns ∨ 30 < nd) :
    Calls Try.prog 3 #[.slice oo no co, .slice so ns cs, .slice do_ nd cd] w fun r w' => r = .returned (.bool true) ∧ Below w.heap.size w w' := by
  have HK := Lib.hid (dpknows_any w)
  by_cases h0 : 30 < no
  · have h0' : (30 : Int) < (no : Int) := by omega
    clear h h0
    go_enter Try.func3, Try.ntmps3
    go_wp2_with fail
    with_reducible refine HK.out.mono ?_
    rintro r w2 ⟨rfl, hb⟩
    go_wp2_with fail
    go_ret
    exact ⟨rfl, hb⟩
  · have h0' : ¬ (30 : Int) < (no : Int) := by omega
    by_cases h1 : 30 < ns
    · have h1' : (30 : Int) < (ns : Int) := by omega
      clear h h0 h1
      go_enter Try.func3, Try.ntmps3
      go_wp2_with fail
      with_reducible refine HK.out.mono ?_
      rintro r w2 ⟨rfl, hb⟩
      go_wp2_with fail
      go_ret
      exact ⟨rfl, hb⟩
    · have h1' : ¬ (30 : Int) < (ns : Int) := by omega
      have h2' : (30 : Int) < (nd : Int) := by omega
      clear h h0 h1
      go_enter Try.func3, Try.ntmps3
      go_wp2_with fail
      with_reducible refine HK.out.mono ?_
      rintro r w2 ⟨rfl, hb⟩
      go_wp2_with fail
      go_ret
      exact ⟨rfl, hb⟩
set_option maxHeartbeats 2000000 in
set_option maxRecDepth 100000 in
theorem dpnext_short (w : World) (ov sv dv : Value) (O S D : List (List UInt8)) (hO : IdsAt w ov O) (hS : IdsAt w sv S) (hD : IdsAt w dv D) (lO : ∀ i ∈ O, i.length = 32) (lS : ∀ i ∈ S, i.length = 32) (lD : ∀ i ∈ D, i.length = 32)
    (nO : O.length ≤ 30) (nS : S.length ≤ 30) (nD : D.length ≤ 30) :
    Calls Try.prog 3 #[ov, sv, dv] w fun r w' => r = .returned (.bool true) ∧ Below w.heap.size w w' := by
  have HNX := Lib.hid (dpnext_any w ov sv dv O S D hO hS hD lO lS lD (by omega) (by omega) (by omega))
  have HRF := Lib.hid (fun (W : World) (hb : Below w.heap.size w W) => refnext_any W ov sv dv O S D (hO.below hb) (hS.below hb) (hD.below hb) lO lS lD (by omega) (by omega) (by omega))
  obtain ⟨oo, oc, rfl⟩ : ∃ ao cap, ov = .slice ao O.length cap := by simpa using RowsAt.form hO
  obtain ⟨so, sc, rfl⟩ : ∃ ao cap, sv = .slice ao S.length cap := by simpa using RowsAt.form hS
  obtain ⟨do_, dc, rfl⟩ : ∃ ao cap, dv = .slice ao D.length cap := by simpa using RowsAt.form hD
  unfold NextP at HNX
  have hO30 : ¬ (30 : Int) < (O.length : Int) := by omega
  have hS30 : ¬ (30 : Int) < (S.length : Int) := by omega
  have hD30 : ¬ (30 : Int) < (D.length : Int) := by omega
  clear hO hS hD lO lS lD
  go_enter Try.func3, Try.ntmps3
  go_wp2_with fail
  with_reducible refine HNX.out.mono ?_
  rintro r w2 ⟨v2, R, rfl, h1, h2, h3, h4, h5, hb2⟩
  have H1 := Lib.hid h1
  have H2 := Lib.hid h2
  have H3 := Lib.hid h3
  have H4 := Lib.hid h4
  have H5 := Lib.hid (show R.length ≤ 60 by omega)
  have HB2 := Lib.hid hb2
  have HR2 := Lib.hid (HRF.out w2 hb2)
  clear h1 h2 h3 h4 h5 hb2 HRF HNX
  go_wp2_with fail
  with_reducible refine HR2.out.mono ?_
  rintro r w3 ⟨v3, R', rfl, k1, k2, k3, hb3⟩
  obtain rfl : R = R' := Gr.up_eq H2.out k2 fun x => by rw [H3.out x, k3 x]
  have hz2 := HB2.out.size
  have HB3 := Lib.hid (HB2.out.trans (hb3.mono hz2))
  have HSA := Lib.hid (sameids_any w3 v2 v3 R (RowsAt.below H1.out hb3) k1 H4.out (by have := H5.out; omega))
  clear k1 k2 k3 hb3 HR2
  go_wp2_with fail
  with_reducible refine HSA.out.mono ?_
  rintro r w4 ⟨rfl, hb4⟩
  have hz3 := HB3.out.size
  have HB4 := Lib.hid (HB3.out.trans (hb4.mono hz3))
  have HK := Lib.hid (dpknows_any w4)
  clear hb4 HSA
  go_wp2_with fail
  with_reducible refine HK.out.mono ?_
  rintro r w5 ⟨rfl, hb5⟩
  have HB5 := Lib.hid (HB4.out.trans (hb5.mono HB4.out.size))
  clear hb5 HK
  go_wp2_with fail
  go_ret
  exact ⟨rfl, HB5.out⟩
end Go.Proofs.Ytkcjhkfelaplkaa
