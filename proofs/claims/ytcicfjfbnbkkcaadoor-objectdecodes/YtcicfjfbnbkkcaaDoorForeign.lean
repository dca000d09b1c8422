/-
  WALKS OF LAYER 4: foreignFieldsZero.
-/
import Derived.Test.YtcicfjfbnbkkcaaDoorZero
namespace Go.Proofs.YtcicfjfbnbkkcaaDoor
open Go.RowKit
set_option linter.unusedVariables false
set_option linter.unusedSimpArgs false

set_option maxHeartbeats 1000000 in
set_option maxRecDepth 100000 in
theorem foreign_any (cs : Array Value) (o : Ob) (ao bo : Option Addr) (ca cb : Nat) (w : World) (F : ObF cs o (.slice ao o.ents.length ca) (.slice bo o.pars.length cb)) :
    Calls Tryd.prog 32 #[.agg cs] w fun r w' => r = .returned (.bool (foreignZ o)) ∧ Below w.heap.size w w' := by
  have H1 := Lib.hid (fun W => blobZ_any cs o _ _ W F)
  have H2 := Lib.hid (fun W => treeZ_any cs o _ _ _ W F)
  have H3 := Lib.hid (fun W => commitZ_any cs o _ _ _ W F)
  have H4 := Lib.hid (fun W => tagZ_any cs o _ _ W F)
  have HZ := Lib.hid (show foreignZ o = ((o.kind == 1 || blobZ o) && (o.kind == 2 || treeZ o) && (o.kind == 3 || commitZ o) && (o.kind == 4 || tagZ o)) from rfl)
  have HS := Lib.hid F.size
  have c0 := F.c0
  have C0 := Lib.hid F.c0
  have K0 := Kp.box w cs 29
  generalize foreignZ o = z at HZ
  generalize blobZ o = b1 at H1 HZ
  generalize treeZ o = b2 at H2 HZ
  generalize commitZ o = b3 at H3 HZ
  generalize tagZ o = b4 at H4 HZ
  generalize o.kind = k at HZ c0 C0
  clear F
  rcases (by omega : k = 1 ∨ k = 2 ∨ k = 3 ∨ k = 4 ∨ (k ≠ 1 ∧ k ≠ 2 ∧ k ≠ 3 ∧ k ≠ 4)) with rfl | rfl | rfl | rfl | ⟨n1, n2, n3, n4⟩
  · go_enter Tryd.func32, Tryd.ntmps32
    go_wp2_with (first
    | (go_at_call 56; refine (H1.out _).mono ?_; rintro r wx ⟨rfl, hx⟩; have kx := Kp.step (by assumption) hx; have cx := kx.cell C0.out; clear hx)
    | (go_at_call 57; refine (H2.out _).mono ?_; rintro r wx ⟨rfl, hx⟩; have kx := Kp.step (by assumption) hx; have cx := kx.cell C0.out; clear hx)
    | (go_at_call 58; refine (H3.out _).mono ?_; rintro r wx ⟨rfl, hx⟩; have kx := Kp.step (by assumption) hx; have cx := kx.cell C0.out; clear hx)
    | (go_at_call 59; refine (H4.out _).mono ?_; rintro r wx ⟨rfl, hx⟩; have kx := Kp.step (by assumption) hx; have cx := kx.cell C0.out; clear hx)
    | (go_guarded; (with_reducible apply wp_load_ob (k := by assumption) (hs := HS.out)); rfl; rfl))
    all_goals
      go_ret
      exact ⟨ret_bool (by rw [HZ.out]; simp [*]), Kp.below (by assumption)⟩
  · go_enter Tryd.func32, Tryd.ntmps32
    go_wp2_with (first
    | (go_at_call 56; refine (H1.out _).mono ?_; rintro r wx ⟨rfl, hx⟩; have kx := Kp.step (by assumption) hx; have cx := kx.cell C0.out; clear hx)
    | (go_at_call 57; refine (H2.out _).mono ?_; rintro r wx ⟨rfl, hx⟩; have kx := Kp.step (by assumption) hx; have cx := kx.cell C0.out; clear hx)
    | (go_at_call 58; refine (H3.out _).mono ?_; rintro r wx ⟨rfl, hx⟩; have kx := Kp.step (by assumption) hx; have cx := kx.cell C0.out; clear hx)
    | (go_at_call 59; refine (H4.out _).mono ?_; rintro r wx ⟨rfl, hx⟩; have kx := Kp.step (by assumption) hx; have cx := kx.cell C0.out; clear hx)
    | (go_guarded; (with_reducible apply wp_load_ob (k := by assumption) (hs := HS.out)); rfl; rfl))
    all_goals
      go_ret
      exact ⟨ret_bool (by rw [HZ.out]; simp [*]), Kp.below (by assumption)⟩
  · go_enter Tryd.func32, Tryd.ntmps32
    go_wp2_with (first
    | (go_at_call 56; refine (H1.out _).mono ?_; rintro r wx ⟨rfl, hx⟩; have kx := Kp.step (by assumption) hx; have cx := kx.cell C0.out; clear hx)
    | (go_at_call 57; refine (H2.out _).mono ?_; rintro r wx ⟨rfl, hx⟩; have kx := Kp.step (by assumption) hx; have cx := kx.cell C0.out; clear hx)
    | (go_at_call 58; refine (H3.out _).mono ?_; rintro r wx ⟨rfl, hx⟩; have kx := Kp.step (by assumption) hx; have cx := kx.cell C0.out; clear hx)
    | (go_at_call 59; refine (H4.out _).mono ?_; rintro r wx ⟨rfl, hx⟩; have kx := Kp.step (by assumption) hx; have cx := kx.cell C0.out; clear hx)
    | (go_guarded; (with_reducible apply wp_load_ob (k := by assumption) (hs := HS.out)); rfl; rfl))
    all_goals
      go_ret
      exact ⟨ret_bool (by rw [HZ.out]; simp [*]), Kp.below (by assumption)⟩
  · go_enter Tryd.func32, Tryd.ntmps32
    go_wp2_with (first
    | (go_at_call 56; refine (H1.out _).mono ?_; rintro r wx ⟨rfl, hx⟩; have kx := Kp.step (by assumption) hx; have cx := kx.cell C0.out; clear hx)
    | (go_at_call 57; refine (H2.out _).mono ?_; rintro r wx ⟨rfl, hx⟩; have kx := Kp.step (by assumption) hx; have cx := kx.cell C0.out; clear hx)
    | (go_at_call 58; refine (H3.out _).mono ?_; rintro r wx ⟨rfl, hx⟩; have kx := Kp.step (by assumption) hx; have cx := kx.cell C0.out; clear hx)
    | (go_at_call 59; refine (H4.out _).mono ?_; rintro r wx ⟨rfl, hx⟩; have kx := Kp.step (by assumption) hx; have cx := kx.cell C0.out; clear hx)
    | (go_guarded; (with_reducible apply wp_load_ob (k := by assumption) (hs := HS.out)); rfl; rfl))
    all_goals
      go_ret
      exact ⟨ret_bool (by rw [HZ.out]; simp [*]), Kp.below (by assumption)⟩
  · have m1 : (k == 1) = false := beq_eq_false_iff_ne.2 n1
    have m2 : (k == 2) = false := beq_eq_false_iff_ne.2 n2
    have m3 : (k == 3) = false := beq_eq_false_iff_ne.2 n3
    have m4 : (k == 4) = false := beq_eq_false_iff_ne.2 n4
    clear n1 n2 n3 n4
    go_enter Tryd.func32, Tryd.ntmps32
    go_wp2_with (first
    | (go_at_call 56; refine (H1.out _).mono ?_; rintro r wx ⟨rfl, hx⟩; have kx := Kp.step (by assumption) hx; have cx := kx.cell C0.out; clear hx)
    | (go_at_call 57; refine (H2.out _).mono ?_; rintro r wx ⟨rfl, hx⟩; have kx := Kp.step (by assumption) hx; have cx := kx.cell C0.out; clear hx)
    | (go_at_call 58; refine (H3.out _).mono ?_; rintro r wx ⟨rfl, hx⟩; have kx := Kp.step (by assumption) hx; have cx := kx.cell C0.out; clear hx)
    | (go_at_call 59; refine (H4.out _).mono ?_; rintro r wx ⟨rfl, hx⟩; have kx := Kp.step (by assumption) hx; have cx := kx.cell C0.out; clear hx)
    | (go_guarded; (with_reducible apply wp_load_ob (k := by assumption) (hs := HS.out)); rfl; rfl))
    all_goals
      go_ret
      exact ⟨ret_bool (by rw [HZ.out]; simp [*]), Kp.below (by assumption)⟩
end Go.Proofs.YtcicfjfbnbkkcaaDoor
