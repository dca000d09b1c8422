/-
  WALKS OF LAYER 11: StoreApart where it asks for the examples alone.
-/
import Derived.Test.YtipigedopmgemaaDoorStAp
namespace Go.Proofs.YtipigedopmgemaaDoor
open Go.RowKit
set_option linter.unusedVariables false
set_option linter.unusedSimpArgs false

set_option maxHeartbeats 2000000 in
set_option maxRecDepth 100000 in
theorem apart_many (w : World) (v : Value) (S : List Sd) (more : ByteArray) (h : SdsAt w v S) (hl : S.length ≤ maxLen) (hk : S2.KIn w) (hg : ¬ goodS S) :
    Calls Tryd.prog 3 #[v, .string more] w fun r w' => r = .returned (.bool true) ∧ Below w.heap.size w w' := by
  have HF := Lib.hid (few_sds w v S h hl)
  rw [show decide (goodS S) = false from decide_eq_false hg] at HF
  have HK := Lib.hid hk
  clear h hg hk
  go_enter Tryd.func3, Tryd.ntmps3
  go_wp2_with fail
  refine HF.out.mono ?_
  rintro r w1 ⟨rfl, hb1⟩
  have HB1 := Lib.hid hb1
  have HKN := Lib.hid (kn_true w1 (HK.out.step hb1))
  clear hb1
  go_wp2_with fail
  refine HKN.out.mono ?_
  rintro r w2 ⟨rfl, hb2⟩
  have HB2 := Lib.hid (HB1.out.trans (hb2.mono HB1.out.size))
  clear hb2
  go_wp2_with fail
  go_ret
  exact ⟨rfl, HB2.out⟩

set_option maxHeartbeats 2000000 in
set_option maxRecDepth 100000 in
theorem apart_long (w : World) (v : Value) (S : List Sd) (more : ByteArray) (h : SdsAt w v S) (hl : S.length ≤ maxLen) (hk : S2.KIn w) (hg : goodS S) (hm : 500 < more.size) :
    Calls Tryd.prog 3 #[v, .string more] w fun r w' => r = .returned (.bool true) ∧ Below w.heap.size w w' := by
  have HF := Lib.hid (few_sds w v S h hl)
  rw [show decide (goodS S) = true from decide_eq_true hg] at HF
  have HK := Lib.hid hk
  have hm' : (500 : Int) < (more.size : Int) := by omega
  clear h hg hk
  go_enter Tryd.func3, Tryd.ntmps3
  go_wp2_with fail
  refine HF.out.mono ?_
  rintro r w1 ⟨rfl, hb1⟩
  have HB1 := Lib.hid hb1
  have HKN := Lib.hid (kn_true w1 (HK.out.step hb1))
  clear hb1
  go_wp2_with fail
  refine HKN.out.mono ?_
  rintro r w2 ⟨rfl, hb2⟩
  have HB2 := Lib.hid (HB1.out.trans (hb2.mono HB1.out.size))
  clear hb2
  go_wp2_with fail
  go_ret
  exact ⟨rfl, HB2.out⟩

end Go.Proofs.YtipigedopmgemaaDoor
