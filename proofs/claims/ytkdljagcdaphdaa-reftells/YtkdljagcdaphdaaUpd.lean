/-
  WALKS OF LAYER 9: Update.
-/
import Derived.Test.YtkdljagcdaphdaaEach
import Derived.Test.YtkdljagcdaphdaaWalksD
namespace Go.Proofs.Ytkdljagcdaphdaa
open Go.RowKit
set_option linter.unusedVariables false
set_option linter.unusedSimpArgs false

theorem run_ids : ∀ (us : List Rf.U) (L : List Rf.R) (S : List ByteArray), (∀ r ∈ L, r.id.length = 32) → (∀ u ∈ us, u.new.length = 32) → ∀ r ∈ (Rf.run L S us).1, r.id.length = 32
  | [], L, S, h, _ => h
  | u :: t, L, S, h, hu => run_ids t _ _ (nxt_ids h (hu u (by simp))) (fun x hx => hu x (by simp [hx]))
theorem upd_ids {us : List Rf.U} {L : List Rf.R} {all : Bool} (h : ∀ r ∈ L, r.id.length = 32) (hu : ∀ u ∈ us, u.new.length = 32) : ∀ r ∈ (Rf.upd L us all).1, r.id.length = 32 := by
  unfold Rf.upd; split
  · exact h
  · exact run_ids us L [] h hu
/-- What Update leaves. -/
def UpdP (L : List Rf.R) (us : List Rf.U) (all : Bool) (w : World) (e : Ending) (w' : World) : Prop :=
  ∃ v' gt, e = .returned (.tuple #[v', .slice (some ⟨gt, 0, none⟩) us.length us.length, .int .i64 0]) ∧ RefsAt w' v' (Rf.upd L us all).1 ∧ Errs w' gt us.length (Rf.upd L us all).2 ∧ Below w.heap.size w w'

set_option maxHeartbeats 1000000 in
set_option maxRecDepth 100000 in
theorem update_bad (v uv : Value) (all : Bool) (L : List Rf.R) (w : World) (hL : RefsAt w v L) (hn : ∀ r ∈ L, r.name.size ≤ maxLen) (hl : L.length ≤ maxLen) (hf : Rf.fine L = false) :
    Calls Try.prog 21 #[v, uv, .bool all] w fun r w' => r = .returned (.tuple #[.slice none 0 0, .slice none 0 0, .int .i64 1]) ∧ Below w.heap.size w w' := by
  have HFN := Lib.hid (fine_any v L w hL hn hl)
  rw [hf] at HFN
  clear hL hn hf
  go_enter Try.func21, Try.ntmps21
  go_wp2_with fail
  refine HFN.out.mono ?_
  rintro r w1 ⟨rfl, hb1⟩
  clear HFN
  go_wp2_with fail
  go_ret3
  exact ⟨rfl, hb1⟩

set_option maxHeartbeats 2000000 in
set_option maxRecDepth 100000 in
theorem update_ok (v uv : Value) (all : Bool) (L : List Rf.R) (us : List Rf.U) (w : World) (hL : RefsAt w v L) (hn : ∀ r ∈ L, r.name.size ≤ maxLen) (hf : Rf.fine L = true) (hu : UpsAt w uv us) (hul : us.length ≤ 64) (hun : ∀ u ∈ us, u.old.length = 32 ∧ u.new.length = 32 ∧ u.name.size ≤ 1000) :
    Calls Try.prog 21 #[v, uv, .bool all] w (UpdP L us all w) := by
  have hl := ((Rf.fine_iff L).1 hf).1
  have HFN := Lib.hid (fine_any v L w hL hn (by unfold maxLen; omega))
  rw [hf] at HFN
  have HL := Lib.hid hL
  have HID := Lib.hid hL.len
  have HF := Lib.hid hf
  have HU := Lib.hid hu
  have HUN := Lib.hid hun
  have HUI := Lib.hid (upd_ids (all := all) hL.len (fun u hx => (hun u hx).2.1))
  have HUP := Lib.hid (show Rf.upd L us all = if all && Rf.errs (Rf.run L [] us).2 then (L, (Rf.run L [] us).2.map Rf.mark) else Rf.run L [] us from rfl)
  have HRI := Lib.hid (run_ids us L [] hL.len (fun u hx => (hun u hx).2.1))
  clear hL hn hf hu hun
  go_enter Try.func21, Try.ntmps21
  go_wp2_with fail
  refine HFN.out.mono ?_
  rintro r w1 ⟨rfl, hb1⟩
  clear HFN
  go_wp2_with fail
  refine (clone_any v L w1 (HL.out.below hb1) hl).mono ?_
  rintro r w2 ⟨v2, rfl, ho2, hb2⟩
  have HO2 := Lib.hid ho2
  clear ho2
  go_wp2_with fail
  refine (each_any w1 w2 v2 uv L us HO2.out HID.out HF.out (HU.out.below hb1) hul HUN.out hb2).mono ?_
  rintro r w3 ⟨v3, gt, rfl, ho3, he3, hb3, hne3, hge3⟩
  have HO3 := Lib.hid ho3
  have HE3 := Lib.hid he3
  have hb03 := below_step hb1 hb3
  have hs1 := hb1.size
  clear ho3 he3 hb2 HO2 hb1 hb3 hne3
  cases all with
  | false =>
    have HQ := Lib.hid (show Rf.upd L us false = Rf.run L [] us from HUP.out)
    go_wp2_with fail
    go_ret3
    exact ⟨_, gt, rfl, by rw [HQ.out]; exact HO3.out.rows HRI.out, by rw [HQ.out]; exact HE3.out, hb03⟩
  | true =>
    have HCN := Lib.hid (contains_any gt us.length _ w3 HE3.out (by omega))
    cases hq : Rf.errs (Rf.run L [] us).2 with
    | false =>
      rw [hq] at HCN
      have HQ := Lib.hid (show Rf.upd L us true = Rf.run L [] us by rw [HUP.out, hq]; rfl)
      clear hq
      go_wp2_with fail
      refine HCN.out.mono ?_
      rintro r wx ⟨rfl, rfl⟩
      go_wp2_with fail
      go_ret3
      exact ⟨_, gt, rfl, by rw [HQ.out]; exact HO3.out.rows HRI.out, by rw [HQ.out]; exact HE3.out, hb03⟩
    | true =>
      rw [hq] at HCN
      have HQ := Lib.hid (show Rf.upd L us true = (L, (Rf.run L [] us).2.map Rf.mark) by rw [HUP.out, hq]; rfl)
      clear hq
      go_wp2_with fail
      refine HCN.out.mono ?_
      rintro r wx ⟨rfl, rfl⟩
      go_wp2_with fail
      refine (mark_any gt us.length _ _ HE3.out (by omega)).mono ?_
      rintro r w4 ⟨rfl, he4, hg4⟩
      have HE4 := Lib.hid he4
      have hb04 := hb03.grown hg4 hb03.size (fun k hk => by cases hk; omega)
      clear he4 hg4 HE3 HO3
      go_wp2_with fail
      refine (clone_any v L w4 (HL.out.below hb04) hl).mono ?_
      rintro r w5 ⟨v5, rfl, ho5, hb5⟩
      have HO5 := Lib.hid ho5
      clear ho5
      go_wp2_with fail
      go_ret3
      exact ⟨_, gt, rfl, by rw [HQ.out]; exact HO5.out.rows HID.out, by rw [HQ.out]; exact HE4.out.kept (below_grown hb5) (by simp), below_step hb04 hb5⟩

end Go.Proofs.Ytkdljagcdaphdaa
