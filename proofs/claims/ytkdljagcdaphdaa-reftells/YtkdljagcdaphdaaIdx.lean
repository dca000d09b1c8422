/-
  WALKS OF LAYER 9: slices.IndexFunc of refs; the two closures; Find, of the program and of the document.
-/
import Derived.Test.YtkdljagcdaphdaaWalksC
import Derived.Shelf.Abstract
namespace Go.Proofs.Ytkdljagcdaphdaa
open Go.RowKit
set_option linter.unusedVariables false
set_option linter.unusedSimpArgs false

/-- What IndexFunc answers. -/
def idxV (p : Rf.R → Bool) (L : List Rf.R) : Int := if L.findIdx p < L.length then (L.findIdx p : Int) else -1
theorem idx_hit {p : Rf.R → Bool} {L : List Rf.R} {k : Nat} {e : Rf.R} (he : L[k]? = some e) (hp : p e = true) (hb : ∀ j r, j < k → L[j]? = some r → p r = false) : idxV p L = (k : Int) := by
  obtain ⟨hk, rfl⟩ := List.getElem?_eq_some_iff.1 he
  have h : L.findIdx p = k := (List.findIdx_eq hk).2 ⟨hp, fun j hj => hb j _ hj (List.getElem?_eq_getElem (by omega))⟩
  unfold idxV; rw [h, if_pos hk]
theorem idx_miss {p : Rf.R → Bool} {L : List Rf.R} (hb : ∀ j r, j < L.length → L[j]? = some r → p r = false) : idxV p L = -1 := by
  have h : L.findIdx p = L.length := List.findIdx_eq_length.2 (fun x hx => by
    obtain ⟨i, hi⟩ := List.getElem?_of_mem hx
    exact hb i x (List.getElem?_eq_some_iff.1 hi).1 hi)
  unfold idxV; rw [h, if_neg (by omega)]
/-- What is asked of a closure. -/
def Pred (g : Nat) (lb : Array Value) (p : Rf.R → Bool) (w : World) : Prop :=
  ∀ (W : World) (r : Rf.R), Below w.heap.size w W → r.id.length = 32 → Calls Try.prog g (#[.agg (rfC r).toArray] ++ lb) W fun e w' => e = .returned (.bool (p r)) ∧ Below W.heap.size W w'

set_option maxHeartbeats 1000000 in
set_option maxRecDepth 100000 in
theorem index_any (p : Rf.R → Bool) (g : Nat) (lb : Array Value) (eg : ∀ args w, (callFunc g args).run Try.prog w = .ok (.enter g args) w) (v : Value) (L : List Rf.R) (w : World) (hL : RefsAt w v L) (hl : L.length ≤ maxLen) (hp : Pred g lb p w) :
    Calls Try.prog 31 #[v, .func (.func g) #[] lb] w fun r w' => r = .returned (.int .i64 (idxV p L)) ∧ Below w.heap.size w w' := by
  obtain ⟨ao, cap, rfl⟩ := hL.form
  unfold maxLen at hl
  have HL := Lib.hid hL
  have HP := Lib.hid hp
  clear hL hp
  generalize hz : idxV p L = z
  have HZ := Lib.hid hz
  clear hz
  go_enter Try.func31, Try.ntmps31
  go_wp2_with fail
  go_loopw [8] (fun i wr => ∃ (k : Nat), k ≤ L.length ∧ i = .int .i64 k ∧ Hid (∀ j r, j < k → L[j]? = some r → p r = false) ∧ Below w.heap.size w wr) (fun i _ => L.length - (intOf i).toNat)
  case atStart => exact ⟨0, by omega, rfl, fun j r h => absurd h (by omega), Below.refl _ _⟩
  case round =>
    obtain ⟨k, hk, rfl, HA, hb⟩ := hrel
    by_cases hlt : k < L.length
    · have hlt' : (k : Int) < (L.length : Int) := by omega
      have hk0 : (0 : Int) ≤ (k : Int) := by omega
      obtain ⟨e, he⟩ : ∃ e, L[k]? = some e := ⟨L[k], List.getElem?_eq_getElem hlt⟩
      obtain ⟨a, rfl, hid, hc⟩ := (HL.out.below hb).elem k e he
      have HC := Lib.hid hc
      have HD := Lib.hid hid
      have hcall := HP.out wr e hb hid
      have hbs := hb.size
      clear hc hid
      cases hq : p e with
      | true =>
        rw [hq] at hcall
        have HR := Lib.hid (show z = (k : Int) from HZ.out.symm.trans (idx_hit he hq HA.out))
        clear he hq
        go_wp2_with (first
          | (go_at_fn g; refine hcall.mono ?_; rintro r wx ⟨rfl, hbx⟩)
          | ((with_reducible apply ld_rf (hc := HC.out) (hid := HD.out)); rfl; rfl; rfl))
        go_ret
        exact ⟨ret_int HR.out.symm, hb.trans (hbx.mono (by omega))⟩
      | false =>
        rw [hq] at hcall
        have HA2 := Lib.hid (show ∀ j r, j < k + 1 → L[j]? = some r → p r = false from fun j r hj hr => by
          by_cases h : j = k
          · subst h; rw [he] at hr; cases hr; exact hq
          · exact HA.out j r (by omega) hr)
        clear he hq
        go_wp2_with (first
          | (go_at_fn g; refine hcall.mono ?_; rintro r wx ⟨rfl, hbx⟩)
          | ((with_reducible apply ld_rf (hc := HC.out) (hid := HD.out)); rfl; rfl; rfl))
        go_roundw
        case rel => exact ⟨k + 1, by omega, by go_num, HA2, hb.trans (hbx.mono (by omega))⟩
        case measure => simp [intOf]; omega
    · have HR := Lib.hid (show z = -1 from HZ.out.symm.trans (idx_miss (fun j r hj hr => HA.out j r (by omega) hr)))
      go_wp2_with fail
      go_ret
      exact ⟨ret_int HR.out.symm, hb⟩

set_option maxHeartbeats 400000 in
set_option maxRecDepth 100000 in
theorem find1_any (r : Rf.R) (n : ByteArray) (b : Nat) (w : World) (hb : w.cell? ⟨b, 0, none⟩ = some (.string n)) :
    Calls Try.prog 32 #[.agg (rfC r).toArray, .pointer (some ⟨b, 0, none⟩)] w fun e w' => e = .returned (.bool (decide (r.name = n))) ∧ Below w.heap.size w w' := by
  have n0 : (rfC r)[0]? = some (.string r.name) := rfl
  have HB := Lib.hid (below_new w (.cells (rfC r).toArray 54))
  have hlt := World.block_lt_of_cell? w _ hb
  have hE := Lib.hid (Rf.beq_iff r.name n)
  go_enter Try.func32, Try.ntmps32
  go_wp2_with fail
  go_ret
  exact ⟨ret_bool hE.out, HB.out⟩
set_option maxHeartbeats 400000 in
set_option maxRecDepth 100000 in
theorem set1_any (r : Rf.R) (n : ByteArray) (b : Nat) (w : World) (hb : w.cell? ⟨b, 0, none⟩ = some (.string n)) :
    Calls Try.prog 54 #[.agg (rfC r).toArray, .pointer (some ⟨b, 0, none⟩)] w fun e w' => e = .returned (.bool (!Rf.lt r.name n)) ∧ Below w.heap.size w w' := by
  have n0 : (rfC r)[0]? = some (.string r.name) := rfl
  have HB := Lib.hid (below_new w (.cells (rfC r).toArray 54))
  have hlt := World.block_lt_of_cell? w _ hb
  unfold Rf.lt
  go_enter Try.func54, Try.ntmps54
  go_wp2_with fail
  go_ret
  exact ⟨rfl, HB.out⟩

end Go.Proofs.Ytkdljagcdaphdaa
