/-
  WALKS OF LAYER 7: All (pkt), All (knapsackref07), knows (knapsacklaw07).
-/
import Derived.Test.YtdmijinlhiohbaaWalksD
namespace Go.Proofs.Ytdmijinlhiohbaa
open Go.RowKit
set_option linter.unusedVariables false
set_option linter.unusedSimpArgs false
open Pk (Ln)

def strSize : Value → Nat
  | .string x => x.size
  | _ => 0
/-- The lines that a text is. -/
def allL (s : ByteArray) : Option (List Ln) := Pk.all s.size s
/-- What All answers. -/
def AllR (s : ByteArray) (w : World) (r : Ending) (w' : World) : Prop := ∃ v, r = .returned (.tuple #[v, .int .i64 (if (allL s).isSome then 0 else 2)]) ∧ OwnR 33 w' w.heap.size v ((allL s).getD []) ∧ Below w.heap.size w w'
def RAllR (s : ByteArray) (w : World) (r : Ending) (w' : World) : Prop := ∃ v, r = .returned (.tuple #[v, .bool (allL s).isSome]) ∧ OwnR 36 w' w.heap.size v ((allL s).getD []) ∧ Below w.heap.size w w'

set_option maxHeartbeats 2000000 in
set_option maxRecDepth 100000 in
theorem all_any (s : ByteArray) (w : World) (hs : s.size ≤ 100000) :
    Calls Try.prog 13 #[.string s] w (AllR s w) := by
  obtain ⟨i0, hi, hz0, hz1, hz2⟩ := info_parts infoPk
  go_enter Try.func13, Try.ntmps13
  go_wp2_with fail
  go_loopw [0, 4] (fun d v wr => ∃ (x : ByteArray) (acc : List Ln) (k : Nat), d = .string x ∧ x.size ≤ k ∧ Hid (allL s = (Pk.all k x).map (acc ++ ·)) ∧ acc.length + x.size ≤ s.size ∧ OwnR 33 wr w.heap.size v acc ∧ Below w.heap.size w wr) (fun d _ _ => strSize d)
  case atStart => exact ⟨s, [], s.size, rfl, Nat.le_refl _, by show _ = _; unfold allL; cases Pk.all s.size s <;> simp, by simp, own_nil _ _ _, Below.refl _ _⟩
  case round =>
    obtain ⟨x, acc, k, rfl, hk, HS, hal, hown, hb⟩ := hrel
    by_cases hx : x = ByteArray.empty
    · subst hx
      have hq := HS.out
      rw [Pk.all_nil] at hq
      have HQ := Lib.hid (show allL s = some acc by rw [hq]; simp)
      clear hq HS
      go_wp2_with fail
      go_ret2
      exact ⟨_, by rw [HQ.out]; rfl, by rw [HQ.out]; exact hown, hb⟩
    · have hx0 := size_ne hx
      have hxe := not_empty hx
      have HG := Lib.hid (fun W => get_any x W (by unfold maxLen; omega))
      unfold GetR at HG
      cases hg : Pk.get x with
      | none =>
        have HQ := Lib.hid (show allL s = none by rw [HS.out, Pk.all_bad hk (by omega) hg]; rfl)
        rw [hg] at HG
        clear hg HS hown
        unfold getV lnV at HG
        go_wp2_with fail
        refine (HG.out _).mono ?_
        rintro r w1 ⟨rfl, hb1⟩
        have hb01 := below_step hb hb1
        clear hb1
        go_wp2_with fail
        go_ret2
        exact ⟨_, by rw [HQ.out]; rfl, by rw [HQ.out]; exact own_nil _ _ _, hb01.alloc hb01.size _⟩
      | some q =>
        obtain ⟨p, n⟩ := q
        obtain ⟨r1, r2, r3⟩ := Pk.rest_size hg
        obtain ⟨k, rfl⟩ : ∃ k', k = k' + 1 := ⟨k - 1, by omega⟩
        have HS2 := Lib.hid (show allL s = (Pk.all k (x.extract n x.size)).map ((acc ++ [p]) ++ ·) by
          rw [HS.out, Pk.all_step (by omega) hg, Pk.map_push])
        rw [hg] at HG
        clear hg HS
        unfold getV lnV at HG
        have hb0s := hb.size
        obtain ⟨pk, pl⟩ := p
        go_wp2_with fail
        refine (HG.out _).mono ?_
        rintro r w1 ⟨rfl, hb1⟩
        have hown1 := own_below hown hb1
        have hb01 := below_step hb hb1
        have hs1 := hb01.size
        clear hown hb1 HG
        go_wp2_with (at_builtin; refine wpList_append_own _ rfl _ _ 22 rfl w.heap.size 33 i0 (.agg #[.int .i64 0, .string ⟨#[]⟩]) 2 24 Try.underlying22 hi hz0 hz1 hz2 rfl (by decide) _ _ _ rfl ((World.ownsRow.alloc hown1 _).alloc _) ⟨_, 0, none⟩ 1 1 [.int .i64 pk, .string pl] rfl ?a1 ?a2 ?a3 ?a4 ?a5 ?a6 ?_)
        case a1 => rfl
        case a2 => exact news_row (l := [.int .i64 pk, .string pl]) (heap_alloc2_new _ _ _)
        case a3 => exact lnC_one ⟨pk, pl⟩
        case a4 => unfold maxLen; omega
        case a5 => omega
        case a6 => simp; omega
        intro v' w2 hown2 hgrow _
        have hb' : Below w.heap.size w w2 := (((hb01.alloc hb01.size _).alloc (by simp; omega) _).grown hgrow (by simp; omega) (fun k hk => (hown1.lt k hk).1))
        have HO2 := Lib.hid (own_push (p := ⟨pk, pl⟩) hown2)
        clear hown1 hgrow hown2
        go_wp2_with fail
        exact ⟨⟨x.extract n x.size, acc ++ [(⟨pk, pl⟩ : Ln)], k, rfl, by omega, HS2, by rw [List.length_append, r1]; simp; omega, HO2.out, hb'⟩, by simp only [strSize]; rw [r1]; omega⟩

set_option maxHeartbeats 2000000 in
set_option maxRecDepth 100000 in
theorem refall_any (s : ByteArray) (w : World) (hs : s.size ≤ 100000) :
    Calls Try.prog 14 #[.string s] w (RAllR s w) := by
  obtain ⟨i0, hi, hz0, hz1, hz2⟩ := info_parts infoLn
  go_enter Try.func14, Try.ntmps14
  go_wp2_with fail
  go_loopw [0, 4] (fun d v wr => ∃ (x : ByteArray) (acc : List Ln) (k : Nat), d = .string x ∧ x.size ≤ k ∧ Hid (allL s = (Pk.all k x).map (acc ++ ·)) ∧ acc.length + x.size ≤ s.size ∧ OwnR 36 wr w.heap.size v acc ∧ Below w.heap.size w wr) (fun d _ _ => strSize d)
  case atStart => exact ⟨s, [], s.size, rfl, Nat.le_refl _, by show _ = _; unfold allL; cases Pk.all s.size s <;> simp, by simp, own_nil _ _ _, Below.refl _ _⟩
  case round =>
    obtain ⟨x, acc, k, rfl, hk, HS, hal, hown, hb⟩ := hrel
    by_cases hx : x = ByteArray.empty
    · subst hx
      have hq := HS.out
      rw [Pk.all_nil] at hq
      have HQ := Lib.hid (show allL s = some acc by rw [hq]; simp)
      clear hq HS
      go_wp2_with fail
      go_ret2
      exact ⟨_, by rw [HQ.out]; rfl, by rw [HQ.out]; exact hown, hb⟩
    · have hx0 := size_ne hx
      have hxe := not_empty hx
      have HG := Lib.hid (fun W => refget_any x W (by unfold maxLen; omega))
      unfold RGetR at HG
      cases hg : Pk.get x with
      | none =>
        have HQ := Lib.hid (show allL s = none by rw [HS.out, Pk.all_bad hk (by omega) hg]; rfl)
        rw [hg] at HG
        clear hg HS hown
        unfold rgetV lnV at HG
        go_wp2_with fail
        refine (HG.out _).mono ?_
        rintro r w1 ⟨rfl, hb1⟩
        have hb01 := below_step hb hb1
        clear hb1
        go_wp2_with fail
        go_ret2
        exact ⟨_, by rw [HQ.out]; rfl, by rw [HQ.out]; exact own_nil _ _ _, hb01.alloc hb01.size _⟩
      | some q =>
        obtain ⟨p, n⟩ := q
        obtain ⟨r1, r2, r3⟩ := Pk.rest_size hg
        obtain ⟨k, rfl⟩ : ∃ k', k = k' + 1 := ⟨k - 1, by omega⟩
        have HS2 := Lib.hid (show allL s = (Pk.all k (x.extract n x.size)).map ((acc ++ [p]) ++ ·) by
          rw [HS.out, Pk.all_step (by omega) hg, Pk.map_push])
        rw [hg] at HG
        clear hg HS
        unfold rgetV lnV at HG
        have hb0s := hb.size
        have hn1 : (n : Int) ≤ (x.size : Int) := by omega
        have hn2 : (0 : Int) ≤ (n : Int) := by omega
        have hn3 : ((n : Int) == 0) = false := beq_eq_false_iff_ne.2 (by omega)
        obtain ⟨pk, pl⟩ := p
        go_wp2_with fail
        refine (HG.out _).mono ?_
        rintro r w1 ⟨rfl, hb1⟩
        have hown1 := own_below hown hb1
        have hb01 := below_step hb hb1
        have hs1 := hb01.size
        clear hown hb1 HG
        go_wp2_with (at_builtin; refine wpList_append_own _ rfl _ _ 30 rfl w.heap.size 36 i0 (.agg #[.int .i64 0, .string ⟨#[]⟩]) 2 24 Try.underlying30 hi hz0 hz1 hz2 rfl (by decide) _ _ _ rfl ((World.ownsRow.alloc hown1 _).alloc _) ⟨_, 0, none⟩ 1 1 [.int .i64 pk, .string pl] rfl ?a1 ?a2 ?a3 ?a4 ?a5 ?a6 ?_)
        case a1 => rfl
        case a2 => exact news_row (l := [.int .i64 pk, .string pl]) (heap_alloc2_new _ _ _)
        case a3 => exact lnC_one ⟨pk, pl⟩
        case a4 => unfold maxLen; omega
        case a5 => omega
        case a6 => simp; omega
        intro v' w2 hown2 hgrow _
        have hb' : Below w.heap.size w w2 := (((hb01.alloc hb01.size _).alloc (by simp; omega) _).grown hgrow (by simp; omega) (fun k hk => (hown1.lt k hk).1))
        have HO2 := Lib.hid (own_push (p := ⟨pk, pl⟩) hown2)
        clear hown1 hgrow hown2
        go_wp2_with fail
        exact ⟨⟨x.extract n x.size, acc ++ [(⟨pk, pl⟩ : Ln)], k, rfl, by omega, HS2, by rw [List.length_append, r1]; simp; omega, HO2.out, hb'⟩, by simp only [strSize]; rw [r1]; omega⟩

end Go.Proofs.Ytdmijinlhiohbaa
