/-
  THE WALK OF THE LAW BandMixed: whatever the streams, the size and the turns, it answers true.
-/
import Derived.Test.YtaaemdmeicjnbaaLaw
namespace Go.Proofs.Ytaaemdmeicjnbaa
open Go.RowKit
set_option linter.unusedVariables false
set_option linter.unusedSimpArgs false
open Pk (Ln)

/-- A slice of bools in memory. -/
structure BoolsAt (w : World) (v : Value) (T : List Bool) : Prop where
  out : (v = .slice none 0 0 ∧ T = []) ∨ ∃ a cap, v = .slice (some a) T.length cap ∧ ∀ i b, T[i]? = some b → w.cell? (a.add i) = some (.bool b)
theorem BoolsAt.form {w : World} {v : Value} {T : List Bool} (h : BoolsAt w v T) : ∃ ao cap, v = .slice ao T.length cap := by
  rcases h.out with ⟨rfl, rfl⟩ | ⟨a, cap, rfl, _⟩
  · exact ⟨none, 0, rfl⟩
  · exact ⟨some a, cap, rfl⟩
theorem BoolsAt.elem {w : World} {cap : Nat} {ao : Option Addr} {n : Nat} {T : List Bool} (h : BoolsAt w (.slice ao n cap) T) (i : Nat) (b : Bool) (hi : T[i]? = some b) : ∃ a, ao = some a ∧ w.cell? (a.add i) = some (.bool b) := by
  rcases h.out with ⟨_, rfl⟩ | ⟨a, cap', hv, hc⟩
  · simp at hi
  · simp only [Value.slice.injEq] at hv
    exact ⟨a, hv.1, hc i b hi⟩
theorem BoolsAt.below {w w' : World} {v : Value} {T : List Bool} (h : BoolsAt w v T) (hb : Below w.heap.size w w') : BoolsAt w' v T := by
  refine ⟨?_⟩
  rcases h.out with h0 | ⟨a, cap, hv, hc⟩
  · exact .inl h0
  · refine .inr ⟨a, cap, hv, fun i e hi => ?_⟩
    have h0 := hc i e hi
    rw [hb.cell (World.block_lt_of_cell? w _ h0)]; exact h0
theorem cells4 {W : World} {g : Nat} {a b c d : Value} {t : TypeId} (h : W.heap[g]? = some (.cells #[a, b, c, d] t)) : W.cell? ⟨g, 0, none⟩ = some a ∧ W.cell? ⟨g, 1, none⟩ = some b ∧ W.cell? ⟨g, 2, none⟩ = some c ∧ W.cell? ⟨g, 3, none⟩ = some d := by
  refine ⟨?_, ?_, ?_, ?_⟩
  · rw [cell_of_row _ _ 0 _ _ _ h]; rfl
  · rw [cell_of_row _ _ 1 _ _ _ h]; rfl
  · rw [cell_of_row _ _ 2 _ _ _ h]; rfl
  · rw [cell_of_row _ _ 3 _ _ _ h]; rfl
theorem own_cat {t : TypeId} {w : World} {base : Nat} {v : Value} {L M : List Ln} (h : w.ownsRow base t 2 v (L.length + M.length) (L.flatMap lnC ++ M.flatMap lnC)) : OwnR t w base v (L ++ M) := by
  unfold OwnR
  rw [List.flatMap_append, List.length_append]
  exact h
theorem flat_one (L : List Ln) : ∀ u ∈ L.flatMap lnC, u.oneCell' = true := by
  intro u hu
  obtain ⟨p, _, hp⟩ := List.mem_flatMap.1 hu
  exact lnC_one p u hp

/-- Lines of both streams, mixed so far. -/
structure Mixed (X Y acc : List Ln) (a b : Nat) : Prop where
  len : acc.length = a + b
  ok : ∀ p ∈ acc, Pk.okl p = true
  no : ∀ p ∈ acc, Pk.ch p ≠ 3
  one : Pk.strm 1 acc = Pk.strm 1 (X.take a)
  two : Pk.strm 2 acc = Pk.strm 2 (Y.take b)
theorem Mixed.start (X Y : List Ln) : Mixed X Y [] 0 0 := ⟨rfl, (fun p h => by cases h), (fun p h => by cases h), rfl, rfl⟩
theorem Mixed.left {X Y acc : List Ln} {a b : Nat} {e : Ln} (h : Mixed X Y acc a b) (he : X[a]? = some e) (ho : Pk.okl e = true) (hc : Pk.ch e = 1) : Mixed X Y (acc ++ [e]) (a + 1) b := by
  refine ⟨by rw [List.length_append, h.len]; simp; omega, fun p hp => ?_, fun p hp => ?_, ?_, ?_⟩
  · rcases List.mem_append.1 hp with h1 | h1
    · exact h.ok p h1
    · simp at h1; subst h1; exact ho
  · rcases List.mem_append.1 hp with h1 | h1
    · exact h.no p h1
    · simp at h1; subst h1; omega
  · rw [Pk.strm_append, h.one, take_push _ _ _ he, Pk.strm_append]
  · rw [Pk.strm_append, h.two, Pk.strm_one, if_neg (by omega), List.append_nil]
theorem Mixed.right {X Y acc : List Ln} {a b : Nat} {e : Ln} (h : Mixed X Y acc a b) (he : Y[b]? = some e) (ho : Pk.okl e = true) (hc : Pk.ch e = 2) : Mixed X Y (acc ++ [e]) a (b + 1) := by
  refine ⟨by rw [List.length_append, h.len]; simp; omega, fun p hp => ?_, fun p hp => ?_, ?_, ?_⟩
  · rcases List.mem_append.1 hp with h1 | h1
    · exact h.ok p h1
    · simp at h1; subst h1; exact ho
  · rcases List.mem_append.1 hp with h1 | h1
    · exact h.no p h1
    · simp at h1; subst h1; omega
  · rw [Pk.strm_append, h.one, Pk.strm_one, if_neg (by omega), List.append_nil]
  · rw [Pk.strm_append, h.two, take_push _ _ _ he, Pk.strm_append]
theorem ok_size {L : List Ln} (h : ∀ p ∈ L, Pk.okl p = true) : ∀ p ∈ L, p.load.size ≤ 3000 := fun p hp => by
  have := ((Pk.okl_iff p).1 (h p hp)).2.2.1
  omega
/-- The whole of both streams is got. -/
theorem Mixed.got {X Y acc : List Ln} {A B : ByteArray} (h : Mixed X Y acc X.length Y.length) (hx : Pk.strm 1 X = A.data.toList) (hy : Pk.strm 2 Y = B.data.toList) : foundV acc = .tuple #[.string A, .string B, .int .i64 0] := by
  rw [found_yes h.ok h.no, h.one, h.two, List.take_length, List.take_length, hx, hy]
theorem Mixed.refused {X Y acc Z : List Ln} {a b : Nat} (h : Mixed X Y acc a b) (hz : ∀ p ∈ Z, Pk.okl p = true ∧ Pk.ch p = 3) (h0 : 0 < Z.length) : foundV (acc ++ Z) = .tuple #[.string ⟨#[]⟩, .string ⟨#[]⟩, .int .i64 13] := by
  have hm : Z[0] ∈ Z := List.getElem_mem h0
  refine found_no (p := Z[0]) (fun p hp => ?_) (List.mem_append.2 (.inr hm)) (hz _ hm).2
  rcases List.mem_append.1 hp with h1 | h1
  · exact h.ok p h1
  · exact (hz p h1).1
def noS : ByteArray := ⟨#[110, 111]⟩
theorem no_lines (m : Nat) (h1 : 1 ≤ m) (h9 : m ≤ 999) : 0 < (Pk.put 3 m noS).length ∧ (Pk.put 3 m noS).length ≤ 2 ∧ ∀ p ∈ Pk.put 3 m noS, Pk.okl p = true ∧ Pk.ch p = 3 := by
  refine ⟨?_, Pk.put_len 3 m (by omega) noS, fun p hp => Pk.put_mem (c := 3) (by decide) (by omega) h9 hp⟩
  have h := Pk.put_strm 3 m (by omega) noS
  rcases Nat.eq_zero_or_pos (Pk.put 3 m noS).length with h0 | h0
  · rw [List.eq_nil_of_length_eq_zero h0] at h
    simp [Pk.strm, noS] at h
  · exact h0

set_option maxHeartbeats 1000000 in
set_option maxRecDepth 100000 in
theorem mixed_long (A B : ByteArray) (n : Int) (to : Option Addr) (tn tc : Nat) (w : World) (hA : A.size ≤ maxLen) (hB : B.size ≤ maxLen) (hT : tn ≤ maxLen) (h : 1500 < A.size ∨ 1500 < B.size ∨ 200 < tn) :
    Calls Try.prog 5 #[.agg #[.string A, .string B, .int .i64 n, .slice to tn tc]] w fun r w' => r = .returned (.bool true) ∧ Below w.heap.size w w' := by
  unfold maxLen at hA hB hT
  by_cases q1 : (1500 : Int) < (A.size : Int)
  · clear h
    go_enter Try.func5, Try.ntmps5
    go_wp2_with fail
    refine (knows_true _).mono ?_
    rintro r w1 ⟨rfl, hb1⟩
    go_wp2_with fail
    go_ret
    exact ⟨rfl, below_step (below_new _ _) hb1⟩
  · by_cases q2 : (1500 : Int) < (B.size : Int)
    · clear h
      go_enter Try.func5, Try.ntmps5
      go_wp2_with fail
      refine (knows_true _).mono ?_
      rintro r w1 ⟨rfl, hb1⟩
      go_wp2_with fail
      go_ret
      exact ⟨rfl, below_step (below_new _ _) hb1⟩
    · have q3 : (200 : Int) < (tn : Int) := by omega
      clear h
      go_enter Try.func5, Try.ntmps5
      go_wp2_with fail
      refine (knows_true _).mono ?_
      rintro r w1 ⟨rfl, hb1⟩
      go_wp2_with fail
      go_ret
      exact ⟨rfl, below_step (below_new _ _) hb1⟩

set_option maxHeartbeats 1000000 in
set_option maxRecDepth 100000 in
theorem mixed_bad (A B : ByteArray) (n : Int) (to : Option Addr) (tn tc : Nat) (w : World) (hA : A.size ≤ 1500) (hB : B.size ≤ 1500) (hT : tn ≤ 200) (h : n < 1 ∨ 999 < n) :
    Calls Try.prog 5 #[.agg #[.string A, .string B, .int .i64 n, .slice to tn tc]] w fun r w' => r = .returned (.bool true) ∧ Below w.heap.size w w' := by
  have q1 : ¬ (1500 : Int) < (A.size : Int) := by omega
  have q2 : ¬ (1500 : Int) < (B.size : Int) := by omega
  have q3 : ¬ (200 : Int) < (tn : Int) := by omega
  have HP := Lib.hid (fun W => put_bad 1 n A W (by omega))
  have HQ := Lib.hid (fun W => put_bad 2 n B W (by omega))
  by_cases q4 : n < 1
  · clear h
    go_enter Try.func5, Try.ntmps5
    go_wp2_with fail
    refine (HP.out _).mono ?_
    rintro r w1 ⟨rfl, rfl⟩
    go_wp2_with fail
    refine (HQ.out _).mono ?_
    rintro r w1 ⟨rfl, rfl⟩
    go_wp2_with fail
    refine (knows_true _).mono ?_
    rintro r w2 ⟨rfl, hb2⟩
    go_wp2_with fail
    go_ret
    exact ⟨rfl, below_step (below_new _ _) hb2⟩
  · have q5 : 999 < n := by omega
    clear h
    go_enter Try.func5, Try.ntmps5
    go_wp2_with fail
    refine (HP.out _).mono ?_
    rintro r w1 ⟨rfl, rfl⟩
    go_wp2_with fail
    refine (HQ.out _).mono ?_
    rintro r w1 ⟨rfl, rfl⟩
    go_wp2_with fail
    refine (knows_true _).mono ?_
    rintro r w2 ⟨rfl, hb2⟩
    go_wp2_with fail
    go_ret
    exact ⟨rfl, below_step (below_new _ _) hb2⟩

set_option maxHeartbeats 4000000 in
set_option maxRecDepth 100000 in
theorem mixed_ok (A B : ByteArray) (m : Nat) (to : Option Addr) (tc : Nat) (T : List Bool) (w : World) (hA : A.size ≤ 1500) (hB : B.size ≤ 1500) (hT : T.length ≤ 200) (hm1 : 1 ≤ m) (hm9 : m ≤ 999) (hTT : BoolsAt w (.slice to T.length tc) T) :
    Calls Try.prog 5 #[.agg #[.string A, .string B, .int .i64 (m : Int), .slice to T.length tc]] w fun r w' => r = .returned (.bool true) ∧ Below w.heap.size w w' := by
  have q1 : ¬ (1500 : Int) < (A.size : Int) := by omega
  have q2 : ¬ (1500 : Int) < (B.size : Int) := by omega
  have q3 : ¬ (200 : Int) < (T.length : Int) := by omega
  obtain ⟨i0, hi, hz0, hz1, hz2⟩ := info_parts infoPk
  have HI := Lib.hid infoPkt
  have HP : Hid (∀ W, Calls Try.prog 7 #[.int .i64 1, .string A, .int .i64 (m : Int)] W fun r w' => ∃ v, r = .returned (.tuple #[v, .int .i64 0]) ∧ OwnR 34 w' W.heap.size v (Pk.put 1 m A) ∧ Below W.heap.size W w') := fun W => put_ok 1 m A W (by decide) ⟨hm1, hm9⟩ (by omega)
  have HQ : Hid (∀ W, Calls Try.prog 7 #[.int .i64 2, .string B, .int .i64 (m : Int)] W fun r w' => ∃ v, r = .returned (.tuple #[v, .int .i64 0]) ∧ OwnR 34 w' W.heap.size v (Pk.put 2 m B) ∧ Below W.heap.size W w') := fun W => put_ok 2 m B W (by decide) ⟨hm1, hm9⟩ (by omega)
  have HZ : Hid (∀ W, Calls Try.prog 7 #[.int .i64 3, .string ⟨#[110, 111]⟩, .int .i64 (m : Int)] W fun r w' => ∃ v, r = .returned (.tuple #[v, .int .i64 0]) ∧ OwnR 34 w' W.heap.size v (Pk.put 3 m noS) ∧ Below W.heap.size W w') := fun W => put_ok 3 m noS W (by decide) ⟨hm1, hm9⟩ (by decide)
  obtain ⟨z0, z2, z3⟩ := no_lines m hm1 hm9
  have HZ3 := Lib.hid z3
  have hXl := Pk.put_len 1 m (by omega) A
  have hYl := Pk.put_len 2 m (by omega) B
  have HX1 := Lib.hid (show ∀ e ∈ Pk.put 1 m A, Pk.okl e = true ∧ Pk.ch e = 1 from fun e he => Pk.put_mem (c := 1) (by decide) (by omega) hm9 he)
  have HY2 := Lib.hid (show ∀ e ∈ Pk.put 2 m B, Pk.okl e = true ∧ Pk.ch e = 2 from fun e he => Pk.put_mem (c := 2) (by decide) (by omega) hm9 he)
  have HXS := Lib.hid (show Pk.strm 1 (Pk.put 1 m A) = A.data.toList from Pk.put_strm 1 m (by omega) A)
  have HYS := Lib.hid (show Pk.strm 2 (Pk.put 2 m B) = B.data.toList from Pk.put_strm 2 m (by omega) B)
  have HTT := Lib.hid hTT
  clear hTT z3
  generalize Pk.put 1 m A = X at *
  generalize Pk.put 2 m B = Y at *
  generalize Pk.put 3 m noS = Z at *
  have hX3 : X.length ≤ 1500 := by omega
  have hY3 : Y.length ≤ 1500 := by omega
  clear hXl hYl
  have HBX := Lib.hid (fun W (hW : Below (w.alloc (.cells #[.string A, .string B, .int .i64 (m : Int), .slice to T.length tc] 42)).heap.size (w.alloc (.cells #[.string A, .string B, .int .i64 (m : Int), .slice to T.length tc] 42)) W) => cells4 ((hW.block w.heap.size (by simp)).trans (heap_alloc_new w (.cells #[.string A, .string B, .int .i64 (m : Int), .slice to T.length tc] 42))))
  have HB0 := Lib.hid (below_new w (.cells #[.string A, .string B, .int .i64 (m : Int), .slice to T.length tc] 42))
  go_enter Try.func5, Try.ntmps5
  go_wp2_with fail
  refine (HP.out _).mono ?_
  rintro r w1 ⟨vx, rfl, hownx, hb1⟩
  obtain ⟨xo, xc, rfl⟩ := hownx.rows.form
  have HRX := Lib.hid hownx.rows
  have ⟨d0, d1, d2, d3⟩ := HBX.out w1 hb1
  clear hownx
  go_wp2_with fail
  refine (HQ.out _).mono ?_
  rintro r w2 ⟨vy, rfl, howny, hb2⟩
  obtain ⟨yo, yc, rfl⟩ := howny.rows.form
  have HLY := Lib.hid howny.rows
  have HLX := Lib.hid (HRX.out.below hb2)
  have hb12 := below_step hb1 hb2
  have HB02 := Lib.hid (HB0.out.trans (hb12.mono HB0.out.size))
  have HB12 := Lib.hid hb12
  have HTW := Lib.hid (HTT.out.below HB02.out)
  clear howny hb1 hb2 hb12 d0 d1 d2 d3 HRX HTT
  go_wp2_with fail
  go_loopw [9, 10, 11, 12] (fun v i j k wr => ∃ (a b q : Nat) (acc : List Ln), i = .int .i64 a ∧ j = .int .i64 b ∧ k = .int .i64 q ∧ a ≤ X.length ∧ b ≤ Y.length ∧ q ≤ a + b ∧ acc.length ≤ a + b ∧ Hid (Mixed X Y acc a b) ∧ OwnR 34 wr w2.heap.size v acc ∧ Below w2.heap.size w2 wr) (fun _ i j _ _ => (X.length - (intOf i).toNat) + (Y.length - (intOf j).toNat))
  case atStart => exact ⟨0, 0, 0, [], rfl, rfl, rfl, Nat.zero_le _, Nat.zero_le _, Nat.zero_le _, Nat.zero_le _, Mixed.start X Y, own_nil _ _ _, Below.refl _ _⟩
  case round =>
    obtain ⟨a, b, q, acc, rfl, rfl, rfl, ha, hbb, hq, hal, HM, hown, hb⟩ := hrel
    have hbs := hb.size
    by_cases hyl : b < Y.length
    · have hy1 : (b : Int) < (Y.length : Int) := by omega
      by_cases hxl : a < X.length
      · have hx1 : (a : Int) < (X.length : Int) := by omega
        by_cases hql : q < T.length
        · have hq1 : (q : Int) < (T.length : Int) := by omega
          have hq0 : (0 : Int) ≤ (q : Int) := by omega
          obtain ⟨tb, ht⟩ : ∃ tb, T[q]? = some tb := ⟨T[q], List.getElem?_eq_getElem hql⟩
          obtain ⟨tp, etp, ct⟩ := (HTW.out.below hb).elem q tb ht
          subst etp
          clear ht
          cases tb with
          | true =>
            obtain ⟨e, he⟩ : ∃ e, X[a]? = some e := ⟨X[a], List.getElem?_eq_getElem hxl⟩
            obtain ⟨p, ep, c0, c1⟩ := (HLX.out.below hb).elem a e he
            have ⟨oe, ce⟩ := HX1.out e (List.mem_of_getElem? he)
            have HC := Lib.hid (elem_cells c0 c1)
            have HM2 := Lib.hid (HM.out.left he oe ce)
            subst ep
            clear he oe ce c0 c1 HM
            go_wp2_with (first | ((with_reducible apply ld_at (hc := HC.out) (hi := HI.out)); rfl; rfl; rfl; rfl; rfl) | (at_builtin; refine wpList_append_own _ rfl _ _ 23 rfl w2.heap.size 34 i0 (.agg #[.int .i64 0, .string ⟨#[]⟩]) 2 24 Try.underlying23 hi hz0 hz1 hz2 rfl (by decide) _ _ _ rfl (World.ownsRow.alloc hown _) ⟨_, 0, none⟩ 1 1 [.int .i64 e.kind, .string e.load] rfl ?s1 ?s2 ?s3 ?s4 ?s5 ?s6 ?_))
            case s1 => rfl
            case s2 => exact news_row (l := [.int .i64 e.kind, .string e.load]) (heap_alloc_new _ _)
            case s3 => exact lnC_one e
            case s4 => unfold maxLen; omega
            case s5 => omega
            case s6 => simp; omega
            intro v' w3 hown3 hgrow _
            have hb' : Below w2.heap.size w2 w3 := ((hb.alloc hb.size _).grown hgrow (by simp; omega) (fun k hk => (hown.lt k hk).1))
            have HO2 := Lib.hid (own_push (p := e) hown3)
            clear hown hgrow hown3
            go_wp2_with fail
            exact ⟨⟨a + 1, b, q + 1, acc ++ [e], by go_num, by go_num, by go_num, by omega, by omega, by omega, by simp; omega, HM2, HO2.out, hb'⟩, by simp [intOf]; omega⟩
          | false =>
            obtain ⟨e, he⟩ : ∃ e, Y[b]? = some e := ⟨Y[b], List.getElem?_eq_getElem hyl⟩
            obtain ⟨p, ep, c0, c1⟩ := (HLY.out.below hb).elem b e he
            have ⟨oe, ce⟩ := HY2.out e (List.mem_of_getElem? he)
            have HC := Lib.hid (elem_cells c0 c1)
            have HM2 := Lib.hid (HM.out.right he oe ce)
            subst ep
            clear he oe ce c0 c1 HM
            go_wp2_with (first | ((with_reducible apply ld_at (hc := HC.out) (hi := HI.out)); rfl; rfl; rfl; rfl; rfl) | (at_builtin; refine wpList_append_own _ rfl _ _ 23 rfl w2.heap.size 34 i0 (.agg #[.int .i64 0, .string ⟨#[]⟩]) 2 24 Try.underlying23 hi hz0 hz1 hz2 rfl (by decide) _ _ _ rfl (World.ownsRow.alloc hown _) ⟨_, 0, none⟩ 1 1 [.int .i64 e.kind, .string e.load] rfl ?t1 ?t2 ?t3 ?t4 ?t5 ?t6 ?_))
            case t1 => rfl
            case t2 => exact news_row (l := [.int .i64 e.kind, .string e.load]) (heap_alloc_new _ _)
            case t3 => exact lnC_one e
            case t4 => unfold maxLen; omega
            case t5 => omega
            case t6 => simp; omega
            intro v' w3 hown3 hgrow _
            have hb' : Below w2.heap.size w2 w3 := ((hb.alloc hb.size _).grown hgrow (by simp; omega) (fun k hk => (hown.lt k hk).1))
            have HO2 := Lib.hid (own_push (p := e) hown3)
            clear hown hgrow hown3
            go_wp2_with fail
            exact ⟨⟨a, b + 1, q + 1, acc ++ [e], by go_num, by go_num, by go_num, by omega, by omega, by omega, by simp; omega, HM2, HO2.out, hb'⟩, by simp [intOf]; omega⟩
        · have hq1 : ¬ (q : Int) < (T.length : Int) := by omega
          obtain ⟨e, he⟩ : ∃ e, Y[b]? = some e := ⟨Y[b], List.getElem?_eq_getElem hyl⟩
          obtain ⟨p, ep, c0, c1⟩ := (HLY.out.below hb).elem b e he
          have ⟨oe, ce⟩ := HY2.out e (List.mem_of_getElem? he)
          have HC := Lib.hid (elem_cells c0 c1)
          have HM2 := Lib.hid (HM.out.right he oe ce)
          subst ep
          clear he oe ce c0 c1 HM
          go_wp2_with (first | ((with_reducible apply ld_at (hc := HC.out) (hi := HI.out)); rfl; rfl; rfl; rfl; rfl) | (at_builtin; refine wpList_append_own _ rfl _ _ 23 rfl w2.heap.size 34 i0 (.agg #[.int .i64 0, .string ⟨#[]⟩]) 2 24 Try.underlying23 hi hz0 hz1 hz2 rfl (by decide) _ _ _ rfl (World.ownsRow.alloc hown _) ⟨_, 0, none⟩ 1 1 [.int .i64 e.kind, .string e.load] rfl ?u1 ?u2 ?u3 ?u4 ?u5 ?u6 ?_))
          case u3 => exact ⟨rfl, rfl⟩
          case u4 => unfold maxLen; omega
          case u5 => omega
          case u6 => omega
          intro v' w3 hown3 hgrow _
          have hb' : Below w2.heap.size w2 w3 := ((hb.alloc hb.size _).grown hgrow (by simp; omega) (fun k hk => (hown.lt k hk).1))
          have HO2 := Lib.hid (own_push (p := e) hown3)
          clear hown hgrow hown3
          go_wp2_with fail
          exact ⟨⟨a, b + 1, q + 1, acc ++ [e], by go_num, by go_num, by go_num, by omega, by omega, by omega, by simp; omega, HM2, HO2.out, hb'⟩, by simp [intOf]; omega⟩
      · have hx1 : ¬ (a : Int) < (X.length : Int) := by omega
        obtain ⟨e, he⟩ : ∃ e, Y[b]? = some e := ⟨Y[b], List.getElem?_eq_getElem hyl⟩
        obtain ⟨p, ep, c0, c1⟩ := (HLY.out.below hb).elem b e he
        have ⟨oe, ce⟩ := HY2.out e (List.mem_of_getElem? he)
        have HC := Lib.hid (elem_cells c0 c1)
        have HM2 := Lib.hid (HM.out.right he oe ce)
        subst ep
        clear he oe ce c0 c1 HM
        go_wp2_with (first | ((with_reducible apply ld_at (hc := HC.out) (hi := HI.out)); rfl; rfl; rfl; rfl; rfl) | (at_builtin; refine wpList_append_own _ rfl _ _ 23 rfl w2.heap.size 34 i0 (.agg #[.int .i64 0, .string ⟨#[]⟩]) 2 24 Try.underlying23 hi hz0 hz1 hz2 rfl (by decide) _ _ _ rfl (World.ownsRow.alloc hown _) ⟨_, 0, none⟩ 1 1 [.int .i64 e.kind, .string e.load] rfl ?v1 ?v2 ?v3 ?v4 ?v5 ?v6 ?_))
        case v3 => exact ⟨rfl, rfl⟩
        case v4 => unfold maxLen; omega
        case v5 => omega
        case v6 => omega
        intro v' w3 hown3 hgrow _
        have hb' : Below w2.heap.size w2 w3 := ((hb.alloc hb.size _).grown hgrow (by simp; omega) (fun k hk => (hown.lt k hk).1))
        have HO2 := Lib.hid (own_push (p := e) hown3)
        clear hown hgrow hown3
        go_wp2_with fail
        exact ⟨⟨a, b + 1, q + 1, acc ++ [e], by go_num, by go_num, by go_num, by omega, by omega, by omega, by simp; omega, HM2, HO2.out, hb'⟩, by simp [intOf]; omega⟩
    · have hy1 : ¬ (b : Int) < (Y.length : Int) := by omega
      by_cases hxl : a < X.length
      · have hx1 : (a : Int) < (X.length : Int) := by omega
        obtain ⟨e, he⟩ : ∃ e, X[a]? = some e := ⟨X[a], List.getElem?_eq_getElem hxl⟩
        obtain ⟨p, ep, c0, c1⟩ := (HLX.out.below hb).elem a e he
        have ⟨oe, ce⟩ := HX1.out e (List.mem_of_getElem? he)
        have HC := Lib.hid (elem_cells c0 c1)
        have HM2 := Lib.hid (HM.out.left he oe ce)
        subst ep
        clear he oe ce c0 c1 HM
        go_wp2_with (first | ((with_reducible apply ld_at (hc := HC.out) (hi := HI.out)); rfl; rfl; rfl; rfl; rfl) | (at_builtin; refine wpList_append_own _ rfl _ _ 23 rfl w2.heap.size 34 i0 (.agg #[.int .i64 0, .string ⟨#[]⟩]) 2 24 Try.underlying23 hi hz0 hz1 hz2 rfl (by decide) _ _ _ rfl (World.ownsRow.alloc hown _) ⟨_, 0, none⟩ 1 1 [.int .i64 e.kind, .string e.load] rfl ?y1 ?y2 ?y3 ?y4 ?y5 ?y6 ?_))
        case y3 => exact ⟨rfl, rfl⟩
        case y4 => unfold maxLen; omega
        case y5 => omega
        case y6 => omega
        intro v' w3 hown3 hgrow _
        have hb' : Below w2.heap.size w2 w3 := ((hb.alloc hb.size _).grown hgrow (by simp; omega) (fun k hk => (hown.lt k hk).1))
        have HO2 := Lib.hid (own_push (p := e) hown3)
        clear hown hgrow hown3
        go_wp2_with fail
        exact ⟨⟨a + 1, b, q + 1, acc ++ [e], by go_num, by go_num, by go_num, by omega, by omega, by omega, by simp; omega, HM2, HO2.out, hb'⟩, by simp [intOf]; omega⟩
      · have hx1 : ¬ (a : Int) < (X.length : Int) := by omega
        have ea : a = X.length := by omega
        have eb : b = Y.length := by omega
        have HMM := HM.out
        rw [ea, eb] at HMM
        have HG := Lib.hid (get_any _ acc _ hown.rows (by omega) (ok_size HM.out.ok))
        rw [HMM.got HXS.out HYS.out] at HG
        have HGZ := Lib.hid (fun W v (h : LinesAt W v (acc ++ Z)) => get_any v (acc ++ Z) W h (by rw [List.length_append]; omega) (ok_size (fun p hp => by
          rcases List.mem_append.1 hp with h1 | h1
          · exact HM.out.ok p h1
          · exact (HZ3.out p h1).1)))
        rw [HM.out.refused HZ3.out z0] at HGZ
        clear HM HMM ea eb
        go_wp2_with fail
        refine HG.out.mono ?_
        rintro r w3 ⟨rfl, hb3⟩
        have hown3 := own_below hown hb3
        have hb23 := hb.trans (hb3.mono hb.size)
        clear hown hb3 HG
        go_wp2_with fail
        refine (HZ.out _).mono ?_
        rintro r w4 ⟨vz, rfl, hownz, hb4⟩
        have hown4 := own_below hown3 hb4
        have hb24 := hb23.trans (hb4.mono hb23.size)
        have hs4 := hb24.size
        obtain ⟨gz, cz, rfl, _, _⟩ := World.ownsRow.form hownz z0
        have HZC := Lib.hid (World.ownsRow.cells hownz (g := gz) rfl)
        have HZL := Lib.hid (show (Z.flatMap lnC).length = Z.length * 2 from hownz.1)
        clear hown3 hownz hb4 hb23
        go_wp2_with (at_builtin; refine wpList_append_own _ rfl _ _ 23 rfl w2.heap.size 34 i0 (.agg #[.int .i64 0, .string ⟨#[]⟩]) 2 24 Try.underlying23 hi hz0 hz1 hz2 rfl (by decide) _ _ _ rfl hown4 ⟨gz, 0, none⟩ Z.length cz (Z.flatMap lnC) rfl ?z1 ?z2 ?z3 ?z4 ?z5 ?z6 ?_)
        case z1 => exact HZL.out
        case z2 => exact HZC.out
        case z3 => exact flat_one Z
        case z4 => unfold maxLen; omega
        case z5 => omega
        case z6 => omega
        intro v5 w5 hown5 hgrow5 _
        have hb25 := hb24.grown hgrow5 hs4 (fun k hk => (hown4.lt k hk).1)
        have HR5 := Lib.hid (own_cat hown5).rows
        clear hown4 hown5 hgrow5 hb24
        go_wp2_with fail
        refine (HGZ.out w5 v5 HR5.out).mono ?_
        rintro r w6 ⟨rfl, hb6⟩
        have hb26 := hb25.trans (hb6.mono hb25.size)
        clear hb6 hb25
        go_wp2_with fail
        refine (knows_true _).mono ?_
        rintro r w7 ⟨rfl, hb7⟩
        have hb27 := hb26.trans (hb7.mono hb26.size)
        have ⟨d0, d1, d2, d3⟩ := HBX.out w7 (HB12.out.trans (hb27.mono HB12.out.size))
        have HBF := Lib.hid (HB02.out.trans (hb27.mono HB02.out.size))
        clear hb7 hb26
        go_wp2_with fail
        go_ret
        exact ⟨rfl, HBF.out⟩

theorem bandmixed_any (A B : ByteArray) (n : Int) (to : Option Addr) (tc : Nat) (T : List Bool) (w : World) (hA : A.size ≤ maxLen) (hB : B.size ≤ maxLen) (hT : T.length ≤ maxLen) (hTT : BoolsAt w (.slice to T.length tc) T) :
    Calls Try.prog 5 #[.agg #[.string A, .string B, .int .i64 n, .slice to T.length tc]] w fun r w' => r = .returned (.bool true) ∧ Below w.heap.size w w' := by
  by_cases h : 1500 < A.size ∨ 1500 < B.size ∨ 200 < T.length
  · exact mixed_long A B n to _ tc w hA hB hT h
  · by_cases h2 : n < 1 ∨ 999 < n
    · exact mixed_bad A B n to _ tc w (by omega) (by omega) (by omega) h2
    · obtain ⟨m, rfl⟩ := Int.eq_ofNat_of_zero_le (show 0 ≤ n by omega)
      exact mixed_ok A B m to tc T w (by omega) (by omega) (by omega) (by omega) (by omega) hTT

end Go.Proofs.Ytaaemdmeicjnbaa
