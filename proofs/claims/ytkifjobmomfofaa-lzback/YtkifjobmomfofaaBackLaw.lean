/-
  THE WALK OF THE LAW LzBack: whatever the text, the byte and the number, the law answers true.
-/
import Derived.Test.YtkifjobmomfofaaWalksK
namespace Go.Proofs.Ytkifjobmomfofaa
open Go.RowKit Go.WideMaps Go.Maps
set_option linter.unusedVariables false
set_option linter.unusedSimpArgs false

theorem eqs_rep (n : Nat) (x : UInt8) : ∀ i j, i < (List.replicate n x).length → j < (List.replicate n x).length → (List.replicate n x).getD i 0 = (List.replicate n x).getD j 0 := fun i j hi hj => by
  rw [Lz.getD_at _ _ hi, Lz.getD_at _ _ hj, List.getElem_replicate, List.getElem_replicate]

set_option maxHeartbeats 2000000 in
set_option maxRecDepth 100000 in
theorem lzback_some (s : ByteArray) (y : UInt8) (tm : Nat) (w : World) (h1 : ¬ (1500 : Int) < (s.size : Int)) (htm : tm < 65536) (hx : ¬ s = ByteArray.empty) :
    Calls Try.prog 5 #[.string s, .int .u8 (y.toNat : Int), .int .u16 tm] w fun r w' => r = .returned (.bool true) ∧ Below w.heap.size w w' := by
    obtain ⟨i0, hi, hz0, hz1, hz2⟩ := info_parts Try.infoByte
    have hlen := size_list s
    have HLEN := Lib.hid hlen
    clear hlen
    have hy := y.toNat_lt
    have hse : s.toList.isEmpty = false := by have := not_empty hx; simpa using this
    have hse2 := not_empty hx
    have HNE := Lib.hid (list_ne hx)
    have hsp := size_ne hx
    go_enter Try.func5, Try.ntmps5
    go_wp2_with fail
    refine (pack_any s _ (by omega)).mono ?_
    rintro e w1 ⟨p, rfl, hP, hb1⟩
    have hps := hP.size
    rw [size_list, HLEN.out] at hps
    have hpm : p.size ≤ maxLen := by unfold maxLen; omega
    have HA := Lib.hid (show Lz.unp p.data.toList (s.size : Int) = (0, s.data.toList) by rw [← HLEN.out]; exact hP.back)
    have HB := Lib.hid (show Lz.unp p.data.toList ((s.size : Int) - 1) = (3, (ByteArray.empty).data.toList) by rw [← HLEN.out]; exact hP.less HNE.out)
    have hps2 : ¬ (s.size : Int) + 1 < (p.size : Int) := by omega
    clear hP
    go_wp2_with fail
    refine (unpack_eq p (s.size : Int) 0 s _ hpm (by omega) HA.out).mono ?_
    rintro e w2 ⟨rfl, hb2⟩
    go_wp2_with fail
    refine (refunpack_eq p (s.size : Int) 0 s _ hpm (by omega) HA.out).mono ?_
    rintro e w3 ⟨rfl, hb3⟩
    go_wp2_with fail
    refine (unpack_eq p ((s.size : Int) - 1) 3 ByteArray.empty _ hpm (by omega) HB.out).mono ?_
    rintro e w4 ⟨rfl, hb4⟩
    have hb5 := below_step (below_step (below_step hb1 hb2) hb3) hb4
    clear hb1 hb2 hb3 hb4 HA HB
    go_wp2_with fail
    go_loopw [14, 15] (fun o i wr => ∃ k : Nat, k ≤ tm % 4097 ∧ i = .int .i64 k ∧ wr.ownsRow w.heap.size 5 1 o (List.replicate k y).length (cellsOf (List.replicate k y)) ∧ Below w.heap.size w wr) (fun _ i _ => tm % 4097 - (intOf i).toNat)
    case atStart => exact ⟨0, Nat.zero_le _, rfl, World.ownsRow_nil _ _ _ _, hb5⟩
    case round =>
      obtain ⟨k, hk, rfl, hown, hb⟩ := hrel
      clear hb5
      have hbs := hb.size
      have hrl : (List.replicate k y).length ≤ 4097 := by rw [List.length_replicate]; omega
      by_cases hlt : (k : Int) < (tm : Int) % 4097
      · have HR := Lib.hid (show List.replicate k y ++ [y] = List.replicate (k + 1) y from (List.replicate_succ').symm)
        have HLOW := Lib.hid hown.lt
        generalize List.replicate k y = rk at *
        go_wp2_with (at_builtin; refine wpList_append_own _ rfl _ _ 36 rfl w.heap.size 5 i0 (.int .u8 0) 1 1 Try.underlying36 hi hz0 hz1 hz2 rfl (by decide) _ _ _ rfl (hown.alloc _) ⟨wr.heap.size, 0, none⟩ 1 1 [.int .u8 (y.toNat : Int)] rfl rfl ?c1 ?c2 ?c3 ?c4 ?c5 ?_)
        case c1 => exact cell_one_new _ _ _
        case c2 => intro u hu; simp at hu; subst hu; rfl
        case c3 => unfold maxLen; omega
        case c4 => omega
        case c5 => simp; omega
        intro v' w3 hown' hgrow _
        rw [cellsOf_snoc rk _ _ rfl, HR.out] at hown'
        have hb' : Below w.heap.size w w3 := (hb.alloc (by omega) _).grown hgrow (by simp; omega) (fun k hk => (HLOW.out k hk).1)
        have hl2 := congrArg List.length HR.out
        rw [List.length_append, List.length_singleton] at hl2
        rw [hl2] at hown'
        clear hown hgrow hl2
        go_wp2_with fail
        exact ⟨⟨k + 1, by omega, by go_num, hown', hb'⟩, by simp [intOf]; omega⟩
      · obtain rfl : k = tm % 4097 := by omega
        have hel := eqs_rep (tm % 4097) y
        have HEL := Lib.hid hel
        have hlen2 : (List.replicate (tm % 4097) y).length ≤ 4096 := by rw [List.length_replicate]; omega
        generalize List.replicate (tm % 4097) y = rk at *
        clear hel
        have hcv := ret_bytes hown
        have hrb : (ByteArray.mk rk.toArray).data.toList = rk := by simp
        have hrs : (ByteArray.mk rk.toArray).size = rk.length := by rw [← size_list, hrb]
        have HRB := Lib.hid hrb
        clear hrb
        generalize hbe : ByteArray.mk rk.toArray = rb at *
        clear hbe
        obtain ⟨pa, cap, rfl⟩ := own_slice hown
        have hrbs : rb.size ≤ 4096 := by omega
        have HRS := Lib.hid hrs
        clear hrs
        go_wp2_with fail
        refine (pack_any rb _ (by omega)).mono ?_
        rintro e w6 ⟨q, rfl, hQ, hb6⟩
        rw [HRB.out] at hQ
        have hq8 := hQ.eqs HEL.out hlen2
        rw [size_list] at hq8
        have hqm : q.size ≤ maxLen := by unfold maxLen; omega
        have HQ := Lib.hid (show Lz.unp q.data.toList (rk.length : Int) = (0, rb.data.toList) by rw [HRB.out]; exact hQ.back)
        have hown6 := own_below hown hb6
        have hb66 := hb.trans (hb6.mono hb.size)
        clear hQ hown hb hb6 hcv
        go_wp2_with fail
        refine (unpack_eq q (rk.length : Int) 0 rb _ hqm (by omega) HQ.out).mono ?_
        rintro e w7 ⟨rfl, hb7⟩
        have hown7 := own_below hown6 hb7
        have hb77 := hb66.trans (hb7.mono hb66.size)
        clear hown6 hb66 hb7
        go_wp2_with fail
        refine (knows_true _).mono ?_
        rintro e w8 ⟨rfl, hb8⟩
        have hown8 := own_below hown7 hb8
        have hb88 := hb77.trans (hb8.mono hb77.size)
        have hcv8 := ret_bytes hown8
        rw [show (⟨rk.toArray⟩ : ByteArray) = rb by rw [← HRB.out]] at hcv8
        have hq8' : (q.size : Int) ≤ 8 := by omega
        clear hown7 hb77 hb8 hown8
        go_wp2_with fail
        go_ret
        exact ⟨rfl, hb88⟩

set_option maxHeartbeats 2000000 in
set_option maxRecDepth 100000 in
theorem lzback_none (y : UInt8) (tm : Nat) (w : World) (htm : tm < 65536) :
    Calls Try.prog 5 #[.string ByteArray.empty, .int .u8 (y.toNat : Int), .int .u16 tm] w fun r w' => r = .returned (.bool true) ∧ Below w.heap.size w w' := by
    obtain ⟨i0, hi, hz0, hz1, hz2⟩ := info_parts Try.infoByte
    have hy := y.toNat_lt
    go_enter Try.func5, Try.ntmps5
    go_wp2_with fail
    refine (pack_any ByteArray.empty _ (by decide)).mono ?_
    rintro e w1 ⟨p, rfl, hP, hb1⟩
    have hps := hP.size
    rw [size_list, show ByteArray.empty.data.toList.length = 0 from rfl] at hps
    have hpm : p.size ≤ maxLen := by unfold maxLen; omega
    have HA := Lib.hid (show Lz.unp p.data.toList 0 = (0, (ByteArray.empty).data.toList) from hP.back)
    have HB := Lib.hid (show Lz.unp p.data.toList (-1) = (1, (ByteArray.empty).data.toList) from hP.none rfl)
    have hps2 : ¬ (1 : Int) < (p.size : Int) := by omega
    clear hP
    go_wp2_with fail
    refine (unpack_eq p 0 0 ByteArray.empty _ hpm (by omega) HA.out).mono ?_
    rintro e w2 ⟨rfl, hb2⟩
    go_wp2_with fail
    refine (refunpack_eq p 0 0 ByteArray.empty _ hpm (by omega) HA.out).mono ?_
    rintro e w3 ⟨rfl, hb3⟩
    go_wp2_with fail
    refine (unpack_eq p (-1) 1 ByteArray.empty _ hpm (by omega) HB.out).mono ?_
    rintro e w4 ⟨rfl, hb4⟩
    have hb5 := below_step (below_step (below_step hb1 hb2) hb3) hb4
    clear hb1 hb2 hb3 hb4 HA HB
    go_wp2_with fail
    go_loopw [14, 15] (fun o i wr => ∃ k : Nat, k ≤ tm % 4097 ∧ i = .int .i64 k ∧ wr.ownsRow w.heap.size 5 1 o (List.replicate k y).length (cellsOf (List.replicate k y)) ∧ Below w.heap.size w wr) (fun _ i _ => tm % 4097 - (intOf i).toNat)
    case atStart => exact ⟨0, Nat.zero_le _, rfl, World.ownsRow_nil _ _ _ _, hb5⟩
    case round =>
      obtain ⟨k, hk, rfl, hown, hb⟩ := hrel
      clear hb5
      have hbs := hb.size
      have hrl : (List.replicate k y).length ≤ 4097 := by rw [List.length_replicate]; omega
      by_cases hlt : (k : Int) < (tm : Int) % 4097
      · have HR := Lib.hid (show List.replicate k y ++ [y] = List.replicate (k + 1) y from (List.replicate_succ').symm)
        have HLOW := Lib.hid hown.lt
        generalize List.replicate k y = rk at *
        go_wp2_with (at_builtin; refine wpList_append_own _ rfl _ _ 36 rfl w.heap.size 5 i0 (.int .u8 0) 1 1 Try.underlying36 hi hz0 hz1 hz2 rfl (by decide) _ _ _ rfl (hown.alloc _) ⟨wr.heap.size, 0, none⟩ 1 1 [.int .u8 (y.toNat : Int)] rfl rfl ?c1 ?c2 ?c3 ?c4 ?c5 ?_)
        case c1 => exact cell_one_new _ _ _
        case c2 => intro u hu; simp at hu; subst hu; rfl
        case c3 => unfold maxLen; omega
        case c4 => omega
        case c5 => simp; omega
        intro v' w3 hown' hgrow _
        rw [cellsOf_snoc rk _ _ rfl, HR.out] at hown'
        have hb' : Below w.heap.size w w3 := (hb.alloc (by omega) _).grown hgrow (by simp; omega) (fun k hk => (HLOW.out k hk).1)
        have hl2 := congrArg List.length HR.out
        rw [List.length_append, List.length_singleton] at hl2
        rw [hl2] at hown'
        clear hown hgrow hl2
        go_wp2_with fail
        exact ⟨⟨k + 1, by omega, by go_num, hown', hb'⟩, by simp [intOf]; omega⟩
      · obtain rfl : k = tm % 4097 := by omega
        have hel := eqs_rep (tm % 4097) y
        have HEL := Lib.hid hel
        have hlen2 : (List.replicate (tm % 4097) y).length ≤ 4096 := by rw [List.length_replicate]; omega
        generalize List.replicate (tm % 4097) y = rk at *
        clear hel
        have hcv := ret_bytes hown
        have hrb : (ByteArray.mk rk.toArray).data.toList = rk := by simp
        have hrs : (ByteArray.mk rk.toArray).size = rk.length := by rw [← size_list, hrb]
        have HRB := Lib.hid hrb
        clear hrb
        generalize hbe : ByteArray.mk rk.toArray = rb at *
        clear hbe
        obtain ⟨pa, cap, rfl⟩ := own_slice hown
        have hrbs : rb.size ≤ 4096 := by omega
        have HRS := Lib.hid hrs
        clear hrs
        go_wp2_with fail
        refine (pack_any rb _ (by omega)).mono ?_
        rintro e w6 ⟨q, rfl, hQ, hb6⟩
        rw [HRB.out] at hQ
        have hq8 := hQ.eqs HEL.out hlen2
        rw [size_list] at hq8
        have hqm : q.size ≤ maxLen := by unfold maxLen; omega
        have HQ := Lib.hid (show Lz.unp q.data.toList (rk.length : Int) = (0, rb.data.toList) by rw [HRB.out]; exact hQ.back)
        have hown6 := own_below hown hb6
        have hb66 := hb.trans (hb6.mono hb.size)
        clear hQ hown hb hb6 hcv
        go_wp2_with fail
        refine (unpack_eq q (rk.length : Int) 0 rb _ hqm (by omega) HQ.out).mono ?_
        rintro e w7 ⟨rfl, hb7⟩
        have hown7 := own_below hown6 hb7
        have hb77 := hb66.trans (hb7.mono hb66.size)
        clear hown6 hb66 hb7
        go_wp2_with fail
        refine (knows_true _).mono ?_
        rintro e w8 ⟨rfl, hb8⟩
        have hown8 := own_below hown7 hb8
        have hb88 := hb77.trans (hb8.mono hb77.size)
        have hcv8 := ret_bytes hown8
        rw [show (⟨rk.toArray⟩ : ByteArray) = rb by rw [← HRB.out]] at hcv8
        have hq8' : (q.size : Int) ≤ 8 := by omega
        clear hown7 hb77 hb8 hown8
        go_wp2_with fail
        go_ret
        exact ⟨rfl, hb88⟩

set_option maxHeartbeats 2000000 in
set_option maxRecDepth 100000 in
theorem lzback_any (s : ByteArray) (y : UInt8) (tm : Nat) (w : World) (hs : s.size ≤ maxLen) (htm : tm < 65536) :
    Calls Try.prog 5 #[.string s, .int .u8 (y.toNat : Int), .int .u16 tm] w fun r w' => r = .returned (.bool true) ∧ Below w.heap.size w w' := by
  have hsz := hs
  unfold maxLen at hsz
  by_cases h1 : (1500 : Int) < (s.size : Int)
  · go_enter Try.func5, Try.ntmps5
    go_wp2_with fail
    refine (knows_true _).mono ?_
    rintro e w1 ⟨rfl, hb1⟩
    go_wp2_with fail
    go_ret
    exact ⟨rfl, hb1⟩
  · by_cases hx : s = ByteArray.empty
    · subst hx; exact lzback_none y tm w htm
    · exact lzback_some s y tm w h1 htm hx

end Go.Proofs.Ytkifjobmomfofaa
