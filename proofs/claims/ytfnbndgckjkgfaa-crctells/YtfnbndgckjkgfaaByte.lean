/-
  WALKS OF LAYER 3: what was sealed is opened; the rows of the document's examples (knows); the law CrcByte.
-/
import Derived.Test.YtfnbndgckjkgfaaWalksB
import Derived.RegionTactic
import Derived.BigRegion
namespace Go.Proofs.Ytfnbndgckjkgfaa
open Go.RowKit
set_option linter.unusedVariables false
set_option linter.unusedSimpArgs false
open Cr (Wd)

theorem below_step {w w1 w2 : World} (h1 : Below w.heap.size w w1) (h2 : Below w1.heap.size w1 w2) : Below w.heap.size w w2 := h1.trans (h2.mono h1.size)

/-- A sealed text. -/
def sealed (s : ByteArray) : ByteArray := s ++ sumS s.data.toList
theorem list_append (a b : ByteArray) : (a ++ b).data.toList = a.data.toList ++ b.data.toList := by
  rw [ByteArray.data_append, Array.toList_append]
theorem sumS_list (l : List UInt8) : (sumS l).data.toList = Cr.sumB l := rfl
theorem sealed_list (s : ByteArray) : (sealed s).data.toList = s.data.toList ++ Cr.sumB s.data.toList := list_append _ _
theorem sealed_size (s : ByteArray) : (sealed s).size = s.size + 4 := by rw [← size_list, sealed_list, List.length_append, size_list, Cr.sumB_length]

/-- Parts of a text that is known as a list. -/
theorem front_of {t : ByteArray} {l r : List UInt8} (h : t.data.toList = l ++ r) (h4 : r.length = 4) : (t.extract 0 (t.size - 4)).data.toList = l := by
  have hz : t.size = l.length + 4 := by rw [← size_list, h, List.length_append, h4]
  rw [extract_data, h, hz, List.drop_zero, Nat.sub_zero, Nat.add_sub_cancel, List.take_left' rfl]
theorem back_of {t : ByteArray} {l r : List UInt8} (h : t.data.toList = l ++ r) (h4 : r.length = 4) : (t.extract (t.size - 4) t.size).data.toList = r := by
  have hz : t.size = l.length + 4 := by rw [← size_list, h, List.length_append, h4]
  rw [extract_data, h, hz, Nat.add_sub_cancel, List.drop_left' rfl, List.take_of_length_le (by omega)]

theorem open_sealed (s : ByteArray) (w : World) (hs : s.size ≤ 281474976710000) :
    Calls Try.prog 6 #[.string (sealed s)] w fun r w' => r = .returned (.tuple #[.string s, .int .i64 0]) ∧ Below w.heap.size w w' := by
  have hz := sealed_size s
  have h1 := front_of (sealed_list s) (Cr.sumB_length _)
  have h2 := back_of (sealed_list s) (Cr.sumB_length _)
  refine (open_ok (sealed s) w (by omega) (by omega) (bytes_ext ?_)).mono ?_
  · rw [h2, h1]; rfl
  · rintro r w' ⟨rfl, hb⟩
    exact ⟨ret_tuple2 (val_str (bytes_ext h1)) rfl, hb⟩

theorem knows_sum : (Cr.sum [49, 50, 51, 52, 53, 54, 55, 56, 57]).toNat = 3421780262 := by decide +kernel
theorem open_abcd (w : World) : Calls Try.prog 6 #[.string ⟨#[97, 98, 99, 100]⟩] w fun r w' => r = .returned (.tuple #[.string ⟨#[]⟩, .int .i64 5]) ∧ Below w.heap.size w w' :=
  open_bad ⟨#[97, 98, 99, 100]⟩ w (by decide) (by decide) (by decide +kernel)
theorem sum_knows (w : World) : Calls Try.prog 8 #[.string ⟨#[49, 50, 51, 52, 53, 54, 55, 56, 57]⟩] w fun r w' => r = .returned (.int .u32 3421780262) ∧ w = w' := by
  refine (sum_any ⟨#[49, 50, 51, 52, 53, 54, 55, 56, 57]⟩ w (by decide)).mono ?_
  rintro r w' ⟨rfl, h⟩
  refine ⟨ret_u32 ?_, h⟩
  exact congrArg Int.ofNat knows_sum
theorem seal_at (s : ByteArray) (w : World) (hs : s.size ≤ 281474976710656) :
    Calls Try.prog 10 #[.string s] w fun r w' => r = .returned (.string (sealed s)) ∧ Below w.heap.size w w' := seal_any s w hs

set_option maxHeartbeats 800000 in
set_option maxRecDepth 100000 in
theorem knows_true (w : World) : Calls Try.prog 5 #[] w fun r w' => r = .returned (.bool true) ∧ Below w.heap.size w w' := by
  go_enter Try.func5, Try.ntmps5
  go_wp2_with fail
  refine (open_short ⟨#[]⟩ _ (by decide)).mono ?_
  rintro r w1 ⟨rfl, rfl⟩
  go_wp2_with fail
  refine (open_abcd _).mono ?_
  rintro r w1 ⟨rfl, hb1⟩
  go_wp2_with fail
  refine (seal_at ⟨#[120]⟩ _ (by decide)).mono ?_
  rintro r w2 ⟨rfl, hb2⟩
  go_wp2_with fail
  refine (open_sealed ⟨#[120]⟩ _ (by decide)).mono ?_
  rintro r w3 ⟨rfl, hb3⟩
  go_wp2_with fail
  refine (sum_knows _).mono ?_
  rintro r w4 ⟨rfl, rfl⟩
  go_wp2_with fail
  go_ret
  exact ⟨rfl, below_step (below_step hb1 hb2) hb3⟩

/-! ### One byte turned -/
theorem xor_ne (a b : UInt8) (h : b ≠ 0) : a ^^^ b ≠ a := by
  intro e
  apply h
  have := congrArg (a ^^^ ·) e
  simpa [← UInt8.xor_assoc] using this

theorem set_split (l : List UInt8) (k : Nat) (c : UInt8) (hk : k < l.length) : l = l.take k ++ l[k] :: l.drop (k + 1) ∧ l.set k c = l.take k ++ c :: l.drop (k + 1) := by
  refine ⟨?_, ?_⟩
  · rw [← List.drop_eq_getElem_cons hk, List.take_append_drop]
  · rw [List.set_eq_take_append_cons_drop, if_pos hk]

/-- A sealed text with one byte another one is not one. -/
theorem turned_bad (s t : ByteArray) (k : Nat) (c : UInt8) (hk : k < (sealed s).data.toList.length) (hc : c ≠ (sealed s).data.toList[k]) (h : t.data.toList = (sealed s).data.toList.set k c) : t.size = (sealed s).size ∧ t.extract (t.size - 4) t.size ≠ sumS (t.extract 0 (t.size - 4)).data.toList := by
  have hz : t.size = (sealed s).size := by rw [← size_list, h, List.length_set, size_list]
  refine ⟨hz, fun e => ?_⟩
  have e' := congrArg (fun b : ByteArray => b.data.toList) e
  simp only [sumS_list] at e'
  have hl := sealed_list s
  by_cases hlt : k < s.data.toList.length
  · have h1 : t.data.toList = s.data.toList.set k c ++ Cr.sumB s.data.toList := by rw [h, hl, List.set_append_left _ _ hlt]
    rw [back_of h1 (Cr.sumB_length _), front_of h1 (Cr.sumB_length _)] at e'
    have e2 := Cr.sumB_inj _ _ e'
    obtain ⟨p1, p2⟩ := set_split s.data.toList k c hlt
    rw [p2] at e2
    have e3 : Cr.sum (s.data.toList.take k ++ s.data.toList[k] :: s.data.toList.drop (k + 1)) = Cr.sum (s.data.toList.take k ++ c :: s.data.toList.drop (k + 1)) := by rw [← p1]; exact e2
    have e4 := Cr.sum_other _ _ _ _ e3
    apply hc
    rw [← e4]
    simp only [hl]
    rw [List.getElem_append_left hlt]
  · have hlen : (sealed s).data.toList.length = s.data.toList.length + 4 := by rw [size_list, size_list, sealed_size]
    have h1 : t.data.toList = s.data.toList ++ (Cr.sumB s.data.toList).set (k - s.data.toList.length) c := by rw [h, hl, List.set_append_right _ _ (by omega)]
    rw [back_of h1 (by rw [List.length_set]; exact Cr.sumB_length _), front_of h1 (by rw [List.length_set]; exact Cr.sumB_length _)] at e'
    have hk2 : k - s.data.toList.length < (Cr.sumB s.data.toList).length := by rw [Cr.sumB_length]; omega
    have e2 := congrArg (fun l : List UInt8 => l[k - s.data.toList.length]?) e'
    simp only [List.getElem?_set_self hk2, List.getElem?_eq_getElem hk2, Option.some.injEq] at e2
    apply hc
    rw [e2]
    simp only [hl]
    rw [List.getElem_append_right (by omega)]

theorem xor_u8 (a b : UInt8) : bits .xor .u8 (a.toNat : Int) (b.toNat : Int) = ((a ^^^ b).toNat : Int) := by
  show IntKind.u8.wrap ((BitVec.ofInt 8 (a.toNat : Int) ^^^ BitVec.ofInt 8 (b.toNat : Int)).toNat : Int) = _
  have e : ∀ x : UInt8, BitVec.ofInt 8 (x.toNat : Int) = x.toBitVec := fun x => by
    apply BitVec.eq_of_toNat_eq
    have := x.toNat_lt
    simp
  rw [e, e]
  have := (a ^^^ b).toNat_lt
  rw [show (a.toBitVec ^^^ b.toBitVec).toNat = (a ^^^ b).toNat from rfl]
  generalize a ^^^ b = c at *
  simp [IntKind.wrap, IntKind.bits, IntKind.signed]
  omega
/-- 'string([]byte{x})': the row that was just laid, as a string. -/
theorem conv_one (w : World) (b : UInt8) (x : Int) (h : x = (b.toNat : Int)) : (convert 32 9 (.slice (some ⟨w.heap.size, 0, none⟩) 1 1)).run Try.prog (w.alloc (.cells #[.int .u8 x] 5)) = .ok (.string ⟨#[b]⟩) (w.alloc (.cells #[.int .u8 x] 5)) := by
  subst h
  exact conv_four _ w.heap.size [b] 5 _ rfl (heap_alloc_new _ _) 1 1 rfl

theorem conv_one_drew (w : World) (b : UInt8) : (convert 32 9 (.slice (some ⟨w.heap.size, 0, none⟩) 1 1)).run Try.prog (w.alloc (.cells #[.int .u8 (b.toNat : Int)] 5)).drew = .ok (.string ⟨#[b]⟩) (w.alloc (.cells #[.int .u8 (b.toNat : Int)] 5)).drew :=
  conv_four (w.alloc (.cells #[.int .u8 (b.toNat : Int)] 5)).drew w.heap.size [b] 5 #[.int .u8 (b.toNat : Int)] rfl (heap_alloc_new w _) 1 1 rfl

/-- The text with one byte turned. -/
theorem turned_list (t : ByteArray) (k : Nat) (b : UInt8) (hk : k < t.size) : (t.extract 0 k ++ ⟨#[b]⟩ ++ t.extract (k + 1) t.size).data.toList = t.data.toList.set k b := by
  rw [list_append, list_append, extract_data, extract_data, (set_split t.data.toList k b (by rw [size_list]; exact hk)).2]
  simp
  rw [List.take_of_length_le (by simp)]

set_option maxHeartbeats 800000 in
set_option maxRecDepth 100000 in
theorem byte_bad (s : ByteArray) (a : Nat) (b : UInt8) (w : World) (hs : s.size ≤ 281474976710000) (ha : a < 4294967296) (hb0 : b ≠ 0) :
    Calls Try.prog 4 #[.string s, .int .u32 (a : Int), .int .u8 (b.toNat : Int)] w fun r w' => r = .returned (.bool true) ∧ Below w.heap.size w w' := by
  have hz := sealed_size s
  generalize hk : a % (sealed s).size = k
  have hk1 : k < (sealed s).size := by rw [← hk]; exact Nat.mod_lt _ (by omega)
  have hkz : (a : Int) % ((s.size : Int) + 4) = (k : Int) := by rw [← hk, hz]; simp
  have hbn : (b.toNat : Int) ≠ 0 := fun e => hb0 (UInt8.toNat_inj.1 (by simpa using e))
  have hbp : (1 : Int) ≤ (b.toNat : Int) := by omega
  have HBN := Lib.hid hbn
  clear hbn
  have HO := Lib.hid (fun w => open_sealed s w hs)
  have HSL := Lib.hid (fun w => seal_at s w (by omega))
  have HBAD := Lib.hid (fun (T : ByteArray) (h : T.data.toList = (sealed s).data.toList.set k ((sealed s)[k] ^^^ b)) => turned_bad s T k ((sealed s)[k] ^^^ b) (by rw [size_list]; exact hk1) (xor_ne _ _ hb0) h)
  have hlist := turned_list (sealed s) k ((sealed s)[k] ^^^ b) hk1
  have hxor := xor_u8 (sealed s)[k] b
  generalize sealed s = t at *
  rw [hz] at hlist
  generalize t[k] ^^^ b = c at *
  generalize hT : t.extract 0 k ++ ⟨#[c]⟩ ++ t.extract (k + 1) (s.size + 4) = T at hlist
  have HT := Lib.hid hT
  obtain ⟨hTz, hTb⟩ := HBAD.out T hlist
  have HTB := Lib.hid hTb
  have h4 : 4 ≤ T.size := by omega
  have hTs : T.size ≤ 281474976710656 := by omega
  have HOB := Lib.hid (fun w => open_bad T w h4 hTs HTB.out)
  have hk2 : (k : Int) < (s.size : Int) + 4 := by omega
  have hk3 : (k : Int) ≤ (s.size : Int) + 4 := by omega
  have hk4 : (k : Int) + 1 ≤ (s.size : Int) + 4 := by omega
  have hk5 : ((k : Int) + 1).toNat = k + 1 := by omega
  clear hk hT hlist HTB HBAD hTb hTz h4 hTs
  go_enter Try.func4, Try.ntmps4
  go_wp2_with fail
  refine (HSL.out _).mono ?_
  rintro r w1 ⟨rfl, hb1⟩
  go_wp2_with fail
  refine (HO.out _).mono ?_
  rintro r w2 ⟨rfl, hb2⟩
  go_wp2_with fail
  have hcv := conv_one_drew w2 c
  go_big_region
  all_goals clear hcv
  all_goals go_wp2_with fail
  all_goals rw [HT.out]
  all_goals refine (HOB.out _).mono ?_
  all_goals rintro r w3 ⟨rfl, hb3⟩
  all_goals go_wp2_with fail
  all_goals refine (knows_true _).mono ?_
  all_goals rintro r w4 ⟨rfl, hb4⟩
  all_goals have he1 : ((b.toNat : Int) == 0) = false := beq_eq_false_iff_ne.2 HBN.out
  all_goals have he2 : ((b.toNat : Int) != 0) = true := bne_iff_ne.2 HBN.out
  all_goals go_wp2_with fail
  all_goals go_ret
  all_goals exact ⟨rfl, below_step (below_step (((below_step hb1 hb2).alloc (below_step hb1 hb2).size _).drew) hb3) hb4⟩

set_option maxHeartbeats 800000 in
set_option maxRecDepth 100000 in
theorem byte_same (s : ByteArray) (a : Nat) (w : World) (hs : s.size ≤ 281474976710000) (ha : a < 4294967296) :
    Calls Try.prog 4 #[.string s, .int .u32 (a : Int), .int .u8 0] w fun r w' => r = .returned (.bool true) ∧ Below w.heap.size w w' := by
  have hz := sealed_size s
  generalize hk : a % (sealed s).size = k
  have hk1 : k < (sealed s).size := by rw [← hk]; exact Nat.mod_lt _ (by omega)
  have hkz : (a : Int) % ((s.size : Int) + 4) = (k : Int) := by rw [← hk, hz]; simp
  have HO := Lib.hid (fun w => open_sealed s w hs)
  have HSL := Lib.hid (fun w => seal_at s w (by omega))
  obtain ⟨c, hc⟩ : ∃ c, c = (sealed s)[k] := ⟨_, rfl⟩
  have hlist := turned_list (sealed s) k c hk1
  have hset : (sealed s).data.toList.set k c = (sealed s).data.toList := by
    rw [hc, at_list _ k hk1]; exact List.set_getElem_self _
  rw [hset] at hlist
  have hT := bytes_ext hlist
  have hxor : bits .xor .u8 ((sealed s)[k].toNat : Int) 0 = (c.toNat : Int) := by
    have := xor_u8 (sealed s)[k] 0
    rw [UInt8.xor_zero] at this
    rw [hc]
    exact this
  clear hc
  generalize sealed s = t at *
  rw [hz] at hT
  have HT := Lib.hid hT
  have hk2 : (k : Int) < (s.size : Int) + 4 := by omega
  have hk3 : (k : Int) ≤ (s.size : Int) + 4 := by omega
  have hk4 : (k : Int) + 1 ≤ (s.size : Int) + 4 := by omega
  have hk5 : ((k : Int) + 1).toNat = k + 1 := by omega
  clear hk hT hlist hset
  go_enter Try.func4, Try.ntmps4
  go_wp2_with fail
  refine (HSL.out _).mono ?_
  rintro r w1 ⟨rfl, hb1⟩
  go_wp2_with fail
  refine (HO.out _).mono ?_
  rintro r w2 ⟨rfl, hb2⟩
  go_wp2_with fail
  have hcv := conv_one_drew w2 c
  go_big_region
  all_goals clear hcv
  all_goals go_wp2_with fail
  all_goals rw [HT.out]
  all_goals refine (HO.out _).mono ?_
  all_goals rintro r w3 ⟨rfl, hb3⟩
  all_goals go_wp2_with fail
  all_goals refine (knows_true _).mono ?_
  all_goals rintro r w4 ⟨rfl, hb4⟩
  all_goals go_wp2_with fail
  all_goals go_ret
  all_goals exact ⟨rfl, below_step (below_step (((below_step hb1 hb2).alloc (below_step hb1 hb2).size _).drew) hb3) hb4⟩

theorem byte_any (s : ByteArray) (a b : Nat) (w : World) (hs : s.size ≤ 281474976710000) (ha : a < 4294967296) (hb : b < 256) :
    Calls Try.prog 4 #[.string s, .int .u32 (a : Int), .int .u8 (b : Int)] w fun r w' => r = .returned (.bool true) ∧ Below w.heap.size w w' := by
  by_cases h0 : b = 0
  · subst h0; exact byte_same s a w hs ha
  · have e : (UInt8.ofNat b).toNat = b := by simp [UInt8.toNat_ofNat']; omega
    have := byte_bad s a (UInt8.ofNat b) w hs ha (fun h => h0 (by rw [← e, h]; rfl))
    rwa [e] at this

end Go.Proofs.Ytfnbndgckjkgfaa
