/-
  WALKS OF LAYER 2: ending.
-/
import Derived.Test.YtijlmeodfmanmaaDoorWalksA
import Derived.Test.YtijlmeodfmanmaaDoorBytes
import Derived.IntWalk
namespace Go.Proofs.YtijlmeodfmanmaaDoor
open Go.RowKit
set_option linter.unusedVariables false
set_option linter.unusedSimpArgs false
open Sh (Wd)

theorem ret_str {a b : ByteArray} (h : a = b) : Ending.returned (.string a) = .returned (.string b) := by rw [h]
theorem gap_more (n k : Nat) (hk : k ≤ Sh.gap n) (h : (n + k) % 64 ≠ 56) : k < Sh.gap n := by unfold Sh.gap at *; omega
theorem gap_end (n k : Nat) (hk : k ≤ Sh.gap n) (h : (n + k) % 64 = 56) : k = Sh.gap n := by unfold Sh.gap at *; omega
theorem gap_lt (n : Nat) : Sh.gap n < 64 := by unfold Sh.gap; omega
def lenB : Value → Nat
  | .slice _ n _ => n
  | _ => 0
/-- The bytes, the mark, and some zeros. -/
def zs (l : List UInt8) (k : Nat) : List UInt8 := l ++ [128] ++ List.replicate k 0
theorem zs_len (l : List UInt8) (k : Nat) : (zs l k).length = l.length + 1 + k := by simp [zs]; omega
theorem zs_zero (l : List UInt8) : zs l 0 = l ++ [128] := by simp [zs]
theorem zs_succ (l : List UInt8) (k : Nat) : zs l k ++ [0] = zs l (k + 1) := by simp [zs, List.replicate_succ']
/-- .. and some bytes of the length. -/
def es (l : List UInt8) (m k : Nat) : List UInt8 := zs l (Sh.gap (l.length + 1)) ++ (List.range k).map (Sh.be8 m)
theorem es_len (l : List UInt8) (m k : Nat) : (es l m k).length = l.length + 1 + Sh.gap (l.length + 1) + k := by simp [es, zs_len]
theorem es_zero (l : List UInt8) (m : Nat) : es l m 0 = zs l (Sh.gap (l.length + 1)) := by simp [es]
theorem es_succ (l : List UInt8) (m k : Nat) : es l m k ++ [Sh.be8 m k] = es l m (k + 1) := by simp [es, List.range_succ]
theorem es_all (l : List UInt8) (n : Nat) : es l (8 * n) 8 = Sh.ending l n := by simp [es, zs, Sh.ending]
theorem repl_snoc (l : List UInt8) (k : Nat) : l ++ List.replicate k 0 ++ [0] = l ++ List.replicate (k + 1) 0 := by rw [List.append_assoc, ← List.replicate_succ']
theorem be8_eq (n k : Nat) (hk : k < 8) : ((n : Int) / 2 ^ (56 - 8 * k)) % 256 = ((Sh.be8 n k).toNat : Int) := by
  simp [Sh.be8, UInt8.toNat_ofNat']
theorem range_snoc (l : List UInt8) (f : Nat → UInt8) (k : Nat) : l ++ (List.range k).map f ++ [f k] = l ++ (List.range (k + 1)).map f := by
  rw [List.range_succ, List.map_append, List.append_assoc]; rfl

set_option maxHeartbeats 800000 in
set_option maxRecDepth 100000 in
theorem ending_any (last : ByteArray) (n : Nat) (w : World) (hl : last.size ≤ 70368744177664) (hn : n ≤ 140737488355328) :
    Calls Tryd.prog 18 #[.string last, .int .u64 (n : Int)] w fun r w' => r = .returned (.string ⟨(Sh.ending last.data.toList n).toArray⟩) ∧ Below w.heap.size w w' := by
  have hcv := Lib.run_convert_string_bytes (P := Tryd.prog) w 9 46 5 last Tryd.underlying9 Tryd.underlying46 Tryd.underlying5
  have hown := OwnB.conv w last (by unfold maxLen; omega)
  have hbl := below_conv w last
  have HL := Lib.hid (show last.data.toList.length = last.size by simp)
  generalize Lib.bytesWorld w 5 last = wb at hcv hown hbl
  generalize hv : Value.slice (some ⟨w.heap.size, 0, none⟩) last.size (grownCap w last.size 0 5) = v0 at hcv hown
  clear hv
  generalize hE : (⟨(Sh.ending last.data.toList n).toArray⟩ : ByteArray) = E
  have HE := Lib.hid hE
  clear hE
  have hwn : IntKind.u64.wrap (8 * (n : Int)) = 8 * (n : Int) := by
    simp [IntKind.wrap, IntKind.bits, IntKind.signed]; omega
  have hl0 : last.data.toList.length ≤ 70368744177664 := by rw [HL.out]; omega
  generalize hll : last.data.toList = l at hown HL HE hl0
  clear hll
  go_enter Tryd.func18, Tryd.ntmps18
  go_wp2_with (at_builtin; go_must (refine wpList_push (by rfl) _ _ (by rfl) v0 l (by rfl) w wb _ 128 rfl hown hbl (by rfl) (by omega) ?_))
  intro v1 w1 ho1 hb1
  clear hcv hown hbl
  go_wp2
  have hgl := gap_lt (l.length + 1)
  go_loopw [5] (fun v wr => ∃ (k : Nat), k ≤ Sh.gap (l.length + 1) ∧ OwnB wr w.heap.size v (zs l k) ∧ Below w.heap.size w wr) (fun v _ => l.length + 1 + 64 - lenB v)
  case atStart => exact ⟨0, Nat.zero_le _, by rw [zs_zero]; exact ho1, hb1⟩
  case round =>
    clear ho1 hb1
    obtain ⟨k, hk, ho, hb⟩ := hrel
    obtain ⟨p, cap, rfl⟩ := ho.form
    have HN := Lib.hid (zs_len l k)
    rw [HN.out] at ho ⊢
    by_cases h56 : (l.length + 1 + k) % 64 = 56
    · have hk' := gap_end _ _ hk h56
      have hd : (((l.length : Int) + 1 + (k : Int)) % 64 != 56) = false := by
        simp; omega
      rw [show zs l k = es l (8 * n) 0 by rw [es_zero, hk']] at ho
      clear hk' h56
      have HL' := Lib.hid hd
      go_wp2
      go_loopw [21, 5] (fun i v wr => ∃ (j : Nat), j ≤ 8 ∧ i = .int .i64 j ∧ OwnB wr w.heap.size v (es l (8 * n) j) ∧ Below w.heap.size w wr) (fun i _ _ => 8 - (intOf i).toNat)
      case atStart => exact ⟨0, by omega, rfl, ho, hb⟩
      case round =>
        clear ho hb
        obtain ⟨j, hj, rfl, ho, hb⟩ := hrel
        obtain ⟨p2, cap2, rfl⟩ := ho.form
        have hlen := es_len l (8 * n) j
        by_cases hlt : j < 8
        · have hb8 : (8 * (n : Int)) / 2 ^ (56 - 8 * j) % 256 = ((Sh.be8 (8 * n) j).toNat : Int) := by
            have := be8_eq (8 * n) j hlt
            rw [← this]; simp
          have hq : (56 - 8 * (j : Int)).toNat = 56 - 8 * j := by omega
          have hq0 : 0 ≤ 56 - 8 * (j : Int) := by omega
          have hlt' : (j : Int) < 8 := by omega
          have HB8 := Lib.hid hb8
          have HLN := Lib.hid (show (es l (8 * n) j).length + 1 ≤ 140737488355328 by omega)
          clear hb8 hlen
          go_wp2_with (at_builtin; go_must (refine wpList_push (by rfl) _ _ (by rfl) (.slice p2 (es l (8 * n) j).length cap2) _ (by rfl) w wr _ (Sh.be8 (8 * n) j) HB8.out ho hb (by rfl) HLN.out ?_))
          intro v2 w2 ho2 hb2
          rw [es_succ] at ho2
          clear ho hb
          go_wp2
          exact ⟨⟨j + 1, by omega, by go_num, ho2, hb2⟩, by simp [intOf]; omega⟩
        · obtain rfl : j = 8 := by omega
          have hne : es l (8 * n) 8 ≠ [] := fun h0 => by rw [h0] at hlen; simp at hlen
          have hcv := ho.back hne
          have hb' := hb
          have HEE := Lib.hid (show (⟨(es l (8 * n) 8).toArray⟩ : ByteArray) = E by rw [← HE.out, es_all])
          rw [HEE.out] at hcv
          clear hlen hne ho
          go_wp2
          go_ret
          exact ⟨rfl, hb'⟩
    · have hk' := gap_more _ _ hk h56
      have hd : (((l.length : Int) + 1 + (k : Int)) % 64 != 56) = true := by
        rw [bne_iff_ne]; omega
      go_wp2_with (at_builtin; go_must (refine wpList_push (by rfl) _ _ (by rfl) (.slice p (l.length + 1 + k) cap) _ (by rfl) w wr _ 0 rfl ho hb (by rfl) (by rw [HN.out]; omega) ?_))
      intro v2 w2 ho2 hb2
      rw [zs_succ] at ho2
      clear ho hb hd
      obtain ⟨p2, cap2, rfl⟩ := ho2.form
      have HN2 := Lib.hid (zs_len l (k + 1))
      rw [HN2.out] at ho2 ⊢
      go_wp2
      exact ⟨⟨k + 1, by omega, ho2, hb2⟩, by simp only [lenB]; omega⟩

end Go.Proofs.YtijlmeodfmanmaaDoor
