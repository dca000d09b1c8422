/-
  WALKS OF LAYER 1: Put (varint), Put (knapsackref01).
-/
import Derived.Test.YtcicfjfbnbkkcaaDoorViGet
namespace Go.Proofs.YtcicfjfbnbkkcaaDoor
open Go.RowKit
set_option linter.unusedVariables false

theorem Tryd.infoByte : (Tryd.prog.info? 5).map (fun i => (i.zero, i.size, i.bytes)) = some (some (.int .u8 0), 1, 1) := by kernel_rfl

/-- Bytes as the cells of a row. -/
def cellsOf (l : List UInt8) : List Value := l.map fun b => Value.int .u8 (b.toNat : Int)
theorem cellsOf_length (l : List UInt8) : (cellsOf l).length = l.length := by simp [cellsOf]

theorem cellsOf_snoc (l : List UInt8) (b : UInt8) (x : Int) (h : x = (b.toNat : Int)) : cellsOf l ++ [.int .u8 x] = cellsOf (l ++ [b]) := by
  subst h; simp [cellsOf]

/-- A row of bytes that is owned, and not empty: where it lies, and its cells. -/
theorem own_bytes {w : World} {base : Nat} {v : Value} {n : Nat} {l : List UInt8} (h : w.ownsRow base 5 1 v n (cellsOf l)) (hn : 0 < n) :
    ∃ g cap, v = .slice (some ⟨g, 0, none⟩) n cap ∧ n = l.length ∧ base ≤ g ∧ ∀ (j : Nat) (hj : j < l.length), w.cell? ((⟨g, 0, none⟩ : Addr).add j) = some (.int .u8 ((l[j]).toNat : Int)) := by
  have hl := h.1
  rw [cellsOf_length] at hl
  have hnl : n = l.length := by omega
  rcases h.2 with ⟨_, h0⟩ | ⟨g, cap, cur, hv, hg, _⟩
  · omega
  · refine ⟨g, cap, hv, hnl, hg, fun j hj => ?_⟩
    refine h.cells (by rw [hv]; rfl) j _ ?_
    simp [cellsOf, hj]

theorem u8_or128 (m : Nat) : bits .or .u8 ((m : Int) % 128) 128 = ((m % 128 + 128).toUInt8.toNat : Int) := by
  rw [Lib.u8_or128_any _ (by omega) (by omega)]
  have : (m % 128 + 128).toUInt8.toNat = m % 128 + 128 := by simp [Nat.toUInt8]; omega
  omega

theorem ret_str {a b : ByteArray} (h : a = b) : Ending.returned (.string a) = .returned (.string b) := by rw [h]

set_option maxHeartbeats 400000 in
set_option maxRecDepth 100000 in
theorem put_any (n : Nat) (w : World) (hn : n < 18446744073709551616) :
    Calls Tryd.prog 49 #[.int .u64 n] w fun r w' => r = .returned (.string ⟨(Lib.uvarint n).toArray⟩) ∧ Below w.heap.size w w' := by
  obtain ⟨i0, hi, hz0, hz1, hz2⟩ := info_parts Tryd.infoByte
  have h10 := Lib.uvarint_length64 hn
  go_enter Tryd.func49, Tryd.ntmps49
  go_wp2
  go_loopw [0, 3] (fun x b wr => ∃ (m : Nat) (acc : List UInt8), x = .int .u64 m ∧ m ≤ n ∧ Hid (Lib.uvarint n = acc ++ Lib.uvarint m) ∧ wr.ownsRow w.heap.size 5 1 b acc.length (cellsOf acc) ∧ Below w.heap.size w wr) (fun x _ _ => (intOf x).toNat)
  case atStart => exact ⟨n, [], rfl, Nat.le_refl _, rfl, World.ownsRow_nil _ _ _ _, Below.refl _ _⟩
  case round =>
    obtain ⟨m, acc, rfl, hm, HU, hown, hb⟩ := hrel
    have hacc : acc.length + (Lib.uvarint m).length ≤ 10 := by have := HU.out; rw [this] at h10; simpa using h10
    have hbs := hb.size
    by_cases hlt : (128 : Int) ≤ (m : Int)
    · go_wp2_with (at_builtin; refine wpList_append_own _ rfl _ _ 55 rfl w.heap.size 5 i0 (.int .u8 0) 1 1 Tryd.underlying55 hi hz0 hz1 hz2 rfl (by decide) _ _ _ rfl (hown.alloc _) ⟨wr.heap.size, 0, none⟩ 1 1 [.int .u8 (bits BinOp.or IntKind.u8 ((m : Int) % 128) 128)] rfl rfl ?c1 ?c2 ?c3 ?c4 ?c5 ?_)
      case c1 => exact cell_one_new _ _ _
      case c2 => intro u hu; simp at hu; subst hu; rfl
      case c3 => unfold maxLen; omega
      case c4 => omega
      case c5 => simp; omega
      intro v' w1 hown' hgrow _
      rw [cellsOf_snoc acc _ _ (u8_or128 m)] at hown'
      have hb' : Below w.heap.size w w1 := (hb.alloc hbs _).grown hgrow (by simp; omega) (fun k hk => (hown.lt k hk).1)
      clear hown hgrow hb
      have hmid : Lib.uvarint n = (acc ++ [(m % 128 + 128).toUInt8]) ++ Lib.uvarint (m / 128) := by
        rw [HU.out, Lib.uvarint_big (by omega)]; simp
      have HU' := Lib.hid hmid
      clear hmid HU
      go_wp2
      exact ⟨⟨m / 128, acc ++ [(m % 128 + 128).toUInt8], by go_num, by omega, HU'.out, by simpa using hown', hb'⟩, by simp [intOf]; omega⟩
    · have hmid : Lib.uvarint n = acc ++ [m.toUInt8] := by rw [HU.out, Lib.uvarint_small (by omega)]
      have HU' := Lib.hid hmid
      clear hmid HU
      go_wp2_with (at_builtin; refine wpList_append_own _ rfl _ _ 55 rfl w.heap.size 5 i0 (.int .u8 0) 1 1 Tryd.underlying55 hi hz0 hz1 hz2 rfl (by decide) _ _ _ rfl (hown.alloc _) ⟨wr.heap.size, 0, none⟩ 1 1 [.int .u8 (m : Int)] rfl rfl (by exact cell_one_new _ _ _) ?d2 ?d3 ?d4 ?d5 ?_)
      case d2 => first | rfl | (intro u hu; simp at hu; subst hu; rfl)
      case d3 => unfold maxLen; omega
      case d4 => omega
      case d5 => first | omega | (simp; omega)
      intro v' w1 hown' hgrow _
      have e8 : (m : Int) = (m.toUInt8.toNat : Int) := by
        have : m.toUInt8.toNat = m := by simp [Nat.toUInt8]; omega
        omega
      rw [cellsOf_snoc acc _ _ e8] at hown'
      have hb' : Below w.heap.size w w1 := (hb.alloc hbs _).grown hgrow (by simp; omega) (fun k hk => (hown.lt k hk).1)
      clear hown hgrow hb e8
      obtain ⟨g, cap, rfl, hnl, hg, hcells⟩ := own_bytes hown' (by omega)
      have hcv := run_convert_bytes_back (P := Tryd.prog) w1 55 9 5 ⟨g, 0, none⟩ cap _ Tryd.underlying55 Tryd.underlying5 Tryd.underlying9 hcells
      rw [← hnl] at hcv
      clear hcells hown' hnl
      go_wp2
      go_ret
      exact ⟨ret_str (by rw [HU'.out]), hb'⟩

/-- 'string([]byte{x})': the row that was just laid, as a string. -/
theorem conv_one (w : World) (b : UInt8) (x : Int) (h : x = (b.toNat : Int)) : (convert 55 9 (.slice (some ⟨w.heap.size, 0, none⟩) 1 1)).run Tryd.prog (w.alloc (.cells #[.int .u8 x] 5)) = .ok (.string ⟨#[b]⟩) (w.alloc (.cells #[.int .u8 x] 5)) := by
  subst h
  exact run_convert_bytes_back (P := Tryd.prog) (w.alloc (.cells #[.int .u8 (b.toNat : Int)] 5)) 55 9 5 ⟨w.heap.size, 0, none⟩ 1 [b] Tryd.underlying55 Tryd.underlying5 Tryd.underlying9 (fun j hj => by
    have hj0 : j = 0 := by simpa using hj
    subst hj0
    exact cell_one_new w _ 5 0 _ rfl)

theorem bytes_snoc (acc : List UInt8) (x y : UInt8) (h : x = y) : (ByteArray.mk acc.toArray ++ ByteArray.mk #[x]) = ByteArray.mk (acc ++ [y]).toArray := by
  subst h; exact ByteArray.mk_append_mk acc [x]
theorem val_str {a b : ByteArray} (h : a = b) : Value.string a = .string b := by rw [h]

set_option maxHeartbeats 400000 in
set_option maxRecDepth 100000 in
theorem refput_any (n : Nat) (w : World) (hn : n < 18446744073709551616) :
    Calls Tryd.prog 61 #[.int .u64 n] w fun r w' => r = .returned (.string ⟨(Lib.uvarint n).toArray⟩) ∧ Below w.heap.size w w' := by
  have h10 := Lib.uvarint_length64 hn
  go_enter Tryd.func61, Tryd.ntmps61
  go_wp2
  go_loopw [0, 3] (fun x b wr => ∃ (m : Nat) (acc : List UInt8), x = .int .u64 m ∧ m ≤ n ∧ Hid (Lib.uvarint n = acc ++ Lib.uvarint m) ∧ b = .string ⟨acc.toArray⟩ ∧ Below w.heap.size w wr) (fun x _ _ => (intOf x).toNat)
  case atStart => exact ⟨n, [], rfl, Nat.le_refl _, rfl, rfl, Below.refl _ _⟩
  case round =>
    obtain ⟨m, acc, rfl, hm, HU, rfl, hb⟩ := hrel
    have hacc : acc.length + (Lib.uvarint m).length ≤ 10 := by have := HU.out; rw [this] at h10; simpa using h10
    have hbs := hb.size
    by_cases hlt : (128 : Int) ≤ (m : Int)
    · have hcv := conv_one wr (m % 128 + 128).toUInt8 (128 + (m : Int) % 128) (by have : (m % 128 + 128).toUInt8.toNat = m % 128 + 128 := by { simp [Nat.toUInt8]; omega }; omega)
      have hmid : Lib.uvarint n = (acc ++ [(m % 128 + 128).toUInt8]) ++ Lib.uvarint (m / 128) := by
        rw [HU.out, Lib.uvarint_big (by omega)]; simp
      have HU' := Lib.hid hmid
      clear hmid HU
      go_wp2_with fail
      exact ⟨⟨m / 128, acc ++ [(m % 128 + 128).toUInt8], by go_num, by omega, HU'.out, val_str (bytes_snoc _ _ _ (by simp)), hb.alloc hbs _⟩, by simp [intOf]; omega⟩
    · have hcv := conv_one wr m.toUInt8 (m : Int) (by have : m.toUInt8.toNat = m := by { simp [Nat.toUInt8]; omega }; omega)
      have hmid : Lib.uvarint n = acc ++ [m.toUInt8] := by rw [HU.out, Lib.uvarint_small (by omega)]
      have HU' := Lib.hid hmid
      clear hmid HU
      go_wp2_with fail
      go_ret
      exact ⟨ret_str (by rw [HU'.out]; exact bytes_snoc _ _ _ (by simp)), hb.alloc hbs _⟩

end Go.Proofs.YtcicfjfbnbkkcaaDoor
