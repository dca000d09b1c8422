/-
  WALKS OF LAYER 7: digit, Figures, Fine, Bytes (knapsackref07); valid, head, headText, readHead (pkt).
-/
import Derived.Test.YtdmijinlhiohbaaRows
import Derived.Test.YtdmijinlhiohbaaMath
import Derived.Test.YtdmijinlhiohbaaShelf
import Derived.WalkKit
import Derived.WalkSpells
import Derived.WalkLawsBesides
import Derived.WalkSmall
import Derived.Lib.Hide
import Derived.Deep.QuietTactic
import Derived.BigQuiet
import Derived.BigRegion
import Derived.IntWalk
import Derived.OwnWalk
import Derived.Laws.Rows
import Derived.Laws.CopyOwn
import Derived.Deep.WholeRow
import Derived.Deep.Heap
import Derived.Lib.ConvBytes
import Derived.Deep.RegionWith
import Derived.Deep.RegionHeld3
import Derived.StillTailTactics
import Derived.Lib.AppendStr
namespace Go.Proofs.Ytdmijinlhiohbaa
open Go.RowKit
set_option linter.unusedVariables false
set_option linter.unusedSimpArgs false
open Pk (Ln)

theorem ret_str {a b : ByteArray} (h : a = b) : Ending.returned (.string a) = .returned (.string b) := by rw [h]
theorem ret_bool {a b : Bool} (h : a = b) : Ending.returned (.bool a) = .returned (.bool b) := by rw [h]
theorem ret_int {k : IntKind} {a b : Int} (h : a = b) : Ending.returned (.int k a) = .returned (.int k b) := by rw [h]
theorem ret_tuple2 {a a' b b' : Value} (h1 : a = a') (h2 : b = b') : Ending.returned (.tuple #[a, b]) = .returned (.tuple #[a', b']) := by rw [h1, h2]
theorem val_str {a b : ByteArray} (h : a = b) : Value.string a = .string b := by rw [h]
theorem val_int {k : IntKind} {a b : Int} (h : a = b) : Value.int k a = .int k b := by rw [h]
theorem below_step {w w1 w2 : World} (h1 : Below w.heap.size w w1) (h2 : Below w1.heap.size w1 w2) : Below w.heap.size w w2 := h1.trans (h2.mono h1.size)
theorem below_new (w : World) (o : Obj) : Below w.heap.size w (w.alloc o) := (Below.refl _ _).alloc (Nat.le_refl _) _
theorem size_list (b : ByteArray) : b.data.toList.length = b.size := rfl
theorem list_ne {x : ByteArray} (h : ¬ x = ByteArray.empty) : x.data.toList ≠ [] := fun e => h (by
  cases x with | mk d => cases d with | mk l => simp at e; subst e; rfl)
theorem size_ne {x : ByteArray} (h : ¬ x = ByteArray.empty) : 0 < x.size := by
  have := list_ne h
  have h2 := size_list x
  have : x.data.toList.length ≠ 0 := fun e => this (List.eq_nil_of_length_eq_zero e)
  omega
theorem not_empty {x : ByteArray} (h : ¬ x = ByteArray.empty) : (!x.toList.isEmpty) = true := by
  have := list_ne h
  rw [ByteArray.toList_eq]
  simpa using this
theorem data_append (a b : ByteArray) : (a ++ b).data.toList = a.data.toList ++ b.data.toList := by rw [ByteArray.data_append]; simp
theorem held_set {wr : World} {g : Nat} {cs : Array Value} {t : TypeId} (h : wr.heap[g]? = some (.cells cs t)) (i : Nat) (v : Value) : (wr.setCell ⟨g, i, none⟩ v).heap[g]? = some (.cells (cs.setIfInBounds i v) t) := heap_setCell_same wr g i cs t v h
theorem getD_byte (b : ByteArray) (j : Nat) (hj : j < b.size) : b.data.toList.getD j 0 = b[j] := by
  rw [List.getD_eq_getElem?_getD, List.getElem?_eq_getElem (by simpa using hj)]; rfl

/-- A line as a value. -/
def lnV (p : Ln) : Value := .agg #[.int .i64 p.kind, .string p.load]

theorem conv_one (w : World) (b : UInt8) (x : Int) (h : x = (b.toNat : Int)) : (convert 46 9 (.slice (some ⟨w.heap.size, 0, none⟩) 1 1)).run Try.prog (w.alloc (.cells #[.int .u8 x] 5)) = .ok (.string ⟨#[b]⟩) (w.alloc (.cells #[.int .u8 x] 5)) := by
  subst h
  exact run_convert_bytes_back (P := Try.prog) (w.alloc (.cells #[.int .u8 (b.toNat : Int)] 5)) 46 9 5 ⟨w.heap.size, 0, none⟩ 1 [b] Try.underlying46 Try.underlying5 Try.underlying9 (fun j hj => by
    have hj0 : j = 0 := by simpa using hj
    subst hj0
    exact cell_one_new w _ 5 0 _ rfl)
theorem hexd_lo (n : Int) (h0 : 0 ≤ n) (h : n < 10) : 48 + n = ((Pk.hexd n.toNat).toNat : Int) := by
  obtain ⟨k, rfl⟩ := Int.eq_ofNat_of_zero_le h0
  have hk : k < 10 := by omega
  simp [Pk.hexd, hk, UInt8.toNat_ofNat']; omega
theorem hexd_hi (n : Int) (h0 : 10 ≤ n) (h : n < 16) : 87 + n = ((Pk.hexd n.toNat).toNat : Int) := by
  obtain ⟨k, rfl⟩ := Int.eq_ofNat_of_zero_le (show 0 ≤ n by omega)
  have hk : ¬ k < 10 := by omega
  simp [Pk.hexd, hk, UInt8.toNat_ofNat']; omega

set_option maxRecDepth 100000 in
theorem digit_any (n : Int) (w : World) (h0 : 0 ≤ n) (h : n < 16) :
    Calls Try.prog 24 #[.int .i64 n] w fun r w' => r = .returned (.string ⟨#[Pk.hexd n.toNat]⟩) ∧ Below w.heap.size w w' := by
  by_cases h10 : n < 10
  · have hcv := conv_one w (Pk.hexd n.toNat) (48 + n) (hexd_lo n h0 h10)
    go_enter Try.func24, Try.ntmps24
    go_wp2
    go_ret
    exact ⟨rfl, below_new _ _⟩
  · have hcv := conv_one w (Pk.hexd n.toNat) (87 + n) (hexd_hi n (by omega) h)
    go_enter Try.func24, Try.ntmps24
    go_wp2
    go_ret
    exact ⟨rfl, below_new _ _⟩
theorem digit_nat (x : Int) (n : Nat) (w : World) (hx : x = n) (h : n < 16) :
    Calls Try.prog 24 #[.int .i64 x] w fun r w' => ∃ b : ByteArray, r = .returned (.string b) ∧ b.data.toList = [Pk.hexd n] ∧ b.size = 1 ∧ Below w.heap.size w w' := by
  subst hx
  refine (digit_any n w (by omega) (by omega)).mono ?_
  rintro r w' ⟨rfl, hb⟩
  exact ⟨_, rfl, by simp, rfl, hb⟩

/-- Four figures as a string. -/
def figS (n : Nat) : ByteArray := ⟨(Pk.fig n).toArray⟩
theorem figS_size (n : Nat) : (figS n).size = 4 := rfl
theorem figS_list (n : Nat) : (figS n).data.toList = Pk.fig n := rfl

set_option maxHeartbeats 800000 in
set_option maxRecDepth 100000 in
theorem figures_any (n : Nat) (w : World) (h : n < 65536) :
    Calls Try.prog 22 #[.int .i64 n] w fun r w' => r = .returned (.string (figS n)) ∧ Below w.heap.size w w' := by
  have hn0 : (0 : Int) ≤ (n : Int) := by omega
  have t1 : (n : Int).tdiv 4096 = ((n / 4096 : Nat) : Int) := by rw [Int.tdiv_eq_ediv_of_nonneg hn0]; rfl
  have t2 : (n : Int).tdiv 256 = ((n / 256 : Nat) : Int) := by rw [Int.tdiv_eq_ediv_of_nonneg hn0]; rfl
  have t3 : (n : Int).tdiv 16 = ((n / 16 : Nat) : Int) := by rw [Int.tdiv_eq_ediv_of_nonneg hn0]; rfl
  have t4 : ((n / 256 : Nat) : Int).tmod 16 = ((n / 256 % 16 : Nat) : Int) := by rw [Int.tmod_eq_emod_of_nonneg (by omega)]; rfl
  have t5 : ((n / 16 : Nat) : Int).tmod 16 = ((n / 16 % 16 : Nat) : Int) := by rw [Int.tmod_eq_emod_of_nonneg (by omega)]; rfl
  have t6 : (n : Int).tmod 16 = ((n % 16 : Nat) : Int) := by rw [Int.tmod_eq_emod_of_nonneg hn0]; rfl
  have HF := Lib.hid (show Pk.fig n = [Pk.hexd (n / 4096), Pk.hexd (n / 256 % 16), Pk.hexd (n / 16 % 16), Pk.hexd (n % 16)] from rfl)
  have HS := Lib.hid (figS_list n)
  have q1 : n / 4096 < 16 := by omega
  have q2 : n / 256 % 16 < 16 := by omega
  have q3 : n / 16 % 16 < 16 := by omega
  have q4 : n % 16 < 16 := by omega
  have r1 : n / 256 < 65536 := by omega
  have r2 : n / 16 < 65536 := by omega
  generalize figS n = F at *
  generalize Pk.fig n = fl at *
  generalize n / 4096 = a at *
  generalize n / 256 % 16 = b at *
  generalize n / 16 % 16 = c at *
  generalize n % 16 = d at *
  generalize n / 256 = e at *
  generalize n / 16 = f at *
  go_enter Try.func22, Try.ntmps22
  go_wp2_with fail
  refine (digit_nat _ a _ (by first | rfl | go_num) q1).mono ?_
  rintro _ w1 ⟨b1, rfl, e1, s1, hb1⟩
  go_wp2_with fail
  refine (digit_nat _ b _ (by first | rfl | go_num) q2).mono ?_
  rintro _ w2 ⟨b2, rfl, e2, s2, hb2⟩
  go_wp2_with fail
  refine (digit_nat _ c _ (by first | rfl | go_num) q3).mono ?_
  rintro _ w3 ⟨b3, rfl, e3, s3, hb3⟩
  go_wp2_with fail
  refine (digit_nat _ d _ (by first | rfl | go_num) q4).mono ?_
  rintro _ w4 ⟨b4, rfl, e4, s4, hb4⟩
  go_wp2_with fail
  go_ret
  refine ⟨ret_str (Pk.bytes_ext ?_), below_step (below_step (below_step hb1 hb2) hb3) hb4⟩
  rw [HS.out, HF.out]
  simp only [data_append, e1, e2, e3, e4]
  rfl

theorem isEmpty_iff (l : ByteArray) : l.toList.isEmpty = true ↔ l.size = 0 := by
  rw [ByteArray.toList_eq, List.isEmpty_iff, ← size_list]
  constructor
  · intro h; rw [h]; rfl
  · exact List.eq_nil_of_length_eq_zero

set_option maxHeartbeats 800000 in
set_option maxRecDepth 100000 in
theorem fine_any (p : Ln) (w : World) (hs : p.load.size ≤ maxLen) :
    Calls Try.prog 19 #[lnV p] w fun r w' => r = .returned (.bool (Pk.fine p)) ∧ Below w.heap.size w w' := by
  obtain ⟨k, l⟩ := p
  unfold maxLen at hs
  simp only at hs
  have HF := Lib.hid (Pk.fine_iff ⟨k, l⟩)
  have HE := Lib.hid (isEmpty_iff l)
  generalize Pk.fine ⟨k, l⟩ = z at *
  unfold lnV
  go_enter Try.func19, Try.ntmps19
  go_wp2
  all_goals go_ret
  all_goals refine ⟨ret_bool ?_, below_new _ _⟩
  all_goals
    have hf := HF.out
    have he := HE.out
    rw [Bool.eq_iff_iff]
    first
      | (rw [he, hf]; omega)
      | (rw [hf]; simp; omega)

set_option maxHeartbeats 800000 in
set_option maxRecDepth 100000 in
theorem valid_any (p : Ln) (w : World) (hs : p.load.size ≤ maxLen) :
    Calls Try.prog 16 #[lnV p] w fun r w' => r = .returned (.bool (Pk.fine p)) ∧ Below w.heap.size w w' := by
  obtain ⟨k, l⟩ := p
  unfold maxLen at hs
  simp only at hs
  have HF := Lib.hid (Pk.fine_iff ⟨k, l⟩)
  have HE := Lib.hid (isEmpty_iff l)
  generalize Pk.fine ⟨k, l⟩ = z at *
  unfold lnV
  rcases (by omega : k = 0 ∨ k = 1 ∨ k = 2 ∨ (k ≠ 0 ∧ k ≠ 1 ∧ k ≠ 2)) with rfl | rfl | rfl | ⟨h0, h1, h2⟩
  all_goals go_enter Try.func16, Try.ntmps16
  all_goals go_wp2
  all_goals go_ret
  all_goals refine ⟨ret_bool ?_, below_new _ _⟩
  all_goals
    have hf := HF.out
    have he := HE.out
    rw [Bool.eq_iff_iff]
    first
      | (rw [he, hf]; omega)
      | (rw [he, hf]; simp; done)
      | (rw [hf]; simp; omega)
      | (rw [hf]; simp_all; done)

set_option maxHeartbeats 800000 in
set_option maxRecDepth 100000 in
theorem head_any (p : Ln) (w : World) (hs : p.load.size ≤ 1000) :
    Calls Try.prog 18 #[lnV p] w fun r w' => r = .returned (.int .i64 (Pk.hd p)) ∧ Below w.heap.size w w' := by
  obtain ⟨k, l⟩ := p
  simp only at hs
  have HF := Lib.hid (show Pk.hd ⟨k, l⟩ = if k = 1 then 0 else if k = 2 then 1 else 4 + l.size from rfl)
  generalize Pk.hd ⟨k, l⟩ = z at *
  unfold lnV
  rcases (by omega : k = 1 ∨ k = 2 ∨ (k ≠ 1 ∧ k ≠ 2)) with rfl | rfl | ⟨h1, h2⟩
  · rw [if_pos rfl] at HF
    go_enter Try.func18, Try.ntmps18
    go_wp2
    go_ret
    exact ⟨ret_int (by rw [HF.out]; rfl), below_new _ _⟩
  · rw [if_neg (by decide), if_pos rfl] at HF
    go_enter Try.func18, Try.ntmps18
    go_wp2
    go_ret
    exact ⟨ret_int (by rw [HF.out]; rfl), below_new _ _⟩
  · rw [if_neg h1, if_neg h2] at HF
    go_enter Try.func18, Try.ntmps18
    go_wp2
    go_ret
    exact ⟨ret_int (by rw [HF.out]; omega), below_new _ _⟩

/-- Four places, the last of them filled with the figures of a number. -/
def four (n : Nat) (k : Nat) : Array Value := #[.int .u8 (if k < 1 then ((Pk.hexd (n / 4096)).toNat : Int) else 0), .int .u8 (if k < 2 then ((Pk.hexd (n / 256 % 16)).toNat : Int) else 0), .int .u8 (if k < 3 then ((Pk.hexd (n / 16 % 16)).toNat : Int) else 0), .int .u8 (if k < 4 then ((Pk.hexd (n % 16)).toNat : Int) else 0)]
theorem four_rest (n k : Nat) (h : k < 4) : (four n (k + 1))[k]? = some (.int .u8 0) := by
  have : k = 0 ∨ k = 1 ∨ k = 2 ∨ k = 3 := by omega
  rcases this with rfl | rfl | rfl | rfl <;> rfl
/-- The figure at a place, of what is left. -/
def dig (n k : Nat) : UInt8 := Pk.hexd (n / 16 ^ (3 - k) % 16)
theorem four_push (n k : Nat) (h : k < 4) (hn : n < 65536) : (four n (k + 1)).setIfInBounds k (.int .u8 ((dig n k).toNat : Int)) = four n k := by
  have : k = 0 ∨ k = 1 ∨ k = 2 ∨ k = 3 := by omega
  rcases this with rfl | rfl | rfl | rfl
  · have e : dig n 0 = Pk.hexd (n / 4096) := by unfold dig; rw [show n / 16 ^ (3 - 0) % 16 = n / 4096 by simp; omega]
    rw [e]; rfl
  · rfl
  · rfl
  · have e : dig n 3 = Pk.hexd (n % 16) := by unfold dig; simp
    rw [e]; rfl
theorem digs_at (m : Nat) (h : m < 16) : Pk.figs.data.toList.getD m 0 = Pk.hexd m := by
  have : ∀ x : Fin 16, Pk.figs.data.toList.getD x.val 0 = Pk.hexd x.val := by decide +kernel
  exact this ⟨m, h⟩
/-- Four bytes in memory, as a string. -/
theorem conv_four (w : World) (g : Nat) (l : List UInt8) (t : TypeId) (cs : Array Value) (hc : cs.toList = l.map fun b => Value.int .u8 (b.toNat : Int)) (h : w.heap[g]? = some (.cells cs t)) (n cap : Nat) (hn : n = l.length) :
    (convert 46 9 (.slice (some ⟨g, 0, none⟩) n cap)).run Try.prog w = .ok (.string ⟨l.toArray⟩) w := by
  subst hn
  refine run_convert_bytes_back (P := Try.prog) w 46 9 5 ⟨g, 0, none⟩ cap l Try.underlying46 Try.underlying5 Try.underlying9 (fun j hj => ?_)
  have hadd : (⟨g, 0, none⟩ : Addr).add j = ⟨g, j, none⟩ := by unfold Addr.add; split <;> simp_all
  rw [hadd, cell_of_row w g j cs _ _ h, ← Array.getElem?_toList, hc]
  simp [hj]

set_option maxHeartbeats 800000 in
set_option maxRecDepth 100000 in
theorem headText_any (n : Nat) (w : World) (hn : n < 65536) :
    Calls Try.prog 17 #[.int .i64 n] w fun r w' => r = .returned (.string (figS n)) ∧ Below w.heap.size w w' := by
  go_enter Try.func17, Try.ntmps17
  go_wp2_with fail
  go_loopw [0, 4] (fun x i wr => ∃ (k : Nat), k ≤ 4 ∧ i = .int .i64 ((k : Int) - 1) ∧ x = .int .i64 ((n / 16 ^ (4 - k) : Nat) : Int) ∧ Hid (wr.heap[w.heap.size]? = some (.cells (four n k) 54)) ∧ Below w.heap.size w wr) (fun _ i _ => (intOf i + 1).toNat)
  case atStart => exact ⟨4, by omega, rfl, by simp, heap_alloc_new _ _, below_new _ _⟩
  case round =>
    obtain ⟨k, hk, rfl, rfl, H, hb⟩ := hrel
    by_cases hlt : 0 < k
    · obtain ⟨k, rfl⟩ : ∃ k', k = k' + 1 := ⟨k - 1, by omega⟩
      have hk3 : k < 4 := by omega
      have c2 := (cell_of_row wr w.heap.size k _ _ _ H.out).trans (four_rest _ k hk3)
      have c3 := frozen_of_row wr w.heap.size k _ _ H.out
      have hx : n / 16 ^ (4 - (k + 1)) < 65536 := Nat.lt_of_le_of_lt (Nat.div_le_self _ _) hn
      have HD := Lib.hid (show n / 16 ^ (4 - k) = n / 16 ^ (4 - (k + 1)) / 16 by
        rw [Nat.div_div_eq_div_mul, ← Nat.pow_succ]; congr 2; omega)
      have HG := Lib.hid (show dig n k = Pk.hexd (n / 16 ^ (4 - (k + 1)) % 16) by unfold dig; rw [show 3 - k = 4 - (k + 1) by omega])
      generalize n / 16 ^ (4 - (k + 1)) = x at *
      have t1 : (x : Int).tmod 16 = ((x % 16 : Nat) : Int) := by rw [Int.tmod_eq_emod_of_nonneg (by omega)]; rfl
      have t2 : (x : Int).tdiv 16 = ((x / 16 : Nat) : Int) := by rw [Int.tdiv_eq_ediv_of_nonneg (by omega)]; rfl
      have e1 : ((k + 1 : Nat) : Int) - 1 = (k : Int) := by omega
      rw [e1]
      have hx16 : x % 16 < 16 := by omega
      have hx17 : ((x % 16 : Nat) : Int) < 16 := by omega
      have hx18 : (0 : Int) ≤ ((x % 16 : Nat) : Int) := by omega
      generalize x % 16 = d at *
      generalize hq : x / 16 = q at *
      have hq2 : q < 65536 := by omega
      have hk4 : (k : Int) < 4 := by omega
      go_wp2_with fail
      have hby : Pk.figs[d]'(by show d < 16; omega) = dig n k := by rw [HG.out, ← digs_at d hx16, getD_byte Pk.figs d hx16]; rfl
      refine ⟨⟨k, by omega, rfl, by rw [HD.out], ?_, hb.setCell (Nat.le_refl _) _⟩, by simp [intOf] <;> omega⟩
      rw [← four_push n k hk3 hn, ← hby]
      exact held_set H.out k _
    · obtain rfl : k = 0 := by omega
      have hcv := conv_four wr w.heap.size (Pk.fig n) 54 _ rfl H.out 4 4 rfl
      go_wp2_with fail
      go_ret
      exact ⟨rfl, hb⟩

theorem idx_all : ∀ c : Fin 256, Lib.indexByte Pk.figs.data.toList (UInt8.ofNat c.val) = Pk.unfig (UInt8.ofNat c.val) := by decide +kernel
theorem idx_any (c : UInt8) (w : World) : Calls Try.prog 23 #[.string ⟨#[48, 49, 50, 51, 52, 53, 54, 55, 56, 57, 97, 98, 99, 100, 101, 102]⟩, .int .u8 (c.toNat : Int)] w fun r w' => r = .returned (.int .i64 (Pk.unfig c)) ∧ w = w' := by
  refine (Try.strings_IndexByte Pk.figs (c.toNat : Int) w).mono ?_
  rintro r w' ⟨rfl, rfl⟩
  refine ⟨?_, rfl⟩
  have e : ((c.toNat : Int)).toNat.toUInt8 = c := by simp
  have h := idx_all ⟨c.toNat, c.toNat_lt⟩
  rw [show UInt8.ofNat (Fin.mk c.toNat c.toNat_lt).val = c by simp] at h
  rw [e, h]

/-- What readHead answers. -/
def rdV : Option Nat → Value
  | none => .tuple #[.int .i64 0, .bool false]
  | some n => .tuple #[.int .i64 n, .bool true]
theorem rd_bad {l : List UInt8} {k : Nat} (hk : k < 4) (h : Pk.unfig (l.getD k 0) < 0) : Pk.rd l = none := by
  unfold Pk.rd
  rw [if_neg]
  rintro ⟨_, hg⟩
  have h1 := Pk.good_down l (k + 1) (4 - (k + 1)) (by rw [show k + 1 + (4 - (k + 1)) = 4 by omega]; exact hg)
  rw [Pk.good, Bool.and_eq_true, decide_eq_true_eq] at h1
  omega

set_option maxHeartbeats 800000 in
set_option maxRecDepth 100000 in
theorem readHead_any (s : ByteArray) (w : World) (hs : s.size ≤ maxLen) :
    Calls Try.prog 21 #[.string s] w fun r w' => r = .returned (rdV (Pk.rd s.data.toList)) ∧ w = w' := by
  unfold maxLen at hs
  by_cases h4 : s.size < 4
  · have HR := Lib.hid (show Pk.rd s.data.toList = none by unfold Pk.rd; rw [if_neg]; rw [size_list]; omega)
    have h4' : (s.size : Int) < 4 := by omega
    go_enter Try.func21, Try.ntmps21
    go_wp2_with fail
    go_ret2
    exact ⟨by rw [HR.out]; rfl, rfl⟩
  · have h4' : ¬ (s.size : Int) < 4 := by omega
    go_enter Try.func21, Try.ntmps21
    go_wp2_with fail
    go_loop [4, 10] (fun n i => ∃ (k : Nat), k ≤ 4 ∧ i = .int .i64 k ∧ n = .int .i64 (Pk.val s.data.toList k) ∧ Hid (Pk.good s.data.toList k = true)) (fun _ i => 4 - (intOf i).toNat)
    case atStart => exact ⟨0, by omega, rfl, rfl, rfl⟩
    case round =>
      obtain ⟨k, hk, rfl, rfl, HG⟩ := hrel
      by_cases hlt : k < 4
      · have hlt' : (k : Int) < 4 := by omega
        have hks : (k : Int) < (s.size : Int) := by omega
        have e1 := Lib.hid (getD_byte s k (by omega))
        go_wp2_with fail
        refine (idx_any _ _).mono ?_
        rintro r w1 ⟨rfl, rfl⟩
        rw [← e1.out]
        have hr := Pk.unfig_lt (s.data.toList.getD k 0)
        have HB := Lib.hid (fun h => rd_bad (l := s.data.toList) hlt h)
        have HV := Lib.hid (show Pk.val s.data.toList (k + 1) = Pk.val s.data.toList k * 16 + (Pk.unfig (s.data.toList.getD k 0)).toNat from rfl)
        have HN := Lib.hid (fun (h : 0 ≤ Pk.unfig (s.data.toList.getD k 0)) => (by rw [Pk.good, HG.out]; simpa using h : Pk.good s.data.toList (k + 1) = true))
        have hv := Pk.val_lt s.data.toList k
        have hp : 16 ^ k ≤ 4096 := by
          have : 16 ^ k ≤ 16 ^ 3 := Nat.pow_le_pow_right (by decide) (by omega)
          simpa using this
        have hvv : Pk.val s.data.toList k < 4096 := by omega
        generalize Pk.unfig (s.data.toList.getD k 0) = u at *
        generalize Pk.val s.data.toList k = v at *
        clear hv hp
        by_cases hu : u < 0
        · have HB2 := Lib.hid (HB.out hu)
          go_wp2_with fail
          go_ret2
          exact ⟨by rw [HB2.out]; rfl, rfl⟩
        · have hu0 : 0 ≤ u := by omega
          go_wp2_with fail
          go_round
          case rel => exact ⟨k + 1, by omega, by go_num, by rw [HV.out]; go_num, HN.out hu0⟩
          case measure => simp [intOf] <;> omega
      · obtain rfl : k = 4 := by omega
        have HR := Lib.hid (show Pk.rd s.data.toList = some (Pk.val s.data.toList 4) by unfold Pk.rd; rw [if_pos ⟨by rw [size_list]; omega, HG.out⟩])
        generalize Pk.val s.data.toList 4 = v at *
        go_wp2_with fail
        go_ret2
        exact ⟨by rw [HR.out]; rfl, rfl⟩

theorem enc_data {k : Nat} {l : ByteArray} : (figS k ++ l).data.toList = Pk.fig k ++ l.data.toList := by rw [data_append]; rfl
/-- A line's bytes as a string. -/
def encS (p : Ln) : ByteArray := ⟨(Pk.enc p).toArray⟩
theorem encS_list (p : Ln) : (encS p).data.toList = Pk.enc p := rfl
theorem encS_size (p : Ln) : (encS p).size = 4 + p.load.size := by rw [← size_list, encS_list, Pk.enc_length]

set_option maxHeartbeats 800000 in
set_option maxRecDepth 100000 in
theorem bytes_any (p : Ln) (w : World) (hf : Pk.fine p = true) :
    Calls Try.prog 20 #[lnV p] w fun r w' => r = .returned (.string (encS p)) ∧ Below w.heap.size w w' := by
  obtain ⟨k, l⟩ := p
  rw [Pk.fine_iff] at hf
  unfold lnV
  have hE := encS_list ⟨k, l⟩
  unfold Pk.enc at hE
  have HE := Lib.hid hE
  clear hE
  generalize encS ⟨k, l⟩ = E at *
  simp only at hf
  rcases hf with ⟨rfl, hs⟩ | ⟨h0, hs⟩
  · rw [show Pk.hd ⟨0, l⟩ = 4 + l.size from rfl] at HE
    have HB0 := Lib.hid (below_new w (.cells #[.int .i64 0, .string l] 36))
    have HC := Lib.hid (fun W (hW : Below w.heap.size w W ∧ Below (w.alloc (.cells #[.int .i64 0, .string l] 36)).heap.size (w.alloc (.cells #[.int .i64 0, .string l] 36)) W) => (⟨hW, by
      rw [hW.2.cell (p := ⟨w.heap.size, 1, none⟩) (by simp)]
      rw [cell_of_row _ _ 1 _ _ _ (heap_alloc_new _ _)]; rfl⟩ : (Below w.heap.size w W ∧ Below (w.alloc (.cells #[.int .i64 0, .string l] 36)).heap.size (w.alloc (.cells #[.int .i64 0, .string l] 36)) W) ∧ W.cell? ⟨w.heap.size, 1, none⟩ = some (.string l)))
    have hw : IntKind.i64.wrap (4 + (l.size : Int)) = ((4 + l.size : Nat) : Int) := by rw [IntWalk.i64_in _ (by omega)]; omega
    have hq5 : 4 + l.size < 65536 := by omega
    have HEE := Lib.hid (show figS (4 + l.size) ++ l = E from Pk.bytes_ext (by rw [enc_data]; exact HE.out.symm))
    have hfs := figS_size (4 + l.size)
    have hss : ¬ 9223372036854775807 < (figS (4 + l.size)).size + l.size := by omega
    clear HE hfs
    generalize 4 + l.size = q at *
    go_enter Try.func20, Try.ntmps20
    go_wp2_with fail
    go_region_held3 (fun w' => (Below w.heap.size w w' ∧ Below (w.alloc (.cells #[.int .i64 0, .string l] 36)).heap.size (w.alloc (.cells #[.int .i64 0, .string l] 36)) w') ∧ w'.cell? ⟨w.heap.size, 1, none⟩ = some (.string l))
      (first | exact HC.out _ ⟨below_drewN HB0.out 1, below_drewN (Below.refl _ _) 1⟩ | (refine HC.out _ ⟨below_step ?_ (by assumption), below_step ?_ (by assumption)⟩; exact And.left (And.left (by assumption)); exact And.right (And.left (by assumption))))
      ((go_at_call 22; refine (figures_any q _ hq5).mono ?_; rintro r wx ⟨rfl, hx⟩))
    rename_i hH
    go_wp2
    go_ret
    exact ⟨ret_str HEE.out, hH.1.1⟩
  · obtain rfl := Pk.empty_of hs
    have HEE := Lib.hid (show figS (k - 1).toNat = E from Pk.bytes_ext (by
      rw [HE.out, figS_list]
      rcases h0 with rfl | rfl <;> rfl))
    rcases h0 with rfl | rfl
    · go_enter Try.func20, Try.ntmps20
      go_wp2_with fail
      refine (figures_any 0 _ (by decide)).mono ?_
      rintro r w1 ⟨rfl, hb⟩
      go_wp2_with fail
      go_ret
      exact ⟨ret_str HEE.out, below_step (below_new _ _) hb⟩
    · go_enter Try.func20, Try.ntmps20
      go_wp2_with fail
      refine (figures_any 1 _ (by decide)).mono ?_
      rintro r w1 ⟨rfl, hb⟩
      go_wp2_with fail
      go_ret
      exact ⟨ret_str HEE.out, below_step (below_new _ _) hb⟩

end Go.Proofs.Ytdmijinlhiohbaa
