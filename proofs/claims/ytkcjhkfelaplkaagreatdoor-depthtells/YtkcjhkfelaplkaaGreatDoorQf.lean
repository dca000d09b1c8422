/-
  PLAIN MATHEMATICS OF LAYER 2: SHA-256 over words of 32 bits and lists of bytes. No dump is imported. WALKS OF LAYER 2: t
-/
import Derived.Test.YtkcjhkfelaplkaaGreatDoorRows
import Derived.WalkKit
import Derived.WalkSpells
import Derived.WalkLawsBesides
import Derived.Lib.Hide
import Derived.Laws.BitsLemmas
import Derived.Laws.BitsAllLaws
import Derived.Deep.QuietTactic
import Derived.BigQuiet
import Derived.StillTailTactics
import Derived.IntWalk
import Derived.Laws.Rows
import Derived.Deep.WholeRow
import Derived.Laws.CopyOwn
import Derived.Lib.ConvBytes
import Derived.Laws.AppendOwn
import Derived.Laws.IdiomStrings
import Derived.Test.YtkcjhkfelaplkaaGreatDoorQa
set_option linter.unusedVariables false
set_option linter.unusedSimpArgs false
set_option maxHeartbeats 8000000
set_option maxRecDepth 100000
section
namespace Go.Proofs.YtkcjhkfelaplkaaGreatDoor.S2
namespace Sh
abbrev Wd := BitVec 32
def rr (x : Wd) (n : Nat) : Wd := (x <<< (32 - n)) ||| (x >>> n)
theorem turn_eq (x : Wd) (n : Nat) (h0 : 0 < n) (h : n < 32) : (x >>> n) + (x <<< (32 - n)) = rr x n := by
 have hd : (x >>> n) &&& (x <<< (32 - n)) = 0 := by
  ext i hi
  simp only [BitVec.getElem_and, BitVec.getElem_ushiftRight, BitVec.getElem_shiftLeft, BitVec.getElem_zero]
  by_cases hlt : i < 32 - n
  · simp [hlt]
  ·
   have : 32 ≤ n + i := by omega
   simp [BitVec.getLsbD_of_ge x (n + i) this]
 rw [BitVec.add_eq_or_of_and_eq_zero _ _ hd, BitVec.or_comm]
 rfl
def bw (b : UInt8) : Wd := BitVec.ofNat 32 b.toNat
theorem bw_toNat (b : UInt8) : (bw b).toNat = b.toNat := by
 have := b.toNat_lt
 simp only [bw, BitVec.toNat_ofNat]
 omega
def be4 (a b c d : UInt8) : Wd := ((bw a <<< 24 ||| bw b <<< 16) ||| bw c <<< 8) ||| bw d
theorem or_add (x y : Nat) (i : Nat) (h : y < 2 ^ i) (hx : x % 2 ^ i = 0) : x ||| y = x + y := by
 have hq : x = 2 ^ i * (x / 2 ^ i) := by have := Nat.div_add_mod x (2 ^ i); omega
 rw [hq, ← Nat.two_pow_add_eq_or_of_lt h]
theorem be4_toNat (a b c d : UInt8) : (be4 a b c d).toNat = a.toNat * 16777216 + b.toNat * 65536 + c.toNat * 256 + d.toNat := by
 have ha := a.toNat_lt
 have hb := b.toNat_lt
 have hc := c.toNat_lt
 have hd := d.toNat_lt
 simp only [be4, BitVec.toNat_or, BitVec.toNat_shiftLeft, bw_toNat, Nat.shiftLeft_eq]
 rw [Nat.mod_eq_of_lt (by omega), Nat.mod_eq_of_lt (by omega), Nat.mod_eq_of_lt (by omega)]
 rw [or_add _ (b.toNat * 2 ^ 16) 24 (by omega) (by omega), or_add _ (c.toNat * 2 ^ 8) 16 (by omega) (by omega), or_add _ d.toNat 8 (by omega) (by omega)]
 try omega
theorem m1 (a : Nat) (h : a < 256) : a * 16777216 ≤ 4278190080 := Nat.mul_le_mul_right 16777216 (Nat.le_of_lt_succ h)
theorem m2 (a : Nat) (h : a < 256) : a * 65536 ≤ 16711680 := Nat.mul_le_mul_right 65536 (Nat.le_of_lt_succ h)
theorem m3 (a : Nat) (h : a < 256) : a * 256 ≤ 65280 := Nat.mul_le_mul_right 256 (Nat.le_of_lt_succ h)
theorem sums (p q r d : Nat) (hp : p ≤ 4278190080) (hq : q ≤ 16711680) (hr : r ≤ 65280) (hd : d < 256) : ((((p % 4294967296 + q % 4294967296) % 4294967296 + r % 4294967296) % 4294967296 + d) % 4294967296) = p + q + r + d := by
 rw [Nat.mod_eq_of_lt (show p < 4294967296 by omega), Nat.mod_eq_of_lt (show q < 4294967296 by omega), Nat.mod_eq_of_lt (show r < 4294967296 by omega), Nat.mod_eq_of_lt (show p + q < 4294967296 by omega), Nat.mod_eq_of_lt (show p + q + r < 4294967296 by omega), Nat.mod_eq_of_lt (show p + q + r + d < 4294967296 by omega)]
theorem l1 : (16777216 : Wd).toNat = 16777216 := by decide
theorem l2 : (65536 : Wd).toNat = 65536 := by decide
theorem l3 : (256 : Wd).toNat = 256 := by decide
theorem be4_mul' (a b c d : UInt8) (k1 k2 k3 : Wd) (h1 : k1.toNat = 16777216) (h2 : k2.toNat = 65536) (h3 : k3.toNat = 256) : bw a * k1 + bw b * k2 + bw c * k3 + bw d = be4 a b c d := by
 apply BitVec.eq_of_toNat_eq
 rw [be4_toNat]
 simp only [BitVec.toNat_add, BitVec.toNat_mul, bw_toNat, h1, h2, h3, Nat.reducePow]
 exact sums _ _ _ _ (m1 _ a.toNat_lt) (m2 _ b.toNat_lt) (m3 _ c.toNat_lt) d.toNat_lt
theorem be4_mul (a b c d : UInt8) : bw a * 16777216 + bw b * 65536 + bw c * 256 + bw d = be4 a b c d := be4_mul' a b c d _ _ _ l1 l2 l3
def s0 (x : Wd) : Wd := (rr x 7 ^^^ rr x 18) ^^^ (x >>> 3)
def s1 (x : Wd) : Wd := (rr x 17 ^^^ rr x 19) ^^^ (x >>> 10)
def b1 (x : Wd) : Wd := (rr x 6 ^^^ rr x 11) ^^^ rr x 25
def b0 (x : Wd) : Wd := (rr x 2 ^^^ rr x 13) ^^^ rr x 22
def ch (e f g : Wd) : Wd := (e &&& f) ^^^ (~~~e &&& g)
def maj (a b c : Wd) : Wd := ((a &&& b) ^^^ (a &&& c)) ^^^ (b &&& c)
def nextW (ws : List Wd) (t : Nat) : Wd := ws.getD (t - 16) 0 + ws.getD (t - 7) 0 + s0 (ws.getD (t - 15) 0) + s1 (ws.getD (t - 2) 0)
def blk (b : List UInt8) (t : Nat) : Wd := be4 (b.getD (4 * t) 0) (b.getD (4 * t + 1) 0) (b.getD (4 * t + 2) 0) (b.getD (4 * t + 3) 0)
def newW (b : List UInt8) (l : List Wd) (n : Nat) : Wd := if n < 16 then blk b n else nextW l n
def wd (b : List UInt8) : Nat → List Wd
 | 0 => []
 | n + 1 => wd b n ++ [newW b (wd b n) n]
theorem wd_length (b : List UInt8) : ∀ n, (wd b n).length = n
 | 0 => rfl
 | n + 1 => by simp [wd, wd_length b n]
def K : List Wd := [1116352408, 1899447441, 3049323471, 3921009573, 961987163, 1508970993, 2453635748, 2870763221, 3624381080, 310598401, 607225278, 1426881987, 1925078388, 2162078206, 2614888103, 3248222580, 3835390401, 4022224774, 264347078, 604807628, 770255983, 1249150122, 1555081692, 1996064986, 2554220882, 2821834349, 2952996808, 3210313671, 3336571891, 3584528711, 113926993, 338241895, 666307205, 773529912, 1294757372, 1396182291, 1695183700, 1986661051, 2177026350, 2456956037, 2730485921, 2820302411, 3259730800, 3345764771, 3516065817, 3600352804, 4094571909, 275423344, 430227734, 506948616, 659060556, 883997877, 958139571, 1322822218, 1537002063, 1747873779, 1955562222, 2024104815, 2227730452, 2361852424, 2428436474, 2756734187, 3204031479, 3329325298]
structure St where
 a : Wd
 b : Wd
 c : Wd
 d : Wd
 e : Wd
 f : Wd
 g : Wd
 h : Wd
 deriving DecidableEq
def xs (s : St) (k w : Wd) : Wd := s.h + b1 s.e + ch s.e s.f s.g + k + w
def ys (s : St) : Wd := b0 s.a + maj s.a s.b s.c
def rnd (s : St) (k w : Wd) : St := ⟨xs s k w + ys s, s.a, s.b, s.c, s.d + xs s k w, s.e, s.f, s.g⟩
def rounds (b : List UInt8) (s : St) : Nat → St
 | 0 => s
 | t + 1 => rnd (rounds b s t) (K.getD t 0) ((wd b 64).getD t 0)
def plus (s r : St) : St := ⟨s.a + r.a, s.b + r.b, s.c + r.c, s.d + r.d, s.e + r.e, s.f + r.f, s.g + r.g, s.h + r.h⟩
def mix (s : St) (b : List UInt8) : St := plus s (rounds b s 64)
def start : St := ⟨0x6a09e667, 0xbb67ae85, 0x3c6ef372, 0xa54ff53a, 0x510e527f, 0x9b05688c, 0x1f83d9ab, 0x5be0cd19⟩
def proc : Nat → St → List UInt8 → St
 | 0, s, _ => s
 | n + 1, s, l => proc n (mix s (l.take 64)) (l.drop 64)
theorem proc_append : ∀ (m n : Nat) (s : St) (l r : List UInt8), l.length = 64 * m → proc (m + n) s (l ++ r) = proc n (proc m s l) r
 | 0, n, s, l, r, h => by
   have : l = [] := List.eq_nil_of_length_eq_zero (by omega)
   subst this
   simp [proc]
 | m + 1, n, s, l, r, h => by
   rw [Nat.add_right_comm, proc, proc, List.take_append_of_le_length (by omega), List.drop_append_of_le_length (by omega)]
   exact proc_append m n _ _ _ (by rw [List.length_drop]; omega)
theorem proc_succ : ∀ (n : Nat) (s : St) (l : List UInt8), proc (n + 1) s l = mix (proc n s l) ((l.drop (64 * n)).take 64)
 | 0, s, l => by simp [proc]
 | n + 1, s, l => by
   rw [proc, proc_succ n, List.drop_drop, proc, show 64 + 64 * n = 64 * (n + 1) by omega]
def St.list (s : St) : List Wd := [s.a, s.b, s.c, s.d, s.e, s.f, s.g, s.h]
def byteOf (s : St) (i : Nat) : UInt8 := UInt8.ofNat ((s.list.getD (i / 4) 0).toNat / 2 ^ (24 - 8 * (i % 4)))
def idOf (s : St) : List UInt8 := (List.range 32).map (byteOf s)
theorem idOf_length (s : St) : (idOf s).length = 32 := by simp [idOf]
def gap (n : Nat) : Nat := (120 - n % 64) % 64
def be8 (n : Nat) (k : Nat) : UInt8 := UInt8.ofNat (n / 2 ^ (56 - 8 * k))
def ending (last : List UInt8) (n : Nat) : List UInt8 := last ++ [128] ++ List.replicate (gap (last.length + 1)) 0 ++ (List.range 8).map (be8 (8 * n))
theorem ending_length (last : List UInt8) (n : Nat) : (ending last n).length = last.length + 9 + gap (last.length + 1) := by
 simp [ending]; omega
theorem gap_ok (n : Nat) : (n + gap n) % 64 = 56 := by unfold gap; omega
def blocks (n : Nat) : Nat := (n + 9 + gap (n + 1)) / 64
def sha (m : List UInt8) : St := proc (blocks m.length) start (ending m m.length)
theorem blocks_mul (n : Nat) : 64 * blocks n = n + 9 + gap (n + 1) := by
 have := gap_ok (n + 1)
 unfold blocks
 omega
theorem sha_parts (m : List UInt8) : proc (((m.length % 64) + 9 + gap (m.length % 64 + 1)) / 64) (proc (m.length / 64) start (m.take (m.length - m.length % 64))) (ending (m.drop (m.length - m.length % 64)) m.length) = sha m := by
 have hg : gap (m.length % 64 + 1) = gap (m.length + 1) := by unfold gap; omega
 have hb := blocks_mul m.length
 have hl : (m.drop (m.length - m.length % 64)).length = m.length % 64 := by rw [List.length_drop]; omega
 have he : ending m m.length = m.take (m.length - m.length % 64) ++ ending (m.drop (m.length - m.length % 64)) m.length := by
  unfold ending
  rw [hl, hg]
  simp only [← List.append_assoc, List.take_append_drop]
 rw [sha, he]
 rw [show blocks m.length = m.length / 64 + (m.length % 64 + 9 + gap (m.length % 64 + 1)) / 64 by unfold blocks; rw [hg]; omega]
 rw [proc_append _ _ _ _ _ (by rw [List.length_take]; omega)]
end Sh
end Go.Proofs.YtkcjhkfelaplkaaGreatDoor.S2
end
section
namespace Go.Proofs.YtkcjhkfelaplkaaGreatDoor.S2
open Go.RowKit
open Sh (Wd)
/-! ### Words, as the walk spells them -/
theorem w_add (x y : Wd) : IntKind.u32.wrap ((x.toNat : Int) + (y.toNat : Int)) = ((x + y).toNat : Int) := by
 rw [IntKind.wrap_u32, BitVec.toNat_add]; omega
theorem ofInt_wd (x : Wd) : BitVec.ofInt 32 (x.toNat : Int) = x := by simp
theorem w_lt (x : Wd) : x.toNat < 4294967296 := x.isLt
theorem w_and (x y : Wd) : bits .and .u32 (x.toNat : Int) (y.toNat : Int) = ((x &&& y).toNat : Int) := by
 show IntKind.u32.wrap ((BitVec.ofInt 32 (x.toNat : Int) &&& BitVec.ofInt 32 (y.toNat : Int)).toNat : Int) = _
 rw [ofInt_wd, ofInt_wd, IntKind.wrap_u32]; have := w_lt (x &&& y); omega
theorem w_or (x y : Wd) : bits .or .u32 (x.toNat : Int) (y.toNat : Int) = ((x ||| y).toNat : Int) := by
 show IntKind.u32.wrap ((BitVec.ofInt 32 (x.toNat : Int) ||| BitVec.ofInt 32 (y.toNat : Int)).toNat : Int) = _
 rw [ofInt_wd, ofInt_wd, IntKind.wrap_u32]; have := w_lt (x ||| y); omega
theorem w_xor (x y : Wd) : bits .xor .u32 (x.toNat : Int) (y.toNat : Int) = ((x ^^^ y).toNat : Int) := by
 show IntKind.u32.wrap ((BitVec.ofInt 32 (x.toNat : Int) ^^^ BitVec.ofInt 32 (y.toNat : Int)).toNat : Int) = _
 rw [ofInt_wd, ofInt_wd, IntKind.wrap_u32]; have := w_lt (x ^^^ y); omega
theorem w_not (x : Wd) : bits .xor .u32 4294967295 (x.toNat : Int) = ((~~~x).toNat : Int) := by
 show IntKind.u32.wrap ((BitVec.ofInt 32 4294967295 ^^^ BitVec.ofInt 32 (x.toNat : Int)).toNat : Int) = _
 rw [ofInt_wd, show BitVec.ofInt 32 4294967295 = BitVec.allOnes 32 from rfl, BitVec.allOnes_xor, IntKind.wrap_u32]
 have := w_lt (~~~x); omega
theorem w_not' (x : Wd) : bits .xor .u32 IntKind.u32.max (x.toNat : Int) = ((~~~x).toNat : Int) := w_not x
theorem w_shl (x : Wd) (n : Nat) : IntKind.u32.wrap ((x.toNat : Int) * 2 ^ n) = ((x <<< n).toNat : Int) := by
 rw [IntKind.wrap_u32, BitVec.toNat_shiftLeft, Nat.shiftLeft_eq]; simp
theorem w_shr (x : Wd) (n : Nat) : (x.toNat : Int) / 2 ^ n = ((x >>> n).toNat : Int) := by
 rw [BitVec.toNat_ushiftRight, Nat.shiftRight_eq_div_pow]; simp
theorem w_add' (x y : Wd) : ((x.toNat : Int) + (y.toNat : Int)) % 4294967296 = ((x + y).toNat : Int) := by rw [← w_add, IntKind.wrap_u32]
theorem w_shl' (x : Wd) (n : Nat) : (x.toNat : Int) * 2 ^ n % 4294967296 = ((x <<< n).toNat : Int) := by rw [← w_shl, IntKind.wrap_u32]
theorem rot_mask : ∀ n : Fin 32, n.val ≠ 0 → bits BinOp.and IntKind.u64 (IntKind.u64.wrap (-(n.val : Int))) 31 = ((32 - n.val : Nat) : Int) := by decide +kernel
theorem ret_u32 {a b : Int} (h : a = b) : Ending.returned (.int .u32 a) = .returned (.int .u32 b) := by rw [h]
theorem rotl_any (x : Wd) (n : Nat) (w : World) (h0 : 0 < n) (h : n < 32) :
  Calls Tryz.prog 201 #[.int .u32 (x.toNat : Int), .int .i64 (-(n : Int))] w fun r w' => r = .returned (.int .u32 ((Sh.rr x n).toNat : Int)) ∧ w = w' := by
 have hm := rot_mask ⟨n, h⟩ (by simp; omega)
 have hk : IntKind.u64.wrap (32 - ((32 - n : Nat) : Int)) = (n : Int) := by
  rw [show (32 : Int) - ((32 - n : Nat) : Int) = (n : Int) by omega]
  simp [IntKind.wrap, IntKind.bits, IntKind.signed]
  omega
 go_enter Tryz.func201, Tryz.ntmps201
 go_wp2
 go_ret
 refine ⟨ret_u32 ?_, rfl⟩
 rw [w_shl', w_shr, w_or]
 rfl
theorem right_any (x : Wd) (n : Nat) (w : World) (h0 : 0 < n) (h : n < 32) :
  Calls Tryz.prog 196 #[.int .u32 (x.toNat : Int), .int .i64 (n : Int)] w fun r w' => r = .returned (.int .u32 ((Sh.rr x n).toNat : Int)) ∧ w = w' := by
 go_enter Tryz.func196, Tryz.ntmps196
 go_wp2_with fail
 refine (rotl_any x n _ h0 h).mono ?_
 rintro e w1 ⟨rfl, rfl⟩
 go_wp2_with fail
 go_ret
 exact ⟨rfl, rfl⟩
theorem turn_any (x : Wd) (n : Nat) (w : World) (h0 : 0 < n) (h : n < 32) :
  Calls Tryz.prog 172 #[.int .u32 (x.toNat : Int), .int .u64 (n : Int)] w fun r w' => r = .returned (.int .u32 ((Sh.rr x n).toNat : Int)) ∧ w = w' := by
 have hk : IntKind.u64.wrap (32 - (n : Int)) = ((32 - n : Nat) : Int) := by
  rw [show (32 : Int) - (n : Int) = ((32 - n : Nat) : Int) by omega]
  simp [IntKind.wrap, IntKind.bits, IntKind.signed]
  omega
 go_enter Tryz.func172, Tryz.ntmps172
 go_wp2
 go_ret
 refine ⟨ret_u32 ?_, rfl⟩
 rw [w_shl', w_shr, w_add', Sh.turn_eq x n h0 h]
end Go.Proofs.YtkcjhkfelaplkaaGreatDoor.S2
end
section
namespace Go.Proofs.YtkcjhkfelaplkaaGreatDoor.S2
open Go.RowKit
open Sh (Wd)
def wv (x : Wd) : Value := .int .u32 (x.toNat : Int)
def arr (l : List Wd) : Array Value := (l.map wv ++ List.replicate (64 - l.length) (Value.int .u32 0)).toArray
theorem arr_size (l : List Wd) (h : l.length ≤ 64) : (arr l).size = 64 := by simp [arr]; omega
theorem arr_get (l : List Wd) (i : Nat) (h : i < l.length) : (arr l)[i]? = some (.int .u32 ((l.getD i 0).toNat : Int)) := by
 simp only [arr, List.getElem?_toArray, List.getD_eq_getElem?_getD]
 rw [List.getElem?_append_left (by simpa using h), List.getElem?_map, List.getElem?_eq_getElem h]
 rfl
theorem arr_rest (l : List Wd) (i : Nat) (h : l.length ≤ i) (h2 : i < 64) : (arr l)[i]? = some (.int .u32 0) := by
 simp only [arr, List.getElem?_toArray]
 rw [List.getElem?_append_right (by simpa using h), List.getElem?_replicate, if_pos (by simp; omega)]
theorem arr_push (l : List Wd) (x : Wd) (h : l.length < 64) : (arr l).setIfInBounds l.length (.int .u32 (x.toNat : Int)) = arr (l ++ [x]) := by
 apply Array.ext_getElem?
 intro i
 simp only [arr, List.setIfInBounds_toArray, List.getElem?_toArray]
 rw [List.set_append_right _ _ (by simp)]
 simp only [List.length_map, Nat.sub_self, List.map_append, List.map_cons, List.map_nil, List.length_append, List.length_cons, List.length_nil, List.append_assoc]
 rw [show 64 - l.length = (64 - (l.length + (0 + 1))) + 1 by omega, List.replicate_succ, List.set_cons_zero]
 rfl
theorem wrap_bw (x : UInt8) : IntKind.u32.wrap (x.toNat : Int) = ((Sh.bw x).toNat : Int) := by
 have := x.toNat_lt
 rw [IntKind.wrap_u32, Sh.bw_toNat]; omega
theorem sh24 (x : Wd) : IntKind.u32.wrap ((x.toNat : Int) * 16777216) = ((x <<< 24).toNat : Int) := w_shl x 24
theorem sh16 (x : Wd) : IntKind.u32.wrap ((x.toNat : Int) * 65536) = ((x <<< 16).toNat : Int) := w_shl x 16
theorem sh8 (x : Wd) : IntKind.u32.wrap ((x.toNat : Int) * 256) = ((x <<< 8).toNat : Int) := w_shl x 8
theorem b4_or (x y z v : UInt8) : bits BinOp.or IntKind.u32 (bits BinOp.or IntKind.u32 (bits BinOp.or IntKind.u32 (IntKind.u32.wrap (IntKind.u32.wrap (x.toNat : Int) * 16777216)) (IntKind.u32.wrap (IntKind.u32.wrap (y.toNat : Int) * 65536))) (IntKind.u32.wrap (IntKind.u32.wrap (z.toNat : Int) * 256))) (IntKind.u32.wrap (v.toNat : Int)) = ((Sh.be4 x y z v).toNat : Int) := by
 simp only [wrap_bw, sh24, sh16, sh8, w_or]
 rfl
theorem blk_eq (b : ByteArray) (t : Nat) (h : 4 * t + 3 < b.size) : Sh.blk b.data.toList t = Sh.be4 b[4 * t] b[4 * t + 1] b[4 * t + 2] b[4 * t + 3] := by
 have e : ∀ (j : Nat) (hj : j < b.size), b.data.toList.getD j 0 = b[j] := fun j hj => by
  rw [List.getD_eq_getElem?_getD, List.getElem?_eq_getElem (by simpa using hj)]; rfl
 unfold Sh.blk
 rw [e _ (by omega), e _ (by omega), e _ (by omega), e _ (by omega)]
/-! ### Blocks that are known whole -/
theorem held_set {wr : World} {g : Nat} {cs : Array Value} {t : TypeId} (h : wr.heap[g]? = some (.cells cs t)) (i : Nat) (v : Value) : (wr.setCell ⟨g, i, none⟩ v).heap[g]? = some (.cells (cs.setIfInBounds i v) t) := heap_setCell_same wr g i cs t v h
theorem held_apart {wr : World} {k : Nat} {x : Option Obj} (h : wr.heap[k]? = x) (g i : Nat) (v : Value) (hne : k ≠ g) : (wr.setCell ⟨g, i, none⟩ v).heap[k]? = x := (heap_setCell_other wr ⟨g, i, none⟩ k v hne).trans h
theorem still_of {P : Program} {f : FuncId} {args : Array Value} {w : World} {v : Value} (h : Calls P f args w fun e w' => e = .returned v ∧ w = w') : Calls P f args w fun e w' => e = .returned v ∧ w' = w := h.mono fun _ _ ⟨h1, h2⟩ => ⟨h1, h2.symm⟩
theorem region_tail {P : Program} {id : Nat} {Q : Exit → Act → World → Prop} {a : Act} {w : World} {l : List Oper} (n : Nat) (hm : P.follows .mixedOrders = true) (hB : Region.lexTailB .any l.toArray n = true)
  (h : wpStill P l.toArray w.drew (fun a' => wpList P l.toArray Q (l.drop n) a' w.drew) (l.take n) a) : (Code.region id l.toArray true).wp P Q a w := wp_region_still_tail n hm hB h
theorem region_still {P : Program} {id : Nat} {Q : Exit → Act → World → Prop} {a : Act} {w : World} {l : List Oper} (hm : P.follows .mixedOrders = true) (hB : Region.lexB .any l.toArray = true)
  (h : wpStill P l.toArray w.drew (fun a' => Q .normal a' w.drew) l a) : (Code.region id l.toArray true).wp P Q a w := wp_region_still_lit hm hB h
theorem arr_one (l : List Wd) : (arr l).all (·.oneCell') = true := by
 rw [Array.all_eq_true_iff_forall_mem]
 intro x hx
 simp only [arr, List.mem_toArray, List.mem_append, List.mem_map, List.mem_replicate] at hx
 rcases hx with ⟨y, _, rfl⟩ | ⟨_, rfl⟩ <;> rfl
theorem wd_next (b : List UInt8) (t : Nat) (h : 16 ≤ t) : Sh.wd b (t + 1) = Sh.wd b t ++ [Sh.nextW (Sh.wd b t) t] := by rw [Sh.wd, Sh.newW, if_neg (by omega)]
theorem sh_r3 (x : Wd) : (x.toNat : Int) / (8 : Int) = ((x >>> 3).toNat : Int) := w_shr x 3
theorem sh_r10 (x : Wd) : (x.toNat : Int) / (1024 : Int) = ((x >>> 10).toNat : Int) := w_shr x 10
theorem info48 : (Tryz.prog.info? 211).map (fun i => (i.zero, i.size)) = some (some (.agg (arr [])), 64) := by kernel_rfl
theorem schedule_any (b : ByteArray) (w : World) (hb : b.size = 64) :
  Calls Tryz.prog 195 #[.string b] w fun r w' => r = .returned (.agg (arr (Sh.wd b.data.toList 64))) ∧ Below w.heap.size w w' := by
 have hb64 : 64 ≤ b.size := by omega
 have HB := Lib.hid hb
 clear hb
 go_enter Tryz.func195, Tryz.ntmps195
 go_wp2
 go_loopw [8] (fun i wr => ∃ t : Nat, t ≤ 16 ∧ i = .int .i64 t ∧ Hid (wr.heap[w.heap.size + 1]? = some (.cells (arr (Sh.wd b.data.toList t)) 211)) ∧ Hid (wr.heap[w.heap.size]? = some (.cells (arr []) 211)) ∧ Below w.heap.size w wr) (fun i _ => 16 - (intOf i).toNat)
 case atStart => exact ⟨0, by omega, rfl, heap_alloc2_new _ _ _, heap_alloc2_old _ _ _, ((Below.refl _ _).alloc (Nat.le_refl _) _).alloc (by simp) _⟩
 case round =>
  obtain ⟨t, ht, rfl, HN, HR, hbl⟩ := hrel
  by_cases hlt : t < 16
  ·
   have hc := (cell_of_row wr (w.heap.size + 1) t _ _ _ HN.out).trans (arr_rest _ t (by rw [Sh.wd_length]; omega) (by omega))
   have hf := frozen_of_row wr (w.heap.size + 1) t _ _ HN.out
   have hi1 : (4 * (t : Int)) < (b.size : Int) := by omega
   have hi2 : (4 * (t : Int) + 1) < (b.size : Int) := by omega
   have hi3 : (4 * (t : Int) + 2) < (b.size : Int) := by omega
   have hi4 : (4 * (t : Int) + 3) < (b.size : Int) := by omega
   have hw0 : IntKind.i64.wrap (4 * (t : Int)) = 4 * (t : Int) := IntWalk.i64_in _ (by omega)
   have hw1 : IntKind.i64.wrap (4 * (t : Int) + 1) = 4 * (t : Int) + 1 := IntWalk.i64_in _ (by omega)
   have hw2 : IntKind.i64.wrap (4 * (t : Int) + 2) = 4 * (t : Int) + 2 := IntWalk.i64_in _ (by omega)
   have hw3 : IntKind.i64.wrap (4 * (t : Int) + 3) = 4 * (t : Int) + 3 := IntWalk.i64_in _ (by omega)
   have hn0 : 0 ≤ 4 * (t : Int) := by omega
   have hn1 : 0 ≤ 4 * (t : Int) + 1 := by omega
   have hn2 : 0 ≤ 4 * (t : Int) + 2 := by omega
   have hn3 : 0 ≤ 4 * (t : Int) + 3 := by omega
   have ht0 : (4 * (t : Int)).toNat = 4 * t := by omega
   have ht1 : (4 * (t : Int) + 1).toNat = 4 * t + 1 := by omega
   have ht2 : (4 * (t : Int) + 2).toNat = 4 * t + 2 := by omega
   have ht3 : (4 * (t : Int) + 3).toNat = 4 * t + 3 := by omega
   have hlt' : (t : Int) < 16 := by omega
   have hlt2 : (t : Int) < 64 := by omega
   go_wp2
   go_still_tail 31, (by kernel_rfl)
   rw [b4_or]
   rw [← blk_eq b t (by omega)]
   have HV := Lib.hid (show Sh.wd b.data.toList (t + 1) = Sh.wd b.data.toList t ++ [Sh.blk b.data.toList t] by rw [Sh.wd, Sh.newW, if_pos hlt])
   generalize Sh.blk b.data.toList t = x at *
   change wpList _ _ _ _ _ wr.drew
   go_wp2
   go_roundw
   case rel =>
    refine ⟨t + 1, by omega, by go_num, ?_, ?_, ?_⟩
    · rw [HV.out, ← arr_push _ _ (by rw [Sh.wd_length]; omega), Sh.wd_length]; exact held_set (wr := wr.drew) HN.out t _
    · exact held_apart (wr := wr.drew) HR.out _ _ _ (by omega)
    · exact hbl.drew.setCell (by simp) _
   case measure => simp [intOf]; omega
  ·
   have HT := Lib.hid (show t = 16 by omega)
   go_wp2
   go_loopw [5] (fun i wr => ∃ t : Nat, 16 ≤ t ∧ t ≤ 64 ∧ i = .int .i64 t ∧ Hid (wr.heap[w.heap.size + 1]? = some (.cells (arr (Sh.wd b.data.toList t)) 211)) ∧ Hid (wr.heap[w.heap.size]? = some (.cells (arr []) 211)) ∧ Below w.heap.size w wr) (fun i _ => 64 - (intOf i).toNat)
   case atStart => exact ⟨16, by omega, by omega, rfl, by rw [HT.out] at HN; exact HN, HR, hbl⟩
   case round =>
    clear HN HR hbl hlt ht HT
    obtain ⟨t, ht16, ht, rfl, HN, HR, hbl⟩ := hrel
    by_cases hlt : t < 64
    ·
     have hl := Sh.wd_length b.data.toList t
     have hc := (cell_of_row wr (w.heap.size + 1) t _ _ _ HN.out).trans (arr_rest _ t (by rw [Sh.wd_length]; omega) (by omega))
     have hf := frozen_of_row wr (w.heap.size + 1) t _ _ HN.out
     have c15 := (cell_of_row wr (w.heap.size + 1) (t - 15) _ _ _ HN.out).trans (arr_get _ (t - 15) (by omega))
     have c2 := (cell_of_row wr (w.heap.size + 1) (t - 2) _ _ _ HN.out).trans (arr_get _ (t - 2) (by omega))
     have c16 := (cell_of_row wr (w.heap.size + 1) (t - 16) _ _ _ HN.out).trans (arr_get _ (t - 16) (by omega))
     have c7 := (cell_of_row wr (w.heap.size + 1) (t - 7) _ _ _ HN.out).trans (arr_get _ (t - 7) (by omega))
     have HV := Lib.hid (wd_next b.data.toList t ht16)
     have HX := Lib.hid (show Sh.nextW (Sh.wd b.data.toList t) t = (Sh.wd b.data.toList t).getD (t - 16) 0 + (Sh.wd b.data.toList t).getD (t - 7) 0 + ((Sh.rr ((Sh.wd b.data.toList t).getD (t - 15) 0) 7 ^^^ Sh.rr ((Sh.wd b.data.toList t).getD (t - 15) 0) 18) ^^^ ((Sh.wd b.data.toList t).getD (t - 15) 0) >>> 3) + ((Sh.rr ((Sh.wd b.data.toList t).getD (t - 2) 0) 17 ^^^ Sh.rr ((Sh.wd b.data.toList t).getD (t - 2) 0) 19) ^^^ ((Sh.wd b.data.toList t).getD (t - 2) 0) >>> 10) from rfl)
     clear hl
     generalize (Sh.wd b.data.toList t).getD (t - 16) 0 = x16 at c16 HX
     generalize (Sh.wd b.data.toList t).getD (t - 15) 0 = x15 at c15 HX
     generalize (Sh.wd b.data.toList t).getD (t - 7) 0 = x7 at c7 HX
     generalize (Sh.wd b.data.toList t).getD (t - 2) 0 = x2 at c2 HX
     generalize Sh.nextW (Sh.wd b.data.toList t) t = xn at HV HX
     have hw0 : IntKind.i64.wrap ((t : Int) - 16) = (t : Int) - 16 := IntWalk.i64_in _ (by omega)
     have hw1 : IntKind.i64.wrap ((t : Int) - 15) = (t : Int) - 15 := IntWalk.i64_in _ (by omega)
     have hw2 : IntKind.i64.wrap ((t : Int) - 7) = (t : Int) - 7 := IntWalk.i64_in _ (by omega)
     have hw3 : IntKind.i64.wrap ((t : Int) - 2) = (t : Int) - 2 := IntWalk.i64_in _ (by omega)
     have hn0 : 0 ≤ (t : Int) - 16 := by omega
     have hn1 : 0 ≤ (t : Int) - 15 := by omega
     have hn2 : 0 ≤ (t : Int) - 7 := by omega
     have hn3 : 0 ≤ (t : Int) - 2 := by omega
     have hm0 : (t : Int) - 16 < 64 := by omega
     have hm1 : (t : Int) - 15 < 64 := by omega
     have hm2 : (t : Int) - 7 < 64 := by omega
     have hm3 : (t : Int) - 2 < 64 := by omega
     have ht0 : ((t : Int) - 16).toNat = t - 16 := by omega
     have ht1 : ((t : Int) - 15).toNat = t - 15 := by omega
     have ht2 : ((t : Int) - 7).toNat = t - 7 := by omega
     have ht3 : ((t : Int) - 2).toNat = t - 2 := by omega
     have hlt' : (t : Int) < 64 := by omega
     have hq0 : (16 : Int) ≤ (t : Int) := by omega
     have hq1 : (15 : Int) ≤ (t : Int) := by omega
     have hq2 : (7 : Int) ≤ (t : Int) := by omega
     have hq3 : (2 : Int) ≤ (t : Int) := by omega
     go_wp2
     refine region_still (by kernel_rfl) (by kernel_rfl) ?_
     repeat still_step
     refine wpStill_nil ?_
     go_wp2
     refine region_tail 29 (by kernel_rfl) (by kernel_rfl) ?_
     simp only [List.take_succ_cons, List.take_zero, List.drop_succ_cons, List.drop_zero]
     repeat still_step
     still_call (still_of (right_any _ 7 _ (by decide) (by decide)))
     repeat still_step
     still_call (still_of (right_any _ 18 _ (by decide) (by decide)))
     repeat still_step
     still_call (still_of (right_any _ 17 _ (by decide) (by decide)))
     repeat still_step
     still_call (still_of (right_any _ 19 _ (by decide) (by decide)))
     repeat still_step
     refine wpStill_nil ?_
     simp only [sh_r3, sh_r10, w_xor, w_add, w_add']
     rw [← HX.out]
     go_wp2
     go_roundw
     case rel =>
      refine ⟨t + 1, by omega, by omega, by go_num, ?_, ?_, ?_⟩
      · rw [HV.out, ← arr_push _ _ (by rw [Sh.wd_length]; omega), Sh.wd_length]; exact held_set (wr := wr.drew.drew) HN.out t _
      · exact held_apart (wr := wr.drew.drew) HR.out _ _ _ (by omega)
      · exact hbl.drew.drew.setCell (by simp) _
     case measure => simp [intOf]; omega
    ·
     obtain rfl : t = 64 := by omega
     have hs := arr_size (Sh.wd b.data.toList 64) (by rw [Sh.wd_length]; omega)
     have hu := Tryz.underlying211
     have hi : (Tryz.prog.info? 211).map (·.size) = some (arr (Sh.wd b.data.toList 64)).size := by rw [hs]; exact (zero_of_info info48).2
     have HS := Lib.hid hs
     have HI := Lib.hid hi
     have HU := Lib.hid hu
     clear hs hi hu
     go_wp2_with (first | (refine wpList_load_row rfl 211 _ rfl (w.heap.size + 1) rfl _ _ _ _ HN.out HU.out rfl HI.out ?_) | (refine wpList_store_row rfl 211 _ _ rfl w.heap.size _ rfl rfl _ _ HR.out HI.out (by rw [HS.out]; exact arr_size _ (by decide)) (arr_one _) ?_))
     refine bodyPost_ret (v := .agg (arr (Sh.wd b.data.toList 64))) ?_ rfl ⟨rfl, below_setRow hbl (Nat.le_refl _) _⟩
     exact results_cell_row (by rfl) _ _ w.heap.size _ _ _ _ (by rfl) (setRow_heap _ _ _ _ _ _ HR.out) HU.out rfl HI.out
end Go.Proofs.YtkcjhkfelaplkaaGreatDoor.S2
end
section
namespace Go.Proofs.YtkcjhkfelaplkaaGreatDoor.S2
open Go.RowKit
open Sh (Wd)
def stA (s : Sh.St) : Array Value := #[.int .u32 (s.a.toNat : Int), .int .u32 (s.b.toNat : Int), .int .u32 (s.c.toNat : Int), .int .u32 (s.d.toNat : Int), .int .u32 (s.e.toNat : Int), .int .u32 (s.f.toNat : Int), .int .u32 (s.g.toNat : Int), .int .u32 (s.h.toNat : Int)]
def KIn (w : World) : Prop := 1 < w.heap.size ∧ ∀ t, t < 64 → w.cell? ⟨1, t, none⟩ = some (.int .u32 ((Sh.K.getD t 0).toNat : Int))
theorem KIn.pos {w : World} (h : KIn w) : 1 < w.heap.size := h.1
theorem KIn.below {w w' : World} {B : Nat} (h : KIn w) (hb : Below B w w') (hB : 1 < B) : KIn w' := ⟨Nat.lt_of_lt_of_le h.1 hb.size, fun t ht => (hb.cell (p := ⟨1, t, none⟩) hB).trans (h.2 t ht)⟩
theorem K_len : Sh.K.length = 64 := by decide
theorem KIn.cell {w : World} (h : KIn w) (t : Nat) (ht : t < 64) : w.cell? ⟨1, t, none⟩ = some (.int .u32 ((Sh.K.getD t 0).toNat : Int)) := h.2 t ht
theorem w_not2 (x : Wd) : bits .xor .u32 (if IntKind.u32.signed = true then -1 else IntKind.u32.max) (x.toNat : Int) = ((~~~x).toNat : Int) := w_not x
theorem info40 : (Tryz.prog.info? 226).map (·.size) = some 8 := by kernel_rfl
theorem after_two {w w1 : World} {A Z X : Obj} (hb : Below ((w.alloc A).alloc Z).heap.size ((w.alloc A).alloc Z) w1) :
  w.heap.size + 2 ≤ w1.heap.size ∧ (w1.alloc X).heap[w.heap.size]? = some A ∧ (w1.alloc X).heap[w.heap.size + 1]? = some Z ∧ (w1.alloc X).heap[w1.heap.size]? = some X ∧ Below w.heap.size w (w1.alloc X) := by
 have hs : ((w.alloc A).alloc Z).heap.size = w.heap.size + 2 := by simp
 have h1 := hb.size
 rw [hs] at h1
 refine ⟨h1, ?_, ?_, heap_alloc_new _ _, ?_⟩
 · rw [Below.heap_alloc _ _ _ (by omega), hb.block _ (by omega)]; exact heap_alloc2_old _ _ _
 · rw [Below.heap_alloc _ _ _ (by omega), hb.block _ (by omega)]; exact heap_alloc2_new _ _ _
 · exact ((((Below.refl _ _).alloc (Nat.le_refl _) _).alloc (by simp) _).trans (hb.mono (by omega))).alloc (by omega) _
def set8 (w : World) (g : Nat) (v0 v1 v2 v3 v4 v5 v6 v7 : Value) : World := (((((((w.setCell ⟨g, 0, none⟩ v0).setCell ⟨g, 1, none⟩ v1).setCell ⟨g, 2, none⟩ v2).setCell ⟨g, 3, none⟩ v3).setCell ⟨g, 4, none⟩ v4).setCell ⟨g, 5, none⟩ v5).setCell ⟨g, 6, none⟩ v6).setCell ⟨g, 7, none⟩ v7
theorem set8_held {w : World} {g : Nat} {t : TypeId} {z0 z1 z2 z3 z4 z5 z6 z7 : Value} (h : w.heap[g]? = some (.cells #[z0, z1, z2, z3, z4, z5, z6, z7] t)) (v0 v1 v2 v3 v4 v5 v6 v7 : Value) :
  (set8 w g v0 v1 v2 v3 v4 v5 v6 v7).heap[g]? = some (.cells #[v0, v1, v2, v3, v4, v5, v6, v7] t) := by
 have h1 : (w.setCell ⟨g, 0, none⟩ v0).heap[g]? = some (.cells #[v0, z1, z2, z3, z4, z5, z6, z7] t) := held_set h 0 v0
 have h2 : ((w.setCell ⟨g, 0, none⟩ v0).setCell ⟨g, 1, none⟩ v1).heap[g]? = some (.cells #[v0, v1, z2, z3, z4, z5, z6, z7] t) := held_set h1 1 v1
 have h3 : (((w.setCell ⟨g, 0, none⟩ v0).setCell ⟨g, 1, none⟩ v1).setCell ⟨g, 2, none⟩ v2).heap[g]? = some (.cells #[v0, v1, v2, z3, z4, z5, z6, z7] t) := held_set h2 2 v2
 have h4 : ((((w.setCell ⟨g, 0, none⟩ v0).setCell ⟨g, 1, none⟩ v1).setCell ⟨g, 2, none⟩ v2).setCell ⟨g, 3, none⟩ v3).heap[g]? = some (.cells #[v0, v1, v2, v3, z4, z5, z6, z7] t) := held_set h3 3 v3
 have h5 : (((((w.setCell ⟨g, 0, none⟩ v0).setCell ⟨g, 1, none⟩ v1).setCell ⟨g, 2, none⟩ v2).setCell ⟨g, 3, none⟩ v3).setCell ⟨g, 4, none⟩ v4).heap[g]? = some (.cells #[v0, v1, v2, v3, v4, z5, z6, z7] t) := held_set h4 4 v4
 have h6 : ((((((w.setCell ⟨g, 0, none⟩ v0).setCell ⟨g, 1, none⟩ v1).setCell ⟨g, 2, none⟩ v2).setCell ⟨g, 3, none⟩ v3).setCell ⟨g, 4, none⟩ v4).setCell ⟨g, 5, none⟩ v5).heap[g]? = some (.cells #[v0, v1, v2, v3, v4, v5, z6, z7] t) := held_set h5 5 v5
 have h7 : (((((((w.setCell ⟨g, 0, none⟩ v0).setCell ⟨g, 1, none⟩ v1).setCell ⟨g, 2, none⟩ v2).setCell ⟨g, 3, none⟩ v3).setCell ⟨g, 4, none⟩ v4).setCell ⟨g, 5, none⟩ v5).setCell ⟨g, 6, none⟩ v6).heap[g]? = some (.cells #[v0, v1, v2, v3, v4, v5, v6, z7] t) := held_set h6 6 v6
 have h8 : ((((((((w.setCell ⟨g, 0, none⟩ v0).setCell ⟨g, 1, none⟩ v1).setCell ⟨g, 2, none⟩ v2).setCell ⟨g, 3, none⟩ v3).setCell ⟨g, 4, none⟩ v4).setCell ⟨g, 5, none⟩ v5).setCell ⟨g, 6, none⟩ v6).setCell ⟨g, 7, none⟩ v7).heap[g]? = some (.cells #[v0, v1, v2, v3, v4, v5, v6, v7] t) := held_set h7 7 v7
 exact h8
theorem set8_below {w0 w : World} {g B : Nat} (h : Below B w0 w) (hg : B ≤ g) (v0 v1 v2 v3 v4 v5 v6 v7 : Value) : Below B w0 (set8 w g v0 v1 v2 v3 v4 v5 v6 v7) :=
 (((((((h.setCell hg v0).setCell hg v1).setCell hg v2).setCell hg v3).setCell hg v4).setCell hg v5).setCell hg v6).setCell hg v7
theorem set8_apart {w : World} {k g : Nat} {x : Option Obj} (h : w.heap[k]? = x) (hne : k ≠ g) (v0 v1 v2 v3 v4 v5 v6 v7 : Value) : (set8 w g v0 v1 v2 v3 v4 v5 v6 v7).heap[k]? = x :=
 held_apart (held_apart (held_apart (held_apart (held_apart (held_apart (held_apart (held_apart h _ _ _ hne) _ _ _ hne) _ _ _ hne) _ _ _ hne) _ _ _ hne) _ _ _ hne) _ _ _ hne) _ _ _ hne
theorem mix_any (s : Sh.St) (b : ByteArray) (w : World) (hb : b.size = 64) (hk : KIn w) :
  Calls Tryz.prog 187 #[.agg (stA s), .string b] w fun r w' => r = .returned (.agg (stA (Sh.mix s b.data.toList))) ∧ Below w.heap.size w w' := by
 have HB := Lib.hid hb
 have HK := Lib.hid hk
 have hp := hk.pos
 clear hb hk
 have hl := Sh.wd_length b.data.toList 64
 have HC := Lib.hid (fun (t : Nat) (ht : t < 64) => arr_get (Sh.wd b.data.toList 64) t (by omega))
 have h1 := arr_one (Sh.wd b.data.toList 64)
 have hs := arr_size (Sh.wd b.data.toList 64) (by omega)
 have hi : (Tryz.prog.info? 211).map (·.size) = some (arr (Sh.wd b.data.toList 64)).size := by rw [hs]; exact (zero_of_info info48).2
 have HS := Lib.hid hs
 have HI := Lib.hid hi
 have H1 := Lib.hid h1
 clear hs hi hl h1
 generalize hcs : arr (Sh.wd b.data.toList 64) = cs at HC HS HI H1
 have HW := Lib.hid hcs
 clear hcs
 generalize hM : Sh.mix s b.data.toList = M
 have HM := Lib.hid hM
 clear hM
 obtain ⟨a0, b0, c0, d0, e0, f0, g0, h0⟩ := s
 unfold stA
 go_enter Tryz.func187, Tryz.ntmps187
 go_wp2_with fail
 refine (schedule_any b _ HB.out).mono ?_
 rw [HW.out]
 rintro r w1 ⟨rfl, hb1⟩
 go_wp2_with (refine wpList_store_row rfl 211 _ _ rfl w1.heap.size _ rfl rfl _ _ (heap_alloc_new _ _) HI.out (by rw [HS.out]; rfl) H1.out ?_)
 rw [World.setRow_alloc_new]
 obtain ⟨hsz, F0, F1, F2, hb2⟩ := after_two (X := .cells cs 211) hb1
 have HK2 := Lib.hid (HK.out.below hb2 hp)
 generalize w1.alloc (.cells cs 211) = w2 at F0 F1 F2 hb2 HK2 ⊢
 clear hb1
 generalize w1.heap.size = G at hsz F2 ⊢
 have k0 := cell_of_row w2 w.heap.size 0 _ _ _ F0
 have k1 := cell_of_row w2 w.heap.size 1 _ _ _ F0
 have k2 := cell_of_row w2 w.heap.size 2 _ _ _ F0
 have k3 := cell_of_row w2 w.heap.size 3 _ _ _ F0
 have k4 := cell_of_row w2 w.heap.size 4 _ _ _ F0
 have k5 := cell_of_row w2 w.heap.size 5 _ _ _ F0
 have k6 := cell_of_row w2 w.heap.size 6 _ _ _ F0
 have k7 := cell_of_row w2 w.heap.size 7 _ _ _ F0
 have E0 := Lib.hid F0
 have E1 := Lib.hid F1
 have E2 := Lib.hid F2
 clear F0 F1 F2
 refine region_still (by kernel_rfl) (by kernel_rfl) ?_
 repeat still_step
 refine wpStill_nil ?_
 go_wp2
 go_loopw [6, 7, 8, 9, 10, 11, 12, 13, 35] (fun va vb vc vd ve vf vg vh i wr => ∃ (t : Nat) (s : Sh.St), t ≤ 64 ∧ i = .int .i64 t ∧ Hid (Sh.rounds b.data.toList ⟨a0, b0, c0, d0, e0, f0, g0, h0⟩ t = s) ∧ va = .int .u32 (s.a.toNat : Int) ∧ vb = .int .u32 (s.b.toNat : Int) ∧ vc = .int .u32 (s.c.toNat : Int) ∧ vd = .int .u32 (s.d.toNat : Int) ∧ ve = .int .u32 (s.e.toNat : Int) ∧ vf = .int .u32 (s.f.toNat : Int) ∧ vg = .int .u32 (s.g.toNat : Int) ∧ vh = .int .u32 (s.h.toNat : Int) ∧ Hid (wr.heap = w2.heap) ∧ Below w.heap.size w wr) (fun _ _ _ _ _ _ _ _ i _ => 64 - (intOf i).toNat)
 case atStart => exact ⟨0, _, by omega, rfl, rfl, rfl, rfl, rfl, rfl, rfl, rfl, rfl, rfl, rfl, hb2.drew⟩
 case round =>
  obtain ⟨t, s, ht, rfl, HR, rfl, rfl, rfl, rfl, rfl, rfl, rfl, rfl, HH, hbr⟩ := hrel
  by_cases hlt : t < 64
  ·
   have hck := HK2.out.cell t hlt
   have hcw := (cell_of_row w2 G t _ _ _ E2.out).trans (HC.out t hlt)
   have HN := Lib.hid (show Sh.rounds b.data.toList ⟨a0, b0, c0, d0, e0, f0, g0, h0⟩ (t + 1) = Sh.rnd s (Sh.K.getD t 0) ((Sh.wd b.data.toList 64).getD t 0) by rw [Sh.rounds, HR.out])
   generalize Sh.K.getD t 0 = kt at hck HN
   generalize (Sh.wd b.data.toList 64).getD t 0 = wt at hcw HN
   rw [show w2.cell? ⟨1, t, none⟩ = wr.cell? ⟨1, t, none⟩ by simp only [World.cell?, HH.out]] at hck
   rw [show w2.cell? ⟨G, t, none⟩ = wr.cell? ⟨G, t, none⟩ by simp only [World.cell?, HH.out]] at hcw
   clear HR k0 k1 k2 k3 k4 k5 k6 k7
   obtain ⟨a, b', c, d, e, f, g, h⟩ := s
   have hlt' : (t : Int) < 64 := by omega
   go_wp2
   refine region_still (by kernel_rfl) (by kernel_rfl) ?_
   repeat still_step
   still_call (still_of (right_any _ 6 _ (by decide) (by decide)))
   repeat still_step
   still_call (still_of (right_any _ 11 _ (by decide) (by decide)))
   repeat still_step
   still_call (still_of (right_any _ 25 _ (by decide) (by decide)))
   repeat still_step
   refine wpStill_nil ?_
   simp only [w_xor, w_and, w_not, w_not', w_not2, w_add, w_add']
   rw [show h + (Sh.rr e 6 ^^^ Sh.rr e 11 ^^^ Sh.rr e 25) + (e &&& f ^^^ ~~~e &&& g) + kt + wt = Sh.xs ⟨a, b', c, d, e, f, g, h⟩ kt wt from rfl]
   generalize hx : Sh.xs ⟨a, b', c, d, e, f, g, h⟩ kt wt = x
   have HX := Lib.hid hx
   clear hx
   go_wp2_with fail
   refine (right_any _ 2 _ (by decide) (by decide)).mono ?_
   rintro r w3 ⟨rfl, rfl⟩
   go_wp2_with fail
   refine (right_any _ 13 _ (by decide) (by decide)).mono ?_
   rintro r w3 ⟨rfl, rfl⟩
   go_wp2_with fail
   refine (right_any _ 22 _ (by decide) (by decide)).mono ?_
   rintro r w3 ⟨rfl, rfl⟩
   go_wp2_with fail
   go_roundw
   case rel =>
    refine ⟨t + 1, _, by omega, by go_num, HN, ?_, rfl, rfl, rfl, ?_, rfl, rfl, rfl, HH, hbr.drew⟩
    ·
     simp only [w_xor, w_and, w_add']
     rw [← HX.out]
     rfl
    ·
     simp only [w_add']
     rw [← HX.out]
     rfl
   case measure => simp [intOf]; omega
  ·
   have HT := Lib.hid (show t = 64 by omega)
   have HP := Lib.hid (show Sh.plus ⟨a0, b0, c0, d0, e0, f0, g0, h0⟩ s = M by rw [← HM.out, Sh.mix, ← HR.out, HT.out])
   have hce : ∀ i, w2.cell? ⟨w.heap.size, i, none⟩ = wr.cell? ⟨w.heap.size, i, none⟩ := fun i => by simp only [World.cell?, HH.out]
   rw [hce] at k0 k1 k2 k3 k4 k5 k6 k7
   clear hce
   have HO := Lib.hid ((show wr.heap[w.heap.size + 1]? = w2.heap[w.heap.size + 1]? by rw [HH.out]).trans E1.out)
   obtain ⟨a, b', c, d, e, f, g, h⟩ := s
   have z0 := cell_of_row wr (w.heap.size + 1) 0 _ _ _ HO.out
   have y0 := frozen_of_row wr (w.heap.size + 1) 0 _ _ HO.out
   have z1 := cell_of_row wr (w.heap.size + 1) 1 _ _ _ HO.out
   have y1 := frozen_of_row wr (w.heap.size + 1) 1 _ _ HO.out
   have z2 := cell_of_row wr (w.heap.size + 1) 2 _ _ _ HO.out
   have y2 := frozen_of_row wr (w.heap.size + 1) 2 _ _ HO.out
   have z3 := cell_of_row wr (w.heap.size + 1) 3 _ _ _ HO.out
   have y3 := frozen_of_row wr (w.heap.size + 1) 3 _ _ HO.out
   have z4 := cell_of_row wr (w.heap.size + 1) 4 _ _ _ HO.out
   have y4 := frozen_of_row wr (w.heap.size + 1) 4 _ _ HO.out
   have z5 := cell_of_row wr (w.heap.size + 1) 5 _ _ _ HO.out
   have y5 := frozen_of_row wr (w.heap.size + 1) 5 _ _ HO.out
   have z6 := cell_of_row wr (w.heap.size + 1) 6 _ _ _ HO.out
   have y6 := frozen_of_row wr (w.heap.size + 1) 6 _ _ HO.out
   have z7 := cell_of_row wr (w.heap.size + 1) 7 _ _ _ HO.out
   have y7 := frozen_of_row wr (w.heap.size + 1) 7 _ _ HO.out
   go_wp2
   simp only [w_add']
   obtain rfl := HP.out
   refine bodyPost_ret (v := .agg (stA (Sh.plus ⟨a0, b0, c0, d0, e0, f0, g0, h0⟩ ⟨a, b', c, d, e, f, g, h⟩))) ?_ rfl ⟨rfl, set8_below hbr (by omega) _ _ _ _ _ _ _ _⟩
   exact results_cell_row (by rfl) _ _ (w.heap.size + 1) _ _ _ _ (by rfl) (set8_held HO.out _ _ _ _ _ _ _ _) Tryz.underlying226 rfl info40
end Go.Proofs.YtkcjhkfelaplkaaGreatDoor.S2
end
section
namespace Go.Proofs.YtkcjhkfelaplkaaGreatDoor.S2
open Go.RowKit
open Sh (Wd)
theorem stA_start : stA Sh.start = #[.int .u32 1779033703, .int .u32 3144134277, .int .u32 1013904242, .int .u32 2773480762, .int .u32 1359893119, .int .u32 2600822924, .int .u32 528734635, .int .u32 1541459225] := by kernel_rfl
theorem start_any (w : World) : Calls Tryz.prog 156 #[] w fun r w' => r = .returned (.agg (stA Sh.start)) ∧ Below w.heap.size w w' := by
 rw [stA_start]
 go_enter Tryz.func156, Tryz.ntmps156
 go_wp2
 refine bodyPost_ret (v := .agg _) ?_ rfl ⟨rfl, (Below.refl _ _).alloc (Nat.le_refl _) _⟩
 exact results_cell_row (by rfl) _ _ w.heap.size _ _ _ _ (by rfl) (heap_alloc_new _ _) Tryz.underlying226 rfl info40
def strLen : Value → Nat
 | .string r => r.size
 | _ => 0
theorem take_of_extract (r : ByteArray) (n : Nat) : (r.extract 0 n).data.toList = r.data.toList.take n := by simp [ByteArray.data_extract]
theorem drop_of_extract (r : ByteArray) (n : Nat) : (r.extract n r.size).data.toList = r.data.toList.drop n := by
 simp only [ByteArray.data_extract, Array.toList_extract, List.extract_eq_take_drop]
 rw [List.take_of_length_le (by simp)]
theorem len_data (r : ByteArray) : r.data.toList.length = r.size := by simp
theorem process_any (s : Sh.St) (b : ByteArray) (w : World) (hb : b.size ≤ 9223372036854775807) (hk : KIn w) :
  Calls Tryz.prog 155 #[.agg (stA s), .string b] w fun r w' => r = .returned (.agg (stA (Sh.proc (b.size / 64) s b.data.toList))) ∧ Below w.heap.size w w' := by
 have HK := Lib.hid hk
 have hp := hk.pos
 clear hk
 generalize hM : Sh.proc (b.size / 64) s b.data.toList = M
 have HM := Lib.hid hM
 clear hM
 obtain ⟨S, hS⟩ : ∃ S, S = s := ⟨s, rfl⟩
 rw [← hS] at HM
 have HS := Lib.hid hS
 clear hS
 obtain ⟨a0, b0, c0, d0, e0, f0, g0, h0⟩ := s
 unfold stA
 go_enter Tryz.func155, Tryz.ntmps155
 go_wp2
 go_loopw [1] (fun v wr => ∃ (k : Nat) (r : ByteArray) (s : Sh.St), v = .string r ∧ Hid (r.data.toList = b.data.toList.drop (64 * k)) ∧ 64 * k ≤ b.size ∧ Hid (Sh.proc k S b.data.toList = s) ∧ Hid (wr.heap[w.heap.size]? = some (.cells (stA s) 226)) ∧ Hid (wr.heap[w.heap.size + 1]? = some (.cells (Array.replicate 8 (.int .u32 0)) 226)) ∧ Below w.heap.size w wr ∧ w.heap.size + 2 ≤ wr.heap.size) (fun v _ => strLen v)
 case atStart => exact ⟨0, b, S, rfl, by simp [Hid], by omega, rfl, by rw [HS.out]; exact heap_alloc2_old _ _ _, heap_alloc2_new _ _ _, ((Below.refl _ _).alloc (Nat.le_refl _) _).alloc (by simp) _, by simp⟩
 case round =>
  obtain ⟨k, r, s, rfl, HL, hk, HP, E0, E1, hbr, hsz⟩ := hrel
  have hr : r.size = b.size - 64 * k := by rw [← len_data, HL.out, List.length_drop, len_data]
  by_cases hlt : 64 ≤ r.size
  ·
   have HR := Lib.hid hr
   have hr2 : r.size ≤ 9223372036854775807 := by omega
   have hk2 : 64 * (k + 1) ≤ b.size := by omega
   clear hr
   have k0 := cell_of_row wr w.heap.size 0 _ _ _ E0.out
   have k1 := cell_of_row wr w.heap.size 1 _ _ _ E0.out
   have k2 := cell_of_row wr w.heap.size 2 _ _ _ E0.out
   have k3 := cell_of_row wr w.heap.size 3 _ _ _ E0.out
   have k4 := cell_of_row wr w.heap.size 4 _ _ _ E0.out
   have k5 := cell_of_row wr w.heap.size 5 _ _ _ E0.out
   have k6 := cell_of_row wr w.heap.size 6 _ _ _ E0.out
   have k7 := cell_of_row wr w.heap.size 7 _ _ _ E0.out
   simp only [stA, List.getElem?_toArray, List.getElem?_cons_zero, List.getElem?_cons_succ] at k0 k1 k2 k3 k4 k5 k6 k7
   have hlt' : (64 : Int) ≤ (r.size : Int) := by omega
   go_wp2
   refine region_tail 3 (by kernel_rfl) (by kernel_rfl) ?_
   simp only [List.take_succ_cons, List.take_zero, List.drop_succ_cons, List.drop_zero]
   repeat still_step
   refine wpStill_nil ?_
   go_wp2_with fail
   have HKr := HK.out.below hbr hp
   refine (mix_any s (r.extract 0 64) wr.drew (by simp; omega) HKr).mono ?_
   rw [take_of_extract, HL.out]
   have HP2 := Lib.hid (show Sh.proc (k + 1) S b.data.toList = Sh.mix s ((b.data.toList.drop (64 * k)).take 64) by rw [Sh.proc_succ, HP.out])
   generalize Sh.mix s ((b.data.toList.drop (64 * k)).take 64) = s' at HP2 ⊢
   rintro e w3 ⟨rfl, hb3⟩
   have hs3 := hb3.size
   simp only [World.size_drew] at hs3
   have E0' : w3.heap[w.heap.size]? = _ := (hb3.block _ (by simp; omega)).trans E0.out
   have E1' : w3.heap[w.heap.size + 1]? = _ := (hb3.block _ (by simp; omega)).trans E1.out
   have hb4 : Below w.heap.size w w3 := hbr.drew.trans (hb3.mono (by simp; omega))
   have hs4 : w.heap.size + 2 ≤ w3.heap.size := by omega
   simp only [stA]
   clear k0 k1 k2 k3 k4 k5 k6 k7
   have z0 := cell_of_row w3 w.heap.size 0 _ _ _ E0'
   have z1 := cell_of_row w3 w.heap.size 1 _ _ _ E0'
   have z2 := cell_of_row w3 w.heap.size 2 _ _ _ E0'
   have z3 := cell_of_row w3 w.heap.size 3 _ _ _ E0'
   have z4 := cell_of_row w3 w.heap.size 4 _ _ _ E0'
   have z5 := cell_of_row w3 w.heap.size 5 _ _ _ E0'
   have z6 := cell_of_row w3 w.heap.size 6 _ _ _ E0'
   have z7 := cell_of_row w3 w.heap.size 7 _ _ _ E0'
   simp only [stA, List.getElem?_toArray, List.getElem?_cons_zero, List.getElem?_cons_succ] at z0 z1 z2 z3 z4 z5 z6 z7
   have y0 := frozen_of_row w3 w.heap.size 0 _ _ E0'
   have y1 := frozen_of_row w3 w.heap.size 1 _ _ E0'
   have y2 := frozen_of_row w3 w.heap.size 2 _ _ E0'
   have y3 := frozen_of_row w3 w.heap.size 3 _ _ E0'
   have y4 := frozen_of_row w3 w.heap.size 4 _ _ E0'
   have y5 := frozen_of_row w3 w.heap.size 5 _ _ E0'
   have y6 := frozen_of_row w3 w.heap.size 6 _ _ E0'
   have y7 := frozen_of_row w3 w.heap.size 7 _ _ E0'
   have E0 := Lib.hid E0'
   have E1 := Lib.hid E1'
   clear E0' E1' hb3 hs3
   have HR2 := Lib.hid (show (r.extract 64 r.size).data.toList = b.data.toList.drop (64 * (k + 1)) by rw [drop_of_extract, HL.out, List.drop_drop, Nat.mul_succ])
   go_wp2
   go_roundw
   case rel => exact ⟨k + 1, r.extract 64 r.size, s', rfl, HR2, hk2, HP2, set8_held E0.out _ _ _ _ _ _ _ _, set8_apart E1.out (by omega) _ _ _ _ _ _ _ _, set8_below hb4 (Nat.le_refl _) _ _ _ _ _ _ _ _, by simp; omega⟩
   case measure => simp [strLen]; omega
  ·
   have HQ := Lib.hid (show Sh.proc (b.size / 64) S b.data.toList = s by rw [show b.size / 64 = k by omega]; exact HP.out)
   have hm : M = s := HM.out.symm.trans HQ.out
   subst hm
   have k0 := cell_of_row wr w.heap.size 0 _ _ _ E0.out
   have k1 := cell_of_row wr w.heap.size 1 _ _ _ E0.out
   have k2 := cell_of_row wr w.heap.size 2 _ _ _ E0.out
   have k3 := cell_of_row wr w.heap.size 3 _ _ _ E0.out
   have k4 := cell_of_row wr w.heap.size 4 _ _ _ E0.out
   have k5 := cell_of_row wr w.heap.size 5 _ _ _ E0.out
   have k6 := cell_of_row wr w.heap.size 6 _ _ _ E0.out
   have k7 := cell_of_row wr w.heap.size 7 _ _ _ E0.out
   simp only [stA, List.getElem?_toArray, List.getElem?_cons_zero, List.getElem?_cons_succ] at k0 k1 k2 k3 k4 k5 k6 k7
   have z0 := cell_of_row wr (w.heap.size + 1) 0 _ _ _ E1.out
   have z1 := cell_of_row wr (w.heap.size + 1) 1 _ _ _ E1.out
   have z2 := cell_of_row wr (w.heap.size + 1) 2 _ _ _ E1.out
   have z3 := cell_of_row wr (w.heap.size + 1) 3 _ _ _ E1.out
   have z4 := cell_of_row wr (w.heap.size + 1) 4 _ _ _ E1.out
   have z5 := cell_of_row wr (w.heap.size + 1) 5 _ _ _ E1.out
   have z6 := cell_of_row wr (w.heap.size + 1) 6 _ _ _ E1.out
   have z7 := cell_of_row wr (w.heap.size + 1) 7 _ _ _ E1.out
   have y0 := frozen_of_row wr (w.heap.size + 1) 0 _ _ E1.out
   have y1 := frozen_of_row wr (w.heap.size + 1) 1 _ _ E1.out
   have y2 := frozen_of_row wr (w.heap.size + 1) 2 _ _ E1.out
   have y3 := frozen_of_row wr (w.heap.size + 1) 3 _ _ E1.out
   have y4 := frozen_of_row wr (w.heap.size + 1) 4 _ _ E1.out
   have y5 := frozen_of_row wr (w.heap.size + 1) 5 _ _ E1.out
   have y6 := frozen_of_row wr (w.heap.size + 1) 6 _ _ E1.out
   have y7 := frozen_of_row wr (w.heap.size + 1) 7 _ _ E1.out
   go_wp2
   refine bodyPost_ret (v := .agg (stA M)) ?_ rfl ⟨rfl, set8_below hbr (by omega) _ _ _ _ _ _ _ _⟩
   exact results_cell_row (by rfl) _ _ (w.heap.size + 1) _ _ _ _ (by rfl) (set8_held E1.out _ _ _ _ _ _ _ _) Tryz.underlying226 rfl info40
end Go.Proofs.YtkcjhkfelaplkaaGreatDoor.S2
end
section
namespace Go.Proofs.YtkcjhkfelaplkaaGreatDoor.S2
open Go.RowKit
open Sh (Wd)
def bv (x : UInt8) : Value := .int .u8 (x.toNat : Int)
def idA (l : List UInt8) : Array Value := (l.map bv ++ List.replicate (32 - l.length) (Value.int .u8 0)).toArray
theorem idA_size (l : List UInt8) (h : l.length ≤ 32) : (idA l).size = 32 := by simp [idA]; omega
theorem idA_get (l : List UInt8) (i : Nat) (h : i < l.length) : (idA l)[i]? = some (.int .u8 ((l.getD i 0).toNat : Int)) := by
 simp only [idA, List.getElem?_toArray, List.getD_eq_getElem?_getD]
 rw [List.getElem?_append_left (by simpa using h), List.getElem?_map, List.getElem?_eq_getElem h]
 rfl
theorem idA_rest (l : List UInt8) (i : Nat) (h : l.length ≤ i) (h2 : i < 32) : (idA l)[i]? = some (.int .u8 0) := by
 simp only [idA, List.getElem?_toArray]
 rw [List.getElem?_append_right (by simpa using h), List.getElem?_replicate, if_pos (by simp; omega)]
theorem idA_push (l : List UInt8) (x : UInt8) (h : l.length < 32) : (idA l).setIfInBounds l.length (.int .u8 (x.toNat : Int)) = idA (l ++ [x]) := by
 apply Array.ext_getElem?
 intro i
 simp only [idA, List.setIfInBounds_toArray, List.getElem?_toArray]
 rw [List.set_append_right _ _ (by simp)]
 simp only [List.length_map, Nat.sub_self, List.map_append, List.map_cons, List.map_nil, List.length_append, List.length_cons, List.length_nil, List.append_assoc]
 rw [show 32 - l.length = (32 - (l.length + (0 + 1))) + 1 by omega, List.replicate_succ, List.set_cons_zero]
 rfl
theorem idA_one (l : List UInt8) : (idA l).all (·.oneCell') = true := by
 rw [Array.all_eq_true_iff_forall_mem]
 intro x hx
 simp only [idA, List.mem_toArray, List.mem_append, List.mem_map, List.mem_replicate] at hx
 rcases hx with ⟨y, _, rfl⟩ | ⟨_, rfl⟩ <;> rfl
theorem info24 : (Tryz.prog.info? 46).map (fun i => (i.zero, i.size)) = some (some (.agg (idA [])), 32) := by kernel_rfl
theorem idsize {l : List UInt8} (h : l.length ≤ 32) : (Tryz.prog.info? 46).map (·.size) = some (idA l).size := by rw [idA_size l h]; exact (zero_of_info info24).2
theorem stA_get (s : Sh.St) (i : Nat) (h : i < 8) : (stA s)[i]? = some (.int .u32 ((s.list.getD i 0).toNat : Int)) := by
 rcases i with _ | _ | _ | _ | _ | _ | _ | _ | i
 all_goals first | rfl | omega
theorem range_take (f : Nat → UInt8) (k : Nat) : (List.range (k + 1)).map f = (List.range k).map f ++ [f k] := by rw [List.range_succ, List.map_append]; rfl
theorem byteOf_eq (s : Sh.St) (i : Nat) : ((Sh.byteOf s i).toNat : Int) = (((s.list.getD (i / 4) 0).toNat : Int) / 2 ^ (24 - 8 * (i % 4))) % 256 := by
 simp [Sh.byteOf, UInt8.toNat_ofNat']
theorem heap3 (w : World) (A B C : Obj) : (((w.alloc A).alloc B).alloc C).heap[w.heap.size]? = some A ∧ (((w.alloc A).alloc B).alloc C).heap[w.heap.size + 1]? = some B ∧ (((w.alloc A).alloc B).alloc C).heap[w.heap.size + 1 + 1]? = some C := by
 refine ⟨(Below.heap_alloc _ _ _ (by simp; omega)).trans (heap_alloc2_old _ _ _), (Below.heap_alloc _ _ _ (by simp)).trans (heap_alloc2_new _ _ _), ?_⟩
 have h := heap_alloc_new ((w.alloc A).alloc B) C
 rwa [show ((w.alloc A).alloc B).heap.size = w.heap.size + 1 + 1 by simp] at h
theorem idOf_any (s : Sh.St) (w : World) :
  Calls Tryz.prog 158 #[.agg (stA s)] w fun r w' => r = .returned (.agg (idA (Sh.idOf s))) ∧ Below w.heap.size w w' := by
 generalize hM : Sh.idOf s = M
 have HM := Lib.hid hM
 clear hM
 obtain ⟨S, hS⟩ : ∃ S, S = s := ⟨s, rfl⟩
 rw [← hS] at HM
 have HS := Lib.hid (show stA S = stA s by rw [hS])
 clear hS
 obtain ⟨a0, b0, c0, d0, e0, f0, g0, h0⟩ := s
 unfold stA
 go_enter Tryz.func158, Tryz.ntmps158
 go_wp2
 go_loopw [5] (fun v wr => ∃ (k : Nat), k ≤ 32 ∧ v = .int .i64 k ∧ Hid (wr.heap[w.heap.size]? = some (.cells (stA S) 226)) ∧ Hid (wr.heap[w.heap.size + 1]? = some (.cells (idA []) 46)) ∧ Hid (wr.heap[w.heap.size + 1 + 1]? = some (.cells (idA ((List.range k).map (Sh.byteOf S))) 46)) ∧ Below w.heap.size w wr) (fun v _ => 32 - (intOf v).toNat)
 case atStart =>
  refine ⟨0, by omega, rfl, ?_, ?_, ?_, (((Below.refl _ _).alloc (Nat.le_refl _) _).alloc (by simp) _).alloc (by simp; omega) _⟩
  · rw [HS.out]; exact (heap3 w _ _ _).1
  · exact (heap3 w _ _ _).2.1
  · exact (heap3 w _ _ _).2.2
 case round =>
  obtain ⟨k, hk, rfl, E0, E1, E2, hbr⟩ := hrel
  by_cases hlt : k < 32
  ·
   have c1 := (cell_of_row wr w.heap.size (k / 4) _ _ _ E0.out).trans (stA_get S (k / 4) (by omega))
   have c2 := (cell_of_row wr (w.heap.size + 1 + 1) k _ _ _ E2.out).trans (idA_rest _ k (by simp) (by omega))
   have c3 := frozen_of_row wr (w.heap.size + 1 + 1) k _ _ E2.out
   have HB := Lib.hid (byteOf_eq S k)
   generalize S.list.getD (k / 4) 0 = x at c1 HB
   have hd : (24 - 8 * ((k : Int) % 4)).toNat = 24 - 8 * (k % 4) := by omega
   have hd0 : 0 ≤ 24 - 8 * ((k : Int) % 4) := by omega
   have hk4 : (k : Int) / 4 < 8 := by omega
   have hk5 : ((k : Int) / 4).toNat = k / 4 := by omega
   have hlt' : (k : Int) < 32 := by omega
   go_wp2
   rw [← HB.out]
   refine ⟨⟨k + 1, by omega, by go_num, held_apart E0.out _ _ _ (by omega), held_apart E1.out _ _ _ (by omega), ?_, hbr.setCell (by simp; omega) _⟩, by simp [intOf]; omega⟩
   rw [range_take, ← idA_push _ _ (by simp; omega)]
   have := held_set E2.out k (.int .u8 ((Sh.byteOf S k).toNat : Int))
   simpa [Hid] using this
  ·
   have HT := Lib.hid (show (List.range k).map (Sh.byteOf S) = M by rw [← HM.out, show k = 32 by omega]; rfl)
   have hl : M.length ≤ 32 := by rw [← HT.out]; simp; omega
   rw [HT.out] at E2
   have HI := Lib.hid (idsize hl)
   have H0 := Lib.hid (show (idA []).size = (idA M).size by rw [idA_size M hl]; rfl)
   have hu := Lib.hid Tryz.underlying46
   go_wp2_with (first | (refine wpList_load_row rfl 46 _ rfl (w.heap.size + 1 + 1) rfl _ _ _ _ E2.out hu.out rfl HI.out ?_) | (refine wpList_store_row rfl 46 _ _ rfl (w.heap.size + 1) _ rfl rfl _ _ E1.out HI.out H0.out (idA_one _) ?_))
   refine bodyPost_ret (v := .agg (idA M)) ?_ rfl ⟨rfl, below_setRow hbr (by omega) _⟩
   exact results_cell_row (by rfl) _ _ (w.heap.size + 1) _ _ _ _ (by rfl) (setRow_heap _ _ _ _ _ _ E1.out) hu.out rfl HI.out
end Go.Proofs.YtkcjhkfelaplkaaGreatDoor.S2
end
section
namespace Go.Proofs.YtkcjhkfelaplkaaGreatDoor.S2
open Go.RowKit
theorem Tryz.infoByte : (Tryz.prog.info? 5).map (fun i => (i.zero, i.size, i.bytes)) = some (some (.int .u8 0), 1, 1) := by kernel_rfl
def cellsOf (l : List UInt8) : List Value := l.map fun b => Value.int .u8 (b.toNat : Int)
theorem cellsOf_length (l : List UInt8) : (cellsOf l).length = l.length := by simp [cellsOf]
theorem cellsOf_snoc (l : List UInt8) (b : UInt8) : cellsOf (l ++ [b]) = cellsOf l ++ [.int .u8 (b.toNat : Int)] := by simp [cellsOf]
theorem cellsOf_get (l : List UInt8) (j : Nat) (hj : j < l.length) : (cellsOf l)[j]? = some (.int .u8 ((l[j]).toNat : Int)) := by simp [cellsOf, hj]
def OwnB (w : World) (base : Nat) (v : Value) (l : List UInt8) : Prop :=
 (v = .slice none 0 0 ∧ l = []) ∨
 ∃ g cap cur fz, v = .slice (some ⟨g, 0, none⟩) l.length cap ∧ base ≤ g ∧ w.heap[g]? = some (.cells cur 5 fz) ∧ (cur.size ≤ fz.1 ∨ fz.2 = 0) ∧ l.length ≤ cap ∧ cap ≤ maxLen ∧ cur.size = cap ∧ cur.toList.take l.length = cellsOf l
theorem OwnB.nil (w : World) (base : Nat) : OwnB w base (.slice none 0 0) [] := .inl ⟨rfl, rfl⟩
theorem OwnB.alloc {w : World} {base : Nat} {v : Value} {l : List UInt8} (h : OwnB w base v l) (o : Obj) : OwnB (w.alloc o) base v l := by
 rcases h with h | ⟨g, cap, cur, fz, h1, h2, h3, h4⟩
 · exact .inl h
 · exact .inr ⟨g, cap, cur, fz, h1, h2, (Below.heap_alloc w o g (Array.getElem?_eq_some_iff.1 h3).1).trans h3, h4⟩
theorem OwnB.below {w w' : World} {base B : Nat} {v : Value} {l : List UInt8} (h : OwnB w base v l) (hb : Below w.heap.size w w') : OwnB w' base v l := by
 rcases h with h | ⟨g, cap, cur, fz, h1, h2, h3, h4⟩
 · exact .inl h
 · exact .inr ⟨g, cap, cur, fz, h1, h2, (hb.block g (Array.getElem?_eq_some_iff.1 h3).1).trans h3, h4⟩
theorem OwnB.drew {w : World} {base : Nat} {v : Value} {l : List UInt8} (h : OwnB w base v l) : OwnB w.drew base v l := h
theorem OwnB.form {w : World} {base : Nat} {v : Value} {l : List UInt8} (h : OwnB w base v l) : ∃ p cap, v = .slice p l.length cap := by
 rcases h with ⟨rfl, rfl⟩ | ⟨g, cap, cur, fz, h1, h2, h3, h4⟩
 · exact ⟨_, _, rfl⟩
 · exact ⟨_, _, h1⟩
theorem OwnB.conv (w : World) (s : ByteArray) (hs : s.size ≤ maxLen) : OwnB (Lib.bytesWorld w 5 s) w.heap.size (.slice (some ⟨w.heap.size, 0, none⟩) s.size (grownCap w s.size 0 5)) s.data.toList := by
 have hge := grownCap_ge w s.size 0 5
 have hsz : (Lib.bytesCells w 5 s).size = grownCap w s.size 0 5 := by simp [Lib.bytesCells]; omega
 refine .inr ⟨w.heap.size, grownCap w s.size 0 5, Lib.bytesCells w 5 s, _, by simp, Nat.le_refl _, Lib.bytesWorld_at_new w 5 s, .inl (Nat.le_refl _), by simpa using hge, grownCap_le_maxLen _ _ _ _ hs, hsz, ?_⟩
 simp [Lib.bytesCells, cellsOf]
theorem below_conv (w : World) (s : ByteArray) : Below w.heap.size w (Lib.bytesWorld w 5 s) :=
 ⟨rfl, rfl, rfl, by rw [Lib.bytesWorld_size]; omega, fun k hk => Lib.bytesWorld_at_old w _ s k hk⟩
theorem frozen_behind {w : World} {g n : Nat} {cur : Array Value} {t : TypeId} {fz : Nat × Nat} (h : w.heap[g]? = some (.cells cur t fz)) (hf : cur.size ≤ fz.1 ∨ fz.2 = 0) (hn : n < cur.size) : w.frozen? ⟨g, n, none⟩ = false := by
 obtain ⟨lo, hi⟩ := fz
 simp only [World.frozen?, h]
 rcases hf with hf | hf
 ·
  have : ¬ lo ≤ n := by simp at hf; omega
  simp [this]
 ·
  have : ¬ n < hi := by simp at hf; omega
  simp [this]
theorem run_push (w : World) (base : Nat) (i : TypeInfo) (hi : Tryz.prog.info? 5 = some i) (hz : i.zero = some (.int .u8 0)) (hsize : i.size = 1) (hby : i.bytes = 1) (ty : TypeId)
  (v : Value) (l : List UInt8) (h : OwnB w base v l) (b : UInt8) (ad : Addr) (c : Nat) (hc : w.cell? ad = some (.int .u8 (b.toNat : Int))) (hl : l.length + 1 ≤ 140737488355328) (hbase : base ≤ w.heap.size) :
  ∃ v' w', (Builtin.append_ #[23, 23] ty #[v, .slice (some ad) 1 c]).run Tryz.prog w = .ok v' w' ∧ OwnB w' base v' (l ++ [b]) ∧ (∀ W0, Below base W0 w → Below base W0 w') := by
 have ht := Tryz.underlying23
 have hnews : ∀ j u, [Value.int .u8 (b.toNat : Int)][j]? = some u → w.cell? (ad.add j) = some u := by
  intro j u hj
  match j, hj with
  | 0, hj =>
    simp at hj
    subst hj
    rw [show ad.add 0 = ad by simp [Addr.add]]
    exact hc
  | (j + 1), hj => simp at hj
 have hml : l.length + 1 ≤ maxLen := by unfold maxLen; omega
 rcases h with ⟨rfl, rfl⟩ | ⟨g, cap, cur, fz, rfl, hg, hh, hf, hlc, hcm, hcs, htake⟩
 ·
  obtain ⟨v', w', r1, r2, r3, r4⟩ := run_append_own (P := Tryz.prog) w base 23 ty 5 i (.int .u8 0) 1 1 ht hi hz hsize hby rfl (by decide) (.slice none 0 0) 0 [] ⟨by simp, .inl ⟨rfl, rfl⟩⟩ ad 1 c [.int .u8 (b.toNat : Int)] rfl hnews (by intro u hu; simp at hu; subst hu; rfl) (by decide) (by decide) hbase
  refine ⟨v', w', r1, ?_, fun W0 hb => hb.grown r3 hbase (fun k hk => by simp [Value.ownBlock] at hk)⟩
  rcases r2.2 with ⟨_, h0⟩ | ⟨g, cap, cur, hv, hg, hh, hn, hm, hcs, htk⟩
  · omega
  · exact .inr ⟨g, cap, cur, (0, 0), hv, hg, hh, .inr rfl, hn, hm, by simpa using hcs, by simpa [cellsOf] using htk⟩
 ·
  by_cases hroom : l.length + 1 ≤ cap
  ·
   have hcell : w.cell? ⟨g, l.length, none⟩ = some (cur[l.length]'(by omega)) := by
    rw [cell_of_row w g _ cur _ _ hh]; simp [show l.length < cur.size by omega]
   have hfr := frozen_behind hh hf (n := l.length) (by omega)
   have hfc := run_firstCells_some (P := Tryz.prog) w i.size 1 ad 1 c [.int .u8 (b.toNat : Int)] (by simp [hsize]) hnews
   have hst : (storeCells ⟨g, l.length * i.size, none⟩ [Value.int .u8 (b.toNat : Int)] 0).run Tryz.prog w = .ok () (w.setCell ⟨g, l.length, none⟩ (.int .u8 (b.toNat : Int))) := by
    rw [hsize, Nat.mul_one]
    simp only [storeCells, Sem.run_bind, Addr.add_lit, Nat.add_zero]
    rw [run_store _ _ _ _ _ (by rfl), hcell]
    simp [hfr, Result.andThen]
   refine ⟨.slice (some ⟨g, 0, none⟩) (l.length + 1) cap, w.setCell ⟨g, l.length, none⟩ (.int .u8 (b.toNat : Int)), ?_, ?_, fun W0 hb => hb.setCell hg _⟩
   · simp [Builtin.append_, run_underlying ht, sizeOf, typeInfo, hi, Builtin.lenOf, hroom, hfc, Addr.add_lit, hst]
   ·
    have hset : (w.setCell ⟨g, l.length, none⟩ (.int .u8 (b.toNat : Int))).heap[g]? = some (.cells (cur.setIfInBounds l.length (.int .u8 (b.toNat : Int))) 5 fz) := by
     rw [setCell_eq_setRow w g _ cur _ fz _ hh]; exact setRow_heap w g cur _ _ _ hh
    refine .inr ⟨g, cap, _, fz, by simp, hg, hset, by simpa using hf, by simpa using hroom, hcm, by simpa using hcs, ?_⟩
    rw [cellsOf_snoc, ← htake]
    simp only [Array.toList_setIfInBounds, List.length_append, List.length_singleton]
    rw [List.take_add_one]
    congr 1
    · rw [List.take_set, List.set_eq_of_length_le (by simp; omega)]
    · rw [List.getElem?_set_self (by simp; omega)]; rfl
  ·
   have holds : ∀ j u, (cellsOf l)[j]? = some u → w.cell? ((⟨g, 0, none⟩ : Addr).add j) = some u := by
    intro j u hj
    have hadd : (⟨g, 0, none⟩ : Addr).add j = ⟨g, j, none⟩ := by unfold Addr.add; split <;> simp_all
    rw [hadd, cell_of_row w g j cur _ _ hh]
    rw [← htake, List.getElem?_take] at hj
    split at hj
    · simpa using hj
    · cases hj
   have hr := run_append_grow (P := Tryz.prog) w 23 ty 5 i (.int .u8 0) ht hi hz ⟨g, 0, none⟩ l.length cap (cellsOf l) (by rw [cellsOf_length, hsize, Nat.mul_one]) holds ad 1 c [.int .u8 (b.toNat : Int)] (by simp [hsize]) hnews (by omega) (by unfold maxLen at hml; omega) (growslice_fits (by omega) (by rw [hby]; omega))
   have hge := grownCap_ge w (l.length + 1) cap 5
   refine ⟨_, _, hr, .inr ⟨w.heap.size, _, _, (0, 0), by simp; rfl, hbase, heap_alloc_new w.drew _, .inr rfl, by simpa using hge, grownCap_le_maxLen w _ cap _ hml, ?_, ?_⟩, fun W0 hb => hb.drew.alloc hbase _⟩
   ·
    simp only [Array.size_append, List.size_toArray, size_zeroCells, cellsOf_length, List.length_singleton, show (Value.int .u8 0).cells.size = 1 from rfl]
    omega
   ·
    rw [cellsOf_snoc]
    simp only [Array.toList_append, List.length_append, List.length_singleton]
    rw [← cellsOf_length l, show (cellsOf l).length + 1 = (cellsOf l ++ [Value.int .u8 (b.toNat : Int)]).length by simp]
    exact List.take_left
theorem info_byte : ∃ i, Tryz.prog.info? 5 = some i ∧ i.zero = some (.int .u8 0) ∧ i.size = 1 ∧ i.bytes = 1 := info_parts Tryz.infoByte
theorem wpList_push {ops : Array Oper} {rest : List Oper} {o : Oper} {a : Act} {Q : Exit → Act → World → Prop} (hgd : o.guard = none) (s x : Operand)
  (ho : o.op = .call { callee := .builtin .append, args := #[s, x], argTypes := #[23, 23] })
  (v : Value) (l : List UInt8) (hs : a.eval s = v) (W0 w0 : World) (n : Int) (b : UInt8) (hn : n = (b.toNat : Int)) (h : OwnB w0 W0.heap.size v l) (hb : Below W0.heap.size W0 w0)
  (hx : a.eval x = .slice (some ⟨w0.heap.size, 0, none⟩) 1 1) (hl : l.length + 1 ≤ 140737488355328)
  (hK : ∀ v' w', OwnB w' W0.heap.size v' (l ++ [b]) → Below W0.heap.size W0 w' → wpList Tryz.prog ops Q rest (a.put o.dst v') w') : wpList Tryz.prog ops Q (o :: rest) a (w0.alloc (.cells #[.int .u8 n] 5)) := by
 subst hn
 obtain ⟨i, hi, hz, h1, h2⟩ := info_byte
 have hbs := hb.size
 obtain ⟨v', w', hr, ho', hb'⟩ := run_push (w0.alloc (.cells #[.int .u8 (b.toNat : Int)] 5)) W0.heap.size i hi hz h1 h2 o.type v l (h.alloc _) b ⟨w0.heap.size, 0, none⟩ 1 (by simp) hl (by simp; omega)
 refine wpList_plain hgd fun K hK' => ?_
 unfold Oper.wp execOp
 simp only [ho, resolve, invoke, builtin, Sem.run_bind, Sem.run_pure, Result.andThen_ok, List.map_toArray, List.map_cons, List.map_nil, hs, hx, hr]
 exact hK' _ _ (hK v' w' ho' (hb' _ (hb.alloc hbs _)))
theorem OwnB.back {w : World} {base : Nat} {v : Value} {l : List UInt8} (h : OwnB w base v l) (hl : l ≠ []) : (convert 23 9 v).run Tryz.prog w = .ok (.string ⟨l.toArray⟩) w := by
 rcases h with ⟨_, h0⟩ | ⟨g, cap, cur, fz, rfl, hg, hh, hf, hlc, hcm, hcs, htake⟩
 · exact absurd h0 hl
 ·
  refine run_convert_bytes_back (P := Tryz.prog) w 23 9 5 ⟨g, 0, none⟩ cap l Tryz.underlying23 Tryz.underlying5 Tryz.underlying9 (fun j hj => ?_)
  have hadd : (⟨g, 0, none⟩ : Addr).add j = ⟨g, j, none⟩ := by unfold Addr.add; split <;> simp_all
  have hc := cellsOf_get l j hj
  rw [← htake, List.getElem?_take_of_lt hj] at hc
  rw [hadd, cell_of_row w g j cur _ _ hh]
  simpa using hc
end Go.Proofs.YtkcjhkfelaplkaaGreatDoor.S2
end
section
namespace Go.Proofs.YtkcjhkfelaplkaaGreatDoor.S2
open Go.RowKit
open Sh (Wd)
theorem gap_more (n k : Nat) (hk : k ≤ Sh.gap n) (h : (n + k) % 64 ≠ 56) : k < Sh.gap n := by unfold Sh.gap at *; omega
theorem gap_end (n k : Nat) (hk : k ≤ Sh.gap n) (h : (n + k) % 64 = 56) : k = Sh.gap n := by unfold Sh.gap at *; omega
theorem gap_lt (n : Nat) : Sh.gap n < 64 := by unfold Sh.gap; omega
def lenB : Value → Nat
 | .slice _ n _ => n
 | _ => 0
def zs (l : List UInt8) (k : Nat) : List UInt8 := l ++ [128] ++ List.replicate k 0
theorem zs_len (l : List UInt8) (k : Nat) : (zs l k).length = l.length + 1 + k := by simp [zs]; omega
theorem zs_zero (l : List UInt8) : zs l 0 = l ++ [128] := by simp [zs]
theorem zs_succ (l : List UInt8) (k : Nat) : zs l k ++ [0] = zs l (k + 1) := by simp [zs, List.replicate_succ']
def es (l : List UInt8) (m k : Nat) : List UInt8 := zs l (Sh.gap (l.length + 1)) ++ (List.range k).map (Sh.be8 m)
theorem es_len (l : List UInt8) (m k : Nat) : (es l m k).length = l.length + 1 + Sh.gap (l.length + 1) + k := by simp [es, zs_len]
theorem es_zero (l : List UInt8) (m : Nat) : es l m 0 = zs l (Sh.gap (l.length + 1)) := by simp [es]
theorem es_succ (l : List UInt8) (m k : Nat) : es l m k ++ [Sh.be8 m k] = es l m (k + 1) := by simp [es, List.range_succ]
theorem es_all (l : List UInt8) (n : Nat) : es l (8 * n) 8 = Sh.ending l n := by simp [es, zs, Sh.ending]
theorem be8_eq (n k : Nat) (hk : k < 8) : ((n : Int) / 2 ^ (56 - 8 * k)) % 256 = ((Sh.be8 n k).toNat : Int) := by
 simp [Sh.be8, UInt8.toNat_ofNat']
theorem ending_any (last : ByteArray) (n : Nat) (w : World) (hl : last.size ≤ 70368744177664) (hn : n ≤ 140737488355328) :
  Calls Tryz.prog 157 #[.string last, .int .u64 (n : Int)] w fun r w' => r = .returned (.string ⟨(Sh.ending last.data.toList n).toArray⟩) ∧ Below w.heap.size w w' := by
 have hcv := Lib.run_convert_string_bytes (P := Tryz.prog) w 9 23 5 last Tryz.underlying9 Tryz.underlying23 Tryz.underlying5
 have hown := OwnB.conv w last (by unfold maxLen; omega)
 have hbl := below_conv w last
 have HL := Lib.hid (show last.data.toList.length = last.size by simp)
 generalize Lib.bytesWorld w 5 last = wb at hcv hown hbl
 generalize hv : Value.slice (some ⟨w.heap.size, 0, none⟩) last.size (grownCap w last.size 0 5) = v0 at hcv hown
 clear hv
 generalize hE : (⟨(Sh.ending last.data.toList n).toArray⟩ : ByteArray) = E
 have HE := Lib.hid hE
 clear hE
 have hwn : IntKind.u64.wrap (8 * (n : Int)) = 8 * (n : Int) := by
  simp [IntKind.wrap, IntKind.bits, IntKind.signed]; omega
 have hl0 : last.data.toList.length ≤ 70368744177664 := by rw [HL.out]; omega
 generalize hll : last.data.toList = l at hown HL HE hl0
 clear hll
 go_enter Tryz.func157, Tryz.ntmps157
 go_wp2_with (at_builtin; go_must (refine wpList_push (by rfl) _ _ (by rfl) v0 l (by rfl) w wb _ 128 rfl hown hbl (by rfl) (by omega) ?_))
 intro v1 w1 ho1 hb1
 clear hcv hown hbl
 go_wp2
 have hgl := gap_lt (l.length + 1)
 go_loopw [5] (fun v wr => ∃ (k : Nat), k ≤ Sh.gap (l.length + 1) ∧ OwnB wr w.heap.size v (zs l k) ∧ Below w.heap.size w wr) (fun v _ => l.length + 1 + 64 - lenB v)
 case atStart => exact ⟨0, Nat.zero_le _, by rw [zs_zero]; exact ho1, hb1⟩
 case round =>
  clear ho1 hb1
  obtain ⟨k, hk, ho, hb⟩ := hrel
  obtain ⟨p, cap, rfl⟩ := ho.form
  have HN := Lib.hid (zs_len l k)
  rw [HN.out] at ho ⊢
  by_cases h56 : (l.length + 1 + k) % 64 = 56
  ·
   have hk' := gap_end _ _ hk h56
   have hd : (((l.length : Int) + 1 + (k : Int)) % 64 != 56) = false := by
    simp; omega
   rw [show zs l k = es l (8 * n) 0 by rw [es_zero, hk']] at ho
   clear hk' h56
   have HL' := Lib.hid hd
   go_wp2
   go_loopw [21, 5] (fun i v wr => ∃ (j : Nat), j ≤ 8 ∧ i = .int .i64 j ∧ OwnB wr w.heap.size v (es l (8 * n) j) ∧ Below w.heap.size w wr) (fun i _ _ => 8 - (intOf i).toNat)
   case atStart => exact ⟨0, by omega, rfl, ho, hb⟩
   case round =>
    clear ho hb
    obtain ⟨j, hj, rfl, ho, hb⟩ := hrel
    obtain ⟨p2, cap2, rfl⟩ := ho.form
    have hlen := es_len l (8 * n) j
    by_cases hlt : j < 8
    ·
     have hb8 : (8 * (n : Int)) / 2 ^ (56 - 8 * j) % 256 = ((Sh.be8 (8 * n) j).toNat : Int) := by
      have := be8_eq (8 * n) j hlt
      rw [← this]; simp
     have hq : (56 - 8 * (j : Int)).toNat = 56 - 8 * j := by omega
     have hq0 : 0 ≤ 56 - 8 * (j : Int) := by omega
     have hlt' : (j : Int) < 8 := by omega
     have HB8 := Lib.hid hb8
     have HLN := Lib.hid (show (es l (8 * n) j).length + 1 ≤ 140737488355328 by omega)
     clear hb8 hlen
     go_wp2_with (at_builtin; go_must (refine wpList_push (by rfl) _ _ (by rfl) (.slice p2 (es l (8 * n) j).length cap2) _ (by rfl) w wr _ (Sh.be8 (8 * n) j) HB8.out ho hb (by rfl) HLN.out ?_))
     intro v2 w2 ho2 hb2
     rw [es_succ] at ho2
     clear ho hb
     go_wp2
     exact ⟨⟨j + 1, by omega, by go_num, ho2, hb2⟩, by simp [intOf]; omega⟩
    ·
     obtain rfl : j = 8 := by omega
     have hne : es l (8 * n) 8 ≠ [] := fun h0 => by rw [h0] at hlen; simp at hlen
     have hcv := ho.back hne
     have hb' := hb
     have HEE := Lib.hid (show (⟨(es l (8 * n) 8).toArray⟩ : ByteArray) = E by rw [← HE.out, es_all])
     rw [HEE.out] at hcv
     clear hlen hne ho
     go_wp2
     go_ret
     exact ⟨rfl, hb'⟩
  ·
   have hk' := gap_more _ _ hk h56
   have hd : (((l.length : Int) + 1 + (k : Int)) % 64 != 56) = true := by
    rw [bne_iff_ne]; omega
   go_wp2_with (at_builtin; go_must (refine wpList_push (by rfl) _ _ (by rfl) (.slice p (l.length + 1 + k) cap) _ (by rfl) w wr _ 0 rfl ho hb (by rfl) (by rw [HN.out]; omega) ?_))
   intro v2 w2 ho2 hb2
   rw [zs_succ] at ho2
   clear ho hb hd
   obtain ⟨p2, cap2, rfl⟩ := ho2.form
   have HN2 := Lib.hid (zs_len l (k + 1))
   rw [HN2.out] at ho2 ⊢
   go_wp2
   exact ⟨⟨k + 1, by omega, ho2, hb2⟩, by simp only [lenB]; omega⟩
end Go.Proofs.YtkcjhkfelaplkaaGreatDoor.S2
end
