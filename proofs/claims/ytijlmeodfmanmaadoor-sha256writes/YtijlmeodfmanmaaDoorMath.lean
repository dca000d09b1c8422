/-
  PLAIN MATHEMATICS OF LAYER 2: SHA-256 over words of 32 bits and lists of bytes. No dump is imported.
-/
namespace Go.Proofs.YtijlmeodfmanmaaDoor
namespace Sh
set_option linter.unusedSimpArgs false

abbrev Wd := BitVec 32

/-- A word rotated right by n bits. -/
def rr (x : Wd) (n : Nat) : Wd := (x <<< (32 - n)) ||| (x >>> n)

theorem turn_eq (x : Wd) (n : Nat) (h0 : 0 < n) (h : n < 32) : (x >>> n) + (x <<< (32 - n)) = rr x n := by
  have hd : (x >>> n) &&& (x <<< (32 - n)) = 0 := by
    ext i hi
    simp only [BitVec.getElem_and, BitVec.getElem_ushiftRight, BitVec.getElem_shiftLeft, BitVec.getElem_zero]
    by_cases hlt : i < 32 - n
    · simp [hlt]
    · have : 32 ≤ n + i := by omega
      simp [BitVec.getLsbD_of_ge x (n + i) this]
  rw [BitVec.add_eq_or_of_and_eq_zero _ _ hd, BitVec.or_comm]
  rfl

def bw (b : UInt8) : Wd := BitVec.ofNat 32 b.toNat
theorem bw_toNat (b : UInt8) : (bw b).toNat = b.toNat := by
  have := b.toNat_lt
  simp only [bw, BitVec.toNat_ofNat]
  omega

/-- Four bytes, the highest one first. -/
def be4 (a b c d : UInt8) : Wd := ((bw a <<< 24 ||| bw b <<< 16) ||| bw c <<< 8) ||| bw d

theorem or_add (x y : Nat) (i : Nat) (h : y < 2 ^ i) (hx : x % 2 ^ i = 0) : x ||| y = x + y := by
  have hq : x = 2 ^ i * (x / 2 ^ i) := by have := Nat.div_add_mod x (2 ^ i); omega
  rw [hq, ← Nat.two_pow_add_eq_or_of_lt h]

theorem be4_toNat (a b c d : UInt8) : (be4 a b c d).toNat = a.toNat * 16777216 + b.toNat * 65536 + c.toNat * 256 + d.toNat := by
  have ha := a.toNat_lt
  have hb := b.toNat_lt
  have hc := c.toNat_lt
  have hd := d.toNat_lt
  simp only [be4, BitVec.toNat_or, BitVec.toNat_shiftLeft, bw_toNat, Nat.shiftLeft_eq]
  rw [Nat.mod_eq_of_lt (by omega), Nat.mod_eq_of_lt (by omega), Nat.mod_eq_of_lt (by omega)]
  rw [or_add _ (b.toNat * 2 ^ 16) 24 (by omega) (by omega), or_add _ (c.toNat * 2 ^ 8) 16 (by omega) (by omega), or_add _ d.toNat 8 (by omega) (by omega)]
  try omega

theorem m1 (a : Nat) (h : a < 256) : a * 16777216 ≤ 4278190080 := Nat.mul_le_mul_right 16777216 (Nat.le_of_lt_succ h)
theorem m2 (a : Nat) (h : a < 256) : a * 65536 ≤ 16711680 := Nat.mul_le_mul_right 65536 (Nat.le_of_lt_succ h)
theorem m3 (a : Nat) (h : a < 256) : a * 256 ≤ 65280 := Nat.mul_le_mul_right 256 (Nat.le_of_lt_succ h)
theorem sums (p q r d : Nat) (hp : p ≤ 4278190080) (hq : q ≤ 16711680) (hr : r ≤ 65280) (hd : d < 256) : ((((p % 4294967296 + q % 4294967296) % 4294967296 + r % 4294967296) % 4294967296 + d) % 4294967296) = p + q + r + d := by
  rw [Nat.mod_eq_of_lt (show p < 4294967296 by omega), Nat.mod_eq_of_lt (show q < 4294967296 by omega), Nat.mod_eq_of_lt (show r < 4294967296 by omega), Nat.mod_eq_of_lt (show p + q < 4294967296 by omega), Nat.mod_eq_of_lt (show p + q + r < 4294967296 by omega), Nat.mod_eq_of_lt (show p + q + r + d < 4294967296 by omega)]
theorem l1 : (16777216 : Wd).toNat = 16777216 := by decide
theorem l2 : (65536 : Wd).toNat = 65536 := by decide
theorem l3 : (256 : Wd).toNat = 256 := by decide

theorem be4_mul' (a b c d : UInt8) (k1 k2 k3 : Wd) (h1 : k1.toNat = 16777216) (h2 : k2.toNat = 65536) (h3 : k3.toNat = 256) : bw a * k1 + bw b * k2 + bw c * k3 + bw d = be4 a b c d := by
  apply BitVec.eq_of_toNat_eq
  rw [be4_toNat]
  simp only [BitVec.toNat_add, BitVec.toNat_mul, bw_toNat, h1, h2, h3, Nat.reducePow]
  exact sums _ _ _ _ (m1 _ a.toNat_lt) (m2 _ b.toNat_lt) (m3 _ c.toNat_lt) d.toNat_lt
theorem be4_mul (a b c d : UInt8) : bw a * 16777216 + bw b * 65536 + bw c * 256 + bw d = be4 a b c d := be4_mul' a b c d _ _ _ l1 l2 l3

def s0 (x : Wd) : Wd := (rr x 7 ^^^ rr x 18) ^^^ (x >>> 3)
def s1 (x : Wd) : Wd := (rr x 17 ^^^ rr x 19) ^^^ (x >>> 10)
def b1 (x : Wd) : Wd := (rr x 6 ^^^ rr x 11) ^^^ rr x 25
def b0 (x : Wd) : Wd := (rr x 2 ^^^ rr x 13) ^^^ rr x 22
def ch (e f g : Wd) : Wd := (e &&& f) ^^^ (~~~e &&& g)
def maj (a b c : Wd) : Wd := ((a &&& b) ^^^ (a &&& c)) ^^^ (b &&& c)

def nextW (ws : List Wd) (t : Nat) : Wd := ws.getD (t - 16) 0 + ws.getD (t - 7) 0 + s0 (ws.getD (t - 15) 0) + s1 (ws.getD (t - 2) 0)
/-- The word of four bytes of a block. -/
def blk (b : List UInt8) (t : Nat) : Wd := be4 (b.getD (4 * t) 0) (b.getD (4 * t + 1) 0) (b.getD (4 * t + 2) 0) (b.getD (4 * t + 3) 0)
def newW (b : List UInt8) (l : List Wd) (n : Nat) : Wd := if n < 16 then blk b n else nextW l n
/-- The first n words of a block. -/
def wd (b : List UInt8) : Nat → List Wd
  | 0 => []
  | n + 1 => wd b n ++ [newW b (wd b n) n]
theorem wd_length (b : List UInt8) : ∀ n, (wd b n).length = n
  | 0 => rfl
  | n + 1 => by simp [wd, wd_length b n]
theorem wd_prefix (b : List UInt8) (n k i : Nat) (h : i < n) : (wd b (n + k)).getD i 0 = (wd b n).getD i 0 := by
  induction k with
  | zero => rfl
  | succ k ih =>
    rw [← Nat.add_assoc, wd]
    rw [← ih]
    simp only [List.getD_eq_getElem?_getD]
    rw [List.getElem?_append_left (by rw [wd_length]; omega)]

def K : List Wd := [1116352408, 1899447441, 3049323471, 3921009573, 961987163, 1508970993, 2453635748, 2870763221, 3624381080, 310598401, 607225278, 1426881987, 1925078388, 2162078206, 2614888103, 3248222580, 3835390401, 4022224774, 264347078, 604807628, 770255983, 1249150122, 1555081692, 1996064986, 2554220882, 2821834349, 2952996808, 3210313671, 3336571891, 3584528711, 113926993, 338241895, 666307205, 773529912, 1294757372, 1396182291, 1695183700, 1986661051, 2177026350, 2456956037, 2730485921, 2820302411, 3259730800, 3345764771, 3516065817, 3600352804, 4094571909, 275423344, 430227734, 506948616, 659060556, 883997877, 958139571, 1322822218, 1537002063, 1747873779, 1955562222, 2024104815, 2227730452, 2361852424, 2428436474, 2756734187, 3204031479, 3329325298]

structure St where
  a : Wd
  b : Wd
  c : Wd
  d : Wd
  e : Wd
  f : Wd
  g : Wd
  h : Wd
  deriving DecidableEq

def xs (s : St) (k w : Wd) : Wd := s.h + b1 s.e + ch s.e s.f s.g + k + w
def ys (s : St) : Wd := b0 s.a + maj s.a s.b s.c
def rnd (s : St) (k w : Wd) : St := ⟨xs s k w + ys s, s.a, s.b, s.c, s.d + xs s k w, s.e, s.f, s.g⟩
def rounds (b : List UInt8) (s : St) : Nat → St
  | 0 => s
  | t + 1 => rnd (rounds b s t) (K.getD t 0) ((wd b 64).getD t 0)
def plus (s r : St) : St := ⟨s.a + r.a, s.b + r.b, s.c + r.c, s.d + r.d, s.e + r.e, s.f + r.f, s.g + r.g, s.h + r.h⟩
def mix (s : St) (b : List UInt8) : St := plus s (rounds b s 64)
def start : St := ⟨0x6a09e667, 0xbb67ae85, 0x3c6ef372, 0xa54ff53a, 0x510e527f, 0x9b05688c, 0x1f83d9ab, 0x5be0cd19⟩
/-- The state behind n whole blocks. -/
def proc : Nat → St → List UInt8 → St
  | 0, s, _ => s
  | n + 1, s, l => proc n (mix s (l.take 64)) (l.drop 64)
theorem proc_append : ∀ (m n : Nat) (s : St) (l r : List UInt8), l.length = 64 * m → proc (m + n) s (l ++ r) = proc n (proc m s l) r
  | 0, n, s, l, r, h => by
    have : l = [] := List.eq_nil_of_length_eq_zero (by omega)
    subst this
    simp [proc]
  | m + 1, n, s, l, r, h => by
    rw [Nat.add_right_comm, proc, proc, List.take_append_of_le_length (by omega), List.drop_append_of_le_length (by omega)]
    exact proc_append m n _ _ _ (by rw [List.length_drop]; omega)
theorem proc_succ : ∀ (n : Nat) (s : St) (l : List UInt8), proc (n + 1) s l = mix (proc n s l) ((l.drop (64 * n)).take 64)
  | 0, s, l => by simp [proc]
  | n + 1, s, l => by
    rw [proc, proc_succ n, List.drop_drop, proc, show 64 + 64 * n = 64 * (n + 1) by omega]

def St.list (s : St) : List Wd := [s.a, s.b, s.c, s.d, s.e, s.f, s.g, s.h]
/-- A byte of a state. -/
def byteOf (s : St) (i : Nat) : UInt8 := UInt8.ofNat ((s.list.getD (i / 4) 0).toNat / 2 ^ (24 - 8 * (i % 4)))
def idOf (s : St) : List UInt8 := (List.range 32).map (byteOf s)
theorem idOf_length (s : St) : (idOf s).length = 32 := by simp [idOf]

/-- How many zero bytes are wanted behind n bytes. -/
def gap (n : Nat) : Nat := (120 - n % 64) % 64
def be8 (n : Nat) (k : Nat) : UInt8 := UInt8.ofNat (n / 2 ^ (56 - 8 * k))
def ending (last : List UInt8) (n : Nat) : List UInt8 := last ++ [128] ++ List.replicate (gap (last.length + 1)) 0 ++ (List.range 8).map (be8 (8 * n))
theorem ending_length (last : List UInt8) (n : Nat) : (ending last n).length = last.length + 9 + gap (last.length + 1) := by
  simp [ending]; omega
theorem gap_ok (n : Nat) : (n + gap n) % 64 = 56 := by unfold gap; omega
/-- How many blocks a message of n bytes has. -/
def blocks (n : Nat) : Nat := (n + 9 + gap (n + 1)) / 64
def sha (m : List UInt8) : St := proc (blocks m.length) start (ending m m.length)

theorem blocks_mul (n : Nat) : 64 * blocks n = n + 9 + gap (n + 1) := by
  have := gap_ok (n + 1)
  unfold blocks
  omega

/-- The whole blocks first, and then the ending. -/
theorem sha_parts (m : List UInt8) : proc (((m.length % 64) + 9 + gap (m.length % 64 + 1)) / 64) (proc (m.length / 64) start (m.take (m.length - m.length % 64))) (ending (m.drop (m.length - m.length % 64)) m.length) = sha m := by
  have hg : gap (m.length % 64 + 1) = gap (m.length + 1) := by unfold gap; omega
  have hb := blocks_mul m.length
  have hl : (m.drop (m.length - m.length % 64)).length = m.length % 64 := by rw [List.length_drop]; omega
  have he : ending m m.length = m.take (m.length - m.length % 64) ++ ending (m.drop (m.length - m.length % 64)) m.length := by
    unfold ending
    rw [hl, hg]
    simp only [← List.append_assoc, List.take_append_drop]
  rw [sha, he]
  rw [show blocks m.length = m.length / 64 + (m.length % 64 + 9 + gap (m.length % 64 + 1)) / 64 by unfold blocks; rw [hg]; omega]
  rw [proc_append _ _ _ _ _ (by rw [List.length_take]; omega)]

end Sh
end Go.Proofs.YtijlmeodfmanmaaDoor
