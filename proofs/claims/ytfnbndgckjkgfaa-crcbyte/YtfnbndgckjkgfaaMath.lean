/-
  PLAIN MATHEMATICS OF LAYER 3: CRC-32 over words of 32 bits, bytes and bits: the register that takes eight bits at a time, and the long division that the document tells. No dump is imported.
-/
namespace Go.Proofs.Ytfnbndgckjkgfaa
namespace Cr
set_option linter.unusedSimpArgs false
set_option linter.unusedVariables false

abbrev Wd := BitVec 32
def poly : Wd := 0xedb88320#32

/-- One step of the register. -/
def step (r : Wd) : Wd := if r.getLsbD 0 then (r >>> 1) ^^^ poly else r >>> 1
def steps : Nat → Wd → Wd
  | 0, r => r
  | n + 1, r => step (steps n r)
def bw (b : UInt8) : Wd := BitVec.ofNat 32 b.toNat
theorem bw_toNat (b : UInt8) : (bw b).toNat = b.toNat := by
  have := b.toNat_lt
  simp only [bw, BitVec.toNat_ofNat]
  omega
def feed (r : Wd) (b : UInt8) : Wd := steps 8 (r ^^^ bw b)
def run (r : Wd) (l : List UInt8) : Wd := l.foldl feed r
def reg (l : List UInt8) : Wd := run (BitVec.allOnes 32) l
def sum (l : List UInt8) : Wd := ~~~(reg l)

theorem reg_snoc (l : List UInt8) (b : UInt8) : reg (l ++ [b]) = feed (reg l) b := by simp [reg, run]

/-! ### One step is undone -/
theorem step_bit (r : Wd) (i : Nat) (hi : i < 32) : (step r).getLsbD i = (r.getLsbD (i + 1) ^^ (r.getLsbD 0 && poly.getLsbD i)) := by
  unfold step
  split
  · next h => simp [h, hi, Nat.add_comm]
  · next h => simp at h; simp [h, hi, Nat.add_comm]

theorem poly_top : poly.getLsbD 31 = true := by decide

theorem xor_back {a b c : Bool} (h : (a ^^ c) = (b ^^ c)) : a = b := by cases a <;> cases b <;> cases c <;> simp_all

theorem step_inj {r q : Wd} (h : step r = step q) : r = q := by
  have hb : ∀ i, i < 32 → (r.getLsbD (i + 1) ^^ (r.getLsbD 0 && poly.getLsbD i)) = (q.getLsbD (i + 1) ^^ (q.getLsbD 0 && poly.getLsbD i)) := fun i hi => by
    rw [← step_bit r i hi, ← step_bit q i hi, h]
  have h0 : r.getLsbD 0 = q.getLsbD 0 := by
    have := hb 31 (by decide)
    rw [BitVec.getLsbD_of_ge r 32 (by decide), BitVec.getLsbD_of_ge q 32 (by decide), poly_top] at this
    simpa using this
  apply BitVec.eq_of_getLsbD_eq
  intro i hi
  match i with
  | 0 => exact h0
  | i + 1 =>
    have := hb i (by omega)
    rw [h0] at this
    exact xor_back this

theorem steps_inj (n : Nat) : ∀ {r q : Wd}, steps n r = steps n q → r = q := by
  induction n with
  | zero => exact fun h => h
  | succ n ih => exact fun h => ih (step_inj h)

theorem xor_cancel {r q x : Wd} (h : r ^^^ x = q ^^^ x) : r = q := by
  have := congrArg (· ^^^ x) h
  simpa [BitVec.xor_assoc] using this

theorem feed_inj {r q : Wd} {b : UInt8} (h : feed r b = feed q b) : r = q := xor_cancel (steps_inj 8 h)

theorem bw_inj {a b : UInt8} (h : bw a = bw b) : a = b := by
  have := congrArg BitVec.toNat h
  rw [bw_toNat, bw_toNat] at this
  exact UInt8.toNat_inj.1 this

theorem feed_inj2 {r : Wd} {a b : UInt8} (h : feed r a = feed r b) : a = b := by
  have h1 := steps_inj 8 h
  rw [BitVec.xor_comm r, BitVec.xor_comm r] at h1
  exact bw_inj (xor_cancel h1)

theorem run_inj (l : List UInt8) : ∀ {r q : Wd}, run r l = run q l → r = q := by
  induction l with
  | nil => exact fun h => h
  | cons b l ih => exact fun h => feed_inj (ih h)

theorem not_inj {r q : Wd} (h : ~~~r = ~~~q) : r = q := by
  have := congrArg (~~~·) h
  simpa using this

/-- Another byte, another sum. -/
theorem sum_other (p l : List UInt8) (a b : UInt8) (h : sum (p ++ a :: l) = sum (p ++ b :: l)) : a = b := by
  have h1 := not_inj h
  simp only [reg, run, List.foldl_append, List.foldl_cons] at h1
  exact feed_inj2 (run_inj l h1)

/-! ### Bit by bit -/
def bit (b : Bool) : Wd := if b then 1#32 else 0#32
theorem bit_get (b : Bool) (i : Nat) : (bit b).getLsbD i = (decide (i = 0) && b) := by
  unfold bit
  cases b
  · simp
  · simp [BitVec.getLsbD_one]
def take (r : Wd) (b : Bool) : Wd := step (r ^^^ bit b)

theorem step_split (a y : Wd) : step (a ^^^ y) = step (a ^^^ bit (y.getLsbD 0)) ^^^ (y >>> 1) := by
  apply BitVec.eq_of_getLsbD_eq
  intro i hi
  rw [step_bit (a ^^^ y) i hi, BitVec.getLsbD_xor (x := step _), step_bit _ i hi, BitVec.getLsbD_ushiftRight]
  simp only [BitVec.getLsbD_xor, bit_get]
  rw [Nat.add_comm 1 i, show decide (i + 1 = 0) = false by simp, show decide True = true from rfl]
  generalize a.getLsbD (i + 1) = p1
  generalize y.getLsbD (i + 1) = p2
  generalize a.getLsbD 0 = p3
  generalize y.getLsbD 0 = p4
  generalize poly.getLsbD i = p5
  cases p1 <;> cases p2 <;> cases p3 <;> cases p4 <;> cases p5 <;> rfl

def bitsUp (k : Nat) (b : UInt8) : List Bool := (List.range k).map fun j => b.toNat.testBit j
def bitsOf (b : UInt8) : List Bool := bitsUp 8 b
theorem bitsUp_succ (k : Nat) (b : UInt8) : bitsUp (k + 1) b = bitsUp k b ++ [b.toNat.testBit k] := by simp [bitsUp, List.range_succ]
theorem bitsUp_length (k : Nat) (b : UInt8) : (bitsUp k b).length = k := by simp [bitsUp]

theorem steps_bits (r : Wd) (b : UInt8) : ∀ k, steps k (r ^^^ bw b) = (bitsUp k b).foldl take r ^^^ (bw b >>> k)
  | 0 => by simp [steps, bitsUp]
  | k + 1 => by
    rw [steps, steps_bits r b k, step_split, bitsUp_succ, List.foldl_append]
    have h1 : (bw b >>> k).getLsbD 0 = b.toNat.testBit k := by
      rw [BitVec.getLsbD_ushiftRight, Nat.add_zero, ← BitVec.testBit_toNat, bw_toNat]
    have h2 : (bw b >>> k) >>> 1 = bw b >>> (k + 1) := by rw [BitVec.shiftRight_add]
    rw [h1, h2]
    rfl

theorem feed_bits (r : Wd) (b : UInt8) : feed r b = (bitsOf b).foldl take r := by
  unfold feed bitsOf
  rw [steps_bits]
  have : bw b >>> 8 = 0#32 := by
    apply BitVec.eq_of_toNat_eq
    rw [BitVec.toNat_ushiftRight, bw_toNat, Nat.shiftRight_eq_div_pow]
    have := b.toNat_lt
    simp; omega
  rw [this]; simp

def msg (l : List UInt8) : List Bool := l.flatMap bitsOf
theorem msg_length (l : List UInt8) : (msg l).length = 8 * l.length := by
  induction l with
  | nil => rfl
  | cons b l ih => simp only [msg, List.flatMap_cons, List.length_append, List.length_cons] at *; rw [ih]; simp [bitsOf, bitsUp_length]; omega
theorem msg_snoc (l : List UInt8) (b : UInt8) : msg (l ++ [b]) = msg l ++ bitsOf b := by simp [msg]
theorem run_msg (l : List UInt8) : ∀ r, run r l = (msg l).foldl take r := by
  induction l with
  | nil => intro r; rfl
  | cons b l ih => intro r; simp only [msg, List.flatMap_cons, List.foldl_append]; rw [← feed_bits]; exact ih _
theorem reg_msg (l : List UInt8) : reg l = (msg l).foldl take (BitVec.allOnes 32) := run_msg l _

/-! ### The long division -/
/-- The bit at a place (none: 0). -/
def at' (B : List Bool) (j : Nat) : Bool := B.getD j false
def flip (B : List Bool) (j : Nat) : List Bool := B.set j (!at' B j)
theorem flip_length (B : List Bool) (j : Nat) : (flip B j).length = B.length := by simp [flip]
theorem flip_at (B : List Bool) (j k : Nat) (hj : j < B.length) : at' (flip B j) k = (at' B k ^^ decide (k = j)) := by
  unfold flip at'
  rw [List.getD_eq_getElem?_getD, List.getD_eq_getElem?_getD, List.getElem?_set]
  by_cases h : j = k
  · subst h; simp [hj]
  · have : ¬ k = j := fun e => h e.symm
    simp [h, this]

def powers : List Nat := [26, 23, 22, 16, 12, 11, 10, 8, 7, 5, 4, 2, 1, 0]
def flips (B : List Bool) (i : Nat) (ps : List Nat) : List Bool := ps.foldl (fun B p => flip B (i + 32 - p)) B
theorem flips_length (i : Nat) (ps : List Nat) : ∀ B, (flips B i ps).length = B.length := by
  induction ps with
  | nil => intro B; rfl
  | cons p ps ih => intro B; exact (ih _).trans (flip_length _ _)
theorem flips_snoc (B : List Bool) (i : Nat) (ps : List Nat) (p : Nat) : flips B i (ps ++ [p]) = flip (flips B i ps) (i + 32 - p) := by simp [flips]
theorem flips_at (i k : Nat) (ps : List Nat) : ∀ B : List Bool, i + 32 < B.length → ps.Nodup → (∀ p ∈ ps, p ≤ 26) → at' (flips B i ps) (i + 1 + k) = (at' B (i + 1 + k) ^^ decide (∃ p ∈ ps, 31 - p = k)) := by
  induction ps with
  | nil => intro B _ _ _; simp [flips]
  | cons p ps ih =>
    intro B hl hn hle
    have h1 : flips B i (p :: ps) = flips (flip B (i + 32 - p)) i ps := rfl
    have hp := hle p (by simp)
    rw [h1, ih _ (by rw [flip_length]; exact hl) (List.nodup_cons.1 hn).2 (fun q hq => hle q (by simp [hq])), flip_at _ _ _ (by omega)]
    have h2 : decide (i + 1 + k = i + 32 - p) = decide (31 - p = k) := by
      rw [decide_eq_decide]; omega
    rw [h2]
    by_cases h3 : 31 - p = k
    · have h4 : ¬ ∃ q ∈ ps, 31 - q = k := by
        rintro ⟨q, hq, h5⟩
        have := hle q (by simp [hq])
        have : q = p := by omega
        subst this
        exact (List.nodup_cons.1 hn).1 hq
      simp [h3, h4]
    · simp [h3]

theorem poly_powers : ∀ k : Fin 32, decide (∃ p ∈ powers, 31 - p = k.val) = poly.getLsbD k.val := by decide
theorem poly_bits (k : Nat) : decide (∃ p ∈ powers, 31 - p = k) = poly.getLsbD k := by
  by_cases h : k < 32
  · exact poly_powers ⟨k, h⟩
  · rw [BitVec.getLsbD_of_ge _ _ (by omega), decide_eq_false_iff_not]
    rintro ⟨p, _, h1⟩
    omega

def divStep (B : List Bool) (i : Nat) : List Bool := if at' B i then flips B i powers else B
def divN (B : List Bool) : Nat → List Bool
  | 0 => B
  | i + 1 => divStep (divN B i) i
theorem divN_length (B : List Bool) : ∀ i, (divN B i).length = B.length
  | 0 => rfl
  | i + 1 => by
    rw [divN, divStep]
    split
    · rw [flips_length, divN_length B i]
    · exact divN_length B i

/-- The first bits turned. -/
def inv (M : List Bool) (k : Nat) : List Bool := (M.take k).map (!·) ++ M.drop k
theorem inv_zero (M : List Bool) : inv M 0 = M := by simp [inv]
theorem inv_length (M : List Bool) (k : Nat) : (inv M k).length = M.length := by simp [inv]; omega
theorem inv_at (M : List Bool) (k j : Nat) (hj : j < M.length) : at' (inv M k) j = (at' M j ^^ decide (j < k)) := by
  unfold at' inv
  rw [List.getD_eq_getElem?_getD, List.getD_eq_getElem?_getD]
  by_cases h : j < k
  · rw [List.getElem?_append_left (by simp; omega)]
    simp [h, hj]
  · rw [List.getElem?_append_right (by simp; omega)]
    rw [List.getElem?_drop]
    have : k + (j - (List.map (fun x => !x) (List.take k M)).length) = j := by simp; omega
    rw [this]; simp [h]
theorem inv_succ (M : List Bool) (k : Nat) (hk : k < M.length) : inv M (k + 1) = flip (inv M k) k := by
  apply List.ext_getElem?
  intro j
  by_cases hj : j < M.length
  · have e : ∀ B : List Bool, B.length = M.length → B[j]? = some (at' B j) := fun B hB => by
      unfold at'; rw [List.getD_eq_getElem?_getD, List.getElem?_eq_getElem (by omega)]; rfl
    rw [e _ (inv_length _ _), e _ (by rw [flip_length, inv_length]), inv_at _ _ _ hj, flip_at _ _ _ (by rw [inv_length]; exact hk), inv_at _ _ _ hj]
    congr 1
    by_cases h1 : j = k
    · subst h1; simp
    · have : (decide (j < k + 1)) = decide (j < k) := by rw [decide_eq_decide]; omega
      simp [h1, this]
  · rw [List.getElem?_eq_none (by rw [inv_length]; omega), List.getElem?_eq_none (by rw [flip_length, inv_length]; omega)]

def rg (M : List Bool) (i : Nat) : Wd := (M.take i).foldl take (BitVec.allOnes 32)
theorem rg_succ (M : List Bool) (i : Nat) (hi : i < M.length) : rg M (i + 1) = take (rg M i) (at' M i) := by
  unfold rg at'
  rw [List.take_succ_eq_append_getElem hi, List.foldl_append, List.getD_eq_getElem?_getD, List.getElem?_eq_getElem hi]
  rfl

/-- What the division has come to, once it stands at place i. -/
theorem div_inv (M : List Bool) (h32 : 32 ≤ M.length) : ∀ i, i + 32 ≤ M.length → ∀ k, i + k < M.length → at' (divN (inv M 32) i) (i + k) = (at' M (i + k) ^^ (rg M i).getLsbD k)
  | 0, _, k, hk => by
    simp only [divN, Nat.zero_add] at *
    rw [inv_at _ _ _ hk]
    show _ = (_ ^^ (BitVec.allOnes 32).getLsbD k)
    rw [BitVec.getLsbD_allOnes]
  | i + 1, hi, k, hk => by
    have ih := div_inv M h32 i (by omega)
    rw [rg_succ M i (by omega), divN, divStep]
    have h0 := ih 0 (by omega)
    simp only [Nat.add_zero] at h0
    have hk1 := ih (k + 1) (by omega)
    rw [show i + (k + 1) = i + 1 + k by omega] at hk1
    have hb : (take (rg M i) (at' M i)).getLsbD k = ((rg M i).getLsbD (k + 1) ^^ (at' (divN (inv M 32) i) i && poly.getLsbD k)) := by
      by_cases hlt : k < 32
      · unfold take
        rw [step_bit _ _ hlt, BitVec.getLsbD_xor, BitVec.getLsbD_xor, bit_get, bit_get, h0]
        simp
        rw [Bool.xor_comm]
      · rw [BitVec.getLsbD_of_ge _ _ (by omega), BitVec.getLsbD_of_ge _ _ (by omega), BitVec.getLsbD_of_ge _ _ (by omega)]; simp
    rw [hb]
    by_cases hbit : at' (divN (inv M 32) i) i = true
    · rw [if_pos hbit, flips_at i k powers _ (by rw [divN_length, inv_length]; omega) (by decide) (by decide), hk1, poly_bits, hbit]
      simp [Bool.xor_assoc]
    · rw [if_neg hbit, hk1]
      simp at hbit
      simp [hbit]

def zeros : List Bool := List.replicate 32 false
/-- All bits, and 32 zeros. -/
def full (l : List UInt8) : List Bool := msg l ++ zeros
theorem full_length (l : List UInt8) : (full l).length = 8 * l.length + 32 := by simp [full, msg_length, zeros]
def done (l : List UInt8) : List Bool := divN (inv (full l) 32) (8 * l.length)
theorem done_length (l : List UInt8) : (done l).length = 8 * l.length + 32 := by rw [done, divN_length, inv_length, full_length]
theorem done_at (l : List UInt8) (k : Nat) (hk : k < 32) : at' (done l) (8 * l.length + k) = (reg l).getLsbD k := by
  unfold done
  rw [div_inv _ (by rw [full_length]; omega) _ (by rw [full_length]; omega) k (by rw [full_length]; omega)]
  have h1 : at' (full l) (8 * l.length + k) = false := by
    unfold at' full
    rw [List.getD_eq_getElem?_getD, List.getElem?_append_right (by rw [msg_length]; omega)]
    unfold zeros
    rw [List.getElem?_replicate]
    split <;> rfl
  have h2 : rg (full l) (8 * l.length) = reg l := by
    rw [reg_msg, rg, full, List.take_left' (msg_length l)]
  rw [h1, h2]; simp

/-- What the last loop has gathered. -/
def up (x : Nat) (i : Nat) : Nat := x / 2 ^ (32 - i)
theorem up_zero (x : Wd) : up x.toNat 0 = 0 := by have := x.isLt; unfold up; exact Nat.div_eq_of_lt this
theorem up_all (x : Nat) : up x 32 = x := by simp [up]
theorem up_succ (x : Nat) (i : Nat) (hi : i < 32) : up x (i + 1) = 2 * up x i + (x.testBit (31 - i)).toNat := by
  unfold up
  rw [show 32 - i = (31 - i) + 1 by omega, show 32 - (i + 1) = 31 - i by omega, Nat.pow_succ, ← Nat.div_div_eq_div_mul, Nat.testBit_eq_decide_div_mod_eq]
  generalize x / 2 ^ (31 - i) = y
  by_cases h : y % 2 = 1 <;> simp [h] <;> omega
theorem up_lt (x : Nat) (h : x < 4294967296) (i : Nat) (hi : i ≤ 32) : up x i < 4294967296 := by
  unfold up; exact Nat.lt_of_le_of_lt (Nat.div_le_self _ _) h
theorem done_up (l : List UInt8) (i : Nat) (hi : i < 32) : (sum l).toNat.testBit (31 - i) = !at' (done l) (8 * l.length + 32 - 1 - i) := by
  rw [show 8 * l.length + 32 - 1 - i = 8 * l.length + (31 - i) by omega, done_at _ _ (by omega), BitVec.testBit_toNat, sum, BitVec.getLsbD_not]
  simp; omega

/-! ### Sealed -/
def b4 (x : Nat) (k : Nat) : UInt8 := UInt8.ofNat (x / 2 ^ (8 * k))
def sumB (l : List UInt8) : List UInt8 := [b4 (sum l).toNat 0, b4 (sum l).toNat 1, b4 (sum l).toNat 2, b4 (sum l).toNat 3]
theorem sumB_length (l : List UInt8) : (sumB l).length = 4 := rfl
theorem b4_inj (x y : Nat) (hx : x < 4294967296) (hy : y < 4294967296) (h0 : b4 x 0 = b4 y 0) (h1 : b4 x 1 = b4 y 1) (h2 : b4 x 2 = b4 y 2) (h3 : b4 x 3 = b4 y 3) : x = y := by
  have e : ∀ k, (b4 x k = b4 y k) → x / 2 ^ (8 * k) % 256 = y / 2 ^ (8 * k) % 256 := fun k h => by
    have := congrArg UInt8.toNat h
    simpa [b4, UInt8.toNat_ofNat'] using this
  have e0 := e 0 h0
  have e1 := e 1 h1
  have e2 := e 2 h2
  have e3 := e 3 h3
  simp at e0 e1 e2 e3
  omega
theorem sumB_inj (p q : List UInt8) (h : sumB p = sumB q) : sum p = sum q := by
  simp only [sumB, List.cons.injEq, and_true] at h
  obtain ⟨h0, h1, h2, h3⟩ := h
  exact BitVec.eq_of_toNat_eq (b4_inj _ _ (sum p).isLt (sum q).isLt h0 h1 h2 h3)

end Cr
end Go.Proofs.Ytfnbndgckjkgfaa
