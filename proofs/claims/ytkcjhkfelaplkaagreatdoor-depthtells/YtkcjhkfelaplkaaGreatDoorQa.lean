/-
  WORDS THAT THE WALKS BY HAND USE AT EACH STEP.
-/
import Derived.Test.YtkcjhkfelaplkaaGreatDoorProg
import Derived.WalkKit
import Derived.OrdersHeld
import Derived.Shelf.Strings.Builder1
import Derived.Shelf.Strings.Builder2
import Derived.Shelf.Strings.OnBuilder
import Derived.Shelf.Small.Bits
import Derived.Shelf.Small.Strs
import Derived.Shelf.Strings.BuilderF
import Derived.Shelf.Strings.BuilderK
import Derived.Shelf.Strings.Builder2Cap
import Derived.Shelf.Strconv.Itoa0
import Derived.Shelf.Strings.Search1
import Derived.Lib.Varint
import Derived.Test.YtkcjhkfelaplkaaGreatDoorRows
import Derived.WalkSpells
import Derived.WalkLawsBesides
import Derived.Lib.Hide
import Derived.Lib.VarintBits
import Derived.Deep.QuietTactic
import Derived.BigQuiet
import Derived.Deep.MidRow
import Derived.Deep.WholeRow
import Derived.Deep.Cut
import Derived.StillTailTactics
import Derived.IntWalk
import Derived.Laws.StructEq
import Derived.ChangeKeysEq
set_option linter.unusedVariables false
set_option linter.unusedSimpArgs false
set_option maxHeartbeats 8000000
set_option maxRecDepth 100000
section
namespace Go.Proofs.YtkcjhkfelaplkaaGreatDoor
open Go.RowKit
theorem q0 : (∀ (a : Act) (i : Nat) (v : Value), a.put (some i) v = { a with tmps := a.tmps.setIfInBounds i v }) ∧ (∀ (a : Act) (v : Value), a.put none v = a) ∧ (∀ (l : List Value) (i : Nat) (h : i < l.toArray.size), l.toArray[i] = l[i]'(by simpa using h)) ∧ (∀ (a : Value) (l : List Value) (h : 0 < (a :: l).length), (a :: l)[0] = a) ∧ (∀ (a : Value) (l : List Value) (i : Nat) (h : i + 1 < (a :: l).length), (a :: l)[i + 1] = l[i]'(by simpa using h)) ∧ (∀ (l : List Value) (i : Nat) (v : Value), l.toArray.setIfInBounds i v = (l.set i v).toArray) ∧ (∀ (a b : Value) (l : List Value), (a :: l).set 0 b = b :: l) ∧ (∀ (a b : Value) (l : List Value) (i : Nat), (a :: l).set (i + 1) b = a :: l.set i b) ∧ (∀ (a b : Bool) (l : List Bool), (a :: l).set 0 b = b :: l) ∧ (∀ (a b : Bool) (l : List Bool) (i : Nat), (a :: l).set (i + 1) b = a :: l.set i b) ∧ (∀ (l : List Bool) (i : Nat) (v : Bool), l.toArray.setIfInBounds i v = (l.set i v).toArray) ∧ (∀ (l : List Oper) (i : Nat) (h : i < l.toArray.size), l.toArray[i] = l[i]'(by simpa using h)) ∧ (∀ (a : Oper) (l : List Oper) (h : 0 < (a :: l).length), (a :: l)[0] = a) ∧ (∀ (a : Oper) (l : List Oper) (i : Nat) (h : i + 1 < (a :: l).length), (a :: l)[i + 1] = l[i]'(by simpa using h)) :=
 ⟨fun _ _ _ => rfl, fun _ _ => rfl, fun _ _ _ => by simp, fun _ _ _ => rfl, fun _ _ _ _ => rfl, fun _ _ _ => by simp, fun _ _ _ => rfl, fun _ _ _ _ => rfl, fun _ _ _ => rfl, fun _ _ _ _ => rfl, fun _ _ _ => by simp, fun _ _ _ => by simp, fun _ _ _ => rfl, fun _ _ _ _ => rfl⟩
theorem tk {P : Program} {md : Region.Mode} {ops : Array Oper} {Q : Exit → Act → World → Prop} {S : World → Prop} {i : Nat} {oi : Oper} {v : Value} {fuel : Nat} {listed : Array Bool} {a : Act} {w : World} (hy : ∀ w, S w → (execOp a.eval oi).run P w = .ok (.value v) w) (h : wpAnyH P md ops Q S fuel (listed.setIfInBounds i true) (a.put oi.dst v) w) (hi : ops[i]? = some oi := by rfl)
  (hs : Region.noSelect ops = true := by kernel_rfl) (hf : Region.free md ops listed i = true := by kernel_rfl) (hr : (Region.ready md ops listed).contains i = true := by kernel_rfl) (hw : Region.wanted oi (yielded ops a.tmps) = true := by rfl)
  (hQ : ∀ c a w, Q (.panic c) (a.put oi.dst v) w → Q (.panic c) a w := by exact fun _ _ _ h => h) (hS : S w := by first | assumption | trivial) : wpAnyH P md ops Q S (fuel + 1) listed a w :=
 wpAnyH_take hi hs hf hr hQ (.inl ⟨hw, hy⟩) hS h
end Go.Proofs.YtkcjhkfelaplkaaGreatDoor
end
section
namespace Go.Proofs
open Go.Shelf
def Tryz.lays169_ren : Go.Shelf.Ren := ⟨fun | 169 => 186 | n => n, fun | 70 => 254 | 9 => 9 | 0 => 0 | 72 => 256 | 37 => 23 | 127 => 266 | 3 => 3 | 5 => 5 | n => n, fun | n => n⟩
theorem Tryz.lays169 : Go.Proofs.Lays.n169 Tryz.prog Tryz.lays169_ren := {
 mixed := by kernel_rfl
 f169 := Tryz.func186.trans (congrArg some (by kernel_rfl))
 t0 := Tryz.underlying0
 a0 := Tryz.isAgg0
 z0 := Tryz.sizeOf0
 v0 := Tryz.zeroValue0
 t3 := Tryz.underlying3
 a3 := Tryz.isAgg3
 z3 := Tryz.sizeOf3
 v3 := Tryz.zeroValue3
 t9 := Tryz.underlying9
 a9 := Tryz.isAgg9
 z9 := Tryz.sizeOf9
 v9 := Tryz.zeroValue9
 t37 := Tryz.underlying23
 a37 := Tryz.isAgg23
 z37 := Tryz.sizeOf23
 v37 := Tryz.zeroValue23
 t70 := Tryz.underlying254
 a70 := Tryz.isAgg254
 z70 := Tryz.sizeOf254
 v70 := Tryz.zeroValue254
 t72 := Tryz.underlying256
 a72 := Tryz.isAgg256
 z72 := Tryz.sizeOf256
 v72 := Tryz.zeroValue256
 t127 := Tryz.underlying266
 a127 := Tryz.isAgg266
 z127 := Tryz.sizeOf266
 v127 := Tryz.zeroValue266 }
theorem Tryz.Builder_Extra_169 : Builder.Extra Tryz.prog Tryz.lays169_ren := {
 sizeBuilder := by kernel_rfl
 liesBuilder := by kernel_rfl
 t5 := Tryz.underlying5
 a5 := Tryz.isAgg5
 z5 := Tryz.sizeOf5
 v5 := Tryz.zeroValue5
 infoByte := by kernel_rfl
 cellsByte := by kernel_rfl
 sizeByte := by kernel_rfl
 neB5 := by decide }
def Tryz.lays156_ren : Go.Shelf.Ren := ⟨fun | 156 => 154 | 165 => 184 | 166 => 185 | 169 => 186 | 240 => 193 | 241 => 194 | 276 => 199 | 277 => 200 | n => n, fun | 31 => 82 | 9 => 9 | 3 => 3 | 4 => 4 | 0 => 0 | 20 => 20 | 72 => 256 | 76 => 259 | 70 => 254 | 37 => 23 | 75 => 258 | 127 => 266 | 164 => 270 | 5 => 5 | 80 => 182 | n => n, fun | n => n⟩
theorem Tryz.lays156 : Go.Proofs.Lays.n156 Tryz.prog Tryz.lays156_ren := {
 mixed := by kernel_rfl
 f156 := Tryz.func154.trans (congrArg some (by kernel_rfl))
 f165 := Tryz.func184.trans (congrArg some (by kernel_rfl))
 f166 := Tryz.func185.trans (congrArg some (by kernel_rfl))
 f169 := Tryz.func186.trans (congrArg some (by kernel_rfl))
 f240 := Tryz.func193.trans (congrArg some (by kernel_rfl))
 f241 := Tryz.func194.trans (congrArg some (by kernel_rfl))
 f276 := Tryz.func199.trans (congrArg some (by kernel_rfl))
 f277 := Tryz.func200.trans (congrArg some (by kernel_rfl))
 t0 := Tryz.underlying0
 a0 := Tryz.isAgg0
 z0 := Tryz.sizeOf0
 v0 := Tryz.zeroValue0
 t3 := Tryz.underlying3
 a3 := Tryz.isAgg3
 z3 := Tryz.sizeOf3
 v3 := Tryz.zeroValue3
 t4 := Tryz.underlying4
 a4 := Tryz.isAgg4
 z4 := Tryz.sizeOf4
 v4 := Tryz.zeroValue4
 t9 := Tryz.underlying9
 a9 := Tryz.isAgg9
 z9 := Tryz.sizeOf9
 v9 := Tryz.zeroValue9
 t20 := Tryz.underlying20
 a20 := Tryz.isAgg20
 z20 := Tryz.sizeOf20
 v20 := Tryz.zeroValue20
 t31 := Tryz.underlying82
 a31 := Tryz.isAgg82
 z31 := Tryz.sizeOf82
 v31 := Tryz.zeroValue82
 t37 := Tryz.underlying23
 a37 := Tryz.isAgg23
 z37 := Tryz.sizeOf23
 v37 := Tryz.zeroValue23
 t70 := Tryz.underlying254
 a70 := Tryz.isAgg254
 z70 := Tryz.sizeOf254
 v70 := Tryz.zeroValue254
 t72 := Tryz.underlying256
 a72 := Tryz.isAgg256
 z72 := Tryz.sizeOf256
 v72 := Tryz.zeroValue256
 t75 := Tryz.underlying258
 a75 := Tryz.isAgg258
 z75 := Tryz.sizeOf258
 v75 := Tryz.zeroValue258
 t76 := Tryz.underlying259
 a76 := Tryz.isAgg259
 z76 := Tryz.sizeOf259
 v76 := Tryz.zeroValue259
 t127 := Tryz.underlying266
 a127 := Tryz.isAgg266
 z127 := Tryz.sizeOf266
 v127 := Tryz.zeroValue266
 t164 := Tryz.underlying270
 a164 := Tryz.isAgg270
 z164 := Tryz.sizeOf270
 v164 := Tryz.zeroValue270 }
theorem Tryz.Builder_Extra_156 : Builder.Extra Tryz.prog Tryz.lays156_ren := {
 sizeBuilder := by kernel_rfl
 liesBuilder := by kernel_rfl
 t5 := Tryz.underlying5
 a5 := Tryz.isAgg5
 z5 := Tryz.sizeOf5
 v5 := Tryz.zeroValue5
 infoByte := by kernel_rfl
 cellsByte := by kernel_rfl
 sizeByte := by kernel_rfl
 neB5 := by decide }
open Go.RowKit in
theorem Tryz.strings_Join_none (a : Option Addr) (c : Nat) (sep : ByteArray) (w : World) :
  Calls Tryz.prog 154 #[.slice a 0 c, .string sep] w fun e w' => e = .returned (.string ⟨#[]⟩) ∧ w' = w := Any.strings_Join_none Tryz.lays156 Tryz.Builder_Extra_156 a c sep w
open Go.RowKit in
theorem Tryz.strings_Join (bk o c : Nat) (xs : List ByteArray) (sep : ByteArray) (w : World) (hcells : ∀ (j : Nat) x, xs[j]? = some x → w.cell? ⟨bk, o + j, none⟩ = some (.string x)) (hbk : bk < w.heap.size) (hN : xs.length ≤ 140737488355328) (hcap : xs.length ≤ c) (hlen : (Lib.join (xs.map (·.data.toList)) sep.data.toList).length ≤ 140737488355328) :
  Calls Tryz.prog 154 #[.slice (some ⟨bk, o, none⟩) xs.length c, .string sep] w fun e w' => e = .returned (.string ⟨(Lib.join (xs.map (·.data.toList)) sep.data.toList).toArray⟩) ∧ Below w.heap.size w w' := Any.strings_Join Tryz.lays156 Tryz.Builder_Extra_156 bk o c xs sep w hcells hbk hN hcap hlen
def Tryz.lays137_ren : Go.Shelf.Ren := ⟨fun | 137 => 183 | 217 => 192 | 266 => 198 | n => n, fun | 9 => 9 | 5 => 5 | 3 => 3 | n => n, fun | n => n⟩
theorem Tryz.lays137 : Go.Proofs.Lays.n137 Tryz.prog Tryz.lays137_ren := {
 mixed := by kernel_rfl
 f137 := Tryz.func183.trans (congrArg some (by kernel_rfl))
 f217 := Tryz.func192.trans (congrArg some (by kernel_rfl))
 f266 := Tryz.func198.trans (congrArg some (by kernel_rfl))
 t3 := Tryz.underlying3
 a3 := Tryz.isAgg3
 z3 := Tryz.sizeOf3
 v3 := Tryz.zeroValue3
 t5 := Tryz.underlying5
 a5 := Tryz.isAgg5
 z5 := Tryz.sizeOf5
 v5 := Tryz.zeroValue5
 t9 := Tryz.underlying9
 a9 := Tryz.isAgg9
 z9 := Tryz.sizeOf9
 v9 := Tryz.zeroValue9 }
open Go.RowKit in
theorem Tryz.strings_IndexByte (s : ByteArray) (c : Int) (w : World) :
  Calls Tryz.prog 183 #[.string s, .int .u8 c] w fun e w' => e = .returned (.int .i64 (Lib.indexByte s.data.toList c.toNat.toUInt8)) ∧ w' = w := Any.strings_IndexByte Tryz.lays137 s c w
open Go.RowKit in
theorem Tryz.Builder_String_any_k (B b : Nat) (l : List UInt8) (w : World) (h : Lib.IsBuilderF 256 5 B b (Lib.byteCells l) w) (hBw : B ≤ w.heap.size) :
  Calls Tryz.prog 186 #[.pointer (some ⟨b, 0, none⟩)] w fun e w' => e = .returned (.string ⟨l.toArray⟩) ∧ (Lib.IsBuilderF 256 5 B b (Lib.byteCells l) w' ∧ Below B w w' ∧ Lib.OthersKept 5 (some b) w w') := Any.Builder_String_any_k Tryz.lays169 Tryz.Builder_Extra_169 B b l w h hBw
end Go.Proofs
end
section
section
namespace Go.Proofs.YtkcjhkfelaplkaaGreatDoor
namespace Vi
open Go.Lib (uvarint uvarint_small uvarint_big uvarint_length64 uvarint_pos)
def val : List UInt8 → Nat
 | [] => 0
 | b :: r => b.toNat % 128 + 128 * val r
theorem val_append : ∀ c d : List UInt8, val (c ++ d) = val c + 128 ^ c.length * val d
 | [], d => by simp [val]
 | b :: r, d => by
   simp only [List.cons_append, val, List.length_cons, val_append r d, Nat.pow_succ]
   rw [Nat.mul_add, Nat.mul_comm (128 ^ r.length) 128, Nat.mul_assoc]
   omega
theorem val_one (b : UInt8) : val [b] = b.toNat % 128 := by simp [val]
theorem val_lt : ∀ c : List UInt8, val c < 128 ^ c.length
 | [] => by simp [val]
 | b :: r => by
   have := val_lt r
   simp only [val, List.length_cons, Nat.pow_succ]
   omega
theorem val_drop_le (c : List UInt8) (k : Nat) : val (c.drop k) ≤ val c := by
 have h := val_append (c.take k) (c.drop k)
 rw [List.take_append_drop] at h
 have hp : 0 < 128 ^ (c.take k).length := Nat.pow_pos (by decide)
 have : val (c.drop k) ≤ 128 ^ (c.take k).length * val (c.drop k) := Nat.le_mul_of_pos_left _ hp
 omega
theorem val_take_succ (l : List UInt8) (k : Nat) (h : k < l.length) : val (l.take (k + 1)) = val (l.take k) + 128 ^ k * (l[k].toNat % 128) := by
 rw [List.take_succ_eq_append_getElem h, val_append, val_one, List.length_take, Nat.min_eq_left (by omega)]
theorem val_drop_succ (c : List UInt8) (k : Nat) (h : k < c.length) : val (c.drop k) = c[k].toNat % 128 + 128 * val (c.drop (k + 1)) := by
 rw [List.drop_eq_getElem_cons h]; rfl
structure Ok (l : List UInt8) (e : Nat) : Prop where
 lt10 : e < 10
 lt : e < l.length
 more : ∀ (j : Nat) (h : j < l.length), j < e → 128 ≤ l[j].toNat
 last : l[e].toNat < 128
 least : 0 < e → l[e].toNat ≠ 0
 fits : e = 9 → l[e].toNat ≤ 1
theorem Ok.val_lt {l : List UInt8} {e : Nat} (h : Ok l e) : val (l.take (e + 1)) < 18446744073709551616 := by
 have hlt := h.lt
 rw [val_take_succ l e hlt]
 have h1 := Vi.val_lt (l.take e)
 rw [List.length_take, Nat.min_eq_left (by have := h.lt; omega)] at h1
 by_cases h9 : e = 9
 ·
  have h2 := h.fits h9
  have h3 : l[e].toNat % 128 ≤ 1 := by omega
  have e9 : (128 : Nat) ^ e = 9223372036854775808 := by rw [h9]
  rw [e9] at h1 ⊢
  omega
 ·
  have hle : e + 1 ≤ 9 := by have := h.lt10; omega
  have h4 : (128 : Nat) ^ (e + 1) ≤ 128 ^ 9 := Nat.pow_le_pow_right (by decide) hle
  have e9 : (128 : Nat) ^ 9 = 9223372036854775808 := by decide
  rw [Nat.pow_succ, e9] at h4
  have h5 : 128 ^ e * (l[e].toNat % 128) ≤ 128 ^ e * 127 := Nat.mul_le_mul_left _ (by omega)
  omega
def Can : List UInt8 → Prop
 | [] => False
 | [b] => b.toNat < 128
 | b :: c :: r => 128 ≤ b.toNat ∧ Can (c :: r) ∧ 0 < val (c :: r)
theorem byte_back (b : UInt8) (n : Nat) (h : n = b.toNat) : n.toUInt8 = b := by
 subst h; simp [Nat.toUInt8]
theorem Can.enc : ∀ c : List UInt8, Can c → uvarint (val c) = c
 | [], h => h.elim
 | [b], h => by
   have h' : b.toNat < 128 := h
   rw [val_one, Nat.mod_eq_of_lt h', uvarint_small h', byte_back b _ rfl]
 | b :: c :: r, h => by
   obtain ⟨h1, h2, h3⟩ := h
   have ih := Can.enc (c :: r) h2
   have hb := b.toNat_lt
   have hv : val (b :: c :: r) = b.toNat % 128 + 128 * val (c :: r) := rfl
   generalize val (c :: r) = v at *
   rw [hv, uvarint_big (by omega), byte_back b _ (by omega), show (b.toNat % 128 + 128 * v) / 128 = v by omega, ih]
theorem can_of : ∀ (c : List UInt8) (h0 : 0 < c.length), (∀ (j : Nat) (h : j < c.length), j < c.length - 1 → 128 ≤ c[j].toNat) →
  c[c.length - 1].toNat < 128 → (1 < c.length → c[c.length - 1].toNat ≠ 0) → Can c ∧ (c[c.length - 1].toNat ≠ 0 → 0 < val c)
 | [], h0, _, _, _ => absurd h0 (by simp)
 | [b], _, _, hl, _ => by
   have hl' : b.toNat < 128 := hl
   refine ⟨hl', fun h => ?_⟩
   have h' : b.toNat ≠ 0 := h
   rw [val_one]; omega
 | b :: c :: r, _, hm, hl, hz => by
   have hlen : (b :: c :: r).length = (c :: r).length + 1 := rfl
   have e1 : (b :: c :: r)[(b :: c :: r).length - 1]'(by simp) = (c :: r)[(c :: r).length - 1]'(by simp) := by simp [List.getElem_cons_succ]
   rw [e1] at hl hz
   have hz' := hz (by simp)
   have ih := can_of (c :: r) (by simp) (fun j h hj => by
     have := hm (j + 1) (by simp at h ⊢; omega) (by simp at hj ⊢; omega)
     simpa using this) hl (fun _ => hz')
   have hb := hm 0 (by simp) (by simp)
   have hp := ih.2 hz'
   refine ⟨⟨by simpa using hb, ih.1, hp⟩, fun _ => ?_⟩
   show 0 < b.toNat % 128 + 128 * val (c :: r)
   omega
theorem Ok.back {l : List UInt8} {e : Nat} (h : Ok l e) : uvarint (val (l.take (e + 1))) = l.take (e + 1) := by
 have hlt := h.lt
 have hlen : (l.take (e + 1)).length = e + 1 := by rw [List.length_take]; omega
 apply Can.enc
 refine (can_of _ (by omega) (fun j hj hj' => ?_) ?_ ?_).1
 · rw [List.getElem_take]; exact h.more j (by omega) (by omega)
 · rw [List.getElem_take]; simp only [hlen, Nat.add_sub_cancel]; exact h.last
 ·
  intro h1
  rw [List.getElem_take]; simp only [hlen, Nat.add_sub_cancel]; exact h.least (by omega)
theorem val_uvarint : ∀ n : Nat, val (uvarint n) = n := by
 intro n
 induction n using Nat.strongRecOn with
 | _ n ih =>
   by_cases h : n < 128
   ·
    rw [uvarint_small h, val_one]
    have : n.toUInt8.toNat = n := by simp [Nat.toUInt8]; omega
    omega
   ·
    rw [uvarint_big (by omega)]
    have e : (n % 128 + 128).toUInt8.toNat = n % 128 + 128 := by simp [Nat.toUInt8]; omega
    simp only [val, e, ih (n / 128) (by omega)]
    omega
theorem uvarint_more : ∀ (n j : Nat) (h : j < (uvarint n).length), j + 1 < (uvarint n).length → 128 ≤ ((uvarint n)[j]).toNat := by
 intro n
 induction n using Nat.strongRecOn with
 | _ n ih =>
   intro j h h1
   by_cases hn : n < 128
   · rw [uvarint_small hn] at h1; simp at h1
   ·
    have e := uvarint_big (x := n) (by omega)
    have eb : (n % 128 + 128).toUInt8.toNat = n % 128 + 128 := by simp [Nat.toUInt8]; omega
    have key : ∀ (c : List UInt8) (hc : c = (n % 128 + 128).toUInt8 :: uvarint (n / 128)) (h : j < c.length), j + 1 < c.length → 128 ≤ (c[j]).toNat := by
     intro c hc h h1
     subst hc
     cases j with
     | zero => rw [List.getElem_cons_zero, eb]; omega
     | succ j =>
       rw [List.getElem_cons_succ]
       exact ih (n / 128) (by omega) j (by simpa using h) (by simpa using h1)
    exact key _ e h h1
theorem uvarint_last : ∀ (n : Nat) (h : (uvarint n).length - 1 < (uvarint n).length), ((uvarint n)[(uvarint n).length - 1]).toNat < 128 ∧ (128 ≤ n → ((uvarint n)[(uvarint n).length - 1]).toNat ≠ 0) ∧ (0 < n → ((uvarint n)[(uvarint n).length - 1]).toNat ≠ 0) := by
 intro n
 induction n using Nat.strongRecOn with
 | _ n ih =>
   intro h
   by_cases hn : n < 128
   ·
    have e := uvarint_small hn
    have key : ∀ (c : List UInt8) (hc : c = [n.toUInt8]) (h : c.length - 1 < c.length), (c[c.length - 1]).toNat = n := by
     intro c hc h; subst hc; simp [Nat.toUInt8]; omega
    rw [key _ e h]; omega
   ·
    have e := uvarint_big (x := n) (by omega)
    have hp := uvarint_pos (n / 128)
    have key : ∀ (c : List UInt8) (hc : c = (n % 128 + 128).toUInt8 :: uvarint (n / 128)) (h : c.length - 1 < c.length), c[c.length - 1] = (uvarint (n / 128))[(uvarint (n / 128)).length - 1]'(by omega) := by
     intro c hc h; subst hc
     simp only [List.length_cons, Nat.add_sub_cancel]
     rw [List.getElem_cons]
     rw [dif_neg (by omega)]
    rw [key _ e h]
    have := ih (n / 128) (by omega) (by omega)
    exact ⟨this.1, fun _ => this.2.2 (by omega), fun _ => this.2.2 (by omega)⟩
theorem len_one (n : Nat) (h : 1 < (uvarint n).length) : 128 ≤ n := by
 by_cases hn : n < 128
 · rw [uvarint_small hn] at h; simp at h
 · omega
theorem ok_put (n : Nat) (hn : n < 18446744073709551616) (s : List UInt8) : Ok (uvarint n ++ s) ((uvarint n).length - 1) := by
 have hp := uvarint_pos n
 have h10 := uvarint_length64 hn
 have hlast := uvarint_last n (by omega)
 have eg : (uvarint n ++ s)[(uvarint n).length - 1]'(by simp; omega) = (uvarint n)[(uvarint n).length - 1]'(by omega) := List.getElem_append_left (by omega)
 refine ⟨by omega, by simp; omega, fun j h hj => ?_, ?_, fun h => ?_, fun h9 => ?_⟩
 · rw [List.getElem_append_left (by omega)]; exact uvarint_more n j (by omega) (by omega)
 · rw [eg]; exact hlast.1
 · rw [eg]; exact hlast.2.1 (len_one n (by omega))
 ·
  rw [eg]
  have hl : (uvarint n).length = 9 + 1 := by omega
  have hv := val_take_succ (uvarint n) 9 (by omega)
  rw [List.take_of_length_le (by omega), val_uvarint] at hv
  have e9 : (128 : Nat) ^ 9 = 9223372036854775808 := by decide
  rw [e9] at hv
  have h1 := hlast.1
  have key : ∀ (k : Nat) (hk : k = 9) (h : k < (uvarint n).length), ((uvarint n)[k]).toNat < 128 → ((uvarint n)[k]).toNat ≤ 1 := by
   intro k hk h hlt; subst hk; omega
  exact key _ h9 _ h1
theorem take_put (n : Nat) (s : List UInt8) : (uvarint n ++ s).take ((uvarint n).length - 1 + 1) = uvarint n := by
 have hp := uvarint_pos n
 rw [show (uvarint n).length - 1 + 1 = (uvarint n).length by omega, List.take_left']
 rfl
theorem val_put (n : Nat) (s : List UInt8) : val ((uvarint n ++ s).take ((uvarint n).length - 1 + 1)) = n := by rw [take_put, val_uvarint]
end Vi
end Go.Proofs.YtkcjhkfelaplkaaGreatDoor
end
section
namespace Go.Proofs.YtkcjhkfelaplkaaGreatDoor
open Go.RowKit
theorem ret_tuple2 {a a' b b' : Value} (h1 : a = a') (h2 : b = b') : Ending.returned (.tuple #[a, b]) = .returned (.tuple #[a', b']) := by rw [h1, h2]
theorem mayEnd_yes (b i : Int) (w : World) (hi : 0 ≤ i) (hi9 : i ≤ 9) (hb : 0 ≤ b) (hz : i = 0 ∨ 1 ≤ b) (h9 : i ≤ 8 ∨ b ≤ 1) :
  Calls Tryz.prog 191 #[.int .u8 b, .int .i64 i] w fun e w' => e = .returned (.bool true) ∧ w = w' := by
 go_enter Tryz.func191, Tryz.ntmps191
 go_wp2
 all_goals go_ret
 all_goals refine ⟨?_, rfl⟩
 all_goals first | rfl | (simp; omega)
theorem mayEnd_no (b i : Int) (w : World) (hi : 0 ≤ i) (hi9 : i ≤ 9) (hb : 0 ≤ b) (h : (0 < i ∧ b = 0) ∨ (i = 9 ∧ 1 < b)) :
  Calls Tryz.prog 191 #[.int .u8 b, .int .i64 i] w fun e w' => e = .returned (.bool false) ∧ w = w' := by
 rcases h with ⟨h1, rfl⟩ | ⟨rfl, h1⟩
 all_goals
  go_enter Tryz.func191, Tryz.ntmps191
  go_wp2
  all_goals go_ret
  all_goals refine ⟨?_, rfl⟩
  all_goals first | rfl | (simp; omega)
theorem ret_tuple3 {a a' b b' c c' : Value} (h1 : a = a') (h2 : b = b') (h3 : c = c') : Ending.returned (.tuple #[a, b, c]) = .returned (.tuple #[a', b', c']) := by rw [h1, h2, h3]
theorem val_int {k : IntKind} {a b : Int} (h : a = b) : Value.int k a = .int k b := by rw [h]
theorem pow7 (k : Nat) : (2 : Int) ^ (7 * k) = 128 ^ k := by rw [Int.pow_mul]; rfl
theorem or_step (l : List UInt8) (k : Nat) (h : k < l.length) (h9 : k ≤ 9) (hf : k = 9 → l[k].toNat % 128 ≤ 1) :
  bits .or .u64 (Vi.val (l.take k) : Int) (IntKind.u64.wrap ((l[k].toNat : Int) % 128 * 2 ^ (7 * k))) = (Vi.val (l.take (k + 1)) : Int) := by
 have h1 := Vi.val_lt (l.take k)
 rw [List.length_take, Nat.min_eq_left (by omega)] at h1
 have hb : 128 ^ k * (l[k].toNat % 128) < 18446744073709551616 := by
  by_cases e9 : k = 9
  ·
   have h3 := hf e9
   have p9 : (128 : Nat) ^ k = 9223372036854775808 := by rw [e9]
   rw [p9]; omega
  ·
   have h4 : (128 : Nat) ^ (k + 1) ≤ 128 ^ 9 := Nat.pow_le_pow_right (by decide) (by omega)
   have p9 : (128 : Nat) ^ 9 = 9223372036854775808 := by decide
   rw [Nat.pow_succ, p9] at h4
   have h5 : 128 ^ k * (l[k].toNat % 128) ≤ 128 ^ k * 127 := Nat.mul_le_mul_left _ (by omega)
   omega
 have hlow : (128 : Nat) ^ k ≤ 9223372036854775808 := by
  have h4 : (128 : Nat) ^ k ≤ 128 ^ 9 := Nat.pow_le_pow_right (by decide) h9
  have p9 : (128 : Nat) ^ 9 = 9223372036854775808 := by decide
  omega
 have ex : (l[k].toNat : Int) % 128 * 2 ^ (7 * k) = ((128 ^ k * (l[k].toNat % 128) : Nat) : Int) := by
  rw [pow7, Int.mul_comm]
  simp
 rw [ex, u64_wrap_id _ (by omega) (by omega), Vi.val_take_succ l k h]
 rw [bits_join_low .u64 64 (by decide) wraps_u64 (7 * k) _ _ (by omega) (by rw [pow7]; exact_mod_cast h1) (by omega) (by omega) (by rw [pow7]; simp) (by omega)]
 simp
theorem at_list (s : ByteArray) (k : Nat) (h : k < s.size) : s[k] = s.data.toList[k]'(by simpa using h) := rfl
theorem size_list (s : ByteArray) : s.data.toList.length = s.size := by simp
theorem get_ok (s : ByteArray) (w : World) (hs : s.size ≤ maxLen) (e : Nat) (h : Vi.Ok s.data.toList e) :
  Calls Tryz.prog 176 #[.string s] w fun r w' => r = .returned (.tuple #[.int .u64 (Vi.val (s.data.toList.take (e + 1))), .string (s.extract (e + 1) s.size), .int .i64 0]) ∧ ∃ n, w' = w.drewN n := by
 unfold maxLen at hs
 have hle := size_list s
 have hes : e < s.size := by have := h.lt; omega
 have h10 := h.lt10
 clear hle
 go_enter Tryz.func176, Tryz.ntmps176
 go_wp2
 go_loop [5, 6] (fun n i => ∃ k : Nat, k ≤ e ∧ i = .int .i64 k ∧ n = .int .u64 (Vi.val (s.data.toList.take k))) (fun _ i => e - (intOf i).toNat)
 case atStart => exact ⟨0, Nat.zero_le _, rfl, rfl⟩
 case round =>
  obtain ⟨k, hk, rfl, rfl⟩ := hrel
  by_cases hlt : k < e
  ·
   have hks : k < s.size := by omega
   have h128 : (128 : Int) ≤ (s[k].toNat : Int) := by rw [at_list s k hks]; have := h.more k (by rw [size_list]; omega) hlt; omega
   go_wp2_with fail
   go_round
   case rel => exact ⟨k + 1, by omega, by go_num, val_int (or_step s.data.toList k (by rw [size_list]; omega) (by omega) (fun h => by omega))⟩
   case measure => simp [intOf]; omega
  ·
   obtain rfl : k = e := by omega
   have hl : (s[k].toNat : Int) < 128 := by rw [at_list s k hes]; have := h.last; omega
   have hz : (k : Int) = 0 ∨ (1 : Int) ≤ (s[k].toNat : Int) := by
    rw [at_list s k hes]
    by_cases h0 : k = 0
    · left; omega
    · right; have := h.least (by omega); omega
   have h9 : (k : Int) ≤ 8 ∨ (s[k].toNat : Int) ≤ 1 := by
    rw [at_list s k hes]
    by_cases h9 : k = 9
    · right; have := h.fits h9; omega
    · left; omega
   have HO := Lib.hid (or_step s.data.toList k (by rw [size_list]; omega) (by omega) (fun hk9 => by have := h.fits hk9; omega))
   go_wp2_with (go_at_call 191; refine (mayEnd_yes _ _ _ (by omega) (by omega) (by omega) hz h9).mono ?_; rintro e w' ⟨rfl, rfl⟩)
   go_region
   go_wp2
   go_ret3
   exact ⟨ret_tuple3 (val_int HO.out) rfl rfl, _, rfl⟩
theorem get_none (s : ByteArray) (w : World) (hs : s.size ≤ maxLen) (h : ∀ e, ¬ Vi.Ok s.data.toList e) :
  Calls Tryz.prog 176 #[.string s] w fun r w' => r = .returned (.tuple #[.int .u64 0, .string ⟨#[]⟩, .int .i64 2]) ∧ w = w' := by
 unfold maxLen at hs
 have HN := Lib.hid h
 clear h
 go_enter Tryz.func176, Tryz.ntmps176
 go_wp2
 go_loop [5, 6] (fun n i => ∃ (k : Nat) (m : Int), k ≤ 10 ∧ k ≤ s.size ∧ i = .int .i64 k ∧ n = .int .u64 m ∧ Hid (∀ (j : Nat) (h : j < s.data.toList.length), j < k → 128 ≤ (s.data.toList[j]).toNat)) (fun _ i => 10 - (intOf i).toNat)
 case atStart => exact ⟨0, 0, by omega, Nat.zero_le _, rfl, rfl, fun j _ h => absurd h (by omega)⟩
 case round =>
  obtain ⟨k, m, hk, hks, rfl, rfl, HM⟩ := hrel
  by_cases hin : k < s.size ∧ k < 10
  ·
   obtain ⟨hlt, hl10⟩ := hin
   by_cases hb : (128 : Int) ≤ (s[k].toNat : Int)
   ·
    go_wp2_with fail
    go_round
    case rel =>
     refine ⟨k + 1, _, by omega, by omega, by go_num, rfl, fun j hj hjk => ?_⟩
     by_cases e : j = k
     · subst e; rw [at_list s j hlt] at hb; omega
     · exact HM.out j hj (by omega)
    case measure => simp [intOf]; omega
   ·
    have hl : (s[k].toNat : Int) < 128 := by omega
    have hno : (0 < (k : Int) ∧ (s[k].toNat : Int) = 0) ∨ ((k : Int) = 9 ∧ 1 < (s[k].toNat : Int)) := by
     by_cases c1 : 0 < k ∧ s[k].toNat = 0
     · left; omega
     ·
      by_cases c2 : k = 9 ∧ 1 < s[k].toNat
      · right; omega
      ·
       exfalso
       have hkl : k < s.data.toList.length := by rw [size_list]; exact hlt
       have e : s[k].toNat = (s.data.toList[k]).toNat := by rw [at_list s k hlt]
       refine HN.out k ⟨hl10, hkl, HM.out, by omega, fun h0 hz => c1 ⟨h0, by omega⟩, fun h9 => ?_⟩
       rcases Nat.lt_or_ge 1 s[k].toNat with g | g
       · exact absurd ⟨h9, g⟩ c2
       · omega
    have HO := Lib.hid hno
    clear hno hb
    go_wp2_with (go_at_call 191; refine (mayEnd_no _ _ _ (by omega) (by omega) (by omega) HO.out).mono ?_; rintro e w' ⟨rfl, rfl⟩)
    go_ret3
    exact ⟨rfl, rfl⟩
  ·
   by_cases hlt : k < s.size
   ·
    have hge : (10 : Int) ≤ (k : Int) := by omega
    go_wp2_with fail
    go_ret3
    exact ⟨rfl, rfl⟩
   ·
    go_wp2_with fail
    go_ret3
    exact ⟨rfl, rfl⟩
end Go.Proofs.YtkcjhkfelaplkaaGreatDoor
end
section
namespace Go.Proofs.YtkcjhkfelaplkaaGreatDoor
open Go.RowKit
theorem Tryz.infoByte : (Tryz.prog.info? 5).map (fun i => (i.zero, i.size, i.bytes)) = some (some (.int .u8 0), 1, 1) := by kernel_rfl
theorem ret_str {a b : ByteArray} (h : a = b) : Ending.returned (.string a) = .returned (.string b) := by rw [h]
theorem conv_one (w : World) (b : UInt8) (x : Int) (h : x = (b.toNat : Int)) : (convert 23 9 (.slice (some ⟨w.heap.size, 0, none⟩) 1 1)).run Tryz.prog (w.alloc (.cells #[.int .u8 x] 5)) = .ok (.string ⟨#[b]⟩) (w.alloc (.cells #[.int .u8 x] 5)) := by
 subst h
 exact run_convert_bytes_back (P := Tryz.prog) (w.alloc (.cells #[.int .u8 (b.toNat : Int)] 5)) 23 9 5 ⟨w.heap.size, 0, none⟩ 1 [b] Tryz.underlying23 Tryz.underlying5 Tryz.underlying9 (fun j hj => by
  have hj0 : j = 0 := by simpa using hj
  subst hj0
  exact cell_one_new w _ 5 0 _ rfl)
theorem bytes_snoc (acc : List UInt8) (x y : UInt8) (h : x = y) : (ByteArray.mk acc.toArray ++ ByteArray.mk #[x]) = ByteArray.mk (acc ++ [y]).toArray := by
 subst h; exact ByteArray.mk_append_mk acc [x]
theorem val_str {a b : ByteArray} (h : a = b) : Value.string a = .string b := by rw [h]
theorem refput_any (n : Nat) (w : World) (hn : n < 18446744073709551616) :
  Calls Tryz.prog 134 #[.int .u64 n] w fun r w' => r = .returned (.string ⟨(Lib.uvarint n).toArray⟩) ∧ Below w.heap.size w w' := by
 have h10 := Lib.uvarint_length64 hn
 go_enter Tryz.func134, Tryz.ntmps134
 go_wp2
 go_loopw [0, 3] (fun x b wr => ∃ (m : Nat) (acc : List UInt8), x = .int .u64 m ∧ m ≤ n ∧ Hid (Lib.uvarint n = acc ++ Lib.uvarint m) ∧ b = .string ⟨acc.toArray⟩ ∧ Below w.heap.size w wr) (fun x _ _ => (intOf x).toNat)
 case atStart => exact ⟨n, [], rfl, Nat.le_refl _, rfl, rfl, Below.refl _ _⟩
 case round =>
  obtain ⟨m, acc, rfl, hm, HU, rfl, hb⟩ := hrel
  have hacc : acc.length + (Lib.uvarint m).length ≤ 10 := by have := HU.out; rw [this] at h10; simpa using h10
  have hbs := hb.size
  by_cases hlt : (128 : Int) ≤ (m : Int)
  ·
   have hcv := conv_one wr (m % 128 + 128).toUInt8 (128 + (m : Int) % 128) (by have : (m % 128 + 128).toUInt8.toNat = m % 128 + 128 := by { simp [Nat.toUInt8]; omega }; omega)
   have hmid : Lib.uvarint n = (acc ++ [(m % 128 + 128).toUInt8]) ++ Lib.uvarint (m / 128) := by
    rw [HU.out, Lib.uvarint_big (by omega)]; simp
   have HU' := Lib.hid hmid
   clear hmid HU
   go_wp2_with fail
   exact ⟨⟨m / 128, acc ++ [(m % 128 + 128).toUInt8], by go_num, by omega, HU'.out, val_str (bytes_snoc _ _ _ (by simp)), hb.alloc hbs _⟩, by simp [intOf]; omega⟩
  ·
   have hcv := conv_one wr m.toUInt8 (m : Int) (by have : m.toUInt8.toNat = m := by { simp [Nat.toUInt8]; omega }; omega)
   have hmid : Lib.uvarint n = acc ++ [m.toUInt8] := by rw [HU.out, Lib.uvarint_small (by omega)]
   have HU' := Lib.hid hmid
   clear hmid HU
   go_wp2_with fail
   go_ret
   exact ⟨ret_str (by rw [HU'.out]; exact bytes_snoc _ _ _ (by simp)), hb.alloc hbs _⟩
end Go.Proofs.YtkcjhkfelaplkaaGreatDoor
end
section
namespace Go.Proofs.YtkcjhkfelaplkaaGreatDoor
open Go.RowKit
def textOf (t : ByteArray) : ByteArray := ⟨(Lib.uvarint t.size).toArray⟩ ++ t
theorem reftext_any (t : ByteArray) (w : World) (ht : t.size ≤ 281474976710656) :
  Calls Tryz.prog 101 #[.string t] w fun r w' => r = .returned (.string (textOf t)) ∧ Below w.heap.size w w' := by
 have hl := Lib.uvarint_length64 (x := t.size) (by omega)
 go_enter Tryz.func101, Tryz.ntmps101
 go_wp2_with fail
 refine (refput_any t.size _ (by omega)).mono ?_
 rintro e w1 ⟨rfl, hb⟩
 go_wp2_with fail
 go_ret
 exact ⟨rfl, hb⟩
theorem take_none (s : ByteArray) (w : World) (hs : s.size ≤ maxLen) (h : ∀ e, ¬ Vi.Ok s.data.toList e) :
  Calls Tryz.prog 145 #[.string s] w fun r w' => r = .returned (.tuple #[.string ⟨#[]⟩, .string ⟨#[]⟩, .int .i64 2]) ∧ w = w' := by
 have H := Lib.hid h
 clear h
 go_enter Tryz.func145, Tryz.ntmps145
 go_wp2_with fail
 refine (get_none s _ hs H.out).mono ?_
 rintro e w1 ⟨rfl, rfl⟩
 go_wp2_with fail
 go_ret3
 exact ⟨rfl, rfl⟩
theorem take_short (s : ByteArray) (w : World) (hs : s.size ≤ maxLen) (e : Nat) (h : Vi.Ok s.data.toList e) (hv : s.size - (e + 1) < Vi.val (s.data.toList.take (e + 1))) :
  Calls Tryz.prog 145 #[.string s] w fun r w' => r = .returned (.tuple #[.string ⟨#[]⟩, .string ⟨#[]⟩, .int .i64 2]) ∧ ∃ n, w' = w.drewN n := by
 have hlt := h.lt
 rw [size_list] at hlt
 have H := Lib.hid h
 have hsz := hs
 unfold maxLen at hsz
 have hvl := h.val_lt
 clear h
 generalize hx : Vi.val (s.data.toList.take (e + 1)) = x at *
 have HX := Lib.hid hx
 clear hx
 go_enter Tryz.func145, Tryz.ntmps145
 go_wp2_with fail
 refine (get_ok s _ hs e H.out).mono ?_
 rintro r w1 ⟨rfl, n1, rfl⟩
 rw [HX.out]
 go_wp2_with fail
 go_ret3
 exact ⟨rfl, _, rfl⟩
theorem take_ok (s : ByteArray) (w : World) (hs : s.size ≤ maxLen) (e : Nat) (h : Vi.Ok s.data.toList e) (hv : Vi.val (s.data.toList.take (e + 1)) ≤ s.size - (e + 1)) :
  Calls Tryz.prog 145 #[.string s] w fun r w' => r = .returned (.tuple #[.string ((s.extract (e + 1) s.size).extract 0 (Vi.val (s.data.toList.take (e + 1)))), .string ((s.extract (e + 1) s.size).extract (Vi.val (s.data.toList.take (e + 1))) (s.size - (e + 1))), .int .i64 0]) ∧ ∃ n, w' = w.drewN n := by
 have hlt := h.lt
 rw [size_list] at hlt
 have H := Lib.hid h
 have hsz := hs
 unfold maxLen at hsz
 have hvl := h.val_lt
 clear h
 generalize hx : Vi.val (s.data.toList.take (e + 1)) = x at *
 have HX := Lib.hid hx
 clear hx
 have hrs : (s.extract (e + 1) s.size).size = s.size - (e + 1) := by simp
 rw [← hrs]
 generalize hre : s.extract (e + 1) s.size = rest at *
 have HR := Lib.hid hre
 clear hre
 have hr1 : x ≤ rest.size := by omega
 have hr2 : rest.size ≤ 9223372036854775807 := by omega
 have hw3 : IntKind.u64.wrap (rest.size : Int) = (rest.size : Int) := u64_wrap_id _ (by omega) (by omega)
 clear hrs hv hvl hlt hsz
 go_enter Tryz.func145, Tryz.ntmps145
 go_wp2_with fail
 refine (get_ok s _ hs e H.out).mono ?_
 rintro r w1 ⟨rfl, n1, rfl⟩
 rw [HX.out, HR.out]
 go_wp2_with fail
 go_region
 all_goals go_wp2
 all_goals go_ret3
 all_goals exact ⟨rfl, n1 + 1, rfl⟩
end Go.Proofs.YtkcjhkfelaplkaaGreatDoor
end
section
namespace Go.Proofs.YtkcjhkfelaplkaaGreatDoor
open Go.RowKit
theorem bytes_ext {a b : ByteArray} (h : a.data.toList = b.data.toList) : a = b := by
 cases a with | mk x => cases b with | mk y => simp only [Array.toList_inj] at h; subst h; rfl
theorem list_append (a b : ByteArray) : (a ++ b).data.toList = a.data.toList ++ b.data.toList := by
 rw [ByteArray.data_append]; simp
theorem put_list (n : Nat) (s : ByteArray) : (ByteArray.mk (Lib.uvarint n).toArray ++ s).data.toList = Lib.uvarint n ++ s.data.toList := by
 rw [list_append]
end Go.Proofs.YtkcjhkfelaplkaaGreatDoor
end
end
section
section
namespace Go.Proofs.YtkcjhkfelaplkaaGreatDoor
open Go.RowKit
theorem bSize : (Tryz.prog.info? 256).map (·.size) = some 2 := by kernel_rfl
theorem bLies : liesAt Tryz.prog Tryz.prog.depth 256 (2 / Tryz.prog.cellsOf 256) 0 256 1 = true := by kernel_rfl
theorem bcheck_used (b : Nat) (w : World) (h0 : w.cell? ⟨b, 0, none⟩ = some (.pointer (some ⟨b, 0, none⟩))) :
  Calls Tryz.prog 193 #[.pointer (some ⟨b, 0, none⟩)] w fun e w' => e = .returned (.tuple #[]) ∧ w' = w := by
 obtain ⟨j, hj, _⟩ := Option.map_eq_some_iff.1 bSize
 go_enter Tryz.func193, Tryz.ntmps193
 go_wp2
 rw [Lib.run_neq_ptr_same w _ Tryz.underlying254 hj]
 go_wp2
 go_end0
 exact ⟨rfl, rfl⟩
theorem bcheck_fresh (b : Nat) (w : World) (h0 : w.cell? ⟨b, 0, none⟩ = some (.pointer none)) (hsh : w.shape? b = some (256, 2)) (hfz : w.frozen? ⟨b, 0, none⟩ = false) :
  Calls Tryz.prog 193 #[.pointer (some ⟨b, 0, none⟩)] w fun e w' => e = .returned (.tuple #[]) ∧ w' = w.setCell ⟨b, 0, none⟩ (.pointer (some ⟨b, 0, none⟩)) := by
 obtain ⟨j, hj, hjs⟩ := Option.map_eq_some_iff.1 bSize
 go_enter Tryz.func193, Tryz.ntmps193
 go_wp2
 rw [Lib.run_to_unsafe w ⟨b, 0, none⟩ Tryz.underlying254 Tryz.underlying270 hj (by rw [hjs]; decide) hsh (Nat.zero_lt_succ 1)]
 simp only [Result.andThen]
 rw [Oper.upon_value]
 go_wp2
 rw [run_callFunc_extern Tryz.func199 (by kernel_rfl) (by kernel_rfl) (by kernel_rfl) (e := Extern.AbiNoEscape.same) (by kernel_rfl)]
 rw [Lib.run_noEscape]
 simp only [Result.andThen]
 rw [Oper.upon_value]
 go_wp2
 rw [Lib.run_from_unsafe w ⟨b, 0, none⟩ Tryz.underlying270 Tryz.underlying254 hj hsh bLies]
 simp only [Result.andThen]
 rw [Oper.upon_value]
 go_wp2
 go_end0
 exact ⟨rfl, rfl⟩
theorem bcheck (B b : Nat) (bs : List Value) (w : World) (h : Lib.IsBuilderF 256 5 B b bs w) :
  Calls Tryz.prog 193 #[.pointer (some ⟨b, 0, none⟩)] w fun e w' => e = .returned (.tuple #[]) ∧ (Lib.BuilderAtF 256 5 B b (.pointer (some ⟨b, 0, none⟩)) bs w' ∧ Below B w w' ∧ Lib.OthersKept 5 (some b) w w') := by
 rcases h with h | h
 ·
  refine (bcheck_fresh b w h.cell0 h.shape h.frozen0).mono ?_
  rintro e w' ⟨rfl, rfl⟩
  exact ⟨rfl, h.used _, (Below.refl B w).setCell (p := ⟨b, 0, none⟩) h.1 _, (Lib.OthersKept.refl _ _ w).setCell ⟨b, 0, none⟩ rfl _⟩
 ·
  refine (bcheck_used b w h.cell0).mono ?_
  rintro e w' ⟨rfl, rfl⟩
  exact ⟨rfl, h, Below.refl B _, Lib.OthersKept.refl _ _ _⟩
theorem bwrite (B b : Nat) (bs : List Value) (s : ByteArray) (w : World) (h : Lib.IsBuilderF 256 5 B b bs w) (hlen : bs.length + s.size ≤ 140737488355328) (hBw : B ≤ w.heap.size) :
  Calls Tryz.prog 185 #[.pointer (some ⟨b, 0, none⟩), .string s] w fun e w' => e = .returned (.tuple #[.int .i64 s.size, .nilIface]) ∧ (Lib.BuilderAtF 256 5 B b (.pointer (some ⟨b, 0, none⟩)) (bs ++ Lib.strCells s) w' ∧ Below B w w' ∧ Lib.OthersKept 5 (some b) w w') := by
 obtain ⟨i0, hi, hz0, hz1, hz2⟩ := info_parts Tryz.infoByte
 go_enter Tryz.func185, Tryz.ntmps185
 go_wp2_with fail
 refine (bcheck B b bs _ h).mono ?_
 rintro e w1 ⟨rfl, h1, hb1, hk1⟩
 obtain ⟨hB, v, hbk, hown, hne⟩ := h1
 have c0 : w1.cell? ⟨b, 0, none⟩ = some (.pointer (some ⟨b, 0, none⟩)) := by rw [Lib.cell_of_heap hbk]; rfl
 have c1 : w1.cell? ⟨b, 1, none⟩ = some v := by rw [Lib.cell_of_heap hbk]; rfl
 have HK := Lib.hid hbk
 clear hbk
 go_wp2_with (at_builtin; refine Lib.wpList_append_own_stringF _ rfl _ _ 23 9 rfl B 5 i0 Tryz.underlying23 Tryz.underlying9 hi hz0 hz1 hz2 _ _ _ rfl hown s rfl ?c3 ?c4 ?c5 ?_)
 case c3 => unfold maxLen; omega
 case c4 => omega
 case c5 => have := hb1.size; omega
 intro v' w2 hown' hgrow _
 have hbk := HK.out
 have hlt : b < w1.heap.size := by
  rcases Nat.lt_or_ge b w1.heap.size with h' | h'
  · exact h'
  · simp [Array.getElem?_eq_none h'] at hbk
 have hb2 : w2.heap[b]? = some (.cells #[.pointer (some ⟨b, 0, none⟩), v] 256 (0, 0)) := by
  rw [hgrow.block b hlt (fun e => hne e.symm)]
  exact hbk
 have d0 : w2.cell? ⟨b, 0, none⟩ = some (.pointer (some ⟨b, 0, none⟩)) := by rw [Lib.cell_of_heap hb2]; rfl
 have d1 : w2.cell? ⟨b, 1, none⟩ = some v := by rw [Lib.cell_of_heap hb2]; rfl
 have f1 : w2.frozen? ⟨b, 1, none⟩ = false := Lib.frozen_of_heap hb2 1
 have H2 := Lib.hid hb2
 clear hb2 hbk
 obtain ⟨ao, n', cap, rfl⟩ : ∃ ao n' cap, v' = .slice ao n' cap := by
  rcases hown'.2 with ⟨hv, _⟩ | ⟨g, cap, cur, fz, hv, _⟩
  · exact ⟨_, _, _, hv⟩
  · exact ⟨_, _, _, hv⟩
 go_wp2
 go_ret2
 refine ⟨rfl, ?_, ?_, (hk1.grown hgrow (Lib.ownsRowF_kind hown)).setCell ⟨b, 1, none⟩ rfl _⟩
 · exact Lib.BuilderAtF.put (T := 256) (e := 5) hB H2.out (bs' := bs ++ Lib.strCells s) (by simpa [Lib.strCells_length] using hown') (by decide)
 · exact (hb1.grown hgrow (by have := hb1.size; omega) (fun k hk => (hown.lt k hk).1)).setCell (p := ⟨b, 1, none⟩) hB _
end Go.Proofs.YtkcjhkfelaplkaaGreatDoor
end
section
namespace Go.Proofs.YtkcjhkfelaplkaaGreatDoor
open Go.RowKit
def bv (x : UInt8) : Value := .int .u8 (x.toNat : Int)
def idC (l : List UInt8) : List Value := l.map bv
structure En where
 name : ByteArray
 kind : Int
 id : List UInt8
structure Ob where
 kind : Int
 data : ByteArray
 ents : List En
 tree : List UInt8
 pars : List (List UInt8)
 time : Nat
 text : ByteArray
 target : List UInt8
 of : Int
 name : ByteArray
def enC (e : En) : List Value := .string e.name :: .int .i64 e.kind :: idC e.id
theorem idC_length (l : List UInt8) : (idC l).length = l.length := by simp [idC]
theorem enC_length (e : En) : (enC e).length = e.id.length + 2 := by simp [enC, idC]
theorem idC_one (l : List UInt8) : ∀ v ∈ idC l, v.oneCell' = true := by
 intro v hv; simp only [idC, List.mem_map] at hv; obtain ⟨x, _, rfl⟩ := hv; rfl
theorem bv_inj {x y : UInt8} (h : bv x = bv y) : x = y := by
 simp only [bv, Value.int.injEq, true_and] at h
 exact UInt8.toNat_inj.1 (by omega)
theorem idC_inj : ∀ {a b : List UInt8}, idC a = idC b → a = b
 | [], [], _ => rfl
 | [], _ :: _, h => by simp [idC] at h
 | _ :: _, [], h => by simp [idC] at h
 | x :: a, y :: b, h => by
   simp only [idC, List.map_cons, List.cons.injEq] at h
   rw [bv_inj h.1, idC_inj (a := a) (b := b) h.2]
structure ObF (cs : Array Value) (o : Ob) (ev pv : Value) : Prop where
 c0 : cs[0]? = some (.int .i64 o.kind)
 c1 : cs[1]? = some (.string o.data)
 c2 : cs[2]? = some ev
 tr : ∀ j v, (idC o.tree)[j]? = some v → cs[3 + j]? = some v
 c35 : cs[35]? = some pv
 c36 : cs[36]? = some (.int .u32 (o.time : Int))
 c37 : cs[37]? = some (.string o.text)
 ta : ∀ j v, (idC o.target)[j]? = some v → cs[38 + j]? = some v
 c70 : cs[70]? = some (.int .i64 o.of)
 c71 : cs[71]? = some (.string o.name)
 trl : o.tree.length = 32
 tal : o.target.length = 32
 size : cs.size = 72
 one : cs.all (·.oneCell') = true
structure RowsAt (w : World) (v : Value) (k : Nat) (L : List (List Value)) : Prop where
 out : (v = .slice none 0 0 ∧ L = []) ∨ ∃ a cap, v = .slice (some a) L.length cap ∧ ∀ i cs, L[i]? = some cs → cs.length = k ∧ ∀ j x, cs[j]? = some x → w.cell? ((a.add (i * k)).add j) = some x
theorem RowsAt.form {w : World} {v : Value} {k : Nat} {L : List (List Value)} (h : RowsAt w v k L) : ∃ ao cap, v = .slice ao L.length cap := by
 rcases h.out with ⟨rfl, rfl⟩ | ⟨a, cap, rfl, _⟩
 · exact ⟨none, 0, rfl⟩
 · exact ⟨some a, cap, rfl⟩
theorem RowsAt.elem {w : World} {k cap : Nat} {ao : Option Addr} {n : Nat} {L : List (List Value)} (h : RowsAt w (.slice ao n cap) k L) (i : Nat) (cs : List Value) (hi : L[i]? = some cs) :
  ∃ a, ao = some a ∧ cs.length = k ∧ ∀ j x, cs[j]? = some x → w.cell? ((a.add (i * k)).add j) = some x := by
 rcases h.out with ⟨_, rfl⟩ | ⟨a, cap', hv, hc⟩
 · simp at hi
 ·
  simp only [Value.slice.injEq] at hv
  exact ⟨a, hv.1, hc i cs hi⟩
theorem add_block (a : Addr) (n : Nat) : (a.add n).block = a.block := by unfold Addr.add; split <;> rfl
theorem RowsAt.below {w w' : World} {v : Value} {k : Nat} {L : List (List Value)} (h : RowsAt w v k L) (hb : Below w.heap.size w w') : RowsAt w' v k L := by
 refine ⟨?_⟩
 rcases h.out with h0 | ⟨a, cap, hv, hc⟩
 · exact .inl h0
 ·
  refine .inr ⟨a, cap, hv, fun i cs hi => ⟨(hc i cs hi).1, fun j x hx => ?_⟩⟩
  have h1 := (hc i cs hi).2 j x hx
  rw [hb.cell (World.block_lt_of_cell? w _ h1)]
  exact h1
theorem RowsAt.nil (w : World) (k : Nat) : RowsAt w (.slice none 0 0) k [] := ⟨.inl ⟨rfl, rfl⟩⟩
theorem info28 : (Tryz.prog.info? 59).map (·.size) = some 72 := by kernel_rfl
theorem info24 : (Tryz.prog.info? 46).map (·.size) = some 32 := by kernel_rfl
theorem info45 : (Tryz.prog.info? 178).map (·.size) = some 34 := by kernel_rfl
def zId : List UInt8 := List.replicate 32 0
theorem zero24 : (Tryz.prog.info? 46).map (fun i => (i.zero, i.size)) = some (some (.agg (idC zId).toArray), 32) := by kernel_rfl
end Go.Proofs.YtkcjhkfelaplkaaGreatDoor
end
section
namespace Go.Proofs.YtkcjhkfelaplkaaGreatDoor
open Go.RowKit
theorem info_byte : ∃ i, Tryz.prog.info? 5 = some i ∧ i.zero = some (.int .u8 0) ∧ i.size = 1 ∧ i.bytes = 1 := info_parts Tryz.infoByte
theorem cells_byte : Tryz.prog.cellsOf 5 = 1 := by kernel_rfl
theorem part_byte (xs : Array Value) (i : Nat) (v : Value) (h : xs[i]? = some v) (w : World) : (part 5 xs (i * 1)).run Tryz.prog w = .ok v w := by
 simp [part, Tryz.isAgg5, h, Result.andThen]
theorem idC_get (l : List UInt8) (i : Nat) (h : i < l.length) : (idC l).toArray[i]? = some (.int .u8 ((l.getD i 0).toNat : Int)) := by
 simp [idC, bv, h]
theorem eqItems_ids (d : Nat) (a b : List UInt8) (w : World) : ∀ is : List Nat, (∀ i ∈ is, i < a.length ∧ i < b.length) → (Op.eqItems (d + 1) 5 1 (idC a).toArray (idC b).toArray is).run Tryz.prog w = .ok (is.all fun i => a.getD i 0 == b.getD i 0) w
 | [], _ => by simp [Op.eqItems]
 | i :: is, h => by
   have ih := eqItems_ids d a b w is (fun j hj => h j (by simp [hj]))
   simp only [Op.eqItems, Sem.run_bind, part_byte _ i _ (idC_get a i (h i (by simp)).1), part_byte _ i _ (idC_get b i (h i (by simp)).2), Result.andThen_ok, run_equalIn_int w d 5 .u8 .u8 _ _ Tryz.underlying5]
   have e : (((a.getD i 0).toNat : Int) == ((b.getD i 0).toNat : Int)) = (a.getD i 0 == b.getD i 0) := by
    rw [Bool.eq_iff_iff, beq_iff_eq, beq_iff_eq, ← UInt8.toNat_inj]; omega
   rw [e, List.all_cons]
   cases (a.getD i 0 == b.getD i 0)
   · simp
   · simpa using ih
theorem ids_all (a b : List UInt8) (ha : a.length = 32) (hb : b.length = 32) : ((List.range 32).all fun i => a.getD i 0 == b.getD i 0) = decide (a = b) := by
 rw [Bool.eq_iff_iff, List.all_eq_true, decide_eq_true_iff]
 constructor
 ·
  intro h
  apply List.ext_getElem?
  intro i
  by_cases hi : i < 32
  ·
   have := h i (by simpa using hi)
   simpa [List.getD_eq_getElem?_getD, List.getElem?_eq_getElem (show i < a.length by omega), List.getElem?_eq_getElem (show i < b.length by omega)] using this
  · rw [List.getElem?_eq_none (by omega), List.getElem?_eq_none (by omega)]
 ·
  rintro rfl i _
  simp
theorem eq_ids (a b : List UInt8) (ha : a.length = 32) (hb : b.length = 32) (d : Nat) (w : World) : (Op.equalIn (d + 1 + 1) 46 (.agg (idC a).toArray) (.agg (idC b).toArray)).run Tryz.prog w = .ok (decide (a = b)) w := by
 obtain ⟨i, hi, _⟩ := info_byte
 rw [run_equalIn_array w (d + 1) _ _ Tryz.underlying46 hi, cells_byte, eqItems_ids d a b w _ (fun j hj => by have := List.mem_range.1 hj; omega), ids_all a b ha hb]
theorem eq_id (a b : List UInt8) (ha : a.length = 32) (hb : b.length = 32) (w : World) : (Op.equalIn 10000 46 (.agg (idC a).toArray) (.agg (idC b).toArray)).run Tryz.prog w = .ok (decide (a = b)) w := eq_ids a b ha hb 9998 w
def lkC (l : List UInt8 × Int) : List Value := idC l.1 ++ [.int .i64 l.2]
theorem enC_one (e : En) : ∀ v ∈ enC e, v.oneCell' = true := by
 intro v hv; simp only [enC, List.mem_cons] at hv
 rcases hv with rfl | rfl | h
 · rfl
 · rfl
 · exact idC_one _ _ h
theorem under45 : Tryz.prog.underlying 178 = some (.struct (Tryz.prog.fieldsOf 178)) := by kernel_rfl
theorem conv_id (w : World) (a : Addr) (l : List UInt8) (h : l.length = 32) (hc : ∀ j v, (idC l)[j]? = some v → w.cell? (a.add j) = some v) :
  (convert 23 9 (.slice (some a) 32 32)).run Tryz.prog w = .ok (.string ⟨l.toArray⟩) w := by
 have := run_convert_bytes_back (P := Tryz.prog) w 23 9 5 a 32 l Tryz.underlying23 Tryz.underlying5 Tryz.underlying9 (fun j hj => hc j _ (by simp [idC, bv, hj]))
 rwa [h] at this
theorem at_wl {P : Program} {ops : Array Oper} {l : List Oper} {a : Act} {w : World} {Q : Exit → Act → World → Prop} (h : wpList P ops Q l a w) : wpList P ops Q l a w := h
theorem loadAt_row {P : Program} (w : World) (g : Nat) (t ty : TypeId) (cs : Array Value) (d : TypeDesc) (hg : w.heap[g]? = some (.cells cs t))
  (hu : P.underlying ty = some d) (hd : (match d with | .struct _ | .array _ _ => true | _ => false) = true) (hi : (P.info? ty).map (·.size) = some cs.size) :
  (Instr.loadAt ty (.pointer (some ⟨g, 0, none⟩))).run P w = .ok (.agg cs) w := by
 simp only [Instr.loadAt, Instr.sureAddr, Sem.run_bind, Sem.run_pure, Result.andThen]
 exact run_loadVar_row w g t ty cs _ d hg hu hd hi
theorem wpList_load_mid_g {P : Program} {ops : Array Oper} {rest : List Oper} {op : Oper} {a : Act} {w : World} {Q : Exit → Act → World → Prop} (hw : Region.wanted op (yielded ops a.tmps) = true) (ty : TypeId) (x : Operand) (ho : op.op = .load ty x)
  (b o : Nat) (hx : a.eval x = .pointer (some ⟨b, o, none⟩)) (cs : List Value) (d : TypeDesc) (hc : w.rangeAt b o cs)
  (hu : P.underlying ty = some d) (hd : d.isRow = true) (hi : (P.info? ty).map (·.size) = some cs.length)
  (h : wpList P ops Q rest (a.put op.dst (.agg cs.toArray)) w) : wpList P ops Q (op :: rest) a w :=
 wpList_step fun K hK => by rw [if_pos hw]; exact wp_load_mid ty x ho b o hx cs d hc hu hd hi (hK _ _ h)
theorem wpList_load_row_g {P : Program} {ops : Array Oper} {rest : List Oper} {o : Oper} {a : Act} {w : World} {Q : Exit → Act → World → Prop} (hw : Region.wanted o (yielded ops a.tmps) = true) (ty : TypeId) (x : Operand) (ho : o.op = .load ty x)
  (g : Nat) (hx : a.eval x = .pointer (some ⟨g, 0, none⟩)) (t : TypeId) (cs : Array Value) (fr : Nat × Nat) (d : TypeDesc) (hg : w.heap[g]? = some (.cells cs t fr))
  (hu : P.underlying ty = some d) (hd : (match d with | .struct _ | .array _ _ => true | _ => false) = true) (hi : (P.info? ty).map (·.size) = some cs.size)
  (h : wpList P ops Q rest (a.put o.dst (.agg cs)) w) : wpList P ops Q (o :: rest) a w :=
 wpList_step fun K hK => by rw [if_pos hw]; exact wp_load_row ty x ho g hx t cs fr d hg hu hd hi (hK _ _ h)
theorem run_loadVar_at {P : Program} (w : World) (a : Addr) (ty : TypeId) (cs : List Value) (d : TypeDesc) (hc : ∀ j v, cs[j]? = some v → w.cell? (a.add j) = some v)
  (hu : P.underlying ty = some d) (hd : d.isRow = true) (hi : (P.info? ty).map (·.size) = some cs.length) :
  (loadVar ty a).run P w = .ok (.agg cs.toArray) w := by
 have hl : (loadCells a cs.length).run P w = .ok cs.toArray w := run_loadCells_list (P := P) w a cs hc
 cases hq : P.info? ty with
 | none => simp [hq] at hi
 | some i =>
   have hs : i.size = cs.length := by simpa [hq] using hi
   have hagg : (isAgg ty).run P w = .ok true w := by
    unfold isAgg
    rw [Sem.run_bind, run_underlying hu w]
    cases d <;> simp_all
   simp [loadVar, Sem.run_bind, hagg, Go.sizeOf, typeInfo, hq, hs, hl]
theorem wp_load_at {P : Program} {op : Oper} {a : Act} {w : World} {K : Act → World → Prop} {Q : Exit → Act → World → Prop} (ty : TypeId) (x : Operand) (ho : op.op = .load ty x)
  (p : Addr) (hx : a.eval x = .pointer (some p)) (cs : List Value) (d : TypeDesc) (hc : ∀ j v, cs[j]? = some v → w.cell? (p.add j) = some v)
  (hu : P.underlying ty = some d) (hd : d.isRow = true) (hi : (P.info? ty).map (·.size) = some cs.length)
  (h : K (a.put op.dst (.agg cs.toArray)) w) : op.wp P a w K Q := by
 unfold Oper.wp execOp
 simp only [ho, hx, Instr.loadAt, Instr.sureAddr, Sem.run_bind, Sem.run_pure, Result.andThen_ok, run_loadVar_at w p ty cs d hc hu hd hi]
 exact h
theorem wpList_load_at {P : Program} {ops : Array Oper} {rest : List Oper} {op : Oper} {a : Act} {w : World} {Q : Exit → Act → World → Prop} (hgd : op.guard = none) (ty : TypeId) (x : Operand) (ho : op.op = .load ty x)
  (p : Addr) (hx : a.eval x = .pointer (some p)) (cs : List Value) (d : TypeDesc) (hc : ∀ j v, cs[j]? = some v → w.cell? (p.add j) = some v)
  (hu : P.underlying ty = some d) (hd : d.isRow = true) (hi : (P.info? ty).map (·.size) = some cs.length)
  (h : wpList P ops Q rest (a.put op.dst (.agg cs.toArray)) w) : wpList P ops Q (op :: rest) a w :=
 wpList_plain hgd fun _ hK => wp_load_at ty x ho p hx cs d hc hu hd hi (hK _ _ h)
theorem wpList_build_as {P : Program} {ops : Array Oper} {rest : List Oper} {o : Oper} {a : Act} {w : World} {Q : Exit → Act → World → Prop} (hg : o.guard = none) (t : TypeId) (parts : Array (Nat × Operand)) (ho : o.op = .build t parts) (cs : Array Value)
  (hb : P.built t (parts.map fun (i, x) => (i, a.eval x)).toList = some cs) (h : wpList P ops Q rest (a.put o.dst (.agg cs)) w) : wpList P ops Q (o :: rest) a w := by
 refine wpList_build hg t parts ho (by rw [hb]; rfl) ?_
 rw [hb]
 exact h
theorem ObF.rta {cs : Array Value} {o : Ob} {ev pv : Value} (F : ObF cs o ev pv) {w : World} {g : Nat} {t : TypeId} (h : w.heap[g]? = some (.cells cs t)) : w.rangeAt g 38 (idC o.target) := fun j v hv => by
 rw [cell_of_row _ _ _ cs t (0, 0) h]; exact F.ta j v hv
theorem ObF.rtr {cs : Array Value} {o : Ob} {ev pv : Value} (F : ObF cs o ev pv) {w : World} {g : Nat} {t : TypeId} (h : w.heap[g]? = some (.cells cs t)) : w.rangeAt g 3 (idC o.tree) := fun j v hv => by
 rw [cell_of_row _ _ _ cs t (0, 0) h]; exact F.tr j v hv
theorem idsize {l : List UInt8} (h : l.length = 32) : (Tryz.prog.info? 46).map (·.size) = some (idC l).length := by rw [idC_length, h]; exact info24
theorem obsize {cs : Array Value} (h : cs.size = 72) : (Tryz.prog.info? 59).map (·.size) = some cs.size := by rw [h]; exact info28
end Go.Proofs.YtkcjhkfelaplkaaGreatDoor
end
section
namespace Go.Proofs.YtkcjhkfelaplkaaGreatDoor
open Go.RowKit
def blobZ (o : Ob) : Bool := o.data.toList.isEmpty
def treeZ (o : Ob) : Bool := o.ents.isEmpty
def commitZ (o : Ob) : Bool := decide (o.tree = zId) && o.pars.isEmpty && decide (o.time = 0) && o.text.toList.isEmpty
def tagZ (o : Ob) : Bool := decide (o.target = zId) && decide (o.of = 0) && o.name.toList.isEmpty
theorem ret_bool {a b : Bool} (h : a = b) : Ending.returned (.bool a) = .returned (.bool b) := by rw [h]
theorem blobZ_any (cs : Array Value) (o : Ob) (ev pv : Value) (w : World) (F : ObF cs o ev pv) :
  Calls Tryz.prog 179 #[.agg cs] w fun r w' => r = .returned (.bool (blobZ o)) ∧ Below w.heap.size w w' := by
 have c1 := F.c1
 go_enter Tryz.func179, Tryz.ntmps179
 go_wp2
 go_ret
 exact ⟨rfl, (Below.refl _ _).alloc (Nat.le_refl _) _⟩
theorem treeZ_any (cs : Array Value) (o : Ob) (ao : Option Addr) (cap : Nat) (pv : Value) (w : World) (F : ObF cs o (.slice ao o.ents.length cap) pv) :
  Calls Tryz.prog 180 #[.agg cs] w fun r w' => r = .returned (.bool (treeZ o)) ∧ Below w.heap.size w w' := by
 have c2 := F.c2
 go_enter Tryz.func180, Tryz.ntmps180
 go_wp2
 go_ret
 refine ⟨ret_bool ?_, (Below.refl _ _).alloc (Nat.le_refl _) _⟩
 unfold treeZ; cases o.ents <;> first | rfl | (simp; done) | (simp; omega)
theorem commitZ_any (cs : Array Value) (o : Ob) (ev : Value) (ao : Option Addr) (cap : Nat) (w : World) (F : ObF cs o ev (.slice ao o.pars.length cap)) :
  Calls Tryz.prog 181 #[.agg cs] w fun r w' => r = .returned (.bool (commitZ o)) ∧ Below w.heap.size w w' := by
 have c35 := F.c35
 have c36 := F.c36
 have c37 := F.c37
 have HI := Lib.hid (idsize F.trl)
 have hu := Lib.hid Tryz.underlying46
 have hq := fun W => eq_id o.tree zId F.trl rfl W
 have hR := Lib.hid (F.rtr (heap_alloc_last w (.cells cs 59)))
 have HZ := Lib.hid (show commitZ o = (decide (o.tree = zId) && o.pars.isEmpty && decide (o.time = 0) && o.text.toList.isEmpty) from rfl)
 generalize commitZ o = z at HZ
 generalize decide (o.tree = zId) = tz at hq HZ
 go_enter Tryz.func181, Tryz.ntmps181
 go_wp2_with ((with_reducible refine at_wl ?_); first | (refine wpList_load_mid rfl 46 _ rfl w.heap.size 3 rfl _ _ hR.out hu.out rfl HI.out ?_) | (refine wpList_build_as rfl 46 _ rfl (idC zId).toArray (by kernel_rfl) ?_))
 all_goals
  go_ret
  exact ⟨ret_bool (by rw [HZ.out]; simp [*]), (Below.refl _ _).alloc (Nat.le_refl _) _⟩
theorem tagZ_any (cs : Array Value) (o : Ob) (ev pv : Value) (w : World) (F : ObF cs o ev pv) :
  Calls Tryz.prog 182 #[.agg cs] w fun r w' => r = .returned (.bool (tagZ o)) ∧ Below w.heap.size w w' := by
 have c70 := F.c70
 have c71 := F.c71
 have HI := Lib.hid (idsize F.tal)
 have hu := Lib.hid Tryz.underlying46
 have hq := fun W => eq_id o.target zId F.tal rfl W
 have hR := Lib.hid (F.rta (heap_alloc_last w (.cells cs 59)))
 have HZ := Lib.hid (show tagZ o = (decide (o.target = zId) && decide (o.of = 0) && o.name.toList.isEmpty) from rfl)
 generalize tagZ o = z at HZ
 generalize decide (o.target = zId) = tz at hq HZ
 go_enter Tryz.func182, Tryz.ntmps182
 go_wp2_with ((with_reducible refine at_wl ?_); first | (refine wpList_load_mid rfl 46 _ rfl w.heap.size 38 rfl _ _ hR.out hu.out rfl HI.out ?_) | (refine wpList_build_as rfl 46 _ rfl (idC zId).toArray (by kernel_rfl) ?_))
 all_goals
  go_ret
  exact ⟨ret_bool (by rw [HZ.out]; simp [*]), (Below.refl _ _).alloc (Nat.le_refl _) _⟩
theorem isKind_any (k : Int) (w : World) :
  Calls Tryz.prog 152 #[.int .i64 k] w fun r w' => r = .returned (.bool (decide (1 ≤ k ∧ k ≤ 4))) ∧ w = w' := by
 go_enter Tryz.func152, Tryz.ntmps152
 go_wp2
 all_goals
  go_ret
  exact ⟨ret_bool (by simp <;> omega), rfl⟩
structure Kp (w : World) (cs : Array Value) (t : TypeId) (W : World) : Prop where
 below : Below w.heap.size w W
 held : W.heap[w.heap.size]? = some (.cells cs t)
theorem Kp.box (w : World) (cs : Array Value) (t : TypeId) : Kp w cs t (w.alloc (.cells cs t)) := ⟨(Below.refl _ _).alloc (Nat.le_refl _) _, heap_alloc_last w _⟩
theorem Kp.step {w W W' : World} {cs : Array Value} {t : TypeId} (h : Kp w cs t W) (hb : Below W.heap.size W W') : Kp w cs t W' :=
 ⟨h.below.trans (hb.mono h.below.size), (hb.block _ (Array.getElem?_eq_some_iff.1 h.held).1).trans h.held⟩
theorem Kp.drew {w W : World} {cs : Array Value} {t : TypeId} (h : Kp w cs t W) : Kp w cs t W.drew := ⟨h.below.drew, h.held⟩
theorem Kp.cell {w W : World} {cs : Array Value} {t : TypeId} (h : Kp w cs t W) {i : Nat} {v : Value} (hc : cs[i]? = some v) : W.cell? ⟨w.heap.size, i, none⟩ = some v := by
 rw [cell_of_row _ _ _ cs t (0, 0) h.held]; exact hc
theorem load_ob_g {ops : Array Oper} {rest : List Oper} {o : Oper} {a : Act} {w0 w : World} {Q : Exit → Act → World → Prop} {cs : Array Value} {x : Operand} (ho : o.op = .load 59 x)
  (hx : a.eval x = .pointer (some ⟨w0.heap.size, 0, none⟩)) (hw : Region.wanted o (yielded ops a.tmps) = true) (k : Kp w0 cs 59 w) (hs : cs.size = 72)
  (h : wpList Tryz.prog ops Q rest (a.put o.dst (.agg cs)) w) : wpList Tryz.prog ops Q (o :: rest) a w :=
 wpList_load_row_g hw 59 x ho w0.heap.size hx _ cs _ _ k.held Tryz.underlying59 rfl (obsize hs) h
theorem wp_load_ob {o : Oper} {a : Act} {w0 w : World} {K : Act → World → Prop} {Q : Exit → Act → World → Prop} {cs : Array Value} {x : Operand} (ho : o.op = .load 59 x)
  (hx : a.eval x = .pointer (some ⟨w0.heap.size, 0, none⟩)) (k : Kp w0 cs 59 w) (hs : cs.size = 72)
  (h : K (a.put o.dst (.agg cs)) w) : o.wp Tryz.prog a w K Q :=
 wp_load_row 59 x ho w0.heap.size hx _ cs _ _ k.held Tryz.underlying59 rfl (obsize hs) h
theorem load_ob {ops : Array Oper} {rest : List Oper} {o : Oper} {a : Act} {w0 w : World} {Q : Exit → Act → World → Prop} {cs : Array Value} {x : Operand} (hg : o.guard = none) (ho : o.op = .load 59 x)
  (hx : a.eval x = .pointer (some ⟨w0.heap.size, 0, none⟩)) (k : Kp w0 cs 59 w) (hs : cs.size = 72)
  (h : wpList Tryz.prog ops Q rest (a.put o.dst (.agg cs)) w) : wpList Tryz.prog ops Q (o :: rest) a w :=
 wpList_load_row hg 59 x ho w0.heap.size hx _ cs _ _ k.held Tryz.underlying59 rfl (obsize hs) h
def foreignZ (o : Ob) : Bool := (o.kind == 1 || blobZ o) && (o.kind == 2 || treeZ o) && (o.kind == 3 || commitZ o) && (o.kind == 4 || tagZ o)
end Go.Proofs.YtkcjhkfelaplkaaGreatDoor
end
section
namespace Go.Proofs.YtkcjhkfelaplkaaGreatDoor
open Go.RowKit
theorem foreign_any (cs : Array Value) (o : Ob) (ao bo : Option Addr) (ca cb : Nat) (w : World) (F : ObF cs o (.slice ao o.ents.length ca) (.slice bo o.pars.length cb)) :
  Calls Tryz.prog 150 #[.agg cs] w fun r w' => r = .returned (.bool (foreignZ o)) ∧ Below w.heap.size w w' := by
 have H1 := Lib.hid (fun W => blobZ_any cs o _ _ W F)
 have H2 := Lib.hid (fun W => treeZ_any cs o _ _ _ W F)
 have H3 := Lib.hid (fun W => commitZ_any cs o _ _ _ W F)
 have H4 := Lib.hid (fun W => tagZ_any cs o _ _ W F)
 have HZ := Lib.hid (show foreignZ o = ((o.kind == 1 || blobZ o) && (o.kind == 2 || treeZ o) && (o.kind == 3 || commitZ o) && (o.kind == 4 || tagZ o)) from rfl)
 have HS := Lib.hid F.size
 have c0 := F.c0
 have C0 := Lib.hid F.c0
 have K0 := Kp.box w cs 59
 generalize foreignZ o = z at HZ
 generalize blobZ o = b1 at H1 HZ
 generalize treeZ o = b2 at H2 HZ
 generalize commitZ o = b3 at H3 HZ
 generalize tagZ o = b4 at H4 HZ
 generalize o.kind = k at HZ c0 C0
 clear F
 rcases (by omega : k = 1 ∨ k = 2 ∨ k = 3 ∨ k = 4 ∨ (k ≠ 1 ∧ k ≠ 2 ∧ k ≠ 3 ∧ k ≠ 4)) with rfl | rfl | rfl | rfl | ⟨n1, n2, n3, n4⟩
 ·
  go_enter Tryz.func150, Tryz.ntmps150
  go_wp2_with (first
  | (go_at_call 179; refine (H1.out _).mono ?_; rintro r wx ⟨rfl, hx⟩; have kx := Kp.step (by assumption) hx; have cx := kx.cell C0.out; clear hx)
  | (go_at_call 180; refine (H2.out _).mono ?_; rintro r wx ⟨rfl, hx⟩; have kx := Kp.step (by assumption) hx; have cx := kx.cell C0.out; clear hx)
  | (go_at_call 181; refine (H3.out _).mono ?_; rintro r wx ⟨rfl, hx⟩; have kx := Kp.step (by assumption) hx; have cx := kx.cell C0.out; clear hx)
  | (go_at_call 182; refine (H4.out _).mono ?_; rintro r wx ⟨rfl, hx⟩; have kx := Kp.step (by assumption) hx; have cx := kx.cell C0.out; clear hx)
  | (go_guarded; (with_reducible apply wp_load_ob (k := by assumption) (hs := HS.out)); rfl; rfl))
  all_goals
   go_ret
   exact ⟨ret_bool (by rw [HZ.out]; simp [*]), Kp.below (by assumption)⟩
 ·
  go_enter Tryz.func150, Tryz.ntmps150
  go_wp2_with (first
  | (go_at_call 179; refine (H1.out _).mono ?_; rintro r wx ⟨rfl, hx⟩; have kx := Kp.step (by assumption) hx; have cx := kx.cell C0.out; clear hx)
  | (go_at_call 180; refine (H2.out _).mono ?_; rintro r wx ⟨rfl, hx⟩; have kx := Kp.step (by assumption) hx; have cx := kx.cell C0.out; clear hx)
  | (go_at_call 181; refine (H3.out _).mono ?_; rintro r wx ⟨rfl, hx⟩; have kx := Kp.step (by assumption) hx; have cx := kx.cell C0.out; clear hx)
  | (go_at_call 182; refine (H4.out _).mono ?_; rintro r wx ⟨rfl, hx⟩; have kx := Kp.step (by assumption) hx; have cx := kx.cell C0.out; clear hx)
  | (go_guarded; (with_reducible apply wp_load_ob (k := by assumption) (hs := HS.out)); rfl; rfl))
  all_goals
   go_ret
   exact ⟨ret_bool (by rw [HZ.out]; simp [*]), Kp.below (by assumption)⟩
 ·
  go_enter Tryz.func150, Tryz.ntmps150
  go_wp2_with (first
  | (go_at_call 179; refine (H1.out _).mono ?_; rintro r wx ⟨rfl, hx⟩; have kx := Kp.step (by assumption) hx; have cx := kx.cell C0.out; clear hx)
  | (go_at_call 180; refine (H2.out _).mono ?_; rintro r wx ⟨rfl, hx⟩; have kx := Kp.step (by assumption) hx; have cx := kx.cell C0.out; clear hx)
  | (go_at_call 181; refine (H3.out _).mono ?_; rintro r wx ⟨rfl, hx⟩; have kx := Kp.step (by assumption) hx; have cx := kx.cell C0.out; clear hx)
  | (go_at_call 182; refine (H4.out _).mono ?_; rintro r wx ⟨rfl, hx⟩; have kx := Kp.step (by assumption) hx; have cx := kx.cell C0.out; clear hx)
  | (go_guarded; (with_reducible apply wp_load_ob (k := by assumption) (hs := HS.out)); rfl; rfl))
  all_goals
   go_ret
   exact ⟨ret_bool (by rw [HZ.out]; simp [*]), Kp.below (by assumption)⟩
 ·
  go_enter Tryz.func150, Tryz.ntmps150
  go_wp2_with (first
  | (go_at_call 179; refine (H1.out _).mono ?_; rintro r wx ⟨rfl, hx⟩; have kx := Kp.step (by assumption) hx; have cx := kx.cell C0.out; clear hx)
  | (go_at_call 180; refine (H2.out _).mono ?_; rintro r wx ⟨rfl, hx⟩; have kx := Kp.step (by assumption) hx; have cx := kx.cell C0.out; clear hx)
  | (go_at_call 181; refine (H3.out _).mono ?_; rintro r wx ⟨rfl, hx⟩; have kx := Kp.step (by assumption) hx; have cx := kx.cell C0.out; clear hx)
  | (go_at_call 182; refine (H4.out _).mono ?_; rintro r wx ⟨rfl, hx⟩; have kx := Kp.step (by assumption) hx; have cx := kx.cell C0.out; clear hx)
  | (go_guarded; (with_reducible apply wp_load_ob (k := by assumption) (hs := HS.out)); rfl; rfl))
  all_goals
   go_ret
   exact ⟨ret_bool (by rw [HZ.out]; simp [*]), Kp.below (by assumption)⟩
 ·
  have m1 : (k == 1) = false := beq_eq_false_iff_ne.2 n1
  have m2 : (k == 2) = false := beq_eq_false_iff_ne.2 n2
  have m3 : (k == 3) = false := beq_eq_false_iff_ne.2 n3
  have m4 : (k == 4) = false := beq_eq_false_iff_ne.2 n4
  clear n1 n2 n3 n4
  go_enter Tryz.func150, Tryz.ntmps150
  go_wp2_with (first
  | (go_at_call 179; refine (H1.out _).mono ?_; rintro r wx ⟨rfl, hx⟩; have kx := Kp.step (by assumption) hx; have cx := kx.cell C0.out; clear hx)
  | (go_at_call 180; refine (H2.out _).mono ?_; rintro r wx ⟨rfl, hx⟩; have kx := Kp.step (by assumption) hx; have cx := kx.cell C0.out; clear hx)
  | (go_at_call 181; refine (H3.out _).mono ?_; rintro r wx ⟨rfl, hx⟩; have kx := Kp.step (by assumption) hx; have cx := kx.cell C0.out; clear hx)
  | (go_at_call 182; refine (H4.out _).mono ?_; rintro r wx ⟨rfl, hx⟩; have kx := Kp.step (by assumption) hx; have cx := kx.cell C0.out; clear hx)
  | (go_guarded; (with_reducible apply wp_load_ob (k := by assumption) (hs := HS.out)); rfl; rfl))
  all_goals
   go_ret
   exact ⟨ret_bool (by rw [HZ.out]; simp [*]), Kp.below (by assumption)⟩
end Go.Proofs.YtkcjhkfelaplkaaGreatDoor
end
section
namespace Go.Proofs.YtkcjhkfelaplkaaGreatDoor
open Go.RowKit
def badB (c : UInt8) : Bool := c == 0 || c == 47
def nameOk (s : ByteArray) : Bool := decide (1 ≤ s.size) && decide (s.size ≤ 40) && !s.data.toList.any badB
theorem badB_eq (c : UInt8) : badB c = (((c.toNat : Int) == 0) || ((c.toNat : Int) == 47)) := by
 have h0 : (c == 0) = ((c.toNat : Int) == 0) := by
  rw [Bool.eq_iff_iff, beq_iff_eq, beq_iff_eq, ← UInt8.toNat_inj]; simp
 have h1 : (c == 47) = ((c.toNat : Int) == 47) := by
  rw [Bool.eq_iff_iff, beq_iff_eq, beq_iff_eq, ← UInt8.toNat_inj]; simp; omega
 rw [badB, h0, h1]
theorem refname_any (s : ByteArray) (w : World) (hs : s.size ≤ maxLen) :
  Calls Tryz.prog 133 #[.string s] w fun r w' => r = .returned (.bool (nameOk s)) ∧ w = w' := by
 unfold maxLen at hs
 have HZ := Lib.hid (show nameOk s = (decide (1 ≤ s.size) && decide (s.size ≤ 40) && !s.data.toList.any badB) from rfl)
 generalize nameOk s = z at HZ
 go_enter Tryz.func133, Tryz.ntmps133
 go_wp2
 go_loop [3] (fun i => ∃ k : Nat, k ≤ s.size ∧ i = .int .i64 k ∧ Hid ((s.data.toList.take k).any badB = false)) (fun i => s.size - (intOf i).toNat)
 case atStart => exact ⟨0, Nat.zero_le _, rfl, by simp [Hid]⟩
 case round =>
  obtain ⟨k, hk, rfl, HN⟩ := hrel
  by_cases hlt : k < s.size
  ·
   have hts : s.data.toList.take (k + 1) = s.data.toList.take k ++ [s[k]] := by
    rw [List.take_succ_eq_append_getElem (by simpa using hlt)]; rfl
   have hbb := badB_eq s[k]
   have hmem : s[k] ∈ s.data.toList := by
    have : s[k] = s.data.toList[k]'(by simpa using hlt) := rfl
    rw [this]; exact List.getElem_mem _
   cases hb : badB s[k] with
   | true =>
     rw [hb] at hbb
     have HZ2 := Lib.hid (show z = false by
      rw [HZ.out]
      have : s.data.toList.any badB = true := List.any_eq_true.2 ⟨_, hmem, hb⟩
      simp [this])
     have HB := Lib.hid hbb
     clear hts hmem hb hbb
     rcases (Bool.or_eq_true _ _).mp HB.out.symm with h0 | h0
     ·
      go_wp2
      go_ret
      exact ⟨ret_bool HZ2.out.symm, rfl⟩
     ·
      by_cases h1 : (((s[k]).toNat : Int) == 0) = true
      ·
       go_wp2
       go_ret
       exact ⟨ret_bool HZ2.out.symm, rfl⟩
      ·
       have h1' := Bool.not_eq_true _ ▸ h1
       go_wp2
       go_ret
       exact ⟨ret_bool HZ2.out.symm, rfl⟩
   | false =>
     rw [hb] at hbb
     have h2 := (Bool.or_eq_false_iff.mp hbb.symm)
     obtain ⟨h0, h1⟩ := h2
     have HN2 := Lib.hid (show (s.data.toList.take (k + 1)).any badB = false by rw [hts, List.any_append, HN.out]; simp [hb])
     clear hts hmem hb hbb
     go_wp2
     go_round
     case rel => exact ⟨k + 1, by omega, by go_num, HN2⟩
     case measure => simp [intOf]; omega
  ·
   have HN2 := Lib.hid (show s.data.toList.any badB = false by
    have := HN.out
    rwa [List.take_of_length_le (by simp; omega)] at this)
   go_wp2
   all_goals
    go_ret
    exact ⟨ret_bool (by rw [HZ.out, HN2.out, Bool.eq_iff_iff]; simp; try omega), rfl⟩
theorem index_neg : ∀ (l : List UInt8) (c : UInt8), Lib.indexByte l c < 0 ↔ l.any (· == c) = false
 | [], c => by simp [Lib.indexByte]
 | x :: r, c => by
   have ih := index_neg r c
   have hg := Lib.indexByte_ge r c
   have e : Lib.indexByte (x :: r) c = if x == c then 0 else if Lib.indexByte r c == -1 then -1 else Lib.indexByte r c + 1 := rfl
   rw [e, List.any_cons]
   generalize Lib.indexByte r c = y at *
   generalize r.any (· == c) = b at *
   cases hx : (x == c)
   ·
    by_cases hy : y = -1
    · subst hy; simpa using ih
    ·
     have hy' : (y == -1) = false := by simpa using hy
     simp only [hy', Bool.false_eq_true, if_false, Bool.false_or]
     rw [← ih]; omega
   · simp
theorem any_bad : ∀ l : List UInt8, l.any badB = (l.any (· == 0) || l.any (· == 47))
 | [] => rfl
 | x :: r => by
   have ih := any_bad r
   simp only [List.any_cons, ih, badB]
   cases (x == 0) <;> cases (x == 47) <;> simp
theorem name_any (s : ByteArray) (w : World) (hs : s.size ≤ maxLen) :
  Calls Tryz.prog 153 #[.string s] w fun r w' => r = .returned (.bool (nameOk s)) ∧ w = w' := by
 unfold maxLen at hs
 have HZ := Lib.hid (show nameOk s = (decide (1 ≤ s.size) && decide (s.size ≤ 40) && !(s.data.toList.any (· == 0) || s.data.toList.any (· == 47))) by rw [← any_bad]; rfl)
 generalize nameOk s = z at HZ
 have I0 := Lib.hid (Tryz.strings_IndexByte s 0 w)
 have I1 := Lib.hid (Tryz.strings_IndexByte s 47 w)
 have N0 := Lib.hid (index_neg s.data.toList (Int.toNat 0).toUInt8)
 have N1 := Lib.hid (index_neg s.data.toList (Int.toNat 47).toUInt8)
 have e0 : (Int.toNat 0).toUInt8 = 0 := rfl
 have e1 : (Int.toNat 47).toUInt8 = 47 := rfl
 rw [e0] at I0 N0
 rw [e1] at I1 N1
 clear e0 e1
 generalize Lib.indexByte s.data.toList 0 = x0 at I0 N0
 generalize Lib.indexByte s.data.toList 47 = x1 at I1 N1
 generalize s.data.toList.any (· == 0) = b0 at HZ N0
 generalize s.data.toList.any (· == 47) = b1 at HZ N1
 go_enter Tryz.func153, Tryz.ntmps153
 go_wp2_with (first
  | (go_at_call 183; ((with_reducible refine I0.out.mono ?_); rintro e w' ⟨rfl, rfl⟩))
  | (go_at_call 183; ((with_reducible refine I1.out.mono ?_); rintro e w' ⟨rfl, rfl⟩)))
 all_goals
  go_ret
  refine ⟨ret_bool ?_, rfl⟩
  have n0 := N0.out
  have n1 := N1.out
  rw [HZ.out, Bool.eq_iff_iff]
  cases b0 <;> cases b1 <;> simp_all <;> omega
end Go.Proofs.YtkcjhkfelaplkaaGreatDoor
end
section
namespace Go.Proofs.YtkcjhkfelaplkaaGreatDoor
open Go.RowKit
theorem ensize {e : En} (h : e.id.length = 32) : (Tryz.prog.info? 178).map (·.size) = some (enC e).length := by rw [enC_length, h]; exact info45
section
variable {ops : Array Oper} {rest : List Oper} {op : Oper} {a : Act} {w : World} {Q : Exit → Act → World → Prop} {K : Act → World → Prop} {x y : Operand} {p : Addr}
theorem ld_en {e : En} (ho : op.op = .load 178 x) (hx : a.eval x = .pointer (some p)) (hg : op.guard = none) (hc : ∀ j v, (enC e)[j]? = some v → w.cell? (p.add j) = some v) (hid : e.id.length = 32)
  (h : wpList Tryz.prog ops Q rest (a.put op.dst (.agg (enC e).toArray)) w) : wpList Tryz.prog ops Q (op :: rest) a w :=
 wpList_load_at hg 178 x ho p hx _ _ hc under45 rfl (ensize hid) h
theorem ld_id {l : List UInt8} (ho : op.op = .load 46 x) (hx : a.eval x = .pointer (some p)) (hg : op.guard = none) (hc : ∀ j v, (idC l)[j]? = some v → w.cell? (p.add j) = some v) (hl : l.length = 32)
  (h : wpList Tryz.prog ops Q rest (a.put op.dst (.agg (idC l).toArray)) w) : wpList Tryz.prog ops Q (op :: rest) a w :=
 wpList_load_at hg 46 x ho p hx _ _ hc Tryz.underlying46 rfl (idsize hl) h
theorem ld_idm {l : List UInt8} {b o : Nat} (ho : op.op = .load 46 x) (hx : a.eval x = .pointer (some ⟨b, o, none⟩)) (hg : op.guard = none) (hc : w.rangeAt b o (idC l)) (hl : l.length = 32)
  (h : wpList Tryz.prog ops Q rest (a.put op.dst (.agg (idC l).toArray)) w) : wpList Tryz.prog ops Q (op :: rest) a w :=
 wpList_load_mid hg 46 x ho b o hx _ _ hc Tryz.underlying46 rfl (idsize hl) h
theorem st_new {t : TypeId} {c cs : Array Value} (n : Nat) (ho : op.op = .store t x y) (hx : a.eval x = .pointer (some ⟨w.heap.size, 0, none⟩)) (hy : a.eval y = .agg cs) (hg : op.guard = none) (hc : c.size = n)
  (hi : (Tryz.prog.info? t).map (·.size) = some n) (hs : cs.size = n) (h1 : cs.all (·.oneCell') = true)
  (h : wpList Tryz.prog ops Q rest (a.put op.dst undef) (w.alloc (.cells cs t))) : wpList Tryz.prog ops Q (op :: rest) a (w.alloc (.cells c t)) := by
 refine wpList_store_row hg t x y ho w.heap.size cs hx hy t c (heap_alloc_last w _) (by rw [hs]; exact hi) (by rw [hc, hs]) h1 ?_
 rw [World.setRow_alloc_new]
 exact h
theorem st_en {e : En} {c : Array Value} (ho : op.op = .store 178 x y) (hx : a.eval x = .pointer (some ⟨w.heap.size, 0, none⟩)) (hy : a.eval y = .agg (enC e).toArray) (hg : op.guard = none) (hc : c.size = 34) (hid : e.id.length = 32)
  (h : wpList Tryz.prog ops Q rest (a.put op.dst undef) (w.alloc (.cells (enC e).toArray 178))) : wpList Tryz.prog ops Q (op :: rest) a (w.alloc (.cells c 178)) :=
 st_new 34 ho hx hy hg hc info45 (by simp [enC_length, hid]) (all_oneCell_toArray (enC_one e)) h
theorem st_id {l : List UInt8} {c : Array Value} (ho : op.op = .store 46 x y) (hx : a.eval x = .pointer (some ⟨w.heap.size, 0, none⟩)) (hy : a.eval y = .agg (idC l).toArray) (hg : op.guard = none) (hc : c.size = 32) (hl : l.length = 32)
  (h : wpList Tryz.prog ops Q rest (a.put op.dst undef) (w.alloc (.cells (idC l).toArray 46))) : wpList Tryz.prog ops Q (op :: rest) a (w.alloc (.cells c 46)) :=
 st_new 32 ho hx hy hg hc info24 (by simp [idC_length, hl]) (all_oneCell_toArray (idC_one l)) h
theorem st_ob {cs c : Array Value} (ho : op.op = .store 59 x y) (hx : a.eval x = .pointer (some ⟨w.heap.size, 0, none⟩)) (hy : a.eval y = .agg cs) (hg : op.guard = none) (hc : c.size = 72) (hs : cs.size = 72) (h1 : cs.all (·.oneCell') = true)
  (h : wpList Tryz.prog ops Q rest (a.put op.dst undef) (w.alloc (.cells cs 59))) : wpList Tryz.prog ops Q (op :: rest) a (w.alloc (.cells c 59)) :=
 st_new 72 ho hx hy hg hc info28 hs h1 h
end
theorem ent_cells {w : World} {ao : Option Addr} {n cap : Nat} {es : List En} (h : RowsAt w (.slice ao n cap) 34 (es.map enC)) (i : Nat) (e : En) (hi : es[i]? = some e) :
  ∃ a, ao = some a ∧ ∀ j x, (enC e)[j]? = some x → w.cell? ((a.add (i * 34)).add j) = some x := by
 obtain ⟨a, h1, _, h3⟩ := h.elem i (enC e) (by simp [hi])
 exact ⟨a, h1, h3⟩
theorem par_cells {w : World} {ao : Option Addr} {n cap : Nat} {ps : List (List UInt8)} (h : RowsAt w (.slice ao n cap) 32 (ps.map idC)) (i : Nat) (l : List UInt8) (hi : ps[i]? = some l) :
  ∃ a, ao = some a ∧ ∀ j x, (idC l)[j]? = some x → w.cell? ((a.add (i * 32)).add j) = some x := by
 obtain ⟨a, h1, _, h3⟩ := h.elem i (idC l) (by simp [hi])
 exact ⟨a, h1, h3⟩
theorem id_rid {l : List UInt8} {w : World} {g : Nat} {t : TypeId} (h : w.heap[g]? = some (.cells (idC l).toArray t)) : w.rangeAt g 0 (idC l) := fun j v hv => by
 rw [cell_of_row _ _ _ _ t (0, 0) h]
 simpa using hv
theorem conv_idm (w : World) (b o : Nat) (l : List UInt8) (h : l.length = 32) (hc : w.rangeAt b o (idC l)) :
  (convert 23 9 (.slice (some ⟨b, o, none⟩) 32 32)).run Tryz.prog w = .ok (.string ⟨l.toArray⟩) w :=
 conv_id w ⟨b, o, none⟩ l h (fun j v hv => by rw [Addr.add_mid]; exact hc j v hv)
end Go.Proofs.YtkcjhkfelaplkaaGreatDoor
end
end
