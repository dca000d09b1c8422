/-
  WALKS OF LAYER 5: the map of places, findMatch, keepPlace, literalStep, matchStep.
-/
import Derived.Test.YtkifjobmomfofaaWalksG
import Derived.Test.YtkifjobmomfofaaMath2
import Derived.Maps.OwnSet
import Derived.IntWalk
namespace Go.Proofs.Ytkifjobmomfofaa
open Go.RowKit Go.WideMaps Go.Maps
set_option linter.unusedVariables false
set_option linter.unusedSimpArgs false

theorem keyLaw : Keyed Try.prog 9 := string_keyed Try.underlying9
theorem zeroInt (w : World) : (zeroValue 3).run Try.prog w = .ok (.int .i64 0) w := by kernel_rfl

/-- Block b is a map from four bytes to a place, of at most n entries: M. -/
structure Mp (w : World) (b n : Nat) (M : List UInt8 → Option Nat) : Prop where
  out : ∃ D : DataW Unit, w.ownsMap Try.prog 9 (plainElem Try.prog 3) b n D ∧ Maps.IsMap D ∧ ∀ key, Maps.has D (.string key) = (M key).isSome ∧ D.atKey (.string key) (.lit (.int .i64 0)) = .lit (.int .i64 (((M key).getD 0 : Nat) : Int))

def upd (M : List UInt8 → Option Nat) (k : List UInt8) (p : Nat) : List UInt8 → Option Nat := fun x => if x = k then some p else M x

theorem Mp.made (w : World) : Mp (w.alloc (.map #[] 0)) w.heap.size 0 (fun _ => none) :=
  ⟨.map [], World.ownsMap_made _ _ _ _, Maps.isMap_empty, fun key => ⟨rfl, rfl⟩⟩
theorem Mp.kept {w w' : World} {b n : Nat} {M : List UInt8 → Option Nat} {row : Option Nat} (h : Mp w b n M) (hg : w.grownBy w' row) (hne : some b ≠ row) : Mp w' b n M := by
  obtain ⟨D, h1, h2⟩ := h.out
  exact ⟨D, h1.kept hg hne, h2⟩
theorem Mp.drewN {w : World} {b n : Nat} {M : List UInt8 → Option Nat} (h : Mp w b n M) (k : Nat) : Mp (w.drewN k) b n M := by
  obtain ⟨D, h1, h2⟩ := h.out
  exact ⟨D, h1, h2⟩
theorem Mp.lt {w : World} {b n : Nat} {M : List UInt8 → Option Nat} (h : Mp w b n M) : b < w.heap.size := by
  obtain ⟨D, h1, h2⟩ := h.out
  exact h1.lt

section
variable (w : World) {ops : Array Oper} {rest : List Oper} {o : Oper} {a : Act} {Q : Exit → Act → World → Prop}
theorem wpList_look_none (hg : o.guard = none) (m x : Operand) (hop : o.op = Op.lookup 45 m x true) (b n : Nat) (M : List UInt8 → Option Nat)
    (hm : a.eval m = .map (some b)) (hM : Mp w b n M) (s : ByteArray) (hx : a.eval x = .string s) (hs : s.size ≤ maxLen) (hq : M s.data.toList = none)
    (hK : wpList Try.prog ops Q rest (a.put o.dst (.tuple #[.int .i64 0, .bool false])) w) : wpList Try.prog ops Q (o :: rest) a w := by
  obtain ⟨D, h1, h2, h3⟩ := hM.out
  refine wpList_lookup_own_ok_int w hg m x 45 hop 9 3 .i64 keyLaw Try.underlying45 Try.underlying3 (zeroInt w) b n D hm h1 (.string s) (.string s.data.toList) hx (keyOf_string_mk Try.underlying9 hs) ?_
  intro c hat _
  obtain ⟨e1, e2⟩ := h3 s.data.toList
  rw [hq] at e1 e2
  rw [e2] at hat
  simp at hat
  subst hat
  rw [e1]
  exact hK
theorem wpList_look_some (hg : o.guard = none) (m x : Operand) (hop : o.op = Op.lookup 45 m x true) (b n : Nat) (M : List UInt8 → Option Nat)
    (hm : a.eval m = .map (some b)) (hM : Mp w b n M) (s : ByteArray) (hx : a.eval x = .string s) (hs : s.size ≤ maxLen) (p : Nat) (hq : M s.data.toList = some p)
    (hK : wpList Try.prog ops Q rest (a.put o.dst (.tuple #[.int .i64 p, .bool true])) w) : wpList Try.prog ops Q (o :: rest) a w := by
  obtain ⟨D, h1, h2, h3⟩ := hM.out
  refine wpList_lookup_own_ok_int w hg m x 45 hop 9 3 .i64 keyLaw Try.underlying45 Try.underlying3 (zeroInt w) b n D hm h1 (.string s) (.string s.data.toList) hx (keyOf_string_mk Try.underlying9 hs) ?_
  intro c hat _
  obtain ⟨e1, e2⟩ := h3 s.data.toList
  rw [hq] at e1 e2
  rw [e2] at hat
  simp at hat
  subst hat
  rw [e1]
  exact hK
theorem wpList_keep (hg : o.guard = none) (m x v : Operand) (hop : o.op = Op.mapUpdate 45 m x v) (b n : Nat) (M : List UInt8 → Option Nat)
    (hm : a.eval m = .map (some b)) (hM : Mp w b n M) (hn : n < maxLen) (s : ByteArray) (hx : a.eval x = .string s) (hs : s.size ≤ maxLen) (p : Nat) (hv : a.eval v = .int .i64 p) (hp : p ≤ 9223372036854775807)
    (hK : ∀ w', Mp w' b (n + 1) (upd M s.data.toList p) → w.grownBy w' (some b) → wpList Try.prog ops Q rest (a.put o.dst undef) w') : wpList Try.prog ops Q (o :: rest) a w := by
  obtain ⟨D, h1, h2, h3⟩ := hM.out
  refine wpList_mapUpdate_own w hg m x v 45 hop 9 3 keyLaw Try.underlying45 _ b n D hm h1 hn (.string s) (.int .i64 p) (.string s.data.toList) hx hv (keyOf_string_mk Try.underlying9 hs) _ [] (plainElem_int Try.underlying3 (WalkArith.wf_i64 (by omega))) ?_
  intro w' hown hgrow
  refine hK w' ⟨_, hown, h2.put _ _, fun key => ?_⟩ hgrow
  unfold upd
  by_cases hk : key = s.data.toList
  · subst hk
    rw [if_pos rfl]
    exact ⟨Maps.has_put_same h2 (show WideAt.IsKeyLit (.string s.data.toList) from trivial) _, Maps.atKey_put_same h2 (show WideAt.IsKeyLit (.string s.data.toList) from trivial) _ _⟩
  · rw [if_neg hk]
    have hne : (Lit.string key) ≠ Lit.string s.data.toList := fun e => hk (by injection e)
    rw [Maps.has_put_other hne, Maps.atKey_put_other hne]
    exact h3 key
end

theorem at_list_D (s : ByteArray) (k : Nat) (h : k < s.size) : s.data.toList.getD k 0 = s[k] := Lz.getD_at _ _ (by rw [size_list]; exact h)

theorem drewN_add (w : World) (a b : Nat) : (w.drewN a).drewN b = w.drewN (a + b) := by simp [World.drewN, Nat.add_assoc]

/-- What findMatch found: nothing, or a match, as long as it is alike. -/
def FndOk (l : List UInt8) (p : Nat) (q : Option Nat) (c f : Nat) : Prop :=
  (c = 0 ∧ ∀ x, q = some x → p + 4 ≤ l.length → 65535 < p - x) ∨
  (4 ≤ c ∧ p + c ≤ l.length ∧ 1 ≤ f ∧ f ≤ 65535 ∧ f ≤ p ∧ (∀ i, i < c → l.getD (p - f + i) 0 = l.getD (p + i) 0) ∧ (p + c < l.length → l.getD (p - f + c) 0 ≠ l.getD (p + c) 0) ∧ q = some (p - f))
def Fnd (l : List UInt8) (p : Nat) (q : Option Nat) (w : World) (r : Ending) (w' : World) : Prop :=
  ∃ c f : Nat, r = .returned (.tuple #[.int .i64 c, .int .i64 f]) ∧ (∃ n, w' = w.drewN n) ∧ FndOk l p q c f

theorem four_of {l : List UInt8} {x p : Nat} (h : (l.drop x).take 4 = (l.drop p).take 4) : ∀ i, i < 4 → l.getD (x + i) 0 = l.getD (p + i) 0 := fun i hi => by
  have := congrArg (·.getD i 0) h
  simp only [List.getD_eq_getElem?_getD, List.getElem?_take, if_pos hi, List.getElem?_drop] at this ⊢
  exact this

set_option maxHeartbeats 800000 in
set_option maxRecDepth 100000 in
theorem findMatch_any (s : ByteArray) (p b n : Nat) (M : List UInt8 → Option Nat) (w : World) (hs : s.size ≤ 16777216) (hp : p ≤ s.size) (hM : Mp w b n M) (q : Option Nat) (hq : M ((s.data.toList.drop p).take 4) = q) (hI : ∀ x, q = some x → x < p ∧ (s.data.toList.drop x).take 4 = (s.data.toList.drop p).take 4) :
    Calls Try.prog 18 #[.string s, .int .i64 p, .map (some b)] w (Fnd s.data.toList p q w) := by
  by_cases h4 : (s.size : Int) - (p : Int) < 4
  · go_enter Try.func18, Try.ntmps18
    go_wp2_with fail
    go_ret2
    exact ⟨0, 0, rfl, ⟨0, rfl⟩, .inl ⟨rfl, fun x _ h => by rw [size_list] at h; omega⟩⟩
  · have hkey : (s.extract p (p + 4)).data.toList = (s.data.toList.drop p).take 4 := by rw [extract_list, show p + 4 - p = 4 by omega]
    have hks : (s.extract p (p + 4)).size ≤ maxLen := by unfold maxLen; simp; omega
    cases hqc : q with
    | none =>
      have HQ := Lib.hid (show M (s.extract p (p + 4)).data.toList = none by rw [hkey, hq, hqc])
      clear hq hI hqc hkey
      go_enter Try.func18, Try.ntmps18
      go_wp2_with (at_lookup; refine wpList_look_none _ rfl _ _ rfl b n M rfl hM _ rfl hks HQ.out ?_)
      go_ret2
      exact ⟨0, 0, rfl, ⟨0, rfl⟩, .inl ⟨rfl, fun x h => by cases h⟩⟩
    | some x =>
      obtain ⟨hxp, hx4⟩ := hI x hqc
      have HQ := Lib.hid (show M (s.extract p (p + 4)).data.toList = some x by rw [hkey, hq, hqc])
      have H4 := Lib.hid (four_of hx4)
      clear hq hI hqc hkey hx4
      by_cases hfar : (65535 : Int) < (p : Int) - (x : Int)
      · go_enter Try.func18, Try.ntmps18
        go_wp2_with (at_lookup; refine wpList_look_some _ rfl _ _ rfl b n M rfl hM _ rfl hks x HQ.out ?_)
        go_ret2
        exact ⟨0, 0, rfl, ⟨0, rfl⟩, .inl ⟨rfl, fun y h _ => by cases h; omega⟩⟩
      · go_enter Try.func18, Try.ntmps18
        go_wp2_with (at_lookup; refine wpList_look_some _ rfl _ _ rfl b n M rfl hM _ rfl hks x HQ.out ?_)
        go_loopw [6] (fun i wr => ∃ c k : Nat, i = .int .i64 c ∧ 4 ≤ c ∧ p + c ≤ s.size ∧ Hid (∀ i, i < c → s.data.toList.getD (x + i) 0 = s.data.toList.getD (p + i) 0) ∧ wr = w.drewN k) (fun i _ => s.size - (intOf i).toNat)
        case atStart => exact ⟨4, 0, rfl, by omega, by omega, H4, rfl⟩
        case round =>
          obtain ⟨c, k, rfl, hc4, hcs, HC, rfl⟩ := hrel
          by_cases hlt : (p : Int) + (c : Int) < (s.size : Int)
          · have hpc : p + c < s.size := by omega
            have hxc : x + c < s.size := by omega
            have hw1 : IntKind.i64.wrap ((p : Int) + (c : Int)) = (p : Int) + (c : Int) := IntWalk.i64_in _ (by omega)
            have hw2 : IntKind.i64.wrap ((x : Int) + (c : Int)) = (x : Int) + (c : Int) := IntWalk.i64_in _ (by omega)
            have hd : decide ((p : Int) + (c : Int) < (s.size : Int)) = true := by simpa using hlt
            have g1 : (0 : Int) ≤ (p : Int) + (c : Int) := by omega
            have g2 : (0 : Int) ≤ (x : Int) + (c : Int) := by omega
            have g3 : (x : Int) + (c : Int) < (s.size : Int) := by omega
            have t1 : ((p : Int) + (c : Int)).toNat = p + c := by omega
            have t2 : ((x : Int) + (c : Int)).toNat = x + c := by omega
            by_cases heq : s[x + c] = s[p + c]
            · have hbe : ((s[x + c].toNat : Int) == (s[p + c].toNat : Int)) = true := by rw [heq]; simp
              have HC2 : Hid (∀ i, i < c + 1 → s.data.toList.getD (x + i) 0 = s.data.toList.getD (p + i) 0) := fun i hi => by
                by_cases h : i = c
                · subst h; rw [at_list_D s _ hxc, at_list_D s _ hpc]; exact heq
                · exact HC.out i (by omega)
              clear heq HC
              go_wp2_with fail
              go_quiet (fail)
              go_wp2_with fail
              go_roundw
              case rel => exact ⟨c + 1, _, by go_num, by omega, by omega, HC2, by first | rfl | simp [World.drewN_drewN] | exact (drewN_add w k _)⟩
              case measure => simp [intOf]; omega
            · have hbe : ((s[x + c].toNat : Int) == (s[p + c].toNat : Int)) = false := by
                rw [beq_eq_false_iff_ne]; intro e; exact heq (UInt8.toNat_inj.1 (by omega))
              have HNE := Lib.hid heq
              clear heq
              go_wp2_with fail
              go_quiet (fail)
              go_wp2_with fail
              go_ret2
              refine ⟨c, p - x, ret_tuple2 rfl (val_int (by omega)), ⟨_, rfl⟩, .inr ⟨hc4, by rw [size_list]; omega, by omega, by omega, by omega, ?_, fun _ => ?_, by rw [show p - (p - x) = x by omega]⟩⟩
              · rw [show p - (p - x) = x by omega]; exact HC.out
              · rw [show p - (p - x) = x by omega, at_list_D s _ hxc, at_list_D s _ hpc]; exact HNE.out
          · have hw1 : IntKind.i64.wrap ((p : Int) + (c : Int)) = (p : Int) + (c : Int) := IntWalk.i64_in _ (by omega)
            have hd : decide ((p : Int) + (c : Int) < (s.size : Int)) = false := by simpa using hlt
            go_wp2_with fail
            go_quiet (fail)
            go_wp2_with fail
            go_ret2
            refine ⟨c, p - x, ret_tuple2 rfl (val_int (by omega)), ⟨_, rfl⟩, .inr ⟨hc4, by rw [size_list]; omega, by omega, by omega, by omega, ?_, fun h => ?_, by rw [show p - (p - x) = x by omega]⟩⟩
            · rw [show p - (p - x) = x by omega]; exact HC.out
            · rw [size_list] at h; omega

/-- What keepPlace makes of the map. -/
def keptM (l : List UInt8) (p : Nat) (M : List UInt8 → Option Nat) : List UInt8 → Option Nat := if p + 4 ≤ l.length then upd M ((l.drop p).take 4) p else M

theorem Mp.mono {w : World} {b n n' : Nat} {M : List UInt8 → Option Nat} (h : Mp w b n M) (hn : n ≤ n') : Mp w b n' M := by
  obtain ⟨D, h1, h2⟩ := h.out
  exact ⟨D, h1.mono hn, h2⟩

set_option maxHeartbeats 800000 in
set_option maxRecDepth 100000 in
theorem keepPlace_any (s : ByteArray) (p b n : Nat) (M : List UInt8 → Option Nat) (w : World) (hs : s.size ≤ 16777216) (hp : p ≤ s.size) (hn : n ≤ 16777216) (hM : Mp w b n M) :
    Calls Try.prog 19 #[.string s, .int .i64 p, .map (some b)] w fun r w' => r = .returned (.tuple #[]) ∧ Mp w' b (n + 1) (keptM s.data.toList p M) ∧ w.grownBy w' (some b) := by
  unfold keptM
  rw [size_list]
  by_cases h4 : (4 : Int) ≤ (s.size : Int) - (p : Int)
  · rw [if_pos (by omega)]
    have hkey : (s.extract p (p + 4)).data.toList = (s.data.toList.drop p).take 4 := by rw [extract_list, show p + 4 - p = 4 by omega]
    have hks : (s.extract p (p + 4)).size ≤ maxLen := by unfold maxLen; simp; omega
    have HK := Lib.hid hkey
    clear hkey
    go_enter Try.func19, Try.ntmps19
    go_wp2_with (at_mapUpdate; refine wpList_keep _ rfl _ _ _ rfl b n M rfl hM (by unfold maxLen; omega) _ rfl hks p rfl (by omega) ?_; intro w1 hM1 hg1)
    go_end0
    exact ⟨rfl, by rw [← HK.out]; exact hM1, hg1⟩
  · rw [if_neg (by omega)]
    go_enter Try.func19, Try.ntmps19
    go_wp2_with fail
    go_end0
    exact ⟨rfl, hM.mono (by omega), ⟨rfl, rfl, rfl, Nat.le_refl _, fun _ _ _ => rfl⟩⟩

def litE (t : List UInt8) : List UInt8 := if t = [] then [] else (Lz.Ins.lit t).enc
/-- A call that gave back a string of these bytes. -/
def Str (l : List UInt8) (w : World) (r : Ending) (w' : World) : Prop := ∃ b : ByteArray, r = .returned (.string b) ∧ b.data.toList = l ∧ Below w.heap.size w w'

set_option maxHeartbeats 800000 in
set_option maxRecDepth 100000 in
theorem literalStep_any (t : ByteArray) (w : World) (ht : t.size ≤ 16777216) :
    Calls Try.prog 20 #[.string t] w (Str (litE t.data.toList) w) := by
  unfold litE
  by_cases hx : t = ByteArray.empty
  · subst hx
    rw [if_pos (show ByteArray.empty.data.toList = [] from rfl)]
    go_enter Try.func20, Try.ntmps20
    go_wp2_with fail
    go_ret
    exact ⟨_, rfl, rfl, Below.refl _ _⟩
  · rw [if_neg (list_ne hx)]
    have hse : t.toList.isEmpty = false := by have := not_empty hx; simpa using this
    have hw3 : IntKind.u64.wrap (t.size : Int) = (t.size : Int) := u64_wrap_id _ (by omega) (by omega)
    have hw4 : IntKind.u64.wrap (2 * (t.size : Int)) = 2 * (t.size : Int) := u64_wrap_id _ (by omega) (by omega)
    have hl := Lib.uvarint_length64 (x := 2 * t.size) (by omega)
    have hsl := size_list t
    have HS := Lib.hid hsl
    clear hsl
    have hput : Calls Try.prog 24 #[.int .u64 (2 * (t.size : Int))] w fun r w' => r = .returned (.string ⟨(Lib.uvarint (2 * t.size)).toArray⟩) ∧ Below w.heap.size w w' := put_any (2 * t.size) w (by omega)
    have HP := Lib.hid hput
    clear hput
    go_enter Try.func20, Try.ntmps20
    go_wp2_with fail
    refine HP.out.mono ?_
    rintro e w1 ⟨rfl, hb⟩
    go_wp2_with fail
    go_ret
    exact ⟨_, rfl, by simp [ByteArray.data_append, Lz.Ins.enc], hb⟩

set_option maxHeartbeats 800000 in
set_option maxRecDepth 100000 in
theorem matchStep_any (c f : Nat) (w : World) (hc : c ≤ 16777216) (hf : f ≤ 16777216) :
    Calls Try.prog 21 #[.int .i64 c, .int .i64 f] w (Str ((Lz.Ins.mat c f).enc) w) := by
  have hw1 : IntKind.u64.wrap (c : Int) = (c : Int) := u64_wrap_id _ (by omega) (by omega)
  have hw2 : IntKind.u64.wrap (2 * (c : Int)) = 2 * (c : Int) := u64_wrap_id _ (by omega) (by omega)
  have hw3 : IntKind.u64.wrap (2 * (c : Int) + 1) = 2 * (c : Int) + 1 := u64_wrap_id _ (by omega) (by omega)
  have hw4 : IntKind.u64.wrap (f : Int) = (f : Int) := u64_wrap_id _ (by omega) (by omega)
  have hl1 := Lib.uvarint_length64 (x := 2 * c + 1) (by omega)
  have hl2 := Lib.uvarint_length64 (x := f) (by omega)
  have hput : Calls Try.prog 24 #[.int .u64 (2 * (c : Int) + 1)] w fun r w' => r = .returned (.string ⟨(Lib.uvarint (2 * c + 1)).toArray⟩) ∧ Below w.heap.size w w' := put_any (2 * c + 1) w (by omega)
  have HP := Lib.hid hput
  clear hput
  go_enter Try.func21, Try.ntmps21
  go_wp2_with fail
  refine HP.out.mono ?_
  rintro e w1 ⟨rfl, hb⟩
  go_wp2_with fail
  refine (put_any f _ (by omega)).mono ?_
  rintro e w2 ⟨rfl, hb2⟩
  go_wp2_with fail
  go_ret
  exact ⟨_, rfl, by simp [ByteArray.data_append, Lz.Ins.enc], below_step hb hb2⟩

end Go.Proofs.Ytkifjobmomfofaa
