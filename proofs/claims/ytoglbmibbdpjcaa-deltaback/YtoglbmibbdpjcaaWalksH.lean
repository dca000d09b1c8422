/-
  WALKS OF LAYER 6: longest.
-/
import Derived.Test.YtoglbmibbdpjcaaWalksG
import Derived.StillTailTactics
namespace Go.Proofs.Ytoglbmibbdpjcaa
open Go.RowKit Go.WideMaps Go.Maps
set_option linter.unusedVariables false
set_option linter.unusedSimpArgs false

theorem Mp.run_none {w : World} {b n : Nat} {M : List UInt8 → Option Nat} (hM : Mp w b n M) (s : ByteArray) (hs : s.size ≤ maxLen) (hq : M s.data.toList = none) :
    (Instr.lookup 52 (.map (some b)) (.string s) true).run Try.prog w = .ok (.tuple #[.int .i64 0, .bool false]) w := by
  obtain ⟨D, h1, h2, h3⟩ := hM.out
  obtain ⟨v, ps, hr, hv⟩ := h1.look_ok keyLaw Try.underlying52 (zeroInt w) (plainElem_int Try.underlying3 (by decide)) (keyOf_string_mk Try.underlying9 hs)
  obtain ⟨e1, e2⟩ := h3 s.data.toList
  rw [hq] at e1 e2
  obtain ⟨c, rfl, hc, _⟩ := plainElem_int_inv Try.underlying3 hv
  have hc' := congrArg Prod.fst hc
  simp only at hc'
  rw [e2] at hc'
  simp at hc'
  subst hc'
  rw [hr, e1]; rfl
theorem Mp.run_some {w : World} {b n : Nat} {M : List UInt8 → Option Nat} (hM : Mp w b n M) (s : ByteArray) (hs : s.size ≤ maxLen) (p : Nat) (hq : M s.data.toList = some p) :
    (Instr.lookup 52 (.map (some b)) (.string s) true).run Try.prog w = .ok (.tuple #[.int .i64 p, .bool true]) w := by
  obtain ⟨D, h1, h2, h3⟩ := hM.out
  obtain ⟨v, ps, hr, hv⟩ := h1.look_ok keyLaw Try.underlying52 (zeroInt w) (plainElem_int Try.underlying3 (by decide)) (keyOf_string_mk Try.underlying9 hs)
  obtain ⟨e1, e2⟩ := h3 s.data.toList
  rw [hq] at e1 e2
  obtain ⟨c, rfl, hc, _⟩ := plainElem_int_inv Try.underlying3 hv
  have hc' := congrArg Prod.fst hc
  simp only at hc'
  rw [e2] at hc'
  simp at hc'
  subst hc'
  rw [hr, e1]; rfl

/-- What longest has found so far. -/
structure Lf (base text : List UInt8) (f c : Nat) : Prop where
  le : c ≤ text.length
  fit : f + c ≤ base.length
  same : (base.drop f).take c = text.take c
theorem Lf.zero (base text : List UInt8) : Lf base text 0 0 := ⟨Nat.zero_le _, Nat.zero_le _, rfl⟩
theorem Lf.com {base text : List UInt8} {a : Nat} (ha : a ≤ base.length) : Lf base text a (Dl.com (base.drop a) text) := by
  obtain ⟨h1, h2, h3⟩ := Dl.com_take (base.drop a) text
  rw [List.length_drop] at h2
  exact ⟨h3, by omega, h1⟩
def Lo (base text : List UInt8) (c k : Nat) (a : Int) : Prop := base = text → 4 ≤ base.length → (k = 0 ∧ a = 0) ∨ c = base.length

/-- The end of longest. -/
def Lgd (base text : List UInt8) (w : World) (r : Ending) (w' : World) : Prop :=
  ∃ f c : Nat, r = .returned (.tuple #[.int .i64 f, .int .i64 c]) ∧ Dl.Lg base text f c ∧ Below w.heap.size w w'

theorem Lf.lg {base text : List UInt8} {f c : Nat} (h : Lf base text f c) (ho : base = text → 4 ≤ base.length → c = base.length) : Dl.Lg base text f c := ⟨h.le, h.fit, h.same, ho⟩

theorem Nx.drewN {w : World} {g n : Nat} (h : Nx w g n) (k : Nat) : Nx (w.drewN k) g n := h.of_block rfl
theorem Nx.alloc {w : World} {g n : Nat} (h : Nx w g n) (o : Obj) : Nx (w.alloc o) g n := h.of_block (Deep.blk_alloc_lt _ _ _ h.lt)

set_option maxHeartbeats 800000 in
set_option maxRecDepth 100000 in
theorem longest_any (base text : ByteArray) (b g n : Nat) (w : World) (hbs : base.size ≤ 16777216) (hts : text.size ≤ 16777216) (hn : base.size - 3 = n) (hP : Pw w b g base.data.toList) :
    Calls Try.prog 23 #[plV b g n, .string base, .string text] w (Lgd base.data.toList text.data.toList w) := by
  have HLB := Lib.hid (size_list base)
  have HLT := Lib.hid (size_list text)
  obtain ⟨⟨M, cM, hM, hPm⟩, hnx⟩ := hP
  rw [HLB.out, hn] at hnx
  unfold plV
  by_cases h4 : (text.size : Int) < 4
  · clear hM hPm hnx
    go_enter Try.func23, Try.ntmps23
    go_wp2_with fail
    go_ret2
    exact ⟨0, 0, rfl, (Lf.zero _ _).lg (fun he hl => by rw [he, HLT.out] at hl; omega), (Below.refl _ _).alloc (Nat.le_refl _) _⟩
  · have hkey : (text.extract 0 4).data.toList = text.data.toList.take 4 := by rw [extract_list]; simp
    have hks : (text.extract 0 4).size ≤ maxLen := by unfold maxLen; simp; omega
    have hP0 : base.data.toList = text.data.toList → 4 ≤ base.data.toList.length → M (text.extract 0 4).data.toList = some 0 := fun he hl => by
      rw [hkey, ← he]
      have := hPm.at1 0 (by omega) (by omega)
      simpa using this
    have hMa := fun m => (hM.alloc (.cells #[.map (some b), .slice (some ⟨g, 0, none⟩) n n] 55)).drewN m
    cases hq : M (text.extract 0 4).data.toList with
    | none =>
      have HQ := Lib.hid hq
      have HP0 := Lib.hid hP0
      have hlk := fun m => (hMa m).run_none _ hks hq
      clear hq hM hPm hnx hP0 hkey
      go_enter Try.func23, Try.ntmps23
      go_wp2_with fail
      clear hMa
      go_quiet (fail)
      go_wp2_with fail
      go_ret2
      exact ⟨0, 0, rfl, (Lf.zero _ _).lg (fun he hl => by have := HP0.out he hl; rw [HQ.out] at this; cases this), below_drewN ((Below.refl _ _).alloc (Nat.le_refl _) _) _⟩
    | some p =>
      have hp := hPm.lt _ _ hq
      rw [HLB.out, hn] at hp
      have HP0 : Hid (base.data.toList = text.data.toList → 4 ≤ base.data.toList.length → p = 0) := fun he hl => by
        have := hP0 he hl; rw [hq] at this; cases this; rfl
      have HQ := Lib.hid hq
      have hlk := fun m => (hMa m).run_some _ hks p hq
      clear hq hM hPm hP0 hkey
      have HNX := Lib.hid hnx
      have hgl := hnx.lt
      clear hnx hMa
      go_enter Try.func23, Try.ntmps23
      go_wp2_with fail
      go_quiet (fail)
      go_wp2_with fail
      go_loopw [6, 7, 8, 10] (fun u6 u7 u8 u10 wr => ∃ (f c k m : Nat) (a : Int), u6 = .int .i64 f ∧ u7 = .int .i64 c ∧ u8 = .int .i64 a ∧ u10 = .int .i64 k ∧ k ≤ 32 ∧ (a = -1 ∨ (0 ≤ a ∧ a < (n : Int))) ∧ Hid (Lf base.data.toList text.data.toList f c) ∧ Hid (Lo base.data.toList text.data.toList c k a) ∧ wr = (w.alloc (.cells #[.map (some b), .slice (some ⟨g, 0, none⟩) n n] 55)).drewN m) (fun _ _ _ u10 _ => 32 - (intOf u10).toNat)
      case atStart => exact ⟨0, 0, 0, _, (p : Int), rfl, rfl, rfl, rfl, by omega, .inr ⟨by omega, by omega⟩, Lf.zero _ _, fun he hl => .inl ⟨rfl, by have := HP0.out he hl; omega⟩, rfl⟩
      case round =>
        obtain ⟨f, c, k, m, a, rfl, rfl, rfl, rfl, hk, ha, HL, HO, rfl⟩ := hrel
        by_cases hk32 : (k : Int) < 32
        · by_cases ha1 : a = -1
          · subst ha1
            have HE : Hid (Dl.Lg base.data.toList text.data.toList f c) := HL.out.lg (fun he hl => by rcases HO.out he hl with ⟨_, h⟩ | h; exact absurd h (by decide); exact h)
            go_wp2_with fail
            go_ret2
            exact ⟨f, c, rfl, HE.out, below_drewN ((Below.refl _ _).alloc (Nat.le_refl _) _) m⟩
          · obtain ⟨j, rfl⟩ := Int.eq_ofNat_of_zero_le (show 0 ≤ a by omega)
            have hj : j < n := by omega
            have han : (((j : Nat) : Int) != -1) = true := by rw [bne_iff_ne]; omega
            have hbx : (base.extract j base.size).size ≤ 16777216 := by simp; omega
            have hbl := extract_rest base j
            have HC := Lib.hid (fun v : World => common_any (base.extract j base.size) text v hbx hts)
            have hLc : Lf base.data.toList text.data.toList j (Dl.com (base.data.toList.drop j) text.data.toList) := Lf.com (by rw [HLB.out]; omega)
            have hown : base.data.toList = text.data.toList → j = 0 → Dl.com (base.data.toList.drop j) text.data.toList = base.data.toList.length := fun he hj0 => by
              subst hj0; rw [List.drop_zero, he, Dl.com_self]
            rw [hbl] at HC
            generalize Dl.com (base.data.toList.drop j) text.data.toList = q at *
            have hqt := hLc.le
            rw [HLT.out] at hqt
            have HLC := Lib.hid hLc
            have HOW := Lib.hid hown
            clear ha1 ha hbl hLc hown
            go_wp2_with fail
            refine (HC.out _).mono ?_
            rintro e w2 ⟨rfl, m2, rfl⟩
            obtain ⟨x, cx, hx⟩ := HNX.out.cell j hj
            by_cases hgt : (c : Int) < (q : Int)
            · have HO2 : Hid (Lo base.data.toList text.data.toList q (k + 1) x) := fun he hl => .inr (by
                rcases HO.out he hl with ⟨h1, h2⟩ | h
                · exact HOW.out he (by omega)
                · exfalso; have := HLC.out.le; rw [← he] at this; omega)
              go_wp2_with fail
              exact ⟨⟨j, q, k + 1, m + m2, x, rfl, rfl, rfl, by go_num, by omega, hx, HLC, HO2, rfl⟩, by simp [intOf]; omega⟩
            · have HO2 : Hid (Lo base.data.toList text.data.toList c (k + 1) x) := fun he hl => .inr (by
                rcases HO.out he hl with ⟨h1, h2⟩ | h
                · have h3 := HOW.out he (by omega)
                  have h5 := HL.out.le
                  rw [← he] at h5; omega
                · exact h)
              go_wp2_with fail
              exact ⟨⟨f, c, k + 1, m + m2, x, rfl, rfl, rfl, by go_num, by omega, hx, HL, HO2, rfl⟩, by simp [intOf]; omega⟩
        · have HE : Hid (Dl.Lg base.data.toList text.data.toList f c) := HL.out.lg (fun he hl => by rcases HO.out he hl with ⟨h, _⟩ | h; exact absurd h (by omega); exact h)
          go_wp2_with fail
          go_ret2
          exact ⟨f, c, rfl, HE.out, below_drewN ((Below.refl _ _).alloc (Nat.le_refl _) _) m⟩

end Go.Proofs.Ytoglbmibbdpjcaa
