/-
  WALKS OF LAYER 2: Sum.
  WALKS OF LAYER 2: k and Sum (knapsackref02).
  WALKS OF LAYER 2: Less, Hex.
  WALKS OF LAYER 2: the rows of the document's examples (knapsacklaw02.knows).
  WALKS OF LAYER 2: Sha256Tells.
  WHAT THE ROWS' CONDITION GIVES THE WALKS OF LAYER 2: the package variable roundWords holds K0 to K63; and a start that meets it.
-/
import Derived.Test.YtipigedopmgemaaDoorS2a
import Derived.Test.YtipigedopmgemaaDoorShelf
import Derived.Deep.Cut
import Derived.Deep.CutRange
import Derived.Deep.RegionHeld3
import Derived.Test.YtipigedopmgemaaDoorS2b
import Derived.Laws.IdiomStrings
import Derived.ChangeKeysEq
import Derived.Laws.StructEq
import Derived.Test.YtipigedopmgemaaDoorRows
import Derived.ProofKit
import Derived.OpenShut
import Derived.SizedLaws
import Derived.LaidMore
import Derived.LaidLaws
import Derived.Lib.LaidTab
import Derived.Stop.Joined
section
namespace Go.Proofs.YtipigedopmgemaaDoor.S2
open Go.RowKit
set_option linter.unusedVariables false
set_option linter.unusedSimpArgs false
open Sh (Wd)

theorem bcell {W w1 : World} (hb : Below W.heap.size W w1) : (∀ b o, b < W.heap.size → w1.cell? ⟨b, o, none⟩ = W.cell? ⟨b, o, none⟩) ∧ (∀ b o, b < W.heap.size → w1.frozen? ⟨b, o, none⟩ = W.frozen? ⟨b, o, none⟩) :=
  ⟨fun b o h => hb.cell (p := ⟨b, o, none⟩) h, fun b o h => hb.frozen (p := ⟨b, o, none⟩) h⟩
theorem KIn.step {w w' : World} (h : KIn w) (hb : Below w.heap.size w w') : KIn w' := h.below hb h.pos
theorem KIn.more {w : World} (h : KIn w) (o : Obj) : KIn (w.alloc o) := ⟨by simp, fun t ht => (World.cell?_alloc_lt w o ⟨0, t, none⟩ h.1).trans (h.2 t ht)⟩
theorem KIn.drawn {w : World} (h : KIn w) : KIn w.drew := h

/-- Strings, one behind the other. -/
def flat (Xs : List ByteArray) : List UInt8 := (Xs.map (·.data.toList)).flatten
theorem join_flat (Xs : List ByteArray) : Lib.join (Xs.map (·.data.toList)) (ByteArray.mk #[]).data.toList = flat Xs := by
  unfold flat
  cases Xs with
  | nil => rfl
  | cons x r =>
    rw [List.map_cons, Lib.join_cons, List.flatten_cons]
    have e : (r.map (·.data.toList)).map ((ByteArray.mk #[]).data.toList ++ ·) = r.map (·.data.toList) := by rw [List.map_map]; rfl
    rw [Lib.joinTail, e]

theorem sha_split (l : List UInt8) (b : ByteArray) (hb : b.data.toList = l) :
    Sh.proc ((Sh.ending (b.data.toList.drop (l.length - l.length % 64)) l.length).length / 64) (Sh.proc ((l.take (l.length - l.length % 64)).length / 64) Sh.start (l.take (l.length - l.length % 64))) (Sh.ending (l.drop (l.length - l.length % 64)) l.length) = Sh.sha l := by
  rw [hb, Sh.ending_length, ← Sh.sha_parts l]
  have h1 : (l.drop (l.length - l.length % 64)).length = l.length % 64 := by rw [List.length_drop]; omega
  have h2 : (l.take (l.length - l.length % 64)).length / 64 = l.length / 64 := by rw [List.length_take]; omega
  rw [h1, h2]

/-- Where the variable s lies, and what is there, whichever came first. -/
structure Laid (w : World) (X : Obj) (S : Sh.St) (P : Nat) (wc : World) : Prop where
  from_ : w.heap.size + 1 ≤ P
  lt : P < wc.heap.size
  at_ : wc.heap[P]? = some (.cells (stA S) 112)
  res : wc.heap[w.heap.size]? = some X
  below : Below w.heap.size w wc
theorem laid_last {w w1 w2 w3 : World} {X : Obj} (S : Sh.St) (E0 : w1.heap[w.heap.size]? = some X) (hs : w.heap.size + 1 ≤ w1.heap.size) (hb : Below w.heap.size w w1) (hb2 : Below w1.drew.heap.size w1.drew w2) (hb3 : Below w2.heap.size w2 w3) :
    Laid w X S w3.heap.size (w3.alloc (.cells (stA S) 112)) := by
  have h2 : w1.heap.size ≤ w2.heap.size := hb2.size
  have h3 := hb3.size
  refine ⟨by omega, by simp, heap_alloc_new _ _, ?_, ((hb.drew.trans (hb2.mono (by simp; omega))).trans (hb3.mono (by omega))).alloc (by omega) _⟩
  rw [Below.heap_alloc _ _ _ (by omega), hb3.block _ (by omega), hb2.block _ (by simp; omega)]
  exact E0
theorem laid_mid {w w1 w2 w3 : World} {X : Obj} (S : Sh.St) {z0 z1 z2 z3 z4 z5 z6 z7 : Value} (E0 : w1.heap[w.heap.size]? = some X) (hs : w.heap.size + 1 ≤ w1.heap.size) (hb : Below w.heap.size w w1) (hb2 : Below w1.drew.heap.size w1.drew w2)
    (hb3 : Below (w2.alloc (.cells #[z0, z1, z2, z3, z4, z5, z6, z7] 112)).heap.size (w2.alloc (.cells #[z0, z1, z2, z3, z4, z5, z6, z7] 112)) w3) :
    Laid w X S w2.heap.size (set8 w3 w2.heap.size (.int .u32 (S.a.toNat : Int)) (.int .u32 (S.b.toNat : Int)) (.int .u32 (S.c.toNat : Int)) (.int .u32 (S.d.toNat : Int)) (.int .u32 (S.e.toNat : Int)) (.int .u32 (S.f.toNat : Int)) (.int .u32 (S.g.toNat : Int)) (.int .u32 (S.h.toNat : Int))) := by
  have h2 : w1.heap.size ≤ w2.heap.size := hb2.size
  have h3 : w2.heap.size + 1 ≤ w3.heap.size := by have := hb3.size; simpa using this
  have hz : w3.heap[w2.heap.size]? = some (.cells #[z0, z1, z2, z3, z4, z5, z6, z7] 112) := (hb3.block _ (by simp)).trans (heap_alloc_new _ _)
  refine ⟨by omega, by simp [set8]; omega, set8_held hz _ _ _ _ _ _ _ _, set8_apart ?_ (by omega) _ _ _ _ _ _ _ _, set8_below (((hb.drew.trans (hb2.mono (by simp; omega))).alloc (by omega) _).trans (hb3.mono (by simp; omega))) (by omega) _ _ _ _ _ _ _ _⟩
  rw [hb3.block _ (by simp; omega), Below.heap_alloc _ _ _ (by omega), hb2.block _ (by simp; omega)]
  exact E0
theorem laid_first {w w1 w2 w3 : World} {X : Obj} (S : Sh.St) {z0 z1 z2 z3 z4 z5 z6 z7 : Value} (E0 : w1.heap[w.heap.size]? = some X) (hs : w.heap.size + 1 ≤ w1.heap.size) (hb : Below w.heap.size w w1)
    (hb2 : Below (w1.alloc (.cells #[z0, z1, z2, z3, z4, z5, z6, z7] 112)).drew.heap.size (w1.alloc (.cells #[z0, z1, z2, z3, z4, z5, z6, z7] 112)).drew w2) (hb3 : Below w2.heap.size w2 w3) :
    Laid w X S w1.heap.size (set8 w3 w1.heap.size (.int .u32 (S.a.toNat : Int)) (.int .u32 (S.b.toNat : Int)) (.int .u32 (S.c.toNat : Int)) (.int .u32 (S.d.toNat : Int)) (.int .u32 (S.e.toNat : Int)) (.int .u32 (S.f.toNat : Int)) (.int .u32 (S.g.toNat : Int)) (.int .u32 (S.h.toNat : Int))) := by
  have h2 : w1.heap.size + 1 ≤ w2.heap.size := by have := hb2.size; simpa using this
  have h3 := hb3.size
  have hz : w3.heap[w1.heap.size]? = some (.cells #[z0, z1, z2, z3, z4, z5, z6, z7] 112) := (hb3.block _ (by omega)).trans ((hb2.block _ (by simp)).trans (heap_alloc_new w1 _))
  refine ⟨by omega, by simp [set8]; omega, set8_held hz _ _ _ _ _ _ _ _, set8_apart ?_ (by omega) _ _ _ _ _ _ _ _, set8_below (((hb.alloc (by omega) _).drew.trans (hb2.mono (by simp; omega))).trans (hb3.mono (by omega))) (by omega) _ _ _ _ _ _ _ _⟩
  rw [hb3.block _ (by omega), hb2.block _ (by simp; omega), heap_drew, Below.heap_alloc w1 _ _ (by omega)]
  exact E0

theorem laid_last' {w w1 w2 w3 : World} {X : Obj} (S : Sh.St) (E0 : w1.heap[w.heap.size]? = some X) (hs : w.heap.size + 1 ≤ w1.heap.size) (hb : Below w.heap.size w w1) (hb2 : Below w1.drew.heap.size w1.drew w2) (hb3 : Below w2.heap.size w2 w3) :
    Laid w X S w3.heap.size (w3.alloc (.cells #[.int .u32 (S.a.toNat : Int), .int .u32 (S.b.toNat : Int), .int .u32 (S.c.toNat : Int), .int .u32 (S.d.toNat : Int), .int .u32 (S.e.toNat : Int), .int .u32 (S.f.toNat : Int), .int .u32 (S.g.toNat : Int), .int .u32 (S.h.toNat : Int)] 112)) := laid_last S E0 hs hb hb2 hb3
theorem laid_mid' {w w1 w2 w3 : World} {X : Obj} (S : Sh.St) {z0 z1 z2 z3 z4 z5 z6 z7 : Value} (E0 : w1.heap[w.heap.size]? = some X) (hs : w.heap.size + 1 ≤ w1.heap.size) (hb : Below w.heap.size w w1) (hb2 : Below w1.drew.heap.size w1.drew w2)
    (hb3 : Below (w2.alloc (.cells #[z0, z1, z2, z3, z4, z5, z6, z7] 112)).heap.size (w2.alloc (.cells #[z0, z1, z2, z3, z4, z5, z6, z7] 112)) w3) : Laid w X S w2.heap.size ((((((((w3.setCell ⟨w2.heap.size, 0, none⟩ (.int .u32 (S.a.toNat : Int))).setCell ⟨w2.heap.size, 1, none⟩ (.int .u32 (S.b.toNat : Int))).setCell ⟨w2.heap.size, 2, none⟩ (.int .u32 (S.c.toNat : Int))).setCell ⟨w2.heap.size, 3, none⟩ (.int .u32 (S.d.toNat : Int))).setCell ⟨w2.heap.size, 4, none⟩ (.int .u32 (S.e.toNat : Int))).setCell ⟨w2.heap.size, 5, none⟩ (.int .u32 (S.f.toNat : Int))).setCell ⟨w2.heap.size, 6, none⟩ (.int .u32 (S.g.toNat : Int))).setCell ⟨w2.heap.size, 7, none⟩ (.int .u32 (S.h.toNat : Int))) := laid_mid S E0 hs hb hb2 hb3
theorem laid_first' {w w1 w2 w3 : World} {X : Obj} (S : Sh.St) {z0 z1 z2 z3 z4 z5 z6 z7 : Value} (E0 : w1.heap[w.heap.size]? = some X) (hs : w.heap.size + 1 ≤ w1.heap.size) (hb : Below w.heap.size w w1)
    (hb2 : Below (w1.alloc (.cells #[z0, z1, z2, z3, z4, z5, z6, z7] 112)).drew.heap.size (w1.alloc (.cells #[z0, z1, z2, z3, z4, z5, z6, z7] 112)).drew w2) (hb3 : Below w2.heap.size w2 w3) : Laid w X S w1.heap.size ((((((((w3.setCell ⟨w1.heap.size, 0, none⟩ (.int .u32 (S.a.toNat : Int))).setCell ⟨w1.heap.size, 1, none⟩ (.int .u32 (S.b.toNat : Int))).setCell ⟨w1.heap.size, 2, none⟩ (.int .u32 (S.c.toNat : Int))).setCell ⟨w1.heap.size, 3, none⟩ (.int .u32 (S.d.toNat : Int))).setCell ⟨w1.heap.size, 4, none⟩ (.int .u32 (S.e.toNat : Int))).setCell ⟨w1.heap.size, 5, none⟩ (.int .u32 (S.f.toNat : Int))).setCell ⟨w1.heap.size, 6, none⟩ (.int .u32 (S.g.toNat : Int))).setCell ⟨w1.heap.size, 7, none⟩ (.int .u32 (S.h.toNat : Int))) := laid_first S E0 hs hb hb2 hb3

set_option maxHeartbeats 1600000 in
set_option maxRecDepth 100000 in
theorem sum_any (Xs : List ByteArray) (bk o c : Nat) (w : World) (hcells : ∀ (j : Nat) x, Xs[j]? = some x → w.cell? ⟨bk, o + j, none⟩ = some (.string x)) (hbk : bk < w.heap.size) (hN : Xs.length ≤ 140737488355328) (hcap : Xs.length ≤ c)
    (hlen : (flat Xs).length ≤ 70368744177664) (hk : KIn w) :
    Calls Tryd.prog 45 #[.slice (some ⟨bk, o, none⟩) Xs.length c] w fun r w' => r = .returned (.agg (idA (Sh.idOf (Sh.sha (flat Xs))))) ∧ Below w.heap.size w w' := by
  have HK := Lib.hid hk
  have hp := hk.pos
  clear hk
  have hj := fun wz (hz : ∀ (j : Nat) x, Xs[j]? = some x → wz.cell? ⟨bk, o + j, none⟩ = some (.string x)) (hbz : bk < wz.heap.size) => Tryd.strings_Join bk o c Xs ⟨#[]⟩ wz hz hbz hN hcap (by rw [join_flat]; omega)
  rw [join_flat] at hj
  have HJ := Lib.hid hj
  have HC := Lib.hid hcells
  clear hj hcells
  have hml : (⟨(flat Xs).toArray⟩ : ByteArray).data.toList = flat Xs := rfl
  generalize hm : (⟨(flat Xs).toArray⟩ : ByteArray) = m at HJ hml
  clear hm
  generalize flat Xs = l at HJ hml hlen
  have hms : m.size = l.length := by rw [← len_data, hml]
  generalize hM : Sh.idOf (Sh.sha l) = M
  have HM := Lib.hid hM
  clear hM
  have HML := Lib.hid hml
  have HMS := Lib.hid hms
  have hm1 : m.size ≤ 70368744177664 := by omega
  clear hml hms
  go_enter Tryd.func45, Tryd.ntmps45
  go_wp2_with fail
  refine (HJ.out _ (fun j x hx => by rw [World.cell?_alloc_lt _ _ _ hbk]; exact HC.out j x hx) (by simp; omega)).mono ?_
  rintro r w1 ⟨rfl, hb1⟩
  have E0 : Hid (w1.heap[w.heap.size]? = some (.cells (idA []) 35)) := (hb1.block w.heap.size (by simp)).trans (heap_alloc_new w _)
  have hs1 : w.heap.size + 1 ≤ w1.heap.size := by have := hb1.size; simpa using this
  have hbw : Below w.heap.size w w1 := ((Below.refl _ _).alloc (Nat.le_refl _) _).trans (hb1.mono (by simp))
  have HK1 := Lib.hid (HK.out.step hbw)
  clear hb1
  go_upto_region 3 with (fail)
  rw [show (m.size : Int) - (m.size : Int) % 64 = ((m.size - m.size % 64 : Nat) : Int) by omega]
  have hqm : m.size - m.size % 64 ≤ m.size := by omega
  generalize hq : m.size - m.size % 64 = q at hqm ⊢
  have HQ := Lib.hid hq
  clear hq
  have hqi : (q : Int) ≤ (m.size : Int) := by omega
  have HS1 := Lib.hid (show (m.extract 0 (q)).size ≤ 9223372036854775807 by simp; omega)
  go_cut [5] from 14 to 29 (fun v wc => ∃ P, v = .pointer (some ⟨P, 0, none⟩) ∧ Laid w (.cells (idA []) 35) (Sh.proc ((m.extract 0 (q)).size / 64) Sh.start (m.extract 0 (q)).data.toList) P wc)
  case first =>
    generalize hS : Sh.proc ((m.extract 0 (q)).size / 64) Sh.start (m.extract 0 (q)).data.toList = S1
    have HS := Lib.hid hS
    clear hS
    go_region_with (first
      | (go_at_call 67; refine (start_any _).mono ?_; rintro r w2 ⟨rfl, hb2⟩; obtain ⟨hc2, hf2⟩ := bcell hb2; have hz2 := hb2.size; (try simp at hz2); (try have hz2x := Nat.lt_of_succ_le hz2))
      | (go_at_call 66; refine (process_any Sh.start (m.extract 0 (q)) _ HS1.out (by first | exact (HK1.out.drawn).step hb2 | exact ((HK1.out.drawn).more _).step hb2 | exact ((HK1.out.drawn).step hb2).more _)).mono ?_; rw [HS.out]; rintro r w3 ⟨rfl, hb3⟩; simp only [stA]; obtain ⟨hc3, hf3⟩ := bcell hb3; have hz3 := hb3.size; (try simp at hz3); (try have hz3x := Nat.lt_of_succ_le hz3)))
    all_goals
      go_wp2_with fail
      go_meet
      refine ⟨_, rfl, ?_⟩
      rw [HS.out]
      first | (with_reducible exact laid_last' S1 E0.out hs1 hbw hb2 hb3) | (with_reducible exact laid_mid' S1 E0.out hs1 hbw hb2 hb3) | (with_reducible exact laid_first' S1 E0.out hs1 hbw hb2 hb3)
  case rest =>
    obtain ⟨P, rfl, hL⟩ := hcut
    generalize hS : Sh.proc ((m.extract 0 (q)).size / 64) Sh.start (m.extract 0 (q)).data.toList = S1 at hL
    have HS := Lib.hid hS
    clear hS
    have hP1 := hL.from_
    have hP2 := hL.lt
    have EP := Lib.hid hL.at_
    have ER := Lib.hid hL.res
    have hbc := hL.below
    clear hL E0 hs1 hbw
    have k0 := cell_of_row wc P 0 _ _ _ EP.out
    have k1 := cell_of_row wc P 1 _ _ _ EP.out
    have k2 := cell_of_row wc P 2 _ _ _ EP.out
    have k3 := cell_of_row wc P 3 _ _ _ EP.out
    have k4 := cell_of_row wc P 4 _ _ _ EP.out
    have k5 := cell_of_row wc P 5 _ _ _ EP.out
    have k6 := cell_of_row wc P 6 _ _ _ EP.out
    have k7 := cell_of_row wc P 7 _ _ _ EP.out
    simp only [stA, List.getElem?_toArray, List.getElem?_cons_zero, List.getElem?_cons_succ] at k0 k1 k2 k3 k4 k5 k6 k7
    have y0 := frozen_of_row wc P 0 _ _ EP.out
    have y1 := frozen_of_row wc P 1 _ _ EP.out
    have y2 := frozen_of_row wc P 2 _ _ EP.out
    have y3 := frozen_of_row wc P 3 _ _ EP.out
    have y4 := frozen_of_row wc P 4 _ _ EP.out
    have y5 := frozen_of_row wc P 5 _ _ EP.out
    have y6 := frozen_of_row wc P 6 _ _ EP.out
    have y7 := frozen_of_row wc P 7 _ _ EP.out
    have hel : (Sh.ending (m.extract (q) m.size).data.toList m.size).length ≤ 200 := by
      rw [Sh.ending_length, drop_of_extract, List.length_drop, len_data]
      have := gap_lt (m.size - q + 1)
      have := HQ.out
      omega
    have HFin := Lib.hid (show Sh.proc ((⟨(Sh.ending (m.extract (q) m.size).data.toList m.size).toArray⟩ : ByteArray).size / 64) S1 (⟨(Sh.ending (m.extract (q) m.size).data.toList m.size).toArray⟩ : ByteArray).data.toList = Sh.sha l by
      have h := sha_split l m HML.out
      rw [← HS.out, take_of_extract, drop_of_extract, ← HQ.out, HML.out, HMS.out]
      rw [HML.out] at h
      rw [← h]
      congr 2
      rw [← len_data, take_of_extract, HML.out])
    have hes : (⟨(Sh.ending (m.extract (q) m.size).data.toList m.size).toArray⟩ : ByteArray).size ≤ 9223372036854775807 := by
      show (Sh.ending (m.extract (q) m.size).data.toList m.size).toArray.size ≤ _
      simp only [List.size_toArray]; omega
    have HEnd := Lib.hid (fun wz => ending_any (m.extract (q) m.size) m.size wz (by simp; omega) (by omega))
    generalize (⟨(Sh.ending (m.extract (q) m.size).data.toList m.size).toArray⟩ : ByteArray) = E at HFin hes HEnd
    have HES := Lib.hid hes
    clear hes hel
    have HK3 := Lib.hid (HK.out.step hbc)
    generalize Sh.sha l = S2 at HFin HM
    have hwu : IntKind.u64.wrap (m.size : Int) = (m.size : Int) := by
      simp [IntKind.wrap, IntKind.bits, IntKind.signed]; omega
    go_wp2_with fail
    go_region_with (first
      | (go_at_call 68; (with_reducible refine (HEnd.out _).mono ?_); rintro r w4 ⟨rfl, hb4⟩; obtain ⟨hc4, hf4⟩ := bcell hb4; have hz4 := hb4.size; (try simp at hz4); have hp4 := Nat.lt_of_lt_of_le hP2 hz4; have q0 := (hc4 P 0 hP2).trans k0; have g0 := (hf4 P 0 hP2).trans y0; have q1 := (hc4 P 1 hP2).trans k1; have g1 := (hf4 P 1 hP2).trans y1; have q2 := (hc4 P 2 hP2).trans k2; have g2 := (hf4 P 2 hP2).trans y2; have q3 := (hc4 P 3 hP2).trans k3; have g3 := (hf4 P 3 hP2).trans y3; have q4 := (hc4 P 4 hP2).trans k4; have g4 := (hf4 P 4 hP2).trans y4; have q5 := (hc4 P 5 hP2).trans k5; have g5 := (hf4 P 5 hP2).trans y5; have q6 := (hc4 P 6 hP2).trans k6; have g6 := (hf4 P 6 hP2).trans y6; have q7 := (hc4 P 7 hP2).trans k7; have g7 := (hf4 P 7 hP2).trans y7; clear hc4 hf4)
      | (go_at_call 66; refine (process_any S1 E _ HES.out (HK3.out.drawn.step hb4)).mono ?_; rw [HFin.out]; rintro r w5 ⟨rfl, hb5⟩; simp only [stA]; obtain ⟨hc5, hf5⟩ := bcell hb5; have hz5 := hb5.size; have hp5 := Nat.lt_of_lt_of_le hp4 hz5; have p0 := (hc5 P 0 hp4).trans q0; have f0 := (hf5 P 0 hp4).trans g0; have p1 := (hc5 P 1 hp4).trans q1; have f1 := (hf5 P 1 hp4).trans g1; have p2 := (hc5 P 2 hp4).trans q2; have f2 := (hf5 P 2 hp4).trans g2; have p3 := (hc5 P 3 hp4).trans q3; have f3 := (hf5 P 3 hp4).trans g3; have p4 := (hc5 P 4 hp4).trans q4; have f4 := (hf5 P 4 hp4).trans g4; have p5 := (hc5 P 5 hp4).trans q5; have f5 := (hf5 P 5 hp4).trans g5; have p6 := (hc5 P 6 hp4).trans q6; have f6 := (hf5 P 6 hp4).trans g6; have p7 := (hc5 P 7 hp4).trans q7; have f7 := (hf5 P 7 hp4).trans g7; clear hc5 hf5))
    all_goals
      have EP5 : w5.heap[P]? = some (.cells (stA S1) 112) := (hb5.block P hp4).trans ((hb4.block P (by simpa using hP2)).trans EP.out)
      have ER5 : w5.heap[w.heap.size]? = some (.cells (idA []) 35) := (hb5.block _ (by omega)).trans ((hb4.block _ (by simp; omega)).trans ER.out)
      have hbd : Below w.heap.size w w5 := (hbc.drew.trans (hb4.mono (by simp; omega))).trans (hb5.mono (by omega))
      have F6 := set8_held EP5 (.int .u32 (S2.a.toNat : Int)) (.int .u32 (S2.b.toNat : Int)) (.int .u32 (S2.c.toNat : Int)) (.int .u32 (S2.d.toNat : Int)) (.int .u32 (S2.e.toNat : Int)) (.int .u32 (S2.f.toNat : Int)) (.int .u32 (S2.g.toNat : Int)) (.int .u32 (S2.h.toNat : Int))
      have F7 := set8_apart ER5 (show w.heap.size ≠ P by omega) (.int .u32 (S2.a.toNat : Int)) (.int .u32 (S2.b.toNat : Int)) (.int .u32 (S2.c.toNat : Int)) (.int .u32 (S2.d.toNat : Int)) (.int .u32 (S2.e.toNat : Int)) (.int .u32 (S2.f.toNat : Int)) (.int .u32 (S2.g.toNat : Int)) (.int .u32 (S2.h.toNat : Int))
      have F8 := set8_below hbd (show w.heap.size ≤ P by omega) (.int .u32 (S2.a.toNat : Int)) (.int .u32 (S2.b.toNat : Int)) (.int .u32 (S2.c.toNat : Int)) (.int .u32 (S2.d.toNat : Int)) (.int .u32 (S2.e.toNat : Int)) (.int .u32 (S2.f.toNat : Int)) (.int .u32 (S2.g.toNat : Int)) (.int .u32 (S2.h.toNat : Int))
      change Exit.then _ _ _ _ (set8 w5 P (.int .u32 (S2.a.toNat : Int)) (.int .u32 (S2.b.toNat : Int)) (.int .u32 (S2.c.toNat : Int)) (.int .u32 (S2.d.toNat : Int)) (.int .u32 (S2.e.toNat : Int)) (.int .u32 (S2.f.toNat : Int)) (.int .u32 (S2.g.toNat : Int)) (.int .u32 (S2.h.toNat : Int)))
      generalize set8 w5 P (.int .u32 (S2.a.toNat : Int)) (.int .u32 (S2.b.toNat : Int)) (.int .u32 (S2.c.toNat : Int)) (.int .u32 (S2.d.toNat : Int)) (.int .u32 (S2.e.toNat : Int)) (.int .u32 (S2.f.toNat : Int)) (.int .u32 (S2.g.toNat : Int)) (.int .u32 (S2.h.toNat : Int)) = w6 at F6 F7 F8 ⊢
      clear EP5 ER5 hbd hb4 hb5 p0 p1 p2 p3 p4 p5 p6 p7 f0 f1 f2 f3 f4 f5 f6 f7 q0 q1 q2 q3 q4 q5 q6 q7 g0 g1 g2 g3 g4 g5 g6 g7 k0 k1 k2 k3 k4 k5 k6 k7 y0 y1 y2 y3 y4 y5 y6 y7 hz4 hz5 hp4 hp5
      have EP6 : Hid (w6.heap[P]? = some (.cells (stA S2) 112)) := F6
      have E7 := Lib.hid F7
      clear F6 F7
      have k0 := cell_of_row w6 P 0 _ _ _ EP6.out
      have k1 := cell_of_row w6 P 1 _ _ _ EP6.out
      have k2 := cell_of_row w6 P 2 _ _ _ EP6.out
      have k3 := cell_of_row w6 P 3 _ _ _ EP6.out
      have k4 := cell_of_row w6 P 4 _ _ _ EP6.out
      have k5 := cell_of_row w6 P 5 _ _ _ EP6.out
      have k6 := cell_of_row w6 P 6 _ _ _ EP6.out
      have k7 := cell_of_row w6 P 7 _ _ _ EP6.out
      simp only [stA, List.getElem?_toArray, List.getElem?_cons_zero, List.getElem?_cons_succ] at k0 k1 k2 k3 k4 k5 k6 k7
      go_wp2_with fail
      refine (idOf_any S2 _).mono ?_
      rw [HM.out]
      rintro r w7 ⟨rfl, hb7⟩
      have hl : M.length ≤ 32 := by rw [← HM.out, Sh.idOf_length]; omega
      have hz7 := hb7.size
      have h60 : w.heap.size < w6.heap.size := by
        rcases Nat.lt_or_ge w.heap.size w6.heap.size with h | h
        · exact h
        · rw [Array.getElem?_eq_none h] at E7; exact absurd E7.out (by simp)
      have E8 := Lib.hid ((hb7.block _ h60).trans E7.out)
      have hb8 := F8.trans (hb7.mono (by omega))
      have HI := Lib.hid (idsize hl)
      have H0 := Lib.hid (show (idA []).size = (idA M).size by rw [idA_size M hl]; rfl)
      have hu := Lib.hid Tryd.underlying35
      clear hz7 h60 hb7 k0 k1 k2 k3 k4 k5 k6 k7
      go_wp2_with (refine wpList_store_row rfl 35 _ _ rfl w.heap.size _ rfl rfl _ _ E8.out HI.out H0.out (idA_one _) ?_)
      refine bodyPost_ret (v := .agg (idA M)) ?_ rfl ⟨rfl, below_setRow hb8 (Nat.le_refl _) _⟩
      exact results_cell_row (by rfl) _ _ w.heap.size _ _ _ _ (by rfl) (setRow_heap _ _ _ _ _ _ E8.out) hu.out rfl HI.out

end Go.Proofs.YtipigedopmgemaaDoor.S2
end

section
namespace Go.Proofs.YtipigedopmgemaaDoor.S2
open Go.RowKit
set_option linter.unusedVariables false
set_option linter.unusedSimpArgs false
open Sh (Wd)

/-- An aggregate, built: its cells under a name. -/
theorem wpList_build_as {P : Program} {ops : Array Oper} {rest : List Oper} {o : Oper} {a : Act} {w : World} {Q : Exit → Act → World → Prop} (hg : o.guard = none) (t : TypeId) (parts : Array (Nat × Operand)) (ho : o.op = .build t parts) (cs : Array Value)
    (hb : P.built t (parts.map fun (i, x) => (i, a.eval x)).toList = some cs) (h : wpList P ops Q rest (a.put o.dst (.agg cs)) w) : wpList P ops Q (o :: rest) a w := by
  refine wpList_build hg t parts ho (by rw [hb]; rfl) ?_
  rw [hb]
  exact h

set_option maxRecDepth 100000 in
theorem refk_any (w : World) : Calls Tryd.prog 31 #[] w fun r w' => r = .returned (.agg (arr Sh.K)) ∧ Below w.heap.size w w' := by
  have HK1 := Lib.hid (arr_one Sh.K)
  have HI : Hid ((Tryd.prog.info? 80).map (·.size) = some (arr Sh.K).size) := by rw [arr_size Sh.K (by decide)]; exact (zero_of_info info48).2
  have HS := Lib.hid (arr_size Sh.K (by decide))
  go_enter Tryd.func31, Tryd.ntmps31
  go_upto_region 1 with (fail)
  refine wp_region_list ?_
  refine wpList_build_as rfl 80 _ rfl (arr Sh.K) (by kernel_rfl) ?_
  generalize hka : arr Sh.K = ka at HK1 HI HS ⊢
  have HKA := Lib.hid hka
  clear hka
  go_wp2_with (refine wpList_store_row rfl 80 _ _ rfl w.heap.size _ rfl rfl _ _ (heap_alloc_new _ _) HI.out (by rw [HS.out]; rfl) HK1.out ?_)
  refine bodyPost_ret (v := .agg ka) ?_ rfl ⟨by rw [HKA.out], below_setRow ((Below.refl _ _).alloc (Nat.le_refl _) _) (Nat.le_refl _) _⟩
  exact results_cell_row (by rfl) _ _ w.heap.size _ _ _ _ (by rfl) (setRow_heap _ _ _ _ _ _ (heap_alloc_new _ _)) Tryd.underlying80 rfl HI.out

/-- 'string([]byte{x})': the row that was just laid, as a string. -/
theorem conv_one (w : World) (b : UInt8) (x : Int) (h : x = (b.toNat : Int)) : (convert 56 9 (.slice (some ⟨w.heap.size, 0, none⟩) 1 1)).run Tryd.prog (w.alloc (.cells #[.int .u8 x] 5)) = .ok (.string ⟨#[b]⟩) (w.alloc (.cells #[.int .u8 x] 5)) := by
  subst h
  exact run_convert_bytes_back (P := Tryd.prog) (w.alloc (.cells #[.int .u8 (b.toNat : Int)] 5)) 56 9 5 ⟨w.heap.size, 0, none⟩ 1 [b] Tryd.underlying56 Tryd.underlying5 Tryd.underlying9 (fun j hj => by
    have hj0 : j = 0 := by simpa using hj
    subst hj0
    exact cell_one_new w _ 5 0 _ rfl)
theorem app_data (a : ByteArray) (b : UInt8) : (a ++ ByteArray.mk #[b]).data.toList = a.data.toList ++ [b] := by
  rw [ByteArray.data_append]; simp
theorem be8_down (n j : Nat) (hj : j < 8) : ((n : Int) / 2 ^ (8 * (7 - j))) % 256 = ((Sh.be8 n j).toNat : Int) := by
  rw [show 8 * (7 - j) = 56 - 8 * j by omega]; exact be8_eq n j hj

theorem extract_mid (a : ByteArray) (i : Nat) (h : i + 64 ≤ a.size) : (a.extract i (i + 64)).data.toList = (a.data.toList.drop i).take 64 := by
  simp only [ByteArray.data_extract, Array.toList_extract, List.extract_eq_take_drop]
  rw [Nat.add_sub_cancel_left]
theorem loadAt_row {P : Program} (w : World) (g : Nat) (t ty : TypeId) (cs : Array Value) (d : TypeDesc) (hg : w.heap[g]? = some (.cells cs t))
    (hu : P.underlying ty = some d) (hd : (match d with | .struct _ | .array _ _ => true | _ => false) = true) (hi : (P.info? ty).map (·.size) = some cs.size) :
    (Instr.loadAt ty (.pointer (some ⟨g, 0, none⟩))).run P w = .ok (.agg cs) w := by
  simp only [Instr.loadAt, Instr.sureAddr, Sem.run_bind, Sem.run_pure, Result.andThen]
  exact run_loadVar_row w g t ty cs _ d hg hu hd hi

theorem wpStill_load_row {P : Program} {ops : Array Oper} {w : World} {Q : Act → Prop} {a : Act} {o : Oper} {rest : List Oper} {cs : Array Value} (hw : Region.wanted o (yielded ops a.tmps) = true) (ty : TypeId) (x : Operand) (ho : o.op = .load ty x)
    (g : Nat) (hx : a.eval x = .pointer (some ⟨g, 0, none⟩)) (hld : (Instr.loadAt ty (.pointer (some ⟨g, 0, none⟩))).run P w = .ok (.agg cs) w) (h : wpStill P ops w Q rest (a.put o.dst (.agg cs))) : wpStill P ops w Q (o :: rest) a := by
  refine wpStill_step fun K hK => ?_
  rw [if_pos hw]
  unfold Oper.still execOp
  simp only [ho, hx, Sem.run_bind, hld, Result.andThen_ok, Sem.run_pure]
  exact ⟨rfl, hK _ h⟩

set_option maxHeartbeats 3200000 in
set_option maxRecDepth 100000 in
theorem refsum_any (text : ByteArray) (w : World) (hl : text.size ≤ 70368744177664) :
    Calls Tryd.prog 18 #[.string text] w fun r w' => r = .returned (.agg (idA (Sh.idOf (Sh.sha text.data.toList)))) ∧ Below w.heap.size w w' := by
  generalize hM : Sh.idOf (Sh.sha text.data.toList) = M
  have HM := Lib.hid hM
  clear hM
  have HL := Lib.hid (len_data text)
  have hwu : IntKind.u64.wrap (text.size : Int) = (text.size : Int) := by
    simp [IntKind.wrap, IntKind.bits, IntKind.signed]; omega
  have hwu8 : IntKind.u64.wrap ((text.size : Int) * 8) = (text.size : Int) * 8 := by
    simp [IntKind.wrap, IntKind.bits, IntKind.signed]; omega
  go_enter Tryd.func18, Tryd.ntmps18
  go_upto_region 2 with (fail)
  change Code.wp _ _ _ _ (w.alloc (.cells (idA []) 35))
  have E0 := Lib.hid (heap_alloc_new w (.cells (idA []) 35))
  have hb1 : Below w.heap.size w (w.alloc (.cells (idA []) 35)) := (Below.refl _ _).alloc (Nat.le_refl _) _
  have hs1 : w.heap.size + 1 ≤ (w.alloc (.cells (idA []) 35)).heap.size := by simp
  generalize w.alloc (.cells (idA []) 35) = w1 at E0 hb1 hs1 ⊢
  have hcv0 := conv_one w1 128 128 rfl
  have HZ0 := Lib.hid (show (text ++ ByteArray.mk #[128]).data.toList = zs text.data.toList 0 by rw [app_data, zs_zero])
  go_wp2
  clear hcv0
  have F0 := Lib.hid ((Below.heap_alloc w1 (.cells #[.int .u8 128] 5) w.heap.size (by omega)).trans E0.out)
  have hb2 := hb1.alloc (by omega) (.cells #[.int .u8 128] 5)
  have hs2 : w.heap.size + 1 ≤ (w1.alloc (.cells #[.int .u8 128] 5)).heap.size := by simp; omega
  generalize w1.alloc (.cells #[.int .u8 128] 5) = w2 at F0 hb2 hs2 ⊢
  clear E0 hb1 hs1
  generalize text ++ ByteArray.mk #[128] = a0 at HZ0 ⊢
  generalize hll : text.data.toList = l at HZ0 HM HL
  clear hll
  have hgl := gap_lt (l.length + 1)
  have HLL := Lib.hid (show l.length = text.size from HL.out)
  have hl2 : l.length ≤ 70368744177664 := by rw [HL.out]; exact hl
  go_loopw [4] (fun v wr => ∃ (k : Nat) (a : ByteArray), v = .string a ∧ Hid (a.data.toList = zs l k) ∧ k ≤ Sh.gap (l.length + 1) ∧ Hid (wr.heap[w.heap.size]? = some (.cells (idA []) 35)) ∧ Below w.heap.size w wr ∧ w.heap.size + 1 ≤ wr.heap.size) (fun v _ => l.length + 1 + 64 - strLen v)
  case atStart => exact ⟨0, a0, rfl, HZ0, Nat.zero_le _, F0, hb2, hs2⟩
  case round =>
    clear HZ0 F0 hb2 hs2
    obtain ⟨k, a, rfl, HA, hk, F0, hb2, hs2⟩ := hrel
    have hsz : a.size = l.length + 1 + k := by rw [← len_data, HA.out, zs_len]
    have HSZ := Lib.hid hsz
    have hs3 : a.size ≤ 140737488355328 := by omega
    by_cases h56 : (l.length + 1 + k) % 64 = 56
    · have hk' := gap_end _ _ hk h56
      have hd : ((a.size : Int) % 64 != 56) = false := by simp; omega
      have HE := Lib.hid (show a.data.toList = es l (8 * text.size) 0 by rw [HA.out, es_zero, hk'])
      clear hk' h56 hsz HA HSZ
      go_wp2
      go_loopw [4, 5] (fun v i wr => ∃ (j : Nat) (a : ByteArray), v = .string a ∧ i = .int .i64 (7 - (j : Int)) ∧ Hid (a.data.toList = es l (8 * text.size) j) ∧ j ≤ 8 ∧ Hid (wr.heap[w.heap.size]? = some (.cells (idA []) 35)) ∧ Below w.heap.size w wr ∧ w.heap.size + 1 ≤ wr.heap.size) (fun _ i _ => (intOf i + 1).toNat)
      case atStart => exact ⟨0, a, rfl, rfl, HE, by omega, F0, hb2, hs2⟩
      case round =>
        clear HE F0 hb2 hs2 hs3 hd
        obtain ⟨j, a, rfl, rfl, HE, hj, F0, hb2, hs2⟩ := hrel
        have hsz : a.size = l.length + 1 + Sh.gap (l.length + 1) + j := by rw [← len_data, HE.out, es_len]
        have hs3 : a.size ≤ 140737488355328 := by omega
        by_cases hlt : j < 8
        · have hb8 : (text.size : Int) * 8 / 2 ^ (8 * (7 - j)) % 256 = ((Sh.be8 (8 * text.size) j).toNat : Int) := by
            have := be8_down (8 * text.size) j hlt
            rw [← this, Int.mul_comm]; simp
          have hcv := conv_one wr (Sh.be8 (8 * text.size) j) _ hb8
          have HB8 := Lib.hid hb8
          clear hb8
          have HA2 := Lib.hid (show (a ++ ByteArray.mk #[Sh.be8 (8 * text.size) j]).data.toList = es l (8 * text.size) (j + 1) by rw [app_data, HE.out, es_succ])
          generalize Sh.be8 (8 * text.size) j = bj at hcv HA2 HB8
          have hq0 : 0 ≤ 7 - (j : Int) := by omega
          have hq1 : IntKind.u64.wrap (8 * (7 - (j : Int))) = ((8 * (7 - j) : Nat) : Int) := by
            simp [IntKind.wrap, IntKind.bits, IntKind.signed]; omega
          clear hsz
          go_wp2
          refine ⟨⟨j + 1, a ++ ByteArray.mk #[bj], rfl, ?_, HA2, by omega, (Below.heap_alloc _ _ _ (by omega)).trans F0.out, hb2.alloc (by omega) _, by simp; omega⟩, by simp [intOf]; omega⟩
          rw [show (7 : Int) - (j : Int) - 1 = 7 - ((j + 1 : Nat) : Int) by omega]
        · have hj8 : j = 8 := by omega
          have HMsg := Lib.hid (show a.data.toList = Sh.ending l l.length by rw [HE.out, hj8, HL.out, es_all])
          have HSz := Lib.hid (show a.size = 64 * Sh.blocks l.length by rw [Sh.blocks_mul, hsz, hj8]; omega)
          have hneg : 7 - (j : Int) < 0 := by omega
          clear hsz hj8 HE
          have hkk := fun wz => refk_any wz
          have HKK := Lib.hid hkk
          have HKC := Lib.hid (fun (t : Nat) (ht : t < 64) => arr_get Sh.K t (by rw [K_len]; omega))
          have HK1 := Lib.hid (arr_one Sh.K)
          have HI : Hid ((Tryd.prog.info? 80).map (·.size) = some (arr Sh.K).size) := by rw [arr_size Sh.K (by decide)]; exact (zero_of_info info48).2
          have HSK := Lib.hid (arr_size Sh.K (by decide))
          have HBL := Lib.hid (fun s b wz hb => refblock_any s b wz hb)
          generalize arr Sh.K = ka at HKK HKC HK1 HI HSK HBL
          clear hkk
          go_wp2_with fail
          refine (HKK.out _).mono ?_
          rintro r w3 ⟨rfl, hb3⟩
          go_wp2_with (refine wpList_store_row rfl 80 _ _ rfl w3.heap.size _ rfl rfl _ _ (heap_alloc_new _ _) HI.out (by rw [HSK.out]; rfl) HK1.out ?_)
          rw [World.setRow_alloc_new]
          have hs3 : wr.heap.size + 1 ≤ w3.heap.size := by have := hb3.size; simpa using this
          have G1 : Hid ((w3.alloc (.cells ka 80)).heap[wr.heap.size]? = some (.cells (stA Sh.start) 79)) := by
            rw [stA_start]; exact (Below.heap_alloc _ _ _ (by omega)).trans ((hb3.block _ (by simp)).trans (heap_alloc_new _ _))
          have G2 := Lib.hid (heap_alloc_new w3 (.cells ka 80))
          have G3 : Hid ((w3.alloc (.cells ka 80)).heap[w.heap.size]? = some (.cells (idA []) 35)) :=
            (Below.heap_alloc _ _ _ (by omega)).trans ((hb3.block _ (by simp; omega)).trans ((Below.heap_alloc _ _ _ (by omega)).trans F0.out))
          have hb4 : Below w.heap.size w (w3.alloc (.cells ka 80)) := ((hb2.alloc (by omega) _).trans (hb3.mono (by simp; omega))).alloc (by omega) _
          have hs4 : w3.heap.size + 1 ≤ (w3.alloc (.cells ka 80)).heap.size := by simp
          generalize w3.alloc (.cells ka 80) = w4 at G1 G2 G3 hb4 hs4 ⊢
          clear hb3
          generalize w3.heap.size = C at G2 hs3 hs4 ⊢
          generalize hH : wr.heap.size = H at G1 hs2 hs3 ⊢
          clear hH hb2 F0 HKK HK1
          go_loopw [8] (fun i wr => ∃ (k i0 : Nat) (s : Sh.St), i = .int .i64 (i0 : Int) ∧ Hid (i0 = 64 * k) ∧ k ≤ Sh.blocks l.length ∧ Hid (Sh.proc k Sh.start a.data.toList = s) ∧ Hid (wr.heap[H]? = some (.cells (stA s) 79)) ∧ Hid (wr.heap[C]? = some (.cells ka 80)) ∧ Hid (wr.heap[w.heap.size]? = some (.cells (idA []) 35)) ∧ Below w.heap.size w wr ∧ C + 1 ≤ wr.heap.size) (fun i _ => 64 * Sh.blocks l.length - (intOf i).toNat)
          case atStart => exact ⟨0, 0, _, rfl, rfl, Nat.zero_le _, rfl, G1, G2, G3, hb4, hs4⟩
          case round =>
            clear G1 G2 G3 hb4 hs4
            obtain ⟨k, i0, s, rfl, HI0, hk, HP, G1, G2, G3, hb4, hs4⟩ := hrel
            by_cases hlt : k < Sh.blocks l.length
            · have hi1 : i0 + 64 ≤ a.size := by rw [HI0.out, HSz.out]; omega
              have hi2 : (i0 : Int) + 64 ≤ (a.size : Int) := by omega
              have hi3 : a.size ≤ 140737488355328 + 64 := by omega
              have hw1 : IntKind.i64.wrap ((i0 : Int) + 64) = (i0 : Int) + 64 := IntWalk.i64_in _ (by omega)
              have hw2 : ((i0 : Int) + 64).toNat = i0 + 64 := by omega
              have hw3 : 0 ≤ (i0 : Int) + 64 := by omega
              have hw4 : (i0 : Int) ≤ (i0 : Int) + 64 := by omega
              have HLD := Lib.hid <| loadAt_row (P := Tryd.prog) wr.drew C 80 80 ka _ G2.out Tryd.underlying80 rfl HI.out
              have k0 := cell_of_row wr H 0 _ _ _ G1.out
              have k1 := cell_of_row wr H 1 _ _ _ G1.out
              have k2 := cell_of_row wr H 2 _ _ _ G1.out
              have k3 := cell_of_row wr H 3 _ _ _ G1.out
              have k4 := cell_of_row wr H 4 _ _ _ G1.out
              have k5 := cell_of_row wr H 5 _ _ _ G1.out
              have k6 := cell_of_row wr H 6 _ _ _ G1.out
              have k7 := cell_of_row wr H 7 _ _ _ G1.out
              simp only [stA, List.getElem?_toArray, List.getElem?_cons_zero, List.getElem?_cons_succ] at k0 k1 k2 k3 k4 k5 k6 k7
              go_wp2
              refine region_tail 7 (by kernel_rfl) (by kernel_rfl) ?_
              simp only [List.take_succ_cons, List.take_zero, List.drop_succ_cons, List.drop_zero]
              repeat still_step
              refine wpStill_load_row (by rfl) _ _ (by rfl) C (by rfl) HLD.out ?_
              refine wpStill_nil ?_
              clear HLD
              go_wp2_with fail
              refine (HBL.out s (a.extract i0 (i0 + 64)) wr.drew (by simp; omega)).mono ?_
              have hx : (a.extract i0 (i0 + 64)).data.toList = (a.data.toList.drop (64 * k)).take 64 := by rw [extract_mid a i0 hi1, HI0.out]
              rw [hx]
              clear hx
              have HP2 := Lib.hid (show Sh.proc (k + 1) Sh.start a.data.toList = Sh.mix s ((a.data.toList.drop (64 * k)).take 64) by rw [Sh.proc_succ, HP.out])
              generalize Sh.mix s ((a.data.toList.drop (64 * k)).take 64) = s' at HP2 ⊢
              rintro r w6 ⟨rfl, hb6⟩
              have hs6 : wr.heap.size ≤ w6.heap.size := hb6.size
              have G6 := Lib.hid ((hb6.block H (by simp; omega)).trans G1.out)
              have G7 := Lib.hid ((hb6.block C (by simp; omega)).trans G2.out)
              have G8 := Lib.hid ((hb6.block w.heap.size (by simp; omega)).trans G3.out)
              have hb7 : Below w.heap.size w w6 := hb4.drew.trans (hb6.mono (by simp; omega))
              clear hb6 k0 k1 k2 k3 k4 k5 k6 k7
              simp only [stA]
              have z0 := cell_of_row w6 H 0 _ _ _ G6.out
              have z1 := cell_of_row w6 H 1 _ _ _ G6.out
              have z2 := cell_of_row w6 H 2 _ _ _ G6.out
              have z3 := cell_of_row w6 H 3 _ _ _ G6.out
              have z4 := cell_of_row w6 H 4 _ _ _ G6.out
              have z5 := cell_of_row w6 H 5 _ _ _ G6.out
              have z6 := cell_of_row w6 H 6 _ _ _ G6.out
              have z7 := cell_of_row w6 H 7 _ _ _ G6.out
              have y0 := frozen_of_row w6 H 0 _ _ G6.out
              have y1 := frozen_of_row w6 H 1 _ _ G6.out
              have y2 := frozen_of_row w6 H 2 _ _ G6.out
              have y3 := frozen_of_row w6 H 3 _ _ G6.out
              have y4 := frozen_of_row w6 H 4 _ _ G6.out
              have y5 := frozen_of_row w6 H 5 _ _ G6.out
              have y6 := frozen_of_row w6 H 6 _ _ G6.out
              have y7 := frozen_of_row w6 H 7 _ _ G6.out
              simp only [stA, List.getElem?_toArray, List.getElem?_cons_zero, List.getElem?_cons_succ] at z0 z1 z2 z3 z4 z5 z6 z7
              go_wp2
              go_roundw
              case rel => exact ⟨k + 1, i0 + 64, s', by go_num, by rw [HI0.out]; exact (Nat.mul_succ 64 k).symm, by omega, HP2, set8_held G6.out _ _ _ _ _ _ _ _, set8_apart G7.out (by omega) _ _ _ _ _ _ _ _, set8_apart G8.out (by omega) _ _ _ _ _ _ _ _, set8_below hb7 (by omega) _ _ _ _ _ _ _ _, by simp; omega⟩
              case measure =>
                have := HI0.out
                simp [intOf]; omega
            · have HT := Lib.hid (show k = Sh.blocks l.length by omega)
              have hi2 : ¬ ((i0 : Int) + 64 ≤ (a.size : Int)) := by have h1 := HI0.out; have h2 := HSz.out; have h3 := HT.out; omega
              have hi3 : i0 ≤ 140737488355328 + 64 := by have h1 := HI0.out; have h2 := HSz.out; have h3 := HT.out; omega
              have HF := Lib.hid (show Sh.idOf s = M by rw [← HM.out, Sh.sha, ← HP.out, HT.out, HMsg.out])
              go_upto_region 15 with (fail)
              refine wp_region_list ?_
              refine wpList_build_zero rfl 35 rfl (idA []) (by kernel_rfl) ?_
              intro zz HZ
              have HIz : Hid ((Tryd.prog.info? 35).map (·.size) = some zz.size) := by rw [HZ.out]; exact idsize (by decide)
              have H1z : Hid (zz.all (·.oneCell') = true) := by rw [HZ.out]; exact idA_one []
              have HSz2 : Hid (zz.size = 32) := by rw [HZ.out]; rfl
              go_wp2_with (refine wpList_store_row rfl 35 _ _ rfl wr.heap.size _ rfl rfl _ _ (heap_alloc_new _ _) HIz.out (by rw [HSz2.out]; rfl) H1z.out ?_)
              rw [World.setRow_alloc_new, HZ.out]
              have K1 := Lib.hid ((Below.heap_alloc wr (.cells (idA []) 35) H (by omega)).trans G1.out)
              have K2 := Lib.hid ((Below.heap_alloc wr (.cells (idA []) 35) w.heap.size (by omega)).trans G3.out)
              have K3 := Lib.hid (heap_alloc_new wr (.cells (idA []) 35))
              have hb9 := hb4.alloc (by omega) (.cells (idA []) 35)
              generalize wr.alloc (.cells (idA []) 35) = w9 at K1 K2 K3 hb9 ⊢
              have hO : C + 1 ≤ wr.heap.size := hs4
              generalize wr.heap.size = O at K3 hO ⊢
              clear G1 G2 G3 hb4 hs4 HIz H1z HSz2 hi2 hi3 hlt hk HT HMsg HP
              go_loopw [10] (fun v wr => ∃ (k : Nat), k ≤ 32 ∧ v = .int .i64 k ∧ Hid (wr.heap[H]? = some (.cells (stA s) 79)) ∧ Hid (wr.heap[w.heap.size]? = some (.cells (idA []) 35)) ∧ Hid (wr.heap[O]? = some (.cells (idA ((List.range k).map (Sh.byteOf s))) 35)) ∧ Below w.heap.size w wr) (fun v _ => 32 - (intOf v).toNat)
              case atStart => exact ⟨0, by omega, rfl, K1, K2, K3, hb9⟩
              case round =>
                clear K1 K2 K3 hb9
                obtain ⟨k, hk, rfl, K1, K2, K3, hb9⟩ := hrel
                by_cases hlt : k < 32
                · have c1 := (cell_of_row wr H (k / 4) _ _ _ K1.out).trans (stA_get s (k / 4) (by omega))
                  have c2 := (cell_of_row wr O k _ _ _ K3.out).trans (idA_rest _ k (by simp) (by omega))
                  have c3 := frozen_of_row wr O k _ _ K3.out
                  have HB := Lib.hid (byteOf_eq s k)
                  generalize s.list.getD (k / 4) 0 = x at c1 HB
                  have hd : IntKind.u64.wrap (24 - 8 * ((k : Int) % 4)) = ((24 - 8 * (k % 4) : Nat) : Int) := by
                    simp [IntKind.wrap, IntKind.bits, IntKind.signed]; omega
                  have hd0 : 0 ≤ 24 - 8 * ((k : Int) % 4) := by omega
                  have hk4 : (k : Int) / 4 < 8 := by omega
                  have hk5 : ((k : Int) / 4).toNat = k / 4 := by omega
                  have hlt' : (k : Int) < 32 := by omega
                  go_wp2
                  rw [← HB.out]
                  refine ⟨⟨k + 1, by omega, by go_num, held_apart K1.out _ _ _ (by omega), held_apart K2.out _ _ _ (by omega), ?_, hb9.setCell (by simp; omega) _⟩, by simp [intOf]; omega⟩
                  rw [range_take, ← idA_push _ _ (by simp; omega)]
                  have := held_set K3.out k (.int .u8 ((Sh.byteOf s k).toNat : Int))
                  simpa [Hid] using this
                · have HT := Lib.hid (show (List.range k).map (Sh.byteOf s) = M by rw [← HF.out, show k = 32 by omega]; rfl)
                  have hl : M.length ≤ 32 := by rw [← HT.out]; simp; omega
                  rw [HT.out] at K3
                  have HI := Lib.hid (idsize hl)
                  have H0 := Lib.hid (show (idA []).size = (idA M).size by rw [idA_size M hl]; rfl)
                  have hu := Lib.hid Tryd.underlying35
                  go_wp2_with (first | (refine wpList_load_row rfl 35 _ rfl O rfl _ _ _ _ K3.out hu.out rfl HI.out ?_) | (refine wpList_store_row rfl 35 _ _ rfl w.heap.size _ rfl rfl _ _ K2.out HI.out H0.out (idA_one _) ?_))
                  refine bodyPost_ret (v := .agg (idA M)) ?_ rfl ⟨rfl, below_setRow hb9 (Nat.le_refl _) _⟩
                  exact results_cell_row (by rfl) _ _ w.heap.size _ _ _ _ (by rfl) (setRow_heap _ _ _ _ _ _ K2.out) hu.out rfl HI.out
    · have hk' := gap_more _ _ hk h56
      have hd : ((a.size : Int) % 64 != 56) = true := by rw [bne_iff_ne]; omega
      have hcv := conv_one wr 0 0 rfl
      have HA2 := Lib.hid (show (a ++ ByteArray.mk #[0]).data.toList = zs l (k + 1) by rw [app_data, HA.out, zs_succ])
      have hsz2 : (a ++ ByteArray.mk #[0]).size = l.length + 1 + (k + 1) := by rw [← len_data, HA2.out, zs_len]
      have HSZ2 := Lib.hid hsz2
      clear hsz hsz2
      go_wp2
      refine ⟨⟨k + 1, a ++ ByteArray.mk #[0], rfl, HA2, by omega, (Below.heap_alloc _ _ _ (by omega)).trans F0.out, hb2.alloc (by omega) _, by simp; omega⟩, ?_⟩
      have h1 := HSZ.out
      have h2 := HSZ2.out
      simp only [strLen]
      omega

end Go.Proofs.YtipigedopmgemaaDoor.S2
end

section
namespace Go.Proofs.YtipigedopmgemaaDoor.S2
open Go.RowKit
set_option linter.unusedVariables false
set_option linter.unusedSimpArgs false
open Sh (Wd)

/-- Whether the first byte in which two rows differ is smaller in the first one. -/
def ltB : List UInt8 → List UInt8 → Bool
  | x :: r, y :: q => if x = y then ltB r q else decide (x.toNat < y.toNat)
  | _, _ => false
theorem ltB_step : ∀ (i : Nat) (a b : List UInt8), a.length = b.length → i < a.length → (∀ j, j < i → a.getD j 0 = b.getD j 0) → a.getD i 0 ≠ b.getD i 0 → ltB a b = decide ((a.getD i 0).toNat < (b.getD i 0).toNat)
  | 0, x :: r, y :: q, _, _, _, h => by
    have h' : x ≠ y := by simpa using h
    simp [ltB, h']
  | i + 1, x :: r, y :: q, hl, hi, he, h => by
    have h0 : x = y := by simpa using he 0 (by omega)
    have ih := ltB_step i r q (by simpa using hl) (by simpa using hi) (fun j hj => by simpa using he (j + 1) (by omega)) (by simpa using h)
    simp [ltB, h0]
    simpa using ih
  | _, [], _, _, hi, _, _ => by simp at hi
  | _, _ :: _, [], hl, _, _, _ => by simp at hl
theorem ltB_same : ∀ (a b : List UInt8), a.length = b.length → (∀ j, j < a.length → a.getD j 0 = b.getD j 0) → ltB a b = false
  | [], [], _, _ => rfl
  | x :: r, y :: q, hl, he => by
    have h0 : x = y := by simpa using he 0 (by simp)
    have ih := ltB_same r q (by simpa using hl) (fun j hj => by simpa using he (j + 1) (by simpa using hj))
    simp [ltB, h0, ih]
  | [], _ :: _, hl, _ => by simp at hl
  | _ :: _, [], hl, _ => by simp at hl

set_option maxHeartbeats 800000 in
set_option maxRecDepth 100000 in
theorem less_any (a b : List UInt8) (w : World) (ha : a.length = 32) (hb : b.length = 32) :
    Calls Tryd.prog 50 #[.agg (idA a), .agg (idA b)] w fun r w' => r = .returned (.bool (ltB a b)) ∧ Below w.heap.size w w' := by
  have HA := Lib.hid ha
  have HB := Lib.hid hb
  have CA := Lib.hid (fun (i : Nat) (hi : i < 32) => idA_get a i (by omega))
  have CB := Lib.hid (fun (i : Nat) (hi : i < 32) => idA_get b i (by omega))
  clear ha hb
  generalize hia : idA a = ia at CA
  generalize hib : idA b = ib at CB
  clear hia hib
  generalize hR : ltB a b = R
  have HR := Lib.hid hR
  clear hR
  go_enter Tryd.func50, Tryd.ntmps50
  go_wp2
  go_loopw [6] (fun v wr => ∃ (k : Nat), k ≤ 32 ∧ v = .int .i64 k ∧ Hid (∀ j, j < k → a.getD j 0 = b.getD j 0) ∧ Hid (wr.heap[w.heap.size]? = some (.cells ia 35)) ∧ Hid (wr.heap[w.heap.size + 1]? = some (.cells ib 35)) ∧ Below w.heap.size w wr) (fun v _ => 32 - (intOf v).toNat)
  case atStart => exact ⟨0, by omega, rfl, fun j hj => absurd hj (by omega), heap_alloc2_old _ _ _, heap_alloc2_new _ _ _, ((Below.refl _ _).alloc (Nat.le_refl _) _).alloc (by simp) _⟩
  case round =>
    obtain ⟨k, hk, rfl, HJ, E0, E1, hbr⟩ := hrel
    by_cases hlt : k < 32
    · have c1 := (cell_of_row wr w.heap.size k _ _ _ E0.out).trans (CA.out k hlt)
      have c2 := (cell_of_row wr (w.heap.size + 1) k _ _ _ E1.out).trans (CB.out k hlt)
      have hlt' : (k : Int) < 32 := by omega
      by_cases he : a.getD k 0 = b.getD k 0
      · have HJ2 : Hid (∀ j, j < k + 1 → a.getD j 0 = b.getD j 0) := fun j hj => by
          rcases Nat.lt_or_ge j k with h | h
          · exact HJ.out j h
          · rw [show j = k by omega]; exact he
        rw [he] at c1
        have hne : (((b.getD k 0).toNat : Int) != ((b.getD k 0).toNat : Int)) = false := by simp
        generalize b.getD k 0 = x at c1 c2 hne
        clear he HJ
        go_wp2
        refine region_still (by kernel_rfl) (by kernel_rfl) ?_
        repeat still_step
        refine wpStill_nil ?_
        go_wp2
        go_roundw
        case rel => exact ⟨k + 1, by omega, by go_num, HJ2, E0, E1, hbr.drew⟩
        case measure => simp [intOf]; omega
      · have HS := Lib.hid (ltB_step k a b (by rw [HA.out, HB.out]) (by rw [HA.out]; exact hlt) HJ.out he)
        have hne : (((a.getD k 0).toNat : Int) != ((b.getD k 0).toNat : Int)) = true := by
          rw [bne_iff_ne]; intro h; exact he (UInt8.toNat_inj.1 (by omega))
        generalize a.getD k 0 = x at c1 HS hne
        generalize b.getD k 0 = y at c2 HS hne
        clear he HJ
        go_wp2
        refine region_still (by kernel_rfl) (by kernel_rfl) ?_
        repeat still_step
        refine wpStill_nil ?_
        go_wp2
        refine region_still (by kernel_rfl) (by kernel_rfl) ?_
        repeat still_step
        refine wpStill_nil ?_
        go_wp2
        go_ret
        exact ⟨by rw [← HR.out, HS.out]; rfl, hbr.drew.drew⟩
    · have HS := Lib.hid (ltB_same a b (by rw [HA.out, HB.out]) (fun j hj => HJ.out j (by rw [HA.out] at hj; omega)))
      go_wp2
      go_ret
      exact ⟨by rw [← HR.out, HS.out]; rfl, hbr⟩

set_option maxHeartbeats 800000 in
set_option maxRecDepth 100000 in
theorem refless_any (a b : List UInt8) (w : World) (ha : a.length = 32) (hb : b.length = 32) :
    Calls Tryd.prog 29 #[.agg (idA a), .agg (idA b)] w fun r w' => r = .returned (.bool (ltB a b)) ∧ Below w.heap.size w w' := by
  have HA := Lib.hid ha
  have HB := Lib.hid hb
  have CA := Lib.hid (fun (i : Nat) (hi : i < 32) => idA_get a i (by omega))
  have CB := Lib.hid (fun (i : Nat) (hi : i < 32) => idA_get b i (by omega))
  clear ha hb
  generalize hia : idA a = ia at CA
  generalize hib : idA b = ib at CB
  clear hia hib
  generalize hR : ltB a b = R
  have HR := Lib.hid hR
  clear hR
  go_enter Tryd.func29, Tryd.ntmps29
  go_wp2
  go_loopw [5] (fun v wr => ∃ (k : Nat), k ≤ 32 ∧ v = .int .i64 k ∧ Hid (∀ j, j < k → a.getD j 0 = b.getD j 0) ∧ Hid (wr.heap[w.heap.size]? = some (.cells ia 35)) ∧ Hid (wr.heap[w.heap.size + 1]? = some (.cells ib 35)) ∧ Below w.heap.size w wr) (fun v _ => 32 - (intOf v).toNat)
  case atStart => exact ⟨0, by omega, rfl, fun j hj => absurd hj (by omega), heap_alloc2_old _ _ _, heap_alloc2_new _ _ _, ((Below.refl _ _).alloc (Nat.le_refl _) _).alloc (by simp) _⟩
  case round =>
    obtain ⟨k, hk, rfl, HJ, E0, E1, hbr⟩ := hrel
    by_cases hlt : k < 32
    · have c1 := (cell_of_row wr w.heap.size k _ _ _ E0.out).trans (CA.out k hlt)
      have c2 := (cell_of_row wr (w.heap.size + 1) k _ _ _ E1.out).trans (CB.out k hlt)
      have hlt' : (k : Int) < 32 := by omega
      by_cases he : a.getD k 0 = b.getD k 0
      · have HJ2 : Hid (∀ j, j < k + 1 → a.getD j 0 = b.getD j 0) := fun j hj => by
          rcases Nat.lt_or_ge j k with h | h
          · exact HJ.out j h
          · rw [show j = k by omega]; exact he
        rw [he] at c1
        have hne : (((b.getD k 0).toNat : Int) != ((b.getD k 0).toNat : Int)) = false := by simp
        generalize b.getD k 0 = x at c1 c2 hne
        clear he HJ
        go_wp2
        refine region_still (by kernel_rfl) (by kernel_rfl) ?_
        repeat still_step
        refine wpStill_nil ?_
        go_wp2
        go_roundw
        case rel => exact ⟨k + 1, by omega, by go_num, HJ2, E0, E1, hbr.drew⟩
        case measure => simp [intOf]; omega
      · have HS := Lib.hid (ltB_step k a b (by rw [HA.out, HB.out]) (by rw [HA.out]; exact hlt) HJ.out he)
        have hne : (((a.getD k 0).toNat : Int) != ((b.getD k 0).toNat : Int)) = true := by
          rw [bne_iff_ne]; intro h; exact he (UInt8.toNat_inj.1 (by omega))
        generalize a.getD k 0 = x at c1 HS hne
        generalize b.getD k 0 = y at c2 HS hne
        clear he HJ
        go_wp2
        refine region_still (by kernel_rfl) (by kernel_rfl) ?_
        repeat still_step
        refine wpStill_nil ?_
        go_wp2
        refine region_still (by kernel_rfl) (by kernel_rfl) ?_
        repeat still_step
        refine wpStill_nil ?_
        go_wp2
        go_ret
        exact ⟨by rw [← HR.out, HS.out]; rfl, hbr.drew.drew⟩
    · have HS := Lib.hid (ltB_same a b (by rw [HA.out, HB.out]) (fun j hj => HJ.out j (by rw [HA.out] at hj; omega)))
      go_wp2
      go_ret
      exact ⟨by rw [← HR.out, HS.out]; rfl, hbr⟩

/-! ### Figures -/
def hexd (n : Nat) : UInt8 := if n < 10 then UInt8.ofNat (48 + n) else UInt8.ofNat (87 + n)
def hexL (l : List UInt8) : List UInt8 := l.flatMap fun x => [hexd (x.toNat / 16), hexd (x.toNat % 16)]
theorem hexL_length (l : List UInt8) : (hexL l).length = 2 * l.length := by
  induction l with
  | nil => rfl
  | cons x r ih => simp only [hexL, List.flatMap_cons, List.length_append, List.length_cons] at ih ⊢; simp at ih ⊢; omega
theorem hexL_snoc (l : List UInt8) (x : UInt8) : hexL (l ++ [x]) = hexL l ++ [hexd (x.toNat / 16)] ++ [hexd (x.toNat % 16)] := by simp [hexL]
def figs : ByteArray := ⟨#[48, 49, 50, 51, 52, 53, 54, 55, 56, 57, 97, 98, 99, 100, 101, 102]⟩
theorem figs_get : ∀ k : Fin 16, figs.data.toList.getD k.val 0 = hexd k.val := by decide
theorem fig_lit (k : Nat) (h : k < (ByteArray.mk #[48, 49, 50, 51, 52, 53, 54, 55, 56, 57, 97, 98, 99, 100, 101, 102]).size) : (ByteArray.mk #[48, 49, 50, 51, 52, 53, 54, 55, 56, 57, 97, 98, 99, 100, 101, 102])[k]'h = hexd k := by
  have h16 : k < 16 := h
  have h2 := figs_get ⟨k, h16⟩
  rw [← h2]
  show _ = figs.data.toList.getD k 0
  rw [List.getD_eq_getElem?_getD, List.getElem?_eq_getElem (show k < figs.data.toList.length from h16)]
  rfl

/-- Places of bytes, the first of them filled. -/
def fA (n : Nat) (l : List UInt8) : Array Value := (l.map bv ++ List.replicate (n - l.length) (Value.int .u8 0)).toArray
theorem fA_size (n : Nat) (l : List UInt8) (h : l.length ≤ n) : (fA n l).size = n := by simp [fA]; omega
theorem fA_get (n : Nat) (l : List UInt8) (i : Nat) (h : i < l.length) : (fA n l)[i]? = some (.int .u8 ((l.getD i 0).toNat : Int)) := by
  simp only [fA, List.getElem?_toArray, List.getD_eq_getElem?_getD]
  rw [List.getElem?_append_left (by simpa using h), List.getElem?_map, List.getElem?_eq_getElem h]
  rfl
theorem fA_rest (n : Nat) (l : List UInt8) (i : Nat) (h : l.length ≤ i) (h2 : i < n) : (fA n l)[i]? = some (.int .u8 0) := by
  simp only [fA, List.getElem?_toArray]
  rw [List.getElem?_append_right (by simpa using h), List.getElem?_replicate, if_pos (by simp; omega)]
theorem fA_push (n : Nat) (l : List UInt8) (x : UInt8) (h : l.length < n) : (fA n l).setIfInBounds l.length (.int .u8 (x.toNat : Int)) = fA n (l ++ [x]) := by
  apply Array.ext_getElem?
  intro i
  simp only [fA, List.setIfInBounds_toArray, List.getElem?_toArray]
  rw [List.set_append_right _ _ (by simp)]
  simp only [List.length_map, Nat.sub_self, List.map_append, List.map_cons, List.map_nil, List.length_append, List.length_cons, List.length_nil, List.append_assoc]
  rw [show n - l.length = (n - (l.length + (0 + 1))) + 1 by omega, List.replicate_succ, List.set_cons_zero]
  rfl

theorem index_id (ia : Array Value) (k : Nat) (hk : k < 32) (v : Value) (hv : ia[k]? = some v) (w : World) : (Instr.index 35 (.agg ia) (.int .i64 (k : Int))).run Tryd.prog w = .ok v w := by
  have h1 : (0 : Int) ≤ (k : Int) ∧ (k : Int) < ((32 : Nat) : Int) := by omega
  simp [Instr.index, asIntOf, run_underlying Tryd.underlying35, Result.andThen, h1, Tryd.sizeOf5, part, Tryd.isAgg5, hv, hk]

end Go.Proofs.YtipigedopmgemaaDoor.S2
end

section
namespace Go.Proofs.YtipigedopmgemaaDoor.S2
open Go.RowKit
set_option linter.unusedVariables false
set_option linter.unusedSimpArgs false
open Sh (Wd)

/-- SHA-256 of "abc". -/
def abc : List UInt8 := [186, 120, 22, 191, 143, 1, 207, 234, 65, 65, 64, 222, 93, 174, 34, 35, 176, 3, 97, 163, 150, 23, 122, 156, 180, 16, 255, 97, 242, 0, 21, 173]
set_option maxRecDepth 100000 in
theorem sha_abc : Sh.idOf (Sh.sha [97, 98, 99]) = abc := by decide +kernel
theorem flat_one (x : ByteArray) : flat [x] = x.data.toList := by simp [flat]
theorem sum_abc (w : World) (hk : KIn w) : Calls Tryd.prog 45 #[.slice (some ⟨w.heap.size, 0, none⟩) 1 1] (w.alloc (.cells #[.string ⟨#[97, 98, 99]⟩] 9)) fun r w' => r = .returned (.agg (idA abc)) ∧ Below (w.heap.size + 1) (w.alloc (.cells #[.string ⟨#[97, 98, 99]⟩] 9)) w' := by
  have h := sum_any [⟨#[97, 98, 99]⟩] w.heap.size 0 1 (w.alloc (.cells #[.string ⟨#[97, 98, 99]⟩] 9)) (fun j x hx => by
    match j, hx with
    | 0, hx => simp at hx; subst hx; simp
    | (j + 1), hx => simp at hx) (by simp) (by decide) (by decide) (by rw [flat_one]; decide) (hk.more _)
  rw [flat_one, show (ByteArray.mk #[97, 98, 99]).data.toList = [97, 98, 99] from rfl, sha_abc] at h
  refine h.mono ?_
  rintro r w' ⟨h1, h2⟩
  exact ⟨h1, by simpa using h2⟩

/-- A whole array out of a block that is known, behind a guard that is met. -/
theorem wpList_load_row_g {P : Program} {ops : Array Oper} {rest : List Oper} {o : Oper} {a : Act} {w : World} {Q : Exit → Act → World → Prop} (hw : Region.wanted o (yielded ops a.tmps) = true) (ty : TypeId) (x : Operand) (ho : o.op = .load ty x)
    (g : Nat) (hx : a.eval x = .pointer (some ⟨g, 0, none⟩)) (t : TypeId) (cs : Array Value) (fr : Nat × Nat) (d : TypeDesc) (hg : w.heap[g]? = some (.cells cs t fr))
    (hu : P.underlying ty = some d) (hd : (match d with | .struct _ | .array _ _ => true | _ => false) = true) (hi : (P.info? ty).map (·.size) = some cs.size)
    (h : wpList P ops Q rest (a.put o.dst (.agg cs)) w) : wpList P ops Q (o :: rest) a w :=
  wpList_step fun K hK => by rw [if_pos hw]; exact wp_load_row ty x ho g hx t cs fr d hg hu hd hi (hK _ _ h)

def one : List UInt8 := 1 :: List.replicate 31 0
def two : List UInt8 := 2 :: List.replicate 31 0
theorem less_12 (w : World) : Calls Tryd.prog 50 #[.agg (idA one), .agg (idA two)] w fun r w' => r = .returned (.bool true) ∧ Below w.heap.size w w' := less_any one two w rfl rfl
theorem hex_abc8 : (ByteArray.mk (hexL abc).toArray).extract 0 8 = ⟨#[98, 97, 55, 56, 49, 54, 98, 102]⟩ := by decide
theorem hex_size : (ByteArray.mk (hexL abc).toArray).size = 64 := by decide

end Go.Proofs.YtipigedopmgemaaDoor.S2
end

section
namespace Go.Proofs.YtipigedopmgemaaDoor.S2
open Go.RowKit
set_option linter.unusedVariables false
set_option linter.unusedSimpArgs false
open Sh (Wd)

theorem cells_byte : Tryd.prog.cellsOf 5 = 1 := by kernel_rfl
theorem part_byte (xs : Array Value) (i : Nat) (v : Value) (h : xs[i]? = some v) (w : World) : (part 5 xs (i * 1)).run Tryd.prog w = .ok v w := by
  simp [part, Tryd.isAgg5, h, Result.andThen]
theorem eqItems_same (d : Nat) (xs : Array Value) (w : World) : ∀ is : List Nat, (∀ i ∈ is, ∃ z, xs[i]? = some (.int .u8 z)) → (Op.eqItems (d + 1) 5 1 xs xs is).run Tryd.prog w = .ok true w
  | [], _ => by simp [Op.eqItems]
  | i :: is, h => by
    obtain ⟨z, hz⟩ := h i (by simp)
    have ih := eqItems_same d xs w is (fun j hj => h j (by simp [hj]))
    simp only [Op.eqItems, Sem.run_bind, part_byte xs i _ hz, Result.andThen_ok, run_equalIn_int w d 5 .u8 .u8 z z Tryd.underlying5]
    simpa using ih
/-- An id is itself. -/
theorem eq_same (l : List UInt8) (hl : l.length = 32) (w : World) : (Op.equalIn 10000 35 (.agg (idA l)) (.agg (idA l))).run Tryd.prog w = .ok true w := by
  obtain ⟨i, hi, _⟩ := info_byte
  rw [show (10000 : Nat) = 9998 + 1 + 1 from rfl, run_equalIn_array w (9998 + 1) (idA l) (idA l) Tryd.underlying35 hi, cells_byte]
  exact eqItems_same 9998 (idA l) w (List.range 32) (fun j hj => ⟨_, idA_get l j (by rw [hl]; simpa using hj)⟩)

theorem sum_one (x : ByteArray) (w : World) (hk : KIn w) (hl : x.size ≤ 70368744177664) : Calls Tryd.prog 45 #[.slice (some ⟨w.heap.size, 0, none⟩) 1 1] (w.alloc (.cells #[.string x] 9)) fun r w' => r = .returned (.agg (idA (Sh.idOf (Sh.sha x.data.toList)))) ∧ Below (w.heap.size + 1) (w.alloc (.cells #[.string x] 9)) w' := by
  have h := sum_any [x] w.heap.size 0 1 (w.alloc (.cells #[.string x] 9)) (fun j y hy => by
    match j, hy with
    | 0, hy => simp at hy; subst hy; simp
    | (j + 1), hy => simp at hy) (by simp) (by simp) (by simp) (by rw [flat_one]; simpa using hl) (hk.more _)
  rw [flat_one] at h
  refine h.mono ?_
  rintro r w' ⟨h1, h2⟩
  exact ⟨h1, by simpa using h2⟩

end Go.Proofs.YtipigedopmgemaaDoor.S2
end

section
namespace Go.Proofs.YtipigedopmgemaaDoor.S2
open Go.ChangeShapes Go.WideShapes Go.ChangeAt Go.RowKit
set_option linter.unusedVariables false

theorem Tryd.own : ownKnob Tryd.prog.godebug = none := by kernel_rfl
theorem gK : Tryd.prog.globalNamed "knapsack/sha256.roundWords" = some 0 := by kernel_rfl
theorem tK : (Tryd.prog.globals[0]?).map (·.type) = some 80 := by kernel_rfl
theorem cK : Tryd.prog.cellsOf 80 = 64 := by kernel_rfl
theorem cW : Tryd.prog.cellsOf 40 = 1 := by kernel_rfl
def Kz : List Int := Sh.K.map fun x => (x.toNat : Int)
def laidK : List (String × DataW Unit) := [("knapsack/sha256.roundWords", Lib.tabData .u32 Kz)]
theorem laid_is : [("knapsack/sha256.roundWords", Rows.laid_knapsack_sha256_roundWords)] = laidK := by kernel_rfl
theorem kz_get (t : Nat) (h : t < 64) : Kz.getD t 0 = ((Sh.K.getD t 0).toNat : Int) := by
  have hl : t < Sh.K.length := by rw [K_len]; exact h
  rw [Kz, List.getD_eq_getElem?_getD, List.getD_eq_getElem?_getD, List.getElem?_map, List.getElem?_eq_getElem hl]
  rfl

theorem kin_of_laid {W : World} (h : laidMetH Tryd.prog [("knapsack/sha256.roundWords", Rows.laid_knapsack_sha256_roundWords)] W) : KIn W := by
  rw [laid_is, MakeChecks.laidMetH_plain _ _ _ (by kernel_rfl)] at h
  have ht := Lib.tabIs_of_head gK tK Tryd.underlying80 Tryd.underlying40 cW cK h
  have hc : ∀ t, t < 64 → W.cell? ⟨0, t, none⟩ = some (.int .u32 ((Sh.K.getD t 0).toNat : Int)) := fun t hlt => by
    rw [← kz_get t hlt]
    exact ht.cell gK t (by rw [Kz, List.length_map, K_len]; exact hlt)
  refine ⟨?_, hc⟩
  rcases Nat.eq_zero_or_pos W.heap.size with h0 | h0
  · have := hc 0 (by decide)
    simp [World.cell?, Array.getElem?_eq_none (show W.heap.size ≤ 0 by omega)] at this
  · exact h0

theorem door_met (os : Os) (args : Array Value) : laidMetH Tryd.prog [("knapsack/sha256.roundWords", Rows.laid_knapsack_sha256_roundWords)] ((World.doorLaid Tryd.prog 400 os).forCall (fun _ _ => 0) ⟨#[], args, []⟩).memory :=
  laidMetH_of_parts3 (fuel := 8) (laidMet_of_run' 8 (by kernel_rfl) (by kernel_rfl)) (by kernel_rfl) (by kernel_rfl)

end Go.Proofs.YtipigedopmgemaaDoor.S2
end
