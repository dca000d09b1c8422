/-
  WALKS OF LAYER 2: Sum.
-/
import Derived.Test.YtijlmeodfmanmaaDoorWalksD
import Derived.Test.YtijlmeodfmanmaaDoorWalksE
import Derived.Test.YtijlmeodfmanmaaDoorWalksF
import Derived.Test.YtijlmeodfmanmaaDoorShelf
import Derived.Deep.Cut
import Derived.Deep.CutRange
import Derived.Deep.RegionHeld3
namespace Go.Proofs.YtijlmeodfmanmaaDoor
open Go.RowKit
set_option linter.unusedVariables false
set_option linter.unusedSimpArgs false
open Sh (Wd)

theorem bcell {W w1 : World} (hb : Below W.heap.size W w1) : (∀ b o, b < W.heap.size → w1.cell? ⟨b, o, none⟩ = W.cell? ⟨b, o, none⟩) ∧ (∀ b o, b < W.heap.size → w1.frozen? ⟨b, o, none⟩ = W.frozen? ⟨b, o, none⟩) :=
  ⟨fun b o h => hb.cell (p := ⟨b, o, none⟩) h, fun b o h => hb.frozen (p := ⟨b, o, none⟩) h⟩
theorem KIn.step {w w' : World} (h : KIn w) (hb : Below w.heap.size w w') : KIn w' := h.below hb h.pos
theorem KIn.more {w : World} (h : KIn w) (o : Obj) : KIn (w.alloc o) := ⟨by simp, fun t ht => (World.cell?_alloc_lt w o ⟨0, t, none⟩ h.1).trans (h.2 t ht)⟩
theorem KIn.drawn {w : World} (h : KIn w) : KIn w.drew := h

/-- Strings, one behind the other. -/
def flat (Xs : List ByteArray) : List UInt8 := (Xs.map (·.data.toList)).flatten
theorem join_flat (Xs : List ByteArray) : Lib.join (Xs.map (·.data.toList)) (ByteArray.mk #[]).data.toList = flat Xs := by
  unfold flat
  cases Xs with
  | nil => rfl
  | cons x r =>
    rw [List.map_cons, Lib.join_cons, List.flatten_cons]
    have e : (r.map (·.data.toList)).map ((ByteArray.mk #[]).data.toList ++ ·) = r.map (·.data.toList) := by rw [List.map_map]; rfl
    rw [Lib.joinTail, e]

theorem sha_split (l : List UInt8) (b : ByteArray) (hb : b.data.toList = l) :
    Sh.proc ((Sh.ending (b.data.toList.drop (l.length - l.length % 64)) l.length).length / 64) (Sh.proc ((l.take (l.length - l.length % 64)).length / 64) Sh.start (l.take (l.length - l.length % 64))) (Sh.ending (l.drop (l.length - l.length % 64)) l.length) = Sh.sha l := by
  rw [hb, Sh.ending_length, ← Sh.sha_parts l]
  have h1 : (l.drop (l.length - l.length % 64)).length = l.length % 64 := by rw [List.length_drop]; omega
  have h2 : (l.take (l.length - l.length % 64)).length / 64 = l.length / 64 := by rw [List.length_take]; omega
  rw [h1, h2]

/-- Where the variable s lies, and what is there, whichever came first. -/
structure Laid (w : World) (X : Obj) (S : Sh.St) (P : Nat) (wc : World) : Prop where
  from_ : w.heap.size + 1 ≤ P
  lt : P < wc.heap.size
  at_ : wc.heap[P]? = some (.cells (stA S) 40)
  res : wc.heap[w.heap.size]? = some X
  below : Below w.heap.size w wc
theorem laid_last {w w1 w2 w3 : World} {X : Obj} (S : Sh.St) (E0 : w1.heap[w.heap.size]? = some X) (hs : w.heap.size + 1 ≤ w1.heap.size) (hb : Below w.heap.size w w1) (hb2 : Below w1.drew.heap.size w1.drew w2) (hb3 : Below w2.heap.size w2 w3) :
    Laid w X S w3.heap.size (w3.alloc (.cells (stA S) 40)) := by
  have h2 : w1.heap.size ≤ w2.heap.size := hb2.size
  have h3 := hb3.size
  refine ⟨by omega, by simp, heap_alloc_new _ _, ?_, ((hb.drew.trans (hb2.mono (by simp; omega))).trans (hb3.mono (by omega))).alloc (by omega) _⟩
  rw [Below.heap_alloc _ _ _ (by omega), hb3.block _ (by omega), hb2.block _ (by simp; omega)]
  exact E0
theorem laid_mid {w w1 w2 w3 : World} {X : Obj} (S : Sh.St) {z0 z1 z2 z3 z4 z5 z6 z7 : Value} (E0 : w1.heap[w.heap.size]? = some X) (hs : w.heap.size + 1 ≤ w1.heap.size) (hb : Below w.heap.size w w1) (hb2 : Below w1.drew.heap.size w1.drew w2)
    (hb3 : Below (w2.alloc (.cells #[z0, z1, z2, z3, z4, z5, z6, z7] 40)).heap.size (w2.alloc (.cells #[z0, z1, z2, z3, z4, z5, z6, z7] 40)) w3) :
    Laid w X S w2.heap.size (set8 w3 w2.heap.size (.int .u32 (S.a.toNat : Int)) (.int .u32 (S.b.toNat : Int)) (.int .u32 (S.c.toNat : Int)) (.int .u32 (S.d.toNat : Int)) (.int .u32 (S.e.toNat : Int)) (.int .u32 (S.f.toNat : Int)) (.int .u32 (S.g.toNat : Int)) (.int .u32 (S.h.toNat : Int))) := by
  have h2 : w1.heap.size ≤ w2.heap.size := hb2.size
  have h3 : w2.heap.size + 1 ≤ w3.heap.size := by have := hb3.size; simpa using this
  have hz : w3.heap[w2.heap.size]? = some (.cells #[z0, z1, z2, z3, z4, z5, z6, z7] 40) := (hb3.block _ (by simp)).trans (heap_alloc_new _ _)
  refine ⟨by omega, by simp [set8]; omega, set8_held hz _ _ _ _ _ _ _ _, set8_apart ?_ (by omega) _ _ _ _ _ _ _ _, set8_below (((hb.drew.trans (hb2.mono (by simp; omega))).alloc (by omega) _).trans (hb3.mono (by simp; omega))) (by omega) _ _ _ _ _ _ _ _⟩
  rw [hb3.block _ (by simp; omega), Below.heap_alloc _ _ _ (by omega), hb2.block _ (by simp; omega)]
  exact E0
theorem laid_first {w w1 w2 w3 : World} {X : Obj} (S : Sh.St) {z0 z1 z2 z3 z4 z5 z6 z7 : Value} (E0 : w1.heap[w.heap.size]? = some X) (hs : w.heap.size + 1 ≤ w1.heap.size) (hb : Below w.heap.size w w1)
    (hb2 : Below (w1.alloc (.cells #[z0, z1, z2, z3, z4, z5, z6, z7] 40)).drew.heap.size (w1.alloc (.cells #[z0, z1, z2, z3, z4, z5, z6, z7] 40)).drew w2) (hb3 : Below w2.heap.size w2 w3) :
    Laid w X S w1.heap.size (set8 w3 w1.heap.size (.int .u32 (S.a.toNat : Int)) (.int .u32 (S.b.toNat : Int)) (.int .u32 (S.c.toNat : Int)) (.int .u32 (S.d.toNat : Int)) (.int .u32 (S.e.toNat : Int)) (.int .u32 (S.f.toNat : Int)) (.int .u32 (S.g.toNat : Int)) (.int .u32 (S.h.toNat : Int))) := by
  have h2 : w1.heap.size + 1 ≤ w2.heap.size := by have := hb2.size; simpa using this
  have h3 := hb3.size
  have hz : w3.heap[w1.heap.size]? = some (.cells #[z0, z1, z2, z3, z4, z5, z6, z7] 40) := (hb3.block _ (by omega)).trans ((hb2.block _ (by simp)).trans (heap_alloc_new w1 _))
  refine ⟨by omega, by simp [set8]; omega, set8_held hz _ _ _ _ _ _ _ _, set8_apart ?_ (by omega) _ _ _ _ _ _ _ _, set8_below (((hb.alloc (by omega) _).drew.trans (hb2.mono (by simp; omega))).trans (hb3.mono (by omega))) (by omega) _ _ _ _ _ _ _ _⟩
  rw [hb3.block _ (by omega), hb2.block _ (by simp; omega), heap_drew, Below.heap_alloc w1 _ _ (by omega)]
  exact E0

theorem laid_last' {w w1 w2 w3 : World} {X : Obj} (S : Sh.St) (E0 : w1.heap[w.heap.size]? = some X) (hs : w.heap.size + 1 ≤ w1.heap.size) (hb : Below w.heap.size w w1) (hb2 : Below w1.drew.heap.size w1.drew w2) (hb3 : Below w2.heap.size w2 w3) :
    Laid w X S w3.heap.size (w3.alloc (.cells #[.int .u32 (S.a.toNat : Int), .int .u32 (S.b.toNat : Int), .int .u32 (S.c.toNat : Int), .int .u32 (S.d.toNat : Int), .int .u32 (S.e.toNat : Int), .int .u32 (S.f.toNat : Int), .int .u32 (S.g.toNat : Int), .int .u32 (S.h.toNat : Int)] 40)) := laid_last S E0 hs hb hb2 hb3
theorem laid_mid' {w w1 w2 w3 : World} {X : Obj} (S : Sh.St) {z0 z1 z2 z3 z4 z5 z6 z7 : Value} (E0 : w1.heap[w.heap.size]? = some X) (hs : w.heap.size + 1 ≤ w1.heap.size) (hb : Below w.heap.size w w1) (hb2 : Below w1.drew.heap.size w1.drew w2)
    (hb3 : Below (w2.alloc (.cells #[z0, z1, z2, z3, z4, z5, z6, z7] 40)).heap.size (w2.alloc (.cells #[z0, z1, z2, z3, z4, z5, z6, z7] 40)) w3) : Laid w X S w2.heap.size ((((((((w3.setCell ⟨w2.heap.size, 0, none⟩ (.int .u32 (S.a.toNat : Int))).setCell ⟨w2.heap.size, 1, none⟩ (.int .u32 (S.b.toNat : Int))).setCell ⟨w2.heap.size, 2, none⟩ (.int .u32 (S.c.toNat : Int))).setCell ⟨w2.heap.size, 3, none⟩ (.int .u32 (S.d.toNat : Int))).setCell ⟨w2.heap.size, 4, none⟩ (.int .u32 (S.e.toNat : Int))).setCell ⟨w2.heap.size, 5, none⟩ (.int .u32 (S.f.toNat : Int))).setCell ⟨w2.heap.size, 6, none⟩ (.int .u32 (S.g.toNat : Int))).setCell ⟨w2.heap.size, 7, none⟩ (.int .u32 (S.h.toNat : Int))) := laid_mid S E0 hs hb hb2 hb3
theorem laid_first' {w w1 w2 w3 : World} {X : Obj} (S : Sh.St) {z0 z1 z2 z3 z4 z5 z6 z7 : Value} (E0 : w1.heap[w.heap.size]? = some X) (hs : w.heap.size + 1 ≤ w1.heap.size) (hb : Below w.heap.size w w1)
    (hb2 : Below (w1.alloc (.cells #[z0, z1, z2, z3, z4, z5, z6, z7] 40)).drew.heap.size (w1.alloc (.cells #[z0, z1, z2, z3, z4, z5, z6, z7] 40)).drew w2) (hb3 : Below w2.heap.size w2 w3) : Laid w X S w1.heap.size ((((((((w3.setCell ⟨w1.heap.size, 0, none⟩ (.int .u32 (S.a.toNat : Int))).setCell ⟨w1.heap.size, 1, none⟩ (.int .u32 (S.b.toNat : Int))).setCell ⟨w1.heap.size, 2, none⟩ (.int .u32 (S.c.toNat : Int))).setCell ⟨w1.heap.size, 3, none⟩ (.int .u32 (S.d.toNat : Int))).setCell ⟨w1.heap.size, 4, none⟩ (.int .u32 (S.e.toNat : Int))).setCell ⟨w1.heap.size, 5, none⟩ (.int .u32 (S.f.toNat : Int))).setCell ⟨w1.heap.size, 6, none⟩ (.int .u32 (S.g.toNat : Int))).setCell ⟨w1.heap.size, 7, none⟩ (.int .u32 (S.h.toNat : Int))) := laid_first S E0 hs hb hb2 hb3

set_option maxHeartbeats 1600000 in
set_option maxRecDepth 100000 in
theorem sum_any (Xs : List ByteArray) (bk o c : Nat) (w : World) (hcells : ∀ (j : Nat) x, Xs[j]? = some x → w.cell? ⟨bk, o + j, none⟩ = some (.string x)) (hbk : bk < w.heap.size) (hN : Xs.length ≤ 140737488355328) (hcap : Xs.length ≤ c)
    (hlen : (flat Xs).length ≤ 70368744177664) (hk : KIn w) :
    Calls Tryd.prog 7 #[.slice (some ⟨bk, o, none⟩) Xs.length c] w fun r w' => r = .returned (.agg (idA (Sh.idOf (Sh.sha (flat Xs))))) ∧ Below w.heap.size w w' := by
  have HK := Lib.hid hk
  have hp := hk.pos
  clear hk
  have hj := fun wz (hz : ∀ (j : Nat) x, Xs[j]? = some x → wz.cell? ⟨bk, o + j, none⟩ = some (.string x)) (hbz : bk < wz.heap.size) => Tryd.strings_Join bk o c Xs ⟨#[]⟩ wz hz hbz hN hcap (by rw [join_flat]; omega)
  rw [join_flat] at hj
  have HJ := Lib.hid hj
  have HC := Lib.hid hcells
  clear hj hcells
  have hml : (⟨(flat Xs).toArray⟩ : ByteArray).data.toList = flat Xs := rfl
  generalize hm : (⟨(flat Xs).toArray⟩ : ByteArray) = m at HJ hml
  clear hm
  generalize flat Xs = l at HJ hml hlen
  have hms : m.size = l.length := by rw [← len_data, hml]
  generalize hM : Sh.idOf (Sh.sha l) = M
  have HM := Lib.hid hM
  clear hM
  have HML := Lib.hid hml
  have HMS := Lib.hid hms
  have hm1 : m.size ≤ 70368744177664 := by omega
  clear hml hms
  go_enter Tryd.func7, Tryd.ntmps7
  go_wp2_with fail
  refine (HJ.out _ (fun j x hx => by rw [World.cell?_alloc_lt _ _ _ hbk]; exact HC.out j x hx) (by simp; omega)).mono ?_
  rintro r w1 ⟨rfl, hb1⟩
  have E0 : Hid (w1.heap[w.heap.size]? = some (.cells (idA []) 24)) := (hb1.block w.heap.size (by simp)).trans (heap_alloc_new w _)
  have hs1 : w.heap.size + 1 ≤ w1.heap.size := by have := hb1.size; simpa using this
  have hbw : Below w.heap.size w w1 := ((Below.refl _ _).alloc (Nat.le_refl _) _).trans (hb1.mono (by simp))
  have HK1 := Lib.hid (HK.out.step hbw)
  clear hb1
  go_upto_region 3 with (fail)
  rw [show (m.size : Int) - (m.size : Int) % 64 = ((m.size - m.size % 64 : Nat) : Int) by omega]
  have hqm : m.size - m.size % 64 ≤ m.size := by omega
  generalize hq : m.size - m.size % 64 = q at hqm ⊢
  have HQ := Lib.hid hq
  clear hq
  have hqi : (q : Int) ≤ (m.size : Int) := by omega
  have HS1 := Lib.hid (show (m.extract 0 (q)).size ≤ 9223372036854775807 by simp; omega)
  go_cut [5] from 14 to 29 (fun v wc => ∃ P, v = .pointer (some ⟨P, 0, none⟩) ∧ Laid w (.cells (idA []) 24) (Sh.proc ((m.extract 0 (q)).size / 64) Sh.start (m.extract 0 (q)).data.toList) P wc)
  case first =>
    generalize hS : Sh.proc ((m.extract 0 (q)).size / 64) Sh.start (m.extract 0 (q)).data.toList = S1
    have HS := Lib.hid hS
    clear hS
    go_region_with (first
      | (go_at_call 17; refine (start_any _).mono ?_; rintro r w2 ⟨rfl, hb2⟩; obtain ⟨hc2, hf2⟩ := bcell hb2; have hz2 := hb2.size; (try simp at hz2); (try have hz2x := Nat.lt_of_succ_le hz2))
      | (go_at_call 16; refine (process_any Sh.start (m.extract 0 (q)) _ HS1.out (by first | exact (HK1.out.drawn).step hb2 | exact ((HK1.out.drawn).more _).step hb2 | exact ((HK1.out.drawn).step hb2).more _)).mono ?_; rw [HS.out]; rintro r w3 ⟨rfl, hb3⟩; simp only [stA]; obtain ⟨hc3, hf3⟩ := bcell hb3; have hz3 := hb3.size; (try simp at hz3); (try have hz3x := Nat.lt_of_succ_le hz3)))
    all_goals
      go_wp2_with fail
      go_meet
      refine ⟨_, rfl, ?_⟩
      rw [HS.out]
      first | (with_reducible exact laid_last' S1 E0.out hs1 hbw hb2 hb3) | (with_reducible exact laid_mid' S1 E0.out hs1 hbw hb2 hb3) | (with_reducible exact laid_first' S1 E0.out hs1 hbw hb2 hb3)
  case rest =>
    obtain ⟨P, rfl, hL⟩ := hcut
    generalize hS : Sh.proc ((m.extract 0 (q)).size / 64) Sh.start (m.extract 0 (q)).data.toList = S1 at hL
    have HS := Lib.hid hS
    clear hS
    have hP1 := hL.from_
    have hP2 := hL.lt
    have EP := Lib.hid hL.at_
    have ER := Lib.hid hL.res
    have hbc := hL.below
    clear hL E0 hs1 hbw
    have k0 := cell_of_row wc P 0 _ _ _ EP.out
    have k1 := cell_of_row wc P 1 _ _ _ EP.out
    have k2 := cell_of_row wc P 2 _ _ _ EP.out
    have k3 := cell_of_row wc P 3 _ _ _ EP.out
    have k4 := cell_of_row wc P 4 _ _ _ EP.out
    have k5 := cell_of_row wc P 5 _ _ _ EP.out
    have k6 := cell_of_row wc P 6 _ _ _ EP.out
    have k7 := cell_of_row wc P 7 _ _ _ EP.out
    simp only [stA, List.getElem?_toArray, List.getElem?_cons_zero, List.getElem?_cons_succ] at k0 k1 k2 k3 k4 k5 k6 k7
    have y0 := frozen_of_row wc P 0 _ _ EP.out
    have y1 := frozen_of_row wc P 1 _ _ EP.out
    have y2 := frozen_of_row wc P 2 _ _ EP.out
    have y3 := frozen_of_row wc P 3 _ _ EP.out
    have y4 := frozen_of_row wc P 4 _ _ EP.out
    have y5 := frozen_of_row wc P 5 _ _ EP.out
    have y6 := frozen_of_row wc P 6 _ _ EP.out
    have y7 := frozen_of_row wc P 7 _ _ EP.out
    have hel : (Sh.ending (m.extract (q) m.size).data.toList m.size).length ≤ 200 := by
      rw [Sh.ending_length, drop_of_extract, List.length_drop, len_data]
      have := gap_lt (m.size - q + 1)
      have := HQ.out
      omega
    have HFin := Lib.hid (show Sh.proc ((⟨(Sh.ending (m.extract (q) m.size).data.toList m.size).toArray⟩ : ByteArray).size / 64) S1 (⟨(Sh.ending (m.extract (q) m.size).data.toList m.size).toArray⟩ : ByteArray).data.toList = Sh.sha l by
      have h := sha_split l m HML.out
      rw [← HS.out, take_of_extract, drop_of_extract, ← HQ.out, HML.out, HMS.out]
      rw [HML.out] at h
      rw [← h]
      congr 2
      rw [← len_data, take_of_extract, HML.out])
    have hes : (⟨(Sh.ending (m.extract (q) m.size).data.toList m.size).toArray⟩ : ByteArray).size ≤ 9223372036854775807 := by
      show (Sh.ending (m.extract (q) m.size).data.toList m.size).toArray.size ≤ _
      simp only [List.size_toArray]; omega
    have HEnd := Lib.hid (fun wz => ending_any (m.extract (q) m.size) m.size wz (by simp; omega) (by omega))
    generalize (⟨(Sh.ending (m.extract (q) m.size).data.toList m.size).toArray⟩ : ByteArray) = E at HFin hes HEnd
    have HES := Lib.hid hes
    clear hes hel
    have HK3 := Lib.hid (HK.out.step hbc)
    generalize Sh.sha l = S2 at HFin HM
    have hwu : IntKind.u64.wrap (m.size : Int) = (m.size : Int) := by
      simp [IntKind.wrap, IntKind.bits, IntKind.signed]; omega
    go_wp2_with fail
    go_region_with (first
      | (go_at_call 18; (with_reducible refine (HEnd.out _).mono ?_); rintro r w4 ⟨rfl, hb4⟩; obtain ⟨hc4, hf4⟩ := bcell hb4; have hz4 := hb4.size; (try simp at hz4); have hp4 := Nat.lt_of_lt_of_le hP2 hz4; have q0 := (hc4 P 0 hP2).trans k0; have g0 := (hf4 P 0 hP2).trans y0; have q1 := (hc4 P 1 hP2).trans k1; have g1 := (hf4 P 1 hP2).trans y1; have q2 := (hc4 P 2 hP2).trans k2; have g2 := (hf4 P 2 hP2).trans y2; have q3 := (hc4 P 3 hP2).trans k3; have g3 := (hf4 P 3 hP2).trans y3; have q4 := (hc4 P 4 hP2).trans k4; have g4 := (hf4 P 4 hP2).trans y4; have q5 := (hc4 P 5 hP2).trans k5; have g5 := (hf4 P 5 hP2).trans y5; have q6 := (hc4 P 6 hP2).trans k6; have g6 := (hf4 P 6 hP2).trans y6; have q7 := (hc4 P 7 hP2).trans k7; have g7 := (hf4 P 7 hP2).trans y7; clear hc4 hf4)
      | (go_at_call 16; refine (process_any S1 E _ HES.out (HK3.out.drawn.step hb4)).mono ?_; rw [HFin.out]; rintro r w5 ⟨rfl, hb5⟩; simp only [stA]; obtain ⟨hc5, hf5⟩ := bcell hb5; have hz5 := hb5.size; have hp5 := Nat.lt_of_lt_of_le hp4 hz5; have p0 := (hc5 P 0 hp4).trans q0; have f0 := (hf5 P 0 hp4).trans g0; have p1 := (hc5 P 1 hp4).trans q1; have f1 := (hf5 P 1 hp4).trans g1; have p2 := (hc5 P 2 hp4).trans q2; have f2 := (hf5 P 2 hp4).trans g2; have p3 := (hc5 P 3 hp4).trans q3; have f3 := (hf5 P 3 hp4).trans g3; have p4 := (hc5 P 4 hp4).trans q4; have f4 := (hf5 P 4 hp4).trans g4; have p5 := (hc5 P 5 hp4).trans q5; have f5 := (hf5 P 5 hp4).trans g5; have p6 := (hc5 P 6 hp4).trans q6; have f6 := (hf5 P 6 hp4).trans g6; have p7 := (hc5 P 7 hp4).trans q7; have f7 := (hf5 P 7 hp4).trans g7; clear hc5 hf5))
    all_goals
      have EP5 : w5.heap[P]? = some (.cells (stA S1) 40) := (hb5.block P hp4).trans ((hb4.block P (by simpa using hP2)).trans EP.out)
      have ER5 : w5.heap[w.heap.size]? = some (.cells (idA []) 24) := (hb5.block _ (by omega)).trans ((hb4.block _ (by simp; omega)).trans ER.out)
      have hbd : Below w.heap.size w w5 := (hbc.drew.trans (hb4.mono (by simp; omega))).trans (hb5.mono (by omega))
      have F6 := set8_held EP5 (.int .u32 (S2.a.toNat : Int)) (.int .u32 (S2.b.toNat : Int)) (.int .u32 (S2.c.toNat : Int)) (.int .u32 (S2.d.toNat : Int)) (.int .u32 (S2.e.toNat : Int)) (.int .u32 (S2.f.toNat : Int)) (.int .u32 (S2.g.toNat : Int)) (.int .u32 (S2.h.toNat : Int))
      have F7 := set8_apart ER5 (show w.heap.size ≠ P by omega) (.int .u32 (S2.a.toNat : Int)) (.int .u32 (S2.b.toNat : Int)) (.int .u32 (S2.c.toNat : Int)) (.int .u32 (S2.d.toNat : Int)) (.int .u32 (S2.e.toNat : Int)) (.int .u32 (S2.f.toNat : Int)) (.int .u32 (S2.g.toNat : Int)) (.int .u32 (S2.h.toNat : Int))
      have F8 := set8_below hbd (show w.heap.size ≤ P by omega) (.int .u32 (S2.a.toNat : Int)) (.int .u32 (S2.b.toNat : Int)) (.int .u32 (S2.c.toNat : Int)) (.int .u32 (S2.d.toNat : Int)) (.int .u32 (S2.e.toNat : Int)) (.int .u32 (S2.f.toNat : Int)) (.int .u32 (S2.g.toNat : Int)) (.int .u32 (S2.h.toNat : Int))
      change Exit.then _ _ _ _ (set8 w5 P (.int .u32 (S2.a.toNat : Int)) (.int .u32 (S2.b.toNat : Int)) (.int .u32 (S2.c.toNat : Int)) (.int .u32 (S2.d.toNat : Int)) (.int .u32 (S2.e.toNat : Int)) (.int .u32 (S2.f.toNat : Int)) (.int .u32 (S2.g.toNat : Int)) (.int .u32 (S2.h.toNat : Int)))
      generalize set8 w5 P (.int .u32 (S2.a.toNat : Int)) (.int .u32 (S2.b.toNat : Int)) (.int .u32 (S2.c.toNat : Int)) (.int .u32 (S2.d.toNat : Int)) (.int .u32 (S2.e.toNat : Int)) (.int .u32 (S2.f.toNat : Int)) (.int .u32 (S2.g.toNat : Int)) (.int .u32 (S2.h.toNat : Int)) = w6 at F6 F7 F8 ⊢
      clear EP5 ER5 hbd hb4 hb5 p0 p1 p2 p3 p4 p5 p6 p7 f0 f1 f2 f3 f4 f5 f6 f7 q0 q1 q2 q3 q4 q5 q6 q7 g0 g1 g2 g3 g4 g5 g6 g7 k0 k1 k2 k3 k4 k5 k6 k7 y0 y1 y2 y3 y4 y5 y6 y7 hz4 hz5 hp4 hp5
      have EP6 : Hid (w6.heap[P]? = some (.cells (stA S2) 40)) := F6
      have E7 := Lib.hid F7
      clear F6 F7
      have k0 := cell_of_row w6 P 0 _ _ _ EP6.out
      have k1 := cell_of_row w6 P 1 _ _ _ EP6.out
      have k2 := cell_of_row w6 P 2 _ _ _ EP6.out
      have k3 := cell_of_row w6 P 3 _ _ _ EP6.out
      have k4 := cell_of_row w6 P 4 _ _ _ EP6.out
      have k5 := cell_of_row w6 P 5 _ _ _ EP6.out
      have k6 := cell_of_row w6 P 6 _ _ _ EP6.out
      have k7 := cell_of_row w6 P 7 _ _ _ EP6.out
      simp only [stA, List.getElem?_toArray, List.getElem?_cons_zero, List.getElem?_cons_succ] at k0 k1 k2 k3 k4 k5 k6 k7
      go_wp2_with fail
      refine (idOf_any S2 _).mono ?_
      rw [HM.out]
      rintro r w7 ⟨rfl, hb7⟩
      have hl : M.length ≤ 32 := by rw [← HM.out, Sh.idOf_length]; omega
      have hz7 := hb7.size
      have h60 : w.heap.size < w6.heap.size := by
        rcases Nat.lt_or_ge w.heap.size w6.heap.size with h | h
        · exact h
        · rw [Array.getElem?_eq_none h] at E7; exact absurd E7.out (by simp)
      have E8 := Lib.hid ((hb7.block _ h60).trans E7.out)
      have hb8 := F8.trans (hb7.mono (by omega))
      have HI := Lib.hid (idsize hl)
      have H0 := Lib.hid (show (idA []).size = (idA M).size by rw [idA_size M hl]; rfl)
      have hu := Lib.hid Tryd.underlying24
      clear hz7 h60 hb7 k0 k1 k2 k3 k4 k5 k6 k7
      go_wp2_with (refine wpList_store_row rfl 24 _ _ rfl w.heap.size _ rfl rfl _ _ E8.out HI.out H0.out (idA_one _) ?_)
      refine bodyPost_ret (v := .agg (idA M)) ?_ rfl ⟨rfl, below_setRow hb8 (Nat.le_refl _) _⟩
      exact results_cell_row (by rfl) _ _ w.heap.size _ _ _ _ (by rfl) (setRow_heap _ _ _ _ _ _ E8.out) hu.out rfl HI.out

end Go.Proofs.YtijlmeodfmanmaaDoor
