/-
  WALKS OF LAYER 11: what StoreApart wants of Put and With (Put of a store's rows downwards; one text for both; what stands behind a Put).
-/
import Derived.Test.YtipigedopmgemaaDoorStKn
namespace Go.Proofs.YtipigedopmgemaaDoor
open Go.RowKit
set_option linter.unusedVariables false
set_option linter.unusedSimpArgs false

/-- Put of a store's rows, from the last one down. -/
theorem put_prev {W w : World} {v' : Value} {L : List St.It} {k b : Nat} {x : St.It} {ao : Option Addr} {n cap : Nat} (hd : DSt W (.slice ao n cap) L) (hx : L[k]? = some x) (hp : PSt w b b v' (L.drop (k + 1))) (hk : S2.KIn w) :
    Calls Tryd.prog 9 #[.pointer (some ⟨b, 0, none⟩), .string x.text] w fun r w' => r = .returned (.tuple #[.agg (idC x.id).toArray, .int .i64 0]) ∧ ∃ v5, PSt w' b b v5 (L.drop k) ∧ Below b w w' := by
  obtain ⟨o, h1, h2⟩ := hd.outd k x hx
  have hkl := (List.getElem?_eq_some_iff.1 hx).1
  have hfew := hd.few
  have hs : x.text.size ≤ maxLen := by
    obtain ⟨_, _, hl4, _⟩ := Rm.dec_inv h1
    rw [size_list] at hl4
    unfold maxLen; omega
  refine (put_ok w b b v' (L.drop (k + 1)) x.text o hp hk hs h1 (by simp; omega) (Nat.le_of_lt hp.lt)).mono ?_
  rintro r w' ⟨rfl, v5, h3, h4, _⟩
  rw [h2] at h3 ⊢
  exact ⟨rfl, v5, (St.put_down hd.srt hx) ▸ h3, h4.below hp⟩
/-- Put and With of one text: the same rows, the same id. -/
theorem more_any (L : List St.It) (s : ByteArray) (hs : s.size ≤ 500) (hl : L.length ≤ 20) :
    ∃ (pid : List UInt8) (L' : List St.It) (e : Int) (ok : Bool), pid.length = 32 ∧ L'.length ≤ 21 ∧ ((e = 0 ∧ ok = true) ∨ (e = 2 ∧ ok = false)) ∧
      (∀ (w : World) (base b : Nat) (v : Value), PSt w base b v L → S2.KIn w → base ≤ w.heap.size → Calls Tryd.prog 9 #[.pointer (some ⟨b, 0, none⟩), .string s] w fun r w' => r = .returned (.tuple #[.agg (idC pid).toArray, .int .i64 e]) ∧ ∃ v', PSt w' base b v' L' ∧ Kept w w' b v) ∧
      (∀ (w : World) (v : Value), DSt w v L → Calls Tryd.prog 12 #[.agg #[v], .string s] w fun r w' => ∃ v', r = .returned (.tuple #[.agg #[v'], .agg (idC pid).toArray, .bool ok]) ∧ DSt w' v' L' ∧ Below w.heap.size w w') := by
  have hm : s.size ≤ maxLen := by unfold maxLen; omega
  cases hd : Rm.dec s.data.toList with
  | none =>
    refine ⟨zId, L, 2, false, rfl, by omega, .inr ⟨rfl, rfl⟩, fun w base b v hp hk hb => ?_, fun w v h => ?_⟩
    · exact (put_bad b s w hm hd).mono fun r w' hh => ⟨hh.1, v, hp.below hh.2, Kept.of_below hh.2 b v⟩
    · exact (with_bad w v L s h (by omega) hd).mono fun r w' hh => ⟨v, hh.1, h.below hh.2, hh.2⟩
  | some o =>
    have hlen := St.put_length L ⟨shaI s, s⟩
    refine ⟨shaI s, St.put L ⟨shaI s, s⟩, 0, true, shaI_len s, by omega, .inl ⟨rfl, rfl⟩, fun w base b v hp hk hb => ?_, fun w v h => ?_⟩
    · refine (put_ok w base b v L s o hp hk hm hd (by omega) hb).mono ?_
      rintro r w' ⟨hr, v', h1, h2, _⟩
      exact ⟨hr, v', h1, h2⟩
    · cases hh : St.has L (shaI s) with
      | true => exact with_has w v L s o h (by omega) hd hh
      | false => exact with_new w v L s o h (by omega) hd hh (by omega)
/-- The document's store stands behind a Put. -/
theorem DSt.afterKept {w w' : World} {sv v : Value} {L L0 : List St.It} {base b : Nat} (h : DSt w sv L) (hp : PSt w base b v L0) (hk : Kept w w' b v) : DSt w' sv L :=
  h.kept (fun g cs hh => hk.block g (Array.getElem?_eq_some_iff.1 hh).1 (fun e => by subst e; rw [hp.box] at hh; simp at hh) (own_box hp.own hh (by decide)))
theorem box_afterKept {w w' : World} {v : Value} {L0 : List St.It} {base b g : Nat} {c : Array Value} (hb : w.heap[g]? = some (Obj.cells c 27 (0, 0))) (hp : PSt w base b v L0) (hk : Kept w w' b v) : w'.heap[g]? = some (Obj.cells c 27 (0, 0)) :=
  (hk.block g (Array.getElem?_eq_some_iff.1 hb).1 (fun e => by subst e; rw [hp.box] at hb; simp at hb) (own_box hp.own hb (by decide))).trans hb
/-- Another store, made later, stands behind a Put. -/
theorem PSt.afterKept {w w' : World} {v v2 : Value} {L0 L2 : List St.It} {base b base2 b2 : Nat} (h : PSt w base2 b2 v2 L2) (hp : PSt w base b v L0) (hk : Kept w w' b v) (hb : b < base2) (ho : ∀ g, v.ownBlock = some g → g < base2) : PSt w' base2 b2 v2 L2 := by
  have hge := h.ge
  refine ⟨(hk.block b2 h.lt (by omega) (fun e => by have := ho _ e.symm; omega)).trans h.box, own_kept h.own (fun g hg => ?_), h.ge, h.len, h.srt, h.few⟩
  have h2 := h.own.lt g hg
  exact hk.block g h2.2 (by omega) (fun e => by have := ho _ e.symm; omega)

end Go.Proofs.YtipigedopmgemaaDoor
