/-
  WALKS OF LAYER 6: share, Make.
-/
import Derived.Test.YtoglbmibbdpjcaaWalksH
import Derived.Deep.RegionHeld3
namespace Go.Proofs.Ytoglbmibbdpjcaa
open Go.RowKit Go.WideMaps Go.Maps
set_option linter.unusedVariables false
set_option linter.unusedSimpArgs false

theorem Pw.below {w w' : World} {b g : Nat} {l : List UInt8} (h : Pw w b g l) (hb : Below w.heap.size w w') : Pw w' b g l := by
  obtain ⟨M, c, h1, h2⟩ := h.map
  exact ⟨⟨M, c, h1.below hb, h2⟩, h.nx.of_block (hb.block _ h.nx.lt)⟩

/-- Where share stands in memory: base is the size of memory when the places were made, and their box. -/
structure ShW (w0 : World) (b g n B : Nat) (l : List UInt8) (L : List Dl.Ins) (o : Value) (w1 : World) : Prop where
  own : w1.ownsRow w0.heap.size 5 1 o (Dl.encs L).length (cellsOf (Dl.encs L))
  below : Below w0.heap.size w0 w1

/-- The end of share. -/
def Shd (base text : List UInt8) (w : World) (r : Ending) (w' : World) : Prop :=
  ∃ L : List Dl.Ins, r = .returned (.string ⟨(Dl.encs L).toArray⟩) ∧ Dl.oks base L ∧ Dl.outs base L = text ∧ (base = text → 4 ≤ base.length → (Dl.encs L).length ≤ 20) ∧ (Dl.encs L).length ≤ 31 * text.length + 10 ∧ Below w.heap.size w w'

/-- The places' box, and the places. -/
structure Held (w : World) (b g n B : Nat) (l : List UInt8) : Prop where
  pw : Pw w b g l
  box : w.heap[B]? = some (.cells #[.map (some b), .slice (some ⟨g, 0, none⟩) n n] 55)
theorem Held.below {w w' : World} {b g n B : Nat} {l : List UInt8} (h : Held w b g n B l) (hb : Below w.heap.size w w') : Held w' b g n B l :=
  ⟨h.pw.below hb, by rw [hb.block _ (Array.getElem?_eq_some_iff.1 h.box).1]; exact h.box⟩
theorem Held.cells {w : World} {b g n B : Nat} {l : List UInt8} (h : Held w b g n B l) : w.cell? ⟨B, 0, none⟩ = some (.map (some b)) ∧ w.cell? ⟨B, 1, none⟩ = some (.slice (some ⟨g, 0, none⟩) n n) := by
  refine ⟨?_, ?_⟩
  · rw [cell_of_row _ _ 0 _ _ _ h.box]; rfl
  · rw [cell_of_row _ _ 1 _ _ _ h.box]; rfl

set_option maxHeartbeats 2000000 in
set_option maxRecDepth 100000 in
theorem share_any (base text : ByteArray) (w : World) (hbs : base.size ≤ 16777216) (hts : text.size ≤ 16777216) :
    Calls Try.prog 16 #[.string base, .string text] w (Shd base.data.toList text.data.toList w) := by
  obtain ⟨i0, hi, hz0, hz1, hz2⟩ := info_parts Try.infoByte
  have HLB := Lib.hid (size_list base)
  have HLT := Lib.hid (size_list text)
  obtain ⟨n, hn⟩ : ∃ n, base.size - 3 = n := ⟨_, rfl⟩
  have HFP := Lib.hid (findPlaces_any base w hbs)
  rw [hn] at HFP
  go_enter Try.func16, Try.ntmps16
  go_wp2_with fail
  refine HFP.out.mono ?_
  rintro e w0 ⟨b, g, rfl, hpw, hb0⟩
  clear HFP
  unfold plV
  go_wp2_with fail
  have hheld : Held (w0.alloc (.cells #[.map (some b), .slice (some ⟨g, 0, none⟩) n n] 55)) b g n w0.heap.size base.data.toList := ⟨hpw.below ((Below.refl _ _).alloc (Nat.le_refl _) _), Deep.blk_alloc_new _ _⟩
  have hbw : Below w.heap.size w (w0.alloc (.cells #[.map (some b), .slice (some ⟨g, 0, none⟩) n n] 55)) := hb0.alloc hb0.size _
  generalize hB : w0.heap.size = B at *
  generalize w0.alloc (.cells #[.map (some b), .slice (some ⟨g, 0, none⟩) n n] 55) = w1 at *
  clear hpw hb0 hB
  have HH := Lib.hid hheld
  have hsz1 := hbw.size
  clear hheld
  go_loopw [6, 7, 8] (fun o a7 a8 wr => ∃ (p q : Nat) (L : List Dl.Ins), a7 = .int .i64 q ∧ a8 = .int .i64 p ∧ p ≤ text.size ∧ q ≤ p ∧ Hid (Dl.Sh base.data.toList text.data.toList p q L) ∧ wr.ownsRow w1.heap.size 5 1 o (Dl.encs L).length (cellsOf (Dl.encs L)) ∧ Below w1.heap.size w1 wr) (fun _ _ a8 _ => text.size - (intOf a8).toNat)
  case atStart => exact ⟨0, 0, [], rfl, rfl, Nat.zero_le _, Nat.le_refl _, Dl.Sh.zero _ _, World.ownsRow_nil _ _ _ _, Below.refl _ _⟩
  case round =>
    obtain ⟨p, q, L, rfl, rfl, hp, hqp, HS, hown, hb⟩ := hrel
    have hol := HS.out.len
    have hbsz := hb.size
    by_cases hlt : p < text.size
    · have hh := HH.out.below hb
      obtain ⟨c0, c1⟩ := hh.cells
      have hts2 : (text.extract p text.size).size ≤ 16777216 := by simp; omega
      have HLO := Lib.hid (fun (v : World) (h : Below wr.heap.size wr v) => longest_any base (text.extract p text.size) b g n v hbs hts2 hn (hh.below h).pw)
      rw [extract_rest text p] at HLO
      unfold plV at HLO
      have HCC := Lib.hid (fun W (q : Below wr.heap.size wr W) => (⟨q, (hh.below q).cells⟩ : Below wr.heap.size wr W ∧ W.cell? ⟨B, 0, none⟩ = some (.map (some b)) ∧ W.cell? ⟨B, 1, none⟩ = some (.slice (some ⟨g, 0, none⟩) n n)))
      clear hh
      go_wp2_with fail
      go_region_held3 (fun w' => Below wr.heap.size wr w' ∧ w'.cell? ⟨B, 0, none⟩ = some (.map (some b)) ∧ w'.cell? ⟨B, 1, none⟩ = some (.slice (some ⟨g, 0, none⟩) n n))
        (first | exact HCC.out _ (below_drawn _ 1) | (refine HCC.out _ (below_step ?_ (by assumption)); exact And.left (by assumption)))
        ((go_at_call 23; refine (HLO.out _ (And.left (by assumption))).mono ?_; rintro r wx ⟨f, c, rfl, hlg, hx⟩))
      rename_i hH
      have hB2 := hH.1
      have hown2 := own_below hown hB2
      have hb2 : Below w1.heap.size w1 wx := hb.trans (hB2.mono hb.size)
      clear hH hx hown HCC HLO c0 c1 hB2 hb
      have HLG := Lib.hid hlg
      clear hlg
      have hbz2 := hb2.size
      obtain ⟨pa, cap, hsl⟩ := own_slice hown2
      subst hsl
      by_cases hc : c = 0
      · subst hc
        have HS2 := Lib.hid (HS.out.next (by rw [HLT.out]; exact hlt) HLG.out)
        go_wp2_with fail
        exact ⟨⟨p + 1, q, L, rfl, by go_num, by omega, by omega, HS2, hown2, hb2⟩, by simp [intOf]; omega⟩
      · have hc0 : ((c : Int) == 0) = false := beq_eq_false_iff_ne.2 (by omega)
        have HS2 := Lib.hid (HS.out.found (by rw [HLT.out]; exact hlt) (by rw [HLB.out]; omega) (by rw [HLT.out]; omega) hc HLG.out)
        have hpc : p + c ≤ text.size := by have := HS2.out.pl; rw [HLT.out] at this; exact this
        have hfc : f + c ≤ base.size := by have := HLG.out.fit; rw [HLB.out] at this; exact this
        have hlt1 : (text.extract q p).size ≤ 16777216 := by simp; omega
        have HE1 := Lib.hid (extract_list text q p)
        have HE2 := Lib.hid (Dl.litE_encs ((text.data.toList.drop q).take (p - q)))
        generalize hI : Dl.litI ((text.data.toList.drop q).take (p - q)) = I at *
        clear hI
        have hn2 : (Dl.encs (L ++ I)).length ≤ 31 * (p + c) := by
          have := HS2.out.len; rw [Dl.encs_snoc, List.length_append] at this; omega
        go_wp2_with fail
        refine (literalStep_any (text.extract q p) _ hlt1).mono ?_
        rintro e w3 ⟨b3, rfl, hb3, hbl3⟩
        rw [HE1.out, HE2.out] at hb3
        have hown3 := own_below hown2 hbl3
        have hB3 : Below w1.heap.size w1 w3 := hb2.trans (hbl3.mono hb2.size)
        have hs3 : w1.heap.size ≤ w3.heap.size := hB3.size
        have hz3 := size_list b3
        rw [hb3] at hz3
        have hn3' : (Dl.encs L).length + b3.size = (Dl.encs (L ++ I)).length := by rw [← hz3, ← List.length_append, ← Dl.encs_append]
        have hn3 : (Dl.encs L).length + b3.size ≤ 31 * (p + c) := by omega
        have HN3 := Lib.hid hn3'
        have HB3 := Lib.hid hb3
        clear hb3 hz3 hn3' hown2 hb2 hbl3
        go_wp2_with (at_builtin; refine Lib.wpList_append_own_string _ rfl _ _ 51 9 rfl w1.heap.size 5 i0 Try.underlying51 Try.underlying9 hi hz0 hz1 hz2 _ _ _ rfl hown3 b3 rfl ?c1 ?c2 ?c3 ?_)
        case c1 => unfold maxLen; omega
        case c2 => omega
        case c3 => exact hs3
        intro v4 w4 hown4 hg4 _
        rw [strCells_list, HB3.out, cellsOf_append, ← Dl.encs_append, HN3.out] at hown4
        have hB4 : Below w1.heap.size w1 w4 := hB3.grown hg4 hs3 (fun k hk => (hown3.lt k hk).1)
        have hs4 := hB4.size
        clear hown3 hB3 hs3 hg4
        generalize hA : L ++ I = A at *
        clear hA
        go_wp2_with fail
        refine (copyStep_any f c _ (by omega) (by omega)).mono ?_
        rintro e w5 ⟨b5, rfl, hb5, hbl5⟩
        have hown5 := own_below hown4 hbl5
        have hB5 : Below w1.heap.size w1 w5 := hB4.trans (hbl5.mono hB4.size)
        have hs5 : w1.heap.size ≤ w5.heap.size := hB5.size
        have hz5 := size_list b5
        rw [hb5] at hz5
        have hml := Dl.enc_cop_len f c (by omega) (by omega)
        have hn5 : b5.size ≤ 20 := by omega
        have hn5' : (Dl.encs A).length + b5.size = (Dl.encs (A ++ [.cop f c])).length := by rw [Dl.encs_snoc, List.length_append, hz5]
        have HN5 := Lib.hid hn5'
        have HB5 := Lib.hid hb5
        clear hb5 hz5 hn5' hown4 hB4 hs4 hbl5 hml
        go_wp2_with (at_builtin; refine Lib.wpList_append_own_string _ rfl _ _ 51 9 rfl w1.heap.size 5 i0 Try.underlying51 Try.underlying9 hi hz0 hz1 hz2 _ _ _ rfl hown5 b5 rfl ?d1 ?d2 ?d3 ?_)
        case d1 => unfold maxLen; omega
        case d2 => omega
        case d3 => exact hs5
        intro v6 w6 hown6 hg6 _
        rw [strCells_list, HB5.out, cellsOf_append, ← Dl.encs_snoc, HN5.out] at hown6
        have hB6 : Below w1.heap.size w1 w6 := hB5.grown hg6 hs5 (fun k hk => (hown5.lt k hk).1)
        clear hown5 hB5 hs5 hg6
        generalize hA2 : A ++ [Dl.Ins.cop f c] = A2 at *
        clear hA2
        go_wp2_with fail
        exact ⟨⟨p + c, p + c, A2, by go_num, by go_num, by omega, Nat.le_refl _, HS2, hown6, hB6⟩, by simp [intOf]; omega⟩
    · obtain rfl : p = text.size := by omega
      obtain ⟨d1, d2, d3, d4⟩ := HS.out.done HLT.out.symm (by rw [HLT.out]; omega)
      have HD := Lib.hid (And.intro d1 (And.intro d2 (And.intro d3 d4)))
      rw [HLT.out] at d4
      have hlt1 : (text.extract q text.size).size ≤ 16777216 := by simp; omega
      have HE1 := Lib.hid (extract_rest text q)
      have HE2 := Lib.hid (Dl.litE_encs (text.data.toList.drop q))
      generalize hI : Dl.litI (text.data.toList.drop q) = I at *
      clear d1 d2 d3 hI
      obtain ⟨pa, cap, hsl⟩ := own_slice hown
      subst hsl
      go_wp2_with fail
      refine (literalStep_any (text.extract q text.size) _ hlt1).mono ?_
      rintro e w3 ⟨b3, rfl, hb3, hbl3⟩
      rw [HE1.out, HE2.out] at hb3
      have hown3 := own_below hown hbl3
      have hB3 : Below w1.heap.size w1 w3 := hb.trans (hbl3.mono hb.size)
      have hs3 : w1.heap.size ≤ w3.heap.size := hB3.size
      have hz3 := size_list b3
      rw [hb3] at hz3
      have hn3' : (Dl.encs L).length + b3.size = (Dl.encs (L ++ I)).length := by rw [← hz3, ← List.length_append, ← Dl.encs_append]
      have hn3 : (Dl.encs L).length + b3.size ≤ 31 * text.size + 10 := by omega
      have HN3 := Lib.hid hn3'
      have HB3 := Lib.hid hb3
      clear hb3 hz3 hn3' hown hb hbl3
      go_wp2_with (at_builtin; refine Lib.wpList_append_own_string _ rfl _ _ 51 9 rfl w1.heap.size 5 i0 Try.underlying51 Try.underlying9 hi hz0 hz1 hz2 _ _ _ rfl hown3 b3 rfl ?f1 ?f2 ?f3 ?_)
      case f1 => unfold maxLen; omega
      case f2 => omega
      case f3 => exact hs3
      intro v4 w4 hown4 hg4 _
      rw [strCells_list, HB3.out, cellsOf_append, ← Dl.encs_append, HN3.out] at hown4
      have hB4 : Below w1.heap.size w1 w4 := hB3.grown hg4 hs3 (fun k hk => (hown3.lt k hk).1)
      have hcv := ret_bytes hown4
      clear hown3 hB3 hs3 hg4 hown4
      go_wp2_with fail
      go_ret
      obtain ⟨d1, d2, d3, d4⟩ := HD.out
      exact ⟨_, rfl, d1, d2, d3, d4, hbw.trans (hB4.mono hbw.size)⟩

/-- The end of Make. -/
def Mkd (base text : List UInt8) (w : World) (r : Ending) (w' : World) : Prop :=
  ∃ d : ByteArray, r = .returned (.string d) ∧ Dl.Made base text d.data.toList ∧ d.size ≤ text.length + 30 ∧ (base = text → d.size ≤ 40) ∧ Below w.heap.size w w'

theorem made_end (base text : List UInt8) (L : List Dl.Ins) (d : ByteArray) (hb : base.length < 16777217) (ht : text.length < 16777217) (h1 : Dl.oks base L) (h2 : Dl.outs base L = text) (hd : d.data.toList = Dl.mk base text (Dl.encs L)) (hl : (Dl.encs L).length ≤ 10 + text.length) (ho : base = text → (Dl.encs L).length ≤ 20) :
    Dl.Made base text d.data.toList ∧ d.size ≤ text.length + 30 ∧ (base = text → d.size ≤ 40) := by
  have hm := Dl.mk_len base text (Dl.encs L) (by omega) (by omega)
  have hs := size_list d
  rw [hd] at hs
  refine ⟨by rw [hd]; exact Dl.made_of base text L (by omega) (by omega) h1 h2, by omega, fun he => ?_⟩
  have := ho he
  omega

set_option maxHeartbeats 800000 in
set_option maxRecDepth 100000 in
theorem make_any (base text : ByteArray) (w : World) (hbs : base.size ≤ 16777216) (hts : text.size ≤ 16777216) :
    Calls Try.prog 12 #[.string base, .string text] w (Mkd base.data.toList text.data.toList w) := by
  have HLB := Lib.hid (size_list base)
  have HLT := Lib.hid (size_list text)
  have hw1 : IntKind.u64.wrap (base.size : Int) = (base.size : Int) := u64_wrap_id _ (by omega) (by omega)
  have hw2 : IntKind.u64.wrap (text.size : Int) = (text.size : Int) := u64_wrap_id _ (by omega) (by omega)
  have hl1 := Lib.uvarint_length64 (x := base.size) (by omega)
  have hl2 := Lib.uvarint_length64 (x := text.size) (by omega)
  go_enter Try.func12, Try.ntmps12
  go_wp2_with fail
  refine (share_any base text _ hbs hts).mono ?_
  rintro e w1 ⟨L, rfl, h1, h2, h3, h4, hb1⟩
  have HD := Lib.hid (And.intro h1 (And.intro h2 (And.intro h3 h4)))
  rw [HLT.out] at h4
  have hds : (ByteArray.mk (Dl.encs L).toArray).size = (Dl.encs L).length := by rw [← size_list]
  have hdl : (ByteArray.mk (Dl.encs L).toArray).data.toList = Dl.encs L := by simp
  generalize hdb : ByteArray.mk (Dl.encs L).toArray = db at *
  have HDL := Lib.hid hdl
  have HDS := Lib.hid hds
  have hdz : db.size ≤ 31 * text.size + 10 := by omega
  clear h1 h2 h3 h4 hdb hdl hds
  go_wp2_with fail
  refine (literalStep_any text _ hts).mono ?_
  rintro e w2 ⟨b3, rfl, hb3, hbl3⟩
  have hb12 := below_step hb1 hbl3
  have hz3 := size_list b3
  rw [hb3] at hz3
  have hll := Dl.litE_len text.data.toList (by rw [HLT.out]; omega)
  rw [hz3, HLT.out] at hll
  have HB3 := Lib.hid hb3
  have HZ3 := Lib.hid hz3
  clear hb3 hz3 hb1 hbl3
  by_cases hlt : (b3.size : Int) < (db.size : Int)
  · go_wp2_with fail
    refine (put_any base.size _ (by omega)).mono ?_
    rintro e w3 ⟨rfl, hb3⟩
    go_wp2_with fail
    refine (put_any text.size _ (by omega)).mono ?_
    rintro e w4 ⟨rfl, hb4⟩
    go_wp2_with fail
    go_ret
    have hme := made_end base.data.toList text.data.toList (Dl.litI text.data.toList) (ByteArray.mk (Lib.uvarint base.size).toArray ++ ByteArray.mk (Lib.uvarint text.size).toArray ++ b3) (by rw [HLB.out]; omega) (by rw [HLT.out]; omega) (Dl.litI_ok _ _ (by rw [HLT.out]; omega)) (Dl.litI_out _ _)
      (by rw [← Dl.litE_encs, Dl.mk, HLB.out, HLT.out]; simp [ByteArray.data_append, HB3.out]) (by rw [← Dl.litE_encs, HLT.out, HZ3.out]; omega) (fun he => by
        rw [← Dl.litE_encs, HZ3.out]
        by_cases h4 : 4 ≤ base.data.toList.length
        · have := HD.out.2.2.1 he h4; have := HDS.out; omega
        · rw [he, HLT.out] at h4; omega)
    exact ⟨_, rfl, hme.1, hme.2.1, hme.2.2, below_step (below_step hb12 hb3) hb4⟩
  · go_wp2_with fail
    refine (put_any base.size _ (by omega)).mono ?_
    rintro e w3 ⟨rfl, hb3⟩
    go_wp2_with fail
    refine (put_any text.size _ (by omega)).mono ?_
    rintro e w4 ⟨rfl, hb4⟩
    go_wp2_with fail
    go_ret
    have hme := made_end base.data.toList text.data.toList L (ByteArray.mk (Lib.uvarint base.size).toArray ++ ByteArray.mk (Lib.uvarint text.size).toArray ++ db) (by rw [HLB.out]; omega) (by rw [HLT.out]; omega) HD.out.1 HD.out.2.1
      (by rw [Dl.mk, HLB.out, HLT.out]; simp [ByteArray.data_append, HDL.out]) (by rw [← HDS.out, HLT.out]; omega) (fun he => by
        rw [← HDS.out]
        by_cases h4 : 4 ≤ base.data.toList.length
        · have := HD.out.2.2.1 he h4; have := HDS.out; omega
        · rw [he, HLT.out] at h4; omega)
    exact ⟨_, rfl, hme.1, hme.2.1, hme.2.2, below_step (below_step hb12 hb3) hb4⟩

end Go.Proofs.Ytoglbmibbdpjcaa
