/-
  WALKS OF LAYER 5: Pack, and the law LzBack.
-/
import Derived.Test.YtkifjobmomfofaaWalksJ
namespace Go.Proofs.Ytkifjobmomfofaa
open Go.RowKit Go.WideMaps Go.Maps
set_option linter.unusedVariables false
set_option linter.unusedSimpArgs false

/-- A packed text, as the document asks of it. -/
structure Packed (l p : List UInt8) : Prop where
  back : Lz.unp p (l.length : Int) = (0, l)
  less : l ≠ [] → Lz.unp p ((l.length : Int) - 1) = (3, [])
  none : l = [] → Lz.unp p ((l.length : Int) - 1) = (1, [])
  size : p.length ≤ l.length + 1
  eqs : (∀ i j, i < l.length → j < l.length → l.getD i 0 = l.getD j 0) → l.length ≤ 4096 → p.length ≤ 8

theorem packed_of (l : List UInt8) (L : List Lz.Ins) (h1 : Lz.oks [] L) (h2 : Lz.outs [] L = l) (h3 : Eqs l → (Lz.encs L).length ≤ 5) : Packed l (Lz.packL l (Lz.encs L)) := by
  obtain ⟨a, b, c⟩ := Lz.pack_unp l L h1 h2
  have hl := Lz.pack_len l (Lz.encs L)
  refine ⟨a, b, c, by omega, fun he hm => ?_⟩
  by_cases h8 : 8 ≤ l.length
  · have := h3 ⟨he, h8, hm⟩
    omega
  · omega

def Pkd (l : List UInt8) (w : World) (r : Ending) (w' : World) : Prop := ∃ b : ByteArray, r = .returned (.string b) ∧ Packed l b.data.toList ∧ Below w.heap.size w w'

set_option maxHeartbeats 800000 in
set_option maxRecDepth 100000 in
theorem pack_any (s : ByteArray) (w : World) (hs : s.size ≤ 16777216) :
    Calls Try.prog 10 #[.string s] w (Pkd s.data.toList w) := by
  have hlen := size_list s
  have HLEN := Lib.hid hlen
  clear hlen
  go_enter Try.func10, Try.ntmps10
  go_wp2_with fail
  refine (shorten_any s _ hs).mono ?_
  rintro e w1 ⟨L, rfl, h1, h2, h3, hb⟩
  have HP := Lib.hid (packed_of _ L h1 h2 h3)
  clear h1 h2 h3
  generalize hd : Lz.encs L = d at *
  clear hd
  have hds : (ByteArray.mk d.toArray).size = d.length := by rw [← size_list]
  have hdl : (ByteArray.mk d.toArray).data.toList = d := by simp
  generalize hdb : ByteArray.mk d.toArray = db at *
  clear hdb
  have HDL := Lib.hid hdl
  by_cases hlt : (db.size : Int) < (s.size : Int)
  · have hbz : db.size < s.size := by omega
    have hcv := conv_one w1 1 1 (by decide)
    have HPK := Lib.hid (show Lz.packL s.data.toList d = 1 :: d by unfold Lz.packL; rw [if_pos (by rw [HLEN.out]; omega)])
    have hs1 : 1 + db.size ≤ 9223372036854775807 := by omega
    clear hds hdl
    go_wp2_with fail
    go_ret
    exact ⟨_, rfl, by rw [ByteArray.data_append, Array.toList_append, HDL.out]; rw [HPK.out] at HP; exact HP.out, hb.alloc hb.size _⟩
  · have hcv := conv_one w1 0 0 (by decide)
    have HPK := Lib.hid (show Lz.packL s.data.toList d = 0 :: s.data.toList by unfold Lz.packL; rw [if_neg (by rw [HLEN.out]; omega)])
    clear hds hdl
    go_wp2_with fail
    go_ret
    exact ⟨_, rfl, by rw [ByteArray.data_append, Array.toList_append]; rw [HPK.out] at HP; exact HP.out, hb.alloc hb.size _⟩

theorem mk_list (s : ByteArray) : (⟨s.data.toList.toArray⟩ : ByteArray) = s := by simp

theorem unpack_eq (p : ByteArray) (most : Int) (R : Nat) (t : ByteArray) (w : World) (hp : p.size ≤ maxLen) (hm : most ≤ 2147483647) (h : Lz.unp p.data.toList most = (R, t.data.toList)) :
    Calls Try.prog 7 #[.string p, .int .i64 most] w fun r w' => r = .returned (.tuple #[.string t, .int .i64 R]) ∧ Below w.heap.size w w' :=
  (unpack_any p most w hp hm).mono fun e w' hu => by
    rw [h] at hu
    obtain ⟨h1, h2⟩ := hu
    exact ⟨by rw [h1], h2⟩
theorem refunpack_eq (p : ByteArray) (most : Int) (R : Nat) (t : ByteArray) (w : World) (hp : p.size ≤ maxLen) (hm : most ≤ 2147483647) (h : Lz.unp p.data.toList most = (R, t.data.toList)) :
    Calls Try.prog 8 #[.string p, .int .i64 most] w fun r w' => r = .returned (.tuple #[.string t, .int .i64 R]) ∧ Below w.heap.size w w' :=
  (refunpack_any p most w hp hm).mono fun e w' hu => by
    rw [h] at hu
    obtain ⟨h1, h2⟩ := hu
    exact ⟨by rw [h1], h2⟩

end Go.Proofs.Ytkifjobmomfofaa
