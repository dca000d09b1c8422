/-
  WALKS OF LAYER 9: Get.
-/
import Derived.Test.YtkdljagcdaphdaaRl
namespace Go.Proofs.Ytkdljagcdaphdaa
open Go.RowKit
set_option linter.unusedVariables false
set_option linter.unusedSimpArgs false

/-- A row of refs of the call's own, made since w. -/
structure Ow (w wr : World) (v : Value) (acc : List Rf.R) : Prop where
  own : OwnF wr w.heap.size v acc
  bel : Below w.heap.size w wr
theorem Ow.below {w wr w' : World} {v : Value} {acc : List Rf.R} (h : Ow w wr v acc) (hb : Below wr.heap.size wr w') : Ow w w' v acc := ⟨own_below h.own hb, below_step h.bel hb⟩
theorem Ow.nil (w : World) : Ow w w (.slice none 0 0) [] := ⟨own_nil _ _, Below.refl _ _⟩
theorem ap_ow {ops : Array Oper} {rest : List Oper} {op : Oper} {a : Act} {Q : Exit → Act → World → Prop} {w wr : World} {v : Value} {acc : List Rf.R} {r : Rf.R} (s x : Operand)
    (ho : op.op = .call { callee := .builtin .append, args := #[s, x], argTypes := #[22, 22] }) (hg : op.guard = none) (hs : a.eval s = v) (hx : a.eval x = .slice (some ⟨wr.heap.size, 0, none⟩) 1 1)
    (h : Ow w wr v acc) (hid : r.id.length = 32) (hl : acc.length ≤ 1000)
    (hK : ∀ v' w', Hid (Ow w w' v' (acc ++ [r])) → wpList Try.prog ops Q rest (a.put op.dst v') w') : wpList Try.prog ops Q (op :: rest) a (wr.alloc (.cells (rfC r).toArray 54)) := by
  obtain ⟨i0, hi, hz0, hz1, hz2⟩ := info_parts infoRf
  have hlt := h.bel.size
  refine wpList_append_own _ hg s x 22 ho w.heap.size 54 i0 _ 33 48 Try.underlying22 hi hz0 hz1 hz2 (by simp [Value.cells, idC, Rf.zid]) (by decide) v acc.length (acc.flatMap rfC) hs (World.ownsRow.alloc h.own _) ⟨wr.heap.size, 0, none⟩ 1 1 (rfC r) hx (by rw [rfC_length, hid]) (news_row (heap_alloc_new _ _)) (rfC_one r) (by unfold maxLen; omega) (by omega) (by simp; omega) ?_
  intro v' w' h1 h2 _
  exact hK v' w' ⟨own_push h1, (h.bel.alloc h.bel.size _).grown h2 (by simp; omega) (fun k hk => (h.own.lt k hk).1)⟩
def strLen : Value → Nat
  | .string s => s.size
  | _ => 0
/-- What Get answers. -/
def GetP (s : List UInt8) (w : World) (r : Ending) (w' : World) : Prop :=
  (∃ L v, Rf.Is s L ∧ RefsAt w' v L ∧ r = .returned (.tuple #[v, .int .i64 0]) ∧ Below w.heap.size w w') ∨ ((∀ L, ¬ Rf.Is s L) ∧ r = .returned (.tuple #[.slice none 0 0, .int .i64 2]) ∧ Below w.heap.size w w')
theorem empty_list {s : ByteArray} (h : s = ByteArray.empty) : s.data.toList = [] := by rw [h]; rfl
theorem Is_len {s : List UInt8} {acc : List Rf.R} {rest : List UInt8} (h : Rf.textL acc ++ rest = s) (hk : Rf.Ok32 acc) (hs : s.length ≤ 10000) : acc.length ≤ 151 ∧ ∀ r ∈ acc, r.name.size ≤ 10000 := by
  have h1 := Rf.text_len acc hk
  have h2 : (Rf.textL acc).length ≤ s.length := by rw [← h]; simp
  exact ⟨by omega, fun r hr => by have := Rf.text_name hr; omega⟩

set_option maxHeartbeats 1000000 in
set_option maxRecDepth 100000 in
theorem get_any (s : ByteArray) (w : World) (hs : s.size ≤ 10000) : Calls Try.prog 13 #[.string s] w (GetP s.data.toList w) := by
  have HS := Lib.hid (show s.data.toList.length ≤ 10000 by simpa using hs)
  have HW := Lib.hid (Ow.nil w)
  generalize hS : s.data.toList = S at HS
  have HS1 := Lib.hid hS
  clear hS
  go_enter Try.func13, Try.ntmps13
  go_wp2_with fail
  go_loopw [0, 4] (fun sv v wr => ∃ (rest : ByteArray) (acc : List Rf.R), sv = .string rest ∧ rest.size ≤ 10000 ∧ Hid (Rf.textL acc ++ rest.data.toList = S) ∧ Hid (Rf.Pre S acc rest.data.toList) ∧ Hid (Rf.Ok32 acc) ∧ Hid (Ow w wr v acc)) (fun sv _ _ => strLen sv)
  case atStart => exact ⟨s, [], rfl, hs, HS1.out, by rw [HS1.out]; exact Rf.Pre.start _, (fun r hr => by cases hr), HW.out⟩
  case round =>
    obtain ⟨rest, acc, rfl, hrl, HT, HP, HK, HO⟩ := hrel
    obtain ⟨hal, hnm⟩ := Is_len HT.out HK.out HS.out
    have HNM := Lib.hid hnm
    clear hnm
    by_cases h0 : rest = ByteArray.empty
    · have HE := Lib.hid (empty_list h0)
      rw [HE.out] at HT HP
      have HTT := Lib.hid (show Rf.textL acc = S by have := HT.out; simpa using this)
      subst h0
      have HFN := Lib.hid (fine_any _ acc wr (HO.out.own.rows HK.out) (fun r hr => by have := HNM.out r hr; unfold maxLen; omega) (by unfold maxLen; omega))
      clear HE HT
      cases hf : Rf.fine acc with
      | true =>
        rw [hf] at HFN
        have HQ := Lib.hid (show ∀ w', Below wr.heap.size wr w' → GetP S w (.returned (.tuple #[_, .int .i64 0])) w' from fun w' hb => .inl ⟨acc, _, ⟨hf, HK.out, HTT.out⟩, (HO.out.below hb).own.rows HK.out, rfl, (HO.out.below hb).bel⟩)
        clear hf
        go_wp2_with fail
        refine HFN.out.mono ?_
        rintro r w2 ⟨rfl, hb⟩
        go_wp2_with fail
        go_ret2
        exact HQ.out _ hb
      | false =>
        rw [hf] at HFN
        have HQ := Lib.hid (show ∀ w', Below wr.heap.size wr w' → GetP S w (.returned (.tuple #[.slice none 0 0, .int .i64 2])) w' from fun w' hb => .inr ⟨(fun L q => by
          have := HP.out.fin (by simp) q
          rw [this] at q
          rw [q.1] at hf
          cases hf), rfl, (HO.out.below hb).bel⟩)
        clear hf
        go_wp2_with fail
        refine HFN.out.mono ?_
        rintro r w2 ⟨rfl, hb⟩
        go_wp2_with fail
        go_ret2
        exact HQ.out _ hb
    · have hne := size_ne h0
      have hnx := not_empty h0
      have hnx2 : rest.toList.isEmpty = false := by simpa using hnx
      have hq0 : ¬ rest.toList = [] := by rw [ByteArray.toList_eq]; exact list_ne h0
      have HL0 := Lib.hid (list_ne h0)
      have HCT := Lib.hid (cut_any rest 10 wr (by omega))
      clear h0
      go_wp2_with fail
      refine HCT.out.mono ?_
      rintro r w2 ⟨n, ⟨i, h1, h2, h3, rfl, rfl⟩ | ⟨h1, rfl, rfl⟩⟩
      · have HO2 := Lib.hid (HO.out.below (bel_drewN (Below.refl _ wr) n))
        rw [h2] at HT HP
        have H3 := Lib.hid h3
        have hsx : (rest.extract 0 i).size ≤ 100000 := by
          have : (rest.extract 0 i).data.toList.length ≤ rest.size := by rw [ext_take]; simp; omega
          simp at this; simp; omega
        have hsy : (rest.extract (i + 1) rest.size).size < rest.size := by simp; omega
        clear h2 h3 HCT HO h1
        generalize wr.drewN n = w2 at *
        generalize rest.extract 0 i = line at *
        generalize rest.extract (i + 1) rest.size = tl at *
        have HRL := Lib.hid (line_any line w2 hsx)
        go_wp2_with fail
        refine HRL.out.mono ?_
        rintro r w3 ⟨x, b, hx, rfl, hb1, hb2, hb3⟩
        have HX := Lib.hid hx
        have HO3 := Lib.hid (HO2.out.below hb3)
        have HO4 := Lib.hid (HO3.out.below (below_new w3 (.cells (rfC x).toArray 54)))
        have HR3 := Lib.hid (row_cells (heap_alloc_new w3 (.cells (rfC x).toArray 54)))
        clear HRL hx
        cases b with
        | false =>
          have HQ := Lib.hid (show GetP S w (.returned (.tuple #[.slice none 0 0, .int .i64 2])) (w3.alloc (.cells (rfC x).toArray 54)) from .inr ⟨HP.out.bad H3.out (fun r h32 _ e => hb2 rfl r h32 e), rfl, HO4.out.bel⟩)
          clear hb1 hb2
          go_wp2_with ((with_reducible apply st_rf (r := x) (hid := HX.out)); rfl; rfl; rfl; rfl; rfl)
          go_ret2
          exact HQ.out
        | true =>
          obtain ⟨hb4, hb5⟩ := hb1 rfl
          have HP2 := Lib.hid (HP.out.next H3.out (fun r h32 _ e => hb5 r h32 e))
          have HT2 := Lib.hid (show Rf.textL (acc ++ [x]) ++ tl.data.toList = S by rw [Rf.text_snoc, hb4, ← HT.out]; simp)
          have HK2 := Lib.hid (show Rf.Ok32 (acc ++ [x]) from fun r hr => by
            rcases List.mem_append.1 hr with h | h
            · exact HK.out r h
            · simp at h; rw [h]; exact HX.out)
          clear hb1 hb2 hb4 hb5
          go_wp2_with (first
            | ((with_reducible apply st_rf (r := x) (hid := HX.out)); rfl; rfl; rfl; rfl; rfl)
            | ((with_reducible refine ld_rf (r := x) (x := .tmp 8) (p := ⟨w3.heap.size, 0, none⟩) ?_ ?_ ?_ HR3.out HX.out ?_); rfl; rfl; rfl)
            | ((with_reducible refine bs_rf (r := x) (x := .tmp 27) ?_ ?_ ?_ HX.out ?_); rfl; rfl; rfl)
            | (at_builtin; refine ap_ow (r := x) (.tmp 26) (.tmp 28) rfl rfl rfl rfl HO4.out HX.out (by omega) ?_; intro v5 w5 HO5))
          go_roundw
          case rel => exact ⟨tl, acc ++ [x], rfl, by omega, HT2, HP2, HK2, HO5⟩
          case measure => simp [strLen]; omega
      · have HQ := Lib.hid (show GetP S w (.returned (.tuple #[.slice none 0 0, .int .i64 2])) (wr.drewN n) from .inr ⟨HP.out.none HL0.out h1, rfl, bel_drewN HO.out.bel n⟩)
        clear h1
        go_wp2_with fail
        go_ret2
        exact HQ.out

end Go.Proofs.Ytkdljagcdaphdaa
