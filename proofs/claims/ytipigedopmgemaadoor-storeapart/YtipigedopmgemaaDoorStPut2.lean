/-
  WALKS OF LAYER 11: Put of an object's encoding.
-/
import Derived.Test.YtipigedopmgemaaDoorStPut
namespace Go.Proofs.YtipigedopmgemaaDoor
open Go.RowKit
set_option linter.unusedVariables false
set_option linter.unusedSimpArgs false

theorem bd_it {ops : Array Oper} {rest : List Oper} {op : Oper} {a : Act} {w : World} {Q : Exit → Act → World → Prop} {x y : Operand} {l : List UInt8} {t : ByteArray} (ho : op.op = .build 70 #[(0, x), (1, y)]) (hx : a.eval x = .agg (idC l).toArray) (hy : a.eval y = .string t) (hg : op.guard = none) (hl : l.length = 32)
    (h : wpList Tryd.prog ops Q rest (a.put op.dst (.agg (itC ⟨l, t⟩).toArray)) w) : wpList Tryd.prog ops Q (op :: rest) a w :=
  wpList_build_as hg _ _ ho _ (by simp only [List.map_toArray, List.map_cons, List.map_nil, hx, hy]; exact built_it l t hl) h
/-- What Put leaves. -/
def PutP (w : World) (base b : Nat) (v : Value) (L : List St.It) (s : ByteArray) (r : Ending) (w' : World) : Prop :=
  r = .returned (.tuple #[.agg (idC (shaI s)).toArray, .int .i64 0]) ∧ ∃ v', PSt w' base b v' (St.put L ⟨shaI s, s⟩) ∧ Kept w w' b v ∧ (v'.ownBlock = v.ownBlock ∨ ∃ g, v'.ownBlock = some g ∧ w.heap.size ≤ g)

set_option maxHeartbeats 2000000 in
set_option maxRecDepth 100000 in
theorem put_ok (w : World) (base b : Nat) (v : Value) (L : List St.It) (s : ByteArray) (o : Ob) (h : PSt w base b v L) (hk : S2.KIn w) (hs : s.size ≤ maxLen) (hd : Rm.dec s.data.toList = some o) (hl : L.length ≤ 62) (hbase : base ≤ w.heap.size) :
    Calls Tryd.prog 9 #[.pointer (some ⟨b, 0, none⟩), .string s] w (PutP w base b v L s) := by
  have hs46 : s.size ≤ 70368744177664 := by
    obtain ⟨_, _, hl4, _⟩ := Rm.dec_inv hd
    rw [size_list] at hl4
    omega
  have HB := Lib.hid (below_new w (.cells (idC zId).toArray 35))
  have HE := Lib.hid (heap_alloc_last w (.cells (idC zId).toArray 35))
  have hz28 := (zero_of_info zero28).1
  have HS0 := Lib.hid noF.size
  have HN0 := Lib.hid noF.one
  have HD := Lib.hid (fun W => dec_yes s o W hs hd)
  have HI := Lib.hid (fun W (hk : S2.KIn W) => id_of s W hk hs46)
  have HK := Lib.hid hk
  have HH := Lib.hid h
  have HIL := Lib.hid (shaI_len s)
  have HKP := Lib.hid (fun W (h : PSt W base b v L) (hW : base ≤ W.heap.size) => show Calls Tryd.prog 23 #[.pointer (some ⟨b, 0, none⟩), .agg (itC ⟨shaI s, s⟩).toArray] W (KeepP W base b v L ⟨shaI s, s⟩) from by
    cases hq : St.has L (shaI s) with
    | true => exact keep_there W base b v L ⟨shaI s, s⟩ h (shaI_len s) hq
    | false => exact keep_new W base b v L ⟨shaI s, s⟩ h (shaI_len s) hq hl hW)
  unfold PutP
  generalize shaI s = id at *
  generalize (obC noOb nilV nilV).toArray = z at hz28 HS0 HN0
  clear hd hk h
  go_enter Tryd.func9, Tryd.ntmps9
  go_wp2_with fail
  change Calls _ _ _ (w.alloc (.cells (idC zId).toArray 35)) _
  refine (HD.out _).mono ?_
  rintro r w1 ⟨cs, ao, bo, ca, cb, rfl, hO, hb1⟩
  have HCS := Lib.hid hO.F.size
  have HCO := Lib.hid hO.F.one
  have E1 := Lib.hid ((hb1.block w.heap.size (by simp)).trans HE.out)
  have E2 := Lib.hid (held_alloc (o := .cells cs 42) E1.out)
  have hB2 := (HB.out.trans (hb1.mono (by simp))).alloc (HB.out.trans (hb1.mono (by simp))).size (.cells cs 42)
  have HK2 := Lib.hid (HK.out.step hB2)
  clear hb1 hO HD
  go_wp2_with ((with_reducible apply st_ob (hs := HCS.out) (h1 := HCO.out)); rfl; rfl; rfl; rfl; exact HS0.out)
  refine (HI.out _ HK2.out).mono ?_
  rintro r w2 ⟨rfl, hb2⟩
  have HB3 := Lib.hid (below_new w2 (.cells (idC id).toArray 35))
  have HE3 := Lib.hid (heap_alloc_last w2 (.cells (idC id).toArray 35))
  have HR3 := Lib.hid (row_news (heap_alloc_new w2 (.cells (idC id).toArray 35)))
  have hB3 := (hB2.trans (hb2.mono hB2.size)).trans (HB3.out.mono (hB2.trans (hb2.mono hB2.size)).size)
  have E3 := Lib.hid (held_alloc (o := .cells (idC id).toArray 35) ((hb2.block w.heap.size (by have := (Array.getElem?_eq_some_iff.1 E2.out).1; exact this)).trans E2.out))
  have HP3 := Lib.hid (HH.out.below hB3)
  have hs3 := hB3.size
  have hs2 : w.heap.size < w2.heap.size := by
    have h1 := hb2.size
    have h2 := (Array.getElem?_eq_some_iff.1 E2.out).1
    omega
  have HC3 := Lib.hid (HKP.out _ HP3.out (by omega))
  clear hb2 HI HKP
  go_wp2_with (first
    | ((with_reducible refine st_id2 (l := id) (x := .tmp 8) (y := .tmp 21) (g := w2.heap.size) ?_ ?_ ?_ ?_ ?_ ?_ HIL.out ?_); rfl; rfl; rfl; rfl; rfl; rfl)
    | ((with_reducible refine ld_id (x := .tmp 8) (p := ⟨w2.heap.size, 0, none⟩) ?_ ?_ ?_ HR3.out HIL.out ?_); rfl; rfl; rfl)
    | ((with_reducible refine bd_it (l := id) (t := s) (x := .tmp 23) (y := .tmp 24) ?_ ?_ ?_ ?_ HIL.out ?_); rfl; rfl; rfl; rfl))
  refine HC3.out.mono ?_
  rintro r w4 ⟨rfl, v', hp4, hk4, hv4⟩
  have hbl : b < w.heap.size := HH.out.lt
  have hown : ∀ g, v.ownBlock = some g → g < w.heap.size := fun g e => (HH.out.own.lt g e).2
  have E4 := Lib.hid ((hk4.block w.heap.size (by simp; omega) (by omega) (fun e => by have := hown _ e.symm; omega)).trans E3.out)
  have HR4 := Lib.hid (row_news ((hk4.block w2.heap.size (by simp) (by omega) (fun e => by have := hown _ e.symm; omega)).trans HE3.out))
  have HK4 := Lib.hid hk4
  have HP4 := Lib.hid hp4
  have HV4 := Lib.hid hv4
  clear hk4 hp4 hv4
  go_wp2_with (first
    | ((with_reducible refine ld_id (x := .tmp 8) (p := ⟨w2.heap.size, 0, none⟩) ?_ ?_ ?_ HR4.out HIL.out ?_); rfl; rfl; rfl)
    | ((with_reducible refine st_idg (l := id) (x := .tmp 4) (y := .tmp 27) (g := w.heap.size) ?_ ?_ ?_ ?_ E4.out ?_ HIL.out ?_); rfl; rfl; rfl; rfl; rfl))
  refine bodyPost_ret (results_cell_tmp (fn := Tryd.f9) (p := 4) (q := 5) (by rfl) _ _ w.heap.size _ _ _ _ (by rfl) (setRow_heap _ _ _ _ _ _ E4.out) Tryd.underlying35 rfl (by rw [List.size_toArray]; exact idsize HIL.out)) rfl ?_
  have hset : ∀ k, k ≠ w.heap.size → (w4.setRow w.heap.size (idC id).toArray).heap[k]? = w4.heap[k]? := fun k hk => setRow_other _ _ _ _ hk
  have hsz : w.heap.size ≤ w4.heap.size := by have := HK4.out.size; simp at this; omega
  refine ⟨rfl, v', ⟨(hset b (by omega)).trans HP4.out.box, own_kept HP4.out.own (fun g hg => hset g (fun e => own_box HP4.out.own E4.out (by decide) (by rw [hg, e]))), HP4.out.ge, HP4.out.len, HP4.out.srt, HP4.out.few⟩, ⟨HK4.out.os.trans hB3.os, HK4.out.tape.trans hB3.tape, HK4.out.output.trans hB3.output, by simpa using hsz, fun k hk h1 h2 => (hset k (by omega)).trans ((HK4.out.block k (by simp; omega) h1 h2).trans (hB3.block k hk))⟩, ?_⟩
  rcases HV4.out with h | ⟨g, h, hg⟩
  · exact .inl h
  · exact .inr ⟨g, h, by simp at hg; omega⟩

end Go.Proofs.YtipigedopmgemaaDoor
