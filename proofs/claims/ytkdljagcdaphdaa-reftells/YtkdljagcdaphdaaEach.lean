/-
  WALKS OF LAYER 9: the set of names seen; applyEach.
-/
import Derived.Test.YtkdljagcdaphdaaApp
import Derived.Test.YtkdljagcdaphdaaErr
import Derived.Maps.OwnSet
namespace Go.Proofs.Ytkdljagcdaphdaa
open Go.RowKit Go.WideMaps Go.Maps
set_option linter.unusedVariables false
set_option linter.unusedSimpArgs false

theorem keyLaw : Keyed Try.prog 9 := string_keyed Try.underlying9
theorem zeroUnit (w : World) : (zeroValue 86).run Try.prog w = .ok (.agg #[]) w := by kernel_rfl
/-- Block b is a set of names, of at most n entries: S. -/
structure Sn (w : World) (b n : Nat) (S : List ByteArray) : Prop where
  out : ∃ D : DataW Unit, w.ownsMap Try.prog 9 unitElem b n D ∧ Maps.IsMap D ∧ ∀ key : ByteArray, Maps.has D (.string key.data.toList) = Rf.hasN S key
theorem Sn.made (w : World) : Sn (w.alloc (.map #[] 0)) w.heap.size 0 [] := ⟨.map [], World.ownsMap_made _ _ _ _, Maps.isMap_empty, fun key => rfl⟩
theorem Sn.kept {w w' : World} {b n : Nat} {S : List ByteArray} {row : Option Nat} (h : Sn w b n S) (hg : w.grownBy w' row) (hne : some b ≠ row) : Sn w' b n S := by
  obtain ⟨D, h1, h2⟩ := h.out
  exact ⟨D, h1.kept hg hne, h2⟩
theorem Sn.lt {w : World} {b n : Nat} {S : List ByteArray} (h : Sn w b n S) : b < w.heap.size := by
  obtain ⟨D, h1, h2⟩ := h.out
  exact h1.lt
section
variable (w : World) {ops : Array Oper} {rest : List Oper} {o : Oper} {a : Act} {Q : Exit → Act → World → Prop}
theorem sn_look (hg : o.guard = none) (m x : Operand) (hop : o.op = Op.lookup 85 m x true) (b n : Nat) (S : List ByteArray)
    (hm : a.eval m = .map (some b)) (hM : Sn w b n S) (s : ByteArray) (hx : a.eval x = .string s) (hs : s.size ≤ maxLen) (z : Bool) (hq : Rf.hasN S s = z)
    (hK : wpList Try.prog ops Q rest (a.put o.dst (.tuple #[.agg #[], .bool z])) w) : wpList Try.prog ops Q (o :: rest) a w := by
  obtain ⟨D, h1, h2, h3⟩ := hM.out
  refine wpList_lookup_own_unit w hg m x 85 hop 9 86 keyLaw Try.underlying85 (zeroUnit w) b n D hm h1 (.string s) (.string s.data.toList) hx (keyOf_string_mk Try.underlying9 hs) ?_
  rw [h3 s, hq]
  exact hK
theorem sn_keep (hg : o.guard = none) (m x v : Operand) (hop : o.op = Op.mapUpdate 85 m x v) (b n : Nat) (S : List ByteArray)
    (hm : a.eval m = .map (some b)) (hM : Sn w b n S) (hn : n < maxLen) (s : ByteArray) (hx : a.eval x = .string s) (hs : s.size ≤ maxLen) (hv : a.eval v = .agg #[])
    (hK : ∀ w', Sn w' b (n + 1) (S ++ [s]) → w.grownBy w' (some b) → wpList Try.prog ops Q rest (a.put o.dst undef) w') : wpList Try.prog ops Q (o :: rest) a w := by
  obtain ⟨D, h1, h2, h3⟩ := hM.out
  refine wpList_mapUpdate_own w hg m x v 85 hop 9 86 keyLaw Try.underlying85 _ b n D hm h1 hn (.string s) (.agg #[]) (.string s.data.toList) hx hv (keyOf_string_mk Try.underlying9 hs) _ [] unitElem_mk ?_
  intro w' hown hgrow
  refine hK w' ⟨_, hown, h2.put _ _, fun key => ?_⟩ hgrow
  have hh : Rf.hasN (S ++ [s]) key = (Rf.hasN S key || decide (s = key)) := by simp [Rf.hasN]
  rw [hh]
  by_cases hk : s = key
  · subst hk
    rw [Maps.has_put_same h2 (show WideAt.IsKeyLit (.string s.data.toList) from trivial) _]; simp
  · have hne : (Lit.string key.data.toList) ≠ Lit.string s.data.toList := fun e => hk (Rf.bytes_ext (by injection e with e; exact e.symm))
    rw [Maps.has_put_other hne, h3 key]; simp [hk]
end

/-- Where applyEach stands in memory. -/
structure Ea (w0 wr : World) (gt gm N k c : Nat) (v : Value) (L : List Rf.R) (es : List Nat) (S : List ByteArray) : Prop where
  own : OwnF wr w0.heap.size v L
  err : Errs wr gt N (es ++ List.replicate (N - k) 0)
  sn : Sn wr gm c S
  bel : Below w0.heap.size w0 wr
  far : ∀ b, v.ownBlock = some b → b ≠ gt ∧ b ≠ gm
  ord : w0.heap.size ≤ gt ∧ gt ≠ gm ∧ w0.heap.size ≤ gm
theorem Ea.below {w0 wr w' : World} {gt gm N k c : Nat} {v : Value} {L : List Rf.R} {es : List Nat} {S : List ByteArray} (h : Ea w0 wr gt gm N k c v L es S) (hb : Below wr.heap.size wr w') : Ea w0 w' gt gm N k c v L es S :=
  ⟨h.own.below hb, h.err.kept (below_grown hb) (by simp), h.sn.kept (below_grown hb) (by simp), h.bel.trans (hb.mono h.bel.size), h.far, h.ord⟩
theorem Ea.keep {w0 wr w' : World} {gt gm N k c c' : Nat} {v : Value} {L : List Rf.R} {es : List Nat} {S S' : List ByteArray} (h : Ea w0 wr gt gm N k c v L es S) (hs : Sn w' gm c' S') (hg : wr.grownBy w' (some gm)) : Ea w0 w' gt gm N k c' v L es S' := by
  refine ⟨World.ownsRow.kept h.own hg ?_, h.err.kept hg (by simpa using h.ord.2.1), hs, h.bel.grown hg h.bel.size (fun k hk => by cases hk; exact h.ord.2.2), h.far, h.ord⟩
  cases hv : v.ownBlock with
  | none => exact .inl rfl
  | some b => exact .inr (fun e => (h.far b hv).2 (by simpa using e))
theorem err_step (es : List Nat) (N k x : Nat) (hk : k < N) (he : es.length = k) : (es ++ List.replicate (N - k) 0).set k x = (es ++ [x]) ++ List.replicate (N - (k + 1)) 0 := by
  rw [List.set_append_right _ _ (by omega), he, Nat.sub_self, show N - k = (N - (k + 1)) + 1 by omega, List.replicate_succ, List.set_cons_zero, List.append_assoc]; rfl
theorem Ea.told {w0 wr : World} {gt gm N k c : Nat} {v : Value} {L : List Rf.R} {es : List Nat} {S : List ByteArray} (h : Ea w0 wr gt gm N k c v L es S) (hk : k < N) (he : es.length = k) (x : Nat) : Ea w0 (wr.setCell ⟨gt, k, none⟩ (.int .i64 (x : Int))) gt gm N (k + 1) c v L (es ++ [x]) S := by
  have hg := grown_setCell wr ⟨gt, k, none⟩ (.int .i64 (x : Int))
  refine ⟨World.ownsRow.kept h.own hg ?_, ?_, h.sn.kept hg (fun e => h.ord.2.1 (by simpa using e.symm)), h.bel.setCell h.ord.1 _, h.far, h.ord⟩
  · cases hv : v.ownBlock with
    | none => exact .inl rfl
    | some b => exact .inr (fun e => (h.far b hv).1 (by simpa using e))
  · rw [← err_step es N k x hk he]; exact h.err.set k x
theorem Ea.app {w0 wr w' : World} {gt gm N k c : Nat} {v v' : Value} {L M : List Rf.R} {es : List Nat} {S : List ByteArray} (h : Ea w0 wr gt gm N k c v L es S) (ho : OwnF w' w0.heap.size v' M) (hg : wr.grownBy w' v.ownBlock) (hv : v'.ownBlock = v.ownBlock ∨ ∃ b, v'.ownBlock = some b ∧ wr.heap.size ≤ b) : Ea w0 w' gt gm N k c v' M es S := by
  have hl1 := h.err.lt
  have hl2 := h.sn.lt
  refine ⟨ho, h.err.kept hg (fun e => (h.far gt e.symm).1 rfl), h.sn.kept hg (fun e => (h.far gm e.symm).2 rfl), h.bel.grown hg h.bel.size (fun b hb => (h.own.lt b hb).1), fun b hb => ?_, h.ord⟩
  rcases hv with e | ⟨b', e, hb'⟩
  · exact h.far b (by rw [← e]; exact hb)
  · rw [hb] at e; cases e; constructor <;> omega
theorem Ea.cell {w0 wr : World} {gt gm N k c : Nat} {v : Value} {L : List Rf.R} {es : List Nat} {S : List ByteArray} (h : Ea w0 wr gt gm N k c v L es S) (hk : k < N) (he : es.length = k) : wr.cell? ⟨gt, k, none⟩ = some (.int .i64 0) ∧ wr.frozen? ⟨gt, k, none⟩ = false := by
  refine ⟨?_, h.err.frozen k⟩
  have := h.err.cell k 0 (by rw [List.getElem?_append_right (by omega), he, Nat.sub_self, List.getElem?_replicate, if_pos (by omega)])
  exact this
theorem run_step {L : List Rf.R} {us : List Rf.U} {k : Nat} {u : Rf.U} {S : List ByteArray} (hu : us[k]? = some u) : Rf.run L S (us.drop k) = ((Rf.run (Rf.nxt L S u) (S ++ [u.name]) (us.drop (k + 1))).1, Rf.wrong L S u :: (Rf.run (Rf.nxt L S u) (S ++ [u.name]) (us.drop (k + 1))).2) := by
  obtain ⟨hk, rfl⟩ := List.getElem?_eq_some_iff.1 hu
  rw [List.drop_eq_getElem_cons hk]; rfl
theorem wrong_seen {L : List Rf.R} {S : List ByteArray} {u : Rf.U} (h : Rf.hasN S u.name = true) : Rf.wrong L S u = 8 ∧ Rf.nxt L S u = L := by
  have h1 : Rf.wrong L S u = 8 := by unfold Rf.wrong; rw [if_pos (.inr h)]
  exact ⟨h1, by unfold Rf.nxt; rw [h1, if_neg (by decide)]⟩
theorem wrong_new {L : List Rf.R} {S : List ByteArray} {u : Rf.U} (h : Rf.hasN S u.name = false) : Rf.wrong L S u = Rf.wrong L [] u ∧ Rf.nxt L S u = Rf.nxt L [] u := by
  have h1 : Rf.wrong L S u = Rf.wrong L [] u := by
    unfold Rf.wrong
    rw [h, show Rf.hasN [] u.name = false from rfl]
  exact ⟨h1, by unfold Rf.nxt; rw [h1]⟩
theorem nxt_ids {L : List Rf.R} {S : List ByteArray} {u : Rf.U} (h : ∀ r ∈ L, r.id.length = 32) (hn : u.new.length = 32) : ∀ r ∈ Rf.nxt L S u, r.id.length = 32 := fun r hr => by
  unfold Rf.nxt at hr
  split at hr
  · rcases Rf.put_mem hr with ⟨rfl, _⟩ | hr
    · exact hn
    · exact h r hr
  · exact h r hr
theorem infoErr : (Try.prog.info? 25).map (fun i => (i.zero, i.size, i.bytes)) = some (some (.int .i64 0), 1, 8) := by kernel_rfl
theorem errs_made {w : World} {g n : Nat} (h : w.ownsRow 0 25 1 (.slice (some ⟨g, 0, none⟩) n n) n (madeCells #[Value.int .i64 0] n).toList) : Errs w g n ([] ++ List.replicate (n - 0) 0) := by
  rw [toList_madeCells_one] at h
  unfold Errs errC
  simpa using h
/-- What applyEach leaves. -/
def EachP (w0 : World) (L : List Rf.R) (us : List Rf.U) (e : Ending) (w' : World) : Prop :=
  ∃ v' gt, e = .returned (.tuple #[v', .slice (some ⟨gt, 0, none⟩) us.length us.length]) ∧ OwnF w' w0.heap.size v' (Rf.run L [] us).1 ∧ Errs w' gt us.length (Rf.run L [] us).2 ∧ Below w0.heap.size w0 w' ∧ v'.ownBlock ≠ some gt ∧ w0.heap.size ≤ gt

set_option maxHeartbeats 4000000 in
set_option maxRecDepth 100000 in
theorem each_any (w0 w : World) (v uv : Value) (L : List Rf.R) (us : List Rf.U) (h : OwnF w w0.heap.size v L) (hid : ∀ r ∈ L, r.id.length = 32) (hf : Rf.fine L = true) (hu : UpsAt w0 uv us) (hul : us.length ≤ 64) (hun : ∀ u ∈ us, u.old.length = 32 ∧ u.new.length = 32 ∧ u.name.size ≤ 1000) (hb : Below w0.heap.size w0 w) :
    Calls Try.prog 33 #[v, uv] w (EachP w0 L us) := by
  obtain ⟨ao, cap, hform⟩ : ∃ ao cap, uv = .slice ao us.length cap := hu.form
  subst hform
  obtain ⟨i0, hi, hz0, hz1, hz2⟩ := info_parts infoErr
  have hmm := @run_makeMap Try.prog
  have HO := Lib.hid h
  have HU := Lib.hid hu
  have HUN := Lib.hid hun
  have HID := Lib.hid hid
  have HF := Lib.hid hf
  have HBW := Lib.hid hb
  have hbs := hb.size
  have hvlt := Lib.hid (fun b hb' => (World.ownsRow.lt h b hb').2)
  clear h hu hun hid hf hb
  go_enter Try.func33, Try.ntmps33
  go_wp2_with (refine wpList_make_full _ rfl _ _ 43 rfl 0 25 i0 (.int .i64 0) 1 Try.underlying43 hi hz0 hz1 .i64 .i64 _ _ us.length rfl rfl ?e1 ?e2 ?c1 ?c2 ?c3 ?_)
  case e1 => rfl
  case e2 => rfl
  case c1 => rw [hz2]; omega
  case c2 => unfold maxLen; omega
  all_goals try (exact Nat.zero_le _)
  intro w1 hown hgr
  have HE0 := Lib.hid (errs_made hown)
  have hgs := hgr.size
  have hglt : w.heap.size < w1.heap.size := HE0.out.lt
  have HST := Lib.hid (show Ea w0 (w1.alloc (.map #[] 0)) w.heap.size w1.heap.size us.length 0 0 v L [] [] from by
    have hbn := below_new w1 (.map #[] 0)
    refine ⟨OwnF.below (show OwnF w1 w0.heap.size v L from World.ownsRow.kept HO.out hgr (by cases v.ownBlock <;> simp)) hbn, HE0.out.kept (below_grown hbn) (by simp), Sn.made w1, (HBW.out.grown hgr hbs (fun k hk => by cases hk)).alloc (by omega) _, fun b hb => ?_, by omega⟩
    have := hvlt.out b hb
    constructor <;> omega)
  clear hown hgr HE0
  go_wp2_with fail
  generalize hgm : w1.heap.size = gm at *
  generalize hgt : w.heap.size = gt at *
  clear hgm hgt hmm
  generalize w1.alloc (.map #[] 0) = w2 at *
  go_loopw [0, 18] (fun v' i wr => ∃ (k c : Nat) (Lk : List Rf.R) (es : List Nat) (S : List ByteArray), k ≤ us.length ∧ i = .int .i64 k ∧ c ≤ k ∧ es.length = k ∧ Hid (Ea w0 wr gt gm us.length k c v' Lk es S) ∧ Hid (Rf.fine Lk = true) ∧ Hid (∀ r ∈ Lk, r.id.length = 32) ∧ Hid (Rf.run L [] us = ((Rf.run Lk S (us.drop k)).1, es ++ (Rf.run Lk S (us.drop k)).2))) (fun _ i _ => us.length - (intOf i).toNat)
  case atStart => exact ⟨0, 0, L, [], [], by omega, rfl, by omega, rfl, HST.out, HF.out, HID.out, rfl⟩
  case round =>
    obtain ⟨k, c, Lk, es, S, hk, rfl, hck, hel, HE, HFk, HIk, HR⟩ := hrel
    clear HST HO HF HID hvlt
    by_cases hlt : k < us.length
    · have hlt' : (k : Int) < (us.length : Int) := by omega
      have hk0 : (0 : Int) ≤ (k : Int) := by omega
      obtain ⟨u, hu⟩ : ∃ u, us[k]? = some u := ⟨us[k], List.getElem?_eq_getElem hlt⟩
      obtain ⟨a, rfl, _, hc⟩ := (HU.out.below HE.out.bel).elem k u hu
      have HC := Lib.hid hc
      obtain ⟨hu1, hu2, hu3⟩ := HUN.out u (List.mem_of_getElem? hu)
      have HOL := Lib.hid hu1
      have HNL := Lib.hid hu2
      have HNS := Lib.hid (show u.name.size ≤ maxLen by unfold maxLen; omega)
      have HCN := Lib.hid (show c < maxLen by unfold maxLen; omega)
      have n0 : (upC u)[0]? = some (.string u.name) := rfl
      have HBA := Lib.hid (below_new wr (.cells (upC u).toArray 51))
      have HBB := Lib.hid (below2 wr (.cells (upC u).toArray 51) (.cells #[] 86))
      have HSNA := Lib.hid (HE.out.below HBA.out).sn
      have HE2 := Lib.hid (HE.out.below HBB.out)
      have HSNB := Lib.hid HE2.out.sn
      have hgml := HE.out.sn.lt
      have HBX := Lib.hid (fun w3 (hg : ((wr.alloc (.cells (upC u).toArray 51)).alloc (.cells #[] 86)).grownBy w3 (some gm)) => news_row ((hg.block wr.heap.size (by simp; omega) (by simp; omega)).trans ((Below.heap_alloc (wr.alloc (.cells (upC u).toArray 51)) (.cells #[] 86) wr.heap.size (by simp)).trans (heap_alloc_new wr (.cells (upC u).toArray 51)))))
      have HRS := Lib.hid (HR.out.trans (by rw [run_step (S := S) (L := Lk) hu]))
      have HFI := Lib.hid ((Rf.fine_iff Lk).1 HFk.out)
      clear hc hu hu1 hu2 hu3
      cases hz : Rf.hasN S u.name with
      | true =>
        have HZ := Lib.hid hz
        obtain ⟨hw1, hw2⟩ := wrong_seen (L := Lk) hz
        have HRN := Lib.hid (show Rf.run L [] us = ((Rf.run Lk (S ++ [u.name]) (us.drop (k + 1))).1, (es ++ [8]) ++ (Rf.run Lk (S ++ [u.name]) (us.drop (k + 1))).2) by
          rw [HRS.out, hw1, hw2]; simp)
        clear hz hw1 hw2
        go_wp2_with (first
          | ((with_reducible refine ld_up (x := .tmp 21) (p := a.add (k * 65)) ?_ ?_ ?_ HC.out HOL.out HNL.out ?_); rfl; rfl; rfl)
          | ((with_reducible apply st_up (h1 := HOL.out) (h2 := HNL.out)); rfl; rfl; rfl; rfl; rfl)
          | ((with_reducible refine sn_look _ ?_ (.tmp 24) (.tmp 26) ?_ gm c S ?_ HSNA.out u.name ?_ HNS.out true HZ.out ?_); rfl; rfl; rfl; rfl)
          | ((with_reducible refine sn_keep _ ?_ (.tmp 30) (.tmp 32) (.tmp 33) ?_ gm c S ?_ HSNB.out HCN.out u.name ?_ HNS.out ?_ ?_); rfl; rfl; rfl; rfl; rfl; intro w3 hs3 hg3; have E3 := Lib.hid (HE2.out.keep hs3 hg3); have c3 := (E3.out.cell hlt hel).1; have f3 := (E3.out.cell hlt hel).2))
        have E4 := Lib.hid (E3.out.told hlt hel 8)
        clear c3 f3 hs3 hg3
        go_roundw
        case rel => exact ⟨k + 1, c + 1, Lk, es ++ [8], S ++ [u.name], by omega, by go_num, by omega, by simp [hel], E4.out, HFk, HIk, HRN⟩
        case measure => simp [intOf]; omega
      | false =>
        have HZ := Lib.hid hz
        obtain ⟨hw1, hw2⟩ := wrong_new (L := Lk) hz
        have HRN := Lib.hid (show Rf.run L [] us = ((Rf.run (Rf.nxt Lk [] u) (S ++ [u.name]) (us.drop (k + 1))).1, (es ++ [Rf.wrong Lk [] u]) ++ (Rf.run (Rf.nxt Lk [] u) (S ++ [u.name]) (us.drop (k + 1))).2) by
          rw [HRS.out, hw1, hw2]; simp)
        have HFN := Lib.hid (Rf.nxt_fine (seen := []) (u := u) HFk.out)
        have HIN := Lib.hid (nxt_ids (S := []) (u := u) HIk.out HNL.out)
        clear hz hw1 hw2
        go_wp2_with (first
          | ((with_reducible refine ld_up (x := .tmp 21) (p := a.add (k * 65)) ?_ ?_ ?_ HC.out HOL.out HNL.out ?_); rfl; rfl; rfl)
          | ((with_reducible apply st_up (h1 := HOL.out) (h2 := HNL.out)); rfl; rfl; rfl; rfl; rfl)
          | ((with_reducible refine sn_look _ ?_ (.tmp 24) (.tmp 26) ?_ gm c S ?_ HSNA.out u.name ?_ HNS.out false HZ.out ?_); rfl; rfl; rfl; rfl)
          | ((with_reducible refine sn_keep _ ?_ (.tmp 30) (.tmp 32) (.tmp 33) ?_ gm c S ?_ HSNB.out HCN.out u.name ?_ HNS.out ?_ ?_); rfl; rfl; rfl; rfl; rfl; intro w3 hs3 hg3; have E3 := Lib.hid (HE2.out.keep hs3 hg3); have c3 := (E3.out.cell hlt hel).1; have f3 := (E3.out.cell hlt hel).2)
          | ((with_reducible refine ld_up (x := .tmp 9) (p := ⟨wr.heap.size, 0, none⟩) ?_ ?_ ?_ (HBX.out _ hg3) HOL.out HNL.out ?_); rfl; rfl; rfl))
        refine (apply_any _ Lk w0.heap.size u w3 E3.out.own HIk.out HFI.out.1 HFI.out.2.2 HOL.out HNL.out HNS.out E3.out.bel.size).mono ?_
        rintro r w4 ⟨v4, rfl, ho4, hg4, hv4⟩
        have E4 := Lib.hid (E3.out.app ho4 hg4 hv4)
        have c4 := (E4.out.cell hlt hel).1
        have f4 := (E4.out.cell hlt hel).2
        have E5 := Lib.hid (E4.out.told hlt hel (Rf.wrong Lk [] u))
        clear c3 f3 hs3 hg3 ho4 hg4 hv4 E3
        go_wp2_with fail
        go_roundw
        case rel => exact ⟨k + 1, c + 1, Rf.nxt Lk [] u, es ++ [Rf.wrong Lk [] u], S ++ [u.name], by omega, by go_num, by omega, by simp [hel], E5.out, HFN, HIN, HRN⟩
        case measure => simp [intOf]; omega
    · have HRE := Lib.hid (show Rf.run L [] us = (Lk, es) by rw [HR.out, List.drop_of_length_le (by omega)]; simp [Rf.run])
      have HEE := Lib.hid (show Errs wr gt us.length es by
        have := HE.out.err
        rwa [show us.length - k = 0 by omega, List.replicate_zero, List.append_nil] at this)
      go_wp2_with fail
      go_ret2
      exact ⟨_, gt, rfl, by rw [HRE.out]; exact HE.out.own, by rw [HRE.out]; exact HEE.out, HE.out.bel, fun e => (HE.out.far gt e).1 rfl, HE.out.ord.1⟩

end Go.Proofs.Ytkdljagcdaphdaa
