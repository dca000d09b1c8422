/-
  LAYER 13: depths as functions, no program.
-/
import Derived.Test.YtkcjhkfelaplkaaGreatDoorRd
import Derived.Test.YtkcjhkfelaplkaaGreatDoorRc
import Derived.Test.YtkcjhkfelaplkaaGreatDoorQy
import Derived.Test.YtkcjhkfelaplkaaGreatDoorQv
import Derived.Test.YtkcjhkfelaplkaaGreatDoorQa
set_option linter.unusedVariables false
set_option linter.unusedSimpArgs false
set_option maxHeartbeats 8000000
set_option maxRecDepth 100000
section
namespace Go.Proofs.YtkcjhkfelaplkaaGreatDoor
def Dp.news (cm : List UInt8 → Bool) (O : List (List UInt8 × Nat)) (n : Nat) (P : List (List UInt8)) : List (List UInt8 × Nat) := (Wk.nw cm (O.map Prod.fst) P).map fun x => (x, n)
def Dp.stp (cm : List UInt8 → Bool) (pr : List UInt8 → List (List UInt8)) (most : Nat) (O : List (List UInt8 × Nat)) (i : Nat) : List (List UInt8 × Nat) :=
 match O[i]? with
 | none => O
 | some d => if d.2 < most then O ++ Dp.news cm O (d.2 + 1) (pr d.1) else O
def Dp.st (cm : List UInt8 → Bool) (pr : List UInt8 → List (List UInt8)) (most : Nat) (F : List (List UInt8 × Nat)) : Nat → List (List UInt8 × Nat)
 | 0 => F
 | i + 1 => Dp.stp cm pr most (Dp.st cm pr most F i) i
def Dp.Is (cm : List UInt8 → Bool) (pr : List UInt8 → List (List UInt8)) (most : Nat) (F R : List (List UInt8 × Nat)) : Prop := ∃ k, ∀ j, k ≤ j → Dp.st cm pr most F j = R
theorem Dp.Is.same {cm : List UInt8 → Bool} {pr : List UInt8 → List (List UInt8)} {most : Nat} {F R R' : List (List UInt8 × Nat)} (h : Dp.Is cm pr most F R) (h' : Dp.Is cm pr most F R') : R = R' := by
 obtain ⟨k, h⟩ := h
 obtain ⟨k', h'⟩ := h'
 rw [← h (max k k') (Nat.le_max_left _ _), h' (max k k') (Nat.le_max_right _ _)]
structure Dp.Inv (cm : List UInt8 → Bool) (pr : List UInt8 → List (List UInt8)) (most : Nat) (F O : List (List UInt8 × Nat)) (k : Nat) : Prop where
 pw : O.Pairwise fun a b => a.2 ≤ b.2
 near : ∀ d ∈ O, ∀ x, O[k]? = some x → d.2 ≤ x.2 + 1
 nd : (O.map Prod.fst).Nodup
 com : ∀ d ∈ O, cm d.1 = true
 pos : ∀ d ∈ O, 1 ≤ d.2
 le : 1 ≤ most → ∀ d ∈ O, d.2 ≤ most
 idx : ∀ i d, O[i]? = some d → d.2 ≤ i + 1
 done : ∀ i d, i < k → O[i]? = some d → d.2 < most → ∀ p ∈ pr d.1, cm p = true → ∃ m, (p, m) ∈ O ∧ m ≤ d.2 + 1
 from_ : ∀ d ∈ O, d ∈ F ∨ ∃ y, (y, d.2 - 1) ∈ O ∧ d.1 ∈ pr y ∧ d.2 - 1 < most ∧ 1 < d.2
 has : ∀ d ∈ F, d ∈ O
theorem Dp.news_mem {cm : List UInt8 → Bool} {O : List (List UInt8 × Nat)} {n : Nat} {P : List (List UInt8)} {d : List UInt8 × Nat} (h : d ∈ Dp.news cm O n P) : d.2 = n ∧ d.1 ∈ P ∧ cm d.1 = true := by
 unfold Dp.news at h
 obtain ⟨x, hx, rfl⟩ := List.mem_map.1 h
 refine ⟨rfl, ?_⟩
 have : ∀ (I S : List (List UInt8)), x ∈ Wk.nw cm S I → x ∈ I ∧ cm x = true := by
  intro I
  induction I with
  | nil => intro S h; simp [Wk.nw] at h
  | cons y r ih =>
    intro S h
    rw [Wk.nw] at h
    by_cases k : cm y = true ∧ y ∉ S
    ·
     rw [if_pos k] at h
     rcases List.mem_cons.1 h with e | e
     · subst e; exact ⟨by simp, k.1⟩
     · exact ⟨by simp [(ih _ e).1], (ih _ e).2⟩
    ·
     rw [if_neg k] at h
     exact ⟨by simp [(ih _ h).1], (ih _ h).2⟩
 exact this _ _ hx
theorem Dp.inv_step {cm : List UInt8 → Bool} {pr : List UInt8 → List (List UInt8)} {most k : Nat} {F O : List (List UInt8 × Nat)} (h : Dp.Inv cm pr most F O k) : Dp.Inv cm pr most F (Dp.stp cm pr most O k) (k + 1) := by
 unfold Dp.stp
 have mono : ∀ x y, O[k]? = some x → O[k + 1]? = some y → x.2 ≤ y.2 := fun x y hx hy => by
  obtain ⟨h1, e1⟩ := List.getElem?_eq_some_iff.1 hx
  obtain ⟨h2, e2⟩ := List.getElem?_eq_some_iff.1 hy
  have := List.pairwise_iff_getElem.1 h.pw k (k + 1) h1 h2 (by omega)
  rw [e1, e2] at this; exact this
 cases hk : O[k]? with
 | none =>
   have hl : O.length ≤ k := List.getElem?_eq_none_iff.1 hk
   show Dp.Inv cm pr most F O (k + 1)
   exact ⟨h.pw, fun d hd x hx => (by rw [List.getElem?_eq_none (by omega)] at hx; cases hx), h.nd, h.com, h.pos, h.le, h.idx, fun i d hi hd => h.done i d (by have := (List.getElem?_eq_some_iff.1 hd).1; omega) hd, h.from_, h.has⟩
 | some x =>
   have hkl := (List.getElem?_eq_some_iff.1 hk).1
   have hxm : x ∈ O := List.mem_of_getElem? hk
   dsimp only
   by_cases hm : x.2 < most
   ·
    rw [if_pos hm]
    have hnm := fun d => Dp.news_mem (cm := cm) (O := O) (n := x.2 + 1) (P := pr x.1) (d := d)
    refine ⟨?_, ?_, ?_, ?_, ?_, ?_, ?_, ?_, ?_, ?_⟩
    ·
     rw [List.pairwise_append]
     refine ⟨h.pw, ?_, fun a ha b hb => by rw [(hnm b hb).1]; exact h.near a ha x hk⟩
     exact List.Pairwise.imp_of_mem (R := fun _ _ => True) (fun ha hb _ => by rw [(hnm _ ha).1, (hnm _ hb).1]; exact Nat.le_refl _) (List.pairwise_of_forall (fun _ _ => trivial))
    ·
     intro d hd y hy
     have hy2 : x.2 ≤ y.2 := by
      by_cases hlt : k + 1 < O.length
      · rw [List.getElem?_append_left hlt] at hy; exact mono x y hk hy
      ·
       rw [List.getElem?_append_right (by omega)] at hy
       rw [(hnm y (List.mem_of_getElem? hy)).1]; omega
     rcases List.mem_append.1 hd with e | e
     · have := h.near d e x hk; omega
     · rw [(hnm d e).1]; omega
    ·
     rw [List.map_append]
     have := Wk.nw_nodup cm (pr x.1) (O.map Prod.fst) h.nd
     unfold Dp.news
     rw [List.map_map]
     simpa [Function.comp_def] using this
    ·
     intro d hd
     rcases List.mem_append.1 hd with e | e
     · exact h.com d e
     · exact (hnm d e).2.2
    ·
     intro d hd
     rcases List.mem_append.1 hd with e | e
     · exact h.pos d e
     · rw [(hnm d e).1]; omega
    ·
     intro h1 d hd
     rcases List.mem_append.1 hd with e | e
     · exact h.le h1 d e
     · rw [(hnm d e).1]; omega
    ·
     intro i d hd
     by_cases hlt : i < O.length
     · rw [List.getElem?_append_left hlt] at hd; exact h.idx i d hd
     ·
      rw [List.getElem?_append_right (by omega)] at hd
      rw [(hnm d (List.mem_of_getElem? hd)).1]
      have := h.idx k x hk
      omega
    ·
     intro i d hi hd hdm p hp hc
     by_cases hik : i = k
     ·
      subst hik
      rw [List.getElem?_append_left hkl, hk] at hd
      injection hd with hd; subst hd
      by_cases hin : p ∈ O.map Prod.fst
      ·
       obtain ⟨d, hdO, rfl⟩ := List.mem_map.1 hin
       exact ⟨d.2, List.mem_append_left _ hdO, h.near d hdO x hk⟩
      ·
       refine ⟨x.2 + 1, List.mem_append_right _ ?_, Nat.le_refl _⟩
       unfold Dp.news
       refine List.mem_map.2 ⟨p, ?_, rfl⟩
       have := (Wk.nw_mem cm p (pr x.1) (O.map Prod.fst)).2 (.inr ⟨hp, hc⟩)
       rcases List.mem_append.1 this with e | e
       · exact absurd e hin
       · exact e
     ·
      rw [List.getElem?_append_left (by omega)] at hd
      obtain ⟨m, h1, h2⟩ := h.done i d (by omega) hd hdm p hp hc
      exact ⟨m, List.mem_append_left _ h1, h2⟩
    ·
     intro d hd
     rcases List.mem_append.1 hd with e | e
     ·
      rcases h.from_ d e with f | ⟨y, h1, h2, h3, h4⟩
      · exact .inl f
      · exact .inr ⟨y, List.mem_append_left _ h1, h2, h3, h4⟩
     ·
      have hd2 := hnm d e
      have := h.pos x hxm
      exact .inr ⟨x.1, by rw [hd2.1]; exact List.mem_append_left _ hxm, hd2.2.1, by rw [hd2.1]; omega, by rw [hd2.1]; omega⟩
    · exact fun d hd => List.mem_append_left _ (h.has d hd)
   ·
    rw [if_neg hm]
    refine ⟨h.pw, fun d hd y hy => ?_, h.nd, h.com, h.pos, h.le, h.idx, fun i d hi hd hdm => ?_, h.from_, h.has⟩
    ·
     have := mono x y hk hy
     have := h.near d hd x hk
     omega
    ·
     by_cases hik : i = k
     ·
      subst hik
      rw [hk] at hd; injection hd with hd; subst hd
      exact absurd hdm hm
     · exact h.done i d (by omega) hd hdm
theorem Dp.inv_st {cm : List UInt8 → Bool} {pr : List UInt8 → List (List UInt8)} {most : Nat} {F : List (List UInt8 × Nat)} (h : Dp.Inv cm pr most F F 0) : ∀ k, Dp.Inv cm pr most F (Dp.st cm pr most F k) k
 | 0 => h
 | k + 1 => Dp.inv_step (Dp.inv_st h k)
theorem Dp.inv_ends (cm : List UInt8 → Bool) (pr : List UInt8 → List (List UInt8)) (most : Nat) (E : List (List UInt8)) : Dp.Inv cm pr most ((Wk.nw cm [] E).map fun x => (x, 1)) ((Wk.nw cm [] E).map fun x => (x, 1)) 0 := by
 have h1 : ∀ d ∈ ((Wk.nw cm [] E).map fun x => ((x, 1) : List UInt8 × Nat)), d.2 = 1 ∧ cm d.1 = true := fun d hd => by
  obtain ⟨x, hx, rfl⟩ := List.mem_map.1 hd
  refine ⟨rfl, ?_⟩
  have := (Wk.nw_mem cm x E []).1 (by simpa using hx)
  rcases this with h | h
  · cases h
  · exact h.2
 refine ⟨?_, fun d hd x hx => by rw [(h1 d hd).1]; omega, ?_, fun d hd => (h1 d hd).2, fun d hd => by rw [(h1 d hd).1]; omega, fun _ d hd => by rw [(h1 d hd).1]; omega, fun i d hd => by rw [(h1 d (List.mem_of_getElem? hd)).1]; omega, fun i d hi => by omega, fun d hd => .inl hd, fun d hd => hd⟩
 · exact List.Pairwise.imp_of_mem (R := fun _ _ => True) (fun ha hb _ => by rw [(h1 _ ha).1, (h1 _ hb).1]; exact Nat.le_refl _) (List.pairwise_of_forall (fun _ _ => trivial))
 ·
  rw [List.map_map]
  have := Wk.nw_nodup cm E [] List.nodup_nil
  simpa [Function.comp_def] using this
theorem Dp.still_end {cm : List UInt8 → Bool} {pr : List UInt8 → List (List UInt8)} {most : Nat} {F : List (List UInt8 × Nat)} {k : Nat} (h : (Dp.st cm pr most F k).length ≤ k) : Dp.Is cm pr most F (Dp.st cm pr most F k) := by
 refine ⟨k, fun j hj => ?_⟩
 obtain ⟨q, rfl⟩ : ∃ q, j = k + q := ⟨j - k, by omega⟩
 clear hj
 induction q with
 | zero => rfl
 | succ q ih =>
   rw [show k + (q + 1) = (k + q) + 1 by omega, Dp.st, ih]
   unfold Dp.stp
   rw [List.getElem?_eq_none (by omega)]
theorem Dp.still_deep {cm : List UInt8 → Bool} {pr : List UInt8 → List (List UInt8)} {most : Nat} {F : List (List UInt8 × Nat)} {k : Nat} {x : List UInt8 × Nat} (hI : Dp.Inv cm pr most F F 0) (hx : (Dp.st cm pr most F k)[k]? = some x) (hm : most ≤ x.2) : Dp.Is cm pr most F (Dp.st cm pr most F k) := by
 refine ⟨k, fun j hj => ?_⟩
 obtain ⟨q, rfl⟩ : ∃ q, j = k + q := ⟨j - k, by omega⟩
 clear hj
 induction q with
 | zero => rfl
 | succ q ih =>
   rw [show k + (q + 1) = (k + q) + 1 by omega, Dp.st, ih]
   unfold Dp.stp
   cases hy : (Dp.st cm pr most F k)[k + q]? with
   | none => rfl
   | some y =>
     dsimp only
     rw [if_neg]
     have h1 := (Dp.inv_st hI k).pw
     obtain ⟨l1, e1⟩ := List.getElem?_eq_some_iff.1 hx
     obtain ⟨l2, e2⟩ := List.getElem?_eq_some_iff.1 hy
     rcases Nat.eq_zero_or_pos q with h0 | h0
     ·
      subst h0
      rw [Nat.add_zero, hx] at hy
      injection hy with hy; subst hy; omega
     ·
      have := List.pairwise_iff_getElem.1 h1 k (k + q) l1 l2 (by omega)
      rw [e1, e2] at this
      omega
theorem Dp.Is.inv {cm : List UInt8 → Bool} {pr : List UInt8 → List (List UInt8)} {most : Nat} {F R : List (List UInt8 × Nat)} (hI : Dp.Inv cm pr most F F 0) (h : Dp.Is cm pr most F R) : ∃ k, R.length ≤ k ∧ Dp.Inv cm pr most F R k := by
 obtain ⟨k, hk⟩ := h
 refine ⟨max k R.length, Nat.le_max_right _ _, ?_⟩
 have := Dp.inv_st hI (max k R.length)
 rwa [hk _ (Nat.le_max_left _ _)] at this
end Go.Proofs.YtkcjhkfelaplkaaGreatDoor
end
section
namespace Go.Proofs.YtkcjhkfelaplkaaGreatDoor
open Go.RowKit
def Dp.C (d : List UInt8 × Nat) : List Value := idC d.1 ++ [.int .i64 (d.2 : Int)]
theorem Dp.C_length {d : List UInt8 × Nat} (h : d.1.length = 32) : (Dp.C d).length = 33 := by simp [Dp.C, idC_length, h]
theorem Dp.C_one (d : List UInt8 × Nat) : ∀ v ∈ Dp.C d, v.oneCell' = true := by
 intro v hv
 simp only [Dp.C, List.mem_append, List.mem_singleton] at hv
 rcases hv with h | rfl
 · exact idC_one _ _ h
 · rfl
def zDp : List Value := idC zId ++ [.int .i64 0]
structure Dp.Ty (T Ts : TypeId) : Prop where
 info : (Tryz.prog.info? T).map (fun i => (i.zero, i.size, i.bytes)) = some (some (.agg zDp.toArray), 33, 40)
 under : Tryz.prog.underlying Ts = some (.slice T)
 str : ∃ fs, Tryz.prog.underlying T = some (.struct fs) ∧ fs.toList.mapM (fun f => (Tryz.prog.info? f.type).map fun i => (f.offset, i.size)) = some [(0, 32), (32, 1)]
theorem Dp.tyP : Dp.Ty 48 37 := ⟨by kernel_rfl, Tryz.underlying37, Tryz.prog.fieldsOf 48, by kernel_rfl, by kernel_rfl⟩
theorem Dp.tyR : Dp.Ty 55 43 := ⟨by kernel_rfl, Tryz.underlying43, Tryz.prog.fieldsOf 55, by kernel_rfl, by kernel_rfl⟩
theorem Dp.Ty.size {T Ts : TypeId} (h : Dp.Ty T Ts) : (Tryz.prog.info? T).map (·.size) = some 33 := by
 have := h.info
 cases hq : Tryz.prog.info? T with
 | none => simp [hq] at this
 | some i => simp [hq] at this; simp [this.2.1]
structure OwnD (T : TypeId) (w : World) (base : Nat) (v : Value) (O : List (List UInt8 × Nat)) : Prop where
 own : w.ownsRow base T 33 v O.length (O.map Dp.C).flatten
 len : ∀ d ∈ O, d.1.length = 32
theorem dps_len {O : List (List UInt8 × Nat)} (h : ∀ d ∈ O, d.1.length = 32) : ∀ c ∈ O.map Dp.C, c.length = 33 := fun c hc => by
 obtain ⟨x, hx, rfl⟩ := List.mem_map.1 hc; exact Dp.C_length (h x hx)
theorem OwnD.nil (T : TypeId) (w : World) (base : Nat) : OwnD T w base (.slice none 0 0) [] := ⟨World.ownsRow_nil _ _ _ _, fun d hd => by cases hd⟩
theorem OwnD.below {T : TypeId} {w w' : World} {base : Nat} {v : Value} {O : List (List UInt8 × Nat)} (h : OwnD T w base v O) (hb : Below w.heap.size w w') : OwnD T w' base v O := ⟨own_bel h.own hb, h.len⟩
theorem OwnD.rows {T : TypeId} {w : World} {base : Nat} {v : Value} {O : List (List UInt8 × Nat)} (h : OwnD T w base v O) : RowsAt w v 33 (O.map Dp.C) := own_rowsK (C := O.map Dp.C) (by simpa using h.own) (dps_len h.len)
theorem OwnD.form {T : TypeId} {w : World} {base : Nat} {v : Value} {O : List (List UInt8 × Nat)} (h : OwnD T w base v O) : ∃ ao cap, v = .slice ao O.length cap := by simpa using h.rows.form
theorem dp_id {w : World} {p : Addr} {d : List UInt8 × Nat} (h : ∀ j x, (Dp.C d)[j]? = some x → w.cell? (p.add j) = some x) : ∀ j x, (idC d.1)[j]? = some x → w.cell? (p.add j) = some x := fun j x hx => h j x (by
 simp only [Dp.C]
 rw [List.getElem?_append_left (List.getElem?_eq_some_iff.1 hx).1]; exact hx)
theorem dp_n {w : World} {p : Addr} {d : List UInt8 × Nat} (hd : d.1.length = 32) (h : ∀ j x, (Dp.C d)[j]? = some x → w.cell? (p.add j) = some x) : w.cell? (p.add 32) = some (.int .i64 (d.2 : Int)) := h 32 _ (by
 simp only [Dp.C]
 rw [List.getElem?_append_right (by rw [idC_length, hd]; omega), idC_length, hd]; rfl)
theorem OwnD.elem {T : TypeId} {w : World} {base n cap : Nat} {ao : Option Addr} {O : List (List UInt8 × Nat)} (h : OwnD T w base (.slice ao n cap) O) (k : Nat) (d : List UInt8 × Nat) (hk : O[k]? = some d) : ∃ a, ao = some a ∧ ∀ j x, (Dp.C d)[j]? = some x → w.cell? ((a.add (k * 33)).add j) = some x := by
 obtain ⟨a, e, _, hc⟩ := h.rows.elem k (Dp.C d) (by rw [List.getElem?_map, hk]; rfl)
 exact ⟨a, e, hc⟩
theorem Dp.built {T Ts : TypeId} (hT : Dp.Ty T Ts) (d : List UInt8 × Nat) (hd : d.1.length = 32) : Tryz.prog.built T [(0, .agg (idC d.1).toArray), (1, .int .i64 (d.2 : Int))] = some (Dp.C d).toArray := by
 obtain ⟨i0, hi, hz0, hz1, hz2⟩ := info_parts hT.info
 obtain ⟨fs, hu, hpl⟩ := hT.str
 unfold Program.built
 rw [hi, hu]
 simp only [hz0, hpl]
 have hzl : zDp.length = 33 := by decide
 have hic : (idC d.1).length = 32 := by rw [idC_length, hd]
 show Instr.fill _ zDp.toArray _ = _
 generalize zDp = Z at hzl
 rw [fill_one _ _ 0 0 32 _ _ rfl (by simpa [Value.cells] using hic) (by simp [hzl])]
 have e1 : splice Z 0 (idC d.1) = idC d.1 ++ Z.drop 32 := by unfold splice; simp [hic]
 rw [show (splice Z.toArray.toList 0 (Value.agg (idC d.1).toArray).cells.toList) = idC d.1 ++ Z.drop 32 from e1]
 rw [fill_one _ _ 1 32 1 _ _ rfl rfl (by simp [hzl, hic])]
 have e2 : splice (idC d.1 ++ Z.drop 32) 32 [.int .i64 (d.2 : Int)] = Dp.C d := by
  unfold splice Dp.C
  rw [List.take_append_of_le_length (by omega), List.take_of_length_le (by omega), List.drop_append, hic]
  simp [List.drop_eq_nil_of_le, hic, hzl]
 rw [show (splice (idC d.1 ++ Z.drop 32).toArray.toList 32 (Value.int .i64 (d.2 : Int)).cells.toList) = Dp.C d from e2]
 rfl
theorem Dp.builtS {T Ts : TypeId} (hT : Dp.Ty T Ts) (d : List UInt8 × Nat) (hd : d.1.length = 32) : Tryz.prog.builtSlice T 1 [(0, .agg (Dp.C d).toArray)] = some (Dp.C d).toArray := by
 obtain ⟨i0, hi, hz0, hz1, hz2⟩ := info_parts hT.info
 have hc := Dp.C_length hd
 have hcn : ¬ (1 * 33 > 2 ^ 24 ∨ 1 * 33 = 0) := by decide
 have hz : (Array.map (fun (x : Nat) => (Value.agg zDp.toArray).cells[x % (Value.agg zDp.toArray).cells.size]!) (Array.range (1 * 33))).size = 33 := by simp
 unfold Program.builtSlice
 rw [hi]
 simp only [hz0, hz1]
 rw [if_neg hcn]
 generalize (Array.map (fun (x : Nat) => (Value.agg zDp.toArray).cells[x % (Value.agg zDp.toArray).cells.size]!) (Array.range (1 * 33))) = Z at hz
 rw [fill_one _ Z 0 0 33 (.agg (Dp.C d).toArray) _ (by simp) (by simpa [Value.cells] using hc) (by omega)]
 have e : splice Z.toList 0 (Value.agg (Dp.C d).toArray).cells.toList = Dp.C d := splice_all Z.toList (Dp.C d) (by simp [hz, hc])
 rw [e]
 rfl
theorem wp_bsDp {T Ts : TypeId} (hT : Dp.Ty T Ts) {op : Oper} {a : Act} {w : World} {K : Act → World → Prop} {Q : Exit → Act → World → Prop} {x : Operand} {d : List UInt8 × Nat} (ho : op.op = .buildSlice Ts 1 #[(0, x)]) (hx : a.eval x = .agg (Dp.C d).toArray) (hd : d.1.length = 32)
  (h : K (a.put op.dst (.slice (some ⟨w.heap.size, 0, none⟩) 1 1)) (w.alloc (.cells (Dp.C d).toArray T))) : op.wp Tryz.prog a w K Q := by
 obtain ⟨ie, hie, hz, h1, _⟩ := info_parts hT.info
 have hf := Dp.builtS hT d hd
 unfold Program.builtSlice at hf
 simp only [hie, hz] at hf
 rw [if_neg (by rw [h1]; decide)] at hf
 exact wp_buildSlice Ts T 1 _ ho _ ie _ hT.under hie hz (by rw [h1]; decide) (by rw [h1]; decide) (by simp only [List.map_toArray, List.map_cons, List.map_nil, hx]; exact hf) h
theorem wp_ap_dp {T Ts : TypeId} (hT : Dp.Ty T Ts) {op : Oper} {a : Act} {wr : World} {K : Act → World → Prop} {Q : Exit → Act → World → Prop} {v : Value} {O : List (List UInt8 × Nat)} {d : List UInt8 × Nat} {base : Nat} (s x : Operand)
  (ho : op.op = .call { callee := .builtin .append, args := #[s, x], argTypes := #[Ts, Ts] }) (hs : a.eval s = v) (hx : a.eval x = .slice (some ⟨wr.heap.size, 0, none⟩) 1 1)
  (h : OwnD T wr base v O) (hb : base ≤ wr.heap.size) (hl : O.length ≤ 2000) (hd : d.1.length = 32)
  (hK : ∀ v' w', Hid (OwnD T w' base v' (O ++ [d])) → Hid ((wr.alloc (.cells (Dp.C d).toArray T)).grownBy w' v.ownBlock) → Hid (v'.ownBlock = v.ownBlock ∨ v'.ownBlock = some (wr.heap.size + 1)) → K (a.put op.dst v') w') : op.wp Tryz.prog a (wr.alloc (.cells (Dp.C d).toArray T)) K Q := by
 obtain ⟨i0, hi, hz0, hz1, hz2⟩ := info_parts hT.info
 obtain ⟨v', w', hr, h1, h2, _, h4⟩ := run_append_own_at (P := Tryz.prog) (wr.alloc (.cells (Dp.C d).toArray T)) base Ts op.type T i0 _ 33 40 hT.under hi hz0 hz1 hz2 (by decide) (by decide) v O.length (O.map Dp.C).flatten (World.ownsRow.alloc h.own _) ⟨wr.heap.size, 0, none⟩ 1 1 (Dp.C d) (by rw [Dp.C_length hd]) (row_news (heap_alloc_new _ _)) (Dp.C_one d) (by unfold maxLen; omega) (by omega) (by simp; omega)
 have h5 : v'.ownBlock = v.ownBlock ∨ v'.ownBlock = some (wr.heap.size + 1) := by simpa using h4
 have hO : OwnD T w' base v' (O ++ [d]) := ⟨by
  have := own_pushK (C := O.map Dp.C) (c := Dp.C d) (by simpa using h1)
  rw [show (O ++ [d]).map Dp.C = O.map Dp.C ++ [Dp.C d] by simp, show (O ++ [d]).length = (O.map Dp.C ++ [Dp.C d]).length by simp]
  exact this, fun x hx => by
  rcases List.mem_append.1 hx with k | k
  · exact h.len x k
  · rw [List.mem_singleton.1 k]; exact hd⟩
 unfold Oper.wp execOp
 simp only [ho, resolve, invoke, builtin, Sem.run_bind, Sem.run_pure, Result.andThen_ok, List.map_toArray, List.map_cons, List.map_nil, hs, hx, hr]
 exact hK _ _ (Lib.hid hO) (Lib.hid h2) (Lib.hid h5)
theorem bd_dp {T Ts : TypeId} (hT : Dp.Ty T Ts) {ops : Array Oper} {rest : List Oper} {op : Oper} {a : Act} {w : World} {Q : Exit → Act → World → Prop} {x y : Operand} {d : List UInt8 × Nat} (ho : op.op = .build T #[(0, x), (1, y)]) (hx : a.eval x = .agg (idC d.1).toArray) (hy : a.eval y = .int .i64 (d.2 : Int)) (hg : op.guard = none) (hd : d.1.length = 32)
  (h : wpList Tryz.prog ops Q rest (a.put op.dst (.agg (Dp.C d).toArray)) w) : wpList Tryz.prog ops Q (op :: rest) a w :=
 wpList_build_as hg _ _ ho _ (by simp only [List.map_toArray, List.map_cons, List.map_nil, hx, hy]; exact Dp.built hT d hd) h
theorem bs_dp {T Ts : TypeId} (hT : Dp.Ty T Ts) {ops : Array Oper} {rest : List Oper} {op : Oper} {a : Act} {w : World} {Q : Exit → Act → World → Prop} {x : Operand} {d : List UInt8 × Nat} (ho : op.op = .buildSlice Ts 1 #[(0, x)]) (hx : a.eval x = .agg (Dp.C d).toArray) (hg : op.guard = none) (hd : d.1.length = 32)
  (h : wpList Tryz.prog ops Q rest (a.put op.dst (.slice (some ⟨w.heap.size, 0, none⟩) 1 1)) (w.alloc (.cells (Dp.C d).toArray T))) : wpList Tryz.prog ops Q (op :: rest) a w :=
 wpList_plain hg fun K hK => wp_bsDp hT ho hx hd (hK _ _ h)
theorem ap_dp {T Ts : TypeId} (hT : Dp.Ty T Ts) {ops : Array Oper} {rest : List Oper} {op : Oper} {a : Act} {wr : World} {Q : Exit → Act → World → Prop} {v : Value} {O : List (List UInt8 × Nat)} {d : List UInt8 × Nat} {base : Nat} (s x : Operand)
  (ho : op.op = .call { callee := .builtin .append, args := #[s, x], argTypes := #[Ts, Ts] }) (hs : a.eval s = v) (hx : a.eval x = .slice (some ⟨wr.heap.size, 0, none⟩) 1 1) (hg : op.guard = none)
  (h : OwnD T wr base v O) (hb : base ≤ wr.heap.size) (hl : O.length ≤ 2000) (hd : d.1.length = 32)
  (hK : ∀ v' w', Hid (OwnD T w' base v' (O ++ [d])) → Hid ((wr.alloc (.cells (Dp.C d).toArray T)).grownBy w' v.ownBlock) → Hid (v'.ownBlock = v.ownBlock ∨ v'.ownBlock = some (wr.heap.size + 1)) → wpList Tryz.prog ops Q rest (a.put op.dst v') w') : wpList Tryz.prog ops Q (op :: rest) a (wr.alloc (.cells (Dp.C d).toArray T)) :=
 wpList_plain hg fun _ hK' => wp_ap_dp hT s x ho hs hx h hb hl hd (fun v' w' h1 h2 h3 => hK' _ _ (hK v' w' h1 h2 h3))
end Go.Proofs.YtkcjhkfelaplkaaGreatDoor
end
section
namespace Go.Proofs.YtkcjhkfelaplkaaGreatDoor
open Go.RowKit
theorem ld_idg {ops : Array Oper} {rest : List Oper} {op : Oper} {a : Act} {w : World} {Q : Exit → Act → World → Prop} {x : Operand} {p : Addr} {l : List UInt8} (hw : Region.wanted op (yielded ops a.tmps) = true) (ho : op.op = .load 46 x) (hx : a.eval x = .pointer (some p)) (hc : ∀ j v, (idC l)[j]? = some v → w.cell? (p.add j) = some v) (hl : l.length = 32)
  (h : wpList Tryz.prog ops Q rest (a.put op.dst (.agg (idC l).toArray)) w) : wpList Tryz.prog ops Q (op :: rest) a w :=
 wpList_step fun K hK => by rw [if_pos hw]; exact wp_load_at 46 x ho p hx _ _ hc Tryz.underlying46 rfl (idsize hl) (hK _ _ h)
theorem Gr.cm_kd (L : List St.It) (x : List UInt8) : Gr.cm L x = decide (Gr.kd L x = 3) := by
 unfold Gr.cm Gr.kd
 cases Gr.ob L x <;> simp
theorem Gr.eds_snoc {L : List St.It} {F : List (List UInt8)} {k : Nat} {id : List UInt8} (h : F[k]? = some id) : Gr.eds L (F.take (k + 1)) = Gr.eds L (F.take k) ++ Gr.eds L [id] := by
 rw [take_id h, Gr.eds_app]
namespace R
theorem refends_any (B kk : Nat) (w : World) (v fv : Value) (L : List St.It) (F : List (List UInt8)) (h : DSt B kk w v L) (hF : IdsAt w fv F) (hFl : ∀ i ∈ F, i.length = 32) (hFn : F.length ≤ 1000) :
  Calls Tryz.prog 48 #[.agg #[v], fv] w fun r w' => ∃ ov, r = .returned ov ∧ OwnI w' w.heap.size ov (Wk.nw (Gr.cm L) [] (Gr.eds L F)) ∧ Below w.heap.size w w' := by
 have hz24 := (zero_of_info zero24).1
 have HS0 := Lib.hid (show (idC zId).toArray.size = 32 by decide)
 generalize (idC zId).toArray = z at hz24 HS0
 have HEA := Lib.hid (fun W' (hb : Below w.heap.size w W') (id : List UInt8) (hid : id.length = 32) => (refend_any B kk W' v L id (h.below hb) hid).mono fun r w' hh => aend_any hh)
 have HKA := Lib.hid (fun W' (hb : Below w.heap.size w W') (id : List UInt8) (hid : id.length = 32) => refkindX_any W' v L id (h.old.below hb) hid)
 have HFF := Lib.hid hF
 have HFL := Lib.hid hFl
 obtain ⟨fo, fc, rfl⟩ : ∃ ao cap, fv = .slice ao F.length cap := by simpa using RowsAt.form hF
 obtain ⟨so, sc, rfl⟩ := h.form
 clear h hF hFl
 have HB1 := Lib.hid (below_new w (.cells #[.slice so L.length sc] 28))
 have HX1 := Lib.hid (heap_alloc_last w (.cells #[.slice so L.length sc] 28))
 go_enter Tryz.func48, Tryz.ntmps48
 go_wp2_with fail
 change Code.wp _ _ _ _ (w.alloc (.cells #[.slice so L.length sc] 28))
 have HZ1 := Lib.hid (show (w.alloc (.cells #[.slice so L.length sc] 28)).heap.size = w.heap.size + 1 by simp)
 generalize w.alloc (.cells #[.slice so L.length sc] 28) = w1 at *
 go_loopw [5, 6] (fun ov i wr => ∃ (k : Nat) (O : List (List UInt8)), k ≤ F.length ∧ i = .int .i64 k ∧ O.length ≤ k ∧ Hid (O = Wk.nw (Gr.cm L) [] (Gr.eds L (F.take k))) ∧ Hid (OwnI wr w1.heap.size ov O) ∧ Hid (Below w1.heap.size w1 wr)) (fun _ i _ => F.length - (intOf i).toNat)
 case atStart => exact ⟨0, [], by omega, rfl, by simp, (show ([] : List (List UInt8)) = _ from by simp [Gr.eds, Wk.nw]), OwnI.nil _ _, Below.refl _ _⟩
 case round =>
  obtain ⟨k, O, hk, rfl, hOk, HE, HO, HB⟩ := hrel
  obtain ⟨oo, oc, rfl⟩ := HO.out.form
  have hbs := HB.out.size
  have hz1 := HZ1.out
  have HBW := Lib.hid (HB1.out.trans (HB.out.mono HB1.out.size))
  have HXR := Lib.hid ((HB.out.block w.heap.size (by omega)).trans HX1.out)
  by_cases hlt : k < F.length
  ·
   have hlt' : (k : Int) < (F.length : Int) := by omega
   have hk0 : (0 : Int) ≤ (k : Int) := by omega
   obtain ⟨id, hid⟩ : ∃ id, F[k]? = some id := ⟨F[k], List.getElem?_eq_getElem hlt⟩
   have HIL := Lib.hid (HFL.out id (List.mem_of_getElem? hid))
   have HIZ := Lib.hid (idsize HIL.out)
   obtain ⟨a, rfl, _, hc⟩ := (RowsAt.below HFF.out HBW.out).elem k (idC id) (by simp [hid])
   have HSP := Lib.hid (show ∀ W' : World, (∀ g, g < wr.heap.size → W'.heap[g]? = wr.heap[g]?) → W'.cell? ⟨w.heap.size, 0, none⟩ = some (.slice so L.length sc) from fun W' hw => by
    rw [World.cell?_of_block (w := wr) (hw w.heap.size (by omega)), cell_of_row _ _ 0 _ _ _ HXR.out]; rfl)
   have HRW := Lib.hid (show ∀ W' : World, (∀ g, g < wr.heap.size → W'.heap[g]? = wr.heap[g]?) → ∀ j u, (idC id)[j]? = some u → W'.cell? ((a.add (k * 32)).add j) = some u from fun W' hw j u hu => by
    have h1 := hc j u hu
    rw [World.cell?_of_block (w := wr) (hw _ (World.block_lt_of_cell? _ _ h1))]; exact h1)
   have HBD := Lib.hid HBW.out.drew
   have HEN := Lib.hid (fun W' hb => HEA.out W' hb id HIL.out)
   have HES := Lib.hid (Gr.eds_snoc (L := L) hid)
   clear hc hid
   go_upto_region 5 with (fail)
   go_cut [7, 8] from 16 to 24 (fun iv isv wx => ∃ g x is, iv = .pointer (some ⟨g, 0, none⟩) ∧ isv = .bool is ∧ wr.heap.size ≤ g ∧ Hid (x.length = 32) ∧ Hid (wx.heap[g]? = some (.cells (idC x).toArray 46)) ∧ Hid (if is = true then Gr.endF L (L.length + 1) id = some x else Gr.endF L (L.length + 1) id = none) ∧ Hid (Below wr.heap.size wr wx))
   case first =>
    refine wp_region_noPanic ?_
    refine wp_region_held_drew (S := (fun w' => ∀ g, g < wr.heap.size → w'.heap[g]? = wr.heap[g]?)) (by kernel_rfl) (fun g _ => rfl) (fun hH => ?_)
    refine tk (i := 0) (v := ?_) ?_ ?_
    rotate_left
    · intro w' hSw; have q0 := HSP.out _ hSw; go_simp; try rfl
    try simp only [q0]
    refine tk (i := 1) (v := ?_) ?_ ?_
    rotate_left
    · intro w' hSw; go_simp; try rfl
    try simp only [q0]
    refine tk (i := 2) (v := ?_) ?_ ?_
    rotate_left
    · intro w' hSw; go_simp; try rfl
    try simp only [q0]
    refine tk (i := 3) (v := ?_) ?_ ?_
    rotate_left
    · intro w' hSw; go_simp; try rfl
    try simp only [q0]
    refine wpAnyH_take (i := 4) rfl (by kernel_rfl) (by kernel_rfl) (by kernel_rfl) (fun _ _ _ h => h) (yields_at (p := a.add (k * 32)) (cs := idC id) (by rfl) rfl rfl (fun w' hw' => HRW.out w' hw') Tryz.underlying46 rfl HIZ.out) (by assumption) ?_
    try simp only [q0]
    refine wpAnyH_ready (rs := [5, 9]) (by kernel_rfl) (by simp) ?_
    refine AllReadyH.cons rfl (fun K hK => ?_) (AllReadyH.cons rfl (fun K hK => ?_) AllReadyH.nil)
    ·
     go_simp
     with_reducible refine (HEN.out _ HBD.out).mono ?_
     rintro r w5 ⟨x, is, rfl, hxl, hb5, hq⟩
     have HXL := Lib.hid hxl
     have HB5 := Lib.hid (show Below wr.heap.size wr w5 from (Below.refl wr.heap.size wr).drew.trans hb5)
     have hz5 : wr.heap.size ≤ w5.heap.size := HB5.out.size
     have HQ := Lib.hid hq
     have HXI := Lib.hid (show (idC x).toArray.size = 32 by simpa [idC_length] using hxl)
     clear hxl hb5 hq
     go_wp2_with fail
     refine hK.out _ _ (fun g hg => HB5.out.block g hg) (fun _ => ?_)
     clear hK K
     try simp only [q0]
     refine tk (i := 6) (v := ?_) ?_ ?_
     rotate_left
     · intro w' hSw; go_simp; try rfl
     try simp only [q0]
     refine tk (i := 7) (v := ?_) ?_ ?_
     rotate_left
     · intro w' hSw; go_simp; try rfl
     try simp only [q0]
     refine tk (i := 8) (v := ?_) ?_ ?_
     rotate_left
     · intro w' hSw; go_simp; try rfl
     try simp only [q0]
     refine wpAnyH_ready (rs := [9]) (by kernel_rfl) (by simp) ?_
     refine AllReadyH.cons rfl (fun K hK => ?_) AllReadyH.nil
     go_simp
     refine hK.out _ _ (fun g hg => (heap_alloc_old _ _ (by omega)).trans (HB5.out.block g hg)) (fun _ => ?_)
     clear hK K
     try simp only [q0]
     have HN6 := Lib.hid (heap_alloc_last w5 (.cells z 46))
     refine wpAnyH_ready (rs := [10]) (by kernel_rfl) (by simp) ?_
     refine AllReadyH.cons rfl (fun K hK => ?_) AllReadyH.nil
     rw [if_pos (by rfl)]
     refine wp_store_row 46 (.tmp 7) (.tmp 23) rfl w5.heap.size (idC x).toArray rfl rfl 46 _ HN6.out (idsize2 HXL.out) (by rw [HS0.out, HXI.out]) (all_oneCell_toArray (idC_one x)) ?_
     refine hK.out _ _ (fun g hg => (setRow_other _ _ _ _ (by omega)).trans ((heap_alloc_old _ _ (by omega)).trans (HB5.out.block g hg))) (fun _ => ?_)
     clear hK K
     try simp only [q0]
     refine tk (i := 11) (v := ?_) ?_ ?_
     rotate_left
     · intro w' hSw; go_simp; try rfl
     try simp only [q0]
     refine wpAnyH_done (by kernel_rfl) ?_ _
     refine NoPanic.normal ?_
     go_wp2_with fail
     go_meet
     case rel => exact ⟨w5.heap.size, x, is, rfl, rfl, hz5, HXL.out, setRow_heap _ _ _ _ _ _ HN6.out, HQ.out, below_setRow (HB5.out.alloc hz5 _) hz5 _⟩
    ·
     go_simp
     refine hK.out _ _ (fun g hg => heap_alloc_old _ _ hg) (fun _ => ?_)
     clear hK K
     try simp only [q0]
     have HB4 := Lib.hid (show Below wr.heap.size wr (wr.alloc (.cells z 46)).drew from ((Below.refl _ _).alloc (Nat.le_refl _) _).drew)
     have HB4W := Lib.hid (HBW.out.trans (HB4.out.mono HBW.out.size))
     refine wpAnyH_ready (rs := [5]) (by kernel_rfl) (by simp) ?_
     refine AllReadyH.cons rfl (fun K hK => ?_) AllReadyH.nil
     go_simp
     with_reducible refine (HEN.out _ HB4W.out).mono ?_
     rintro r w5 ⟨x, is, rfl, hxl, hb5, hq⟩
     have HXL := Lib.hid hxl
     have HB5 := Lib.hid (show Below wr.heap.size wr w5 from HB4.out.trans (hb5.mono (by simp)))
     have hz5 : wr.heap.size + 1 ≤ w5.heap.size := by have := hb5.size; simpa using this
     have HN6 := Lib.hid (show w5.heap[wr.heap.size]? = some (.cells z 46) from (hb5.block wr.heap.size (by simp)).trans (heap_alloc_last wr (.cells z 46)))
     have HQ := Lib.hid hq
     have HXI := Lib.hid (show (idC x).toArray.size = 32 by simpa [idC_length] using hxl)
     clear hxl hb5 hq
     go_wp2_with fail
     refine hK.out _ _ (fun g hg => HB5.out.block g hg) (fun _ => ?_)
     clear hK K
     try simp only [q0]
     refine tk (i := 6) (v := ?_) ?_ ?_
     rotate_left
     · intro w' hSw; go_simp; try rfl
     try simp only [q0]
     refine tk (i := 7) (v := ?_) ?_ ?_
     rotate_left
     · intro w' hSw; go_simp; try rfl
     try simp only [q0]
     refine tk (i := 8) (v := ?_) ?_ ?_
     rotate_left
     · intro w' hSw; go_simp; try rfl
     try simp only [q0]
     refine wpAnyH_ready (rs := [10]) (by kernel_rfl) (by simp) ?_
     refine AllReadyH.cons rfl (fun K hK => ?_) AllReadyH.nil
     rw [if_pos (by rfl)]
     refine wp_store_row 46 (.tmp 7) (.tmp 23) rfl wr.heap.size (idC x).toArray rfl rfl 46 _ HN6.out (idsize2 HXL.out) (by rw [HS0.out, HXI.out]) (all_oneCell_toArray (idC_one x)) ?_
     refine hK.out _ _ (fun g hg => (setRow_other _ _ _ _ (by omega)).trans (HB5.out.block g hg)) (fun _ => ?_)
     clear hK K
     try simp only [q0]
     refine tk (i := 11) (v := ?_) ?_ ?_
     rotate_left
     · intro w' hSw; go_simp; try rfl
     try simp only [q0]
     refine wpAnyH_done (by kernel_rfl) ?_ _
     refine NoPanic.normal ?_
     go_wp2_with fail
     go_meet
     case rel => exact ⟨wr.heap.size, x, is, rfl, rfl, Nat.le_refl _, HXL.out, setRow_heap _ _ _ _ _ _ HN6.out, HQ.out, below_setRow HB5.out (Nat.le_refl _) _⟩
   case rest =>
    obtain ⟨g, x, is, rfl, rfl, hg, HXL, HG, HQ, HBX⟩ := hcut
    have HOC := Lib.hid (HO.out.below HBX.out)
    have HBC := Lib.hid (HB.out.trans (HBX.out.mono hbs))
    have HID := Lib.hid (row_news HG.out)
    have HIN := Lib.hid (in_any wc _ O x HOC.out.rows HO.out.len HXL.out (by omega))
    have hgl := (Array.getElem?_eq_some_iff.1 HG.out).1
    have HBWC := Lib.hid (HBW.out.trans (HBX.out.mono HBW.out.size))
    have HXC := Lib.hid ((HBX.out.block w.heap.size (by omega)).trans HXR.out)
    have HST := Lib.hid (show Wk.nw (Gr.cm L) [] (Gr.eds L (F.take (k + 1))) = O ++ Wk.nw (Gr.cm L) O (Gr.eds L [id]) from by rw [HES.out, Wk.nw_app, List.nil_append, ← HE.out])
    have HBX2 := Lib.hid (show w.heap.size < wc.heap.size by have := HBX.out.size; omega)
    clear HSP HRW HBD HEN HES HEA HO HB HBX HE HBW HXR
    have HMO := Lib.hid (Gr.endF_more L id)
    have cs0 : wc.cell? ⟨w.heap.size, 0, none⟩ = some (.slice so L.length sc) := by rw [cell_of_row _ _ 0 _ _ _ HXC.out]; rfl
    by_cases hin : x ∈ O
    ·
     have HNW := Lib.hid (show Wk.nw (Gr.cm L) [] (Gr.eds L (F.take (k + 1))) = O from by
      rw [HST.out, Gr.eds, ← HMO.out]
      have := HQ.out
      cases is with
      | false => simp at this; simp [this, Gr.eds, Wk.nw]
      | true => simp at this; simp [this, Gr.eds, Wk.nw, hin])
     rw [decide_eq_true hin] at HIN
     clear HST HMO HQ hin
     go_wp2_with ((with_reducible refine ld_id (l := x) (x := .tmp 7) (p := ⟨g, 0, none⟩) ?_ ?_ ?_ HID.out HXL.out ?_); rfl; rfl; rfl)
     with_reducible refine HIN.out.mono ?_
     rintro r w2 ⟨rfl, hb2⟩
     have HO2 := Lib.hid (HOC.out.below hb2)
     have HB2 := Lib.hid (HBC.out.trans (hb2.mono HBC.out.size))
     clear hb2 HIN HOC HBC HID cs0 HXC
     cases is with
     | false =>
       go_wp2_with fail
       go_roundw
       case rel => exact ⟨k + 1, O, by omega, by go_num, by omega, HNW.out.symm, HO2.out, HB2.out⟩
       case measure => simp [intOf]; omega
     | true =>
       go_wp2_with fail
       go_roundw
       case rel => exact ⟨k + 1, O, by omega, by go_num, by omega, HNW.out.symm, HO2.out, HB2.out⟩
       case measure => simp [intOf]; omega
    ·
     rw [decide_eq_false hin] at HIN
     have HNI := Lib.hid hin
     clear hin
     go_wp2_with ((with_reducible refine ld_id (l := x) (x := .tmp 7) (p := ⟨g, 0, none⟩) ?_ ?_ ?_ HID.out HXL.out ?_); rfl; rfl; rfl)
     with_reducible refine HIN.out.mono ?_
     rintro r w2 ⟨rfl, hb2⟩
     have HO2 := Lib.hid (HOC.out.below hb2)
     have HB2 := Lib.hid (HBC.out.trans (hb2.mono HBC.out.size))
     have HG2 := Lib.hid ((hb2.block g hgl).trans HG.out)
     have HX2 := Lib.hid ((hb2.block w.heap.size (by have := HBX2.out; omega)).trans HXC.out)
     have HBW2 := Lib.hid (HBWC.out.trans (hb2.mono HBWC.out.size))
     clear hb2 HIN HOC HBC HID cs0 HXC HG HBWC
     cases is with
     | false =>
       have HNW := Lib.hid (show Wk.nw (Gr.cm L) [] (Gr.eds L (F.take (k + 1))) = O from by
        rw [HST.out, Gr.eds, ← HMO.out]
        have := HQ.out
        simp at this; simp [this, Gr.eds, Wk.nw])
       clear HST HMO HQ
       go_wp2_with fail
       go_roundw
       case rel => exact ⟨k + 1, O, by omega, by go_num, by omega, HNW.out.symm, HO2.out, HB2.out⟩
       case measure => simp [intOf]; omega
     | true =>
       have cs2 : w2.cell? ⟨w.heap.size, 0, none⟩ = some (.slice so L.length sc) := by rw [cell_of_row _ _ 0 _ _ _ HX2.out]; rfl
       have HID2 := Lib.hid (row_news HG2.out)
       have HKI := Lib.hid (HKA.out w2 HBW2.out x HXL.out)
       by_cases hk3 : Gr.kd L x = 3
       ·
        have HNW := Lib.hid (show Wk.nw (Gr.cm L) [] (Gr.eds L (F.take (k + 1))) = O ++ [x] from by
         rw [HST.out, Gr.eds, ← HMO.out]
         have := HQ.out
         simp at this; simp [this, Gr.eds, Wk.nw, HNI.out, Gr.cm_kd, hk3])
        rw [hk3] at HKI
        clear HST HMO HQ hk3
        go_wp2_with ((with_reducible refine ld_idg (l := x) (x := .tmp 7) (p := ⟨g, 0, none⟩) ?_ ?_ ?_ HID2.out HXL.out ?_); rfl; rfl; rfl)
        with_reducible refine HKI.out.mono ?_
        rintro r w3 ⟨rfl, hb3⟩
        have HO3 := Lib.hid (HO2.out.below hb3)
        have HB3 := Lib.hid (HB2.out.trans (hb3.mono HB2.out.size))
        have HID3 := Lib.hid (row_news ((hb3.block g (Array.getElem?_eq_some_iff.1 HG2.out).1).trans HG2.out))
        have hbs3 := HB3.out.size
        have hO2000 : O.length ≤ 2000 := by omega
        clear hb3 HKI HO2 HB2 HID2 cs2 HX2 HG2
        go_wp2_with (first
         | ((with_reducible refine ld_id (l := x) (x := .tmp 7) (p := ⟨g, 0, none⟩) ?_ ?_ ?_ HID3.out HXL.out ?_); rfl; rfl; rfl)
         | ((with_reducible refine bs_id2 (l := x) (x := .tmp 40) ?_ ?_ ?_ HXL.out ?_); rfl; rfl; rfl)
         | ((with_reducible refine ap_id (.tmp 39) (.tmp 41) ?_ ?_ ?_ ?_ HO3.out hbs3 HXL.out hO2000 (fun v' w' h1 h2 => ?_)); rfl; rfl; rfl; rfl))
        go_roundw
        case rel => exact ⟨k + 1, O ++ [x], by omega, by go_num, by simp; omega, HNW.out.symm, h1.out, HO3.out.grown HB3.out hbs3 h2.out⟩
        case measure => simp [intOf]; omega
       ·
        have HNW := Lib.hid (show Wk.nw (Gr.cm L) [] (Gr.eds L (F.take (k + 1))) = O from by
         rw [HST.out, Gr.eds, ← HMO.out]
         have := HQ.out
         simp at this; simp [this, Gr.eds, Wk.nw, Gr.cm_kd, hk3])
        have hkb : (Gr.kd L x == 3) = false := by simpa using hk3
        clear HST HMO HQ hk3
        go_wp2_with ((with_reducible refine ld_idg (l := x) (x := .tmp 7) (p := ⟨g, 0, none⟩) ?_ ?_ ?_ HID2.out HXL.out ?_); rfl; rfl; rfl)
        with_reducible refine HKI.out.mono ?_
        rintro r w3 ⟨rfl, hb3⟩
        have HO3 := Lib.hid (HO2.out.below hb3)
        have HB3 := Lib.hid (HB2.out.trans (hb3.mono HB2.out.size))
        clear hb3 HKI HO2 HB2 HID2 cs2 HX2 HG2
        go_wp2_with fail
        go_roundw
        case rel => exact ⟨k + 1, O, by omega, by go_num, by omega, HNW.out.symm, HO3.out, HB3.out⟩
        case measure => simp [intOf]; omega
  ·
   have hlt' : ¬ (k : Int) < (F.length : Int) := by omega
   have HE2 := Lib.hid (show O = Wk.nw (Gr.cm L) [] (Gr.eds L F) from by have := HE.out; rwa [List.take_of_length_le (by omega)] at this)
   have HOO := Lib.hid (show OwnI wr w.heap.size (.slice oo O.length oc) O from ⟨own_le0 HO.out.own (by omega), HO.out.len⟩)
   clear HE HO HXR
   go_wp2_with fail
   go_ret
   exact ⟨_, rfl, by rw [← HE2.out]; exact HOO.out, HBW.out⟩
end R
end Go.Proofs.YtkcjhkfelaplkaaGreatDoor
end
section
namespace Go.Proofs.YtkcjhkfelaplkaaGreatDoor
open Go.RowKit
theorem kind_no (w : World) (base b : Nat) (v : Value) (L : List St.It) (id : List UInt8) (h : PSt w base b v L) (hil : id.length = 32) (hh : St.has L id = false) :
  Calls Tryz.prog 80 #[.pointer (some ⟨b, 0, none⟩), .agg (idC id).toArray] w fun e w' => e = .returned (.int .i64 0) ∧ Below w.heap.size w w' := by
 have HB := Lib.hid (below_new w (.cells (idC id).toArray 46))
 have HR := Lib.hid (row_news (heap_alloc_new w (.cells (idC id).toArray 46)))
 have HL := Lib.hid hil
 have HP := Lib.hid (get_no _ base b v L id (h.below HB.out) hil hh)
 clear h hil hh
 go_enter Tryz.func80, Tryz.ntmps80
 go_wp2_with ((with_reducible refine ld_id (x := .tmp 3) (p := ⟨w.heap.size, 0, none⟩) ?_ ?_ ?_ HR.out HL.out ?_); rfl; rfl; rfl)
 refine HP.out.mono ?_
 rintro e w1 ⟨rfl, hb1⟩
 have hB := HB.out.trans (hb1.mono (show w.heap.size ≤ _ by simp))
 clear hb1 HP
 go_wp2_with fail
 go_ret
 exact ⟨rfl, hB⟩
theorem kind_dp (w : World) (base b : Nat) (v : Value) (L : List St.It) (id : List UInt8) (h : PSt w base b v L) (hd : Gr.Dec L) (hil : id.length = 32) :
  Calls Tryz.prog 80 #[.pointer (some ⟨b, 0, none⟩), .agg (idC id).toArray] w fun e w' => e = .returned (.int .i64 (Gr.kd L id)) ∧ Below w.heap.size w w' := by
 cases hh : St.has L id with
 | false =>
   have : Gr.kd L id = 0 := by unfold Gr.kd; rw [Gr.ob_none hh]
   rw [this]
   exact kind_no w base b v L id h hil hh
 | true =>
   obtain ⟨k, r, o, h1, rfl, h3, h4⟩ := Gr.has_ob hd h.srt hh
   obtain ⟨k1, k2, k3, k4⟩ := Rm.dec_head h3
   refine kind_at w base b v L k r h h1 k1 _ ?_
   unfold Gr.kd
   rw [h4]
   show _ = o.kind
   have e : r.text.data.toList.getD 0 0 = r.text[0] := by
    rw [List.getD_eq_getElem?_getD, List.getElem?_eq_getElem (by simpa using k1)]; rfl
   rw [e] at k2
   omega
theorem Gr.prs_ob {L : List St.It} {id : List UInt8} {o : Ob} (h : Gr.ob L id = some o) : Gr.prs L id = o.pars := by unfold Gr.prs; rw [h]
theorem hasparent_any (w : World) (base b : Nat) (v : Value) (L : List St.It) (id : List UInt8) (h : PSt w base b v L) (hd : Gr.Dec L) (hil : id.length = 32) (hc : Gr.cm L id = true) :
  Calls Tryz.prog 47 #[.pointer (some ⟨b, 0, none⟩), .agg (idC id).toArray] w fun r w' => r = .returned (.bool (decide (Gr.prs L id ≠ []))) ∧ Below w.heap.size w w' := by
 have hz28 := (zero_of_info zero28).1
 have HS0 := Lib.hid noF.size
 generalize (obC noOb nilV nilV).toArray = z at hz28 HS0
 have HB := Lib.hid (below_new w (.cells (idC id).toArray 46))
 have HR := Lib.hid (row_news (heap_alloc_new w (.cells (idC id).toArray 46)))
 have HL := Lib.hid hil
 have HOB := Lib.hid (object_any _ base b v L id (h.below HB.out) hd hil)
 have HCM := Lib.hid hc
 clear h hil hd hc
 go_enter Tryz.func47, Tryz.ntmps47
 go_wp2_with ((with_reducible refine ld_id (x := .tmp 3) (p := ⟨w.heap.size, 0, none⟩) ?_ ?_ ?_ HR.out HL.out ?_); rfl; rfl; rfl)
 with_reducible refine HOB.out.mono ?_
 rintro r w1 ⟨cs, is, rfl, hcs, hco, hb1, hq⟩
 have HCS := Lib.hid hcs
 have HCO := Lib.hid hco
 have HB1 := Lib.hid (HB.out.trans (hb1.mono HB.out.size))
 rcases hq with ⟨_, hn⟩ | ⟨_, o, ev, pv, ho, hF, hP, hPl, _, _⟩
 ·
  exfalso
  have := HCM.out
  unfold Gr.cm at this
  rw [hn] at this; cases this
 obtain ⟨ao, cap, rfl⟩ : ∃ ao cap, pv = .slice ao o.pars.length cap := by simpa using RowsAt.form hP
 have HPR := Lib.hid (Gr.prs_ob ho)
 have c35 := hF.c35
 have HC := Lib.hid (show (w1.alloc (.cells cs 59)).cell? ⟨w1.heap.size, 35, none⟩ = some (.slice ao o.pars.length cap) from by
  rw [cell_of_row _ _ 35 _ _ _ (heap_alloc_new _ _)]; exact c35)
 have HBZ := Lib.hid (HB1.out.alloc HB1.out.size (.cells cs 59))
 clear hb1 HOB hcs hco hF hP hPl ho c35 HB1
 have hcz := HC.out
 go_wp2_with ((with_reducible apply st_ob (hs := HCS.out) (h1 := HCO.out)); rfl; rfl; rfl; rfl; exact HS0.out)
 go_ret
 refine ⟨?_, HBZ.out⟩
 rw [HPR.out]
 cases o.pars with
 | nil => simp
 | cons x r => simp
end Go.Proofs.YtkcjhkfelaplkaaGreatDoor
end
