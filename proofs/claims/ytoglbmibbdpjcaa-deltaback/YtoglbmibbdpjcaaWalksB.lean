/-
  WALKS OF LAYER 6: takeHead, Size, measures, produce.
-/
import Derived.Test.YtoglbmibbdpjcaaWalksA
import Derived.Lib.AppendStr
import Derived.Deep.Heap
namespace Go.Proofs.Ytoglbmibbdpjcaa
open Go.RowKit
set_option linter.unusedVariables false

theorem bcell {W w1 : World} (hb : Below W.heap.size W w1) : (∀ b o, b < W.heap.size → w1.cell? ⟨b, o, none⟩ = W.cell? ⟨b, o, none⟩) ∧ (∀ b o, b < W.heap.size → w1.frozen? ⟨b, o, none⟩ = W.frozen? ⟨b, o, none⟩) :=
  ⟨fun b o h => hb.cell (p := ⟨b, o, none⟩) h, fun b o h => hb.frozen (p := ⟨b, o, none⟩) h⟩

theorem below_set3 {w w1 : World} (h : Below w.heap.size w w1) (a b c : Value) : Below w.heap.size w (((w1.setCell ⟨w.heap.size, 0, none⟩ a).setCell ⟨w.heap.size, 1, none⟩ b).setCell ⟨w.heap.size, 2, none⟩ c) :=
  ((h.setCell (Nat.le_refl _) _).setCell (Nat.le_refl _) _).setCell (Nat.le_refl _) _

/-- A head as Go has it. -/
def hdV (b t : Nat) (s : ByteArray) : Value := .agg #[.int .u64 b, .int .u64 t, .string s]

set_option maxHeartbeats 800000 in
set_option maxRecDepth 100000 in
theorem takeHead_no1 (d : ByteArray) (w : World) (hs : d.size ≤ maxLen) (h : Lz.vget d.data.toList = none) :
    Calls Try.prog 13 #[.string d] w fun r w' => r = .returned (.tuple #[hdV 0 0 ⟨#[]⟩, .int .i64 2]) ∧ Below w.heap.size w w' := by
  have H := Lib.hid h
  clear h
  go_enter Try.func13, Try.ntmps13
  go_wp2_with fail
  refine (get_nil d _ hs H.out).mono ?_
  rintro e w1 ⟨rfl, rfl⟩
  go_wp2_with fail
  exact bodyPost_ret (v := .tuple #[hdV 0 0 ⟨#[]⟩, .int .i64 2]) (by simp [results, Try.results13, go_sem, hdV]) rfl ⟨rfl, by first | exact (Below.refl _ _).alloc (Nat.le_refl _) _ | exact below_set3 ((Below.refl _ _).alloc (Nat.le_refl _) _) _ _ _⟩

set_option maxHeartbeats 800000 in
set_option maxRecDepth 100000 in
theorem takeHead_no2 (d : ByteArray) (w : World) (hs : d.size ≤ maxLen) (n k : Nat) (h : Lz.vget d.data.toList = some (n, k)) (h2 : Lz.vget (d.data.toList.drop k) = none) :
    Calls Try.prog 13 #[.string d] w fun r w' => r = .returned (.tuple #[hdV 0 0 ⟨#[]⟩, .int .i64 2]) ∧ Below w.heap.size w w' := by
  have hbd := Lz.vget_bd h
  have H := Lib.hid h
  have hrs : (d.extract k d.size).size = d.size - k := by simp
  rw [← extract_rest d k] at h2
  have H2 := Lib.hid h2
  clear h h2
  generalize hre : d.extract k d.size = rest at *
  have HR := Lib.hid hre
  have hrm : rest.size ≤ maxLen := by omega
  clear hre hrs
  go_enter Try.func13, Try.ntmps13
  go_wp2_with fail
  refine (get_some d _ hs n k H.out).mono ?_
  rintro e w1 ⟨rfl, n1, rfl⟩
  rw [HR.out]
  go_wp2_with fail
  refine (get_nil rest _ hrm H2.out).mono ?_
  rintro e w1 ⟨rfl, rfl⟩
  go_wp2_with fail
  exact bodyPost_ret (v := .tuple #[hdV 0 0 ⟨#[]⟩, .int .i64 2]) (by simp [results, Try.results13, go_sem, hdV]) rfl ⟨rfl, below_set3 (below_drewN ((Below.refl _ _).alloc (Nat.le_refl _) _) n1) _ _ _⟩

set_option maxHeartbeats 800000 in
set_option maxRecDepth 100000 in
theorem takeHead_yes (d : ByteArray) (w : World) (hs : d.size ≤ maxLen) (n k : Nat) (h : Lz.vget d.data.toList = some (n, k)) (t m : Nat) (h2 : Lz.vget (d.data.toList.drop k) = some (t, m)) :
    Calls Try.prog 13 #[.string d] w fun r w' => (∃ a : ByteArray, a.data.toList = d.data.toList.drop (k + m) ∧ r = .returned (.tuple #[hdV n t a, .int .i64 0])) ∧ Below w.heap.size w w' := by
  have hbd := Lz.vget_bd h
  have H := Lib.hid h
  have hrs : (d.extract k d.size).size = d.size - k := by simp
  have hrl := extract_rest d k
  rw [← hrl] at h2
  have hbd2 := Lz.vget_bd h2
  have H2 := Lib.hid h2
  clear h h2
  generalize hre : d.extract k d.size = rest at *
  have HR := Lib.hid hre
  have HL := Lib.hid hrl
  have hrm : rest.size ≤ maxLen := by omega
  clear hre hrs hrl
  go_enter Try.func13, Try.ntmps13
  go_wp2_with fail
  refine (get_some d _ hs n k H.out).mono ?_
  rintro e w1 ⟨rfl, n1, rfl⟩
  rw [HR.out]
  go_wp2_with fail
  refine (get_some rest _ hrm t m H2.out).mono ?_
  rintro e w1 ⟨rfl, n2, rfl⟩
  go_wp2_with fail
  exact bodyPost_ret (v := .tuple #[hdV n t (rest.extract m rest.size), .int .i64 0]) (by simp [results, Try.results13, go_sem, hdV]) rfl ⟨⟨_, by rw [extract_rest, HL.out, List.drop_drop], rfl⟩, below_set3 (by first | exact below_drewN (below_drewN ((Below.refl _ _).alloc (Nat.le_refl _) _) n1) n2 | exact below_drewN ((Below.refl _ _).alloc (Nat.le_refl _) _) (n1 + n2) | exact below_drewN ((Below.refl _ _).alloc (Nat.le_refl _) _) _) _ _ _⟩

theorem takeHead_none (d : ByteArray) (w : World) (hs : d.size ≤ maxLen) (h : Dl.hd d.data.toList = none) :
    Calls Try.prog 13 #[.string d] w fun r w' => r = .returned (.tuple #[hdV 0 0 ⟨#[]⟩, .int .i64 2]) ∧ Below w.heap.size w w' := by
  unfold Dl.hd at h
  split at h
  · rename_i hv; exact takeHead_no1 d w hs hv
  · rename_i n k hv
    split at h
    · rename_i hv2; exact takeHead_no2 d w hs n k hv hv2
    · cases h
theorem takeHead_some (d : ByteArray) (w : World) (hs : d.size ≤ maxLen) (b t k : Nat) (h : Dl.hd d.data.toList = some (b, t, k)) :
    Calls Try.prog 13 #[.string d] w fun r w' => (∃ a : ByteArray, a.data.toList = d.data.toList.drop k ∧ r = .returned (.tuple #[hdV b t a, .int .i64 0])) ∧ Below w.heap.size w w' := by
  unfold Dl.hd at h
  split at h
  · cases h
  · rename_i n k hv
    split at h
    · cases h
    · rename_i t m hv2
      simp only [Option.some.injEq, Prod.mk.injEq] at h
      obtain ⟨rfl, rfl, rfl⟩ := h
      exact takeHead_yes d w hs n k hv t m hv2

set_option maxHeartbeats 800000 in
set_option maxRecDepth 100000 in
theorem size_any (d : ByteArray) (w : World) (hs : d.size ≤ maxLen) :
    Calls Try.prog 9 #[.string d] w fun r w' => r = .returned (.tuple #[.int .i64 ((Dl.siz d.data.toList).2 : Nat), .int .i64 ((Dl.siz d.data.toList).1 : Nat)]) ∧ Below w.heap.size w w' := by
  unfold Dl.siz
  cases h : Dl.hd d.data.toList with
  | none =>
    have H := Lib.hid h
    clear h
    go_enter Try.func9, Try.ntmps9
    go_wp2_with fail
    refine (takeHead_none d _ hs H.out).mono ?_
    rintro e w1 ⟨rfl, hb⟩
    unfold hdV
    go_wp2_with fail
    go_ret2
    exact ⟨rfl, hb.alloc hb.size _⟩
  | some p =>
    obtain ⟨b, t, k⟩ := p
    have hbd := Dl.hd_bd h
    have H := Lib.hid h
    clear h
    simp only
    by_cases hq : 2147483647 < t
    · rw [if_pos hq]
      have hq' : (2147483647 : Int) < (t : Int) := by omega
      go_enter Try.func9, Try.ntmps9
      go_wp2_with fail
      refine (takeHead_some d _ hs b t k H.out).mono ?_
      rintro e w1 ⟨⟨a, ha, rfl⟩, hb⟩
      unfold hdV
      go_wp2_with fail
      go_ret2
      exact ⟨rfl, hb.alloc hb.size _⟩
    · rw [if_neg hq]
      have hq' : ¬ (2147483647 : Int) < (t : Int) := by omega
      have hw : IntKind.i64.wrap (t : Int) = (t : Int) := IntWalk.i64_in _ (by omega)
      go_enter Try.func9, Try.ntmps9
      go_wp2_with fail
      refine (takeHead_some d _ hs b t k H.out).mono ?_
      rintro e w1 ⟨⟨a, ha, rfl⟩, hb⟩
      unfold hdV
      go_wp2_with fail
      go_ret2
      exact ⟨rfl, hb.alloc hb.size _⟩

def strSize : Value → Nat
  | .string x => x.size
  | _ => 0

theorem list_ne {x : ByteArray} (h : ¬ x = ByteArray.empty) : x.data.toList ≠ [] := fun e => h (by
  cases x with | mk d => cases d with | mk l => simp at e; subst e; rfl)
theorem size_ne {x : ByteArray} (h : ¬ x = ByteArray.empty) : 0 < x.size := by
  have := list_ne h
  have h2 := size_list x
  have : x.data.toList.length ≠ 0 := fun e => this (List.eq_nil_of_length_eq_zero e)
  omega

theorem not_empty {x : ByteArray} (h : ¬ x = ByteArray.empty) : (!x.toList.isEmpty) = true := by
  have := list_ne h
  rw [ByteArray.toList_eq]
  simpa using this

set_option maxHeartbeats 800000 in
set_option maxRecDepth 100000 in
theorem measures_any (base s : ByteArray) (t : Nat) (w : World) (hbs : base.size ≤ maxLen) (hs : s.size ≤ maxLen) (ht : t ≤ 9223372036854775807) (R : Bool) (hR : Dl.mesF base.data.toList s.size s.data.toList t = R) :
    Calls Try.prog 20 #[.string base, .string s, .int .i64 t] w fun r w' => r = .returned (.bool R) ∧ Below w.heap.size w w' := by
  have HR := Lib.hid hR
  clear hR
  go_enter Try.func20, Try.ntmps20
  go_wp2
  go_loopw [1, 7] (fun d tt wr => ∃ (x : ByteArray) (q k : Nat), d = .string x ∧ tt = .int .i64 q ∧ q ≤ t ∧ x.size ≤ k ∧ x.size ≤ s.size ∧ Hid (Dl.mesF base.data.toList k x.data.toList q = R) ∧ Below w.heap.size w wr) (fun d _ _ => strSize d)
  case atStart => exact ⟨s, t, s.size, rfl, rfl, Nat.le_refl _, Nat.le_refl _, Nat.le_refl _, HR, Below.refl _ _⟩
  case round =>
    obtain ⟨x, q, k, rfl, rfl, hq, hk, hxs, HX, hb⟩ := hrel
    clear HR
    by_cases hx : x = ByteArray.empty
    · subst hx
      have hr := HX.out
      rw [show ByteArray.empty.data.toList = [] from rfl, Dl.mesF_nil] at hr
      clear HX
      by_cases h0 : q = 0
      · subst h0
        subst hr
        go_wp2_with fail
        go_ret
        exact ⟨rfl, hb⟩
      · have h0' : ((q : Int) == 0) = false := beq_eq_false_iff_ne.2 (by omega)
        have hr' : R = false := by rw [← hr]; simpa using h0
        clear hr
        subst hr'
        go_wp2_with fail
        go_ret
        exact ⟨rfl, hb⟩
    · have hx0 := list_ne hx
      have hxz := size_ne hx
      have hxe := not_empty hx
      have hkl : x.data.toList.length ≤ k := by rw [size_list]; exact hk
      have hbs' := hb.size
      cases hst : Dl.stp base.data.toList x.data.toList with
      | none =>
        have hr := HX.out
        rw [Dl.mesF_bad hx0 hkl hst] at hr
        subst hr
        have HS := Lib.hid hst
        clear HX hst
        go_wp2_with fail
        refine (takeStep_no base x _ hbs (by omega) HS.out).mono ?_
        rintro e w2 ⟨rfl, hb2⟩
        go_wp2_with fail
        go_ret
        exact ⟨rfl, below_step hb hb2⟩
      | some p =>
        obtain ⟨pc, h⟩ := p
        have hsb := Dl.stp_bd hst
        have hd0 := Dl.drop_lt hst
        rw [size_list] at hsb
        by_cases hmo : q < pc.length
        · have hr := HX.out
          rw [Dl.mesF_most hx0 hkl hst hmo] at hr
          subst hr
          have HS := Lib.hid hst
          clear HX hst hd0
          go_wp2_with fail
          refine (takeStep_ok base x _ hbs (by omega) pc h HS.out).mono ?_
          rintro e w2 ⟨la, lb, ha, hbb, rfl, hb2⟩
          have hla := size_list la
          rw [ha] at hla
          have hgt : (q : Int) < (la.size : Int) := by omega
          clear ha hbb hla
          go_wp2_with fail
          go_ret
          exact ⟨rfl, below_step hb hb2⟩
        · obtain ⟨k, rfl⟩ : ∃ k', k = k' + 1 := ⟨k - 1, by omega⟩
          have hr := HX.out
          rw [Dl.mesF_step hx0 hst hmo] at hr
          have HY := Lib.hid hr
          have HS := Lib.hid hst
          have hd1 := hd0 k hkl
          clear HX hst hd0 hr
          go_wp2_with fail
          refine (takeStep_ok base x _ hbs (by omega) pc h HS.out).mono ?_
          rintro e w2 ⟨la, lb, ha, hbb, rfl, hb2⟩
          have hla := size_list la
          rw [ha] at hla
          have hlz := size_list lb
          rw [hbb] at hlz
          have hgt : ¬ (q : Int) < (la.size : Int) := by omega
          have HBB := Lib.hid hbb
          have HLA := Lib.hid hla
          have hlt : lb.size < x.size := by
            rw [← hlz, List.length_drop, size_list]; omega
          have hlk : lb.size ≤ k := by omega
          have hw : IntKind.i64.wrap ((q : Int) - (la.size : Int)) = (q : Int) - (la.size : Int) := IntWalk.i64_in _ (by omega)
          clear ha hbb hlz hd1 hla
          go_wp2_with fail
          exact ⟨⟨lb, q - la.size, k, rfl, by go_num, by omega, hlk, by omega, by rw [HBB.out, ← HLA.out]; exact HY.out, below_step hb hb2⟩, by simp [strSize]; omega⟩

theorem strCells_list (s : ByteArray) : Lib.strCells s = cellsOf s.data.toList := by simp [Lib.strCells, cellsOf]
theorem cellsOf_append (a b : List UInt8) : cellsOf a ++ cellsOf b = cellsOf (a ++ b) := by simp [cellsOf]

theorem ret_bytes {w : World} {base : Nat} {v : Value} {l : List UInt8} (h : w.ownsRow base 5 1 v l.length (cellsOf l)) : (convert 51 9 v).run Try.prog w = .ok (.string ⟨l.toArray⟩) w := by
  rcases h.2 with ⟨rfl, h0⟩ | ⟨g, cap, cur, rfl, _⟩
  · obtain rfl : l = [] := List.eq_nil_of_length_eq_zero h0
    simp [convert, run_underlying Try.underlying51, run_underlying Try.underlying9, run_underlying Try.underlying5, Conv.bytesToString, go_sem]
    rfl
  · exact run_convert_bytes_back (P := Try.prog) w 51 9 5 ⟨g, 0, none⟩ cap l Try.underlying51 Try.underlying5 Try.underlying9 (fun j hj => by
      refine h.cells (by rfl) j _ ?_
      simp [cellsOf, hj])

theorem own_below {w w' : World} {B e n : Nat} {v : Value} {xs : List Value} (h : w.ownsRow B e 1 v n xs) (hb : Below w.heap.size w w') : w'.ownsRow B e 1 v n xs := by
  refine ⟨h.1, h.2.imp id ?_⟩
  rintro ⟨g, cap, cur, hv, hg, hh, hrest⟩
  have hlt : g < w.heap.size := (Array.getElem?_eq_some_iff.1 hh).1
  exact ⟨g, cap, cur, hv, hg, (hb.block g hlt).trans hh, hrest⟩

theorem own_slice {w : World} {base e n : Nat} {v : Value} {xs : List Value} (h : w.ownsRow base e 1 v n xs) : ∃ p cap, v = .slice p n cap := by
  rcases h.2 with ⟨rfl, rfl⟩ | ⟨g, cap, cur, rfl, _⟩
  · exact ⟨_, _, rfl⟩
  · exact ⟨_, _, rfl⟩

set_option maxHeartbeats 800000 in
set_option maxRecDepth 100000 in
theorem produce_any (base s : ByteArray) (t : Nat) (w : World) (hbs : base.size ≤ maxLen) (hs : s.size ≤ maxLen) (ht : t ≤ 4294967296) (R : List UInt8) (hM : Dl.mesF base.data.toList s.size s.data.toList t = true) (hR : Dl.proF base.data.toList s.size s.data.toList [] = R) :
    Calls Try.prog 21 #[.string base, .string s, .int .i64 t] w fun r w' => r = .returned (.string ⟨R.toArray⟩) ∧ Below w.heap.size w w' := by
  obtain ⟨i0, hi, hz0, hz1, hz2⟩ := info_parts Try.infoByte
  have HR := Lib.hid hR
  have HM := Lib.hid hM
  clear hR hM
  go_enter Try.func21, Try.ntmps21
  go_wp2_with (refine wpList_make_own _ rfl _ _ 51 rfl w.heap.size 5 i0 (.int .u8 0) 1 Try.underlying51 hi hz0 hz1 .i64 .i64 (t : Int) t rfl rfl rfl ?c1 ?c2 ?c3 ?_)
  case c1 => rw [hz2]; omega
  case c2 => unfold maxLen; omega
  case c3 => exact Nat.le_refl _
  intro w1 hown hgrow
  have hb0 : Below w.heap.size w w1 := (Below.refl _ _).grown hgrow (Nat.le_refl _) (fun k hk => by cases hk)
  clear hgrow
  go_wp2_with fail
  go_loopw [1, 7] (fun d o wr => ∃ (x : ByteArray) (acc : List UInt8) (q k : Nat), d = .string x ∧ x.size ≤ k ∧ x.size ≤ s.size ∧ Hid (Dl.mesF base.data.toList k x.data.toList q = true) ∧ Hid (Dl.proF base.data.toList k x.data.toList acc = R) ∧ acc.length + q ≤ t ∧ wr.ownsRow w.heap.size 5 1 o acc.length (cellsOf acc) ∧ Below w.heap.size w wr) (fun d _ _ => strSize d)
  case atStart => exact ⟨s, [], t, s.size, rfl, Nat.le_refl _, Nat.le_refl _, HM, HR, by simp, hown, hb0⟩
  case round =>
    obtain ⟨x, acc, q, k, rfl, hk, hxs, HM1, HR1, hal, hown1, hb⟩ := hrel
    clear HR HM hown hb0
    by_cases hx : x = ByteArray.empty
    · subst hx
      have hr := HR1.out
      rw [show ByteArray.empty.data.toList = [] from rfl, Dl.proF_nil] at hr
      subst hr
      clear HR1 HM1
      have hcv := ret_bytes hown1
      clear hown1
      go_wp2_with fail
      go_ret
      exact ⟨rfl, hb⟩
    · have hx0 := list_ne hx
      have hxz := size_ne hx
      have hxe := not_empty hx
      have hkl : x.data.toList.length ≤ k := by rw [size_list]; exact hk
      have hbs' := hb.size
      cases hst : Dl.stp base.data.toList x.data.toList with
      | none =>
        have hr := HM1.out
        rw [Dl.mesF_bad hx0 hkl hst] at hr
        cases hr
      | some p =>
        obtain ⟨pc, h⟩ := p
        have hsb := Dl.stp_bd hst
        have hd0 := Dl.drop_lt hst
        rw [size_list] at hsb
        by_cases hmo : q < pc.length
        · have hr := HM1.out
          rw [Dl.mesF_most hx0 hkl hst hmo] at hr
          cases hr
        · obtain ⟨k, rfl⟩ : ∃ k', k = k' + 1 := ⟨k - 1, by omega⟩
          have hr := HR1.out
          rw [Dl.proF_step hx0 hst] at hr
          have HR2 := Lib.hid hr
          have hr2 := HM1.out
          rw [Dl.mesF_step hx0 hst hmo] at hr2
          have HM2 := Lib.hid hr2
          have HS := Lib.hid hst
          have hd1 := hd0 k hkl
          clear HM1 HR1 hst hd0 hr hr2
          obtain ⟨pa, cap, rfl⟩ := own_slice hown1
          go_wp2_with fail
          refine (takeStep_ok base x _ hbs (by omega) pc h HS.out).mono ?_
          rintro e w2 ⟨la, lb, ha, hbb, rfl, hb2⟩
          have hla := size_list la
          rw [ha] at hla
          have hlz := size_list lb
          rw [hbb] at hlz
          have HBB := Lib.hid hbb
          have HA := Lib.hid ha
          have hlt : lb.size < x.size := by
            rw [← hlz, List.length_drop, size_list]; omega
          have hlk : lb.size ≤ k := by omega
          have hs2 := hb2.size
          have hown2 := own_below hown1 hb2
          have HLA := Lib.hid hla
          have hls : acc.length + la.size ≤ t := by omega
          clear hlz hd1 hown1 ha hbb hla
          go_wp2_with (at_builtin; refine Lib.wpList_append_own_string _ rfl _ _ 51 9 rfl w.heap.size 5 i0 Try.underlying51 Try.underlying9 hi hz0 hz1 hz2 _ _ _ rfl hown2 la rfl ?d1 ?d2 ?d3 ?_)
          case d1 => unfold maxLen; omega
          case d2 => omega
          case d3 => omega
          intro v' w3 hown' hgrow _
          rw [strCells_list, cellsOf_append, HA.out, ← HLA.out] at hown'
          have hb' : Below w.heap.size w w3 := (below_step hb hb2).grown hgrow (by omega) (fun k hk => (hown2.lt k hk).1)
          clear hown2 hgrow
          go_wp2_with fail
          have hla2 := HLA.out
          exact ⟨⟨lb, acc ++ pc, q - pc.length, k, rfl, hlk, by omega, by rw [HBB.out]; exact HM2.out, by rw [HBB.out]; exact HR2.out, by rw [List.length_append]; omega, by simpa using hown', hb'⟩, by simp [strSize]; omega⟩

end Go.Proofs.Ytoglbmibbdpjcaa
