/-
  THE WALK OF THE LAW ObjectBack: whatever the object and the string, the law answers true.
-/
import Derived.Test.YtnkdimfamhmaeaaSame
import Derived.Test.YtnkdimfamhmaeaaKnows
import Derived.Test.YtnkdimfamhmaeaaFew
namespace Go.Proofs.Ytnkdimfamhmaeaa
open Go.RowKit
set_option linter.unusedVariables false
set_option linter.unusedSimpArgs false

/-- The texts of an object whose encoding is short are short. -/
theorem short_of {o : Ob} (hv : validB o = true) (hs : (encS o).size ≤ 4096) : o.data.size ≤ 5000 ∧ o.text.size ≤ 5000 ∧ o.name.size ≤ 100 := by
  have hl : (bodyL o).length ≤ 4096 := by
    have e : (encS o).data.toList = byteK o.kind :: (textOf ⟨(bodyL o).toArray⟩).data.toList := by
      unfold encS
      rw [ByteArray.data_append, Array.toList_append]; rfl
    have h1 := congrArg List.length e
    rw [size_list, Rm.textOf_list, List.length_cons, List.length_append] at h1
    omega
  have hv2 := hv
  unfold validB foreignZ at hv2
  simp only [Bool.and_eq_true, Bool.or_eq_true, beq_iff_eq, blobZ, treeZ, commitZ, tagZ, decide_eq_true_eq, List.isEmpty_iff] at hv2
  obtain ⟨⟨⟨⟨z1, z2⟩, z3⟩, z4⟩, zz⟩ := hv2
  have hd : o.data.size ≤ 5000 := by
    by_cases e1 : o.kind = 1
    · have : bodyL o = o.data.data.toList := by simp [bodyL, e1]
      rw [this, size_list] at hl; omega
    · rw [Rm.empty_of (z1.resolve_left e1)]; decide
  have ht : o.text.size ≤ 5000 := by
    by_cases e3 : o.kind = 3
    · have : bodyL o = commitL o := by simp [bodyL, e3]
      rw [this] at hl
      unfold commitL textOf at hl
      rw [put_list] at hl
      simp only [List.length_append, size_list] at hl
      omega
    · rw [Rm.empty_of (z3.resolve_left e3).2]; decide
  have hn : o.name.size ≤ 100 := by
    by_cases e4 : o.kind = 4
    · rw [if_neg (by omega), if_neg (by omega), if_neg (by omega), if_pos e4] at zz
      rw [Bool.and_eq_true] at zz
      have := nameOk_size zz.2
      omega
    · rw [Rm.empty_of (z4.resolve_left e4).2]; decide
  exact ⟨hd, ht, hn⟩
theorem no_ok : encOk noOb = false := by
  unfold encOk
  rw [show validB noOb = false by simp [validB, noOb]]; rfl
theorem noAt (w : World) : ObAt w (obC noOb nilV nilV).toArray noOb none none 0 0 :=
  ⟨noF, RowsAt.nil _ _, RowsAt.nil _ _, (fun e he => by cases he), (fun e he => by cases he), (fun e he => by cases he), Nat.zero_le _, Nat.zero_le _, (show (0 : Nat) ≤ maxLen from Nat.zero_le _), (show (0 : Nat) < 4294967296 by decide)⟩

/-- Decode, where nothing is found. -/
theorem decode_none (s : ByteArray) (w : World) (hs : s.size ≤ maxLen) (h : Rm.dec s.data.toList = none) : Calls Try.prog 7 #[.string s] w (NoDec w) := by
  have := decode_any s w hs
  unfold Dcd at this
  rw [h] at this
  exact this
theorem decode_some (s : ByteArray) (o : Ob) (w : World) (hs : s.size ≤ maxLen) (h : Rm.dec s.data.toList = some o) : Calls Try.prog 7 #[.string s] w (ADec o w) := by
  have := decode_any s w hs
  unfold Dcd at this
  rw [h] at this
  exact this

set_option maxHeartbeats 2000000 in
set_option maxRecDepth 100000 in
theorem back_any (cs : Array Value) (o : Ob) (ao bo : Option Addr) (ca cb : Nat) (s : ByteArray) (w : World) (h : ObAt w cs o ao bo ca cb) (hd : o.data.size ≤ maxLen) (ht : o.text.size ≤ maxLen) (hs : s.size ≤ maxLen) :
    Calls Try.prog 3 #[.agg cs, .string s] w fun r w' => r = .returned (.bool true) ∧ Below w.heap.size w w' := by
  have HF := Lib.hid (fun W (hb : Below w.heap.size w W) => few_any cs o ao bo ca cb W (h.below hb) hd ht)
  have HS := Lib.hid h.F.size
  have K0 := Kp.box w cs 28
  have hz28 := (zero_of_info zero28).1
  have HS0 := Lib.hid noF.size
  have HZ : Hid ((obC noOb nilV nilV).toArray = (obC noOb nilV nilV).toArray) := rfl
  have HN0 := Lib.hid noF.one
  have HNA := Lib.hid noAt
  have HND := Lib.hid (fun W => show Rm.dec s.data.toList = none → Calls Try.prog 7 #[.string s] W (fun r w' => r = .returned (.tuple #[.agg (obC noOb nilV nilV).toArray, .int .i64 2]) ∧ Below W.heap.size W w') from decode_none s W hs)
  generalize (obC noOb nilV nilV).toArray = z at hz28 HS0 HN0 HNA HND
  have HSS := Lib.hid hs
  unfold maxLen at hs
  have HH := Lib.hid h
  clear h hd ht HZ
  go_enter Try.func3, Try.ntmps3
  go_wp2_with (first
    | (go_at_call 4; fail)
    | ((with_reducible refine load_ob (x := .tmp 2) ?_ ?_ ?_ K0 HS.out ?_); rfl; rfl; rfl))
  refine (HF.out _ K0.below).mono ?_
  rintro r w1 ⟨⟨b, rfl, hbf⟩, hx⟩
  have K1 := K0.step hx
  clear hx K0
  cases b with
  | false =>
    go_wp2_with fail
    refine (knows_true _).mono ?_
    rintro r w2 ⟨rfl, hx⟩
    go_wp2
    go_ret
    exact ⟨rfl, (K1.step hx).below⟩
  | true =>
    have fp := hbf rfl
    clear hbf
    by_cases h5 : s.size ≤ 5000
    · have h5' : ¬ (5000 : Int) < (s.size : Int) := by omega
      have HE := Lib.hid (fun W (hb : Below w.heap.size w W) => encode_any cs o ao bo ca cb W (HH.out.below hb) fp.d fp.t fp.n)
      cases hok : encOk o with
      | true =>
        have hok2 := hok
        unfold encOk at hok2
        rw [Bool.and_eq_true, decide_eq_true_eq] at hok2
        have hFt := fit_of hok2.1 fp.d fp.t fp.n
        have HDF := Lib.hid (Rm.dec_fwd hok2.1 hFt HH.out.eid HH.out.pid HH.out.F.trl HH.out.F.tal HH.out.ti hok2.2)
        have hes : (encS o).size ≤ 4096 := hok2.2
        rw [hok] at HE
        clear hok hok2 fp HF hFt
        generalize encS o = es at HE HDF hes
        have HDS := Lib.hid (fun W => decode_some es o W (by unfold maxLen; omega) HDF.out)
        go_wp2_with (first
          | (go_at_call 6; fail)
          | ((with_reducible refine load_ob (x := .tmp 2) ?_ ?_ ?_ K1 HS.out ?_); rfl; rfl; rfl))
        refine (HE.out _ K1.below).mono ?_
        rintro r w2 ⟨rfl, hx⟩
        have K2 := K1.step hx
        clear hx K1
        unfold endE
        go_wp2_with fail
        refine (HDS.out _).mono ?_
        rintro r w3 ⟨c2, ao2, bo2, ca2, cb2, rfl, hO2, hx⟩
        have K3 := K2.step hx
        have HCS := Lib.hid hO2.F.size
        have HCO := Lib.hid hO2.F.one
        have hal := (Below.refl w3.heap.size w3).alloc (Nat.le_refl _) (.cells c2 28)
        have K4 := K3.step hal
        have P4 := Kp.box w3 c2 28
        have HSM := Lib.hid (same_any cs c2 o ao bo ao2 bo2 ca cb ca2 cb2 _ (HH.out.below K4.below) (hO2.below hal))
        clear hx hO2 K2 K3 hal
        have hes2 : ¬ (4096 : Int) < (es.size : Int) := by omega
        go_wp2_with (first
          | ((with_reducible apply st_ob (hs := HCS.out) (h1 := HCO.out)); rfl; rfl; rfl; rfl; exact HS0.out)
          | (go_at_call 8; fail)
          | ((with_reducible refine load_ob (x := .tmp 2) ?_ ?_ ?_ K4 HS.out ?_); rfl; rfl; rfl)
          | ((with_reducible refine load_ob (x := .tmp 8) ?_ ?_ ?_ P4 HCS.out ?_); rfl; rfl; rfl))
        refine HSM.out.mono ?_
        rintro r w5 ⟨rfl, hx⟩
        have K5 := K4.step hx
        clear hx K4 P4
        cases hdc : Rm.dec s.data.toList with
        | none =>
          have HDC := Lib.hid hdc
          clear hdc
          go_wp2_with fail
          refine (HND.out _ HDC.out).mono ?_
          rintro r w6 ⟨rfl, hx⟩
          have K6 := K5.step hx
          have hal := (Below.refl w6.heap.size w6).alloc (Nat.le_refl _) (.cells z 28)
          have K7 := K6.step hal
          have P7 := Kp.box w6 z 28
          have HEN := Lib.hid (encode_any z noOb none none 0 0 (w6.alloc (.cells z 28)) (HNA.out _) (by decide) (by decide) (by decide))
          rw [no_ok] at HEN
          clear hx K5 K6 hal
          go_wp2_with (first
            | ((with_reducible apply st_ob (hs := HS0.out) (h1 := HN0.out)); rfl; rfl; rfl; rfl; exact HS0.out)
            | (go_at_call 6; fail)
            | ((with_reducible refine load_ob (x := .tmp 11) ?_ ?_ ?_ P7 HS0.out ?_); rfl; rfl; rfl))
          refine HEN.out.mono ?_
          rintro r w8 ⟨rfl, hx⟩
          have K8 := K7.step hx
          clear hx K7 P7
          unfold endE
          go_wp2_with fail
          refine (knows_true _).mono ?_
          rintro r w9 ⟨rfl, hx⟩
          have K9 := K8.step hx
          clear hx K8
          go_wp2
          go_ret
          exact ⟨rfl, K9.below⟩
        | some o2 =>
          obtain ⟨hv2, he2, hl2, _⟩ := Rm.dec_inv hdc
          have hes2 : encS o2 = s := bytes_ext he2
          have hsz2 : (encS o2).size ≤ 4096 := by rw [← size_list, he2]; exact hl2
          obtain ⟨hd2, ht2, hn2⟩ := short_of hv2 hsz2
          have HOK2 := Lib.hid (show encOk o2 = true by unfold encOk; rw [hv2, decide_eq_true hsz2]; rfl)
          have HES2 := Lib.hid hes2
          have HDS2 := Lib.hid (fun W => decode_some s o2 W HSS.out hdc)
          have hss := (show (s.toList == s.toList) = true by simp)
          clear hdc hes2 hsz2 he2 hl2 hv2
          go_wp2_with fail
          refine (HDS2.out _).mono ?_
          rintro r w6 ⟨c6, ao6, bo6, ca6, cb6, rfl, hO6, hx⟩
          have K6 := K5.step hx
          have HCS6 := Lib.hid hO6.F.size
          have HCO6 := Lib.hid hO6.F.one
          have hal := (Below.refl w6.heap.size w6).alloc (Nat.le_refl _) (.cells c6 28)
          have K7 := K6.step hal
          have P7 := Kp.box w6 c6 28
          have HEN := Lib.hid (encode_any c6 o2 ao6 bo6 ca6 cb6 (w6.alloc (.cells c6 28)) (hO6.below hal) hd2 ht2 hn2)
          rw [HOK2.out, HES2.out] at HEN
          clear hx hO6 K5 K6 hal
          go_wp2_with (first
            | ((with_reducible apply st_ob (hs := HCS6.out) (h1 := HCO6.out)); rfl; rfl; rfl; rfl; exact HS0.out)
            | (go_at_call 6; fail)
            | ((with_reducible refine load_ob (x := .tmp 11) ?_ ?_ ?_ P7 HCS6.out ?_); rfl; rfl; rfl))
          refine HEN.out.mono ?_
          rintro r w8 ⟨rfl, hx⟩
          have K8 := K7.step hx
          clear hx K7 P7
          unfold endE
          go_wp2_with fail
          refine (knows_true _).mono ?_
          rintro r w9 ⟨rfl, hx⟩
          have K9 := K8.step hx
          clear hx K8
          go_wp2
          go_ret
          exact ⟨rfl, K9.below⟩
      | false =>
        rw [hok] at HE
        clear hok fp HF
        go_wp2_with (first
          | (go_at_call 6; fail)
          | ((with_reducible refine load_ob (x := .tmp 2) ?_ ?_ ?_ K1 HS.out ?_); rfl; rfl; rfl))
        refine (HE.out _ K1.below).mono ?_
        rintro r w5 ⟨rfl, hx⟩
        have K5 := K1.step hx
        clear hx K1
        unfold endE
        cases hdc : Rm.dec s.data.toList with
        | none =>
          have HDC := Lib.hid hdc
          clear hdc
          go_wp2_with fail
          refine (HND.out _ HDC.out).mono ?_
          rintro r w6 ⟨rfl, hx⟩
          have K6 := K5.step hx
          have hal := (Below.refl w6.heap.size w6).alloc (Nat.le_refl _) (.cells z 28)
          have K7 := K6.step hal
          have P7 := Kp.box w6 z 28
          have HEN := Lib.hid (encode_any z noOb none none 0 0 (w6.alloc (.cells z 28)) (HNA.out _) (by decide) (by decide) (by decide))
          rw [no_ok] at HEN
          clear hx K5 K6 hal
          go_wp2_with (first
            | ((with_reducible apply st_ob (hs := HS0.out) (h1 := HN0.out)); rfl; rfl; rfl; rfl; exact HS0.out)
            | (go_at_call 6; fail)
            | ((with_reducible refine load_ob (x := .tmp 11) ?_ ?_ ?_ P7 HS0.out ?_); rfl; rfl; rfl))
          refine HEN.out.mono ?_
          rintro r w8 ⟨rfl, hx⟩
          have K8 := K7.step hx
          clear hx K7 P7
          unfold endE
          go_wp2_with fail
          refine (knows_true _).mono ?_
          rintro r w9 ⟨rfl, hx⟩
          have K9 := K8.step hx
          clear hx K8
          go_wp2
          go_ret
          exact ⟨rfl, K9.below⟩
        | some o2 =>
          obtain ⟨hv2, he2, hl2, _⟩ := Rm.dec_inv hdc
          have hes2 : encS o2 = s := bytes_ext he2
          have hsz2 : (encS o2).size ≤ 4096 := by rw [← size_list, he2]; exact hl2
          obtain ⟨hd2, ht2, hn2⟩ := short_of hv2 hsz2
          have HOK2 := Lib.hid (show encOk o2 = true by unfold encOk; rw [hv2, decide_eq_true hsz2]; rfl)
          have HES2 := Lib.hid hes2
          have HDS2 := Lib.hid (fun W => decode_some s o2 W HSS.out hdc)
          have hss := (show (s.toList == s.toList) = true by simp)
          clear hdc hes2 hsz2 he2 hl2 hv2
          go_wp2_with fail
          refine (HDS2.out _).mono ?_
          rintro r w6 ⟨c6, ao6, bo6, ca6, cb6, rfl, hO6, hx⟩
          have K6 := K5.step hx
          have HCS6 := Lib.hid hO6.F.size
          have HCO6 := Lib.hid hO6.F.one
          have hal := (Below.refl w6.heap.size w6).alloc (Nat.le_refl _) (.cells c6 28)
          have K7 := K6.step hal
          have P7 := Kp.box w6 c6 28
          have HEN := Lib.hid (encode_any c6 o2 ao6 bo6 ca6 cb6 (w6.alloc (.cells c6 28)) (hO6.below hal) hd2 ht2 hn2)
          rw [HOK2.out, HES2.out] at HEN
          clear hx hO6 K5 K6 hal
          go_wp2_with (first
            | ((with_reducible apply st_ob (hs := HCS6.out) (h1 := HCO6.out)); rfl; rfl; rfl; rfl; exact HS0.out)
            | (go_at_call 6; fail)
            | ((with_reducible refine load_ob (x := .tmp 11) ?_ ?_ ?_ P7 HCS6.out ?_); rfl; rfl; rfl))
          refine HEN.out.mono ?_
          rintro r w8 ⟨rfl, hx⟩
          have K8 := K7.step hx
          clear hx K7 P7
          unfold endE
          go_wp2_with fail
          refine (knows_true _).mono ?_
          rintro r w9 ⟨rfl, hx⟩
          have K9 := K8.step hx
          clear hx K8
          go_wp2
          go_ret
          exact ⟨rfl, K9.below⟩
    · have h5' : (5000 : Int) < (s.size : Int) := by omega
      go_wp2_with fail
      refine (knows_true _).mono ?_
      rintro r w2 ⟨rfl, hx⟩
      go_wp2
      go_ret
      exact ⟨rfl, (K1.step hx).below⟩

end Go.Proofs.Ytnkdimfamhmaeaa
