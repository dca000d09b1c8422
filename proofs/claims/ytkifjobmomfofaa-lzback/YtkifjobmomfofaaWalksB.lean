/-
  WALKS OF LAYER 5: takeStep, whole.
-/
import Derived.Test.YtkifjobmomfofaaWalksA
namespace Go.Proofs.Ytkifjobmomfofaa
open Go.RowKit
set_option linter.unusedVariables false

theorem bcell {W w1 : World} (hb : Below W.heap.size W w1) : (∀ b o, b < W.heap.size → w1.cell? ⟨b, o, none⟩ = W.cell? ⟨b, o, none⟩) ∧ (∀ b o, b < W.heap.size → w1.frozen? ⟨b, o, none⟩ = W.frozen? ⟨b, o, none⟩) :=
  ⟨fun b o h => hb.cell (p := ⟨b, o, none⟩) h, fun b o h => hb.frozen (p := ⟨b, o, none⟩) h⟩

set_option maxHeartbeats 800000 in
set_option maxRecDepth 100000 in
theorem takeStep_nil (s : ByteArray) (t : Int) (w : World) (hs : s.size ≤ maxLen) (h : Lz.vget s.data.toList = none) :
    Calls Try.prog 22 #[.string s, .int .i64 t] w (noStep w) := by
  have H := Lib.hid h
  clear h
  go_enter Try.func22, Try.ntmps22
  go_wp2_with fail
  refine (get_nil s _ hs H.out).mono ?_
  rintro e w1 ⟨rfl, rfl⟩
  go_wp2_with fail
  exact bodyPost_ret (v := .tuple #[stV 0 ⟨#[]⟩ 0, .string ⟨#[]⟩, .bool false]) (by simp [results, Try.results22, go_sem, stV]) rfl ⟨rfl, (Below.refl _ _).alloc (Nat.le_refl _) _⟩

set_option maxHeartbeats 800000 in
set_option maxRecDepth 100000 in
theorem takeStep_litno (s : ByteArray) (t : Int) (w : World) (hs : s.size ≤ maxLen) (n k : Nat) (h : Lz.vget s.data.toList = some (n, k)) (he : n % 2 = 0) (hb : n / 2 < 1 ∨ s.size - k < n / 2) :
    Calls Try.prog 22 #[.string s, .int .i64 t] w (noStep w) := by
  have hbd := Lz.vget_bd h
  have H := Lib.hid h
  clear h
  have hsz := hs
  unfold maxLen at hsz
  have he' : ((n : Int) % 2 == 0) = true := by rw [beq_iff_eq]; omega
  have hrs : (s.extract k s.size).size = s.size - k := by simp
  generalize hre : s.extract k s.size = rest at *
  have HR := Lib.hid hre
  clear hre
  have hr1 : rest.size ≤ maxLen := by unfold maxLen; omega
  have hb1 : n / 2 < 1 ∨ rest.size < n / 2 := by omega
  have HB := Lib.hid hb1
  clear hb hb1 hrs he
  go_enter Try.func22, Try.ntmps22
  go_wp2_with fail
  refine (get_some s _ hs n k H.out).mono ?_
  rintro e w1 ⟨rfl, n1, rfl⟩
  rw [HR.out]
  go_wp2_with fail
  refine (takeLiteral_no (n / 2) rest _ hr1 (by omega) HB.out).mono ?_
  rintro e w2 ⟨rfl, hb2⟩
  obtain ⟨hc, hf⟩ := bcell hb2
  have hz := hb2.size
  simp at hz
  unfold stV
  go_wp2_with fail
  refine bodyPost_ret (v := .tuple #[stV 0 ⟨#[]⟩ 0, .string ⟨#[]⟩, .bool false]) (by simp [results, Try.results22, go_sem, stV, hc]) rfl ⟨rfl, below_set3 ?_ _ _ _⟩
  exact (below_drewN ((Below.refl _ _).alloc (Nat.le_refl _) _) n1).trans (hb2.mono (by simp))

set_option maxHeartbeats 800000 in
set_option maxRecDepth 100000 in
theorem takeStep_litok (s : ByteArray) (t : Int) (w : World) (hs : s.size ≤ maxLen) (n k : Nat) (h : Lz.vget s.data.toList = some (n, k)) (he : n % 2 = 0) (h1 : 1 ≤ n / 2) (h2 : n / 2 ≤ s.size - k) :
    Calls Try.prog 22 #[.string s, .int .i64 t] w (aStep w (n / 2) 0 ((s.data.toList.drop k).take (n / 2)) (s.data.toList.drop (k + n / 2))) := by
  have hbd := Lz.vget_bd h
  have H := Lib.hid h
  clear h
  have hsz := hs
  unfold maxLen at hsz
  have he' : ((n : Int) % 2 == 0) = true := by rw [beq_iff_eq]; omega
  have hrs : (s.extract k s.size).size = s.size - k := by simp
  have hrl := extract_rest s k
  generalize hre : s.extract k s.size = rest at *
  have HR := Lib.hid hre
  have HL := Lib.hid hrl
  clear hre hrl
  have hr1 : rest.size ≤ maxLen := by unfold maxLen; omega
  have h3 : n / 2 ≤ rest.size := by omega
  clear hrs he h2
  go_enter Try.func22, Try.ntmps22
  go_wp2_with fail
  refine (get_some s _ hs n k H.out).mono ?_
  rintro e w1 ⟨rfl, n1, rfl⟩
  rw [HR.out]
  go_wp2_with fail
  refine (takeLiteral_ok (n / 2) rest _ hr1 h1 h3).mono ?_
  rintro e w2 ⟨rfl, hb2⟩
  obtain ⟨hc, hf⟩ := bcell hb2
  have hz := hb2.size
  simp at hz
  unfold stV
  go_wp2_with fail
  refine bodyPost_ret (v := .tuple #[stV (n / 2) (rest.extract 0 (n / 2)) 0, .string (rest.extract (n / 2) rest.size), .bool true]) (by simp [results, Try.results22, go_sem, stV, hc]) rfl ⟨_, _, (by rw [extract_list, HL.out]; simp), (by rw [extract_rest, HL.out, List.drop_drop]), rfl, below_set3 ?_ _ _ _⟩
  exact (below_drewN ((Below.refl _ _).alloc (Nat.le_refl _) _) n1).trans (hb2.mono (by simp))

set_option maxHeartbeats 800000 in
set_option maxRecDepth 100000 in
theorem takeStep_mnil (s : ByteArray) (t : Nat) (w : World) (hs : s.size ≤ maxLen) (ht : t ≤ 9223372036854775807) (n k : Nat) (h : Lz.vget s.data.toList = some (n, k)) (he : n % 2 = 1) (hv : Lz.vget (s.data.toList.drop k) = none) :
    Calls Try.prog 22 #[.string s, .int .i64 t] w (noStep w) := by
  have hbd := Lz.vget_bd h
  have H := Lib.hid h
  clear h
  have hsz := hs
  unfold maxLen at hsz
  have he' : ((n : Int) % 2 == 0) = false := by rw [beq_eq_false_iff_ne]; omega
  have hrs : (s.extract k s.size).size = s.size - k := by simp
  have hrl := extract_rest s k
  rw [← hrl] at hv
  generalize hre : s.extract k s.size = rest at *
  have HR := Lib.hid hre
  have HL := Lib.hid hrl
  clear hre hrl
  have hr1 : rest.size ≤ maxLen := by unfold maxLen; omega
  have HV := Lib.hid hv
  have hdv : ((n : Int) - 1) / 2 = ((n / 2 : Nat) : Int) := by omega
  have hn1 : (1 : Int) ≤ (n : Int) := by omega
  have HD := Lib.hid hdv
  clear hdv
  clear hrs hv he
  go_enter Try.func22, Try.ntmps22
  go_wp2_with fail
  refine (get_some s _ hs n k H.out).mono ?_
  rintro e w1 ⟨rfl, n1, rfl⟩
  rw [HR.out]
  go_wp2_with fail
  rw [HD.out]
  refine (takeMatch_nil (n / 2) rest t _ hr1 (by omega) HV.out).mono ?_
  rintro e w2 ⟨rfl, hb2⟩
  obtain ⟨hc, hf⟩ := bcell hb2
  have hz := hb2.size
  simp at hz
  unfold stV
  go_wp2_with fail
  refine bodyPost_ret (v := .tuple #[stV 0 ⟨#[]⟩ 0, .string ⟨#[]⟩, .bool false]) (by simp [results, Try.results22, go_sem, stV, hc]) rfl ⟨rfl, below_set3 ?_ _ _ _⟩
  exact (below_drewN ((Below.refl _ _).alloc (Nat.le_refl _) _) n1).trans (hb2.mono (by simp))

set_option maxHeartbeats 800000 in
set_option maxRecDepth 100000 in
theorem takeStep_mno (s : ByteArray) (t : Nat) (w : World) (hs : s.size ≤ maxLen) (ht : t ≤ 9223372036854775807) (n k : Nat) (h : Lz.vget s.data.toList = some (n, k)) (he : n % 2 = 1) (f m : Nat) (hv : Lz.vget (s.data.toList.drop k) = some (f, m)) (hb : n / 2 < 4 ∨ f < 1 ∨ 65535 < f ∨ t < f) :
    Calls Try.prog 22 #[.string s, .int .i64 t] w (noStep w) := by
  have hbd := Lz.vget_bd h
  have H := Lib.hid h
  clear h
  have hsz := hs
  unfold maxLen at hsz
  have he' : ((n : Int) % 2 == 0) = false := by rw [beq_eq_false_iff_ne]; clear hb; omega
  have hrs : (s.extract k s.size).size = s.size - k := by simp
  have hrl := extract_rest s k
  rw [← hrl] at hv
  generalize hre : s.extract k s.size = rest at *
  have HR := Lib.hid hre
  have HL := Lib.hid hrl
  clear hre hrl
  have hr1 : rest.size ≤ maxLen := by unfold maxLen; omega
  have HV := Lib.hid hv
  have HB := Lib.hid hb
  have hdv : ((n : Int) - 1) / 2 = ((n / 2 : Nat) : Int) := by clear hb; omega
  have hn1 : (1 : Int) ≤ (n : Int) := by clear hb; omega
  have HD := Lib.hid hdv
  clear hdv
  clear hrs hv he hb
  go_enter Try.func22, Try.ntmps22
  go_wp2_with fail
  refine (get_some s _ hs n k H.out).mono ?_
  rintro e w1 ⟨rfl, n1, rfl⟩
  rw [HR.out]
  go_wp2_with fail
  rw [HD.out]
  refine (takeMatch_no (n / 2) rest t _ hr1 (by omega) ht f m HV.out HB.out).mono ?_
  rintro e w2 ⟨rfl, hb2⟩
  obtain ⟨hc, hf⟩ := bcell hb2
  have hz := hb2.size
  simp at hz
  unfold stV
  go_wp2_with fail
  refine bodyPost_ret (v := .tuple #[stV 0 ⟨#[]⟩ 0, .string ⟨#[]⟩, .bool false]) (by simp [results, Try.results22, go_sem, stV, hc]) rfl ⟨rfl, below_set3 ?_ _ _ _⟩
  exact (below_drewN ((Below.refl _ _).alloc (Nat.le_refl _) _) n1).trans (hb2.mono (by simp))

set_option maxHeartbeats 800000 in
set_option maxRecDepth 100000 in
theorem takeStep_mok (s : ByteArray) (t : Nat) (w : World) (hs : s.size ≤ maxLen) (ht : t ≤ 9223372036854775807) (n k : Nat) (h : Lz.vget s.data.toList = some (n, k)) (he : n % 2 = 1) (f m : Nat) (hv : Lz.vget (s.data.toList.drop k) = some (f, m)) (h4 : 4 ≤ n / 2) (h1 : 1 ≤ f) (h2 : f ≤ 65535) (h3 : f ≤ t) :
    Calls Try.prog 22 #[.string s, .int .i64 t] w (aStep w (n / 2) f [] (s.data.toList.drop (k + m))) := by
  have hbd := Lz.vget_bd h
  have H := Lib.hid h
  clear h
  have hsz := hs
  unfold maxLen at hsz
  have he' : ((n : Int) % 2 == 0) = false := by rw [beq_eq_false_iff_ne]; omega
  have hrs : (s.extract k s.size).size = s.size - k := by simp
  have hrl := extract_rest s k
  rw [← hrl] at hv
  generalize hre : s.extract k s.size = rest at *
  have HR := Lib.hid hre
  have HL := Lib.hid hrl
  clear hre hrl
  have hr1 : rest.size ≤ maxLen := by unfold maxLen; omega
  have HV := Lib.hid hv
  have hdv : ((n : Int) - 1) / 2 = ((n / 2 : Nat) : Int) := by omega
  have hn1 : (1 : Int) ≤ (n : Int) := by omega
  have HD := Lib.hid hdv
  clear hdv
  clear hrs hv he
  go_enter Try.func22, Try.ntmps22
  go_wp2_with fail
  refine (get_some s _ hs n k H.out).mono ?_
  rintro e w1 ⟨rfl, n1, rfl⟩
  rw [HR.out]
  go_wp2_with fail
  rw [HD.out]
  refine (takeMatch_ok (n / 2) rest t _ hr1 (by omega) ht f m HV.out h4 h1 h2 h3).mono ?_
  rintro e w2 ⟨la, lb, ha, hbb, rfl, hb2⟩
  rw [HL.out, List.drop_drop] at hbb
  have HA := Lib.hid ha
  have HBB := Lib.hid hbb
  clear ha hbb
  obtain ⟨hc, hf⟩ := bcell hb2
  have hz := hb2.size
  simp at hz
  unfold stV
  go_wp2_with fail
  refine bodyPost_ret (v := .tuple #[stV (n / 2) la f, .string lb, .bool true]) (by simp [results, Try.results22, go_sem, stV, hc]) rfl ⟨la, lb, HA.out, HBB.out, rfl, below_set3 ?_ _ _ _⟩
  exact (below_drewN ((Below.refl _ _).alloc (Nat.le_refl _) _) n1).trans (hb2.mono (by simp))

theorem takeStep_no (s : ByteArray) (t : Nat) (w : World) (hs : s.size ≤ maxLen) (ht : t ≤ 9223372036854775807) (h : Lz.stp s.data.toList t = none) :
    Calls Try.prog 22 #[.string s, .int .i64 t] w (noStep w) := by
  unfold Lz.stp at h
  split at h
  · rename_i hv; exact takeStep_nil s t w hs hv
  · rename_i n k hv
    rw [size_list] at h
    split at h
    · rename_i he
      split at h
      · rename_i hb; exact takeStep_litno s t w hs n k hv he hb
      · cases h
    · rename_i he
      split at h
      · rename_i hv2; exact takeStep_mnil s t w hs ht n k hv (by omega) hv2
      · rename_i f m hv2
        split at h
        · rename_i hb; exact takeStep_mno s t w hs ht n k hv (by omega) f m hv2 hb
        · cases h

/-- What a literal's step bears. -/
def litL (l : List UInt8) (c f h : Nat) : List UInt8 := if f = 0 then (l.drop h).take c else []

theorem takeStep_ok (s : ByteArray) (t : Nat) (w : World) (hs : s.size ≤ maxLen) (ht : t ≤ 9223372036854775807) (c f h : Nat) (hst : Lz.stp s.data.toList t = some (c, f, h)) :
    Calls Try.prog 22 #[.string s, .int .i64 t] w (aStep w c f (litL s.data.toList c f h) (s.data.toList.drop (Lz.used c f h))) := by
  unfold Lz.stp at hst
  split at hst
  · cases hst
  · rename_i n k hv
    rw [size_list] at hst
    split at hst
    · rename_i he
      split at hst
      · cases hst
      · rename_i hb
        simp only [Option.some.injEq, Prod.mk.injEq] at hst
        obtain ⟨rfl, rfl, rfl⟩ := hst
        exact takeStep_litok s t w hs n k hv he (by omega) (by omega)
    · rename_i he
      split at hst
      · cases hst
      · rename_i f' m hv2
        split at hst
        · cases hst
        · rename_i hb
          simp only [Option.some.injEq, Prod.mk.injEq] at hst
          obtain ⟨rfl, rfl, rfl⟩ := hst
          have hf : f' ≠ 0 := by omega
          unfold litL Lz.used
          rw [if_neg hf, if_neg hf]
          exact takeStep_mok s t w hs ht n k hv (by omega) f' m hv2 (by omega) (by omega) (by omega) (by omega)

end Go.Proofs.Ytkifjobmomfofaa
