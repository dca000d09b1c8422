/-
  THE WALK OF THE LAW ObjectEncodes: whatever the object and the name, the law answers true.
-/
import Derived.Test.YtmeancbpcjjfmaaKnows
import Derived.Test.YtmeancbpcjjfmaaFew
import Derived.Test.YtmeancbpcjjfmaaRefEncode
import Derived.Test.YtmeancbpcjjfmaaRefLinks2
namespace Go.Proofs.Ytmeancbpcjjfmaa
open Go.RowKit
set_option linter.unusedVariables false
set_option linter.unusedSimpArgs false

theorem links_ids {w : World} {cs : Array Value} {o : Ob} {ao bo : Option Addr} {ca cb : Nat} (h : ObAt w cs o ao bo ca cb) : ∀ l ∈ linksL o, l.1.length = 32 := by
  intro l hl
  unfold linksL at hl
  split at hl
  · obtain ⟨e, he, rfl⟩ := List.mem_map.1 hl
    exact h.eid e he
  split at hl
  · rcases List.mem_cons.1 hl with rfl | hl
    · exact h.F.trl
    · obtain ⟨p, hp, rfl⟩ := List.mem_map.1 hl
      exact h.pid p hp
  split at hl
  · simp at hl; subst hl; exact h.F.tal
  · cases hl
theorem links_len (o : Ob) (he : o.ents.length ≤ 70) (hp : o.pars.length ≤ 20) : (linksL o).length ≤ 1000 := by
  unfold linksL
  split
  · simp; omega
  split
  · simp; omega
  split <;> simp
theorem own_form {w : World} {base : Nat} {v : Value} {ls : List (List UInt8 × Int)} (h : OwnL w base v ls) : ∃ ao cap, v = .slice ao ls.length cap := by
  rcases h.2 with ⟨rfl, h0⟩ | ⟨g, cap, cur, rfl, _⟩
  · exact ⟨none, 0, by rw [h0]⟩
  · exact ⟨_, _, rfl⟩
theorem same_bytes (s : ByteArray) : (s.toList == s.toList) = true := by simp

set_option maxHeartbeats 2000000 in
set_option maxRecDepth 100000 in
theorem encodes_any (cs : Array Value) (o : Ob) (ao bo : Option Addr) (ca cb : Nat) (name : ByteArray) (w : World) (h : ObAt w cs o ao bo ca cb) (hd : o.data.size ≤ maxLen) (ht : o.text.size ≤ maxLen) (hn : name.size ≤ maxLen) :
    Calls Try.prog 3 #[.agg cs, .string name] w fun r w' => r = .returned (.bool true) ∧ Below w.heap.size w w' := by
  have HF := Lib.hid (fun W (hb : Below w.heap.size w W) => few_any cs o ao bo ca cb W (h.below hb) hd ht)
  have HS := Lib.hid h.F.size
  have K0 := Kp.box w cs 28
  have HN1 := Lib.hid (fun W => name_any name W hn)
  have HN2 := Lib.hid (fun W => refname_any name W hn)
  unfold maxLen at hn
  have HH := Lib.hid h
  clear h hd ht
  go_enter Try.func3, Try.ntmps3
  go_wp2_with (first
    | (go_at_call 5; refine (HF.out _ K0.below).mono ?_; rintro r w1 ⟨⟨b, rfl, hbf⟩, hx⟩; have HBF := Lib.hid hbf; have HX := Lib.hid hx; clear hbf hx; fail)
    | ((with_reducible refine load_ob (x := .tmp 2) ?_ ?_ ?_ K0 HS.out ?_); rfl; rfl; rfl))
  refine (HF.out _ K0.below).mono ?_
  rintro r w1 ⟨⟨b, rfl, hbf⟩, hx⟩
  have K1 := K0.step hx
  clear hx K0
  cases b with
  | false =>
    go_wp2_with fail
    refine (knows_true _).mono ?_
    rintro r w2 ⟨rfl, hx⟩
    go_wp2
    go_ret
    exact ⟨rfl, (K1.step hx).below⟩
  | true =>
    have fp := hbf rfl
    clear hbf
    by_cases h100 : name.size ≤ 100
    · have h100' : ¬ (100 : Int) < (name.size : Int) := by omega
      have HE := Lib.hid (fun W (hb : Below w.heap.size w W) => encode_any cs o ao bo ca cb W (HH.out.below hb) fp.d fp.t fp.n)
      have HR := Lib.hid (fun W (hb : Below w.heap.size w W) => refencode_any cs o ao bo ca cb W (HH.out.below hb) fp.d fp.t fp.n)
      have HL := Lib.hid (fun W (hb : Below w.heap.size w W) => links_any cs o ao bo ca cb W (HH.out.below hb) (by have := fp.e; omega) (by have := fp.p; omega))
      have HM := Lib.hid (fun W (hb : Below w.heap.size w W) => reflinks_any cs o ao bo ca cb W (HH.out.below hb) (by have := fp.e; omega) (by have := fp.p; omega))
      have HI := Lib.hid (links_ids HH.out)
      have HLL := Lib.hid (links_len o fp.e fp.p)
      have hsame := same_bytes (encS o)
      generalize encS o = es at HE HR hsame
      generalize linksL o = ls at HL HM HI HLL
      generalize nameOk name = nb at HN1 HN2
      clear fp HH HF
      cases hok : encOk o with
      | true =>
        rw [hok] at HE HR
        clear hok
        go_wp2_with (first
          | (go_at_call 7; fail)
          | ((with_reducible refine load_ob (x := .tmp 2) ?_ ?_ ?_ K1 HS.out ?_); rfl; rfl; rfl))
        refine (HE.out _ K1.below).mono ?_
        rintro r w2 ⟨rfl, hx⟩
        have K2 := K1.step hx
        clear hx K1
        unfold endE
        go_wp2_with (first
          | (go_at_call 8; fail)
          | ((with_reducible refine load_ob (x := .tmp 2) ?_ ?_ ?_ K2 HS.out ?_); rfl; rfl; rfl))
        refine (HR.out _ K2.below).mono ?_
        rintro r w3 ⟨rfl, hx⟩
        have K3 := K2.step hx
        clear hx K2
        unfold endR
        go_wp2_with (first
          | (go_at_call 9; fail)
          | ((with_reducible refine load_ob (x := .tmp 2) ?_ ?_ ?_ K3 HS.out ?_); rfl; rfl; rfl))
        refine (HL.out _ K3.below).mono ?_
        rintro r w4 ⟨v1, rfl, O1, hx⟩
        have K4 := K3.step hx
        have R1 := Lib.hid (O1.rows HI.out)
        obtain ⟨a1, k1, rfl⟩ := own_form O1
        clear hx K3 O1
        go_wp2_with (first
          | (go_at_call 10; fail)
          | ((with_reducible refine load_ob (x := .tmp 2) ?_ ?_ ?_ K4 HS.out ?_); rfl; rfl; rfl))
        refine (HM.out _ K4.below).mono ?_
        rintro r w5 ⟨v2, rfl, O2, hx⟩
        have K5 := K4.step hx
        have R2 := Lib.hid (O2.rows HI.out)
        have R3 := Lib.hid (R1.out.below hx)
        obtain ⟨a2, k2, rfl⟩ := own_form O2
        clear hx K4 O2 R1
        go_wp2_with fail
        refine (sameLinks_any ls a1 a2 k1 k2 _ R3.out R2.out HI.out HLL.out).mono ?_
        rintro r w6 ⟨rfl, hx⟩
        have K6 := K5.step hx
        clear hx K5 R2 R3
        go_wp2_with fail
        refine (knows_true _).mono ?_
        rintro r w7 ⟨rfl, hx⟩
        have K7 := K6.step hx
        clear hx K6
        go_wp2_with (first
          | (go_at_call 12; refine (HN1.out _).mono ?_; rintro r wx ⟨rfl, rfl⟩)
          | (go_at_call 13; refine (HN2.out _).mono ?_; rintro r wx ⟨rfl, rfl⟩))
        all_goals
          go_ret
          exact ⟨ret_bool (by simp), K7.below⟩
      | false =>
        rw [hok] at HE HR
        clear hok
        go_wp2_with (first
          | (go_at_call 7; fail)
          | ((with_reducible refine load_ob (x := .tmp 2) ?_ ?_ ?_ K1 HS.out ?_); rfl; rfl; rfl))
        refine (HE.out _ K1.below).mono ?_
        rintro r w2 ⟨rfl, hx⟩
        have K2 := K1.step hx
        clear hx K1
        unfold endE
        go_wp2_with (first
          | (go_at_call 8; fail)
          | ((with_reducible refine load_ob (x := .tmp 2) ?_ ?_ ?_ K2 HS.out ?_); rfl; rfl; rfl))
        refine (HR.out _ K2.below).mono ?_
        rintro r w3 ⟨rfl, hx⟩
        have K3 := K2.step hx
        clear hx K2
        unfold endR
        go_wp2_with (first
          | (go_at_call 9; fail)
          | ((with_reducible refine load_ob (x := .tmp 2) ?_ ?_ ?_ K3 HS.out ?_); rfl; rfl; rfl))
        refine (HL.out _ K3.below).mono ?_
        rintro r w4 ⟨v1, rfl, O1, hx⟩
        have K4 := K3.step hx
        have R1 := Lib.hid (O1.rows HI.out)
        obtain ⟨a1, k1, rfl⟩ := own_form O1
        clear hx K3 O1
        go_wp2_with (first
          | (go_at_call 10; fail)
          | ((with_reducible refine load_ob (x := .tmp 2) ?_ ?_ ?_ K4 HS.out ?_); rfl; rfl; rfl))
        refine (HM.out _ K4.below).mono ?_
        rintro r w5 ⟨v2, rfl, O2, hx⟩
        have K5 := K4.step hx
        have R2 := Lib.hid (O2.rows HI.out)
        have R3 := Lib.hid (R1.out.below hx)
        obtain ⟨a2, k2, rfl⟩ := own_form O2
        clear hx K4 O2 R1
        go_wp2_with fail
        refine (sameLinks_any ls a1 a2 k1 k2 _ R3.out R2.out HI.out HLL.out).mono ?_
        rintro r w6 ⟨rfl, hx⟩
        have K6 := K5.step hx
        clear hx K5 R2 R3
        go_wp2_with fail
        refine (knows_true _).mono ?_
        rintro r w7 ⟨rfl, hx⟩
        have K7 := K6.step hx
        clear hx K6
        go_wp2_with (first
          | (go_at_call 12; refine (HN1.out _).mono ?_; rintro r wx ⟨rfl, rfl⟩)
          | (go_at_call 13; refine (HN2.out _).mono ?_; rintro r wx ⟨rfl, rfl⟩))
        all_goals
          go_ret
          exact ⟨ret_bool (by simp), K7.below⟩
    · have h100' : (100 : Int) < (name.size : Int) := by omega
      go_wp2_with fail
      refine (knows_true _).mono ?_
      rintro r w2 ⟨rfl, hx⟩
      go_wp2
      go_ret
      exact ⟨rfl, (K1.step hx).below⟩
end Go.Proofs.Ytmeancbpcjjfmaa
