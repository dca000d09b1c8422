/-
  WALKS OF LAYER 4: entriesValid.
-/
import Derived.Test.YtcicfjfbnbkkcaaDoorOps
namespace Go.Proofs.YtcicfjfbnbkkcaaDoor
open Go.RowKit
set_option linter.unusedVariables false
set_option linter.unusedSimpArgs false

/-- A name behind another one. -/
def gtB (last name : ByteArray) : Bool := !(Op.bytesLess name.toList last.toList || name.toList == last.toList)
/-- Entries that may be, behind a name. -/
def entsOk : ByteArray → List En → Bool
  | _, [] => true
  | last, e :: r => nameOk e.name && gtB last e.name && (e.kind == 1 || e.kind == 2) && entsOk e.name r

set_option maxHeartbeats 1000000 in
set_option maxRecDepth 100000 in
theorem entriesValid_any (es : List En) (ao : Option Addr) (cap : Nat) (w : World) (hR : RowsAt w (.slice ao es.length cap) 34 (es.map enC)) (hid : ∀ e ∈ es, e.id.length = 32) (hn : ∀ e ∈ es, e.name.size ≤ maxLen) (hl : es.length ≤ maxLen) :
    Calls Tryd.prog 33 #[.slice ao es.length cap] w fun r w' => r = .returned (.bool (decide (es.length ≤ 64) && entsOk .empty es)) ∧ Below w.heap.size w w' := by
  unfold maxLen at hl
  have HR := Lib.hid hR
  have HN := Lib.hid hn
  have HD := Lib.hid hid
  clear hR hn hid
  generalize hZ : (decide (es.length ≤ 64) && entsOk .empty es) = z
  have HZ := Lib.hid hZ
  clear hZ
  by_cases h64 : es.length ≤ 64
  · have h64' : ¬ (64 : Int) < (es.length : Int) := by omega
    go_enter Tryd.func33, Tryd.ntmps33
    go_wp2
    go_loopw [3, 11] (fun l i wr => ∃ (k : Nat) (last : ByteArray), k ≤ es.length ∧ i = .int .i64 k ∧ l = .string last ∧ Hid (z = entsOk last (es.drop k)) ∧ Below w.heap.size w wr) (fun _ i _ => es.length - (intOf i).toNat)
    case atStart => exact ⟨0, .empty, by omega, rfl, rfl, by rw [← HZ.out]; simp [Hid, h64], Below.refl _ _⟩
    case round =>
      obtain ⟨k, last, hk, rfl, rfl, HE, hb⟩ := hrel
      by_cases hlt : k < es.length
      · have hlt' : (k : Int) < (es.length : Int) := by omega
        obtain ⟨e, he⟩ : ∃ e, es[k]? = some e := ⟨es[k], List.getElem?_eq_getElem hlt⟩
        obtain ⟨a, rfl, hc⟩ := ent_cells (HR.out.below hb) k e he
        have HC := Lib.hid hc
        have hmem := List.mem_of_getElem? he
        have HL := Lib.hid (HD.out e hmem)
        have HM := Lib.hid (HN.out e hmem)
        have n0 : (enC e)[0]? = some (.string e.name) := rfl
        have n1 : (enC e)[1]? = some (.int .i64 e.kind) := rfl
        have HNM := Lib.hid (fun W => name_any e.name W HM.out)
        have HS := Lib.hid (show z = (nameOk e.name && gtB last e.name && (e.kind == 1 || e.kind == 2) && entsOk e.name (es.drop (k + 1))) by
          obtain ⟨hk2, rfl⟩ := List.getElem?_eq_some_iff.1 he
          rw [HE.out, List.drop_eq_getElem_cons hk2]; rfl)
        clear hc he hmem
        generalize nameOk e.name = nb at HNM HS
        go_wp2_with (first
          | (go_at_call 11; ((with_reducible refine (HNM.out _).mono ?_); rintro r wx ⟨rfl, rfl⟩))
          | ((with_reducible apply ld_en (hc := HC.out) (hid := HL.out)); rfl; rfl; rfl)
          | ((with_reducible apply st_en (hid := HL.out)); rfl; rfl; rfl; rfl; rfl))
        all_goals first
          | (go_ret; exact ⟨ret_bool (by rw [HS.out]; unfold gtB; simp_all <;> (intro h1 h2; rcases ‹Op.bytesLess _ _ = true ∨ _› with h | h <;> simp_all)), hb.alloc (by have := hb.size; omega) _⟩)
          | exact ⟨⟨k + 1, e.name, by omega, by go_num, rfl, by rw [HS.out]; simp only [Hid]; unfold gtB; simp_all, hb.alloc (by have := hb.size; omega) _⟩, by simp [intOf]; omega⟩
      · have HS := Lib.hid (show z = true by rw [HE.out, List.drop_of_length_le (by omega)]; rfl)
        go_wp2
        go_ret
        exact ⟨ret_bool (by rw [HS.out]), hb⟩
  · have h64' : (64 : Int) < (es.length : Int) := by omega
    have HS := Lib.hid (show z = false by rw [← HZ.out]; simp [h64])
    go_enter Tryd.func33, Tryd.ntmps33
    go_wp2
    go_ret
    exact ⟨ret_bool (by rw [HS.out]), Below.refl _ _⟩
end Go.Proofs.YtcicfjfbnbkkcaaDoor
