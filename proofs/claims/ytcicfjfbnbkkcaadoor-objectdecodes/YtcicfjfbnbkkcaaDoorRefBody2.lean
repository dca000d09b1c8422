/-
  WALKS OF LAYER 4: the document's own body (knapsackref04.body), of blobs, commits and tags.
-/
import Derived.Test.YtcicfjfbnbkkcaaDoorRefBody
namespace Go.Proofs.YtcicfjfbnbkkcaaDoor
open Go.RowKit
set_option linter.unusedVariables false
set_option linter.unusedSimpArgs false

set_option maxHeartbeats 2000000 in
set_option maxRecDepth 100000 in
theorem refbody_blob (cs : Array Value) (o : Ob) (ao bo : Option Addr) (ca cb : Nat) (w : World) (h : ObAt w cs o ao bo ca cb) (hk : o.kind = 1) (he : o.ents = []) :
    Calls Tryd.prog 42 #[.agg cs] w fun r w' => r = .returned (.string ⟨(bodyL o).toArray⟩) ∧ Below w.heap.size w w' := by
  have HM := Lib.hid (show bodyL o = o.data.data.toList by simp [bodyL, hk])
  generalize bodyL o = M at HM
  have c0 : cs[0]? = some (.int .i64 1) := by rw [h.F.c0, hk]
  have c1 := h.F.c1
  have c2 := h.F.c2
  rw [he] at c2
  clear h hk he
  go_enter Tryd.func42, Tryd.ntmps42
  go_wp2
  go_loop [3, 4] (fun s i => s = .string o.data ∧ i = .int .i64 0) (fun _ _ => 0)
  case atStart => exact ⟨rfl, rfl⟩
  case round =>
    obtain ⟨rfl, rfl⟩ := hrel
    go_wp2
    go_ret
    exact ⟨ret_str (by rw [HM.out]), (Below.refl _ _).alloc (Nat.le_refl _) _⟩

set_option maxHeartbeats 2000000 in
set_option maxRecDepth 100000 in
theorem refbody_tag (cs : Array Value) (o : Ob) (ao bo : Option Addr) (ca cb : Nat) (w : World) (h : ObAt w cs o ao bo ca cb) (ft : Fit o) (hk : o.kind = 4) (he : o.ents = []) (hd : o.data = ⟨#[]⟩) :
    Calls Tryd.prog 42 #[.agg cs] w fun r w' => r = .returned (.string ⟨(bodyL o).toArray⟩) ∧ Below w.heap.size w w' := by
  have HM := Lib.hid (show bodyL o = tagL o by simp [bodyL, hk])
  generalize bodyL o = M at HM
  have c0 : cs[0]? = some (.int .i64 4) := by rw [h.F.c0, hk]
  have c1 := h.F.c1
  rw [hd] at c1
  have c2 := h.F.c2
  rw [he] at c2
  have C70 := Lib.hid h.F.c70
  have C71 := Lib.hid h.F.c71
  have hf := ft.f hk
  have hn := ft.n
  have HL := Lib.hid h.F.tal
  have HR := Lib.hid (fun W (q : Kp w cs 29 W) => h.F.rta q.held)
  have htl := text_len o.name (by omega)
  have hs2 : ¬ 9223372036854775807 < 1 + o.target.length := by have := HL.out; omega
  have hs3 : ¬ 9223372036854775807 < 1 + o.target.length + (textOf o.name).size := by have := HL.out; omega
  have u24 := Tryd.underlying25
  have i24 := idsize HL.out
  have K0 := Kp.box w cs 29
  have HMK := Lib.hid (fun W (q : Kp w cs 29 W) => (⟨q, q.cell C70.out, q.cell C71.out, HR.out W q⟩ : Kp w cs 29 W ∧ W.cell? ⟨w.heap.size, 70, none⟩ = some (.int .i64 o.of) ∧ W.cell? ⟨w.heap.size, 71, none⟩ = some (.string o.name) ∧ W.rangeAt w.heap.size 38 (idC o.target)))
  clear h ft hk he hd
  go_enter Tryd.func42, Tryd.ntmps42
  go_wp2
  go_loop [3, 4] (fun s i => s = .string ⟨#[]⟩ ∧ i = .int .i64 0) (fun _ _ => 0)
  case atStart => exact ⟨rfl, rfl⟩
  case round =>
    obtain ⟨rfl, rfl⟩ := hrel
    go_wp2
    go_region_held3 (fun w' => Kp w cs 29 w' ∧ w'.cell? ⟨w.heap.size, 70, none⟩ = some (.int .i64 o.of) ∧ w'.cell? ⟨w.heap.size, 71, none⟩ = some (.string o.name) ∧ w'.rangeAt w.heap.size 38 (idC o.target))
      (first | exact HMK.out _ K0.drew | (refine HMK.out _ (Kp.step ?_ (by assumption)); exact And.left (by assumption)))
      ((first
        | (go_at_call 40; refine (one_any _ _ hf.1 hf.2).mono ?_; rintro r wx ⟨rfl, hx⟩)
        | (go_at_call 41; refine (reftext_any _ _ (by omega)).mono ?_; rintro r wx ⟨rfl, hx⟩)
        | (go_at_call 62; refine (bytes_any _ _ HL.out).mono ?_; rintro r wx ⟨rfl, hx⟩)))
    rename_i hH
    go_wp2
    go_ret
    refine ⟨ret_str (bytes_ext ?_), hH.1.below⟩
    rw [HM.out]
    simp [tagL, ByteArray.data_append]

set_option maxHeartbeats 2000000 in
set_option maxRecDepth 100000 in
theorem refbody_commit (cs : Array Value) (o : Ob) (ao bo : Option Addr) (ca cb : Nat) (w : World) (h : ObAt w cs o ao bo ca cb) (ft : Fit o) (hk : o.kind = 3) (he : o.ents = []) (hd : o.data = ⟨#[]⟩) :
    Calls Tryd.prog 42 #[.agg cs] w fun r w' => r = .returned (.string ⟨(bodyL o).toArray⟩) ∧ Below w.heap.size w w' := by
  have HM := Lib.hid (show bodyL o = commitL o by simp [bodyL, hk])
  generalize bodyL o = M at HM
  have C0 := Lib.hid (show cs[0]? = some (.int .i64 3) by rw [h.F.c0, hk])
  have c0 := C0.out
  have c1 := h.F.c1
  rw [hd] at c1
  have c2 := h.F.c2
  rw [he] at c2
  have C35 := Lib.hid h.F.c35
  have C36 := Lib.hid h.F.c36
  have C37 := Lib.hid h.F.c37
  have HP := Lib.hid h.P
  have HD := Lib.hid h.pid
  have hp := ft.p hk
  have ht := ft.t
  have hti := h.ti
  have HL := Lib.hid h.F.trl
  have HR := Lib.hid (fun W (q : Kp w cs 29 W) => h.F.rtr q.held)
  have hu1 := Lib.uvarint_length64 (x := o.pars.length) (by omega)
  have hu2 := Lib.uvarint_length64 (x := o.time) (by omega)
  have hp00 : ¬ 9223372036854775807 < o.tree.length := by have := HL.out; omega
  have hp0 : ¬ 9223372036854775807 < o.tree.length + (Lib.uvarint o.pars.length).length := by have := HL.out; omega
  have hwu : IntKind.u64.wrap (o.pars.length : Int) = (o.pars.length : Int) := by simp [IntKind.wrap, IntKind.bits, IntKind.signed]; omega
  have hU24 := Tryd.underlying25
  have hI24 := idsize HL.out
  have K0 := Kp.box w cs 29
  have HMK := Lib.hid (fun W (q : Kp w cs 29 W) => (⟨q, q.cell C35.out, HR.out W q⟩ : Kp w cs 29 W ∧ W.cell? ⟨w.heap.size, 35, none⟩ = some (.slice bo o.pars.length cb) ∧ W.rangeAt w.heap.size 3 (idC o.tree)))
  clear h ft hk he hd
  go_enter Tryd.func42, Tryd.ntmps42
  go_wp2
  go_loop [3, 4] (fun s i => s = .string ⟨#[]⟩ ∧ i = .int .i64 0) (fun _ _ => 0)
  case atStart => exact ⟨rfl, rfl⟩
  case round =>
    obtain ⟨rfl, rfl⟩ := hrel
    go_wp2
    go_region_held3 (fun w' => Kp w cs 29 w' ∧ w'.cell? ⟨w.heap.size, 35, none⟩ = some (.slice bo o.pars.length cb) ∧ w'.rangeAt w.heap.size 3 (idC o.tree))
      (first | exact HMK.out _ K0.drew | (refine HMK.out _ (Kp.step ?_ (by assumption)); exact And.left (by assumption)))
      ((first
        | (go_at_call 61; refine (refput_any o.pars.length _ (by omega)).mono ?_; rintro r wx ⟨rfl, hx⟩)
        | (go_at_call 62; refine (bytes_any _ _ HL.out).mono ?_; rintro r wx ⟨rfl, hx⟩)))
    rename_i hH
    have K1 := hH.1
    clear hH hU24 hI24 K0 HMK
    generalize hA0 : (({ data := #[] } : ByteArray) ++ { data := o.tree.toArray } ++ { data := (Lib.uvarint o.pars.length).toArray }) = acc0
    have HA0 := Lib.hid (show acc0.data.toList = o.tree ++ Lib.uvarint o.pars.length ++ (o.pars.take 0).flatten by rw [← hA0]; simp [ByteArray.data_append])
    clear hA0
    go_wp2
    go_loopw [3, 5] (fun s i wr => ∃ (k : Nat) (acc : ByteArray), k ≤ o.pars.length ∧ i = .int .i64 k ∧ s = .string acc ∧ Hid (acc.data.toList = o.tree ++ Lib.uvarint o.pars.length ++ (o.pars.take k).flatten) ∧ Kp w cs 29 wr) (fun _ i _ => o.pars.length - (intOf i).toNat)
    case atStart => exact ⟨0, acc0, by omega, rfl, rfl, HA0, K1⟩
    case round =>
      clear K1 HA0
      obtain ⟨k, acc, hk, rfl, rfl, HA, K1⟩ := hrel
      have c35 := K1.cell C35.out
      have hal : acc.size ≤ 1000 := by
        have h1 := pars_len (o.pars.take k) (fun x hx => HD.out x (List.mem_of_mem_take hx))
        have h2 := congrArg List.length HA.out
        rw [size_list, List.length_append, List.length_append, h1, List.length_take, HL.out] at h2; omega
      by_cases hlt : k < o.pars.length
      · have hlt' : (k : Int) < (o.pars.length : Int) := by omega
        obtain ⟨e, he⟩ : ∃ e, o.pars[k]? = some e := ⟨o.pars[k], List.getElem?_eq_getElem hlt⟩
        obtain ⟨a, rfl, hc⟩ := par_cells (HP.out.below K1.below) k e he
        have HCC := Lib.hid hc
        have HLE := Lib.hid (HD.out e (List.mem_of_getElem? he))
        have HT := Lib.hid (show (acc ++ ⟨e.toArray⟩).data.toList = o.tree ++ Lib.uvarint o.pars.length ++ (o.pars.take (k + 1)).flatten by
          rw [take_flat _ _ _ he, ← List.append_assoc, ← HA.out]; simp [ByteArray.data_append])
        have hs1 : ¬ 9223372036854775807 < acc.size + e.length := by have := HLE.out; omega
        clear hc he
        go_wp2_with (first
          | (go_at_call 62; refine (bytes_any _ _ HLE.out).mono ?_; rintro r wy ⟨rfl, hy⟩)
          | ((with_reducible apply ld_id (hc := HCC.out) (hl := HLE.out)); rfl; rfl; rfl))
        go_roundw
        case rel => exact ⟨k + 1, _, by omega, by go_num, rfl, HT, K1.step hy⟩
        case measure => simp [intOf]; omega
      · have HT := Lib.hid (show acc.data.toList = o.tree ++ Lib.uvarint o.pars.length ++ o.pars.flatten by rw [HA.out, List.take_of_length_le (by omega)])
        have hxl := text_len o.text ht
        have hs1 : ¬ 9223372036854775807 < acc.size + (Lib.uvarint o.time).length := by omega
        have hs2 : ¬ 9223372036854775807 < acc.size + (Lib.uvarint o.time).length + (textOf o.text).size := by omega
        have hwt : IntKind.u64.wrap (o.time : Int) = (o.time : Int) := by simp [IntKind.wrap, IntKind.bits, IntKind.signed]; omega
        have HMK := Lib.hid (fun W (q : Kp w cs 29 W) => (⟨q, q.cell C36.out, q.cell C37.out, q.cell C0.out⟩ : Kp w cs 29 W ∧ W.cell? ⟨w.heap.size, 36, none⟩ = some (.int .u32 (o.time : Int)) ∧ W.cell? ⟨w.heap.size, 37, none⟩ = some (.string o.text) ∧ W.cell? ⟨w.heap.size, 0, none⟩ = some (.int .i64 3)))
        go_wp2
        go_region_held3 (fun w' => Kp w cs 29 w' ∧ w'.cell? ⟨w.heap.size, 36, none⟩ = some (.int .u32 (o.time : Int)) ∧ w'.cell? ⟨w.heap.size, 37, none⟩ = some (.string o.text) ∧ w'.cell? ⟨w.heap.size, 0, none⟩ = some (.int .i64 3))
          (first | exact HMK.out _ K1.drew | (refine HMK.out _ (Kp.step ?_ (by assumption)); exact And.left (by assumption)))
          ((first
            | (go_at_call 61; refine (refput_any o.time _ (by omega)).mono ?_; rintro r wx ⟨rfl, hx⟩)
            | (go_at_call 41; refine (reftext_any _ _ (by omega)).mono ?_; rintro r wx ⟨rfl, hx⟩)))
        rename_i hH
        go_wp2
        go_ret
        refine ⟨ret_str (bytes_ext ?_), hH.1.below⟩
        rw [HM.out]
        simp only [ByteArray.data_append, Array.toList_append, HT.out, commitL]
end Go.Proofs.YtcicfjfbnbkkcaaDoor
