/-
  BagRuns: the call's Double that goes.
-/
import Derived.Test.YtgkhjmdghmpfcaaBgCal3
namespace Go.Proofs.Ytgkhjmdghmpfcaa
open Go.RowKit
/-- Behind the bag's Double: the document's one. -/
theorem dbl_then {w W1 W2 : World} {p base room n c k : Nat} {A : Option Addr} {v e0 : Value} {d l : List (Ms × Value)} {m : Ms} (h : CalAt W1 p base room A n c v d l) (hdk : d[k]? = some (m, e0)) (hkn : k < n) (hsm : SmallM m) (hm0 : m.k ≠ 0) (hB : Below base w W1) (hP : AddsPost W1 p base room v l [m] W2) :
    ∃ b off W3, A = some ⟨b, off, none⟩ ∧ (Instr.loadAt 47 (.pointer (some ⟨b, off + k * 23, none⟩))).run Try.prog W2 = .ok (mval m e0) W2 ∧ (Instr.buildSlice 29 1 #[(0, mval m e0)]).run Try.prog W2 = .ok (.slice (some ⟨W2.heap.size, 0, none⟩) 1 1) W3 ∧
      Calls Try.prog 24 #[.slice (some ⟨b, off, none⟩) n c, .slice (some ⟨W2.heap.size, 0, none⟩) 1 1, .int .i64 (room : Int)] W3 fun e w' => ∃ r, e = .returned r ∧ CalPost base p room w (.returned (.tuple #[r, .bool true])) w' := by
  obtain ⟨os, v', hos, hb2, ho, hv', -⟩ := hP
  have hd2 : RdM W2 A n d := h.row.othN ho (fun b off e _ => h.sepA b off e) h.sepE
  have hE := sep_new hv' h.row.ents h.sepE
  obtain ⟨b, off, x, hA, -, hx, hm2, hc2⟩ := hd2.get hkn
  have hxe : x = (m, e0) := Option.some.inj (hx.symm.trans hdk)
  subst hxe
  obtain ⟨W3, sl, n3, hr3⟩ := slice_new W2 m hm2
  have hP := rput_any (most := room) (c := c) (c2 := 1) (hd2.below n3.below) (by have := h.le; omega) hr3 (by omega) (fun z hz => by rw [List.mem_singleton.1 hz]; exact hsm)
  refine ⟨b, off, W3, hA, load_ms hc2, sl, ?_⟩
  rw [hA] at hP
  refine hP.mono ?_
  rintro e w' ⟨A5, N5, c5, os5, rfl, r1, r2, r3, r4, r5, r6⟩
  have hB2 : Below base w W2 := hB.trans (ho.below h.bag.ge h.bag.size)
  exact ⟨_, rfl, cal_put (hb2.below n3.below) (by rw [hos]; exact (real_one hm0).symm) h.nam h.kin hE (hB2.trans (n3.below.mono hb2.size)) r1 r2 r3 r4 r5 r6⟩
set_option maxRecDepth 20000 in
set_option maxHeartbeats 2000000 in
theorem call_dbl_yes {w : World} {p base room n c k : Nat} {A : Option Addr} {v : Value} {d l : List (Ms × Value)} (h : CalAt w p base room A n c v d l) (L : Value) (hkn : k < n) :
    Calls Try.prog 11 #[.pointer (some ⟨p, 0, none⟩), .slice A n c, .agg #[.int .i64 3, .int .i64 (k : Int), L], .int .i64 (room : Int)] w (CalPost base p room w) := by
  obtain ⟨m, e0, e, hdk, hlk, hsm, hm0⟩ := h.get hkn
  have hb1 : Below w.heap.size w (w.alloc (.cells #[.int .i64 3, .int .i64 (k : Int), L] 33)) := (Below.refl _ _).alloc (Nat.le_refl _) _
  have hW := whole_op w 3 k L
  have hlt := fun k hk => h.bag.lt (k := k) hk
  have hbz := h.bag.size
  generalize hW1 : w.alloc (.cells #[.int .i64 3, .int .i64 (k : Int), L] 33) = W1 at hb1 hW
  have h1 := h.below hb1
  have HD := dbl_yes h1.bag hlk
  have HX := Lib.hid (fun (W2 : World) (hP : AddsPost W1 p base room v l [m] W2) => dbl_then h1 hdk hkn hsm hm0 (hb1.mono hbz) hP)
  have HJ := Lib.hid (fun (W2 : World) (hP : AddsPost W1 p base room v l [m] W2) => (show W2.cell? ⟨w.heap.size, 1, none⟩ = some (.int .i64 (k : Int)) from by
    obtain ⟨_, _, _, _, ho, _, _⟩ := hP
    rw [World.cell?_of_block (ho.block w.heap.size hW.lt fun hx => Nat.lt_irrefl _ (hlt _ hx))]
    exact hW.cell 1))
  have k0 := hW.cell 0
  have k1 := hW.cell 1
  simp only [List.getElem?_cons_succ, List.getElem?_cons_zero] at k0 k1
  have hki : (k : Int) < (n : Int) := by omega
  clear h hb1 hW hlt h1 hdk hlk hsm hm0 hbz hkn
  go_enter Try.func11, Try.ntmps11
  go_upto_region 1 with fail
  clear hW1
  go_upto_region 20 with (go_at_call 22; refine HD.mono ?_; rintro e W2 ⟨rfl, hP⟩; have HP := Lib.hid hP; clear hP)
  have j1 := HJ.out W2 HP.out
  obtain ⟨b, off, W3, rfl, ld, sl, hPut⟩ := HX.out W2 HP.out
  clear HX HJ HP k0 k1 HD
  go_upto_region 22 with fail
  have eg : ∀ args w, (callFunc 24 args).run Try.prog w = .ok (.enter 24 args) w := enters_of Try.func24 (by kernel_rfl) rfl
  refine wp_region_list ?_
  refine wpList_pure (v := .slice (some ⟨b, off, none⟩) n c) rfl rfl ?_
  simp only [Act.put, List.setIfInBounds_toArray, List.set_cons_zero, List.set_cons_succ]
  refine wpList_pure (v := .slice (some ⟨b, off, none⟩) n c) rfl rfl ?_
  simp only [Act.put, List.setIfInBounds_toArray, List.set_cons_zero, List.set_cons_succ]
  refine wpList_pure (v := .pointer (some ⟨w.heap.size, 1, none⟩)) rfl (by simp only [execOp]; go_simp) ?_
  simp only [Act.put, List.setIfInBounds_toArray, List.set_cons_zero, List.set_cons_succ]
  refine wpList_pure (v := .int .i64 (k : Int)) rfl (by simp only [execOp]; go_simp) ?_
  simp only [Act.put, List.setIfInBounds_toArray, List.set_cons_zero, List.set_cons_succ]
  refine wpList_pure (v := .pointer (some ⟨b, off + k * 23, none⟩)) rfl (by simp only [execOp]; go_simp) ?_
  simp only [Act.put, List.setIfInBounds_toArray, List.set_cons_zero, List.set_cons_succ]
  refine wpList_pure (v := mval m e0) rfl (exec_load (x := .pointer (some ⟨b, off + k * 23, none⟩)) rfl (ld)) ?_
  simp only [Act.put, List.setIfInBounds_toArray, List.set_cons_zero, List.set_cons_succ]
  refine wpList_slice1_run sl rfl _ rfl rfl ?_
  simp only [Act.put, List.setIfInBounds_toArray, List.set_cons_zero, List.set_cons_succ]
  refine wpList_pure (v := .int .i64 (room : Int)) rfl rfl ?_
  simp only [Act.put, List.setIfInBounds_toArray, List.set_cons_zero, List.set_cons_succ]
  refine wpList_call_run (vs := #[.slice (some ⟨b, off, none⟩) n c, .slice (some ⟨W2.heap.size, 0, none⟩) 1 1, .int .i64 (room : Int)]) eg rfl (hPut) ?_
  rintro x W4 ⟨r, rfl, hr⟩
  refine ⟨_, rfl, ?_⟩
  have HR := Lib.hid hr
  clear hr
  simp only [Act.put, List.setIfInBounds_toArray, List.set_cons_zero, List.set_cons_succ]
  refine wpList_pure (v := .int .i64 0) rfl rfl ?_
  simp only [Act.put, List.setIfInBounds_toArray, List.set_cons_zero, List.set_cons_succ]
  refine wpList_pure (v := .bool true) rfl (exec_eql (u1 := .int .i64 0) (u2 := .int .i64 0) rfl rfl (eqr_sint _ Try.underlying25 _)) ?_
  simp only [Act.put, List.setIfInBounds_toArray, List.set_cons_zero, List.set_cons_succ]
  refine wpList_pure (v := r) rfl rfl ?_
  simp only [Act.put, List.setIfInBounds_toArray, List.set_cons_zero, List.set_cons_succ]
  refine wpList_pure (v := .bool true) rfl rfl (wpList_nil ?_)
  simp only [Act.put, List.setIfInBounds_toArray, List.set_cons_zero, List.set_cons_succ]
  clear hPut sl ld j1
  go_wp2
  refine bodyPost_ret (results_tmp2 rfl _ _ _) rfl ?_
  exact HR.out
end Go.Proofs.Ytgkhjmdghmpfcaa
