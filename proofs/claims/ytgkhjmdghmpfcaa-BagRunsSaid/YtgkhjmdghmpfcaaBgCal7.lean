/-
  BagRuns: the call's Put.
-/
import Derived.Test.YtgkhjmdghmpfcaaBgCal6
namespace Go.Proofs.Ytgkhjmdghmpfcaa
open Go.RowKit
set_option maxRecDepth 20000 in
set_option maxHeartbeats 4000000 in
theorem call_put {w : World} {p base room n c m cm : Nat} {A B : Option Addr} {v : Value} {d l ms : List (Ms × Value)} (h : CalAt w p base room A n c v d l) (i0 : Int) (hm : m ≤ 300) (hsm : ∀ q ∈ ms, SmallM q.1) (hL : ∀ W, Below base w W → RdM W B m ms) :
    Calls Try.prog 11 #[.pointer (some ⟨p, 0, none⟩), .slice A n c, .agg #[.int .i64 1, .int .i64 i0, .slice B m cm], .int .i64 (room : Int)] w (CalPost base p room w) := by
  have hb1 : Below w.heap.size w (w.alloc (.cells #[.int .i64 1, .int .i64 i0, .slice B m cm] 33)) := (Below.refl _ _).alloc (Nat.le_refl _) _
  have hW := whole_op w 1 i0 (.slice B m cm)
  have hlt := fun k hk => h.bag.lt (k := k) hk
  have hbz := h.bag.size
  obtain ⟨g, hg⟩ : ∃ g, g = w.heap.size := ⟨_, rfl⟩
  generalize hW1 : w.alloc (.cells #[.int .i64 1, .int .i64 i0, .slice B m cm] 33) = W1 at hb1 hW
  rw [← hg] at hW hlt
  have hgl : g < W1.heap.size := hW.lt
  have hb1' : Below base w W1 := hb1.mono hbz
  have hbz1 : base ≤ W1.heap.size := Nat.le_trans hbz hb1.size
  have hml : ms.length = m := (hL W1 hb1').len
  have k0 := hW.cell 0
  have k2 := hW.cell 2
  simp only [List.getElem?_cons_succ, List.getElem?_cons_zero] at k0 k2
  have h1 := h.below hb1
  have HX := Lib.hid (fun (W2 : World) (acc : Value) (os : List (Ms × Value)) (b2 : Below W1.heap.size W1 W2) (hO : OwnMs W2 W1.heap.size acc os) (hos : names os = names ms) => put_then (cm := cm) h1 hb1' b2 hO hos hm hsm hL hgl (fun hx => Nat.lt_irrefl _ (hlt _ hx)) k2)
  have HR := Lib.hid (fun (W2 : World) (b2 : Below W1.heap.size W1 W2) => hL W2 (hb1'.trans (b2.mono hbz1)))
  have HZ := Lib.hid (fun (W2 : World) (b2 : Below W1.heap.size W1 W2) => (b2.cell (p := ⟨g, 2, none⟩) hgl).trans k2)
  have HN := Lib.hid hml
  have Hsm := Lib.hid hsm
  have HG := Lib.hid hgl
  clear h hb1 hW hlt h1 hb1' hbz hbz1 hml hL hsm hgl
  rw [hg] at k0
  go_enter Try.func11, Try.ntmps11
  go_upto_region 1 with fail
  clear hW1
  go_upto_region 3 with fail
  rw [← hg]
  clear k0 k2 hg
  go_wp2_with fail
  go_loopw [10, 11] (AlbRel W1 ms) (fun _ i _ => m - (Go.RowKit.intOf i).toNat)
  case atStart => exact ⟨0, [], Nat.zero_le _, rfl, by simp [names], OwnMs.nil, Below.refl _ _⟩
  case round =>
    obtain ⟨k, os, hk, rfl, hos, hO, hb⟩ := hrel
    have z2 := HZ.out wr hb
    by_cases hlt : k < m
    · obtain ⟨b, off, ⟨mm, e⟩, rfl, hbl, hx, hmm, hc⟩ := (HR.out wr hb).get hlt
      have ld1 := load_ms hc
      have hol : os.length = k := by have := congrArg List.length hos; rw [names_len, List.length_take, names_len] at this; have := HN.out; omega
      have HC := refOwn_any mm e wr hmm (Hsm.out (mm, e) (List.mem_of_getElem? hx)).1
      have HA := Lib.hid (fun (W3 : World) (b3 : Below wr.heap.size wr W3) (ve : Value) (hv1 : ve.oneCell' = true) (h1 : os.length + 1 ≤ 1000000) (h2 : W1.heap.size ≤ W3.heap.size) => app_new (row_below hO.row b3) mm hv1 h1 h2)
      have HO2 := Lib.hid (fun (W3 : World) (b3 : Below wr.heap.size wr W3) => hO.below b3)
      have HBB := Lib.hid hb
      have Hx := Lib.hid (names_get hx)
      have Hos := Lib.hid hos
      have Hol := Lib.hid hol
      have hki : (k : Int) < (m : Int) := by omega
      clear hc hmm hx hO hb hos hbl hk hol
      go_upto_region 8 with (first | (refine wpList_load_run ld1 rfl _ rfl rfl ?_) | (go_at_call 19; refine HC.mono ?_; rintro x W3 ⟨ve, rfl, hE3, b3⟩; obtain ⟨W4, a4, n4, hst⟩ := alloc_new W3; obtain ⟨W5, st5, n5⟩ := hst mm ve (row_one hE3); have ld5 := load_box n5.whole; have HE3 := Lib.hid hE3; have HB3 := Lib.hid b3; have HN5 := Lib.hid n5; clear hE3 b3 n5 n4 hst) | (refine wpList_alloc_run a4 rfl rfl ?_) | (refine wpList_store_run st5 rfl _ _ rfl rfl rfl ?_))
      have hb5 : Below wr.heap.size wr W5 := HB3.out.trans (HN5.out.below.mono HB3.out.size)
      have hE5 : OwnE W5 wr.heap.size ve mm.es := HE3.out.below HN5.out.below
      obtain ⟨W6, v7, W7, sl, ap7, hrow7, hg7, -⟩ := HA.out W5 hb5 ve (row_one hE5) (by have := Hol.out; omega) (by have := HBB.out.size; have := hb5.size; omega)
      have hos7 := (HO2.out W5 hb5).snoc (m := mm) (e := ve) (hE5.mono HBB.out.size) hrow7 hg7
      have hB7 : Below W1.heap.size W1 W7 := (HBB.out.trans (hb5.mono HBB.out.size)).grown hg7 (by have := HBB.out.size; have := hb5.size; omega) fun k hk => (World.ownsRow.lt (HO2.out W5 hb5).row k hk).1
      have HO7 := Lib.hid hos7
      have HB7 := Lib.hid hB7
      clear hos7 hB7 hb5 hE5 hrow7 hg7 a4 st5 ld1 z2
      refine wp_region_list ?_
      refine wpList_pure (v := u10) rfl rfl ?_
      simp only [Act.put, List.setIfInBounds_toArray, List.set_cons_zero, List.set_cons_succ]
      refine wpList_load_run ld5 rfl _ rfl rfl ?_
      simp only [Act.put, List.setIfInBounds_toArray, List.set_cons_zero, List.set_cons_succ]
      refine wpList_slice1_run sl rfl _ rfl rfl ?_
      simp only [Act.put, List.setIfInBounds_toArray, List.set_cons_zero, List.set_cons_succ]
      refine wpList_append_run ap7 rfl _ _ rfl rfl rfl rfl ?_
      simp only [Act.put, List.setIfInBounds_toArray, List.set_cons_zero, List.set_cons_succ]
      refine wpList_pure (v := v7) rfl rfl (wpList_nil ?_)
      simp only [Act.put, List.setIfInBounds_toArray, List.set_cons_zero, List.set_cons_succ]
      clear ap7 sl ld5
      go_wp2
      go_roundw
      case rel => exact ⟨k + 1, os ++ [(mm, ve)], by have := HN.out; omega, by go_num, by rw [take_snoc Hx.out, ← Hos.out]; simp [names], HO7.out, HB7.out⟩
      case measure => simp [Go.RowKit.intOf]; omega
    · obtain rfl : k = m := by have := HN.out; omega
      have hosn : names os = names ms := by rw [hos]; exact List.take_of_length_le (by rw [names_len]; have := HN.out; omega)
      have hch := HX.out wr u10 os hb hO hosn
      unfold PutChain at hch
      have HPut := Lib.hid hch
      clear hch hosn hos hO hb hk hlt HX HR HZ
      go_upto_region 12 with (first | (go_at_call 20; refine HPut.out.mono ?_; rintro x W3 ⟨rfl, z3, hall⟩; have HAll := Lib.hid hall; clear hall) | (go_at_call 14; refine HAll.out.mono ?_; rintro x W4 ⟨rfl, hov⟩; have HOv := Lib.hid hov; clear hov) | (go_at_call 15; refine HOv.out.mono ?_; rintro x W5 ⟨rfl, z5, hrp⟩; have HRp := Lib.hid hrp; clear hrp))
      have hrp := HRp.out
      have eg : ∀ args w, (callFunc 24 args).run Try.prog w = .ok (.enter 24 args) w := enters_of Try.func24 (by kernel_rfl) rfl
      clear HRp HOv HAll HPut z3 z2
      refine wp_region_list ?_
      refine wpList_pure (v := .slice A n c) rfl rfl ?_
      simp only [Act.put, List.setIfInBounds_toArray, List.set_cons_zero, List.set_cons_succ]
      refine wpList_pure (v := .pointer (some ⟨g, 2, none⟩)) rfl (by simp only [execOp]; go_simp) ?_
      simp only [Act.put, List.setIfInBounds_toArray, List.set_cons_zero, List.set_cons_succ]
      refine wpList_pure (v := .slice B k cm) rfl (by simp only [execOp]; go_simp) ?_
      simp only [Act.put, List.setIfInBounds_toArray, List.set_cons_zero, List.set_cons_succ]
      refine wpList_pure (v := .int .i64 (room : Int)) rfl rfl ?_
      simp only [Act.put, List.setIfInBounds_toArray, List.set_cons_zero, List.set_cons_succ]
      refine wpList_call_run (vs := #[.slice A n c, .slice B k cm, .int .i64 (room : Int)]) eg rfl (hrp) ?_
      rintro x W6 ⟨r, rfl, hr⟩
      refine ⟨_, rfl, ?_⟩
      have HF := Lib.hid hr
      clear hr
      simp only [Act.put, List.setIfInBounds_toArray, List.set_cons_zero, List.set_cons_succ]
      refine wpList_pure (v := .int .i64 0) rfl rfl ?_
      simp only [Act.put, List.setIfInBounds_toArray, List.set_cons_zero, List.set_cons_succ]
      refine wpList_pure (v := .bool true) rfl (exec_eql (u1 := .int .i64 0) (u2 := .int .i64 0) rfl rfl (eqr_sint _ Try.underlying25 _)) ?_
      simp only [Act.put, List.setIfInBounds_toArray, List.set_cons_zero, List.set_cons_succ]
      refine wpList_pure (v := .bool true) rfl rfl ?_
      simp only [Act.put, List.setIfInBounds_toArray, List.set_cons_zero, List.set_cons_succ]
      refine wpList_wanted (v := .bool true) rfl rfl ?_
      simp only [Act.put, List.setIfInBounds_toArray, List.set_cons_zero, List.set_cons_succ]
      refine wpList_pure (v := .bool true) rfl (by simp only [execOp]; go_simp) ?_
      simp only [Act.put, List.setIfInBounds_toArray, List.set_cons_zero, List.set_cons_succ]
      refine wpList_pure (v := r) rfl rfl ?_
      simp only [Act.put, List.setIfInBounds_toArray, List.set_cons_zero, List.set_cons_succ]
      refine wpList_pure (v := .bool true) rfl rfl (wpList_nil ?_)
      simp only [Act.put, List.setIfInBounds_toArray, List.set_cons_zero, List.set_cons_succ]
      clear hrp z5 eg
      go_wp2
      refine bodyPost_ret (results_tmp2 rfl _ _ _) rfl ?_
      exact HF.out
end Go.Proofs.Ytgkhjmdghmpfcaa
