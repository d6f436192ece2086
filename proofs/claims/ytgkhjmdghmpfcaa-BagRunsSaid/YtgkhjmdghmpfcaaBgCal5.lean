/-
  BagRuns: the call's Take that goes.
-/
import Derived.Test.YtgkhjmdghmpfcaaBgCal4
namespace Go.Proofs.Ytgkhjmdghmpfcaa
open Go.RowKit
theorem CalPost.below {base p room : Nat} {w w1 w2 : World} {e : Ending} (h : CalPost base p room w e w1) (hb : Below w1.heap.size w1 w2) : CalPost base p room w e w2 := by
  obtain ⟨A, n, c, v, d, l, rfl, h, b⟩ := h
  exact ⟨A, n, c, v, d, l, rfl, h.below hb, b.trans (hb.mono h.bag.size)⟩
/-- Behind the bag's Take: what lies where, and the document's one. -/
theorem take_then {w W1 W2 W4 : World} {p base room n c k : Nat} {A : Option Addr} {v e e0 : Value} {d l : List (Ms × Value)} {m : Ms} (h : CalAt W1 p base room A n c v d l) (hdk : d[k]? = some (m, e0)) (hlk : l[k]? = some (m, e)) (hkn : k < n) (hB : Below base w W1) (hP : DropPost W1 p base room v (l.eraseIdx k) W2) (b4 : Below W2.heap.size W2 W4) :
    ∃ b off, A = some ⟨b, off, none⟩ ∧ (∀ W, Below W4.heap.size W4 W → (Instr.loadAt 47 (.pointer (some ⟨b, off + k * 23, none⟩))).run Try.prog W = .ok (mval m e0) W) ∧ (∀ W, Below W4.heap.size W4 W → MsgR W (m, e)) ∧ (∀ W, Below W4.heap.size W4 W → MsgR W (m, e0)) ∧
      (∀ W, Below W4.heap.size W4 W → Calls Try.prog 25 #[.slice (some ⟨b, off, none⟩) n c, .int .i64 (k : Int)] W fun e w' => ∃ r, e = .returned r ∧ Below W.heap.size W w' ∧ ∀ w2, Below w'.heap.size w' w2 → CalPost base p room w (.returned (.tuple #[r, .bool true])) w2) := by
  obtain ⟨v', hb2, ho, hv'⟩ := hP
  have hd2 : RdM W2 A n d := h.row.othN ho (fun b off e _ => h.sepA b off e) h.sepE
  have hd4 := hd2.below b4
  have hE := sep_new (.inl hv') h.row.ents h.sepE
  have hB2 : Below base w W2 := hB.trans (ho.below h.bag.ge h.bag.size)
  have hm2 : MsgR W2 (m, e) := OwnE.msg (p := (m, e)) ((h.bag.ents (m, e) (List.mem_of_getElem? hlk)).oth ho fun k hk => h.bag.ep (List.mem_of_getElem? hlk) hk)
  obtain ⟨b, off, x, hA, -, hx, -, -⟩ := hd4.get hkn
  refine ⟨b, off, hA, fun W hW => ?_, fun W hW => (hm2.below b4).below hW, fun W hW => (hd4.below hW).ents _ (List.mem_of_getElem? hdk), fun W hW => ?_⟩
  · obtain ⟨b', off', x', hA', -, hx', -, hc⟩ := (hd4.below hW).get hkn
    rw [hA] at hA'
    injection hA' with hA'
    injection hA' with h1 h2
    subst h1 h2
    have hxe : x' = (m, e0) := Option.some.inj (hx'.symm.trans hdk)
    subst hxe
    exact load_ms hc
  · have hP := rwo_any (hd4.below hW) (by have := h.le; omega) h.cap hkn
    rw [hA] at hP
    refine hP.mono ?_
    rintro e' w' ⟨A5, N5, c5, rfl, r1, r2, r3, r4⟩
    have hBW : Below base w W := (hB2.trans (b4.mono hb2.size)).trans (hW.mono (Nat.le_trans hb2.size b4.size))
    exact ⟨_, rfl, r4, fun w2 h2 => (cal_wo ((hb2.below b4).below hW) hv' h.nam h.kin h.sepE hBW r1 r2 r3 r4).below h2⟩
set_option maxRecDepth 20000 in
set_option maxHeartbeats 2000000 in
theorem call_take_yes {w : World} {p base room n c k : Nat} {A : Option Addr} {v : Value} {d l : List (Ms × Value)} (h : CalAt w p base room A n c v d l) (L : Value) (hkn : k < n) :
    Calls Try.prog 11 #[.pointer (some ⟨p, 0, none⟩), .slice A n c, .agg #[.int .i64 2, .int .i64 (k : Int), L], .int .i64 (room : Int)] w (CalPost base p room w) := by
  obtain ⟨m, e0, e, hdk, hlk, hsm, hm0⟩ := h.get hkn
  have hb1 : Below w.heap.size w (w.alloc (.cells #[.int .i64 2, .int .i64 (k : Int), L] 33)) := (Below.refl _ _).alloc (Nat.le_refl _) _
  have hW := whole_op w 2 k L
  have hlt := fun k hk => h.bag.lt (k := k) hk
  have hbz := h.bag.size
  have he1 : e.oneCell' = true := (h.bag.ents _ (List.mem_of_getElem? hlk)).msg.one
  generalize hW1 : w.alloc (.cells #[.int .i64 2, .int .i64 (k : Int), L] 33) = W1 at hb1 hW
  have h1 := h.below hb1
  have HD := take_yes h1.bag hlk
  have HX0 := Lib.hid (fun (W2 W4 : World) (hP : DropPost W1 p base room v (l.eraseIdx k) W2) (b4 : Below W2.heap.size W2 W4) => take_then h1 hdk hlk hkn (hb1.mono hbz) hP b4)
  have HJ := Lib.hid (fun (W2 : World) (hP : DropPost W1 p base room v (l.eraseIdx k) W2) => (show W2.cell? ⟨w.heap.size, 1, none⟩ = some (.int .i64 (k : Int)) from by
    obtain ⟨_, _, ho, _⟩ := hP
    rw [World.cell?_of_block (ho.block w.heap.size hW.lt fun hx => Nat.lt_irrefl _ (hlt _ hx))]
    exact hW.cell 1))
  have HS := Lib.hid (fun (W2 : World) (hP : DropPost W1 p base room v (l.eraseIdx k) W2) => (show w.heap.size < W2.heap.size from by
    obtain ⟨_, _, ho, _⟩ := hP
    exact Nat.lt_of_lt_of_le hW.lt ho.size))
  have k0 := hW.cell 0
  have k1 := hW.cell 1
  simp only [List.getElem?_cons_succ, List.getElem?_cons_zero] at k0 k1
  have hki : (k : Int) < (n : Int) := by omega
  have hes : m.es.length ≤ 1000000 := by have := hsm.1; omega
  clear h hb1 hW hlt h1 hdk hlk hsm hm0 hbz hkn
  go_enter Try.func11, Try.ntmps11
  go_upto_region 1 with fail
  clear hW1
  go_upto_region 15 with (first | (go_at_call 21; refine HD.mono ?_; rintro x W2 ⟨rfl, hP⟩; obtain ⟨W3, a3, n3, hst⟩ := alloc_new W2; obtain ⟨W4, st4, n4⟩ := hst m e he1; have HN4 := Lib.hid n4; have HP := Lib.hid hP; clear hP n3 hst n4) | (refine wpList_alloc_run a3 rfl rfl ?_) | (refine wpList_store_run st4 rfl _ _ rfl rfl rfl ?_))
  have j1 : W4.cell? ⟨w.heap.size, 1, none⟩ = some (.int .i64 (k : Int)) := (HN4.out.below.cell (p := ⟨w.heap.size, 1, none⟩) (HS.out W2 HP.out)).trans (HJ.out W2 HP.out)
  have LK := Lib.hid (fun (W : World) (h : Below W4.heap.size W4 W) => (h.cell (p := ⟨w.heap.size, 1, none⟩) (Nat.lt_of_lt_of_le (HS.out W2 HP.out) HN4.out.below.size)).trans j1)
  have LX := Lib.hid (fun (W : World) (h : Below W4.heap.size W4 W) => load_box (HN4.out.whole.below h))
  obtain ⟨b, off, rfl, ly, hx, hy, hw⟩ := HX0.out W2 W4 HP.out HN4.out.below
  have LY := Lib.hid ly
  have HX := Lib.hid hx
  have HY := Lib.hid hy
  have HW := Lib.hid hw
  clear HX0 HJ HP HN4 HS k0 k1 HD a3 st4 he1 ly hx hy hw
  go_upto_region 17 with fail
  clear j1
  have ew : ∀ args w, (callFunc 25 args).run Try.prog w = .ok (.enter 25 args) w := enters_of Try.func25 (by kernel_rfl) rfl
  have es : ∀ args w, (callFunc 18 args).run Try.prog w = .ok (.enter 18 args) w := enters_of Try.func18 (by kernel_rfl) rfl
  have mixed : Try.prog.follows .mixedOrders = true := by kernel_rfl
  refine wp_region_held (S := Below W4.heap.size W4) mixed ?_
  have SS : Below W4.heap.size W4 W4.drew := (Below.refl _ _).drew
  refine h_take (i := 0) (d := 85) (v := .slice (some ⟨b, off, none⟩) n c) rfl rfl (by rfl) (by kernel_rfl) (by kernel_rfl) (by kernel_rfl) (fun _ _ _ h => h) SS (fun W h => rfl) ?_
  simp only [List.setIfInBounds_toArray, List.set_cons_zero, List.set_cons_succ]
  refine h_take (i := 1) (d := 86) (v := .pointer (some ⟨w.heap.size, 1, none⟩)) rfl rfl (by rfl) (by kernel_rfl) (by kernel_rfl) (by kernel_rfl) (fun _ _ _ h => h) SS (fun W h => by simp only [execOp]; go_simp) ?_
  simp only [List.setIfInBounds_toArray, List.set_cons_zero, List.set_cons_succ]
  refine h_take (i := 2) (d := 87) (v := .int .i64 (k : Int)) rfl rfl (by rfl) (by kernel_rfl) (by kernel_rfl) (by kernel_rfl) (fun _ _ _ h => h) SS (fun W h => by have z := LK.out W h; simp only [execOp]; go_simp) ?_
  simp only [List.setIfInBounds_toArray, List.set_cons_zero, List.set_cons_succ]
  refine h_take (i := 4) (d := 89) (v := .int .i64 0) rfl rfl (by rfl) (by kernel_rfl) (by kernel_rfl) (by kernel_rfl) (fun _ _ _ h => h) SS (fun W h => rfl) ?_
  simp only [List.setIfInBounds_toArray, List.set_cons_zero, List.set_cons_succ]
  refine h_take (i := 5) (d := 90) (v := .bool true) rfl rfl (by rfl) (by kernel_rfl) (by kernel_rfl) (by kernel_rfl) (fun _ _ _ h => h) SS (fun W h => exec_eql (u1 := .int .i64 0) (u2 := .int .i64 0) rfl rfl (eqr_sint _ Try.underlying25 _)) ?_
  simp only [List.setIfInBounds_toArray, List.set_cons_zero, List.set_cons_succ]
  refine h_call (i := 3) (d := 88) (vs := #[.slice (some ⟨b, off, none⟩) n c, .int .i64 (k : Int)]) ew rfl (by rfl) (by kernel_rfl) rfl (HW.out _ SS) ?_
  rintro x W6 ⟨r, rfl, b6, hr⟩
  have HR := Lib.hid hr
  clear hr
  refine ⟨_, rfl, SS.trans (b6.mono SS.size), ?_⟩
  simp only [List.setIfInBounds_toArray, List.set_cons_zero, List.set_cons_succ]
  replace SS : Below W4.heap.size W4 W6 := SS.trans (b6.mono SS.size)
  refine h_take (i := 6) (d := 91) (v := .bool true) rfl rfl (by rfl) (by kernel_rfl) (by kernel_rfl) (by kernel_rfl) (fun _ _ _ h => h) SS (fun W h => rfl) ?_
  simp only [List.setIfInBounds_toArray, List.set_cons_zero, List.set_cons_succ]
  refine h_take (i := 7) (d := 92) (v := mval m e) rfl rfl (by rfl) (by kernel_rfl) (by kernel_rfl) (by kernel_rfl) (fun _ _ _ h => h) SS (fun W h => exec_load (x := .pointer (some ⟨W2.heap.size, 0, none⟩)) rfl (LX.out W h)) ?_
  simp only [List.setIfInBounds_toArray, List.set_cons_zero, List.set_cons_succ]
  refine h_take (i := 8) (d := 93) (v := .slice (some ⟨b, off, none⟩) n c) rfl rfl (by rfl) (by kernel_rfl) (by kernel_rfl) (by kernel_rfl) (fun _ _ _ h => h) SS (fun W h => rfl) ?_
  simp only [List.setIfInBounds_toArray, List.set_cons_zero, List.set_cons_succ]
  refine h_take (i := 9) (d := 94) (v := .pointer (some ⟨w.heap.size, 1, none⟩)) rfl rfl (by rfl) (by kernel_rfl) (by kernel_rfl) (by kernel_rfl) (fun _ _ _ h => h) SS (fun W h => by simp only [execOp]; go_simp) ?_
  simp only [List.setIfInBounds_toArray, List.set_cons_zero, List.set_cons_succ]
  refine h_take (i := 10) (d := 95) (v := .int .i64 (k : Int)) rfl rfl (by rfl) (by kernel_rfl) (by kernel_rfl) (by kernel_rfl) (fun _ _ _ h => h) SS (fun W h => by have z := LK.out W h; simp only [execOp]; go_simp) ?_
  simp only [List.setIfInBounds_toArray, List.set_cons_zero, List.set_cons_succ]
  refine h_take (i := 11) (d := 96) (v := .pointer (some ⟨b, off + k * 23, none⟩)) rfl rfl (by rfl) (by kernel_rfl) (by kernel_rfl) (by kernel_rfl) (fun _ _ _ h => h) SS (fun W h => by simp only [execOp]; go_simp) ?_
  simp only [List.setIfInBounds_toArray, List.set_cons_zero, List.set_cons_succ]
  refine h_take (i := 12) (d := 97) (v := mval m e0) rfl rfl (by rfl) (by kernel_rfl) (by kernel_rfl) (by kernel_rfl) (fun _ _ _ h => h) SS (fun W h => exec_load (x := .pointer (some ⟨b, off + k * 23, none⟩)) rfl (LY.out W h)) ?_
  simp only [List.setIfInBounds_toArray, List.set_cons_zero, List.set_cons_succ]
  refine h_call (i := 13) (d := 98) (vs := #[mval m e, mval m e0]) es rfl (by rfl) (by kernel_rfl) rfl (refSame_any m m e e0 _ (HX.out _ SS) (HY.out _ SS) hes) ?_
  rintro x W7 ⟨rfl, b7⟩
  refine ⟨_, rfl, SS.trans (b7.mono SS.size), ?_⟩
  simp only [List.setIfInBounds_toArray, List.set_cons_zero, List.set_cons_succ]
  replace SS : Below W4.heap.size W4 W7 := SS.trans (b7.mono SS.size)
  try rw [decide_eq_true (rfl : m = m)]
  refine h_take (i := 14) (d := 99) (v := .bool true) rfl rfl (by rfl) (by kernel_rfl) (by kernel_rfl) (by kernel_rfl) (fun _ _ _ h => h) SS (fun W h => by simp only [execOp]; go_simp) ?_
  simp only [List.setIfInBounds_toArray, List.set_cons_zero, List.set_cons_succ]
  refine h_take (i := 15) (d := 8) (v := r) rfl rfl (by rfl) (by kernel_rfl) (by kernel_rfl) (by kernel_rfl) (fun _ _ _ h => h) SS (fun W h => rfl) ?_
  simp only [List.setIfInBounds_toArray, List.set_cons_zero, List.set_cons_succ]
  refine h_take (i := 16) (d := 9) (v := .bool true) rfl rfl (by rfl) (by kernel_rfl) (by kernel_rfl) (by kernel_rfl) (fun _ _ _ h => h) SS (fun W h => rfl) ?_
  simp only [List.setIfInBounds_toArray, List.set_cons_zero, List.set_cons_succ]
  refine wpAnyH_done (by kernel_rfl) ?_ _
  have HF := Lib.hid (HR.out _ b7)
  clear SS b6 b7 LX LY LK HX HY HW HR ew es mixed hes
  go_wp2
  refine bodyPost_ret (results_tmp2 rfl _ _ _) rfl ?_
  exact HF.out
end Go.Proofs.Ytgkhjmdghmpfcaa
