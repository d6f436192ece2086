/-
  The law TopRegion, walked.
-/
import Derived.Test.YtkbggbgnnllmjaaGreatDoorMg39
namespace Go.Proofs.YtkbggbgnnllmjaaGreatDoor
open Go.RowKit

theorem doneH_od {h : Hp} (o : Opn) : (doneH h o).1.od = h.od := by
  unfold doneH
  split
  · unfold allocH
    repeat' split
    all_goals rfl
  · split
    · split
      · rfl
      · unfold objH freeH
        repeat' split
        all_goals rfl
    · split
      · unfold topH
        repeat' split
        all_goals rfl
      · rfl
theorem cell_block {w w' : World} {p : Addr} (h : w'.heap[p.block]? = w.heap[p.block]?) : w'.cell? p = w.cell? p := by
  unfold World.cell?
  rw [h]
theorem gb_cell {w w' : World} {h : Nat} {p : Addr} {v : Value} (g : w.grownBy w' (some h)) (hl : p.block < w.heap.size) (hne : p.block ≠ h) (hc : w.cell? p = some v) : w'.cell? p = some v :=
  (cell_block (g.block p.block hl fun e => hne (by injection e))).trans hc
theorem gb_drew {w w' : World} {h : Nat} (g : w.grownBy w' (some h)) : w.grownBy w'.drew (some h) := grown_trans g (grown_below (Below.refl _ _).drew _)
theorem gb_refl (w : World) (h : Nat) : w.grownBy w (some h) := grown_refl w _
/-- Between the operations. -/
def TrRel (w : World) (p5 : Nat) (r : Int) (m : Nat) (i : Value) (wr : World) : Prop :=
  ∃ (k : Nat) (H : Hp) (s : HSl), k ≤ m ∧ i = .int .i64 (k : Int) ∧ RightH H ∧ H.od = r ∧ RdH wr s H ∧ Whole wr p5 26 (hcs H s) ∧ Below w.heap.size w wr
/-- Between the objects. -/
def TbRel (W : World) (r : Int) (H : Hp) (g h : Nat) (u i : Value) (wr : World) : Prop :=
  ∃ (k : Nat) (mm : List Bool), k ≤ H.obs.length ∧ u = .int .i64 (sumL ((H.obs.take k).map Ob.bl)) ∧ i = .int .i64 (k : Int) ∧ Mapped r ((H.obs.take k).map Ob.bl) mm ∧ MapAt wr g h mm ∧ Below W.heap.size W wr
/-- Between the free blocks. -/
def TfRel (W : World) (r : Int) (H : Hp) (g h : Nat) (i : Value) (wr : World) : Prop :=
  ∃ (k : Nat) (mm : List Bool), k ≤ H.fr.length ∧ i = .int .i64 (k : Int) ∧ Mapped r (H.obs.map Ob.bl ++ H.fr.take k) mm ∧ MapAt wr g h mm ∧ Below W.heap.size W wr
/-- A count, in a world that grows. -/
def TgRel (n : Nat) (W : World) (i : Value) (wr : World) : Prop := ∃ k : Nat, k ≤ n ∧ i = .int .i64 (k : Int) ∧ Grew W wr
theorem tr_store {w wc : World} {p5 : Nat} {X' : Hp} {s' : HSl} {os' : List (Ob × OSl)} {a0 a1 a2 a3 a4 a5 a6 a7 : Value} (O' : OwnHp wc w.heap.size s' os' X') (K5 : Whole wc p5 26 [a0, a1, a2, a3, a4, a5, a6, a7]) (BW : Below w.heap.size w wc) (h5 : w.heap.size ≤ p5) :
    RdH (set8 wc p5 X' s') s' X' ∧ Whole (set8 wc p5 X' s') p5 26 (hcs X' s') ∧ Below w.heap.size w (set8 wc p5 X' s') := by
  obtain ⟨k1, gs⟩ := set8_any (H := X') (s := s') K5
  exact ⟨(O'.other K5 gs).rd, k1, below_grown BW gs BW.size h5⟩
theorem tget_in {H : Hp} (h : H.tp.length = 4) {i : Nat} (hi : i < 4) : tget H i ∈ H.tp := by
  unfold tget
  rw [List.getD_eq_getElem?_getD, List.getElem?_eq_getElem (show i < H.tp.length by omega)]
  exact List.getElem_mem _
theorem obs_bl {H : Hp} {k : Nat} {x : Ob} (h : H.obs[k]? = some x) : (H.obs.take (k + 1)).map Ob.bl = (H.obs.take k).map Ob.bl ++ [x.bl] := by
  rw [take_snocI h, List.map_append]
  rfl

set_option maxRecDepth 100000 in
set_option maxHeartbeats 8000000 in
theorem region_walk (r : Int) (A : Option Addr) (m c : Nat) (w : World) (hT : Tab w) (h : IsOps w A m) :
    Calls Tryz.prog 10 #[.int .i64 r, .slice A m c] w (Tells w (.bool true)) := by
  obtain ⟨l, hl⟩ := h
  have HT := Lib.hid hT
  have HL := Lib.hid hl
  have S1 := new_heap r w
  unfold NewPost at S1
  obtain ⟨H0, hH0⟩ : ∃ H0, H0 = newR r := ⟨_, rfl⟩
  obtain ⟨e0, he0⟩ : ∃ e0, e0 = newE r := ⟨_, rfl⟩
  rw [← hH0, ← he0] at S1
  have HH0 := Lib.hid hH0
  have HE0 := Lib.hid he0
  clear hT hl hH0 he0
  go_enter Tryz.func10, Tryz.ntmps10
  go_upto_region 2 with (go_at_call 25; refine S1.mono ?_; rintro e w1 ⟨⟨A1, n1, c1, F1, m1, d1⟩, rfl, o1, b1⟩; simp only [hval, hcs])
  obtain ⟨p5, W, hW, hp, K, bw⟩ := box_heap w1 (.int .i64 H0.od) (.slice A1 n1 c1) (.int .i64 H0.nx) (.int .i64 (tget H0 0)) (.int .i64 (tget H0 1)) (.int .i64 (tget H0 2)) (.int .i64 (tget H0 3)) (.slice F1 m1 d1)
  rw [hW, ← hp]
  have B1 := Lib.hid (b1.trans (bw.mono b1.size))
  have R1 := Lib.hid (o1.rd.below bw)
  have K1 := Lib.hid K
  have Hp5 := Lib.hid (show w.heap.size ≤ p5 by rw [hp]; exact b1.size)
  have SG := Lib.hid fun (W' : World) (b : Below w.heap.size w W') => grows_any W' (HT.out.below b)
  clear S1 hW hp K bw o1 b1
  by_cases hm : m ≤ 60
  case neg =>
    go_wp2_with (first
      | (go_at_call 26; refine (topOver_big A m c _ hm).mono ?_; rintro e w2 ⟨rfl, rfl⟩)
      | (go_at_call 27; refine (SG.out _ B1.out).mono ?_; rintro e w3 ⟨rfl, b3⟩))
    go_ret
    exact ⟨rfl, B1.out.trans (b3.mono B1.out.size)⟩
  by_cases hr : 3 ≤ r ∧ r ≤ 8
  case neg =>
    have he : e0 = 1 := by rw [HE0.out]; exact if_neg hr
    subst he
    go_wp2_with (first
      | (go_at_call 26; refine (topOver_any A m c _ hm).mono ?_; rintro e w2 ⟨rfl, rfl⟩)
      | (go_at_call 27; refine (SG.out _ B1.out).mono ?_; rintro e w3 ⟨rfl, b3⟩))
    go_ret
    exact ⟨rfl, B1.out.trans (b3.mono B1.out.size)⟩
  have he : e0 = 0 := by rw [HE0.out]; exact if_pos hr
  subst he
  have hH : H0 = newH r := by rw [HH0.out]; exact if_pos hr
  have hR0 := right_newH hr
  rw [← hH] at hR0
  have hod0 : H0.od = r := by rw [hH]; rfl
  have ST := Lib.hid (show TrRel w p5 r m (.int .i64 0) W from ⟨0, H0, ⟨A1, n1, c1, F1, m1, d1⟩, Nat.zero_le _, rfl, hR0, hod0, R1.out, K1.out, B1.out⟩)
  have hr8 := hr.2
  have hr3 := hr.1
  have hs0 := sz_pos r
  have hs1 := sz_le256 (o := r) (by omega) hr8
  obtain ⟨k0, hk0⟩ := Int.eq_ofNat_of_zero_le (Int.le_of_lt hs0)
  have hmp := mapped_nil r
  rw [hk0, Int.toNat_natCast] at hmp
  have SW := fun W => words_any r W
  rw [wordsI_in (by omega) hr8, hk0] at SW
  have SN := fun W => new_yes k0 W (by omega)
  have HSW := Lib.hid SW
  have HSN := Lib.hid SN
  have Hmp := Lib.hid hmp
  have Hk0 := Lib.hid hk0
  have hk256 : k0 ≤ 256 := by omega
  have mixed := mixedP
  clear hR0 hod0 hH HH0 HE0 R1 K1 hs0 hs1 hk0 hmp SW SN hr
  go_upto_region 5 with (go_at_call 26; refine (topOver_any A m c _ hm).mono ?_; rintro e w2 ⟨rfl, rfl⟩)
  go_loopw [7] (TrRel w p5 r m) (fun i _ => m - (intOf i).toNat)
  case atStart => exact ST.out
  case round =>
    clear ST B1
    obtain ⟨k, H, s, hk, rfl, hR, hod, rd, K5, bw⟩ := hrel
    by_cases hlt : k < m
    case neg =>
      obtain rfl : k = m := by omega
      have B2 := Lib.hid bw
      clear hR hod rd K5 bw
      go_wp2_with (go_at_call 27; refine (SG.out _ B2.out).mono ?_; rintro e w3 ⟨rfl, b3⟩)
      go_ret
      exact ⟨rfl, B2.out.trans (b3.mono B2.out.size)⟩
    obtain ⟨bp, off, o, rfl, hbl, ho, hcells⟩ := (HL.out.below bw).get hlt
    obtain ⟨ok, oh, oi, on, okk, ov, ot⟩ := o
    obtain ⟨z0, z1, z2, z3, z4, z5, z6⟩ : _ ∧ _ ∧ _ ∧ _ ∧ _ ∧ _ ∧ _ := ⟨hcells 0 (.int .i64 ok) rfl, hcells 1 (.int .i64 oh) rfl, hcells 2 (.int .i64 oi) rfl, hcells 3 (.int .i64 on) rfl, hcells 4 (.int .i64 okk) rfl, hcells 5 (.int .i64 ov) rfl, hcells 6 (.int .i64 ot) rfl⟩
    simp only [Nat.add_zero] at z0
    obtain ⟨A5, n5, c5, F5, m5, d5⟩ := s
    have S := Lib.hid fun (W' : World) (b : Below wr.heap.size wr W') => (by
      have h1 := do_heap ⟨A5, n5, c5, F5, m5, d5⟩ H ⟨ok, oh, oi, on, okk, ov, ot⟩ W' (rd.below b) (right_small hR) (HT.out.below (bw.trans (b.mono bw.size)))
      rw [doH_right hR] at h1
      exact h1 : Calls Tryz.prog 13 #[hval H ⟨A5, n5, c5, F5, m5, d5⟩, opv ⟨ok, oh, oi, on, okk, ov, ot⟩] W' (InPost W' W'.heap.size (doneH H ⟨ok, oh, oi, on, okk, ov, ot⟩)))
    have hR2 := (doneH_right hR ⟨ok, oh, oi, on, okk, ov, ot⟩).1
    have hod2 := doneH_od (h := H) ⟨ok, oh, oi, on, okk, ov, ot⟩
    rw [hod] at hod2
    generalize doneH H ⟨ok, oh, oi, on, okk, ov, ot⟩ = rr at S hR2 hod2
    obtain ⟨H', rc, rv⟩ := rr
    simp only at hR2 hod2
    simp only [hval, hcs, opv, opcs] at S K5
    have HR2 := Lib.hid hR2
    have Hod2 := Lib.hid hod2
    have HKP := Lib.hid K5
    have HBW := Lib.hid bw
    have Hbl := Lib.hid hbl
    have hki : (k : Int) < (m : Int) := by omega
    clear hR hod rd K5 bw hR2 hod2 hcells ho hbl
    have mkS := Lib.hid fun (W : World) (bl : Below wr.heap.size wr W) => (by
      obtain ⟨e0, e1, e2, e3, e4, e5, e6, e7⟩ := (HKP.out.below bl).eight
      exact ⟨e0, e1, e2, e3, e4, e5, e6, e7, (bl.cell (p := ⟨bp, off + k * 7, none⟩) Hbl.out).trans z0, (bl.cell (p := ⟨bp, off + k * 7 + 1, none⟩) Hbl.out).trans z1, (bl.cell (p := ⟨bp, off + k * 7 + 2, none⟩) Hbl.out).trans z2, (bl.cell (p := ⟨bp, off + k * 7 + 3, none⟩) Hbl.out).trans z3, (bl.cell (p := ⟨bp, off + k * 7 + 4, none⟩) Hbl.out).trans z4, (bl.cell (p := ⟨bp, off + k * 7 + 5, none⟩) Hbl.out).trans z5, (bl.cell (p := ⟨bp, off + k * 7 + 6, none⟩) Hbl.out).trans z6⟩ : W.cell? ⟨p5, 0, none⟩ = some (.int .i64 H.od) ∧ W.cell? ⟨p5, 1, none⟩ = some (.slice A5 n5 c5) ∧ W.cell? ⟨p5, 2, none⟩ = some (.int .i64 H.nx) ∧ W.cell? ⟨p5, 3, none⟩ = some (.int .i64 (tget H 0)) ∧ W.cell? ⟨p5, 4, none⟩ = some (.int .i64 (tget H 1)) ∧ W.cell? ⟨p5, 5, none⟩ = some (.int .i64 (tget H 2)) ∧ W.cell? ⟨p5, 6, none⟩ = some (.int .i64 (tget H 3)) ∧ W.cell? ⟨p5, 7, none⟩ = some (.slice F5 m5 d5) ∧ W.cell? ⟨bp, off + k * 7, none⟩ = some (.int .i64 ok) ∧ W.cell? ⟨bp, off + k * 7 + 1, none⟩ = some (.int .i64 oh) ∧ W.cell? ⟨bp, off + k * 7 + 2, none⟩ = some (.int .i64 oi) ∧ W.cell? ⟨bp, off + k * 7 + 3, none⟩ = some (.int .i64 on) ∧ W.cell? ⟨bp, off + k * 7 + 4, none⟩ = some (.int .i64 okk) ∧ W.cell? ⟨bp, off + k * 7 + 5, none⟩ = some (.int .i64 ov) ∧ W.cell? ⟨bp, off + k * 7 + 6, none⟩ = some (.int .i64 ot))
    clear z0 z1 z2 z3 z4 z5 z6
    go_upto_region 7 with (fail)
    go_cut [8, 9] (BxRel w.heap.size wr H' rc rv)
    case first =>
      repeat (rename ∀ (a : Act) (w : World), Code.wp _ _ _ a w → _ => hh; clear hh)
      go_region_held3 (fun W => W.cell? ⟨p5, 0, none⟩ = some (.int .i64 H.od) ∧ W.cell? ⟨p5, 1, none⟩ = some (.slice A5 n5 c5) ∧ W.cell? ⟨p5, 2, none⟩ = some (.int .i64 H.nx) ∧ W.cell? ⟨p5, 3, none⟩ = some (.int .i64 (tget H 0)) ∧ W.cell? ⟨p5, 4, none⟩ = some (.int .i64 (tget H 1)) ∧ W.cell? ⟨p5, 5, none⟩ = some (.int .i64 (tget H 2)) ∧ W.cell? ⟨p5, 6, none⟩ = some (.int .i64 (tget H 3)) ∧ W.cell? ⟨p5, 7, none⟩ = some (.slice F5 m5 d5) ∧ W.cell? ⟨bp, off + k * 7, none⟩ = some (.int .i64 ok) ∧ W.cell? ⟨bp, off + k * 7 + 1, none⟩ = some (.int .i64 oh) ∧ W.cell? ⟨bp, off + k * 7 + 2, none⟩ = some (.int .i64 oi) ∧ W.cell? ⟨bp, off + k * 7 + 3, none⟩ = some (.int .i64 on) ∧ W.cell? ⟨bp, off + k * 7 + 4, none⟩ = some (.int .i64 okk) ∧ W.cell? ⟨bp, off + k * 7 + 5, none⟩ = some (.int .i64 ov) ∧ W.cell? ⟨bp, off + k * 7 + 6, none⟩ = some (.int .i64 ot)) (((with_reducible refine mkS.out _ ?_); first | ((repeat (first | (with_reducible refine bel_alloc ?_ _) | (with_reducible refine Below.setCell ?_ (by dsimp only; first | omega | (simp; omega)) _) | (with_reducible refine Below.drew ?_))); first | (with_reducible exact Below.refl _ _) | (with_reducible exact HB5.out)) | ((repeat (first | (with_reducible refine bel_alloc ?_ _) | (with_reducible refine Below.setCell ?_ (by dsimp only; first | omega | (simp; omega)) _) | (with_reducible refine Below.drew ?_))); first | (with_reducible exact Below.refl _ _) | (with_reducible exact trivial)))) ((go_at_call 13; (with_reducible refine Calls.mono (S.out _ (by ((repeat (first | (with_reducible refine bel_alloc ?_ _) | (with_reducible refine Below.setCell ?_ (by dsimp only; first | omega | (simp; omega)) _) | (with_reducible refine Below.drew ?_))); first | (with_reducible exact Below.refl _ _) | (with_reducible exact trivial)))) ?_); rintro e w5 ⟨⟨A6, n6, c6', F6, k6, d6⟩, os6, rfl, O6, b6⟩; simp only [hval, hcs]; have hV := Lib.hid (bel_is (w := wr) (by ((repeat (first | (with_reducible refine bel_alloc ?_ _) | (with_reducible refine Below.setCell ?_ (by dsimp only; first | omega | (simp; omega)) _) | (with_reducible refine Below.drew ?_))); first | (with_reducible exact Below.refl _ _) | (with_reducible exact trivial))) b6); have HB5 := Lib.hid (hV.out.trans (b6.mono hV.out.size)); have hz5 := HB5.out.size; (try (have V6 := whole_is (t := 26) (cs := zcs) (by ((repeat (first | ((with_reducible apply whole_new'); rfl) | (with_reducible apply Whole.alloc) | (with_reducible apply Whole.drew))); first | done | (with_reducible exact trivial))) b6; (try simp only [size_alloc] at V6); have HV6 := Lib.hid V6; have M6 := V6.below b6; obtain ⟨m0, m1, m2, m3, m4, m5, m6, m7⟩ := M6.eight; have mf := M6.free; have ml := M6.lt; have mn := Nat.ne_of_lt M6.lt; have mn' := (Nat.ne_of_lt M6.lt).symm; have m0A := fun o => Lib.cell?_alloc_some o m0; have m1A := fun o => Lib.cell?_alloc_some o m1; have m2A := fun o => Lib.cell?_alloc_some o m2; have m3A := fun o => Lib.cell?_alloc_some o m3; have m4A := fun o => Lib.cell?_alloc_some o m4; have m5A := fun o => Lib.cell?_alloc_some o m5; have m6A := fun o => Lib.cell?_alloc_some o m6; have m7A := fun o => Lib.cell?_alloc_some o m7; have mfA := fun (o : Obj) j => (M6.alloc o).free j; clear M6 V6)); (try (have V7 := whole_is (t := 34) (cs := rcs) (by ((repeat (first | ((with_reducible apply whole_new'); rfl) | (with_reducible apply Whole.alloc) | (with_reducible apply Whole.drew))); first | done | (with_reducible exact trivial))) b6; (try simp only [size_alloc] at V7); have HV7 := Lib.hid V7; have M7 := V7.below b6; obtain ⟨q0, q1⟩ := M7.two'; have qf := M7.free; have ql := M7.lt; have qn := Nat.ne_of_lt M7.lt; have qn' := (Nat.ne_of_lt M7.lt).symm; have q0A := fun o => Lib.cell?_alloc_some o q0; have q1A := fun o => Lib.cell?_alloc_some o q1; have qfA := fun (o : Obj) j => (M7.alloc o).free j; clear M7 V7)); (try (have hbb := box_beside (HV6.out.below b6) (b0 := .int .i64 0) (b1 := .int .i64 0) (HV7.out.below b6); have qs0 := hbb.1; have qs1 := hbb.2.1; have qsf := hbb.2.2; clear hbb))))
      · go_wp2_with fail
        go_meet
        exact bx_a1 HBW.out.size hV.out O6 b6
      · go_wp2_with fail
        go_meet
        exact bx_a2 HBW.out.size hV.out O6 b6
      · go_wp2_with fail
        go_meet
        have hb := bx_b (rc := rc) (rv := rv) HBW.out.size hV.out O6 b6 HV6.out (by omega); (try unfold set2 at hb); (try unfold set8 at hb); (try simp only at hb); exact hb
      · go_wp2_with fail
        go_meet
        have hb := bx_d (rc := rc) (rv := rv) HBW.out.size hV.out O6 b6 HV6.out (by omega) HV7.out (by omega) (by omega); (try unfold set2 at hb); (try unfold set8 at hb); (try simp only at hb); exact hb
      · go_wp2_with fail
        go_meet
        have hb := bx_c (rc := rc) (rv := rv) HBW.out.size hV.out O6 b6 HV7.out (by omega); (try unfold set2 at hb); (try unfold set8 at hb); (try simp only [hcs] at hb); exact hb
      · go_wp2_with fail
        go_meet
        have hb := bx_d (rc := rc) (rv := rv) HBW.out.size hV.out O6 b6 HV6.out (by omega) HV7.out (by omega) (by omega); (try unfold set2 at hb); (try unfold set8 at hb); (try simp only at hb); exact hb
    case rest =>
      obtain ⟨s', os', p8, p9, rfl, rfl, O', K8, K9, bl⟩ := hcut
      obtain ⟨A7, n7, c7, F7, m7, d7⟩ := s'
      have k5 := HKP.out.below bl
      have hb := HBW.out.trans (bl.mono HBW.out.size)
      have K8' := K8
      simp only [hcs] at K8'
      obtain ⟨y0, y1, y2, y3, y4, y5, y6, y7⟩ := K8'.eight
      obtain ⟨t0, t1, t2, t3, t4, t5, t6, t7⟩ := k5.eight
      have tf := k5.free
      obtain ⟨rx, kx, bx⟩ := tr_store O' k5 hb Hp5.out
      unfold set8 at rx kx bx
      simp only [hcs] at rx kx bx
      have HRX := Lib.hid rx
      have HKX := Lib.hid kx
      have HBX := Lib.hid bx
      clear O' K8 K8' K9 bl k5 hb rx kx bx S HKP HBW mkS
      go_upto_region 9 with (fail)
      clear y0 y1 y2 y3 y4 y5 y6 y7 t0 t1 t2 t3 t4 t5 t6 t7 tf
      generalize ((((((((wc.setCell ⟨p5, 0, none⟩ _).setCell ⟨p5, 1, none⟩ _).setCell ⟨p5, 2, none⟩ _).setCell ⟨p5, 3, none⟩ _).setCell ⟨p5, 4, none⟩ _).setCell ⟨p5, 5, none⟩ _).setCell ⟨p5, 6, none⟩ _).setCell ⟨p5, 7, none⟩ _) = W8 at HRX HKX HBX ⊢
      have hn7 : n7 ≤ 1000 := by have h1 := HRX.out.obs.len; have h2 := HR2.out.len; simp only at h1; omega
      have hm7 : m7 ≤ 1000 := by have h1 := HRX.out.fr.len; have h2 := HR2.out.fr.len256; simp only at h1; omega
      have hall := HR2.out.all
      rw [Hod2.out] at hall
      have Hall := Lib.hid hall
      clear hall
      go_upto_region 12 with (first
        | (go_at_call 24; refine (HSW.out _).mono ?_; rintro e w9 ⟨rfl, rfl⟩)
        | (go_at_call 28; refine (HSN.out _).mono ?_; rintro e w9 ⟨g, h, rfl, mA, hg, hh, b9⟩))
      have ST2 := Lib.hid (show TbRel W8 r H' g h (.int .i64 0) (.int .i64 0) w9 from ⟨0, _, Nat.zero_le _, by simp [sumL], rfl, Hmp.out, mA, b9⟩)
      have Hhh := Lib.hid hh
      clear mA hg hh b9
      go_upto_region 14 with (fail)
      go_loopw [12, 13] (TbRel W8 r H' g h) (fun _ i _ => n7 - (intOf i).toNat)
      case atStart => exact ST2.out
      case round =>
        clear ST2
        obtain ⟨q, mm, hq, rfl, rfl, hM, mA, bw⟩ := hrel
        have hqn : q ≤ n7 := by have := HRX.out.obs.len; simp only at this; omega
        clear hq
        have kx := HKX.out.below bw
        have x1 := kx.cell 1
        simp only [List.getElem?_cons_succ, List.getElem?_cons_zero] at x1
        by_cases hqlt : q < n7
        · obtain ⟨bo, oo, x, hA7, hbo, hx, A8, n8, c8, A9, n9, c9, h0, h1, h2, h3, h4, hws, hls⟩ := HRX.out.obs.get hqlt
          simp only at hA7
          subst hA7
          have z1 := (bw.cell (p := ⟨bo, oo + q * 5 + 1, none⟩) hbo).trans h1
          have z2 := (bw.cell (p := ⟨bo, oo + q * 5 + 2, none⟩) hbo).trans h2
          have z3 := (bw.cell (p := ⟨bo, oo + q * 5 + 3, none⟩) hbo).trans h3
          have z4 := (bw.cell (p := ⟨bo, oo + q * 5 + 4, none⟩) hbo).trans h4
          have hqi : (q : Int) < (n7 : Int) := by omega
          have hokx := HR2.out.ok x (List.mem_of_getElem? hx)
          obtain ⟨_, _, hneed, hMay, hlead⟩ := hokx
          rw [Hod2.out] at hMay
          obtain ⟨p1, p2, p3⟩ := hM.put hMay
          have hin := needI_in (w := x.ws.length) (l := x.ls.length) (by rw [hneed]; exact hMay.1)
          have hfit := needI_fits (w := x.ws.length) (l := x.ls.length) (by rw [hneed]; exact hMay.1)
          rw [hneed, hws.len, hls.len] at hfit
          rw [hws.len, hls.len] at hin
          have hbox := may_box hr8 hMay
          have hz2 := sz_le256 hbox.1.1 hbox.1.2
          have SZ := fun W => words_any x.bl.2 W
          rw [wordsI_in hbox.1.1 hbox.1.2] at SZ
          have hsb := sumL_bound ((H'.obs.take q).map Ob.bl) fun b hb => (by
            obtain ⟨y, hy, rfl⟩ := List.mem_map.1 hb
            have := (HR2.out.ok y (List.mem_of_mem_take hy)).2.2.2.1
            rw [Hod2.out] at this
            exact (may_box hr8 this).1)
          have htl : ((H'.obs.take q).map Ob.bl).length ≤ 1000 := by rw [List.length_map, List.length_take]; have := HR2.out.len; omega
          have hst := Lib.hid (show sumL ((H'.obs.take (q + 1)).map Ob.bl) = sumL ((H'.obs.take q).map Ob.bl) + sz x.bl.2 by rw [obs_bl hx, sumL_snoc])
          have Hobl := Lib.hid (obs_bl hx)
          have hMa := hMay.2.2.2.1
          have Hlead := Lib.hid hlead
          have Hls := Lib.hid hls
          have Hx := Lib.hid hx
          have Hp3 := Lib.hid p3
          obtain ⟨xh, ⟨xa, xo⟩, xw, xl⟩ := x
          simp only at *
          obtain ⟨sm, hsm⟩ : ∃ sm, sm = sumL ((H'.obs.take q).map Ob.bl) := ⟨_, rfl⟩
          obtain ⟨z, hz⟩ : ∃ z, z = sz xo := ⟨_, rfl⟩
          rw [← hsm] at hsb hst ⊢
          have P := fun W (b : Below wr.heap.size wr W) => put_any g h mm xa (sz xo) true W (mA.below b) (by omega)
          rw [p2] at P
          rw [← hz] at SZ hz2 hst P hfit Hp3
          have hz0 : 0 < z := by rw [hz]; exact sz_pos xo
          have hsb2 : sm ≤ 256000 := by omega
          have hsb1 := hsb.1
          have HMA := Lib.hid mA
          have HKX2 := Lib.hid kx
          have HBW2 := Lib.hid bw
          have Hbo8 := Lib.hid hbo
          have H4 := Lib.hid h4
          have Hbo := Lib.hid (show bo < wr.heap.size from Nat.lt_of_lt_of_le hbo bw.size)
          have Hboh := Lib.hid (show bo ≠ h by have := Hhh.out; omega)
          have hp5h : p5 ≠ h := by have := HKX.out.lt; have := Hhh.out; omega
          clear hsm hz hws hls hx hM mA kx bw h0 h1 h2 h3 h4 hneed hMay hlead p1 p2 p3 hbox hsb htl hbo
          go_upto_region 17 with (fail)
          have ba := (Below.refl wr.heap.size wr).alloc (Nat.le_refl _) (.cells #[.int .i64 xa, .int .i64 xo] 49)
          have KB := Whole.new wr #[.int .i64 xa, .int .i64 xo] 49
          obtain ⟨kb, hkb⟩ : ∃ kb, kb = wr.heap.size := ⟨_, rfl⟩
          rw [← hkb] at KB ⊢
          have HKB := Lib.hid KB
          have Hba := Lib.hid ba
          have hkbh : kb ≠ h := by have := HMA.out.lt; omega
          clear hkb KB ba z1 z2
          generalize wr.alloc (.cells _ 49) = Wb at HKB Hba ⊢
          have P2 := Lib.hid fun W (b : Below Wb.heap.size Wb W) => P W (Hba.out.trans (b.mono Hba.out.size))
          have mkS2 := Lib.hid fun (W : World) (gb : Wb.grownBy W (some h)) => (by
            have x1 := ((HKX2.out.below Hba.out).grown gb hp5h).cell 1
            have y := (HKB.out.grown gb hkbh).two
            exact ⟨y.1, y.2, x1, gb_cell gb (Nat.lt_of_lt_of_le Hbo.out Hba.out.size) Hboh.out ((Hba.out.cell (p := ⟨bo, oo + q * 5 + 3, none⟩) Hbo.out).trans z3), gb_cell gb (Nat.lt_of_lt_of_le Hbo.out Hba.out.size) Hboh.out ((Hba.out.cell (p := ⟨bo, oo + q * 5 + 4, none⟩) Hbo.out).trans z4)⟩ : W.cell? ⟨kb, 0, none⟩ = some (.int .i64 xa) ∧ W.cell? ⟨kb, 1, none⟩ = some (.int .i64 xo) ∧ W.cell? ⟨p5, 1, none⟩ = some (.slice (some ⟨bo, oo, none⟩) n7 c7) ∧ W.cell? ⟨bo, oo + q * 5 + 3, none⟩ = some (.slice A8 n8 c8) ∧ W.cell? ⟨bo, oo + q * 5 + 4, none⟩ = some (.slice A9 n9 c9))
          have hz9 : decide (z < IntKind.i64.wrap (IntKind.i64.wrap (1 + (n8 : Int)) + (n9 : Int))) = false := decide_eq_false (by rw [show IntKind.i64.wrap (1 + (n8 : Int)) = 1 + (n8 : Int) by rw [IntKind.wrap_i64]; omega, show IntKind.i64.wrap (1 + (n8 : Int) + (n9 : Int)) = 1 + (n8 : Int) + (n9 : Int) by rw [IntKind.wrap_i64]; omega]; omega)
          have Hz9 := Lib.hid hz9
          clear hz9
          clear P z3 z4 x1
          go_cut [101] (fun v wc => v = .bool false ∧ MapAt wc g h (putV mm xa z true) ∧ Wb.grownBy wc (some h))
          case first =>
            repeat (rename ∀ (a : Act) (w : World), Code.wp _ _ _ a w → _ => hh; clear hh)
            go_region_held3 (fun W => W.cell? ⟨kb, 0, none⟩ = some (.int .i64 xa) ∧ W.cell? ⟨kb, 1, none⟩ = some (.int .i64 xo) ∧ W.cell? ⟨p5, 1, none⟩ = some (.slice (some ⟨bo, oo, none⟩) n7 c7) ∧ W.cell? ⟨bo, oo + q * 5 + 3, none⟩ = some (.slice A8 n8 c8) ∧ W.cell? ⟨bo, oo + q * 5 + 4, none⟩ = some (.slice A9 n9 c9)) (((with_reducible refine mkS2.out _ ?_); ((repeat (with_reducible refine gb_drew ?_)); first | (with_reducible exact G6.out) | (with_reducible exact gb_refl _ _)))) ((first
              | (go_at_call 24; refine (SZ _).mono ?_; rintro e w10 ⟨rfl, rfl⟩)
              | (go_at_call 29; refine (P2.out _ (by ((repeat (first | (with_reducible refine bel_alloc ?_ _) | (with_reducible refine Below.setCell ?_ (by dsimp only; first | omega | (simp; omega)) _) | (with_reducible refine Below.drew ?_))); first | (with_reducible exact Below.refl _ _) | (with_reducible exact trivial)))).mono ?_; rintro e w10 ⟨rfl, m10, g10⟩; have G6 := Lib.hid (grown_trans (grown_below (w := Wb) (by ((repeat (first | (with_reducible refine bel_alloc ?_ _) | (with_reducible refine Below.setCell ?_ (by dsimp only; first | omega | (simp; omega)) _) | (with_reducible refine Below.drew ?_))); first | (with_reducible exact Below.refl _ _) | (with_reducible exact trivial))) (some h)) g10); have M6 := Lib.hid m10; clear m10 g10)))
            all_goals
              go_wp2_with fail
              go_meet
              exact ⟨by first | rfl | rw [Hz9.out], M6.out, G6.out⟩
          case rest =>
            obtain ⟨rfl, m10, g10⟩ := hcut
            have b10 := below_grown (HBW2.out.trans (Hba.out.mono HBW2.out.size)) g10 (Nat.le_trans HBW2.out.size Hba.out.size) Hhh.out
            obtain ⟨y0, y1⟩ := (HKB.out.grown g10 hkbh).two
            have HB10 := Lib.hid b10
            have HM10 := Lib.hid m10
            have HK10 := Lib.hid (HKX.out.below b10)
            have HZ10 := Lib.hid ((b10.cell (p := ⟨bo, oo + q * 5 + 4, none⟩) Hbo8.out).trans H4.out)
            have HL10 := Lib.hid (Hls.out.below b10)
            have Hbo10 := Lib.hid (show bo < wc.heap.size from Nat.lt_of_lt_of_le Hbo8.out b10.size)
            clear m10 g10 b10 P2 mkS2 HKB Hba
            go_upto_region 21 with (go_at_call 24; refine (SZ _).mono ?_; rintro e w11 ⟨rfl, rfl⟩)
            clear y0 y1
            go_loopw [15] (TgRel n9 wc) (fun i _ => n9 - (intOf i).toNat)
            case atStart => exact ⟨0, Nat.zero_le _, rfl, Grew.refl _⟩
            case round =>
              obtain ⟨j, hj, rfl, gr⟩ := hrel
              have kx := HK10.out.below gr.below
              try simp only [hcs] at kx
              obtain ⟨x0, x1, x2, x3, x4, x5, x6, x7⟩ := kx.eight
              have z4 := (gr.below.cell (p := ⟨bo, oo + q * 5 + 4, none⟩) Hbo10.out).trans HZ10.out
              have hpl := kx.lt
              have hbl2 := Nat.lt_of_lt_of_le Hbo10.out gr.below.size
              have Gr := Lib.hid gr
              by_cases hjl : j < n9
              · obtain ⟨bk, okk2, t, rfl, hbk, ht, hct⟩ := HL10.out.cell hjl
                have hld := Hlead.out t (List.mem_of_getElem? ht)
                have SL := Lib.hid fun (W : World) (G : Grew wr W) => (by
                  have h1 := topLeads_any ⟨some ⟨bo, oo, none⟩, n7, c7, F7, m7, d7⟩ H' t W (HRX.out.below (HB10.out.trans ((Gr.out.trans G).below.mono HB10.out.size))) hn7
                  rw [decide_eq_true hld] at h1
                  simp only [hval, hcs] at h1
                  exact h1 : Calls Tryz.prog 30 #[.agg #[.int .i64 H'.od, .slice (some ⟨bo, oo, none⟩) n7 c7, .int .i64 H'.nx, .int .i64 (tget H' 0), .int .i64 (tget H' 1), .int .i64 (tget H' 2), .int .i64 (tget H' 3), .slice F7 m7 d7], .int .i64 t] W (Says W (.bool true)))
                have zt := (gr.below.cell (p := ⟨bk, okk2 + j, none⟩) hbk).trans hct
                have v0 := cell_grown (a := ⟨p5, 0, none⟩) hpl x0
                have v1 := cell_grown (a := ⟨p5, 1, none⟩) hpl x1
                have v2 := cell_grown (a := ⟨p5, 2, none⟩) hpl x2
                have v3 := cell_grown (a := ⟨p5, 3, none⟩) hpl x3
                have v4 := cell_grown (a := ⟨p5, 4, none⟩) hpl x4
                have v5 := cell_grown (a := ⟨p5, 5, none⟩) hpl x5
                have v6 := cell_grown (a := ⟨p5, 6, none⟩) hpl x6
                have v7 := cell_grown (a := ⟨p5, 7, none⟩) hpl x7
                have v8 := cell_grown (a := ⟨bo, oo + q * 5 + 4, none⟩) hbl2 z4
                have v9 := cell_grown (a := ⟨bk, okk2 + j, none⟩) (Nat.lt_of_lt_of_le hbk gr.below.size) zt
                have hji : (j : Int) < (n9 : Int) := by omega
                clear x0 x2 x3 x4 x5 x6 x7 zt ht hct hld kx hpl hbl2 hbk gr
                go_upto_region 23 with (fail)
                refine wp_region_quiet_grown mixed (by kernel_rfl) ?_
                repeat (go_big_quiet_step ((go_at_call 30; exact calls_grown_says (SL.out _ ((Grew.refl wr).grow _ _)))))
                refine wpQuiet_nil ?_
                intro _ hw'
                obtain ⟨⟨nq, osq⟩, hw''⟩ := hw'
                subst hw''
                have G6 := (Grew.refl wr).grow nq osq
                generalize Go.Sort.grow (wr.drewN nq) osq = w12 at G6 ⊢
                clear v0 v1 v2 v3 v4 v5 v6 v7 v8 v9 SL x1 z4
                go_wp2
                go_roundw
                case rel => exact ⟨j + 1, by omega, by go_num, Gr.out.trans G6⟩
                case measure => simp [intOf]; omega
              · obtain rfl : j = n9 := by omega
                have HE := Lib.hid (show TbRel W8 r H' g h (.int .i64 (sm + z)) (.int .i64 ((q + 1 : Nat) : Int)) wr from ⟨q + 1, putV mm xa z true, by have := HRX.out.obs.len; simp only at this; omega, by rw [hst.out], rfl, by rw [Hobl.out]; exact Hp3.out, HM10.out.below gr.below, HB10.out.trans (gr.below.mono HB10.out.size)⟩)
                clear kx x0 x2 x3 x4 x5 x6 x7 hpl hbl2 hjl hj
                go_wp2
                go_roundw
                case rel => first | exact HE.out | (have h9 := HE.out; push_cast at h9; exact h9)
                case measure => simp [intOf]; omega
        · obtain rfl : q = n7 := by omega
          have hlen7 := HRX.out.obs.len
          have hlenf := HRX.out.fr.len
          simp only at hlen7 hlenf
          rw [List.take_of_length_le (by omega)] at hM ⊢
          have hMayA := Hall.out.1
          have hpwA := Hall.out.2.1
          unfold allB at hMayA hpwA
          have hcnt := Mapped.count' (fun b hb => hMayA b (List.mem_append_left _ hb)) (List.pairwise_append.1 hpwA).1 hM
          have SC := count_any g h mm wr mA
          rw [hcnt] at SC
          have ST3 := Lib.hid (show TfRel W8 r H' g h (.int .i64 ((0 : Nat) : Int)) wr from ⟨0, mm, Nat.zero_le _, rfl, by rw [List.take_zero, List.append_nil]; exact hM, mA, bw⟩)
          have Hlenf := Lib.hid hlenf
          have HPW := Lib.hid hpwA
          have HMYA := Lib.hid hMayA
          obtain ⟨us, hus⟩ : ∃ us, us = sumL (H'.obs.map Ob.bl) := ⟨_, rfl⟩
          rw [← hus] at SC ⊢
          clear hus hcnt hM mA bw kx hqlt hqn hlen7 hlenf hMayA hpwA
          go_upto_region 28 with (go_at_call 31; refine SC.mono ?_; rintro e w13 ⟨rfl, rfl⟩)
          clear SC x1
          go_loopw [16] (TfRel W8 r H' g h) (fun i _ => m7 - (intOf i).toNat)
          case atStart => exact ST3.out
          case round =>
            clear ST3
            obtain ⟨f, mm, hf, rfl, hM, mA, bw⟩ := hrel
            have hfn : f ≤ m7 := by have := Hlenf.out; omega
            clear hf
            have kx := HKX.out.below bw
            have x7 := kx.cell 7
            simp only [List.getElem?_cons_succ, List.getElem?_cons_zero] at x7
            by_cases hflt : f < m7
            · obtain ⟨bf, of_, ⟨xa, xo⟩, hF7, hbf, hx, hc0, hc1⟩ := HRX.out.fr.cell hflt
              simp only at hF7
              subst hF7
              have z0 := (bw.cell (p := ⟨bf, of_ + f * 2, none⟩) hbf).trans hc0
              have z1 := (bw.cell (p := ⟨bf, of_ + f * 2 + 1, none⟩) hbf).trans hc1
              have hfi : (f : Int) < (m7 : Int) := by omega
              have hxm := List.mem_of_getElem? hx
              have hMay := HMYA.out _ (List.mem_append_right _ hxm)
              have hgap : ∀ a ∈ H'.obs.map Ob.bl ++ H'.fr.take f, ¬ Meets (xa, xo) a := by
                have h1 := HPW.out
                rw [← List.take_append_drop f H'.fr, ← List.append_assoc, List.pairwise_append] at h1
                intro a ha
                refine h1.2.2 a ha _ ?_
                obtain ⟨q1, q2⟩ := List.getElem?_eq_some_iff.1 hx
                rw [List.drop_eq_getElem_cons q1, q2]
                exact List.mem_cons_self ..
              have hrun := hM.gap hMay hgap
              obtain ⟨p1, p2, p3⟩ := hM.put hMay
              have hbox := may_box hr8 hMay
              have hMa := hMay.2.2.2.1
              simp only at z0 z1 hrun p2 p3 hbox hMa
              have SZ := fun W => words_any xo W
              rw [wordsI_in hbox.1.1 hbox.1.2] at SZ
              have hz2 := sz_le256 hbox.1.1 hbox.1.2
              have hz0 := sz_pos xo
              have P := fun W (b : Below wr.heap.size wr W) => put_any g h mm xa (sz xo) true W (mA.below b) (by omega)
              have R := fun W (b : Below wr.heap.size wr W) => run_any g h mm xa (sz xo) false W (mA.below b) (HT.out.below (HBX.out.trans ((bw.trans (b.mono bw.size)).mono HBX.out.size)))
              rw [p2] at P
              rw [hrun] at R
              have Hp3 := Lib.hid (show Mapped r (H'.obs.map Ob.bl ++ H'.fr.take (f + 1)) (putV mm xa (sz xo) true) by rw [take_snocB hx, ← List.append_assoc]; exact p3)
              obtain ⟨z, hz⟩ : ∃ z, z = sz xo := ⟨_, rfl⟩
              rw [← hz] at SZ hz2 P R Hp3 hz0
              have HMA := Lib.hid mA
              have HBW2 := Lib.hid bw
              clear hz hx hM mA kx bw hc0 hc1 hMay hgap p1 p2 p3 hbox hbf hxm hrun
              go_upto_region 31 with (fail)
              have ba := (Below.refl wr.heap.size wr).alloc (Nat.le_refl _) (.cells #[.int .i64 xa, .int .i64 xo] 49)
              have KB := Whole.new wr #[.int .i64 xa, .int .i64 xo] 49
              obtain ⟨kb, hkb⟩ : ∃ kb, kb = wr.heap.size := ⟨_, rfl⟩
              rw [← hkb] at KB ⊢
              have HKB := Lib.hid KB
              have Hba := Lib.hid ba
              have hkbh : kb ≠ h := by have := HMA.out.lt; omega
              clear hkb KB ba z0 z1 x7
              generalize wr.alloc (.cells _ 49) = Wb at HKB Hba ⊢
              have P2 := Lib.hid fun W (b : Below Wb.heap.size Wb W) => P W (Hba.out.trans (b.mono Hba.out.size))
              have R2 := Lib.hid fun W (b : Below Wb.heap.size Wb W) => R W (Hba.out.trans (b.mono Hba.out.size))
              have mkS2 := Lib.hid fun (W : World) (gb : Wb.grownBy W (some h)) => (HKB.out.grown gb hkbh).two
              clear P R
              go_cut [165] (fun v wc => v = .bool false ∧ MapAt wc g h (putV mm xa z true) ∧ Wb.grownBy wc (some h))
              case first =>
                repeat (rename ∀ (a : Act) (w : World), Code.wp _ _ _ a w → _ => hh; clear hh)
                go_region_held3 (fun W => W.cell? ⟨kb, 0, none⟩ = some (.int .i64 xa) ∧ W.cell? ⟨kb, 1, none⟩ = some (.int .i64 xo)) (((with_reducible refine mkS2.out _ ?_); ((repeat (with_reducible refine gb_drew ?_)); first | (with_reducible exact G6.out) | (with_reducible exact gb_refl _ _)))) ((first
                  | (go_at_call 24; refine (SZ _).mono ?_; rintro e w10 ⟨rfl, rfl⟩)
                  | (go_at_call 32; refine (R2.out _ (by ((repeat (first | (with_reducible refine bel_alloc ?_ _) | (with_reducible refine Below.setCell ?_ (by dsimp only; first | omega | (simp; omega)) _) | (with_reducible refine Below.drew ?_))); first | (with_reducible exact Below.refl _ _) | (with_reducible exact trivial)))).mono ?_; rintro e w10 ⟨rfl, rfl⟩)
                  | (go_at_call 29; refine (P2.out _ (by ((repeat (first | (with_reducible refine bel_alloc ?_ _) | (with_reducible refine Below.setCell ?_ (by dsimp only; first | omega | (simp; omega)) _) | (with_reducible refine Below.drew ?_))); first | (with_reducible exact Below.refl _ _) | (with_reducible exact trivial)))).mono ?_; rintro e w10 ⟨rfl, m10, g10⟩; have G6 := Lib.hid (grown_trans (grown_below (w := Wb) (by ((repeat (first | (with_reducible refine bel_alloc ?_ _) | (with_reducible refine Below.setCell ?_ (by dsimp only; first | omega | (simp; omega)) _) | (with_reducible refine Below.drew ?_))); first | (with_reducible exact Below.refl _ _) | (with_reducible exact trivial))) (some h)) g10); have M6 := Lib.hid m10; clear m10 g10)))
                all_goals
                  go_wp2_with fail
                  go_meet
                  exact ⟨rfl, M6.out, G6.out⟩
              case rest =>
                obtain ⟨rfl, m10, g10⟩ := hcut
                have b10 := below_grown (HBW2.out.trans (Hba.out.mono HBW2.out.size)) g10 (Nat.le_trans HBW2.out.size Hba.out.size) Hhh.out
                have HE := Lib.hid (show TfRel W8 r H' g h (.int .i64 ((f + 1 : Nat) : Int)) wc from ⟨f + 1, putV mm xa z true, by have := Hlenf.out; omega, rfl, Hp3.out, m10, b10⟩)
                clear m10 g10 b10 P2 R2 mkS2 HKB Hba
                go_wp2
                go_roundw
                case rel => first | exact HE.out | (have h9 := HE.out; push_cast at h9; exact h9)
                case measure => simp [intOf]; omega
            · obtain rfl : f = m7 := by omega
              rw [List.take_of_length_le (by have := Hlenf.out; omega)] at hM
              have hcnt := Mapped.count' HMYA.out HPW.out hM
              have hsum := Hall.out.2.2
              unfold allB at hsum
              rw [hsum, Hk0.out] at hcnt
              have hml : (mm.length : Int) = (k0 : Int) := by rw [hM.1, Hk0.out]
              have HCN := Lib.hid hcnt
              have HML := Lib.hid hml
              have HMA := Lib.hid mA
              have HB13 := Lib.hid bw
              have HK13 := Lib.hid kx
              clear hcnt hml hsum hM mA bw kx hflt hfn
              go_upto_region 34 with (fail)
              clear x7
              go_loopw [18] (TgRel 4 wr) (fun i _ => 4 - (intOf i).toNat)
              case atStart => exact ⟨0, Nat.zero_le _, rfl, Grew.refl _⟩
              case round =>
                obtain ⟨j, hj, rfl, gr⟩ := hrel
                have Gr := Lib.hid gr
                by_cases hjl : j < 4
                · have hld : Leads H' (tget H' j) := HR2.out.tp _ (tget_in HRX.out.tp hjl)
                  have SL := Lib.hid fun (W : World) (G : Grew wr W) => (by
                    have h1 := topLeads_any ⟨A7, q, c7, F7, f, d7⟩ H' (tget H' j) W (HRX.out.below (HB13.out.trans ((Gr.out.trans G).below.mono HB13.out.size))) hn7
                    rw [decide_eq_true hld] at h1
                    simp only [hval, hcs] at h1
                    exact h1 : Calls Tryz.prog 30 #[.agg #[.int .i64 H'.od, .slice A7 q c7, .int .i64 H'.nx, .int .i64 (tget H' 0), .int .i64 (tget H' 1), .int .i64 (tget H' 2), .int .i64 (tget H' 3), .slice F7 f d7], .int .i64 (tget H' j)] W (Says W (.bool true)))
                  have kx := HK13.out.below gr.below
                  try simp only [hcs] at kx
                  obtain ⟨x0, x1, x2, x3, x4, x5, x6, x7⟩ := kx.eight
                  have hpl := kx.lt
                  have v0 := cell_grown (a := ⟨p5, 0, none⟩) hpl x0
                  have v1 := cell_grown (a := ⟨p5, 1, none⟩) hpl x1
                  have v2 := cell_grown (a := ⟨p5, 2, none⟩) hpl x2
                  have v3 := cell_grown (a := ⟨p5, 3, none⟩) hpl x3
                  have v4 := cell_grown (a := ⟨p5, 4, none⟩) hpl x4
                  have v5 := cell_grown (a := ⟨p5, 5, none⟩) hpl x5
                  have v6 := cell_grown (a := ⟨p5, 6, none⟩) hpl x6
                  have v7 := cell_grown (a := ⟨p5, 7, none⟩) hpl x7
                  have hji : (j : Int) < 4 := by omega
                  clear x0 x1 x2 x3 x4 x5 x6 x7 hld kx hpl gr
                  obtain rfl | rfl | rfl | rfl : j = 0 ∨ j = 1 ∨ j = 2 ∨ j = 3 := by omega
                  all_goals
                    go_upto_region 36 with (fail)
                    refine wp_region_quiet_grown mixed (by kernel_rfl) ?_
                    repeat (go_big_quiet_step ((go_at_call 30; exact calls_grown_says (SL.out _ ((Grew.refl wr).grow _ _)))))
                    refine wpQuiet_nil ?_
                    intro _ hw'
                    obtain ⟨⟨nq, osq⟩, hw''⟩ := hw'
                    subst hw''
                    have G6 := (Grew.refl wr).grow nq osq
                    generalize Go.Sort.grow (wr.drewN nq) osq = w14 at G6 ⊢
                    clear v0 v1 v2 v3 v4 v5 v6 v7 SL
                    go_wp2
                    go_roundw
                    case rel => first | exact ⟨1, by omega, by go_num, Gr.out.trans G6⟩ | exact ⟨2, by omega, by go_num, Gr.out.trans G6⟩ | exact ⟨3, by omega, by go_num, Gr.out.trans G6⟩ | exact ⟨4, by omega, by go_num, Gr.out.trans G6⟩
                    case measure => simp [intOf]
                · obtain rfl : j = 4 := by omega
                  have SC2 := count_any g h mm wr (HMA.out.below gr.below)
                  rw [HCN.out] at SC2
                  have SLn := len_any g h mm wr (HMA.out.below gr.below)
                  rw [HML.out] at SLn
                  have HE := Lib.hid (show TrRel w p5 r m (.int .i64 ((k + 1 : Nat) : Int)) wr from ⟨k + 1, H', _, by omega, rfl, HR2.out, Hod2.out, HRX.out.below (HB13.out.trans (gr.below.mono HB13.out.size)), HK13.out.below gr.below, HBX.out.trans ((HB13.out.trans (gr.below.mono HB13.out.size)).mono HBX.out.size)⟩)
                  clear hjl hj gr
                  go_wp2_with (first
                    | (go_at_call 31; refine SC2.mono ?_; rintro e w15 ⟨rfl, rfl⟩)
                    | (go_at_call 33; refine SLn.mono ?_; rintro e w15 ⟨rfl, rfl⟩))
                  go_roundw
                  case rel => first | exact HE.out | (have h9 := HE.out; push_cast at h9; exact h9)
                  case measure => simp [intOf]; omega
end Go.Proofs.YtkbggbgnnllmjaaGreatDoor
