/-
  The law HeapSpace, walked.
-/
import Derived.Test.YtkbggbgnnllmjaaGreatDoorMg30
import Derived.Lib.QuietBelow
namespace Go.Proofs.YtkbggbgnnllmjaaGreatDoor
open Go.RowKit

set_option maxRecDepth 100000 in
set_option maxHeartbeats 4000000 in
theorem space_walk (s : HSl) (H : Hp) (a b : Int) (w : World) (hT : Tab w) (h : RdH w s H) :
    Calls Tryz.prog 6 #[hval H s, .int .i64 a, .int .i64 b] w (Tells w (.bool true)) := by
  have HT := Lib.hid hT
  have HR := Lib.hid h
  have S1 := fun (W : World) (b : Below w.heap.size w W) => refBig_any s H W (h.below b)
  have S2 := fun (W : World) (b : Below w.heap.size w W) (hS : SmallH H) => check_heap s H W (h.below b) hS (hT.below b)
  clear hT h
  have LA := lawAlloc_any
  unfold opv opcs at LA
  simp only at LA
  go_enter Tryz.func6, Tryz.ntmps6
  obtain ⟨A, n, c, F, m, d⟩ := s
  simp only [hval, hcs] at *
  obtain ⟨p, W, hW, hp, K, bw⟩ := box_heap w (.int .i64 H.od) (.slice A n c) (.int .i64 H.nx) (.int .i64 (tget H 0)) (.int .i64 (tget H 1)) (.int .i64 (tget H 2)) (.int .i64 (tget H 3)) (.slice F m d)
  have S1 := S1 W bw
  go_upto_region 1 with (fail)
  try rw [hW]
  rw [← hp]
  clear hW hp
  obtain ⟨c0, c1, c2, c3, c4, c5, c6, c7⟩ := K.eight
  have KH := Lib.hid K
  have BH := Lib.hid bw
  clear K bw
  by_cases hR : RightH H
  case neg =>
    have hc := chkH_no hR
    rw [hc] at S2
    clear hc hR
    go_wp2_with (first
      | (go_at_call 11; refine S1.mono ?_; rintro e w1 ⟨q, rfl, hq, g1⟩; have HB1 := Lib.hid (BH.out.trans (g1.below.mono BH.out.size)); obtain ⟨d0, d1, d2, d3, d4, d5, d6, d7⟩ := (KH.out.below g1.below).eight; cases q)
      | (go_at_call 18; refine (S2 _ HB1.out (hq (by first | rfl | trivial))).mono ?_; rintro e w3 ⟨rfl, b3⟩; have HB2 := Lib.hid (HB1.out.trans (b3.mono HB1.out.size)))
      | (go_at_call 19; refine (fresh_any _ (HT.out.below (by first | exact HB2.out | exact HB1.out))).mono ?_; rintro e w4 ⟨rfl, b4⟩))
    all_goals
      go_ret
      first
        | exact ⟨rfl, HB2.out.trans (b4.mono HB2.out.size)⟩
        | exact ⟨rfl, HB1.out.trans (b4.mono HB1.out.size)⟩
  have hc := chkH_yes hR
  rw [hc] at S2
  clear hc
  go_upto_region 3 with (first
    | (go_at_call 11; refine S1.mono ?_; rintro e w1 ⟨q, rfl, hq, g1⟩; have HB1 := Lib.hid (BH.out.trans (g1.below.mono BH.out.size)); obtain ⟨d0, d1, d2, d3, d4, d5, d6, d7⟩ := (KH.out.below g1.below).eight; cases q)
    | (go_at_call 18; refine (S2 _ HB1.out (hq (by first | rfl | trivial))).mono ?_; rintro e w3 ⟨rfl, b3⟩; have HB2 := Lib.hid (HB1.out.trans (b3.mono HB1.out.size)))
    | (go_at_call 19; refine (fresh_any _ (HT.out.below HB1.out)).mono ?_; rintro e w4 ⟨rfl, b4⟩))
  rotate_left
  · go_ret
    exact ⟨rfl, HB1.out.trans (b4.mono HB1.out.size)⟩
  have hs := Lib.hid (hq (by first | rfl | trivial))
  have KQ := Lib.hid (KH.out.below (g1.below.trans (b3.mono g1.below.size)))
  clear S1 S2 hq g1 c0 c1 c2 c3 c4 c5 c6 c7 d0 d1 d2 d3 d4 d5 d6 d7 KH BH HB1 b3
  have S := Lib.hid fun (W' : World) (bl : Below w3.heap.size w3 W') => (by
    have h1 := do_heap ⟨A, n, c, F, m, d⟩ H ⟨1, 0, 0, a, b, 0, 0⟩ W' (HR.out.below (HB2.out.trans (bl.mono HB2.out.size))) hs.out (HT.out.below (HB2.out.trans (bl.mono HB2.out.size)))
    rw [doH_right hR, doneH_alloc rfl] at h1
    simp only [hval, hcs, opv, opcs] at h1
    exact h1 : Calls Tryz.prog 13 #[.agg #[.int .i64 H.od, .slice A n c, .int .i64 H.nx, .int .i64 (tget H 0), .int .i64 (tget H 1), .int .i64 (tget H 2), .int .i64 (tget H 3), .slice F m d], .agg #[.int .i64 1, .int .i64 0, .int .i64 0, .int .i64 a, .int .i64 b, .int .i64 0, .int .i64 0]] W' (InPost W' W'.heap.size (allocH H a b)))
  obtain ⟨H', hH'⟩ : ∃ r, r = allocH H a b := ⟨_, rfl⟩
  rw [← hH'] at S
  have HH' := Lib.hid hH'
  clear hH'
  obtain ⟨H', rc, rv⟩ := H'
  clear S1
  have LAH := Lib.hid LA
  clear LA
  go_cut [7, 8] (BxRel w.heap.size w3 H' rc rv)
  case first =>
    have mkS := Lib.hid fun (W : World) (bl : Below w3.heap.size w3 W) => (KQ.out.below bl).eight
    go_region_held3 (fun W => W.cell? ⟨p, 0, none⟩ = some (.int .i64 H.od) ∧ W.cell? ⟨p, 1, none⟩ = some (.slice A n c) ∧ W.cell? ⟨p, 2, none⟩ = some (.int .i64 H.nx) ∧ W.cell? ⟨p, 3, none⟩ = some (.int .i64 (tget H 0)) ∧ W.cell? ⟨p, 4, none⟩ = some (.int .i64 (tget H 1)) ∧ W.cell? ⟨p, 5, none⟩ = some (.int .i64 (tget H 2)) ∧ W.cell? ⟨p, 6, none⟩ = some (.int .i64 (tget H 3)) ∧ W.cell? ⟨p, 7, none⟩ = some (.slice F m d)) (((with_reducible refine mkS.out _ ?_); first | ((repeat (first | (with_reducible refine bel_alloc ?_ _) | (with_reducible refine Below.setCell ?_ (by dsimp only; first | omega | (simp; omega)) _) | (with_reducible refine Below.drew ?_))); first | (with_reducible exact Below.refl _ _) | (with_reducible exact HB5.out)) | ((repeat (first | (with_reducible refine bel_alloc ?_ _) | (with_reducible refine Below.setCell ?_ (by dsimp only; first | omega | (simp; omega)) _) | (with_reducible refine Below.drew ?_))); first | (with_reducible exact Below.refl _ _) | (with_reducible exact HB1.out)) | ((repeat (first | (with_reducible refine bel_alloc ?_ _) | (with_reducible refine Below.setCell ?_ (by dsimp only; first | omega | (simp; omega)) _) | (with_reducible refine Below.drew ?_))); first | (with_reducible exact Below.refl _ _) | (with_reducible exact trivial)))) ((first
      | (go_at_call 20; refine (LAH.out _ _ _).mono ?_; rintro e W1 ⟨rfl, G1⟩; have HB1 := Lib.hid (bel_grew (w := w3) (by ((repeat (first | (with_reducible refine bel_alloc ?_ _) | (with_reducible refine Below.setCell ?_ (by dsimp only; first | omega | (simp; omega)) _) | (with_reducible refine Below.drew ?_))); first | (with_reducible exact Below.refl _ _) | (with_reducible exact trivial))) G1); have hz1 := HB1.out.size; (try (have K6 := whole_grew (t := 26) (cs := zcs) (by ((repeat (first | ((with_reducible apply whole_new'); rfl) | (with_reducible apply Whole.alloc) | (with_reducible apply Whole.drew))); try (with_reducible exact trivial))) G1; (try simp only [size_alloc] at K6); have HK6 := Lib.hid K6; have hl6 := K6.lt; clear K6)); (try (have K7 := whole_grew (t := 34) (cs := rcs) (by ((repeat (first | ((with_reducible apply whole_new'); rfl) | (with_reducible apply Whole.alloc) | (with_reducible apply Whole.drew))); try (with_reducible exact trivial))) G1; (try simp only [size_alloc] at K7); have HK7 := Lib.hid K7; have hl7 := K7.lt; clear K7)); clear G1)
      | (go_at_call 13; (with_reducible refine Calls.mono (S.out _ (by ((repeat (first | (with_reducible refine bel_alloc ?_ _) | (with_reducible refine Below.setCell ?_ (by dsimp only; first | omega | (simp; omega)) _) | (with_reducible refine Below.drew ?_))); first | (with_reducible exact Below.refl _ _) | (with_reducible exact HB1.out)))) ?_); rintro e w5 ⟨⟨A6, n6, c6', F6, k6, d6⟩, os6, rfl, O6, b6⟩; simp only [hval, hcs]; have hV := Lib.hid (bel_is (w := w3) (by ((repeat (first | (with_reducible refine bel_alloc ?_ _) | (with_reducible refine Below.setCell ?_ (by dsimp only; first | omega | (simp; omega)) _) | (with_reducible refine Below.drew ?_))); first | (with_reducible exact Below.refl _ _) | (with_reducible exact HB1.out))) b6); have HB5 := Lib.hid (hV.out.trans (b6.mono hV.out.size)); have hz5 := HB5.out.size; (try (have V6 := whole_is (t := 26) (cs := zcs) (by ((repeat (first | ((with_reducible apply whole_new'); rfl) | (with_reducible apply Whole.alloc) | (with_reducible apply Whole.drew))); try (with_reducible exact HK6.out))) b6; (try simp only [size_alloc] at V6); have HV6 := Lib.hid V6; have M6 := V6.below b6; obtain ⟨m0, m1, m2, m3, m4, m5, m6, m7⟩ := M6.eight; have mf := M6.free; have ml := M6.lt; have mn := Nat.ne_of_lt M6.lt; have mn' := (Nat.ne_of_lt M6.lt).symm; have m0A := fun o => Lib.cell?_alloc_some o m0; have m1A := fun o => Lib.cell?_alloc_some o m1; have m2A := fun o => Lib.cell?_alloc_some o m2; have m3A := fun o => Lib.cell?_alloc_some o m3; have m4A := fun o => Lib.cell?_alloc_some o m4; have m5A := fun o => Lib.cell?_alloc_some o m5; have m6A := fun o => Lib.cell?_alloc_some o m6; have m7A := fun o => Lib.cell?_alloc_some o m7; have mfA := fun (o : Obj) j => (M6.alloc o).free j; clear M6 V6)); (try (have V7 := whole_is (t := 34) (cs := rcs) (by ((repeat (first | ((with_reducible apply whole_new'); rfl) | (with_reducible apply Whole.alloc) | (with_reducible apply Whole.drew))); try (with_reducible exact HK7.out))) b6; (try simp only [size_alloc] at V7); have HV7 := Lib.hid V7; have M7 := V7.below b6; obtain ⟨q0, q1⟩ := M7.two'; have qf := M7.free; have ql := M7.lt; have qn := Nat.ne_of_lt M7.lt; have qn' := (Nat.ne_of_lt M7.lt).symm; have q0A := fun o => Lib.cell?_alloc_some o q0; have q1A := fun o => Lib.cell?_alloc_some o q1; have qfA := fun (o : Obj) j => (M7.alloc o).free j; clear M7 V7)); (try (have hbb := box_beside (HV6.out.below b6) (b0 := .int .i64 0) (b1 := .int .i64 0) (HV7.out.below b6); have qs0 := hbb.1; have qs1 := hbb.2.1; have qsf := hbb.2.2; clear hbb)))))
    · go_wp2_with fail
      go_meet
      exact bx_a1 HB2.out.size hV.out O6 b6
    · go_wp2_with fail
      go_meet
      exact bx_a2 HB2.out.size hV.out O6 b6
    · go_wp2_with fail
      go_meet
      have hb := bx_b (rc := rc) (rv := rv) HB2.out.size hV.out O6 b6 HV6.out (by omega); (try unfold set2 at hb); (try unfold set8 at hb); (try simp only at hb); exact hb
    · go_wp2_with fail
      go_meet
      have hb := bx_d (rc := rc) (rv := rv) HB2.out.size hV.out O6 b6 HV6.out (by first | omega | (simp; done)) HV7.out (by first | omega | (simp; done)) (by first | omega | (simp; done)); (try unfold set2 at hb); (try unfold set8 at hb); (try simp only at hb); exact hb
    · go_wp2_with fail
      go_meet
      have hb := bx_c (rc := rc) (rv := rv) HB2.out.size hV.out O6 b6 HV7.out (by omega); (try unfold set2 at hb); (try unfold set8 at hb); (try simp only [hcs] at hb); exact hb
    · go_wp2_with fail
      go_meet
      have hb := bx_d (rc := rc) (rv := rv) HB2.out.size hV.out O6 b6 HV6.out (by first | omega | (simp; done)) HV7.out (by first | omega | (simp; done)) (by first | omega | (simp; done)); (try unfold set2 at hb); (try unfold set8 at hb); (try simp only at hb); exact hb
    · go_wp2_with fail
      go_meet
      have hb := bx_b (rc := rc) (rv := rv) HB2.out.size hV.out O6 b6 HV6.out (by omega); (try unfold set2 at hb); (try unfold set8 at hb); (try simp only at hb); exact hb
    · go_wp2_with fail
      go_meet
      have hb := bx_d (rc := rc) (rv := rv) HB2.out.size hV.out O6 b6 HV6.out (by first | omega | (simp; done)) HV7.out (by first | omega | (simp; done)) (by first | omega | (simp; done)); (try unfold set2 at hb); (try unfold set8 at hb); (try simp only at hb); exact hb
    · go_wp2_with fail
      go_meet
      have hb := bx_d (rc := rc) (rv := rv) HB2.out.size hV.out O6 b6 HV6.out (by first | omega | (simp; done)) HV7.out (by first | omega | (simp; done)) (by first | omega | (simp; done)); (try unfold set2 at hb); (try unfold set8 at hb); (try simp only at hb); exact hb
    · go_wp2_with fail
      go_meet
      have hb := bx_c (rc := rc) (rv := rv) HB2.out.size hV.out O6 b6 HV7.out (by omega); (try unfold set2 at hb); (try unfold set8 at hb); (try simp only [hcs] at hb); exact hb
    · go_wp2_with fail
      go_meet
      have hb := bx_d (rc := rc) (rv := rv) HB2.out.size hV.out O6 b6 HV6.out (by first | omega | (simp; done)) HV7.out (by first | omega | (simp; done)) (by first | omega | (simp; done)); (try unfold set2 at hb); (try unfold set8 at hb); (try simp only at hb); exact hb
    · go_wp2_with fail
      go_meet
      have hb := bx_d (rc := rc) (rv := rv) HB2.out.size hV.out O6 b6 HV6.out (by first | omega | (simp; done)) HV7.out (by first | omega | (simp; done)) (by first | omega | (simp; done)); (try unfold set2 at hb); (try unfold set8 at hb); (try simp only at hb); exact hb
  case rest =>
    obtain ⟨s', os', p7, p8, rfl, rfl, O', K7, K8, bl⟩ := hcut
    have B4 := Lib.hid (HB2.out.trans (bl.mono HB2.out.size))
    have K8H := Lib.hid K8
    have KP := KQ.out.below bl
    have KPH := Lib.hid KP
    have hcase := Lib.hid (allocH_cases hR a b)
    have hmr := Lib.hid fun (h : 0 ≤ needI a b) => mayTk_room hR h
    have hne := need_any a b
    have hnb := needI_bd a b
    have RM := Lib.hid fun (t : Int) (W : World) (bw : Below wc.heap.size wc W) => room_any H.od F m d (H.fr) t W ((HR.out.fr.below (B4.out.trans (bw.mono B4.out.size)))) (by have := hs.out; unfold SmallH at this; have h2 : H.fr.length = m := HR.out.fr.len; omega) (HT.out.below (B4.out.trans (bw.mono B4.out.size)))
    generalize hq : needI a b = q at *
    have Hq := Lib.hid hq
    clear hq
    obtain ⟨e0, e1, e2, e3, e4, e5, e6, e7⟩ := KP.eight
    obtain ⟨r0, r1⟩ := K8.two'
    clear K7 K8 KP O' S KQ HB2
    have F1 := Lib.hid fun (W : World) (bl : Below wc.heap.size wc W) => fresh_any W (HT.out.below (B4.out.trans (bl.mono B4.out.size)))
    have D1 := Lib.hid fun (W : World) (bl : Below wc.heap.size wc W) => does_any W (HT.out.below (B4.out.trans (bl.mono B4.out.size)))
    go_upto_region 5 with (go_at_call 21; refine (hne wc).mono ?_; rintro e w5 ⟨rfl, rfl⟩)
    have hrr : ∀ x y z, allocH H a b = (x, y, z) → rc = y ∧ rv = z := fun x y z h => by
      have h1 := HH'.out
      rw [h] at h1
      injection h1 with h2 h3
      injection h3 with h4 h5
      exact ⟨h4, h5⟩
    have K8b := Lib.hid fun (W : World) (bw : Below wc.heap.size wc W) => (K8H.out.below bw).two'
    rcases hcase.out with ⟨hq, he⟩ | ⟨hq, hx, he⟩ | ⟨hq, hx, hroom, he⟩ | ⟨hq, hx, hroom, bb, mm, _, he⟩
    · obtain ⟨rfl, rfl⟩ := hrr _ _ _ he
      clear hrr he hcase hmr HH'
      have g1 : decide (q < 0) = true := decide_eq_true hq
      go_wp2_with (first
        | (go_at_call 19; refine (F1.out _ (Below.refl _ _)).mono ?_; rintro e w6 ⟨rfl, b6⟩)
        | (go_at_call 17; refine (D1.out _ b6).mono ?_; rintro e w7 ⟨rfl, b7'⟩; have b7 := b6.trans (b7'.mono b6.size); obtain ⟨x0, x1⟩ := K8b.out _ b7))
      go_ret
      exact ⟨rfl, B4.out.trans (b7.mono B4.out.size)⟩
    · obtain ⟨rfl, rfl⟩ := hrr _ _ _ he
      clear hrr he hcase hmr HH'
      have g1 : decide (q < 0) = false := decide_eq_false (by omega)
      have g2 : decide (H.nx > 1000000) = true := decide_eq_true (by omega)
      go_wp2_with (first
        | (go_at_call 19; refine (F1.out _ (Below.refl _ _)).mono ?_; rintro e w6 ⟨rfl, b6⟩)
        | (go_at_call 17; refine (D1.out _ b6).mono ?_; rintro e w7 ⟨rfl, b7'⟩; have b7 := b6.trans (b7'.mono b6.size); obtain ⟨x0, x1⟩ := K8b.out _ b7))
      go_ret
      exact ⟨rfl, B4.out.trans (b7.mono B4.out.size)⟩
    all_goals
      obtain ⟨rfl, rfl⟩ := hrr _ _ _ he
      have RQ := RM.out q
      rw [hmr.out hq, hroom] at RQ
      clear hrr he hcase hmr HH'
      have g1 : decide (q < 0) = false := decide_eq_false (by omega)
      have g2 : decide (H.nx > 1000000) = false := decide_eq_false (by omega)
      go_upto_region 7 with (fail)
      have k0 := cell_regrown e0
      have k7 := cell_regrown e7
      have kr := cell_regrown r0
      have mixed := mixedP
      have cF : ∀ d os, Calls Tryz.prog 19 #[] (Go.Sort.grow (redrawn wc d) os) fun e w'' => e = .returned (.bool true) ∧ ∃ p : Regrown, w'' = Go.Sort.grow (redrawn wc p.d) p.os := fun d os => Calls.regrown_of (F1.out _ (below_regrown wc d os))
      have cD : ∀ d os, Calls Tryz.prog 17 #[] (Go.Sort.grow (redrawn wc d) os) fun e w'' => e = .returned (.bool true) ∧ ∃ p : Regrown, w'' = Go.Sort.grow (redrawn wc p.d) p.os := fun d os => Calls.regrown_of (D1.out _ (below_regrown wc d os))
      have cR := fun d os => Calls.regrown_of (RQ _ (below_regrown wc d os))
      clear F1 D1 RM RQ
      refine wp_region_quiet_below mixed (by kernel_rfl) ?_
      repeat (go_big_quiet_step (first | exact cF _ _ | exact cD _ _ | exact cR _ _))
      refine wpQuiet_nil ?_
      intro _ hw'
      obtain ⟨⟨dq, osq⟩, rfl⟩ := hw'
      have bq := below_regrown wc dq osq
      go_wp2
      go_ret
      exact ⟨rfl, B4.out.trans (bq.mono B4.out.size)⟩
end Go.Proofs.YtkbggbgnnllmjaaGreatDoor
