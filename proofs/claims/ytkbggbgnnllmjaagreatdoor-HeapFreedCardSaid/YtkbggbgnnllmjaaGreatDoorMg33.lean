/-
  The law HeapFreed, walked.
-/
import Derived.Test.YtkbggbgnnllmjaaGreatDoorMg30
import Derived.Test.YtkbggbgnnllmjaaGreatDoorMg14
import Derived.Lib.QuietBelow
namespace Go.Proofs.YtkbggbgnnllmjaaGreatDoor
open Go.RowKit

theorem tget_mem {H : Hp} (h : H.tp.length = 4) {i : Nat} (hi : i < 4) : tget H i ∈ H.tp := by
  unfold tget
  rw [List.getD_eq_getElem?_getD, List.getElem?_eq_getElem (show i < H.tp.length by omega)]
  exact List.getElem_mem _
/-- A count, in a world that stays. -/
def CntRel (n : Nat) (w0 : World) (i : Value) (wr : World) : Prop := ∃ k : Nat, k ≤ n ∧ i = .int .i64 (k : Int) ∧ w0 = wr
set_option maxRecDepth 100000 in
set_option maxHeartbeats 4000000 in
theorem freed_walk (s : HSl) (H : Hp) (g : Int) (w : World) (hT : Tab w) (h : RdH w s H) :
    Calls Tryz.prog 7 #[hval H s, .int .i64 g] w (Tells w (.bool true)) := by
  have HT := Lib.hid hT
  have HR := Lib.hid h
  have g1 := (Below.refl w.heap.size w).alloc (Nat.le_refl _) (.cells (hcs H s).toArray 26)
  have S1 := refBig_any s H _ (h.below g1)
  clear hT h g1
  have LA := lawAlloc_any
  unfold opv opcs at LA
  simp only at LA
  have LAH := Lib.hid LA
  clear LA
  go_enter Tryz.func7, Tryz.ntmps7
  obtain ⟨A, n, c, F, m, d⟩ := s
  simp only [hval, hcs] at *
  obtain ⟨p, W, hW, hp, K, bw⟩ := box_heap w (.int .i64 H.od) (.slice A n c) (.int .i64 H.nx) (.int .i64 (tget H 0)) (.int .i64 (tget H 1)) (.int .i64 (tget H 2)) (.int .i64 (tget H 3)) (.slice F m d)
  rw [hW] at S1
  go_upto_region 1 with (fail)
  rw [← hp]
  clear hW hp
  obtain ⟨c0, c1, c2, c3, c4, c5, c6, c7⟩ := K.eight
  obtain ⟨KH, BH⟩ := And.intro (Lib.hid K) (Lib.hid bw)
  clear K bw
  go_upto_region 3 with (go_at_call 11; refine S1.mono ?_; rintro e w1 ⟨q, rfl, hq, g1⟩; cases q)
  rotate_left
  · go_ret
    exact ⟨rfl, BH.out.trans (g1.below.mono BH.out.size)⟩
  clear S1
  have hS := Lib.hid (hq (by first | rfl | trivial))
  have K1 := KH.out.below g1.below
  have B1 := Lib.hid (BH.out.trans (g1.below.mono BH.out.size))
  have K1H := Lib.hid K1
  clear g1 BH c0 c1 c2 c3 c4 c5 c6 c7 hq KH
  -- what goes
  obtain ⟨c0, c1, c2, c3, c4, c5, c6, c7⟩ := K1.eight
  have S2 := do_heap ⟨A, n, c, F, m, d⟩ H ⟨2, g, 0, 0, 0, 0, 0⟩ w1 (HR.out.below B1.out) hS.out (HT.out.below B1.out)
  obtain ⟨r1, hr1⟩ : ∃ r1, r1 = doH H ⟨2, g, 0, 0, 0, 0, 0⟩ := ⟨_, rfl⟩
  rw [← hr1] at S2
  have HR1 := Lib.hid hr1
  have hs1 := Lib.hid (show SmallH r1.1 by rw [hr1]; exact doH_small _)
  simp only [hval, hcs, opv, opcs] at S2
  obtain ⟨x1, e1, v1⟩ := r1
  clear K1 hr1
  go_upto_region 4 with (go_at_call 13; refine S2.mono ?_; rintro e w2 ⟨⟨A2, n2, c2', F2, m2, d2⟩, os2, rfl, o2, b2⟩; simp only [hval, hcs])
  obtain ⟨p2, W2, hW2, hp2, Kx2, Kr2, bw2⟩ := box_two w2 (.int .i64 x1.od) (.slice A2 n2 c2') (.int .i64 x1.nx) (.int .i64 (tget x1 0)) (.int .i64 (tget x1 1)) (.int .i64 (tget x1 2)) (.int .i64 (tget x1 3)) (.slice F2 m2 d2) (.int .i64 e1) (.int .i64 v1)
  rw [hW2, ← hp2]
  have bb2 := b2.trans (bw2.mono b2.size)
  have B2 := Lib.hid (B1.out.trans (bb2.mono B1.out.size))
  have K2H := Lib.hid (K1H.out.below bb2)
  have KR2 := Lib.hid Kr2
  have KX2 := Lib.hid Kx2
  have O2 := Lib.hid (o2.rd.below bw2)
  obtain ⟨r0, r1⟩ := Kr2.two
  clear S2 hW2 hp2 Kx2 Kr2 bw2 b2 bb2 o2 B1 K1H c0 c1 c2 c3 c4 c5 c6 c7
  have F1 := Lib.hid fun (W : World) (bl : Below W2.heap.size W2 W) => fresh_any W (HT.out.below (B2.out.trans (bl.mono B2.out.size)))
  have D1 := Lib.hid fun (W : World) (bl : Below W2.heap.size W2 W) => does_any W (HT.out.below (B2.out.trans (bl.mono B2.out.size)))
  by_cases he : e1 = 0
  case neg =>
    have q1 : (e1 != 0) = true := by simp [he]
    clear he
    go_wp2_with (first
      | (go_at_call 19; refine (F1.out _ (Below.refl _ _)).mono ?_; rintro e w6 ⟨rfl, b6⟩)
      | (go_at_call 17; refine (D1.out _ b6).mono ?_; rintro e w7 ⟨rfl, b7'⟩; have b7 := b6.trans (b7'.mono b6.size)))
    go_ret
    exact ⟨rfl, B2.out.trans (b7.mono B2.out.size)⟩
  subst he
  have hR : RightH H := by
    apply Classical.byContradiction
    intro hn
    have h1 := HR1.out
    rw [doH_wrong hn] at h1
    have h2 : (0 : Int) = 1 := congrArg (fun r => r.2.1) h1
    omega
  have hdone : (x1, (0 : Int), v1) = doneH H ⟨2, g, 0, 0, 0, 0, 0⟩ := by rw [HR1.out, doH_right hR]
  have hfl := freed_law hR (o := ⟨2, g, 0, 0, 0, 0, 0⟩) rfl (by rw [← hdone])
  have hrx := (doneH_right hR ⟨2, g, 0, 0, 0, 0, 0⟩).1
  rw [← hdone] at hfl hrx
  simp only at hfl hrx
  obtain ⟨q, y, hfo, hno, htp, hgone, hroom⟩ := hfl
  have HRX := Lib.hid hrx
  have Hno := Lib.hid hno
  have Htp := Lib.hid htp
  have Hgone := Lib.hid hgone
  have Hroom := Lib.hid hroom
  have Hfo := Lib.hid hfo
  have hpl := Lib.hid (placeI_some hfo)
  have hql : q < n := by
    have h1 := (findO_get hfo).1
    have h2 : H.obs.length = n := HR.out.obs.len
    have h3 : q < H.obs.length := by
      apply Classical.byContradiction
      intro h4
      rw [List.getElem?_eq_none (by omega)] at h1
      cases h1
    omega
  have S3 := refPlace_any ⟨A, n, c, F, m, d⟩ H g W2 (HR.out.below B2.out) (by have h1 := hS.out.1; have h2 : H.obs.length = n := HR.out.obs.len; simp only; omega)
  rw [hpl.out] at S3
  simp only [hval, hcs] at S3
  clear HR1 hdone hrx hno htp hgone hroom hfo hR
  obtain ⟨c0, c1, c2, c3, c4, c5, c6, c7⟩ := K2H.out.eight
  go_upto_region 9 with (go_at_call 23; refine S3.mono ?_; rintro e w3 ⟨rfl, g3⟩)
  clear S3 c0 c1 c2 c3 c4 c5 c6 c7 r0 r1
  have b3 := g3.below
  have B3 := Lib.hid (B2.out.trans (b3.mono B2.out.size))
  have K3H := Lib.hid (K2H.out.below b3)
  have KR3 := Lib.hid (KR2.out.below b3)
  have KX3 := Lib.hid (KX2.out.below b3)
  have O3 := Lib.hid (O2.out.below b3)
  have F3 := Lib.hid fun (W : World) (bl : Below w3.heap.size w3 W) => F1.out W (b3.trans (bl.mono b3.size))
  have D3 := Lib.hid fun (W : World) (bl : Below w3.heap.size w3 W) => D1.out W (b3.trans (bl.mono b3.size))
  clear B2 K2H KR2 KX2 O2 F1 D1 g3 b3
  have hn2 : n2 ≤ 600 := by have h1 := hs1.out.1; have h2 : x1.obs.length = n2 := O3.out.obs.len; omega
  go_upto_region 10 with (fail)
  go_loopw [8] (CntRel n2 w3) (fun i _ => n2 - (intOf i).toNat)
  case atStart => exact ⟨0, Nat.zero_le _, rfl, rfl⟩
  case round =>
    obtain ⟨k, hk, rfl, rfl⟩ := hrel
    obtain ⟨x0, x1', x2, x3, x4, x5, x6, x7⟩ := KX3.out.eight
    by_cases hlt : k < n2
    · obtain ⟨b', off, z, rfl, hbl, hx, A4, n4, e4, B4, m4, d4, h0, _, _, _, h4, _, hls⟩ := O3.out.obs.get hlt
      have hki : (k : Int) < (n2 : Int) := by omega
      have hzm := List.mem_of_getElem? hx
      have hn1 := (Hno.out z hzm).1
      have hq0 : (z.hd == g) = false := by simp [hn1]
      have Hls := Lib.hid hls
      have Hnl := Lib.hid (Hno.out z hzm).2
      have hm4 : m4 ≤ 5000 := by have h1 := (hs1.out.2.2 z hzm).2; have h2 := hls.len; omega
      clear hx hzm hn1 hls
      go_upto_region 15 with (fail)
      go_loopw [9] (CntRel m4 w3) (fun i _ => m4 - (intOf i).toNat)
      case atStart => exact ⟨0, Nat.zero_le _, rfl, rfl⟩
      case round =>
        obtain ⟨j, hj, rfl, rfl⟩ := hrel
        by_cases hlj : j < m4
        · obtain ⟨b5, off5, t, rfl, hb5, ht, hc5⟩ := Hls.out.cell hlj
          have hji : (j : Int) < (m4 : Int) := by omega
          have hq1 : (t == g) = false := by simp [Hnl.out t (List.mem_of_getElem? ht)]
          clear ht
          go_wp2
          go_roundw
          case rel => exact ⟨j + 1, by omega, by go_num, rfl⟩
          case measure => simp [intOf]; omega
        · obtain rfl : j = m4 := by omega
          go_wp2
          go_roundw
          case rel => exact ⟨k + 1, by omega, by go_num, rfl⟩
          case measure => simp [intOf]; omega
    · obtain rfl : n2 = k := by omega
      go_upto_region 20 with (fail)
      clear x0 x1' x2 x3 x4 x5 x6 x7
      go_loopw [10] (CntRel 4 w3) (fun i _ => 4 - (intOf i).toNat)
      case atStart => exact ⟨0, Nat.zero_le _, rfl, rfl⟩
      case round =>
        obtain ⟨j, hj, rfl, rfl⟩ := hrel
        by_cases hlj : j < 4
        · have hq1 : (tget x1 j == g) = false := by simp [Htp.out _ (tget_mem O3.out.tp hlj)]
          have hji : (j : Int) < 4 := by omega
          obtain ⟨x0, x1', x2, x3, x4, x5, x6, x7⟩ := KX3.out.eight
          obtain rfl | rfl | rfl | rfl : j = 0 ∨ j = 1 ∨ j = 2 ∨ j = 3 := by omega
          all_goals
            go_wp2
            go_roundw
            case rel => first | exact ⟨1, by omega, by go_num, rfl⟩ | exact ⟨2, by omega, by go_num, rfl⟩ | exact ⟨3, by omega, by go_num, rfl⟩ | exact ⟨4, by omega, by go_num, rfl⟩
            case measure => simp [intOf]
        · obtain rfl : j = 4 := by omega
          go_upto_region 24 with (fail)
          obtain ⟨b0, o0, y', hA0, hb0, hy, A5, n5, c5, A6, n6, c6, _, _, _, hy3, hy4, hy5, hy6⟩ := (HR.out.below B3.out).obs.get (j := q) (by simpa using hql)
          obtain rfl : y = y' := by
            have h1 := (findO_get Hfo.out).1
            rw [hy] at h1
            injection h1 with h1
            exact h1.symm
          have hA0 : A = some ⟨b0, o0, none⟩ := hA0
          subst hA0
          have hn5 : y.ws.length = n5 := hy5.len
          have hn6 : y.ls.length = n6 := hy6.len
          have hqi : (q : Int) < (n : Int) := by omega
          have Hr := Lib.hid (show (allocH x1 n5 n6).2.1 = 0 ∨ (allocH x1 n5 n6).2.1 = 2 by have := Hroom.out; rw [hn5, hn6] at this; exact this)
          have S := Lib.hid fun (W' : World) (bl : Below w3.heap.size w3 W') => (by
            have h1 := do_heap ⟨A2, n2, c2', F2, m2, d2⟩ x1 ⟨1, 0, 0, n5, n6, 0, 0⟩ W' (O3.out.below bl) hs1.out (HT.out.below (B3.out.trans (bl.mono B3.out.size)))
            rw [doH_right HRX.out, doneH_alloc rfl] at h1
            simp only [hval, hcs, opv, opcs] at h1
            exact h1 : Calls Tryz.prog 13 #[.agg #[.int .i64 x1.od, .slice A2 n2 c2', .int .i64 x1.nx, .int .i64 (tget x1 0), .int .i64 (tget x1 1), .int .i64 (tget x1 2), .int .i64 (tget x1 3), .slice F2 m2 d2], .agg #[.int .i64 1, .int .i64 0, .int .i64 0, .int .i64 n5, .int .i64 n6, .int .i64 0, .int .i64 0]] W' (InPost W' W'.heap.size (allocH x1 n5 n6)))
          obtain ⟨H', hH'⟩ : ∃ r, r = allocH x1 n5 n6 := ⟨_, rfl⟩
          rw [← hH'] at S Hr
          clear hH' hn5 hn6 hy hy5 hy6 Hroom
          obtain ⟨H', rc, rv⟩ := H'
          have Hy3 := Lib.hid hy3
          have Hy4 := Lib.hid hy4
          have Hb0 := Lib.hid hb0
          clear hy3 hy4 hb0
          go_cut [11, 12] (BxRel w.heap.size w3 H' rc rv)
          case first =>
            have mkS := Lib.hid fun (W : World) (bl : Below w3.heap.size w3 W) => (by
              obtain ⟨e0, e1, e2, e3, e4, e5, e6, e7⟩ := (KX3.out.below bl).eight
              exact ⟨e0, e1, e2, e3, e4, e5, e6, e7, (K3H.out.below bl).cell 1, (bl.cell (p := ⟨b0, o0 + q * 5 + 3, none⟩) Hb0.out).trans Hy3.out, (bl.cell (p := ⟨b0, o0 + q * 5 + 4, none⟩) Hb0.out).trans Hy4.out⟩ : W.cell? ⟨p2, 0, none⟩ = some (.int .i64 x1.od) ∧ W.cell? ⟨p2, 1, none⟩ = some (.slice A2 n2 c2') ∧ W.cell? ⟨p2, 2, none⟩ = some (.int .i64 x1.nx) ∧ W.cell? ⟨p2, 3, none⟩ = some (.int .i64 (tget x1 0)) ∧ W.cell? ⟨p2, 4, none⟩ = some (.int .i64 (tget x1 1)) ∧ W.cell? ⟨p2, 5, none⟩ = some (.int .i64 (tget x1 2)) ∧ W.cell? ⟨p2, 6, none⟩ = some (.int .i64 (tget x1 3)) ∧ W.cell? ⟨p2, 7, none⟩ = some (.slice F2 m2 d2) ∧ W.cell? ⟨p, 1, none⟩ = some (.slice (some ⟨b0, o0, none⟩) n c) ∧ W.cell? ⟨b0, o0 + q * 5 + 3, none⟩ = some (.slice A5 n5 c5) ∧ W.cell? ⟨b0, o0 + q * 5 + 4, none⟩ = some (.slice A6 n6 c6))
            repeat (rename ∀ (a : Act) (w : World), Code.wp _ _ _ a w → _ => hh; clear hh)
            go_region_held3 (fun W => W.cell? ⟨p2, 0, none⟩ = some (.int .i64 x1.od) ∧ W.cell? ⟨p2, 1, none⟩ = some (.slice A2 n2 c2') ∧ W.cell? ⟨p2, 2, none⟩ = some (.int .i64 x1.nx) ∧ W.cell? ⟨p2, 3, none⟩ = some (.int .i64 (tget x1 0)) ∧ W.cell? ⟨p2, 4, none⟩ = some (.int .i64 (tget x1 1)) ∧ W.cell? ⟨p2, 5, none⟩ = some (.int .i64 (tget x1 2)) ∧ W.cell? ⟨p2, 6, none⟩ = some (.int .i64 (tget x1 3)) ∧ W.cell? ⟨p2, 7, none⟩ = some (.slice F2 m2 d2) ∧ W.cell? ⟨p, 1, none⟩ = some (.slice (some ⟨b0, o0, none⟩) n c) ∧ W.cell? ⟨b0, o0 + q * 5 + 3, none⟩ = some (.slice A5 n5 c5) ∧ W.cell? ⟨b0, o0 + q * 5 + 4, none⟩ = some (.slice A6 n6 c6)) (((with_reducible refine mkS.out _ ?_); first | ((repeat (first | (with_reducible refine bel_alloc ?_ _) | (with_reducible refine Below.setCell ?_ (by dsimp only; first | omega | (simp; omega)) _) | (with_reducible refine Below.drew ?_))); first | (with_reducible exact Below.refl _ _) | (with_reducible exact HB5.out)) | ((repeat (first | (with_reducible refine bel_alloc ?_ _) | (with_reducible refine Below.setCell ?_ (by dsimp only; first | omega | (simp; omega)) _) | (with_reducible refine Below.drew ?_))); first | (with_reducible exact Below.refl _ _) | (with_reducible exact HB1.out)) | ((repeat (first | (with_reducible refine bel_alloc ?_ _) | (with_reducible refine Below.setCell ?_ (by dsimp only; first | omega | (simp; omega)) _) | (with_reducible refine Below.drew ?_))); first | (with_reducible exact Below.refl _ _) | (with_reducible exact trivial)))) ((first
              | (go_at_call 20; refine (LAH.out _ _ _).mono ?_; rintro e W1 ⟨rfl, G1⟩; have HB1 := Lib.hid (bel_grew (w := w3) (by ((repeat (first | (with_reducible refine bel_alloc ?_ _) | (with_reducible refine Below.setCell ?_ (by dsimp only; first | omega | (simp; omega)) _) | (with_reducible refine Below.drew ?_))); first | (with_reducible exact Below.refl _ _) | (with_reducible exact trivial))) G1); have hz1 := HB1.out.size; (try (have K6 := whole_grew (t := 26) (cs := zcs) (by ((repeat (first | ((with_reducible apply whole_new'); rfl) | (with_reducible apply Whole.alloc) | (with_reducible apply Whole.drew))); first | done | (with_reducible exact trivial))) G1; (try simp only [size_alloc] at K6); have HK6 := Lib.hid K6; have hl6 := K6.lt; clear K6)); (try (have K7 := whole_grew (t := 34) (cs := rcs) (by ((repeat (first | ((with_reducible apply whole_new'); rfl) | (with_reducible apply Whole.alloc) | (with_reducible apply Whole.drew))); first | done | (with_reducible exact trivial))) G1; (try simp only [size_alloc] at K7); have HK7 := Lib.hid K7; have hl7 := K7.lt; clear K7)); clear G1)
              | (go_at_call 13; (with_reducible refine Calls.mono (S.out _ (by ((repeat (first | (with_reducible refine bel_alloc ?_ _) | (with_reducible refine Below.setCell ?_ (by dsimp only; first | omega | (simp; omega)) _) | (with_reducible refine Below.drew ?_))); first | (with_reducible exact Below.refl _ _) | (with_reducible exact HB1.out)))) ?_); rintro e w5 ⟨⟨A8, n8, c8', F6, k6, d6⟩, os6, rfl, O6, b6⟩; simp only [hval, hcs]; have hV := Lib.hid (bel_is (w := w3) (by ((repeat (first | (with_reducible refine bel_alloc ?_ _) | (with_reducible refine Below.setCell ?_ (by dsimp only; first | omega | (simp; omega)) _) | (with_reducible refine Below.drew ?_))); first | (with_reducible exact Below.refl _ _) | (with_reducible exact HB1.out))) b6); have HB5 := Lib.hid (hV.out.trans (b6.mono hV.out.size)); have hz5 := HB5.out.size; (try (have V6 := whole_is (t := 26) (cs := zcs) (by ((repeat (first | ((with_reducible apply whole_new'); rfl) | (with_reducible apply Whole.alloc) | (with_reducible apply Whole.drew))); first | done | (with_reducible exact HK6.out))) b6; (try simp only [size_alloc] at V6); have HV6 := Lib.hid V6; have M6 := V6.below b6; obtain ⟨m0, m1, m2, m3, m4, m5, m6, m7⟩ := M6.eight; have mf := M6.free; have ml := M6.lt; have mn := Nat.ne_of_lt M6.lt; have mn' := (Nat.ne_of_lt M6.lt).symm; have m0A := fun o => Lib.cell?_alloc_some o m0; have m1A := fun o => Lib.cell?_alloc_some o m1; have m2A := fun o => Lib.cell?_alloc_some o m2; have m3A := fun o => Lib.cell?_alloc_some o m3; have m4A := fun o => Lib.cell?_alloc_some o m4; have m5A := fun o => Lib.cell?_alloc_some o m5; have m6A := fun o => Lib.cell?_alloc_some o m6; have m7A := fun o => Lib.cell?_alloc_some o m7; have mfA := fun (o : Obj) j => (M6.alloc o).free j; clear M6 V6)); (try (have V7 := whole_is (t := 34) (cs := rcs) (by ((repeat (first | ((with_reducible apply whole_new'); rfl) | (with_reducible apply Whole.alloc) | (with_reducible apply Whole.drew))); first | done | (with_reducible exact HK7.out))) b6; (try simp only [size_alloc] at V7); have HV7 := Lib.hid V7; have M7 := V7.below b6; obtain ⟨q0, q1⟩ := M7.two'; have qf := M7.free; have ql := M7.lt; have qn := Nat.ne_of_lt M7.lt; have qn' := (Nat.ne_of_lt M7.lt).symm; have q0A := fun o => Lib.cell?_alloc_some o q0; have q1A := fun o => Lib.cell?_alloc_some o q1; have qfA := fun (o : Obj) j => (M7.alloc o).free j; clear M7 V7)); (try (have hbb := box_beside (HV6.out.below b6) (b0 := .int .i64 0) (b1 := .int .i64 0) (HV7.out.below b6); have qs0 := hbb.1; have qs1 := hbb.2.1; have qsf := hbb.2.2; clear hbb)))))
            · go_wp2_with fail
              go_meet
              exact bx_a1 B3.out.size hV.out O6 b6
            · go_wp2_with fail
              go_meet
              exact bx_a2 B3.out.size hV.out O6 b6
            · go_wp2_with fail
              go_meet
              have hb := bx_b (rc := rc) (rv := rv) B3.out.size hV.out O6 b6 HV6.out (by omega); (try unfold set2 at hb); (try unfold set8 at hb); (try simp only at hb); exact hb
            · go_wp2_with fail
              go_meet
              have hb := bx_d (rc := rc) (rv := rv) B3.out.size hV.out O6 b6 HV6.out (by first | omega | (simp; done)) HV7.out (by first | omega | (simp; done)) (by first | omega | (simp; done)); (try unfold set2 at hb); (try unfold set8 at hb); (try simp only at hb); exact hb
            · go_wp2_with fail
              go_meet
              have hb := bx_c (rc := rc) (rv := rv) B3.out.size hV.out O6 b6 HV7.out (by omega); (try unfold set2 at hb); (try unfold set8 at hb); (try simp only [hcs] at hb); exact hb
            · go_wp2_with fail
              go_meet
              have hb := bx_d (rc := rc) (rv := rv) B3.out.size hV.out O6 b6 HV6.out (by first | omega | (simp; done)) HV7.out (by first | omega | (simp; done)) (by first | omega | (simp; done)); (try unfold set2 at hb); (try unfold set8 at hb); (try simp only at hb); exact hb
            · go_wp2_with fail
              go_meet
              have hb := bx_b (rc := rc) (rv := rv) B3.out.size hV.out O6 b6 HV6.out (by omega); (try unfold set2 at hb); (try unfold set8 at hb); (try simp only at hb); exact hb
            · go_wp2_with fail
              go_meet
              have hb := bx_d (rc := rc) (rv := rv) B3.out.size hV.out O6 b6 HV6.out (by first | omega | (simp; done)) HV7.out (by first | omega | (simp; done)) (by first | omega | (simp; done)); (try unfold set2 at hb); (try unfold set8 at hb); (try simp only at hb); exact hb
            · go_wp2_with fail
              go_meet
              have hb := bx_d (rc := rc) (rv := rv) B3.out.size hV.out O6 b6 HV6.out (by first | omega | (simp; done)) HV7.out (by first | omega | (simp; done)) (by first | omega | (simp; done)); (try unfold set2 at hb); (try unfold set8 at hb); (try simp only at hb); exact hb
            · go_wp2_with fail
              go_meet
              have hb := bx_c (rc := rc) (rv := rv) B3.out.size hV.out O6 b6 HV7.out (by omega); (try unfold set2 at hb); (try unfold set8 at hb); (try simp only [hcs] at hb); exact hb
            · go_wp2_with fail
              go_meet
              have hb := bx_d (rc := rc) (rv := rv) B3.out.size hV.out O6 b6 HV6.out (by first | omega | (simp; done)) HV7.out (by first | omega | (simp; done)) (by first | omega | (simp; done)); (try unfold set2 at hb); (try unfold set8 at hb); (try simp only at hb); exact hb
            · go_wp2_with fail
              go_meet
              have hb := bx_d (rc := rc) (rv := rv) B3.out.size hV.out O6 b6 HV6.out (by first | omega | (simp; done)) HV7.out (by first | omega | (simp; done)) (by first | omega | (simp; done)); (try unfold set2 at hb); (try unfold set8 at hb); (try simp only at hb); exact hb
          case rest =>
            obtain ⟨s', os', p7, p8, rfl, rfl, O', K7, K8, bl⟩ := hcut
            have B4 := Lib.hid (B3.out.trans (bl.mono B3.out.size))
            have K8H := Lib.hid K8
            have KX4 := KX3.out.below bl
            obtain ⟨x0, x1', x2, x3, x4, x5, x6, x7⟩ := KX4.eight
            have S4 := do_heap ⟨A2, n2, c2', F2, m2, d2⟩ x1 ⟨2, g, 0, 0, 0, 0, 0⟩ wc (O3.out.below bl) hs1.out (HT.out.below B4.out)
            rw [doH_right HRX.out, show doneH x1 ⟨2, g, 0, 0, 0, 0, 0⟩ = (x1, 51, 0) from by rw [doneH_free rfl, Hgone.out]] at S4
            simp only [hval, hcs, opv, opcs] at S4
            have F4 := Lib.hid fun (W : World) (bw : Below wc.heap.size wc W) => fresh_any W (HT.out.below (B4.out.trans (bw.mono B4.out.size)))
            have D4 := Lib.hid fun (W : World) (bw : Below wc.heap.size wc W) => does_any W (HT.out.below (B4.out.trans (bw.mono B4.out.size)))
            have hrc : rc = 0 ∨ rc = 2 := Hr.out
            clear O' K7 K8 KX4 S Hr Hgone
            go_upto_region 26 with (go_at_call 13; refine S4.mono ?_; rintro e w5 ⟨⟨A9, n9, c9, F9, m9, d9⟩, os9, rfl, o9, b9⟩; simp only [hval, hcs])
            obtain ⟨p9, W9, hW9, hp9, Kx9, Kr9, bw9⟩ := box_two w5 (.int .i64 x1.od) (.slice A9 n9 c9) (.int .i64 x1.nx) (.int .i64 (tget x1 0)) (.int .i64 (tget x1 1)) (.int .i64 (tget x1 2)) (.int .i64 (tget x1 3)) (.slice F9 m9 d9) (.int .i64 51) (.int .i64 0)
            rw [hW9, ← hp9]
            have bb9 := Lib.hid (b9.trans (bw9.mono b9.size))
            have B5 := Lib.hid (B4.out.trans (bb9.out.mono B4.out.size))
            have KS := Lib.hid (K8H.out.below bb9.out)
            have KT := Lib.hid Kr9
            have KS2 := Lib.hid fun (W : World) (bw : Below W9.heap.size W9 W) => (KS.out.below bw).two'
            have KT2 := Lib.hid fun (W : World) (bw : Below W9.heap.size W9 W) => (KT.out.below bw).two'
            clear S4 hW9 hp9 Kx9 Kr9 bw9 b9 o9 x0 x1' x2 x3 x4 x5 x6 x7
            rcases hrc with hrc | hrc
            all_goals
              subst hrc
              go_wp2_with (first
                | (go_at_call 19; refine (F4.out _ bb9.out).mono ?_; rintro e w6 ⟨rfl, b6⟩)
                | (go_at_call 17; refine (D4.out _ (bb9.out.trans (b6.mono bb9.out.size))).mono ?_; rintro e w7 ⟨rfl, b7'⟩; have b7 := b6.trans (b7'.mono b6.size); obtain ⟨y0, y1⟩ := KS2.out _ b7; obtain ⟨z0, z1⟩ := KT2.out _ b7))
              go_ret
              exact ⟨rfl, B5.out.trans (b7.mono B5.out.size)⟩
end Go.Proofs.YtkbggbgnnllmjaaGreatDoor
