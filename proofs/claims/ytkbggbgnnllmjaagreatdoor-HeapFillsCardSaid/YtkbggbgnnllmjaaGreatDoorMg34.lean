/-
  The law HeapFills, walked.
-/
import Derived.Test.YtkbggbgnnllmjaaGreatDoorMg30
import Derived.Test.YtkbggbgnnllmjaaGreatDoorMg14
import Derived.Lib.QuietBelow
namespace Go.Proofs.YtkbggbgnnllmjaaGreatDoor
open Go.RowKit

/-- The words of the first free blocks, in a world that stays. -/
def SumRel (fr : List Blk) (w0 : World) (f i : Value) (wr : World) : Prop := ∃ k : Nat, k ≤ fr.length ∧ f = .int .i64 (sumL (fr.take k)) ∧ i = .int .i64 (k : Int) ∧ w0 = wr
/-- So many objects have come. -/
def FlH (w : World) (p p5 : Nat) (H : Hp) (s : HSl) (i : Value) (wr : World) : Prop :=
  ∃ (ps : List Int) (X : Hp) (s' : HSl), i = .int .i64 (ps.length : Int) ∧ FilledH H ps X ∧ RdH wr s' X ∧ (∀ wr', wr.grownBy wr' (some p5) → RdH wr' s' X) ∧ Whole wr p 26 (hcs H s) ∧ Whole wr p5 26 (hcs X s') ∧ Below w.heap.size w wr
/-- So many objects have gone. -/
def ElH (w : World) (p p5 : Nat) (H : Hp) (s : HSl) (ps : List Int) (i : Value) (wr : World) : Prop :=
  ∃ (k : Nat) (X : Hp) (s' : HSl), k ≤ ps.length ∧ i = .int .i64 (k : Int) ∧ EmptyH H ps k X ∧ RdH wr s' X ∧ (∀ wr', wr.grownBy wr' (some p5) → RdH wr' s' X) ∧ Whole wr p 26 (hcs H s) ∧ Whole wr p5 26 (hcs X s') ∧ Below w.heap.size w wr
theorem fl_store {w wc : World} {p p5 : Nat} {H X' : Hp} {s s' : HSl} {os' : List (Ob × OSl)} {a0 a1 a2 a3 a4 a5 a6 a7 : Value} (O' : OwnHp wc w.heap.size s' os' X') (KP : Whole wc p 26 (hcs H s)) (K5 : Whole wc p5 26 [a0, a1, a2, a3, a4, a5, a6, a7]) (BW : Below w.heap.size w wc) (h5 : w.heap.size ≤ p5) (hne : p ≠ p5) :
    RdH (set8 wc p5 X' s') s' X' ∧ (∀ wr', (set8 wc p5 X' s').grownBy wr' (some p5) → RdH wr' s' X') ∧ Whole (set8 wc p5 X' s') p 26 (hcs H s) ∧ Whole (set8 wc p5 X' s') p5 26 (hcs X' s') ∧ Below w.heap.size w (set8 wc p5 X' s') := by
  obtain ⟨k1, gs⟩ := set8_any (H := X') (s := s') K5
  exact ⟨(O'.other K5 gs).rd, fun wr' g => ((O'.other K5 gs).other k1 g).rd, KP.grown gs hne, k1, below_grown BW gs BW.size h5⟩
set_option maxRecDepth 100000 in
set_option maxHeartbeats 4000000 in
theorem fills_walk (s : HSl) (H : Hp) (w : World) (hT : Tab w) (h : RdH w s H) :
    Calls Tryz.prog 8 #[hval H s] w (Tells w (.bool true)) := by
  have HT := Lib.hid hT
  have HR := Lib.hid h
  have S1 := fun (W : World) (b : Below w.heap.size w W) => refBig_any s H W (h.below b)
  have S2 := fun (W : World) (b : Below w.heap.size w W) (hS : SmallH H) => check_heap s H W (h.below b) hS (hT.below b)
  clear hT h
  have LA := lawAlloc_any
  unfold opv opcs at LA
  simp only at LA
  have LAH := Lib.hid LA
  clear LA
  go_enter Tryz.func8, Tryz.ntmps8
  obtain ⟨A, n, c, F, m, d⟩ := s
  simp only [hval, hcs] at *
  obtain ⟨p, W, hW, hp, K, bw⟩ := box_heap w (.int .i64 H.od) (.slice A n c) (.int .i64 H.nx) (.int .i64 (tget H 0)) (.int .i64 (tget H 1)) (.int .i64 (tget H 2)) (.int .i64 (tget H 3)) (.slice F m d)
  have S1 := S1 W bw
  go_upto_region 1 with (fail)
  try rw [hW]
  rw [← hp]
  have HP := Lib.hid hp
  clear hW hp
  obtain ⟨c0, c1, c2, c3, c4, c5, c6, c7⟩ := K.eight
  have KH := Lib.hid K
  have BH := Lib.hid bw
  clear K bw
  by_cases hR : RightH H
  case neg =>
    have hc := chkH_no hR
    rw [hc] at S2
    clear hc hR
    go_wp2_with (first
      | (go_at_call 11; refine S1.mono ?_; rintro e w1 ⟨q, rfl, hq, g1⟩; have HB1 := Lib.hid (BH.out.trans (g1.below.mono BH.out.size)); obtain ⟨d0, d1, d2, d3, d4, d5, d6, d7⟩ := (KH.out.below g1.below).eight; cases q)
      | (go_at_call 18; refine (S2 _ HB1.out (hq (by first | rfl | trivial))).mono ?_; rintro e w3 ⟨rfl, b3⟩; have HB2 := Lib.hid (HB1.out.trans (b3.mono HB1.out.size)))
      | (go_at_call 19; refine (fresh_any _ (HT.out.below (by first | exact HB2.out | exact HB1.out))).mono ?_; rintro e w4 ⟨rfl, b4⟩))
    all_goals
      go_ret
      first
        | exact ⟨rfl, HB2.out.trans (b4.mono HB2.out.size)⟩
        | exact ⟨rfl, HB1.out.trans (b4.mono HB1.out.size)⟩
  have hc := chkH_yes hR
  rw [hc] at S2
  clear hc
  by_cases hN : 999700 < H.nx
  case pos =>
    have gN : decide (999700 < H.nx) = true := decide_eq_true hN
    clear hN hR
    go_wp2_with (first
      | (go_at_call 11; refine S1.mono ?_; rintro e w1 ⟨q, rfl, hq, g1⟩; have HB1 := Lib.hid (BH.out.trans (g1.below.mono BH.out.size)); obtain ⟨d0, d1, d2, d3, d4, d5, d6, d7⟩ := (KH.out.below g1.below).eight; cases q)
      | (go_at_call 18; refine (S2 _ HB1.out (hq (by first | rfl | trivial))).mono ?_; rintro e w3 ⟨rfl, b3⟩; have HB2 := Lib.hid (HB1.out.trans (b3.mono HB1.out.size)); have e2 := (KH.out.below (g1.below.trans (b3.mono g1.below.size))).cell 2; simp only [List.getElem?_cons_succ, List.getElem?_cons_zero] at e2)
      | (go_at_call 19; refine (fresh_any _ (HT.out.below (by first | exact HB2.out | exact HB1.out))).mono ?_; rintro e w4 ⟨rfl, b4⟩))
    all_goals
      go_ret
      first
        | exact ⟨rfl, HB2.out.trans (b4.mono HB2.out.size)⟩
        | exact ⟨rfl, HB1.out.trans (b4.mono HB1.out.size)⟩
  have gN : decide (999700 < H.nx) = false := decide_eq_false hN
  go_upto_region 3 with (first
    | (go_at_call 11; refine S1.mono ?_; rintro e w1 ⟨q, rfl, hq, g1⟩; have HB1 := Lib.hid (BH.out.trans (g1.below.mono BH.out.size)); obtain ⟨d0, d1, d2, d3, d4, d5, d6, d7⟩ := (KH.out.below g1.below).eight; cases q)
    | (go_at_call 18; refine (S2 _ HB1.out (hq (by first | rfl | trivial))).mono ?_; rintro e w3 ⟨rfl, b3⟩; have HB2 := Lib.hid (HB1.out.trans (b3.mono HB1.out.size)); have e2 := (KH.out.below (g1.below.trans (b3.mono g1.below.size))).cell 2; simp only [List.getElem?_cons_succ, List.getElem?_cons_zero] at e2)
    | (go_at_call 19; refine (fresh_any _ (HT.out.below HB1.out)).mono ?_; rintro e w4 ⟨rfl, b4⟩))
  rotate_left
  · go_ret
    exact ⟨rfl, HB1.out.trans (b4.mono HB1.out.size)⟩
  have hs := Lib.hid (hq (by first | rfl | trivial))
  have KQ := Lib.hid (KH.out.below (g1.below.trans (b3.mono g1.below.size)))
  clear S1 S2 hq g1 c0 c1 c2 c3 c4 c5 c6 c7 d0 d1 d2 d3 d4 d5 d6 d7 KH BH HB1 b3 e2
  have R3 := Lib.hid (HR.out.below HB2.out)
  have HRt := Lib.hid hR
  have Hpl := Lib.hid (show w.heap.size ≤ p by rw [HP.out]; exact Nat.le_refl _)
  have hnx := hR.nx.1
  obtain ⟨N, hNs⟩ : ∃ N : Nat, sumL H.fr = (N : Int) := Int.eq_ofNat_of_zero_le (sumL_bound H.fr (fun b hb => by have h1 := hR.fr.1; have h2 := (may_box h1.2 (hR.fr.may hb)).1; omega)).1
  have hN256 : N ≤ 256 := by
    have h1 := hR.sum
    unfold blks at h1
    rw [sumL_append] at h1
    have h2 := sumL_ge (H.obs.map Ob.bl)
    have h3 := sz_le256 (o := H.od) (by have := hR.fr.1.1; omega) hR.fr.1.2
    omega
  have HN := Lib.hid hNs
  have hm600 : m ≤ 600 := by have h1 := HR.out.fr.len; have h2 := hs.out.2.1; simp only at h1; omega
  clear hR hNs
  obtain ⟨e0, e1, e2, e3, e4, e5, e6, e7⟩ := KQ.out.eight
  go_upto_region 5 with (fail)
  go_loopw [3, 4] (SumRel H.fr w3) (fun _ i _ => m - (intOf i).toNat)
  case atStart => exact ⟨0, Nat.zero_le _, by simp [sumL], rfl, rfl⟩
  case round =>
    obtain ⟨k, hk, rfl, rfl, rfl⟩ := hrel
    have hlen := R3.out.fr.len
    simp only at hlen
    by_cases hlt : k < m
    · obtain ⟨b', off, ⟨x0, x1⟩, rfl, hbl, hx, hc0, hc1⟩ := R3.out.fr.cell hlt
      have hmy := HRt.out.fr.may (List.mem_of_getElem? hx)
      have h8 := HRt.out.fr.1.2
      have ho := (may_box h8 hmy).1
      simp only at ho hc0 hc1
      have S := words_any x1
      rw [wordsI_in ho.1 ho.2] at S
      have hs2 := sz_le256 ho.1 ho.2
      have hs3 := sz_pos x1
      have hst := Lib.hid (show sumL (H.fr.take (k + 1)) = sumL (H.fr.take k) + sz x1 by rw [take_snocB hx, sumL_snoc])
      have hsb := sumL_bound (H.fr.take k) fun b hm => (may_box h8 (HRt.out.fr.may (List.mem_of_mem_take hm))).1
      have htl : (H.fr.take k).length ≤ 1000 := by rw [List.length_take]; omega
      obtain ⟨sm, hsm⟩ : ∃ sm, sm = sumL (H.fr.take k) := ⟨_, rfl⟩
      obtain ⟨z, hz⟩ : ∃ z, z = sz x1 := ⟨_, rfl⟩
      rw [← hsm] at hsb hst ⊢
      rw [← hz] at S hs2 hs3 hst
      have hsb2 : sm ≤ 256000 := by omega
      have hsb1 := hsb.1
      have hki : (k : Int) < (m : Int) := by omega
      clear hsm hz hx ho hsb htl hmy
      go_wp2_with (go_at_call 24; refine (S _).mono ?_; rintro e w1 ⟨rfl, rfl⟩)
      go_roundw
      case rel => exact ⟨k + 1, by omega, by rw [hst.out], by go_num, rfl⟩
      case measure => simp [intOf]; omega
    · obtain rfl : k = m := by omega
      rw [List.take_of_length_le (by omega), HN.out]
      clear hlt hlen
      go_upto_region 9 with (fail)
      obtain ⟨p5, W5, hW5, hp5, K5, bw5⟩ := box_heap w3 (.int .i64 H.od) (.slice A n c) (.int .i64 H.nx) (.int .i64 (tget H 0)) (.int .i64 (tget H 1)) (.int .i64 (tget H 2)) (.int .i64 (tget H 3)) (.slice F k d)
      rw [hW5, ← hp5]
      have Hne := Lib.hid (show p ≠ p5 by rw [hp5]; have := KQ.out.lt; omega)
      have Hp5 := Lib.hid (show w.heap.size ≤ p5 by rw [hp5]; exact HB2.out.size)
      have ST := Lib.hid (show FlH w p p5 H ⟨A, n, c, F, k, d⟩ (.int .i64 (([] : List Int).length : Int)) W5 from ⟨[], H, ⟨A, n, c, F, k, d⟩, rfl, FilledH.start HRt.out, R3.out.below bw5, fun wr' g => HR.out.below ((HB2.out.trans (bw5.mono HB2.out.size)).grown g (Nat.le_trans HB2.out.size bw5.size) fun q hq => by injection hq with hq; subst hq; exact Hp5.out), KQ.out.below bw5, K5, HB2.out.trans (bw5.mono HB2.out.size)⟩)
      clear K5 bw5 hW5 hp5 e0 e1 e2 e3 e4 e5 e6 e7 KQ R3 HB2
      go_upto_region 10 with (fail)
      go_loopw [6] (FlH w p p5 H ⟨A, n, c, F, k, d⟩) (fun i _ => N - (intOf i).toNat)
      case atStart => exact ST.out
      case round =>
        clear ST
        obtain ⟨ps, X, s', rfl, hF, rx, fx, kp, k5, bx⟩ := hrel
        have HF := Lib.hid hF
        have KP := Lib.hid kp
        have RX := Lib.hid rx
        have BX := Lib.hid bx
        have FX := Lib.hid fx
        have SX := Lib.hid (right_small hF.2.2)
        have hle : ps.length ≤ N := by have h1 := hF.le; have := HN.out; omega
        obtain ⟨A5, n5, c5, F5, m5, d5⟩ := s'
        simp only [hcs] at k5 kp
        have K5 := Lib.hid k5
        obtain ⟨x0, x1, x2, x3, x4, x5, x6, x7⟩ := k5.eight
        have kp2 := kp.cell 2
        simp only [List.getElem?_cons_succ, List.getElem?_cons_zero] at kp2
        clear hF rx fx kp k5 bx
        obtain ⟨kk, hkk⟩ : ∃ kk, kk = ps.length := ⟨_, rfl⟩
        rw [← hkk] at hle ⊢
        have Hkk := Lib.hid hkk
        clear hkk
        by_cases hlt : kk < N
        · obtain ⟨q, X', hF', hal⟩ := HF.out.step (by rw [← Hkk.out, HN.out]; omega) (by rw [← Hkk.out]; omega)
          rw [← Hkk.out] at hal
          obtain ⟨rv, hrv⟩ : ∃ rv, rv = H.nx + (kk : Int) := ⟨_, rfl⟩
          obtain ⟨rc, hrc⟩ : ∃ rc : Int, rc = 0 := ⟨_, rfl⟩
          have hal : allocH X 0 0 = (X', rc, rv) := by rw [hal, hrc, hrv]
          have S := Lib.hid fun (W' : World) (bl : Below wr.heap.size wr W') => (by
            have h1 := do_heap ⟨A5, n5, c5, F5, m5, d5⟩ X ⟨1, 0, 0, 0, 0, 0, 0⟩ W' (RX.out.below bl) SX.out (HT.out.below (BX.out.trans (bl.mono BX.out.size)))
            rw [doH_right HF.out.2.2, doneH_alloc rfl, show allocH X 0 0 = (X', rc, rv) from hal] at h1
            simp only [hval, hcs, opv, opcs] at h1
            exact h1 : Calls Tryz.prog 13 #[.agg #[.int .i64 X.od, .slice A5 n5 c5, .int .i64 X.nx, .int .i64 (tget X 0), .int .i64 (tget X 1), .int .i64 (tget X 2), .int .i64 (tget X 3), .slice F5 m5 d5], .agg #[.int .i64 1, .int .i64 0, .int .i64 0, .int .i64 0, .int .i64 0, .int .i64 0, .int .i64 0]] W' (InPost W' W'.heap.size (X', rc, rv)))
          have HF' := Lib.hid hF'
          have Hrv := Lib.hid hrv
          have Hrc := Lib.hid hrc
          have hki : (kk : Int) < (N : Int) := by omega
          generalize X' = H' at S HF' hal
          clear hal hF' hrv hrc
          go_upto_region 12 with (fail)
          go_cut [7, 8] (BxRel w.heap.size wr H' rc rv)
          case first =>
            have mkS := Lib.hid fun (W : World) (bl : Below wr.heap.size wr W) => (K5.out.below bl).eight
            clear x0 x1 x2 x3 x4 x5 x6 x7 kp2 HF HF' Hrv Hrc hle hki Hkk KP RX SX
            repeat (rename ∀ (a : Act) (w : World), Code.wp _ _ _ a w → _ => hh; clear hh)
            go_region_held3 (fun W => W.cell? ⟨p5, 0, none⟩ = some (.int .i64 X.od) ∧ W.cell? ⟨p5, 1, none⟩ = some (.slice A5 n5 c5) ∧ W.cell? ⟨p5, 2, none⟩ = some (.int .i64 X.nx) ∧ W.cell? ⟨p5, 3, none⟩ = some (.int .i64 (tget X 0)) ∧ W.cell? ⟨p5, 4, none⟩ = some (.int .i64 (tget X 1)) ∧ W.cell? ⟨p5, 5, none⟩ = some (.int .i64 (tget X 2)) ∧ W.cell? ⟨p5, 6, none⟩ = some (.int .i64 (tget X 3)) ∧ W.cell? ⟨p5, 7, none⟩ = some (.slice F5 m5 d5)) (((with_reducible refine mkS.out _ ?_); first | ((repeat (first | (with_reducible refine bel_alloc ?_ _) | (with_reducible refine Below.setCell ?_ (by dsimp only; first | omega | (simp; omega)) _) | (with_reducible refine Below.drew ?_))); first | (with_reducible exact Below.refl _ _) | (with_reducible exact HB5.out)) | ((repeat (first | (with_reducible refine bel_alloc ?_ _) | (with_reducible refine Below.setCell ?_ (by dsimp only; first | omega | (simp; omega)) _) | (with_reducible refine Below.drew ?_))); first | (with_reducible exact Below.refl _ _) | (with_reducible exact HB1.out)) | ((repeat (first | (with_reducible refine bel_alloc ?_ _) | (with_reducible refine Below.setCell ?_ (by dsimp only; first | omega | (simp; omega)) _) | (with_reducible refine Below.drew ?_))); first | (with_reducible exact Below.refl _ _) | (with_reducible exact trivial)))) ((first
              | (go_at_call 20; refine (LAH.out _ _ _).mono ?_; rintro e W1 ⟨rfl, G1⟩; have HB1 := Lib.hid (bel_grew (w := wr) (by ((repeat (first | (with_reducible refine bel_alloc ?_ _) | (with_reducible refine Below.setCell ?_ (by dsimp only; first | omega | (simp; omega)) _) | (with_reducible refine Below.drew ?_))); first | (with_reducible exact Below.refl _ _) | (with_reducible exact trivial))) G1); have hz1 := HB1.out.size; (try (have K6 := whole_grew (t := 26) (cs := zcs) (by ((repeat (first | ((with_reducible apply whole_new'); rfl) | (with_reducible apply Whole.alloc) | (with_reducible apply Whole.drew))); first | done | (with_reducible exact trivial))) G1; (try simp only [size_alloc] at K6); have HK6 := Lib.hid K6; have hl6 := K6.lt; clear K6)); (try (have K7 := whole_grew (t := 34) (cs := rcs) (by ((repeat (first | ((with_reducible apply whole_new'); rfl) | (with_reducible apply Whole.alloc) | (with_reducible apply Whole.drew))); first | done | (with_reducible exact trivial))) G1; (try simp only [size_alloc] at K7); have HK7 := Lib.hid K7; have hl7 := K7.lt; clear K7)); clear G1)
              | (go_at_call 13; (with_reducible refine Calls.mono (S.out _ (by ((repeat (first | (with_reducible refine bel_alloc ?_ _) | (with_reducible refine Below.setCell ?_ (by dsimp only; first | omega | (simp; omega)) _) | (with_reducible refine Below.drew ?_))); first | (with_reducible exact Below.refl _ _) | (with_reducible exact HB1.out)))) ?_); rintro e w5 ⟨⟨A6, n6, c6', F6, k6, d6⟩, os6, rfl, O6, b6⟩; simp only [hval, hcs]; have hV := Lib.hid (bel_is (w := wr) (by ((repeat (first | (with_reducible refine bel_alloc ?_ _) | (with_reducible refine Below.setCell ?_ (by dsimp only; first | omega | (simp; omega)) _) | (with_reducible refine Below.drew ?_))); first | (with_reducible exact Below.refl _ _) | (with_reducible exact HB1.out))) b6); have HB5 := Lib.hid (hV.out.trans (b6.mono hV.out.size)); have hz5 := HB5.out.size; (try (have V6 := whole_is (t := 26) (cs := zcs) (by ((repeat (first | ((with_reducible apply whole_new'); rfl) | (with_reducible apply Whole.alloc) | (with_reducible apply Whole.drew))); first | done | (with_reducible exact HK6.out))) b6; (try simp only [size_alloc] at V6); have HV6 := Lib.hid V6; have M6 := V6.below b6; obtain ⟨m0, m1, m2, m3, m4, m5, m6, m7⟩ := M6.eight; have mf := M6.free; have ml := M6.lt; have mn := Nat.ne_of_lt M6.lt; have mn' := (Nat.ne_of_lt M6.lt).symm; have m0A := fun o => Lib.cell?_alloc_some o m0; have m1A := fun o => Lib.cell?_alloc_some o m1; have m2A := fun o => Lib.cell?_alloc_some o m2; have m3A := fun o => Lib.cell?_alloc_some o m3; have m4A := fun o => Lib.cell?_alloc_some o m4; have m5A := fun o => Lib.cell?_alloc_some o m5; have m6A := fun o => Lib.cell?_alloc_some o m6; have m7A := fun o => Lib.cell?_alloc_some o m7; have mfA := fun (o : Obj) j => (M6.alloc o).free j; clear M6 V6)); (try (have V7 := whole_is (t := 34) (cs := rcs) (by ((repeat (first | ((with_reducible apply whole_new'); rfl) | (with_reducible apply Whole.alloc) | (with_reducible apply Whole.drew))); first | done | (with_reducible exact HK7.out))) b6; (try simp only [size_alloc] at V7); have HV7 := Lib.hid V7; have M7 := V7.below b6; obtain ⟨q0, q1⟩ := M7.two'; have qf := M7.free; have ql := M7.lt; have qn := Nat.ne_of_lt M7.lt; have qn' := (Nat.ne_of_lt M7.lt).symm; have q0A := fun o => Lib.cell?_alloc_some o q0; have q1A := fun o => Lib.cell?_alloc_some o q1; have qfA := fun (o : Obj) j => (M7.alloc o).free j; clear M7 V7)); (try (have hbb := box_beside (HV6.out.below b6) (b0 := .int .i64 0) (b1 := .int .i64 0) (HV7.out.below b6); have qs0 := hbb.1; have qs1 := hbb.2.1; have qsf := hbb.2.2; clear hbb)))))
            · go_wp2_with fail
              go_meet
              exact bx_a1 BX.out.size hV.out O6 b6
            · go_wp2_with fail
              go_meet
              exact bx_a2 BX.out.size hV.out O6 b6
            · go_wp2_with fail
              go_meet
              have hb := bx_b (rc := rc) (rv := rv) BX.out.size hV.out O6 b6 HV6.out (by omega); (try unfold set2 at hb); (try unfold set8 at hb); (try simp only at hb); exact hb
            · go_wp2_with fail
              go_meet
              have hb := bx_d (rc := rc) (rv := rv) BX.out.size hV.out O6 b6 HV6.out (by first | omega | (simp; done)) HV7.out (by first | omega | (simp; done)) (by first | omega | (simp; done)); (try unfold set2 at hb); (try unfold set8 at hb); (try simp only at hb); exact hb
            · go_wp2_with fail
              go_meet
              have hb := bx_c (rc := rc) (rv := rv) BX.out.size hV.out O6 b6 HV7.out (by omega); (try unfold set2 at hb); (try unfold set8 at hb); (try simp only [hcs] at hb); exact hb
            · go_wp2_with fail
              go_meet
              have hb := bx_d (rc := rc) (rv := rv) BX.out.size hV.out O6 b6 HV6.out (by first | omega | (simp; done)) HV7.out (by first | omega | (simp; done)) (by first | omega | (simp; done)); (try unfold set2 at hb); (try unfold set8 at hb); (try simp only at hb); exact hb
            · go_wp2_with fail
              go_meet
              have hb := bx_b (rc := rc) (rv := rv) BX.out.size hV.out O6 b6 HV6.out (by omega); (try unfold set2 at hb); (try unfold set8 at hb); (try simp only at hb); exact hb
            · go_wp2_with fail
              go_meet
              have hb := bx_d (rc := rc) (rv := rv) BX.out.size hV.out O6 b6 HV6.out (by first | omega | (simp; done)) HV7.out (by first | omega | (simp; done)) (by first | omega | (simp; done)); (try unfold set2 at hb); (try unfold set8 at hb); (try simp only at hb); exact hb
            · go_wp2_with fail
              go_meet
              have hb := bx_d (rc := rc) (rv := rv) BX.out.size hV.out O6 b6 HV6.out (by first | omega | (simp; done)) HV7.out (by first | omega | (simp; done)) (by first | omega | (simp; done)); (try unfold set2 at hb); (try unfold set8 at hb); (try simp only at hb); exact hb
            · go_wp2_with fail
              go_meet
              have hb := bx_c (rc := rc) (rv := rv) BX.out.size hV.out O6 b6 HV7.out (by omega); (try unfold set2 at hb); (try unfold set8 at hb); (try simp only [hcs] at hb); exact hb
            · go_wp2_with fail
              go_meet
              have hb := bx_d (rc := rc) (rv := rv) BX.out.size hV.out O6 b6 HV6.out (by first | omega | (simp; done)) HV7.out (by first | omega | (simp; done)) (by first | omega | (simp; done)); (try unfold set2 at hb); (try unfold set8 at hb); (try simp only at hb); exact hb
            · go_wp2_with fail
              go_meet
              have hb := bx_d (rc := rc) (rv := rv) BX.out.size hV.out O6 b6 HV6.out (by first | omega | (simp; done)) HV7.out (by first | omega | (simp; done)) (by first | omega | (simp; done)); (try unfold set2 at hb); (try unfold set8 at hb); (try simp only at hb); exact hb
          case rest =>
            obtain ⟨s', os', p7, p8, rfl, rfl, O', K7, K8, bl⟩ := hcut
            obtain ⟨A7, n7, c7, F7, m7, d7⟩ := s'
            have kp := KP.out.below bl
            have k5 := K5.out.below bl
            have hb := BX.out.trans (bl.mono BX.out.size)
            obtain ⟨r0, r1⟩ := K8.two'
            have K7' := K7
            simp only [hcs] at K7'
            obtain ⟨y0, y1, y2, y3, y4, y5, y6, y7⟩ := K7'.eight
            have kp2 := kp.cell 2
            simp only [hcs, List.getElem?_cons_succ, List.getElem?_cons_zero] at kp2
            obtain ⟨t0, t1, t2, t3, t4, t5, t6, t7⟩ := k5.eight
            have tf := k5.free
            have HS := fl_store (s := ⟨A, n, c, F, k, d⟩) (H := H) O' (by simp only [hcs]; exact kp) k5 hb Hp5.out Hne.out
            have H5 := Lib.hid (show FlH w p p5 H ⟨A, n, c, F, k, d⟩ (.int .i64 ((kk + 1 : Nat) : Int)) (set8 wc p5 H' ⟨A7, n7, c7, F7, m7, d7⟩) from ⟨ps ++ [q], H', _, by rw [List.length_append, List.length_singleton, ← Hkk.out], HF'.out, HS.1, HS.2.1, HS.2.2.1, HS.2.2.2.1, HS.2.2.2.2⟩)
            unfold set8 at H5
            simp only at H5
            have hrc := Hrc.out
            have hw : IntKind.i64.wrap (H.nx + (kk : Int)) = rv := by rw [Hrv.out, IntKind.wrap_i64]; omega
            have hki1 : IntKind.i64.wrap ((kk : Int) + 1) = ((kk + 1 : Nat) : Int) := by rw [IntKind.wrap_i64]; omega
            subst hrc
            clear O' K7 K7' K8 kp k5 hb HS KP K5 RX BX SX HF HF' S x0 x1 x2 x3 x4 x5 x6 x7 Hrv Hrc bl
            go_wp2_with fail
            go_roundw
            case rel => first | exact H5.out | (have h9 := H5.out; push_cast at h9; exact h9)
            case measure => simp [intOf]; omega
        · obtain rfl : kk = N := by omega
          obtain ⟨hfull, hal⟩ := HF.out.full (by rw [← Hkk.out, HN.out]) (by rw [← Hkk.out]; omega)
          have hT0 : Taken H.od H.fr ps [] := by have h1 := HF.out.2.1; rw [hfull] at h1; exact h1
          have HT0 := Lib.hid hT0
          have HE0 := Lib.hid (EmptyH.start HF.out (by rw [← Hkk.out, HN.out]))
          have hm5 : m5 = 0 := by have h1 := RX.out.fr.len; rw [hfull] at h1; simp only [List.length_nil] at h1; exact h1.symm
          obtain ⟨rc, hrc⟩ : ∃ rc : Int, rc = 50 := ⟨_, rfl⟩
          obtain ⟨rv, hrv⟩ : ∃ rv : Int, rv = 0 := ⟨_, rfl⟩
          have hal : allocH X 0 0 = (X, rc, rv) := by rw [hal, hrc, hrv]
          have S := Lib.hid fun (W' : World) (bl : Below wr.heap.size wr W') => (by
            have h1 := do_heap ⟨A5, n5, c5, F5, m5, d5⟩ X ⟨1, 0, 0, 0, 0, 0, 0⟩ W' (RX.out.below bl) SX.out (HT.out.below (BX.out.trans (bl.mono BX.out.size)))
            rw [doH_right HF.out.2.2, doneH_alloc rfl, show allocH X 0 0 = (X, rc, rv) from hal] at h1
            simp only [hval, hcs, opv, opcs] at h1
            exact h1 : Calls Tryz.prog 13 #[.agg #[.int .i64 X.od, .slice A5 n5 c5, .int .i64 X.nx, .int .i64 (tget X 0), .int .i64 (tget X 1), .int .i64 (tget X 2), .int .i64 (tget X 3), .slice F5 m5 d5], .agg #[.int .i64 1, .int .i64 0, .int .i64 0, .int .i64 0, .int .i64 0, .int .i64 0, .int .i64 0]] W' (InPost W' W'.heap.size (X, rc, rv)))
          have Hrc := Lib.hid hrc
          have Hrv := Lib.hid hrv
          have Hm5 := Lib.hid hm5
          clear hal hrc hrv hfull hT0 hm5
          go_upto_region 16 with (fail)
          go_cut [9, 10] (BxRel w.heap.size wr X rc rv)
          case first =>
            have mkS := Lib.hid fun (W : World) (bl : Below wr.heap.size wr W) => (K5.out.below bl).eight
            clear x0 x1 x2 x3 x4 x5 x6 x7 kp2 HF Hrv Hrc hle Hkk KP RX SX HE0 HT0 Hm5
            repeat (rename ∀ (a : Act) (w : World), Code.wp _ _ _ a w → _ => hh; clear hh)
            go_region_held3 (fun W => W.cell? ⟨p5, 0, none⟩ = some (.int .i64 X.od) ∧ W.cell? ⟨p5, 1, none⟩ = some (.slice A5 n5 c5) ∧ W.cell? ⟨p5, 2, none⟩ = some (.int .i64 X.nx) ∧ W.cell? ⟨p5, 3, none⟩ = some (.int .i64 (tget X 0)) ∧ W.cell? ⟨p5, 4, none⟩ = some (.int .i64 (tget X 1)) ∧ W.cell? ⟨p5, 5, none⟩ = some (.int .i64 (tget X 2)) ∧ W.cell? ⟨p5, 6, none⟩ = some (.int .i64 (tget X 3)) ∧ W.cell? ⟨p5, 7, none⟩ = some (.slice F5 m5 d5)) (((with_reducible refine mkS.out _ ?_); first | ((repeat (first | (with_reducible refine bel_alloc ?_ _) | (with_reducible refine Below.setCell ?_ (by dsimp only; first | omega | (simp; omega)) _) | (with_reducible refine Below.drew ?_))); first | (with_reducible exact Below.refl _ _) | (with_reducible exact HB5.out)) | ((repeat (first | (with_reducible refine bel_alloc ?_ _) | (with_reducible refine Below.setCell ?_ (by dsimp only; first | omega | (simp; omega)) _) | (with_reducible refine Below.drew ?_))); first | (with_reducible exact Below.refl _ _) | (with_reducible exact HB1.out)) | ((repeat (first | (with_reducible refine bel_alloc ?_ _) | (with_reducible refine Below.setCell ?_ (by dsimp only; first | omega | (simp; omega)) _) | (with_reducible refine Below.drew ?_))); first | (with_reducible exact Below.refl _ _) | (with_reducible exact trivial)))) ((first
              | (go_at_call 20; refine (LAH.out _ _ _).mono ?_; rintro e W1 ⟨rfl, G1⟩; have HB1 := Lib.hid (bel_grew (w := wr) (by ((repeat (first | (with_reducible refine bel_alloc ?_ _) | (with_reducible refine Below.setCell ?_ (by dsimp only; first | omega | (simp; omega)) _) | (with_reducible refine Below.drew ?_))); first | (with_reducible exact Below.refl _ _) | (with_reducible exact trivial))) G1); have hz1 := HB1.out.size; (try (have K6 := whole_grew (t := 26) (cs := zcs) (by ((repeat (first | ((with_reducible apply whole_new'); rfl) | (with_reducible apply Whole.alloc) | (with_reducible apply Whole.drew))); first | done | (with_reducible exact trivial))) G1; (try simp only [size_alloc] at K6); have HK6 := Lib.hid K6; have hl6 := K6.lt; clear K6)); (try (have K7 := whole_grew (t := 34) (cs := rcs) (by ((repeat (first | ((with_reducible apply whole_new'); rfl) | (with_reducible apply Whole.alloc) | (with_reducible apply Whole.drew))); first | done | (with_reducible exact trivial))) G1; (try simp only [size_alloc] at K7); have HK7 := Lib.hid K7; have hl7 := K7.lt; clear K7)); clear G1)
              | (go_at_call 13; (with_reducible refine Calls.mono (S.out _ (by ((repeat (first | (with_reducible refine bel_alloc ?_ _) | (with_reducible refine Below.setCell ?_ (by dsimp only; first | omega | (simp; omega)) _) | (with_reducible refine Below.drew ?_))); first | (with_reducible exact Below.refl _ _) | (with_reducible exact HB1.out)))) ?_); rintro e w5 ⟨⟨A6, n6, c6', F6, k6, d6⟩, os6, rfl, O6, b6⟩; simp only [hval, hcs]; have hV := Lib.hid (bel_is (w := wr) (by ((repeat (first | (with_reducible refine bel_alloc ?_ _) | (with_reducible refine Below.setCell ?_ (by dsimp only; first | omega | (simp; omega)) _) | (with_reducible refine Below.drew ?_))); first | (with_reducible exact Below.refl _ _) | (with_reducible exact HB1.out))) b6); have HB5 := Lib.hid (hV.out.trans (b6.mono hV.out.size)); have hz5 := HB5.out.size; (try (have V6 := whole_is (t := 26) (cs := zcs) (by ((repeat (first | ((with_reducible apply whole_new'); rfl) | (with_reducible apply Whole.alloc) | (with_reducible apply Whole.drew))); first | done | (with_reducible exact HK6.out))) b6; (try simp only [size_alloc] at V6); have HV6 := Lib.hid V6; have M6 := V6.below b6; obtain ⟨m0, m1, m2, m3, m4, m5, m6, m7⟩ := M6.eight; have mf := M6.free; have ml := M6.lt; have mn := Nat.ne_of_lt M6.lt; have mn' := (Nat.ne_of_lt M6.lt).symm; have m0A := fun o => Lib.cell?_alloc_some o m0; have m1A := fun o => Lib.cell?_alloc_some o m1; have m2A := fun o => Lib.cell?_alloc_some o m2; have m3A := fun o => Lib.cell?_alloc_some o m3; have m4A := fun o => Lib.cell?_alloc_some o m4; have m5A := fun o => Lib.cell?_alloc_some o m5; have m6A := fun o => Lib.cell?_alloc_some o m6; have m7A := fun o => Lib.cell?_alloc_some o m7; have mfA := fun (o : Obj) j => (M6.alloc o).free j; clear M6 V6)); (try (have V7 := whole_is (t := 34) (cs := rcs) (by ((repeat (first | ((with_reducible apply whole_new'); rfl) | (with_reducible apply Whole.alloc) | (with_reducible apply Whole.drew))); first | done | (with_reducible exact HK7.out))) b6; (try simp only [size_alloc] at V7); have HV7 := Lib.hid V7; have M7 := V7.below b6; obtain ⟨q0, q1⟩ := M7.two'; have qf := M7.free; have ql := M7.lt; have qn := Nat.ne_of_lt M7.lt; have qn' := (Nat.ne_of_lt M7.lt).symm; have q0A := fun o => Lib.cell?_alloc_some o q0; have q1A := fun o => Lib.cell?_alloc_some o q1; have qfA := fun (o : Obj) j => (M7.alloc o).free j; clear M7 V7)); (try (have hbb := box_beside (HV6.out.below b6) (b0 := .int .i64 0) (b1 := .int .i64 0) (HV7.out.below b6); have qs0 := hbb.1; have qs1 := hbb.2.1; have qsf := hbb.2.2; clear hbb)))))
            · go_wp2_with fail
              go_meet
              exact bx_a1 BX.out.size hV.out O6 b6
            · go_wp2_with fail
              go_meet
              exact bx_a2 BX.out.size hV.out O6 b6
            · go_wp2_with fail
              go_meet
              have hb := bx_b (rc := rc) (rv := rv) BX.out.size hV.out O6 b6 HV6.out (by omega); (try unfold set2 at hb); (try unfold set8 at hb); (try simp only at hb); exact hb
            · go_wp2_with fail
              go_meet
              have hb := bx_d (rc := rc) (rv := rv) BX.out.size hV.out O6 b6 HV6.out (by first | omega | (simp; done)) HV7.out (by first | omega | (simp; done)) (by first | omega | (simp; done)); (try unfold set2 at hb); (try unfold set8 at hb); (try simp only at hb); exact hb
            · go_wp2_with fail
              go_meet
              have hb := bx_c (rc := rc) (rv := rv) BX.out.size hV.out O6 b6 HV7.out (by omega); (try unfold set2 at hb); (try unfold set8 at hb); (try simp only [hcs] at hb); exact hb
            · go_wp2_with fail
              go_meet
              have hb := bx_d (rc := rc) (rv := rv) BX.out.size hV.out O6 b6 HV6.out (by first | omega | (simp; done)) HV7.out (by first | omega | (simp; done)) (by first | omega | (simp; done)); (try unfold set2 at hb); (try unfold set8 at hb); (try simp only at hb); exact hb
            · go_wp2_with fail
              go_meet
              have hb := bx_b (rc := rc) (rv := rv) BX.out.size hV.out O6 b6 HV6.out (by omega); (try unfold set2 at hb); (try unfold set8 at hb); (try simp only at hb); exact hb
            · go_wp2_with fail
              go_meet
              have hb := bx_d (rc := rc) (rv := rv) BX.out.size hV.out O6 b6 HV6.out (by first | omega | (simp; done)) HV7.out (by first | omega | (simp; done)) (by first | omega | (simp; done)); (try unfold set2 at hb); (try unfold set8 at hb); (try simp only at hb); exact hb
            · go_wp2_with fail
              go_meet
              have hb := bx_d (rc := rc) (rv := rv) BX.out.size hV.out O6 b6 HV6.out (by first | omega | (simp; done)) HV7.out (by first | omega | (simp; done)) (by first | omega | (simp; done)); (try unfold set2 at hb); (try unfold set8 at hb); (try simp only at hb); exact hb
            · go_wp2_with fail
              go_meet
              have hb := bx_c (rc := rc) (rv := rv) BX.out.size hV.out O6 b6 HV7.out (by omega); (try unfold set2 at hb); (try unfold set8 at hb); (try simp only [hcs] at hb); exact hb
            · go_wp2_with fail
              go_meet
              have hb := bx_d (rc := rc) (rv := rv) BX.out.size hV.out O6 b6 HV6.out (by first | omega | (simp; done)) HV7.out (by first | omega | (simp; done)) (by first | omega | (simp; done)); (try unfold set2 at hb); (try unfold set8 at hb); (try simp only at hb); exact hb
            · go_wp2_with fail
              go_meet
              have hb := bx_d (rc := rc) (rv := rv) BX.out.size hV.out O6 b6 HV6.out (by first | omega | (simp; done)) HV7.out (by first | omega | (simp; done)) (by first | omega | (simp; done)); (try unfold set2 at hb); (try unfold set8 at hb); (try simp only at hb); exact hb
          case rest =>
            obtain ⟨s', os', p9, p10, rfl, rfl, O', K7, K8, bl⟩ := hcut
            have kp := KP.out.below bl
            have k5 := K5.out.below bl
            have hb := BX.out.trans (bl.mono BX.out.size)
            have rx := RX.out.below bl
            obtain ⟨r0, r1⟩ := K8.two'
            have t7 := k5.cell 7
            simp only [List.getElem?_cons_succ, List.getElem?_cons_zero] at t7
            rw [Hm5.out] at t7
            have hrc := Hrc.out
            subst hrc
            have ST := Lib.hid (show ElH w p p5 H ⟨A, n, c, F, k, d⟩ ps (.int .i64 ((0 : Nat) : Int)) wc from ⟨0, X, ⟨A5, n5, c5, F5, m5, d5⟩, Nat.zero_le _, rfl, HE0.out, rx, fun wr' g => FX.out wr' (grown_trans (grown_below bl _) g), kp, k5, hb⟩)
            clear O' K7 K8 kp k5 hb rx KP K5 RX BX SX HF S x0 x1 x2 x3 x4 x5 x6 x7 Hrv Hrc Hm5 bl HE0 kp2
            go_upto_region 20 with (fail)
            go_loopw [11] (ElH w p p5 H ⟨A, n, c, F, k, d⟩ ps) (fun i _ => kk - (intOf i).toNat)
            case atStart => exact ST.out
            case round =>
              clear ST r0 r1 t7
              obtain ⟨j, X, s', hj, rfl, hE, rx, fx, kp, k5, bx⟩ := hrel
              rw [← Hkk.out] at hj
              have HE := Lib.hid hE
              have KP := Lib.hid kp
              have RX := Lib.hid rx
              have BX := Lib.hid bx
              have FX := Lib.hid fx
              have SX := Lib.hid (right_small hE.2.2)
              obtain ⟨A5, n5, c5, F5, m5, d5⟩ := s'
              simp only [hcs] at k5 kp
              have K5 := Lib.hid k5
              obtain ⟨x0, x1, x2, x3, x4, x5, x6, x7⟩ := k5.eight
              have kp2 := kp.cell 2
              simp only [List.getElem?_cons_succ, List.getElem?_cons_zero] at kp2
              clear hE rx fx kp
              by_cases hlt : j < kk
              · clear k5 bx
                obtain ⟨X', hE', hdo⟩ := EmptyH.step HRt.out HT0.out HE.out (by rw [← Hkk.out]; omega) (o := ⟨2, H.nx + (j : Int), 0, 0, 0, 0, 0⟩) rfl rfl
                obtain ⟨g, hg⟩ : ∃ g, g = H.nx + (j : Int) := ⟨_, rfl⟩
                rw [← hg] at hdo
                have S := Lib.hid fun (W' : World) (bl : Below wr.heap.size wr W') => (by
                  have h1 := do_heap ⟨A5, n5, c5, F5, m5, d5⟩ X ⟨2, g, 0, 0, 0, 0, 0⟩ W' (RX.out.below bl) SX.out (HT.out.below (BX.out.trans (bl.mono BX.out.size)))
                  rw [doH_right HE.out.2.2, hdo] at h1
                  simp only [hval, hcs, opv, opcs] at h1
                  exact h1 : Calls Tryz.prog 13 #[.agg #[.int .i64 X.od, .slice A5 n5 c5, .int .i64 X.nx, .int .i64 (tget X 0), .int .i64 (tget X 1), .int .i64 (tget X 2), .int .i64 (tget X 3), .slice F5 m5 d5], .agg #[.int .i64 2, .int .i64 g, .int .i64 0, .int .i64 0, .int .i64 0, .int .i64 0, .int .i64 0]] W' (InPost W' W'.heap.size (X', 0, 0)))
                have HE' := Lib.hid hE'
                have hki : (j : Int) < (kk : Int) := by omega
                have hw : IntKind.i64.wrap (H.nx + (j : Int)) = g := by rw [hg, IntKind.wrap_i64]; omega
                have S := S.out wr (Below.refl _ _)
                clear hdo hE' hg
                go_upto_region 23 with (go_at_call 13; refine S.mono ?_; rintro e w5 ⟨⟨A9, n9, c9, F9, m9, d9⟩, os9, rfl, o9, b9⟩; simp only [hval, hcs])
                obtain ⟨p9, W9, hW9, hp9, Kx9, Kr9, bw9⟩ := box_two w5 (.int .i64 X'.od) (.slice A9 n9 c9) (.int .i64 X'.nx) (.int .i64 (tget X' 0)) (.int .i64 (tget X' 1)) (.int .i64 (tget X' 2)) (.int .i64 (tget X' 3)) (.slice F9 m9 d9) (.int .i64 0) (.int .i64 0)
                rw [hW9, ← hp9]
                have bb9 := b9.trans (bw9.mono b9.size)
                have hb := BX.out.trans (bb9.mono BX.out.size)
                have o9' := (o9.below bw9).mono BX.out.size
                have kp := KP.out.below bb9
                have k5 := K5.out.below bb9
                obtain ⟨r0, r1⟩ := Kr9.two
                obtain ⟨y0, y1, y2, y3, y4, y5, y6, y7⟩ := Kx9.eight
                obtain ⟨t0, t1, t2, t3, t4, t5, t6, t7⟩ := k5.eight
                have tf := k5.free
                have HS := fl_store (s := ⟨A, n, c, F, k, d⟩) (H := H) o9' kp k5 hb Hp5.out Hne.out
                have H5 := Lib.hid (show ElH w p p5 H ⟨A, n, c, F, k, d⟩ ps (.int .i64 ((j + 1 : Nat) : Int)) (set8 W9 p5 X' ⟨A9, n9, c9, F9, m9, d9⟩) from ⟨j + 1, X', _, by rw [← Hkk.out]; omega, rfl, HE'.out, HS.1, HS.2.1, HS.2.2.1, HS.2.2.2.1, HS.2.2.2.2⟩)
                unfold set8 at H5
                simp only at H5
                have hki1 : IntKind.i64.wrap ((j : Int) + 1) = ((j + 1 : Nat) : Int) := by rw [IntKind.wrap_i64]; omega
                clear S hW9 hp9 Kx9 Kr9 bw9 bb9 b9 o9 o9' kp k5 hb HS KP K5 RX BX SX HE HE' x0 x1 x2 x3 x4 x5 x6 x7 kp2
                go_wp2_with fail
                go_roundw
                case rel => first | exact H5.out | (have h9 := H5.out; push_cast at h9; exact h9)
                case measure => simp [intOf]; omega
              · obtain rfl : j = kk := by omega
                have hdone := EmptyH.done HRt.out HT0.out (by have h1 := HE.out; rw [Hkk.out] at h1; exact h1)
                have tf := k5.free
                have KN := k5.set 2 (.int .i64 H.nx)
                have gs := grown_set wr p5 2 (.int .i64 H.nx)
                have BN := below_grown bx gs bx.size Hp5.out
                have KPN := KP.out.grown gs Hne.out
                have RN := Lib.hid (FX.out _ gs)
                have hnx2 : { X with nx := H.nx } = H := hdone
                have RN2 : RdH (wr.setCell ⟨p5, 2, none⟩ (.int .i64 H.nx)) ⟨A5, n5, c5, F5, m5, d5⟩ H := by
                  rw [← hnx2]
                  exact ⟨RN.out.obs, RN.out.fr, RN.out.tp, by show H.nx ≤ _; omega⟩
                have hcX : hcs X ⟨A5, n5, c5, F5, m5, d5⟩ = hcs { H with nx := X.nx } ⟨A5, n5, c5, F5, m5, d5⟩ := by rw [← hnx2]
                have HRN := Lib.hid RN2
                have ho : X.od = H.od := by rw [← hnx2]
                have h0 : tget X 0 = tget H 0 := by rw [← hnx2]; rfl
                have h1 : tget X 1 = tget H 1 := by rw [← hnx2]; rfl
                have h2 : tget X 2 = tget H 2 := by rw [← hnx2]; rfl
                have h3 : tget X 3 = tget H 3 := by rw [← hnx2]; rfl
                simp only [List.set_cons_succ, List.set_cons_zero, ho, h0, h1, h2, h3] at KN
                clear hlt hdone hnx2 RN2 hcX ho h0 h1 h2 h3 gs bx x0 x1 x3 x4 x5 x6 x7
                have RP := Lib.hid (HR.out.below BN)
                have HSM := Lib.hid (refSameH_any ⟨A5, n5, c5, F5, m5, d5⟩ ⟨A, n, c, F, k, d⟩ H H)
                go_upto_region 27 with (fail)
                generalize wr.setCell ⟨p5, 2, none⟩ (.int .i64 H.nx) = WN at KN BN KPN HRN RP ⊢
                have KNH := Lib.hid fun (W : World) (bw : Below WN.heap.size WN W) => (KN.below bw).eight
                have KPH := Lib.hid fun (W : World) (bw : Below WN.heap.size WN W) => (KPN.below bw).eight
                have BNH := Lib.hid BN
                have F4 := Lib.hid fun (W : World) (bw : Below WN.heap.size WN W) => fresh_any W (HT.out.below (BN.trans (bw.mono BN.size)))
                have D4 := Lib.hid fun (W : World) (bw : Below WN.heap.size WN W) => does_any W (HT.out.below (BN.trans (bw.mono BN.size)))
                have M4 := Lib.hid fun (W : World) (bw : Below WN.heap.size WN W) => HSM.out W (HRN.out.below bw) (RP.out.below bw) hs.out
                simp only [hval, hcs, decide_true] at M4
                clear KN KPN BN k5 KP K5 RX BX FX SX HE kp2 tf RN
                go_wp2_with (first
                  | (go_at_call 19; refine (F4.out _ (Below.refl _ _)).mono ?_; rintro e w6 ⟨rfl, b6⟩)
                  | (go_at_call 17; refine (D4.out _ b6).mono ?_; rintro e w7 ⟨rfl, b7'⟩; have b7 := b6.trans (b7'.mono b6.size); obtain ⟨y0, y1, y2, y3, y4, y5, y6, y7⟩ := KNH.out _ b7; obtain ⟨z0, z1, z2, z3, z4, z5, z6, z7⟩ := KPH.out _ b7)
                  | (go_at_call 15; refine (M4.out _ b7).mono ?_; rintro e w8 ⟨rfl, g8⟩; have b8 := b7.trans (g8.below.mono b7.size)))
                go_ret
                exact ⟨rfl, BNH.out.trans (b8.mono BNH.out.size)⟩
end Go.Proofs.YtkbggbgnnllmjaaGreatDoor
