/-
  The law TopDisk, walked.
-/
import Derived.Test.YtcodpnbemdflcaaGreatDoorTopE
import Derived.Test.YtcodpnbemdflcaaGreatDoorTg50
import Derived.Test.YtcodpnbemdflcaaGreatDoorTg29
namespace Go.Proofs.YtcodpnbemdflcaaGreatDoor
open Go.RowKit

set_option maxRecDepth 100000 in
set_option maxHeartbeats 8000000 in
theorem topDisk_walk (ro : Int) (A : Option Addr) (m c : Nat) (K : Option Addr) (j d : Nat) (w : World) (hT : Tab w) (h : IsOpsI w A m) (hk : IsBools w K j) :
    Calls Tryz.prog 3 #[.int .i64 ro, .slice A m c, .slice K j d] w (Tells w (.bool true)) := by
  obtain ⟨l, hl, hI⟩ := h
  obtain ⟨keep, hkp⟩ := hk
  have HT := Lib.hid hT
  have HL := Lib.hid hl
  have HI := Lib.hid hI
  have HK := Lib.hid hkp
  have S1 := new_heap ro w
  unfold NewPost at S1
  obtain ⟨H0, hH0⟩ : ∃ H0, H0 = newR ro := ⟨_, rfl⟩
  obtain ⟨e0, he0⟩ : ∃ e0, e0 = newE ro := ⟨_, rfl⟩
  rw [← hH0, ← he0] at S1
  have HH0 := Lib.hid hH0
  have HE0 := Lib.hid he0
  clear hT hl hI hkp hH0 he0
  go_enter Tryz.func3, Tryz.ntmps3
  go_upto_region 2 with (go_at_call 4; refine S1.mono ?_; rintro e w1 ⟨⟨A1, n1, c1, F1, m1, d1⟩, rfl, o1, b1⟩; simp only [hval, hcs])
  obtain ⟨p5, W, hW, hp, KX, bw⟩ := box_heap w1 (.int .i64 H0.od) (.slice A1 n1 c1) (.int .i64 H0.nx) (.int .i64 (tget H0 0)) (.int .i64 (tget H0 1)) (.int .i64 (tget H0 2)) (.int .i64 (tget H0 3)) (.slice F1 m1 d1)
  rw [hW, ← hp]
  have B1 := Lib.hid (b1.trans (bw.mono b1.size))
  have R1 := Lib.hid (o1.below bw)
  have K1 := Lib.hid KX
  have Hp5 := Lib.hid (show w.heap.size ≤ p5 by rw [hp]; exact b1.size)
  have Hlt1 := Lib.hid (show ∀ k, HBlk ⟨A1, n1, c1, F1, m1, d1⟩ [] k → k < W.heap.size from fun k hk => ((o1.below bw).lt hk).2)
  have SG := Lib.hid fun (W' : World) (b : Below w.heap.size w W') => grows_any W' (HT.out.below b)
  clear S1 hW hp KX bw o1 b1
  by_cases hm : m ≤ 60
  case neg =>
    go_wp2_with (first
      | (go_at_call 5; refine (topOver_big A m c _ hm).mono ?_; rintro e w2 ⟨rfl, rfl⟩)
      | (go_at_call 6; refine (SG.out _ B1.out).mono ?_; rintro e w3 ⟨rfl, b3⟩))
    go_ret
    exact ⟨rfl, B1.out.trans (b3.mono B1.out.size)⟩
  by_cases hj : 5000 < j
  case pos =>
    have hji : 5000 < (j : Int) := by omega
    go_wp2_with (first
      | (go_at_call 5; refine (topOver_any A m c _ hm).mono ?_; rintro e w2 ⟨rfl, rfl⟩)
      | (go_at_call 6; refine (SG.out _ B1.out).mono ?_; rintro e w3 ⟨rfl, b3⟩))
    go_ret
    exact ⟨rfl, B1.out.trans (b3.mono B1.out.size)⟩
  have hji : ¬ 5000 < (j : Int) := by omega
  by_cases hr : 3 ≤ ro ∧ ro ≤ 8
  case neg =>
    have he : e0 = 1 := by rw [HE0.out]; exact if_neg hr
    subst he
    go_wp2_with (first
      | (go_at_call 5; refine (topOver_any A m c _ hm).mono ?_; rintro e w2 ⟨rfl, rfl⟩)
      | (go_at_call 6; refine (SG.out _ B1.out).mono ?_; rintro e w3 ⟨rfl, b3⟩))
    go_ret
    exact ⟨rfl, B1.out.trans (b3.mono B1.out.size)⟩
  have he : e0 = 0 := by rw [HE0.out]; exact if_pos hr
  subst he
  have hH : H0 = newH ro := by rw [HH0.out]; exact if_pos hr
  have HH := Lib.hid hH
  have HR := Lib.hid hr
  have hTw : ∀ k, w.heap.size ≤ k → k ≠ 0 := fun k hk e => by have := HT.out.lt; omega
  have HTw := Lib.hid hTw
  clear hH HH0 HE0 hr hTw
  have KD := Lib.hid (disk_any W)
  go_upto_region 5 with (first
    | (go_at_call 5; refine (topOver_any A m c _ hm).mono ?_; rintro e w2 ⟨rfl, rfl⟩)
    | (go_at_call 7; refine KD.out.mono ?_; rintro e w4 ⟨p, q, r, rfl, d4, f4, b4⟩; have H4 := Lib.hid (And.intro d4 (And.intro f4 b4)); clear d4 f4 b4 KD))
  have KO := (by
    obtain ⟨d4, f4, b4⟩ := H4.out
    have hx : (newH ro).nx ≤ 65535 := show (1 : Int) ≤ 65535 by omega
    have k0 := imH_newR HR.out
    exact pnew_any (PhD.new ro) d4 (by omega) (by omega) (by omega) (Nat.zero_le _) HR.out (HT.out.below (B1.out.trans (b4.mono B1.out.size))) (fun e => HTw.out _ (Nat.le_trans B1.out.size (f4 _ e)) rfl) k0 hx rfl (by
      have := off_hpcs k0 hx
      have e0 : off ([] : List (List UInt8)) ([] : List (List UInt8)).length = 0 := rfl
      omega) : Calls Tryz.prog 8 #[.pointer (some ⟨p, 0, none⟩), .int .i64 ro] w4 (PnPost w4 p q r 256 (0 + 1) (1 + ([] : List (List UInt8)).length) (newH ro)))
  unfold PnPost at KO
  go_upto_region 6 with (go_at_call 8; refine KO.mono ?_; rintro e w5 ⟨P, G, g, vs, s2, os2, st, S0, rfl, D5, a5, o5⟩; have H5 := Lib.hid (And.intro D5 (And.intro a5 o5)); clear D5 a5 o5 KO)
  have ST := Lib.hid (show TdRel w p5 p q r ro m (.pointer (some ⟨P, 0, none⟩)) (.int .i64 0) w5 from by
    obtain ⟨d4, f4, b4⟩ := H4.out
    obtain ⟨D5, a5, o5⟩ := H5.out
    have hb1 := B1.out.size
    have hb4 := b4.size
    have e0 := HH.out
    subst e0
    have h5 := K1.out.lt
    refine ⟨0, newH ro, ⟨A1, n1, c1, F1, m1, d1⟩, [], w4.heap.size, P, G, g, vs, s2, os2, 1, st, S0, Nat.zero_le _, rfl, rfl, imH_newR HR.out, rfl, by show (1 : Int) ≤ _; omega, by omega, by omega, ⟨(R1.out.below b4).oth o5 (fun k hk e => ?_), (K1.out.below b4).keep (o5.block _ (by omega) fun e => ?_), fun k hk e => ?_, fun e => ?_⟩, fun k hk => ?_, D5, a5, by omega, (B1.out.trans (b4.mono hb1)).trans (o5.below (B := w.heap.size) (fun k hk => Nat.le_trans hb1 (f4 k hk)) (by omega))⟩
    · have := f4 k e; have := Hlt1.out k hk; omega
    · have := f4 _ e; omega
    · have := f4 k e; have := Hlt1.out k hk; omega
    · have := f4 _ e; omega
    · rcases hk with rfl | hk
      · omega
      · have := Hlt1.out k hk; omega)
  have Hds := Lib.hid (show ∀ k, ds p q r k → w.heap.size ≤ k from fun k hk => Nat.le_trans B1.out.size (H4.out.2.1 k hk))
  clear H4 H5 R1 K1 Hlt1 HH
  have mixed := mixedP
  go_upto_region 9 with (fail)
  go_loopw [10, 12] (TdRel w p5 p q r ro m) (fun _ i _ => m - (intOf i).toNat)
  case atStart => exact ST.out
  case round =>
    clear ST B1
    obtain ⟨k, H, s, os, base, P1, G1, g1, vs1, s3, os3, F, st1, S1, hk, rfl, rfl, hIm, hod, hnx, hF1, hF2, law, hlaw, D, hhad, hbase, bw⟩ := hrel
    by_cases hlt : k < m
    case neg =>
      obtain rfl : k = m := by omega
      have B2 := Lib.hid bw
      clear hIm hod hnx hF1 hF2 law hlaw D hhad hbase bw
      go_wp2_with (go_at_call 6; refine (SG.out _ B2.out).mono ?_; rintro e w3 ⟨rfl, b3⟩)
      go_ret
      exact ⟨rfl, B2.out.trans (b3.mono B2.out.size)⟩
    obtain ⟨bp, off1, o, rfl, hblw, ho, hcells⟩ := HL.out.get hlt
    have hbl := Nat.lt_of_lt_of_le hblw bw.size
    have hoI : IntOp o := HI.out o (List.mem_of_getElem? ho)
    obtain ⟨ok, oh, oi, on, okk, ov, ot⟩ := o
    obtain ⟨z0, z1, z2, z3, z4, z5, z6⟩ : _ ∧ _ ∧ _ ∧ _ ∧ _ ∧ _ ∧ _ := ⟨hcells 0 (.int .i64 ok) rfl, hcells 1 (.int .i64 oh) rfl, hcells 2 (.int .i64 oi) rfl, hcells 3 (.int .i64 on) rfl, hcells 4 (.int .i64 okk) rfl, hcells 5 (.int .i64 ov) rfl, hcells 6 (.int .i64 ot) rfl⟩
    simp only [Nat.add_zero] at z0
    have HoI := Lib.hid hoI
    clear hoI
    have Z := Lib.hid fun (W : World) (b : Below w.heap.size w W) => (⟨(b.cell (p := ⟨bp, off1 + k * 7, none⟩) hblw).trans z0, (b.cell (p := ⟨bp, off1 + k * 7 + 1, none⟩) hblw).trans z1, (b.cell (p := ⟨bp, off1 + k * 7 + 2, none⟩) hblw).trans z2, (b.cell (p := ⟨bp, off1 + k * 7 + 3, none⟩) hblw).trans z3, (b.cell (p := ⟨bp, off1 + k * 7 + 4, none⟩) hblw).trans z4, (b.cell (p := ⟨bp, off1 + k * 7 + 5, none⟩) hblw).trans z5, (b.cell (p := ⟨bp, off1 + k * 7 + 6, none⟩) hblw).trans z6⟩ : W.cell? ⟨bp, off1 + k * 7, none⟩ = some (.int .i64 ok) ∧ W.cell? ⟨bp, off1 + k * 7 + 1, none⟩ = some (.int .i64 oh) ∧ W.cell? ⟨bp, off1 + k * 7 + 2, none⟩ = some (.int .i64 oi) ∧ W.cell? ⟨bp, off1 + k * 7 + 3, none⟩ = some (.int .i64 on) ∧ W.cell? ⟨bp, off1 + k * 7 + 4, none⟩ = some (.int .i64 okk) ∧ W.cell? ⟨bp, off1 + k * 7 + 5, none⟩ = some (.int .i64 ov) ∧ W.cell? ⟨bp, off1 + k * 7 + 6, none⟩ = some (.int .i64 ot))
    clear z0 z1 z2 z3 z4 z5 z6
    obtain ⟨z0, z1, z2, z3, z4, z5, z6⟩ := Z.out wr bw
    obtain ⟨A5, n5, c5, F5, m5, d5⟩ := s
    have S := Lib.hid fun (W' : World) (b : Below wr.heap.size wr W') => (by
      have h1 := do_heap ⟨A5, n5, c5, F5, m5, d5⟩ H ⟨ok, oh, oi, on, okk, ov, ot⟩ W' (law.own.below b).rd (right_small hIm.right) (HT.out.below (bw.trans (b.mono bw.size)))
      rw [doH_right hIm.right] at h1
      exact h1 : Calls Tryz.prog 9 #[hval H ⟨A5, n5, c5, F5, m5, d5⟩, opv ⟨ok, oh, oi, on, okk, ov, ot⟩] W' (InPost W' W'.heap.size (doneH H ⟨ok, oh, oi, on, okk, ov, ot⟩)))
    obtain ⟨rr, hrr⟩ : ∃ rr, rr = doneH H ⟨ok, oh, oi, on, okk, ov, ot⟩ := ⟨_, rfl⟩
    rw [← hrr] at S
    have HRR := Lib.hid hrr
    clear hrr
    obtain ⟨H', rc, rv⟩ := rr
    simp only [hval, hcs, opv, opcs] at S
    have HIm := Lib.hid (And.intro hIm (And.intro hod (And.intro hnx (And.intro hF1 hF2))))
    have HLaw := Lib.hid (And.intro law hlaw)
    have HD := Lib.hid (And.intro D (And.intro hhad hbase))
    have HKP := Lib.hid law.wh
    have HBW := Lib.hid bw
    have Hbl := Lib.hid hbl
    have hki : (k : Int) < (m : Int) := by omega
    have hk60 : k ≤ 60 := by omega
    clear hIm hod hnx hF1 hF2 law hlaw D hhad hbase bw hcells ho hbl hblw
    have mkS := Lib.hid fun (W : World) (bl : Below wr.heap.size wr W) => (by
      obtain ⟨e0, e1, e2, e3, e4, e5, e6, e7⟩ := (HKP.out.below bl).eight
      exact ⟨e0, e1, e2, e3, e4, e5, e6, e7, (bl.cell (p := ⟨bp, off1 + k * 7, none⟩) Hbl.out).trans z0, (bl.cell (p := ⟨bp, off1 + k * 7 + 1, none⟩) Hbl.out).trans z1, (bl.cell (p := ⟨bp, off1 + k * 7 + 2, none⟩) Hbl.out).trans z2, (bl.cell (p := ⟨bp, off1 + k * 7 + 3, none⟩) Hbl.out).trans z3, (bl.cell (p := ⟨bp, off1 + k * 7 + 4, none⟩) Hbl.out).trans z4, (bl.cell (p := ⟨bp, off1 + k * 7 + 5, none⟩) Hbl.out).trans z5, (bl.cell (p := ⟨bp, off1 + k * 7 + 6, none⟩) Hbl.out).trans z6⟩ : W.cell? ⟨p5, 0, none⟩ = some (.int .i64 H.od) ∧ W.cell? ⟨p5, 1, none⟩ = some (.slice A5 n5 c5) ∧ W.cell? ⟨p5, 2, none⟩ = some (.int .i64 H.nx) ∧ W.cell? ⟨p5, 3, none⟩ = some (.int .i64 (tget H 0)) ∧ W.cell? ⟨p5, 4, none⟩ = some (.int .i64 (tget H 1)) ∧ W.cell? ⟨p5, 5, none⟩ = some (.int .i64 (tget H 2)) ∧ W.cell? ⟨p5, 6, none⟩ = some (.int .i64 (tget H 3)) ∧ W.cell? ⟨p5, 7, none⟩ = some (.slice F5 m5 d5) ∧ W.cell? ⟨bp, off1 + k * 7, none⟩ = some (.int .i64 ok) ∧ W.cell? ⟨bp, off1 + k * 7 + 1, none⟩ = some (.int .i64 oh) ∧ W.cell? ⟨bp, off1 + k * 7 + 2, none⟩ = some (.int .i64 oi) ∧ W.cell? ⟨bp, off1 + k * 7 + 3, none⟩ = some (.int .i64 on) ∧ W.cell? ⟨bp, off1 + k * 7 + 4, none⟩ = some (.int .i64 okk) ∧ W.cell? ⟨bp, off1 + k * 7 + 5, none⟩ = some (.int .i64 ov) ∧ W.cell? ⟨bp, off1 + k * 7 + 6, none⟩ = some (.int .i64 ot))
    clear z0 z1 z2 z3 z4 z5 z6
    go_upto_region 11 with (fail)
    go_cut [13, 14] (fun u v wc => BxRel wr.heap.size wr H' rc rv u v wc ∧ ∃ p6 p7, u = .pointer (some ⟨p6, 0, none⟩) ∧ v = .pointer (some ⟨p7, 0, none⟩) ∧ wr.heap.size ≤ p6 ∧ wr.heap.size ≤ p7)
    case first =>
      repeat (rename ∀ (a : Act) (w : World), Code.wp _ _ _ a w → _ => hh; clear hh)
      go_region_held3 (fun W => W.cell? ⟨p5, 0, none⟩ = some (.int .i64 H.od) ∧ W.cell? ⟨p5, 1, none⟩ = some (.slice A5 n5 c5) ∧ W.cell? ⟨p5, 2, none⟩ = some (.int .i64 H.nx) ∧ W.cell? ⟨p5, 3, none⟩ = some (.int .i64 (tget H 0)) ∧ W.cell? ⟨p5, 4, none⟩ = some (.int .i64 (tget H 1)) ∧ W.cell? ⟨p5, 5, none⟩ = some (.int .i64 (tget H 2)) ∧ W.cell? ⟨p5, 6, none⟩ = some (.int .i64 (tget H 3)) ∧ W.cell? ⟨p5, 7, none⟩ = some (.slice F5 m5 d5) ∧ W.cell? ⟨bp, off1 + k * 7, none⟩ = some (.int .i64 ok) ∧ W.cell? ⟨bp, off1 + k * 7 + 1, none⟩ = some (.int .i64 oh) ∧ W.cell? ⟨bp, off1 + k * 7 + 2, none⟩ = some (.int .i64 oi) ∧ W.cell? ⟨bp, off1 + k * 7 + 3, none⟩ = some (.int .i64 on) ∧ W.cell? ⟨bp, off1 + k * 7 + 4, none⟩ = some (.int .i64 okk) ∧ W.cell? ⟨bp, off1 + k * 7 + 5, none⟩ = some (.int .i64 ov) ∧ W.cell? ⟨bp, off1 + k * 7 + 6, none⟩ = some (.int .i64 ot)) (((with_reducible refine mkS.out _ ?_); first | ((repeat (first | (with_reducible refine bel_alloc ?_ _) | (with_reducible refine Below.setCell ?_ (by dsimp only; first | omega | (simp; omega)) _) | (with_reducible refine Below.drew ?_))); first | (with_reducible exact Below.refl _ _) | (with_reducible exact HB5.out)) | ((repeat (first | (with_reducible refine bel_alloc ?_ _) | (with_reducible refine Below.setCell ?_ (by dsimp only; first | omega | (simp; omega)) _) | (with_reducible refine Below.drew ?_))); first | (with_reducible exact Below.refl _ _) | (with_reducible exact trivial)))) ((go_at_call 9; (with_reducible refine Calls.mono (S.out _ (by ((repeat (first | (with_reducible refine bel_alloc ?_ _) | (with_reducible refine Below.setCell ?_ (by dsimp only; first | omega | (simp; omega)) _) | (with_reducible refine Below.drew ?_))); first | (with_reducible exact Below.refl _ _) | (with_reducible exact trivial)))) ?_); rintro e w5 ⟨⟨A6, n6, c6', F6, k6, d6⟩, os6, rfl, O6, b6⟩; simp only [hval, hcs]; have hV := Lib.hid (bel_is (w := wr) (by ((repeat (first | (with_reducible refine bel_alloc ?_ _) | (with_reducible refine Below.setCell ?_ (by dsimp only; first | omega | (simp; omega)) _) | (with_reducible refine Below.drew ?_))); first | (with_reducible exact Below.refl _ _) | (with_reducible exact trivial))) b6); have HB5 := Lib.hid (hV.out.trans (b6.mono hV.out.size)); have hz5 := HB5.out.size; (try (have V6 := whole_is (t := 28) (cs := zcs) (by ((repeat (first | ((with_reducible apply whole_new'); rfl) | (with_reducible apply Whole.alloc) | (with_reducible apply Whole.drew))); first | done | (with_reducible exact trivial))) b6; (try simp only [size_alloc] at V6); have HV6 := Lib.hid V6; have M6 := V6.below b6; obtain ⟨m0, m1, m2, m3, m4, m5, m6, m7⟩ := M6.eight; have mf := M6.free; have ml := M6.lt; have mn := Nat.ne_of_lt M6.lt; have mn' := (Nat.ne_of_lt M6.lt).symm; have m0A := fun o => Lib.cell?_alloc_some o m0; have m1A := fun o => Lib.cell?_alloc_some o m1; have m2A := fun o => Lib.cell?_alloc_some o m2; have m3A := fun o => Lib.cell?_alloc_some o m3; have m4A := fun o => Lib.cell?_alloc_some o m4; have m5A := fun o => Lib.cell?_alloc_some o m5; have m6A := fun o => Lib.cell?_alloc_some o m6; have m7A := fun o => Lib.cell?_alloc_some o m7; have mfA := fun (o : Obj) j => (M6.alloc o).free j; clear M6 V6)); (try (have V7 := whole_is (t := 40) (cs := rcs) (by ((repeat (first | ((with_reducible apply whole_new'); rfl) | (with_reducible apply Whole.alloc) | (with_reducible apply Whole.drew))); first | done | (with_reducible exact trivial))) b6; (try simp only [size_alloc] at V7); have HV7 := Lib.hid V7; have M7 := V7.below b6; obtain ⟨q0, q1⟩ := M7.two'; have qf := M7.free; have ql := M7.lt; have qn := Nat.ne_of_lt M7.lt; have qn' := (Nat.ne_of_lt M7.lt).symm; have q0A := fun o => Lib.cell?_alloc_some o q0; have q1A := fun o => Lib.cell?_alloc_some o q1; have qfA := fun (o : Obj) j => (M7.alloc o).free j; clear M7 V7)); (try (have hbb := box_beside (HV6.out.below b6) (b0 := .int .i64 0) (b1 := .int .i64 0) (HV7.out.below b6); have qs0 := hbb.1; have qs1 := hbb.2.1; have qsf := hbb.2.2; clear hbb))))
      · go_wp2_with fail
        go_meet
        exact ⟨bx_a1 (Nat.le_refl _) hV.out O6 b6, _, _, rfl, rfl, by first | omega | (simp; omega), by first | omega | (simp; omega)⟩
      · go_wp2_with fail
        go_meet
        exact ⟨bx_a2 (Nat.le_refl _) hV.out O6 b6, _, _, rfl, rfl, by first | omega | (simp; omega), by first | omega | (simp; omega)⟩
      · go_wp2_with fail
        go_meet
        have hb := bx_b (rc := rc) (rv := rv) (Nat.le_refl _) hV.out O6 b6 HV6.out (by omega); (try unfold set2 at hb); (try unfold set8 at hb); (try simp only at hb); exact ⟨hb, _, _, rfl, rfl, by first | omega | (simp; omega), by first | omega | (simp; omega)⟩
      · go_wp2_with fail
        go_meet
        have hb := bx_d (rc := rc) (rv := rv) (Nat.le_refl _) hV.out O6 b6 HV6.out (by omega) HV7.out (by omega) (by omega); (try unfold set2 at hb); (try unfold set8 at hb); (try simp only at hb); exact ⟨hb, _, _, rfl, rfl, by first | omega | (simp; omega), by first | omega | (simp; omega)⟩
      · go_wp2_with fail
        go_meet
        have hb := bx_c (rc := rc) (rv := rv) (Nat.le_refl _) hV.out O6 b6 HV7.out (by omega); (try unfold set2 at hb); (try unfold set8 at hb); (try simp only [hcs] at hb); exact ⟨hb, _, _, rfl, rfl, by first | omega | (simp; omega), by first | omega | (simp; omega)⟩
      · go_wp2_with fail
        go_meet
        have hb := bx_d (rc := rc) (rv := rv) (Nat.le_refl _) hV.out O6 b6 HV6.out (by omega) HV7.out (by omega) (by omega); (try unfold set2 at hb); (try unfold set8 at hb); (try simp only at hb); exact ⟨hb, _, _, rfl, rfl, by first | omega | (simp; omega), by first | omega | (simp; omega)⟩
    case rest =>
      obtain ⟨⟨s', os', p8, p9, rfl, rfl, O', K8, K9, bl⟩, p8', p9', e8, e9, _, h9⟩ := hcut
      injection e9 with e9
      injection e9 with e9
      injection e9 with e9
      subst e9
      clear e8
      obtain ⟨A7, n7, c7, F7, m7, d7⟩ := s'
      have k5 := HKP.out.below bl
      have K8' := K8
      have k5' := k5
      simp only [hcs] at K8' k5'
      obtain ⟨y0, y1, y2, y3, y4, y5, y6, y7⟩ := K8'.eight
      obtain ⟨t0, t1, t2, t3, t4, t5, t6, t7⟩ := k5'.eight
      have tf := k5'.free
      have st8 := td_store (s' := ⟨A7, n7, c7, F7, m7, d7⟩) O' k5' K9 h9 bl HLaw.out.1 HLaw.out.2 HD.out.1 HD.out.2.2 HBW.out Hp5.out Hds.out
      unfold set8 at st8
      simp only at st8
      have H8 := Lib.hid st8
      have HX := Lib.hid (show ∀ k, ds p q r k → w.heap.size ≤ k ∧ k < wr.heap.size ∧ k ≠ p5 from fun k hk => st8.turns k (.inr (LX.of_ds hk)))
      clear O' K8 K8' K9 h9 bl k5 k5' st8 S HKP HBW mkS HLaw HD
      go_upto_region 13 with (fail)
      clear y0 y1 y2 y3 y4 y5 y6 y7 t0 t1 t2 t3 t4 t5 t6 t7 tf
      generalize ((((((((wc.setCell ⟨p5, 0, none⟩ _).setCell ⟨p5, 1, none⟩ _).setCell ⟨p5, 2, none⟩ _).setCell ⟨p5, 3, none⟩ _).setCell ⟨p5, 4, none⟩ _).setCell ⟨p5, 5, none⟩ _).setCell ⟨p5, 6, none⟩ _).setCell ⟨p5, 7, none⟩ _) = W8 at H8 ⊢
      obtain ⟨z0, z1, z2, z3, z4, z5, z6⟩ := Z.out W8 H8.out.below
      have KP := (by
        obtain ⟨hIm, hod, hnx, hF1, hF2⟩ := HIm.out
        have hx : H.nx ≤ 65535 := by omega
        have h1 := off_hpcs hIm hx
        have h2 := hpcs_length hIm hx
        have h3 : np 57 = 2 := by decide
        exact pdo_any H8.out.d (by omega) H8.out.d.base_le (HT.out.below H8.out.below) hIm.right ⟨ok, oh, oi, on, okk, ov, ot⟩ HoI.out (by omega) (by omega) (by omega) hF1 (by omega) (by omega) :
        Calls Tryz.prog 10 #[.pointer (some ⟨P1, 0, none⟩), opv ⟨ok, oh, oi, on, okk, ov, ot⟩] W8 (PdoPost W8 base P1 G1 g1 p q r 256 vs1 (k + 1) F st1 0 H (hpcs H) ⟨ok, oh, oi, on, okk, ov, ot⟩))
      unfold PdoPost at KP
      rw [← HRR.out] at KP
      obtain ⟨tt, htt⟩ : ∃ tt, tt = opR ⟨ok, oh, oi, on, okk, ov, ot⟩ := ⟨_, rfl⟩
      obtain ⟨cb, hcb⟩ : ∃ cb, cb = countsB ⟨ok, oh, oi, on, okk, ov, ot⟩ rc := ⟨_, rfl⟩
      dsimp only at KP
      rw [← htt, ← hcb] at KP
      have HTC := Lib.hid (And.intro htt hcb)
      clear htt hcb
      simp only [opv, opcs] at KP
      go_upto_region 14 with (go_at_call 10; refine KP.mono ?_; rintro e w9 ⟨vs4, s4, os4, x4, L4, S4, rfl, D9, O9, hst, _⟩; have H9 := Lib.hid (And.intro (H8.out.step O9 D9) hst); clear D9 O9 hst KP)
      clear z0 z1 z2 z3 z4 z5 z6
      have KR := Whole.new w9 #[.int .i64 rc, .int .i64 rv] 40
      have bR : Below w9.heap.size w9 (w9.alloc (.cells #[.int .i64 rc, .int .i64 rv] 40)) := (Below.refl _ _).alloc (Nat.le_refl _) _
      generalize w9.alloc (.cells _ 40) = W10 at KR bR ⊢
      obtain ⟨m0, m1⟩ := KR.two'
      obtain ⟨y0, y1⟩ := (H9.out.1.2.2.1.below bR).two'
      have run := run_neq_res rc rv rc rv
      rw [show (!sameB (rc, rv) (rc, rv)) = false by simp [sameB]] at run
      have KF := pforce_any (H9.out.1.2.2.2.2.below bR)
      have H10 := Lib.hid (show OwnHp W10 wr.heap.size ⟨A7, n7, c7, F7, m7, d7⟩ os' H' ∧ Whole W10 p5 28 (hcs H' ⟨A7, n7, c7, F7, m7, d7⟩) ∧ Below w.heap.size w W10 from ⟨H9.out.1.1.below bR, H9.out.1.2.1.below bR, H9.out.1.2.2.2.1.trans (bR.mono H9.out.1.2.2.2.1.size)⟩)
      clear KR bR
      go_upto_region 16 with (go_at_call 11; refine KF.mono ?_; rintro e w11 ⟨rfl, D11, O11⟩; have H11 := Lib.hid (And.intro D11 (law_disk H10.out.1 H10.out.2.1 H10.out.2.2 O11 HX.out)); clear D11 O11 KF)
      clear m0 m1 y0 y1 run
      have KC := crash_any (c := d) H11.out.1.lgd.la.dk (HK.out.below H11.out.2.2.2) (fun hm0 x hx hd => by
        obtain ⟨b, off, e, hb, _⟩ := HK.out.at_ hm0
        rw [hx] at e
        injection e with e
        subst e
        have h1 : w.heap.size ≤ b := (HX.out _ hd).1
        omega)
      unfold CrPost at KC
      go_upto_region 17 with (go_at_call 12; refine KC.mono ?_; rintro e w12 ⟨ks, hks, rfl, d12, o12⟩; have H12 := Lib.hid (And.intro hks (And.intro d12 (law_disk H11.out.2.1 H11.out.2.2.1 H11.out.2.2.2 o12 HX.out))); clear hks d12 o12 KC)
      have KO := (by
        obtain ⟨hIm, hod, hnx, hF1, hF2⟩ := HIm.out
        obtain ⟨hks, d12, own12, wh12, b12⟩ := H12.out
        obtain ⟨cnt, ag, C, hlg⟩ := H11.out.1.lgd.la.lg
        have hst := H9.out.2
        rw [HTC.out.1, HTC.out.2] at hst
        have hrr : (H', rc, rv) = doneH H ⟨ok, oh, oi, on, okk, ov, ot⟩ := HRR.out
        have hx : H.nx ≤ 65535 := by omega
        have hst' := redo_step (H := H) hIm.right HoI.out (L := hpcs H) (L' := L4) (x := 0) (x' := x4) rfl (by rw [← hrr]; exact hst)
        rw [← hrr] at hst'
        obtain ⟨rest, hL4, hre⟩ := hst'
        have hph := PhD.crash hlg hL4 hre hIm hx (fun _ => rfl) keep hks
        rw [hod] at hph
        have hIm' : ImH H' := by
          have := done_im hIm (o := ⟨ok, oh, oi, on, okk, ov, ot⟩) (HoI.out ov (by simp [opI]))
          rw [← hrr] at this
          exact this
        have hnx' : H'.nx ≤ H.nx + 1 := by
          have := done_nx hIm.right ⟨ok, oh, oi, on, okk, ov, ot⟩
          rw [← hrr] at this
          exact this
        have hod' : H'.od = ro := by
          have := done_od (H := H) ⟨ok, oh, oi, on, okk, ov, ot⟩
          rw [← hrr] at this
          exact this.trans hod
        have hx' : H'.nx ≤ 65535 := by omega
        have h1 := off_redo hIm hx hre
        have h2 := off_hpcs hIm' hx'
        have h3 := hpcs_length hIm hx
        have hl4 : L4.length ≤ 5 := by
          rcases hst with ⟨_, e, _⟩ | ⟨_, e, _⟩
          · rw [e, List.length_append, List.length_singleton]; omega
          · rw [e]; omega
        rw [← hL4] at h1
        exact ⟨hIm', hnx', hod', hl4, pnew_any hph d12 (by omega) hF1 (by omega) (by omega) HR.out (HT.out.below b12) (fun e => HTw.out _ (HX.out _ e).1 rfl) hIm' hx' hod' (by omega)⟩ :
        ImH H' ∧ H'.nx ≤ H.nx + 1 ∧ H'.od = ro ∧ L4.length ≤ 5 ∧ Calls Tryz.prog 8 #[.pointer (some ⟨p, 0, none⟩), .int .i64 ro] w12 (PnPost w12 p q r 256 (k + 1 + 1) (F + L4.length) H'))
      obtain ⟨hIm', hnx', hod', hl4, KO⟩ := KO
      have HN := Lib.hid (And.intro hIm' (And.intro hnx' (And.intro hod' hl4)))
      clear hIm' hnx' hod' hl4
      unfold PnPost at KO
      go_upto_region 18 with (go_at_call 8; refine KO.mono ?_; rintro e w13 ⟨P2, G2, g2, vs2, s5, os5, st5, S5, rfl, D13, a13, o13⟩; have H13 := Lib.hid (And.intro D13 (And.intro a13 (law_disk H12.out.2.2.1 H12.out.2.2.2.1 H12.out.2.2.2.2 o13 HX.out))); clear D13 a13 o13 KO)
      have HRel := Lib.hid (show ∀ W, Below w13.heap.size w13 W → TdRel w p5 p q r ro m (.pointer (some ⟨P2, 0, none⟩)) (.int .i64 ((k + 1 : Nat) : Int)) W from fun W hW => by
        obtain ⟨D13, a13, own13, wh13, b13⟩ := H13.out
        obtain ⟨hIm', hnx', hod', hl4⟩ := HN.out
        obtain ⟨hIm, hod, hnx, hF1, hF2⟩ := HIm.out
        have hs12 := H12.out.2.2.1
        have hb12 := H12.out.2.2.2.2.size
        have hw12 := H12.out.2.2.2.1.lt
        have hsr := Hbl.out
        refine ⟨k + 1, H', ⟨A7, n7, c7, F7, m7, d7⟩, os', w12.heap.size, P2, G2, g2, vs2, s5, os5, F + L4.length, st5, S5, hlt, rfl, rfl, hIm', hod', by push_cast; omega, by omega, by omega, ⟨(own13.below hW).mono H8.out.wrw, wh13.below hW, fun j hj e => ?_, fun e => (HX.out _ e).2.2 rfl⟩, fun j hj => ?_, D13.below hW, a13, hb12, b13.trans (hW.mono b13.size)⟩
        · have := (hs12.lt hj).1
          have := (HX.out _ e).2.1
          omega
        · rcases hj with rfl | hj
          · exact hw12
          · exact (hs12.lt hj).2)
      have KH := fun (V : World) (hV : Below w13.heap.size w13 V) => pheap_any (H13.out.1.below hV) (HT.out.below (H13.out.2.2.2.2.trans (hV.mono H13.out.2.2.2.2.size))) HN.out.1.right
      unfold HePost at KH
      have k5 := H13.out.2.2.2.1
      simp only [hcs] at k5
      have BR : Below w13.heap.size w13 w13.drew := (Below.refl _ _).drew
      have KS := Lib.hid fun (V V' : World) (s6 : HSl) (os6 : List (Ob × OSl)) (hV : Below w13.heap.size w13 V') (B : Nat) (o6 : OwnHp V B s6 os6 H') (hVV : Below V.heap.size V V') => (by
        have h1 := refSameH_any s6 ⟨A7, n7, c7, F7, m7, d7⟩ H' H' V' (o6.below hVV).rd (H13.out.2.2.1.below hV).rd (right_small HN.out.1.right)
        rw [decide_eq_true rfl] at h1
        exact h1 : Calls Tryz.prog 13 #[hval H' s6, hval H' ⟨A7, n7, c7, F7, m7, d7⟩] V' (Says V' (.bool true)))
      have KH := Lib.hid KH
      simp only [hval, hcs] at KS KH
      have HK5 := Lib.hid k5
      clear k5
      have hki1 : IntKind.i64.wrap ((k : Int) + 1) = ((k + 1 : Nat) : Int) := by rw [IntKind.wrap_i64]; omega
      go_cut [111] (fun v wc => v = .bool false ∧ Below w13.heap.size w13 wc)
      case first =>
        repeat (rename ∀ (a : Act) (w : World), Code.wp _ _ _ a w → _ => hh; clear hh)
        clear hki1
        -- region 18
        refine wp_region_any (by kernel_rfl) ?_
        change wpAny _ _ _ _ _ _ _ (World.drew _)
        refine take_put (i := 0) (d := 99) (v := ?_) rfl rfl (by kernel_rfl) (by kernel_rfl) (by kernel_rfl) (fun _ _ _ h => h) (Or.inl ⟨by rfl, ?_⟩) ?_
        rotate_left
        · intro w; go_simp; with_reducible rfl
        conv =>
          arg 7
          simp only [List.setIfInBounds_toArray, List.set_cons_succ, List.set_cons_zero]
        refine take_put (i := 1) (d := 100) (v := ?_) rfl rfl (by kernel_rfl) (by kernel_rfl) (by kernel_rfl) (fun _ _ _ h => h) (Or.inl ⟨by rfl, ?_⟩) ?_
        rotate_left
        · intro w; go_simp; with_reducible rfl
        conv =>
          arg 7
          simp only [List.setIfInBounds_toArray, List.set_cons_succ, List.set_cons_zero]
        refine take_put (i := 2) (d := 101) (v := ?_) rfl rfl (by kernel_rfl) (by kernel_rfl) (by kernel_rfl) (fun _ _ _ h => h) (Or.inl ⟨by rfl, ?_⟩) ?_
        rotate_left
        · intro w; go_simp; with_reducible rfl
        conv =>
          arg 7
          simp only [List.setIfInBounds_toArray, List.set_cons_succ, List.set_cons_zero]
        refine take_put (i := 3) (d := 102) (v := ?_) rfl rfl (by kernel_rfl) (by kernel_rfl) (by kernel_rfl) (fun _ _ _ h => h) (Or.inl ⟨by rfl, ?_⟩) ?_
        rotate_left
        · intro w; go_simp; with_reducible rfl
        conv =>
          arg 7
          simp only [List.setIfInBounds_toArray, List.set_cons_succ, List.set_cons_zero]
        refine take_put (i := 4) (d := 103) (v := ?_) rfl rfl (by kernel_rfl) (by kernel_rfl) (by kernel_rfl) (fun _ _ _ h => h) (Or.inl ⟨by rfl, ?_⟩) ?_
        rotate_left
        · intro w; go_simp; with_reducible rfl
        conv =>
          arg 7
          simp only [List.setIfInBounds_toArray, List.set_cons_succ, List.set_cons_zero]
        refine take_put (i := 5) (d := 104) (v := ?_) rfl rfl (by kernel_rfl) (by kernel_rfl) (by kernel_rfl) (fun _ _ _ h => h) (Or.inl ⟨by rfl, ?_⟩) ?_
        rotate_left
        · intro w; go_simp; with_reducible rfl
        conv =>
          arg 7
          simp only [List.setIfInBounds_toArray, List.set_cons_succ, List.set_cons_zero]
        refine take_put (i := 6) (d := 105) (v := ?_) rfl rfl (by kernel_rfl) (by kernel_rfl) (by kernel_rfl) (fun _ _ _ h => h) (Or.inl ⟨by rfl, ?_⟩) ?_
        rotate_left
        · intro w; go_simp; with_reducible rfl
        conv =>
          arg 7
          simp only [List.setIfInBounds_toArray, List.set_cons_succ, List.set_cons_zero]
        refine take_put (i := 7) (d := 106) (v := ?_) rfl rfl (by kernel_rfl) (by kernel_rfl) (by kernel_rfl) (fun _ _ _ h => h) (Or.inl ⟨by rfl, ?_⟩) ?_
        rotate_left
        · intro w; go_simp; with_reducible rfl
        conv =>
          arg 7
          simp only [List.setIfInBounds_toArray, List.set_cons_succ, List.set_cons_zero]
        refine wpAny_ready (rs := [8, 9]) (by kernel_rfl) (by simp) ?_
        refine AllReady.cons rfl (fun K hK => ?_) (AllReady.cons rfl (fun K hK => ?_) (AllReady.nil))
        · skip
          go_simp
          go_wp2_with (go_at_call 14; refine Calls.mono (KH.out _ BR) ?_; rintro e wq1 ⟨⟨A1, n1, c1, F1, m1, d1⟩, os1, rfl, o1, bq1⟩; simp only)
          have bb1 : Below w13.heap.size w13 wq1 := BR.trans (bq1.mono BR.size)
          refine wpAny_ready (rs := [9]) (by kernel_rfl) (by simp) ?_
          refine AllReady.cons rfl (fun K hK => ?_) (AllReady.nil)
          obtain ⟨u0_2, u1_2, u2_2, u3_2, u4_2, u5_2, u6_2, u7_2⟩ := (HK5.out.below bb1).eight
          go_simp
          refine hK _ _ ?_
          clear hK K
          clear u0_2 u1_2 u2_2 u3_2 u4_2 u5_2 u6_2 u7_2
          refine wpAny_ready (rs := [10]) (by kernel_rfl) (by simp) ?_
          refine AllReady.cons rfl (fun K hK => ?_) (AllReady.nil)
          go_simp
          go_wp2_with (go_at_call 13; refine Calls.mono (KS.out wq1 _ ⟨A1, n1, c1, F1, m1, d1⟩ os1 bb1 _ o1 (Below.refl _ _)) ?_; rintro e wq3 ⟨rfl, g3⟩)
          have bb3 : Below w13.heap.size w13 wq3 := bb1.trans (g3.below.mono bb1.size)
          refine take_put (i := 11) (d := 110) (v := ?_) rfl rfl (by kernel_rfl) (by kernel_rfl) (by kernel_rfl) (fun _ _ _ h => h) (Or.inl ⟨by rfl, ?_⟩) ?_
          rotate_left
          · intro w; go_simp; with_reducible rfl
          conv =>
            arg 7
            simp only [List.setIfInBounds_toArray, List.set_cons_succ, List.set_cons_zero]
          refine take_put (i := 12) (d := 111) (v := ?_) rfl rfl (by kernel_rfl) (by kernel_rfl) (by kernel_rfl) (fun _ _ _ h => h) (Or.inl ⟨by rfl, ?_⟩) ?_
          rotate_left
          · intro w; go_simp; with_reducible rfl
          conv =>
            arg 7
            simp only [List.setIfInBounds_toArray, List.set_cons_succ, List.set_cons_zero]
          refine wpAny_done (by kernel_rfl) ?_ _
          go_wp2_with fail
          go_meet
          exact ⟨rfl, bb3⟩
        · skip
          obtain ⟨u0_4, u1_4, u2_4, u3_4, u4_4, u5_4, u6_4, u7_4⟩ := (HK5.out.below BR).eight
          go_simp
          refine hK _ _ ?_
          clear hK K
          clear u0_4 u1_4 u2_4 u3_4 u4_4 u5_4 u6_4 u7_4
          refine wpAny_ready (rs := [8]) (by kernel_rfl) (by simp) ?_
          refine AllReady.cons rfl (fun K hK => ?_) (AllReady.nil)
          go_simp
          go_wp2_with (go_at_call 14; refine Calls.mono (KH.out _ BR) ?_; rintro e wq5 ⟨⟨A5, n5, c5, F5, m5, d5⟩, os5, rfl, o5, bq5⟩; simp only)
          have bb5 : Below w13.heap.size w13 wq5 := BR.trans (bq5.mono BR.size)
          refine wpAny_ready (rs := [10]) (by kernel_rfl) (by simp) ?_
          refine AllReady.cons rfl (fun K hK => ?_) (AllReady.nil)
          go_simp
          go_wp2_with (go_at_call 13; refine Calls.mono (KS.out wq5 _ ⟨A5, n5, c5, F5, m5, d5⟩ os5 bb5 _ o5 (Below.refl _ _)) ?_; rintro e wq6 ⟨rfl, g6⟩)
          have bb6 : Below w13.heap.size w13 wq6 := bb5.trans (g6.below.mono bb5.size)
          refine take_put (i := 11) (d := 110) (v := ?_) rfl rfl (by kernel_rfl) (by kernel_rfl) (by kernel_rfl) (fun _ _ _ h => h) (Or.inl ⟨by rfl, ?_⟩) ?_
          rotate_left
          · intro w; go_simp; with_reducible rfl
          conv =>
            arg 7
            simp only [List.setIfInBounds_toArray, List.set_cons_succ, List.set_cons_zero]
          refine take_put (i := 12) (d := 111) (v := ?_) rfl rfl (by kernel_rfl) (by kernel_rfl) (by kernel_rfl) (fun _ _ _ h => h) (Or.inl ⟨by rfl, ?_⟩) ?_
          rotate_left
          · intro w; go_simp; with_reducible rfl
          conv =>
            arg 7
            simp only [List.setIfInBounds_toArray, List.set_cons_succ, List.set_cons_zero]
          refine wpAny_done (by kernel_rfl) ?_ _
          go_wp2_with fail
          go_meet
          exact ⟨rfl, bb6⟩
        -- end 18
      case rest =>
        obtain ⟨rfl, bl⟩ := hcut
        have HB := Lib.hid bl
        clear bl KH HK5 KS BR
        go_wp2_with fail
        go_roundw
        case rel => first | exact HRel.out _ HB.out | (have h9 := HRel.out _ HB.out; push_cast at h9; exact h9)
        case measure => simp [intOf]; omega
end Go.Proofs.YtcodpnbemdflcaaGreatDoor
