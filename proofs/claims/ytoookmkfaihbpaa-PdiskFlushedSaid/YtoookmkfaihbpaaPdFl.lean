/-
  The statement PdiskFlushed: walked.
-/
import Derived.Test.YtoookmkfaihbpaaPdStp
import Derived.BigQuiet
import Derived.Lib.QuietBelow
namespace Go.Proofs.Ytoookmkfaihbpaa
open Go.RowKit

theorem mixed7 : Try.prog.follows .mixedOrders = true := by kernel_rfl
theorem didS_now (S : Dk) : (didS S).now = S.now := by unfold didS; split <;> rfl
theorem didS_had (S : Dk) : (didS S).had = S.had := by unfold didS; split <;> rfl
/-- What the flushed sector has till the crash. -/
def FlInv (k : Nat) (o t : List UInt8) (again : Bool) (S : Dk) : Prop := (S.now k = full o ∧ S.had k = none) ∨ (again = true ∧ S.now k = full t ∧ S.had k = some (full o))
theorem FlInv.other {k : Nat} {o t : List UInt8} {again : Bool} {S : Dk} (h : FlInv k o t again S) {j : Nat} (hj : j ≠ k) (l : List UInt8) : FlInv k o t again (wrS 16 S (j : Int) l) := by
  unfold wrS
  split
  · unfold FlInv
    rw [didS_now, didS_had]
    have hk : ¬ k = j := fun e => hj e.symm
    simp only [putS, remH, Int.toNat_natCast, if_neg hk]
    exact h
  · exact h
theorem FlInv.again {k : Nat} {o t : List UInt8} {S : Dk} (h1 : S.now k = full o) (h2 : S.had k = none) : FlInv k o t true (wrS 16 S (k : Int) t) := by
  unfold wrS
  split
  · refine .inr ⟨rfl, ?_, ?_⟩
    · rw [didS_now]
      simp [putS]
    · rw [didS_had]
      simp [putS, remH, h1, h2]
  · exact .inl ⟨h1, h2⟩
theorem FlInv.crash {k : Nat} {o t : List UInt8} {again : Bool} {S : Dk} (h : FlInv k o t again S) {ks : List Nat} (hk : Dirty S.had ks) (keep : List Bool) : (crS S keep ks).now k = full o ∨ (again = true ∧ (crS S keep ks).now k = full t) := by
  rcases h with ⟨h1, h2⟩ | ⟨h0, h1, h2⟩
  · left
    show crN keep S.had ks ks.length S.now k = _
    rw [crN_clean hk _ _ h2, h1]
  · rcases crN_two keep S.had ks ks.length S.now k with e | e
    · right
      refine ⟨h0, ?_⟩
      show crN keep S.had ks ks.length S.now k = _
      rw [e, h1]
    · left
      show crN keep S.had ks ks.length S.now k = _
      rw [e, h2]
      rfl
/-- Behind a write and a flush. -/
theorem fl_start {S : Dk} {k : Nat} {o : List UInt8} (hd : S.down = false) (hk : k < 16) (hl : o.length ≤ 64) (hd1 : (wrS 16 S (k : Int) o).down = false) :
    (flS (wrS 16 S (k : Int) o)).now k = full o ∧ (flS (wrS 16 S (k : Int) o)).had k = none := by
  have e : wrS 16 S (k : Int) o = didS (putS S k o) := by rw [wrS, if_pos ⟨hd, ⟨by omega, by omega⟩, hl⟩, Int.toNat_natCast]
  unfold flS
  rw [if_neg (by rw [hd1]; simp)]
  rw [didS_now, didS_had]
  refine ⟨?_, rfl⟩
  rw [e]
  show (didS (putS S k o)).now k = _
  rw [didS_now]
  simp [putS]
def F2Rel (w0 : World) (p q r pm g1 g2 g3 k : Nat) (o t : List UInt8) (again : Bool) (i : Value) (wr : World) : Prop :=
  ∃ (j : Nat) (S : Dk), j ≤ 16 ∧ i = .int .i64 (j : Int) ∧ Two w0 wr p q r pm g1 g2 g3 S ∧ FlInv k o t again S
set_option maxRecDepth 20000 in
set_option maxHeartbeats 8000000 in
theorem pdiskFlushed_walk (A : Option Addr) (n c : Nat) (l : List Pop) (a : Int) (A2 : Option Addr) (n2 c2 : Nat) (b : List UInt8) (A3 : Option Addr) (n3 c3 : Nat) (b' : List UInt8) (again : Bool) (A5 : Option Addr) (n5 c5 : Nat) (ks : List Bool) (w : World)
    (hl : RdPops w A n l) (hb : Rd w A2 n2 b) (hb' : Rd w A3 n3 b') (hks : RdV w A5 n5 (tvs ks)) :
    Calls Try.prog 3 #[.slice A n c, .int .i64 a, .slice A2 n2 c2, .slice A3 n3 c3, .bool again, .slice A5 n5 c5] w (Holds w) := by
  have k1 := large_any (c := c) hl
  have Hl := Lib.hid hl
  have Hb := Lib.hid hb
  have Hb' := Lib.hid hb'
  have Hks := Lib.hid hks
  clear hl hb hb' hks
  go_enter Try.func3, Try.ntmps3
  by_cases hn2 : 64 < n2
  · go_wp2_with (go_at_call 8; refine k1.mono ?_; rintro e w' ⟨q, rfl, hq, rfl⟩; cases q)
    all_goals (
      go_ret
      exact ⟨rfl, Below.refl _ _⟩)
  · by_cases hn3 : 64 < n3
    · go_wp2_with (go_at_call 8; refine k1.mono ?_; rintro e w' ⟨q, rfl, hq, rfl⟩; cases q)
      all_goals (
        go_ret
        exact ⟨rfl, Below.refl _ _⟩)
    · by_cases hn5 : 5000 < n5
      · go_wp2_with (go_at_call 8; refine k1.mono ?_; rintro e w' ⟨q, rfl, hq, rfl⟩; cases q)
        all_goals (
          go_ret
          exact ⟨rfl, Below.refl _ _⟩)
      · go_upto_if 38 with (go_at_call 8; refine k1.mono ?_; rintro e w' ⟨q, rfl, hq, rfl⟩; cases q)
        rotate_left
        · go_wp2
          go_ret
          exact ⟨rfl, Below.refl _ _⟩
        · have HS := Lib.hid (show SmallP l from by simpa using hq)
          clear hq k1
          have nd := new16 w'
          have nm := mnew16
          go_upto_region 5 with (first
            | (go_at_call 9; refine nd.mono ?_; rintro e w1 ⟨p, q, r, rfl, D1, ld, hb1⟩)
            | (go_at_call 10; refine (nm _).mono ?_; rintro e w2 ⟨pm, g1, g2, g3, rfl, M2, lm, hb2⟩; have T2 := Lib.hid (Two.start D1 ld hb1 M2 lm hb2); clear D1 ld hb1 M2 lm hb2))
          clear nd nm
          go_wp2
          go_loopw [17] (ScRel w' p q r pm g1 g2 g3 n) (fun i _ => n - (intOf i).toNat)
          case atStart => exact ⟨0, _, Nat.zero_le _, rfl, T2.out⟩
          case round =>
            clear T2
            obtain ⟨k, S, hk, rfl, T⟩ := hrel
            have HT := Lib.hid T
            clear T
            have hn100 : n ≤ 100 := by
              have := HS.out.1
              rw [Hl.out.len] at this
              exact this
            by_cases hlt : k < n
            · have hlt' : (k : Int) < (n : Int) := by omega
              obtain ⟨b0, off, o, rfl, hb0, ho, _, z0, z1, z2, z3⟩ := Hl.out.get hlt
              have c1 := call_any (HT.out.pre Hl.out HS.out ho)
              have y0 := (HT.out.be.cell (p := ⟨b0, off + k * 4, none⟩) hb0).trans z0
              have y1 := (HT.out.be.cell (p := ⟨b0, off + k * 4 + 1, none⟩) hb0).trans z1
              have y2 := (HT.out.be.cell (p := ⟨b0, off + k * 4 + 2, none⟩) hb0).trans z2
              have y3 := (HT.out.be.cell (p := ⟨b0, off + k * 4 + 3, none⟩) hb0).trans z3
              clear z0 z1 z2 z3 ho hb0
              obtain ⟨ok, oa, oA, om, oc, ol, oK, oj, od, oks⟩ := o
              simp only [popv, pcs] at c1 y0 y1 y2 y3
              go_wp2_with (go_at_call 11; refine c1.mono ?_; rintro e w3 hpost; obtain ⟨bb, S2, rfl, T3⟩ := HT.out.post hpost; have H3 := Lib.hid T3; clear hpost T3)
              go_roundw
              case rel => exact ⟨k + 1, S2, hlt, by go_num, H3.out⟩
              case measure => simp [intOf]; omega
            · obtain rfl : k = n := by omega
              by_cases hd : S.down = true
              · have hw : S = wrS 16 S a b ∧ (70 : Int) = wrE 16 S a b := ⟨(down_stays hd 16 a 5 b).1, (down_stays hd 16 a 5 b).2.1⟩
                have kw := write_any HT.out.d a (hl := Hb.out.below HT.out.be) (c := c2) (HT.out.far Hb.out) hw.1 hw.2
                have Hd := Lib.hid hd
                clear hd hw
                go_upto_if 79 with (go_at_call 12; refine kw.mono ?_; rintro e w4 ⟨rfl, D4, O4⟩; have TW := Lib.hid (HT.out.onD D4 O4); clear D4 O4)
                clear kw
                go_wp2_with (first
                  | (go_at_call 14; refine (awake_any _).mono ?_; rintro e w9 ⟨rfl, hb9⟩; have kd := down_any (TW.out.below hb9).d; rw [Hd.out] at kd; have HB9 := Lib.hid (TW.out.below hb9).be; clear hb9)
                  | (go_at_call 15; refine kd.mono ?_; rintro e w' ⟨rfl, rfl⟩))
                go_ret
                exact ⟨by simp, HB9.out⟩
              · have hd : S.down = false := by simpa using hd
                by_cases ha : 0 ≤ a ∧ a < 16
                · obtain ⟨k, rfl⟩ : ∃ k : Nat, a = (k : Int) := ⟨a.toNat, by omega⟩
                  have hk16 : k < 16 := by omega
                  have hbl : b.length ≤ 64 := by rw [Hb.out.len]; omega
                  have he : (0 : Int) = wrE 16 S (k : Int) b := by
                    rw [wrE, hd]
                    simp only [Bool.false_eq_true, if_false]
                    rw [if_neg (by omega), if_neg (by omega)]
                  have kw := write_any HT.out.d (k : Int) (hl := Hb.out.below HT.out.be) (c := c2) (HT.out.far Hb.out) rfl he
                  clear ha he
                  cases hd1 : (wrS 16 S (k : Int) b).down with
                  | true =>
                    have Hd := Lib.hid hd1
                    have hf : wrS 16 S (k : Int) b = flS (wrS 16 S (k : Int) b) ∧ (70 : Int) = flE (wrS 16 S (k : Int) b) := ⟨(down_stays hd1 16 0 5 b).2.2.1, (down_stays hd1 16 0 5 b).2.2.2.1⟩
                    generalize wrS 16 S (k : Int) b = S1 at kw Hd hf
                    have Hf := Lib.hid hf
                    clear hd1 hd hbl hf
                    go_upto_if 79 with (first
                      | (go_at_call 12; refine kw.mono ?_; rintro e w4 ⟨rfl, D4, O4⟩; have TV := Lib.hid (HT.out.onD D4 O4); have kf := flush_any D4 Hf.out.1 Hf.out.2; clear D4 O4)
                      | (go_at_call 13; refine kf.mono ?_; rintro e w5 ⟨rfl, D5, O5⟩; have TW := Lib.hid (TV.out.onD D5 O5); clear D5 O5))
                    clear kw kf
                    go_wp2_with (first
                      | (go_at_call 14; refine (awake_any _).mono ?_; rintro e w9 ⟨rfl, hb9⟩; have kd := down_any (TW.out.below hb9).d; rw [Hd.out] at kd; have HB9 := Lib.hid (TW.out.below hb9).be; clear hb9)
                      | (go_at_call 15; refine kd.mono ?_; rintro e w' ⟨rfl, rfl⟩))
                    go_ret
                    exact ⟨by simp, HB9.out⟩
                  | false =>
                    have hst := fl_start hd hk16 hbl hd1
                    have hf : (0 : Int) = flE (wrS 16 S (k : Int) b) := by rw [flE, hd1]; rfl
                    have Hst := Lib.hid hst
                    have Hf := Lib.hid hf
                    clear hd1 hd hbl hf hst
                    generalize wrS 16 S (k : Int) b = S1 at kw Hf Hst
                    go_upto_if 79 with (first
                      | (go_at_call 12; refine kw.mono ?_; rintro e w4 ⟨rfl, D4, O4⟩; have TV := Lib.hid (HT.out.onD D4 O4); have kf := flush_any D4 rfl Hf.out; clear D4 O4)
                      | (go_at_call 13; refine kf.mono ?_; rintro e w5 ⟨rfl, D5, O5⟩; have TW := Lib.hid (TV.out.onD D5 O5); clear D5 O5))
                    clear kw kf TV Hf
                    generalize flS S1 = S2 at TW Hst
                    cases again with
                    | false =>
                      have FI := Lib.hid (show FlInv k b b' false S2 from .inl Hst.out)
                      have TS := TW
                      clear TW
                      go_wp2
                      go_loopw [18] (F2Rel w' p q r pm g1 g2 g3 k b b' false) (fun i _ => 16 - (intOf i).toNat)
                      case atStart => exact ⟨0, _, Nat.zero_le _, rfl, TS.out, FI.out⟩
                      case round =>
                        clear TS FI
                        obtain ⟨j, U, hj, rfl, TU, IU⟩ := hrel
                        have HU := Lib.hid TU
                        have HI := Lib.hid IU
                        clear TU IU
                        by_cases hj16 : j < 16
                        · have hj16' : (j : Int) < 16 := by omega
                          by_cases hjk : j = k
                          · subst hjk
                            go_wp2
                            go_roundw
                            case rel => exact ⟨j + 1, U, hj16, by go_num, HU.out, HI.out⟩
                            case measure => simp [intOf]; omega
                          · have hjk' : ¬ ((j : Int) = (k : Int)) := by omega
                            have kw := write_any HU.out.d (j : Int) (hl := Hb'.out.below HU.out.be) (c := c3) (HU.out.far Hb'.out) rfl rfl
                            go_wp2_with (go_at_call 12; refine kw.mono ?_; rintro e w5 ⟨rfl, D5, O5⟩; have H5 := Lib.hid (HU.out.onD D5 O5); clear D5 O5)
                            go_roundw
                            case rel => exact ⟨j + 1, _, hj16, by go_num, H5.out, HI.out.other hjk b'⟩
                            case measure => simp [intOf]; omega
                        · obtain rfl : j = 16 := by omega
                          have kc := crash_any (c := c5) HU.out.d (rdv_oth Hks.out (Oth.of_below HU.out.be (fun _ => False)) (fun _ _ _ h => h)) (HU.out.farV Hks.out)
                          go_upto_region 21 with (go_at_call 16; refine kc.mono ?_; rintro e w6 ⟨kk, hkk, rfl, D6, O6⟩)
                          have T6 := Lib.hid (HU.out.onD D6 O6)
                          have hend := HI.out.crash hkk ks
                          have hdn : (crS U ks kk).down = false := rfl
                          have hl64 := D6.len k (by omega)
                          clear kc D6 O6 HU HI
                          generalize crS U ks kk = V at T6 hend hdn hl64
                          have hin : 0 ≤ (k : Int) ∧ (k : Int) < ((16 : Nat) : Int) := ⟨by omega, by omega⟩
                          have kr := read_any T6.out.d (k : Int) (l := V.now k) (er := 0) (by rw [rdL, if_pos hin, Int.toNat_natCast]) (by rw [rdE, if_pos hin])
                          have HDn := Lib.hid hdn
                          clear hin hkk hdn
                          go_upto_region 22 with (go_at_call 17; refine kr.mono ?_; rintro e w7 ⟨v, rfl, ho, hb7⟩)
                          have T7 := Lib.hid (T6.out.below hb7)
                          obtain ⟨A1, cp, rfl, hcp, hcm, hrd⟩ := ho.shapeN hl64
                          have R7 := Lib.hid hrd
                          have kf := full_any (c := c2) (Hb.out.below T7.out.be) (by omega)
                          unfold FullPost at kf
                          obtain ⟨sb, hsb⟩ : ∃ sb, sb = ByteArray.mk (full b).toArray := ⟨_, rfl⟩
                          rw [← hsb] at kf
                          have SB := Lib.hid hsb
                          clear kr ho hrd hb7 hsb hl64
                          go_upto_region 23 with (go_at_call 18; refine kf.mono ?_; rintro e w8 ⟨rfl, hb8⟩)
                          have T8 := Lib.hid (T7.out.below hb8)
                          have R8 := Lib.hid (R7.out.below hb8)
                          clear kf hb8 R7
                          by_cases hA : V.now k = full b
                          · have Hrl := Lib.hid hA
                            clear hend hA
                            obtain ⟨X, hX⟩ : ∃ X, X = full b := ⟨_, rfl⟩
                            rw [← hX] at SB
                            obtain ⟨Y, hY⟩ : ∃ Y, Y = X := ⟨_, rfl⟩
                            have hYX : V.now k = Y := by rw [hY, hX]; exact Hrl.out
                            have cF : True := trivial
                            have cA : ∀ dd os, Calls Try.prog 14 #[] (Go.Sort.grow (redrawn w8 dd) os) fun e w'' => e = .returned (.bool true) ∧ ∃ p : Regrown, w'' = Go.Sort.grow (redrawn w8 p.d) p.os := fun dd os => Calls.regrown_of (awake_any _)
                            have cD : ∀ dd os, Calls Try.prog 15 #[.pointer (some ⟨p, 0, none⟩)] (Go.Sort.grow (redrawn w8 dd) os) fun e w'' => e = .returned (.bool false) ∧ ∃ p : Regrown, w'' = Go.Sort.grow (redrawn w8 p.d) p.os := fun dd os => Calls.regrown_of ((down_any (T8.out.d.below (below_regrown w8 dd os))).mono fun _ _ h => ⟨by rw [← HDn.out]; exact h.1, by rw [h.2]; exact Below.refl _ _⟩)
                            have v1 := fun dd os => (R8.out.below (below_regrown w8 dd os)).conv (P := Try.prog) cp 23 5 9 Try.underlying23 Try.underlying5 Try.underlying9
                            rw [hYX] at v1
                            rw [hY] at v1
                            have hsb : sb = ByteArray.mk X.toArray := SB.out
                            subst hsb
                            have HT8 := Lib.hid T8.out.be
                            clear hYX hY hX SB R8 T8 Hrl 
                            have mixed := mixed7
                            refine wp_region_quiet_below mixed (by kernel_rfl) ?_
                            repeat (go_big_quiet_step (first | exact cA _ _ | exact cD _ _ | exact cF _ _))
                            refine wpQuiet_nil ?_
                            intro _ hw'
                            obtain ⟨⟨dq, osq⟩, rfl⟩ := hw'
                            have bq := Lib.hid (HT8.out.trans ((below_regrown w8 dq osq).mono HT8.out.size))
                            clear cA cD cF
                            go_wp2
                            go_ret
                            exact ⟨by simp, bq.out⟩
                          · rcases hend with h | h
                            · exact absurd h hA
                            · cases h.1
                    | true =>
                      have kw := write_any TW.out.d (k : Int) (hl := Hb'.out.below TW.out.be) (c := c3) (TW.out.far Hb'.out) rfl rfl
                      have FI := Lib.hid (FlInv.again (t := b') Hst.out.1 Hst.out.2)
                      go_wp2_with (go_at_call 12; refine kw.mono ?_; rintro e w6 ⟨rfl, D6, O6⟩; have TS := Lib.hid (TW.out.onD D6 O6); clear D6 O6)
                      clear kw TW
                      go_loopw [18] (F2Rel w' p q r pm g1 g2 g3 k b b' true) (fun i _ => 16 - (intOf i).toNat)
                      case atStart => exact ⟨0, _, Nat.zero_le _, rfl, TS.out, FI.out⟩
                      case round =>
                        clear TS FI
                        obtain ⟨j, U, hj, rfl, TU, IU⟩ := hrel
                        have HU := Lib.hid TU
                        have HI := Lib.hid IU
                        clear TU IU
                        by_cases hj16 : j < 16
                        · have hj16' : (j : Int) < 16 := by omega
                          by_cases hjk : j = k
                          · subst hjk
                            go_wp2
                            go_roundw
                            case rel => exact ⟨j + 1, U, hj16, by go_num, HU.out, HI.out⟩
                            case measure => simp [intOf]; omega
                          · have hjk' : ¬ ((j : Int) = (k : Int)) := by omega
                            have kw := write_any HU.out.d (j : Int) (hl := Hb'.out.below HU.out.be) (c := c3) (HU.out.far Hb'.out) rfl rfl
                            go_wp2_with (go_at_call 12; refine kw.mono ?_; rintro e w5 ⟨rfl, D5, O5⟩; have H5 := Lib.hid (HU.out.onD D5 O5); clear D5 O5)
                            go_roundw
                            case rel => exact ⟨j + 1, _, hj16, by go_num, H5.out, HI.out.other hjk b'⟩
                            case measure => simp [intOf]; omega
                        · obtain rfl : j = 16 := by omega
                          have kc := crash_any (c := c5) HU.out.d (rdv_oth Hks.out (Oth.of_below HU.out.be (fun _ => False)) (fun _ _ _ h => h)) (HU.out.farV Hks.out)
                          go_upto_region 21 with (go_at_call 16; refine kc.mono ?_; rintro e w6 ⟨kk, hkk, rfl, D6, O6⟩)
                          have T6 := Lib.hid (HU.out.onD D6 O6)
                          have hend := HI.out.crash hkk ks
                          have hdn : (crS U ks kk).down = false := rfl
                          have hl64 := D6.len k (by omega)
                          clear kc D6 O6 HU HI
                          generalize crS U ks kk = V at T6 hend hdn hl64
                          have hin : 0 ≤ (k : Int) ∧ (k : Int) < ((16 : Nat) : Int) := ⟨by omega, by omega⟩
                          have kr := read_any T6.out.d (k : Int) (l := V.now k) (er := 0) (by rw [rdL, if_pos hin, Int.toNat_natCast]) (by rw [rdE, if_pos hin])
                          have HDn := Lib.hid hdn
                          clear hin hkk hdn
                          go_upto_region 22 with (go_at_call 17; refine kr.mono ?_; rintro e w7 ⟨v, rfl, ho, hb7⟩)
                          have T7 := Lib.hid (T6.out.below hb7)
                          obtain ⟨A1, cp, rfl, hcp, hcm, hrd⟩ := ho.shapeN hl64
                          have R7 := Lib.hid hrd
                          have kf := full_any (c := c2) (Hb.out.below T7.out.be) (by omega)
                          unfold FullPost at kf
                          obtain ⟨sb, hsb⟩ : ∃ sb, sb = ByteArray.mk (full b).toArray := ⟨_, rfl⟩
                          rw [← hsb] at kf
                          have SB := Lib.hid hsb
                          clear kr ho hrd hb7 hsb hl64
                          go_upto_region 23 with (go_at_call 18; refine kf.mono ?_; rintro e w8 ⟨rfl, hb8⟩)
                          have T8 := Lib.hid (T7.out.below hb8)
                          have R8 := Lib.hid (R7.out.below hb8)
                          clear kf hb8 R7
                          by_cases hA : V.now k = full b
                          · have Hrl := Lib.hid hA
                            clear hend hA
                            obtain ⟨X, hX⟩ : ∃ X, X = full b := ⟨_, rfl⟩
                            rw [← hX] at SB
                            obtain ⟨Y, hY⟩ : ∃ Y, Y = X := ⟨_, rfl⟩
                            have hYX : V.now k = Y := by rw [hY, hX]; exact Hrl.out
                            have cF : True := trivial
                            have cA : ∀ dd os, Calls Try.prog 14 #[] (Go.Sort.grow (redrawn w8 dd) os) fun e w'' => e = .returned (.bool true) ∧ ∃ p : Regrown, w'' = Go.Sort.grow (redrawn w8 p.d) p.os := fun dd os => Calls.regrown_of (awake_any _)
                            have cD : ∀ dd os, Calls Try.prog 15 #[.pointer (some ⟨p, 0, none⟩)] (Go.Sort.grow (redrawn w8 dd) os) fun e w'' => e = .returned (.bool false) ∧ ∃ p : Regrown, w'' = Go.Sort.grow (redrawn w8 p.d) p.os := fun dd os => Calls.regrown_of ((down_any (T8.out.d.below (below_regrown w8 dd os))).mono fun _ _ h => ⟨by rw [← HDn.out]; exact h.1, by rw [h.2]; exact Below.refl _ _⟩)
                            have v1 := fun dd os => (R8.out.below (below_regrown w8 dd os)).conv (P := Try.prog) cp 23 5 9 Try.underlying23 Try.underlying5 Try.underlying9
                            rw [hYX] at v1
                            rw [hY] at v1
                            have hsb : sb = ByteArray.mk X.toArray := SB.out
                            subst hsb
                            have HT8 := Lib.hid T8.out.be
                            clear hYX hY hX SB R8 T8 Hrl 
                            have mixed := mixed7
                            refine wp_region_quiet_below mixed (by kernel_rfl) ?_
                            repeat (go_big_quiet_step (first | exact cA _ _ | exact cD _ _ | exact cF _ _))
                            refine wpQuiet_nil ?_
                            intro _ hw'
                            obtain ⟨⟨dq, osq⟩, rfl⟩ := hw'
                            have bq := Lib.hid (HT8.out.trans ((below_regrown w8 dq osq).mono HT8.out.size))
                            clear cA cD cF
                            go_wp2
                            go_ret
                            exact ⟨by simp, bq.out⟩
                          · have hB : V.now k = full b' := by
                              rcases hend with h | h
                              · exact absurd h hA
                              · exact h.2
                            have Hrl := Lib.hid hB
                            clear hend hB
                            obtain ⟨X, hX⟩ : ∃ X, X = full b := ⟨_, rfl⟩
                            rw [← hX] at SB
                            obtain ⟨Y, hY⟩ : ∃ Y, Y = full b' := ⟨_, rfl⟩
                            have hYX : V.now k = Y := by rw [hY]; exact Hrl.out
                            have hyx : Y ≠ X := fun e => hA (by rw [hYX, e, hX])
                            have hne : (Y == X) = false := by simp [hyx]
                            have cF : ∀ dd os, Calls Try.prog 18 #[.slice A3 n3 c3] (Go.Sort.grow (redrawn w8 dd) os) fun e w'' => e = .returned (.string ⟨Y.toArray⟩) ∧ ∃ p : Regrown, w'' = Go.Sort.grow (redrawn w8 p.d) p.os := fun dd os => Calls.regrown_of (by
                              have := full_any (c := c3) (Hb'.out.below (T8.out.be.trans ((below_regrown w8 dd os).mono T8.out.be.size))) (by omega)
                              unfold FullPost at this
                              rw [← hY] at this
                              exact this)
                            clear hyx
                            have cA : ∀ dd os, Calls Try.prog 14 #[] (Go.Sort.grow (redrawn w8 dd) os) fun e w'' => e = .returned (.bool true) ∧ ∃ p : Regrown, w'' = Go.Sort.grow (redrawn w8 p.d) p.os := fun dd os => Calls.regrown_of (awake_any _)
                            have cD : ∀ dd os, Calls Try.prog 15 #[.pointer (some ⟨p, 0, none⟩)] (Go.Sort.grow (redrawn w8 dd) os) fun e w'' => e = .returned (.bool false) ∧ ∃ p : Regrown, w'' = Go.Sort.grow (redrawn w8 p.d) p.os := fun dd os => Calls.regrown_of ((down_any (T8.out.d.below (below_regrown w8 dd os))).mono fun _ _ h => ⟨by rw [← HDn.out]; exact h.1, by rw [h.2]; exact Below.refl _ _⟩)
                            have v1 := fun dd os => (R8.out.below (below_regrown w8 dd os)).conv (P := Try.prog) cp 23 5 9 Try.underlying23 Try.underlying5 Try.underlying9
                            rw [hYX] at v1
                            have hsb : sb = ByteArray.mk X.toArray := SB.out
                            subst hsb
                            have HT8 := Lib.hid T8.out.be
                            clear hYX hY hX SB R8 T8 Hrl hA
                            have mixed := mixed7
                            refine wp_region_quiet_below mixed (by kernel_rfl) ?_
                            repeat (go_big_quiet_step (first | exact cA _ _ | exact cD _ _ | exact cF _ _))
                            refine wpQuiet_nil ?_
                            intro _ hw'
                            obtain ⟨⟨dq, osq⟩, rfl⟩ := hw'
                            have bq := Lib.hid (HT8.out.trans ((below_regrown w8 dq osq).mono HT8.out.size))
                            clear cA cD cF
                            go_wp2
                            go_ret
                            exact ⟨by simp, bq.out⟩
                · have hw : S = wrS 16 S a b ∧ (71 : Int) = wrE 16 S a b := by
                    refine ⟨?_, ?_⟩
                    · rw [wrS, if_neg fun h => ha h.2.1]
                    · rw [wrE, hd]
                      simp only [Bool.false_eq_true, if_false]
                      rw [if_pos (by omega)]
                  have kw := write_any HT.out.d a (hl := Hb.out.below HT.out.be) (c := c2) (HT.out.far Hb.out) hw.1 hw.2
                  have Hd := Lib.hid hd
                  clear hd hw
                  go_upto_if 79 with (go_at_call 12; refine kw.mono ?_; rintro e w4 ⟨rfl, D4, O4⟩; have TW := Lib.hid (HT.out.onD D4 O4); clear D4 O4)
                  clear kw
                  by_cases ha0 : a < 0
                  · skip
                    go_wp2_with (first
                      | (go_at_call 14; refine (awake_any _).mono ?_; rintro e w9 ⟨rfl, hb9⟩; have kd := down_any (TW.out.below hb9).d; rw [Hd.out] at kd; have HB9 := Lib.hid (TW.out.below hb9).be; clear hb9)
                      | (go_at_call 15; refine kd.mono ?_; rintro e w' ⟨rfl, rfl⟩))
                    go_ret
                    exact ⟨by simp, HB9.out⟩
                  · have ha1 : ¬ a < 16 := by omega
                    go_wp2_with (first
                      | (go_at_call 14; refine (awake_any _).mono ?_; rintro e w9 ⟨rfl, hb9⟩; have kd := down_any (TW.out.below hb9).d; rw [Hd.out] at kd; have HB9 := Lib.hid (TW.out.below hb9).be; clear hb9)
                      | (go_at_call 15; refine kd.mono ?_; rintro e w' ⟨rfl, rfl⟩))
                    go_ret
                    exact ⟨by simp, HB9.out⟩
end Go.Proofs.Ytoookmkfaihbpaa
