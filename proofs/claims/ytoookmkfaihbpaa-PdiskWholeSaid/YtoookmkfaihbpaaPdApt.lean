/-
  The statement PdiskApart: walked. (By gen_pdapt.py.)
-/
import Derived.Test.YtoookmkfaihbpaaPdFl
import Derived.Test.YtoookmkfaihbpaaPdAll
namespace Go.Proofs.Ytoookmkfaihbpaa
open Go.RowKit

theorem ext_list (l : List UInt8) (a b : Nat) : (ByteArray.mk l.toArray).extract a b = ByteArray.mk ((l.drop a).take (b - a)).toArray := by
  rw [ByteArray.extract_mk]
set_option maxRecDepth 20000 in
set_option maxHeartbeats 8000000 in
theorem pdiskApart_walk (A : Option Addr) (n c : Nat) (l : List Pop) (a : Int) (A2 : Option Addr) (n2 c2 : Nat) (b : List UInt8) (w : World) (hl : RdPops w A n l) (hb : Rd w A2 n2 b) :
    Calls Try.prog 7 #[.slice A n c, .int .i64 a, .slice A2 n2 c2] w (Holds w) := by
  have k1 := large_any (c := c) hl
  have Hl := Lib.hid hl
  have Hb := Lib.hid hb
  clear hl hb
  go_enter Try.func7, Try.ntmps7
  by_cases hn2 : 1000 < n2
  · go_wp2_with (go_at_call 8; refine k1.mono ?_; rintro e w' ⟨q, rfl, hq, rfl⟩; cases q)
    all_goals (
      go_ret
      exact ⟨rfl, Below.refl _ _⟩)
  · skip
    go_upto_if 20 with (go_at_call 8; refine k1.mono ?_; rintro e w' ⟨q, rfl, hq, rfl⟩; cases q)
    rotate_left
    · go_wp2
      go_ret
      exact ⟨rfl, Below.refl _ _⟩
    · have HS := Lib.hid (show SmallP l from by simpa using hq)
      clear hq k1
      have nd := new16 w'
      have nm := mnew16
      go_upto_region 5 with (first
        | (go_at_call 9; refine nd.mono ?_; rintro e w1 ⟨p, q, r, rfl, D1, ld, hb1⟩)
        | (go_at_call 10; refine (nm _).mono ?_; rintro e w2 ⟨pm, g1, g2, g3, rfl, M2, lm, hb2⟩; have T2 := Lib.hid (Two.start D1 ld hb1 M2 lm hb2); clear D1 ld hb1 M2 lm hb2))
      clear nd nm
      go_wp2
      go_loopw [11] (ScRel w' p q r pm g1 g2 g3 n) (fun i _ => n - (intOf i).toNat)
      case atStart => exact ⟨0, _, Nat.zero_le _, rfl, T2.out⟩
      case round =>
        clear T2
        obtain ⟨k, S, hk, rfl, T⟩ := hrel
        have HT := Lib.hid T
        clear T
        have hn100 : n ≤ 100 := by
          have := HS.out.1
          rw [Hl.out.len] at this
          exact this
        by_cases hlt : k < n
        · have hlt' : (k : Int) < (n : Int) := by omega
          obtain ⟨b0, off, o, rfl, hb0, ho, _, z0, z1, z2, z3⟩ := Hl.out.get hlt
          have c1 := call_any (HT.out.pre Hl.out HS.out ho)
          have y0 := (HT.out.be.cell (p := ⟨b0, off + k * 4, none⟩) hb0).trans z0
          have y1 := (HT.out.be.cell (p := ⟨b0, off + k * 4 + 1, none⟩) hb0).trans z1
          have y2 := (HT.out.be.cell (p := ⟨b0, off + k * 4 + 2, none⟩) hb0).trans z2
          have y3 := (HT.out.be.cell (p := ⟨b0, off + k * 4 + 3, none⟩) hb0).trans z3
          clear z0 z1 z2 z3 ho hb0
          obtain ⟨ok, oa, oA, om, oc, ol, oK, oj, od, oks⟩ := o
          simp only [popv, pcs] at c1 y0 y1 y2 y3
          go_wp2_with (go_at_call 11; refine c1.mono ?_; rintro e w3 hpost; obtain ⟨bb, S2, rfl, T3⟩ := HT.out.post hpost; have H3 := Lib.hid T3; clear hpost T3)
          go_roundw
          case rel => exact ⟨k + 1, S2, hlt, by go_num, H3.out⟩
          case measure => simp [intOf]; omega
        · obtain rfl : k = n := by omega
          have ka := all_any HT.out.d (l := cat S.now 16) rfl
          have hsz := cat_len 16 HT.out.d.len
          obtain ⟨s0, hs0⟩ : ∃ s0, s0 = ByteArray.mk (cat S.now 16).toArray := ⟨_, rfl⟩
          unfold AllPost at ka
          rw [← hs0] at ka
          have HZ := Lib.hid hs0
          have Hsz := Lib.hid hsz
          clear hs0 hsz
          go_upto_region 12 with (go_at_call 21; refine ka.mono ?_; rintro e w3 ⟨rfl, hb3⟩)
          have T3 := Lib.hid (HT.out.below hb3)
          clear ka hb3 HT
          by_cases hok : S.down = false ∧ (0 ≤ a ∧ a < 16) ∧ b.length ≤ 64
          · obtain ⟨hd, ha, hbl⟩ := hok
            obtain ⟨j, rfl⟩ : ∃ j : Nat, a = (j : Int) := ⟨a.toNat, by omega⟩
            have hj16 : j < 16 := by omega
            have he : (0 : Int) = wrE 16 S (j : Int) b := by
              rw [wrE, hd]
              simp only [Bool.false_eq_true, if_false]
              rw [if_neg (by omega), if_neg (by omega)]
            have hw : didS (putS S j b) = wrS 16 S (j : Int) b := by rw [wrS, if_pos ⟨hd, ⟨by omega, by omega⟩, hbl⟩, Int.toNat_natCast]
            have kw := write_any T3.out.d (j : Int) (hl := Hb.out.below T3.out.be) (c := c2) (T3.out.far Hb.out) hw he
            clear ha he hw hd
            go_upto_if 58 with (go_at_call 12; refine kw.mono ?_; rintro e w4 ⟨rfl, D4, O4⟩; have T4 := Lib.hid (T3.out.onD D4 O4); clear D4 O4)
            clear kw
            have hnow : (didS (putS S j b)).now = fun i => if i = j then full b else S.now i := by rw [didS_now]; rfl
            have ka := all_any T4.out.d (l := cat (didS (putS S j b)).now 16) rfl
            have hsz1 := cat_len 16 T4.out.d.len
            obtain ⟨s1, hs1⟩ : ∃ s1, s1 = ByteArray.mk (cat (didS (putS S j b)).now 16).toArray := ⟨_, rfl⟩
            unfold AllPost at ka
            rw [← hs1] at ka
            -- the rows, cut
            have m1 : s1.extract 0 (64 * j) = s0.extract 0 (64 * j) := by
              rw [hs1, HZ.out, ext_list, ext_list]
              simp only [List.drop_zero, Nat.sub_zero]
              rw [cat_take 16 j (by omega) T4.out.d.len, cat_take 16 j (by omega) T3.out.d.len, hnow]
              congr 2
              exact cat_congr j fun i hi => by rw [if_neg (by omega)]
            have m2 : s1.extract (64 * j + 64) 1024 = s0.extract (64 * j + 64) 1024 := by
              rw [hs1, HZ.out, ext_list, ext_list]
              have := cat_drop (f := (didS (putS S j b)).now) (g := S.now) 16 (j + 1) T4.out.d.len T3.out.d.len fun i hi => by rw [hnow]; dsimp only; rw [if_neg (by omega)]
              rw [show 64 * j + 64 = 64 * (j + 1) from by omega, this]
            have m3 : s1.extract (64 * j) (64 * j + 64) = ByteArray.mk (full b).toArray := by
              rw [hs1, ext_list, show 64 * j + 64 - 64 * j = 64 from by omega, cat_mid 16 j hj16 T4.out.d.len, hnow]
              simp
            have z1 : s1.size = 1024 := by rw [hs1]; simpa [ByteArray.size] using hsz1
            have z0 : s0.size = 1024 := by rw [HZ.out]; simpa [ByteArray.size] using Hsz.out
            have M := Lib.hid (And.intro m1 (And.intro m2 m3))
            clear hs1 hsz1 hnow m1 m2 m3
            go_upto_region 15 with (go_at_call 21; refine ka.mono ?_; rintro e w5 ⟨rfl, hb5⟩)
            have T5 := Lib.hid (T4.out.below hb5)
            clear ka hb5 T4 T3 HZ Hsz
            generalize didS (putS S j b) = S1 at T5
            obtain ⟨sf, hsf⟩ : ∃ sf, sf = ByteArray.mk (full b).toArray := ⟨_, rfl⟩
            have cA : ∀ dd os, Calls Try.prog 14 #[] (Go.Sort.grow (redrawn w5 dd) os) fun e w'' => e = .returned (.bool true) ∧ ∃ p : Regrown, w'' = Go.Sort.grow (redrawn w5 p.d) p.os := fun dd os => Calls.regrown_of (awake_any _)
            have cF : ∀ dd os, Calls Try.prog 18 #[.slice A2 n2 c2] (Go.Sort.grow (redrawn w5 dd) os) fun e w'' => e = .returned (.string sf) ∧ ∃ p : Regrown, w'' = Go.Sort.grow (redrawn w5 p.d) p.os := fun dd os => Calls.regrown_of (by
              have := full_any (c := c2) (Hb.out.below (T5.out.be.trans ((below_regrown w5 dd os).mono T5.out.be.size))) (by omega)
              unfold FullPost at this
              rw [← hsf] at this
              exact this)
            have m1 := M.out.1
            have m2 := M.out.2.1
            have m3 := M.out.2.2
            rw [← hsf] at m3
            clear hsf
            have HT5 := Lib.hid T5.out.be
            clear T5 M
            have hj16' : (j : Int) < 16 := by omega
            have mixed := mixed7
            refine wp_region_quiet_below mixed (by kernel_rfl) ?_
            repeat (go_big_quiet_step (first | exact cA _ _ | exact cF _ _))
            refine wpQuiet_nil ?_
            intro _ hwx
            obtain ⟨⟨dq, osq⟩, rfl⟩ := hwx
            have bq := Lib.hid (HT5.out.trans ((below_regrown w5 dq osq).mono HT5.out.size))
            clear cA cF m1 m2 m3
            go_wp2
            go_ret
            exact ⟨by simp, bq.out⟩
          · have he : ¬ wrE 16 S a b = 0 := by
              unfold wrE
              cases hd : S.down with
              | true => simp
              | false =>
                simp only [Bool.false_eq_true, if_false]
                by_cases ha : 0 ≤ a ∧ a < 16
                · rw [if_neg (by omega), if_pos (by
                    have : ¬ b.length ≤ 64 := fun h => hok ⟨hd, ha, h⟩
                    omega)]
                  omega
                · rw [if_pos (by omega)]
                  omega
            have hw : S = wrS 16 S a b := by
              rw [wrS, if_neg fun h => hok ⟨h.1, ⟨h.2.1.1, by have := h.2.1.2; omega⟩, h.2.2⟩]
            obtain ⟨er, her⟩ : ∃ er, er = wrE 16 S a b := ⟨_, rfl⟩
            have kw := write_any T3.out.d a (hl := Hb.out.below T3.out.be) (c := c2) (T3.out.far Hb.out) hw her
            rw [← her] at he
            clear hok hw her
            go_upto_if 58 with (go_at_call 12; refine kw.mono ?_; rintro e w4 ⟨rfl, D4, O4⟩; have T4 := Lib.hid (T3.out.onD D4 O4); clear D4 O4)
            clear kw
            go_wp2_with (first
              | (go_at_call 14; refine (awake_any _).mono ?_; rintro e w9 ⟨rfl, hb9⟩; have T9 := Lib.hid (T4.out.below hb9); have kd := all_any T9.out.d (l := cat S.now 16) rfl; unfold AllPost at kd; rw [← HZ.out] at kd; clear hb9)
              | (go_at_call 21; refine kd.mono ?_; rintro e w10 ⟨rfl, hb10⟩; have HB10 := Lib.hid (T9.out.below hb10).be; clear hb10))
            go_ret
            exact ⟨by simp, HB10.out⟩
end Go.Proofs.Ytoookmkfaihbpaa
