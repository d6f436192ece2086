/-
  The statement PdiskWhole: walked. (By gen_pdwh.py.)
-/
import Derived.Test.YtoookmkfaihbpaaPdApt
namespace Go.Proofs.Ytoookmkfaihbpaa
open Go.RowKit

/-- Between a flush and a crash: a sector is as it was, or what it had is kept. -/
def WhInv (f : Nat → List UInt8) (S : Dk) : Prop := S.down = false ∧ S.left = 0 ∧ ∀ i, i < 16 → (S.had i = none ∧ S.now i = f i) ∨ S.had i = some (f i)
theorem WhInv.write {f : Nat → List UInt8} {S : Dk} (h : WhInv f S) (_hl : ∀ i, i < 16 → (S.now i).length = 64) (a : Int) (l : List UInt8) : WhInv f (wrS 16 S a l) := by
  unfold wrS
  split
  · have e : didS (putS S a.toNat l) = putS S a.toNat l := by
      have : (putS S a.toNat l).left = 0 := h.2.1
      simp [didS, this]
    rw [e]
    refine ⟨h.1, h.2.1, fun i hi => ?_⟩
    simp only [putS, remH]
    by_cases ei : i = a.toNat
    · subst ei
      right
      rw [if_pos rfl]
      rcases h.2.2 _ hi with ⟨h1, h2⟩ | h1
      · rw [h1, h2]; rfl
      · rw [h1]; rfl
    · rw [if_neg ei, if_neg ei]
      exact h.2.2 i hi
  · exact h
def WhRel (w : World) (i : Value) (wr : World) : Prop := ∃ k : Nat, k ≤ 2 ∧ i = .int .i64 (k : Int) ∧ Below w.heap.size w wr
def WmRel (w0 : World) (p q r pm g1 g2 g3 n : Nat) (f : Nat → List UInt8) (i : Value) (wr : World) : Prop := ∃ (k : Nat) (S : Dk), k ≤ n ∧ i = .int .i64 (k : Int) ∧ Two w0 wr p q r pm g1 g2 g3 S ∧ WhInv f S
def KpRel (w : World) (v i : Value) (wr : World) : Prop := ∃ k : Nat, k ≤ 16 ∧ i = .int .i64 (k : Int) ∧ OwnV 4 wr w.heap.size v (tvs (List.replicate k true)) ∧ Below w.heap.size w wr
set_option maxRecDepth 20000 in
set_option maxHeartbeats 8000000 in
theorem pdiskWhole_walk (A : Option Addr) (n c : Nat) (l : List Pop) (A2 : Option Addr) (m c2 : Nat) (l2 : List Pop) (w : World) (hl : RdPops w A n l) (hm : RdPops w A2 m l2) :
    Calls Try.prog 6 #[.slice A n c, .slice A2 m c2] w (Holds w) := by
  have k1 := large_any (c := c) hl
  have k2 := large_any (c := c2) hm
  have Hl := Lib.hid hl
  have Hm := Lib.hid hm
  clear hl hm
  go_enter Try.func6, Try.ntmps6
  go_upto_if 20 with (go_at_call 8; first | ((with_reducible refine k1.mono ?_); rintro e w' ⟨q, rfl, hq, rfl⟩; cases q) | ((with_reducible refine k2.mono ?_); rintro e w' ⟨q2, rfl, hq2, rfl⟩; cases q2))
  rotate_left
  all_goals first
    | (go_wp2
       go_ret
       exact ⟨rfl, Below.refl _ _⟩)
    | skip
  have HS := Lib.hid (show SmallP l from by simpa using hq)
  have HS2 := Lib.hid (show SmallP l2 from by simpa using hq2)
  clear hq hq2 k1 k2
  go_wp2
  go_loopw [5] (WhRel w') (fun i _ => 2 - (intOf i).toNat)
  case atStart => exact ⟨0, by omega, rfl, Below.refl _ _⟩
  case round =>
    obtain ⟨k, hk, rfl, hbw⟩ := hrel
    obtain ⟨wo, hwo⟩ : ∃ wo, wo = wr := ⟨_, rfl⟩
    subst hwo
    have HB := Lib.hid hbw
    clear hbw
    by_cases hlt : k < 2
    · have hlt' : (k : Int) < 2 := by omega
      have nd := new16 wo
      have nm := mnew16
      go_upto_region 8 with (first
        | (go_at_call 9; refine nd.mono ?_; rintro e w1 ⟨p, q, r, rfl, D1, ld, hb1⟩)
        | (go_at_call 10; refine (nm _).mono ?_; rintro e w2 ⟨pm, g1, g2, g3, rfl, M2, lm, hb2⟩; have T2 := Lib.hid (Two.start D1 ld hb1 M2 lm hb2); clear D1 ld hb1 M2 lm hb2))
      clear nd nm
      have HlR := Lib.hid (Hl.out.below HB.out)
      have HmR := Lib.hid (Hm.out.below HB.out)
      have hn100 : n ≤ 100 := by
        have := HS.out.1
        rw [Hl.out.len] at this
        exact this
      have hm100 : m ≤ 100 := by
        have := HS2.out.1
        rw [Hm.out.len] at this
        exact this
      go_wp2
      go_loopw [10] (ScRel wo p q r pm g1 g2 g3 n) (fun i _ => n - (intOf i).toNat)
      case atStart => exact ⟨0, _, Nat.zero_le _, rfl, T2.out⟩
      case round =>
        clear T2
        obtain ⟨j, S, hj, rfl, T⟩ := hrel
        have HT := Lib.hid T
        clear T
        by_cases hjl : j < n
        · have hjl' : (j : Int) < (n : Int) := by omega
          obtain ⟨b0, off, o, rfl, hb0, ho, _, z0, z1, z2, z3⟩ := HlR.out.get hjl
          have c1 := call_any (HT.out.pre HlR.out HS.out ho)
          have y0 := (HT.out.be.cell (p := ⟨b0, off + j * 4, none⟩) hb0).trans z0
          have y1 := (HT.out.be.cell (p := ⟨b0, off + j * 4 + 1, none⟩) hb0).trans z1
          have y2 := (HT.out.be.cell (p := ⟨b0, off + j * 4 + 2, none⟩) hb0).trans z2
          have y3 := (HT.out.be.cell (p := ⟨b0, off + j * 4 + 3, none⟩) hb0).trans z3
          clear z0 z1 z2 z3 ho hb0
          obtain ⟨ok, oa, oA, om, oc, ol, oK, oj, od, oks⟩ := o
          simp only [popv, pcs] at c1 y0 y1 y2 y3
          go_wp2_with (go_at_call 11; refine c1.mono ?_; rintro e w3 hpost; obtain ⟨bb, S2, rfl, T3⟩ := HT.out.post hpost; have H3 := Lib.hid T3; clear hpost T3)
          go_roundw
          case rel => exact ⟨j + 1, S2, hjl, by go_num, H3.out⟩
          case measure => simp [intOf]; omega
        · have hjn : ¬ (j : Int) < (n : Int) := by omega
          have kc := crash_any (A := none) (m := 0) (c := 0) (keep := []) HT.out.d ⟨rfl, fun h => absurd h (by omega)⟩ (fun h => absurd h (by omega))
          go_upto_region 15 with (go_at_call 16; refine kc.mono ?_; rintro e w4 ⟨kk, _, rfl, D4, O4⟩)
          have T4 := Lib.hid (HT.out.onD D4 O4)
          have e1 : crS S [] kk = flS (crS S [] kk) := rfl
          have e2 : (0 : Int) = flE (crS S [] kk) := rfl
          have hi : WhInv (crS S [] kk).now (crS S [] kk) := ⟨rfl, rfl, fun i _ => .inl ⟨rfl, rfl⟩⟩
          have kf := flush_any D4 e1 e2
          generalize crS S [] kk = U at T4 kf hi
          have HI := Lib.hid hi
          clear kc D4 O4 e1 e2 hi HT
          go_upto_region 17 with (go_at_call 13; refine kf.mono ?_; rintro e w5 ⟨rfl, D5, O5⟩)
          have T5 := Lib.hid (T4.out.onD D5 O5)
          have ka := all_any D5 (l := cat U.now 16) rfl
          obtain ⟨s0, hs0⟩ : ∃ s0, s0 = ByteArray.mk (cat U.now 16).toArray := ⟨_, rfl⟩
          unfold AllPost at ka
          rw [← hs0] at ka
          have SH := Lib.hid hs0
          clear kf D5 O5 T4 hs0
          go_upto_region 18 with (go_at_call 21; refine ka.mono ?_; rintro e w6 ⟨rfl, hb6⟩)
          have T6 := Lib.hid (T5.out.below hb6)
          clear ka hb6 T5
          go_wp2
          go_loopw [12] (WmRel wo p q r pm g1 g2 g3 m U.now) (fun i _ => m - (intOf i).toNat)
          case atStart => exact ⟨0, U, Nat.zero_le _, rfl, T6.out, HI.out⟩
          case round =>
            clear T6 HI
            obtain ⟨i, V, hi, rfl, TV, IV⟩ := hrel
            have HV := Lib.hid TV
            have HI := Lib.hid IV
            clear TV IV
            by_cases hil : i < m
            · have hil' : (i : Int) < (m : Int) := by omega
              obtain ⟨b0, off, o, rfl, hb0, ho, hro, z0, z1, z2, z3⟩ := HmR.out.get hil
              have y1 := (HV.out.drew.be.cell (p := ⟨b0, off + i * 4 + 1, none⟩) hb0).trans z1
              have y2 := (HV.out.drew.be.cell (p := ⟨b0, off + i * 4 + 2, none⟩) hb0).trans z2
              have kw := write_any HV.out.drew.d o.a (hl := hro.bytes.below HV.out.drew.be) (c := o.c) (HV.out.far hro.bytes) rfl rfl
              have I2 := Lib.hid (HI.out.write (fun j hj => HV.out.d.len j hj) o.a o.l)
              obtain ⟨ok, oa, oA, om, oc, ol, oK, oj, od, oks⟩ := o
              clear z0 z1 z2 z3 ho hb0 hro
              dsimp only at y1 y2 kw
              go_wp2
              go_region_with (go_at_call 12; refine kw.mono ?_; rintro e w7 ⟨rfl, D7, O7⟩; have H7 := Lib.hid (HV.out.drew.onD D7 O7); clear D7 O7)
              all_goals (
                go_wp2
                go_roundw
                case rel => exact ⟨i + 1, _, hil, by go_num, H7.out, I2.out⟩
                case measure => simp [intOf]; omega)
            · have hin : ¬ (i : Int) < (m : Int) := by omega
              by_cases hk1 : k = 1
              · subst hk1
                have ka := all_any HV.out.d (l := cat V.now 16) rfl
                obtain ⟨s2, hs2⟩ : ∃ s2, s2 = ByteArray.mk (cat V.now 16).toArray := ⟨_, rfl⟩
                unfold AllPost at ka
                rw [← hs2] at ka
                have SV := Lib.hid hs2
                clear hs2
                go_wp2_with (go_at_call 21; refine ka.mono ?_; rintro e w7 ⟨rfl, hb7⟩; have T7 := Lib.hid (HV.out.below hb7); clear hb7)
                clear ka HV
                go_loopw [13, 14] (KpRel w7) (fun _ i _ => 16 - (intOf i).toNat)
                case atStart => exact ⟨0, by omega, rfl, OwnV.nil, Below.refl _ _⟩
                case round =>
                  obtain ⟨t, ht, rfl, hown, hbt⟩ := hrel
                  by_cases ht16 : t < 16
                  · have ht16' : (t : Int) < 16 := by omega
                    obtain ⟨v2, w8, hap, hown2, hb2⟩ := run_app_oneV (P := Try.prog) w7.heap.size 24 24 4 Try.underlying24 Try.infoBool rfl _ _ hown (.bool true) rfl (by simp [tvs]; omega) hbt.size
                    have e3 : tvs (List.replicate t true) ++ [.bool true] = tvs (List.replicate (t + 1) true) := by simp [tvs, List.replicate_succ']
                    rw [e3] at hown2
                    have H2 := Lib.hid hown2
                    have HB2 := Lib.hid (hbt.trans hb2)
                    clear hown hown2 hbt hb2 e3
                    go_wp2_with (at_builtin; refine wpList_append_run hap rfl _ _ rfl rfl rfl rfl ?_)
                    go_roundw
                    case rel => exact ⟨t + 1, ht16, by go_num, H2.out, HB2.out⟩
                    case measure => simp [intOf]; omega
                  · obtain rfl : t = 16 := by omega
                    obtain ⟨A6, c6, rfl, _, _, hrd⟩ := hown.shape (n := 16) (by simp [tvs])
                    have hfar : 0 < 16 → ∀ x, A6 = some x → ¬ ds p q r x.block := fun _ x hx hc => by
                      subst hx
                      rcases hown.2 with ⟨hv, _⟩ | ⟨g, cap, cur, hv, hg, _⟩
                      · cases hv
                      · injection hv with hv _ _
                        injection hv with hv
                        subst hv
                        have := T7.out.d.lt hc
                        dsimp only at this
                        omega
                    have TX := Lib.hid (T7.out.below hbt)
                    have kc := crash_any (c := c6) TX.out.d hrd hfar
                    clear hown hbt hrd hfar
                    go_upto_region 30 with (go_at_call 16; refine kc.mono ?_; rintro e w8 ⟨kk2, hkk2, rfl, D8, O8⟩)
                    have T8 := Lib.hid (TX.out.onD D8 O8)
                    have hall : cat V.now 16 = cat (crS V (List.replicate 16 true) kk2).now 16 := by
                      show _ = cat (crN _ _ _ _ _) 16
                      rw [crN_all]
                      intro t ht
                      have hle := rises_len 16 kk2 hkk2.1 fun x hx => by
                        obtain ⟨y, hy⟩ := Option.isSome_iff_exists.1 ((hkk2.2 x).1 hx)
                        exact (T7.out.d.hadn x y hy).1
                      rw [List.getD_eq_getElem?_getD, List.getElem?_replicate, if_pos (by omega)]
                      rfl
                    have HE := Lib.hid hall
                    clear kc D8 O8 hall hkk2
                    have ka := all_any T8.out.d (l := cat V.now 16) HE.out
                    unfold AllPost at ka
                    rw [← SV.out] at ka
                    go_wp2_with (go_at_call 21; refine ka.mono ?_; rintro e w9 ⟨rfl, hb9⟩; have T9 := Lib.hid (T8.out.below hb9); clear hb9)
                    have BE := Lib.hid (HB.out.trans (T9.out.be.mono HB.out.size))
                    go_roundw
                    case rel => exact ⟨1 + 1, by omega, by first | rfl | go_num, BE.out⟩
                    case measure => simp [intOf]
              · obtain rfl : k = 0 := by omega
                have kc := crash_any (A := none) (m := 0) (c := 0) (keep := []) HV.out.d ⟨rfl, fun h => absurd h (by omega)⟩ (fun h => absurd h (by omega))
                go_upto_region 30 with (go_at_call 16; refine kc.mono ?_; rintro e w8 ⟨kk2, hkk2, rfl, D8, O8⟩)
                have T8 := Lib.hid (HV.out.onD D8 O8)
                have hall : cat U.now 16 = cat (crS V [] kk2).now 16 := cat_congr 16 fun i hi => by
                  show _ = crN [] V.had kk2 kk2.length V.now i
                  rcases HI.out.2.2 i hi with ⟨h1, h2⟩ | h1
                  · rw [crN_clean hkk2 _ _ h1, h2]
                  · rw [crN_none hkk2 _ h1]
                have HE := Lib.hid hall
                clear kc D8 O8 hall hkk2
                have ka := all_any T8.out.d (l := cat U.now 16) HE.out
                unfold AllPost at ka
                rw [← SH.out] at ka
                go_wp2_with (go_at_call 21; refine ka.mono ?_; rintro e w9 ⟨rfl, hb9⟩; have T9 := Lib.hid (T8.out.below hb9); clear hb9)
                have BE := Lib.hid (HB.out.trans (T9.out.be.mono HB.out.size))
                go_roundw
                case rel => exact ⟨0 + 1, by omega, by first | rfl | go_num, BE.out⟩
                case measure => simp [intOf]
    · obtain rfl : k = 2 := by omega
      go_wp2_with (go_at_call 14; refine (awake_any _).mono ?_; rintro e w3 ⟨rfl, hb3⟩; have BE := Lib.hid (HB.out.trans (hb3.mono HB.out.size)); clear hb3)
      go_ret
      exact ⟨rfl, BE.out⟩
end Go.Proofs.Ytoookmkfaihbpaa
