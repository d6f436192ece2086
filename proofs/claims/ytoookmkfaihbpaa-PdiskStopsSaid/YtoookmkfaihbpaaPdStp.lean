/-
  The statement PdiskStops: walked.
-/
import Derived.Test.YtoookmkfaihbpaaPdTwo
namespace Go.Proofs.Ytoookmkfaihbpaa
open Go.RowKit

theorem st_down (S : Dk) : (stS S 0).down = true := by
  unfold stS
  cases h : S.down <;> simp [h]
theorem down_stays {S : Dk} (h : S.down = true) (n : Nat) (a m : Int) (l : List UInt8) : S = wrS n S a l ∧ (70 : Int) = wrE n S a l ∧ S = flS S ∧ (70 : Int) = flE S ∧ S = stS S m ∧ (70 : Int) = stE S m := by
  simp [wrS, wrE, flS, flE, stS, stE, h]
set_option maxRecDepth 20000 in
set_option maxHeartbeats 4000000 in
theorem pdiskStops_walk (A : Option Addr) (n c : Nat) (l : List Pop) (a : Int) (A2 : Option Addr) (n2 c2 : Nat) (b : List UInt8) (w : World) (hl : RdPops w A n l) (hb : Rd w A2 n2 b) :
    Calls Try.prog 4 #[.slice A n c, .int .i64 a, .slice A2 n2 c2] w (Holds w) := by
  have k1 := large_any (c := c) hl
  have Hl := Lib.hid hl
  have Hb := Lib.hid hb
  clear hl hb
  go_enter Try.func4, Try.ntmps4
  by_cases hn2 : 1000 < n2
  · go_wp2_with (go_at_call 8; refine k1.mono ?_; rintro e w' ⟨q, rfl, hq, rfl⟩; cases q)
    all_goals (
      go_ret
      exact ⟨rfl, Below.refl _ _⟩)
  · go_upto_if 23 with (go_at_call 8; refine k1.mono ?_; rintro e w' ⟨q, rfl, hq, rfl⟩; cases q)
    rotate_left
    · go_wp2
      go_ret
      exact ⟨rfl, Below.refl _ _⟩
    · have HS := Lib.hid (show SmallP l from by simpa using hq)
      clear hq k1
      have nd := new16 w'
      have nm := mnew16
      go_upto_region 5 with (first
        | (go_at_call 9; refine nd.mono ?_; rintro e w1 ⟨p, q, r, rfl, D1, ld, hb1⟩)
        | (go_at_call 10; refine (nm _).mono ?_; rintro e w2 ⟨pm, g1, g2, g3, rfl, M2, lm, hb2⟩; have T2 := Lib.hid (Two.start D1 ld hb1 M2 lm hb2); clear D1 ld hb1 M2 lm hb2))
      clear nd nm
      go_wp2
      go_loopw [11] (ScRel w' p q r pm g1 g2 g3 n) (fun i _ => n - (intOf i).toNat)
      case atStart => exact ⟨0, _, Nat.zero_le _, rfl, T2.out⟩
      case round =>
        clear T2
        obtain ⟨k, S, hk, rfl, T⟩ := hrel
        have HT := Lib.hid T
        clear T
        have hn100 : n ≤ 100 := by
          have := HS.out.1
          rw [Hl.out.len] at this
          exact this
        by_cases hlt : k < n
        · have hlt' : (k : Int) < (n : Int) := by omega
          obtain ⟨b0, off, o, rfl, hb0, ho, _, z0, z1, z2, z3⟩ := Hl.out.get hlt
          have c1 := call_any (HT.out.pre Hl.out HS.out ho)
          have y0 := (HT.out.be.cell (p := ⟨b0, off + k * 4, none⟩) hb0).trans z0
          have y1 := (HT.out.be.cell (p := ⟨b0, off + k * 4 + 1, none⟩) hb0).trans z1
          have y2 := (HT.out.be.cell (p := ⟨b0, off + k * 4 + 2, none⟩) hb0).trans z2
          have y3 := (HT.out.be.cell (p := ⟨b0, off + k * 4 + 3, none⟩) hb0).trans z3
          clear z0 z1 z2 z3 ho hb0
          obtain ⟨ok, oa, oA, om, oc, ol, oK, oj, od, oks⟩ := o
          simp only [popv, pcs] at c1 y0 y1 y2 y3
          go_wp2_with (go_at_call 11; refine c1.mono ?_; rintro e w3 hpost; obtain ⟨bb, S2, rfl, T3⟩ := HT.out.post hpost; have H3 := Lib.hid T3; clear hpost T3)
          go_roundw
          case rel => exact ⟨k + 1, S2, hlt, by go_num, H3.out⟩
          case measure => simp [intOf]; omega
        · obtain rfl : k = n := by omega
          have c1 := stop_any HT.out.d 0 rfl rfl
          go_upto_region 12 with (go_at_call 19; refine c1.mono ?_; rintro e w3 ⟨rfl, D3, O3⟩)
          have T3 := HT.out.onD D3 O3
          have hd := st_down S
          generalize stS S 0 = U at T3 hd
          obtain ⟨e1, e2, e3, e4, e5, e6⟩ := down_stays hd 16 a 5 b
          have H3 := Lib.hid T3
          have kr := read_any T3.d a rfl rfl
          generalize her : rdE 16 a = er at kr
          have Her := Lib.hid her.symm
          clear her
          have hlen : (rdL 16 U a).length ≤ 64 := by
            unfold rdL
            split
            · rename_i hin
              rw [T3.d.len a.toNat (by omega)]
              omega
            · simp
          generalize hrl : rdL 16 U a = rl at kr hlen
          have Hrl := Lib.hid hrl
          have E1 := Lib.hid e1
          have E2 := Lib.hid e2
          have E3 := Lib.hid e3
          have E4 := Lib.hid e4
          have E5 := Lib.hid e5
          have E6 := Lib.hid e6
          have Hd := Lib.hid hd
          clear c1 D3 O3 T3 hrl e1 e2 e3 e4 e5 e6 hd
          go_upto_region 13 with (go_at_call 17; refine kr.mono ?_; rintro e w4 ⟨v, rfl, ho, hb4⟩)
          obtain ⟨nl, hnl⟩ : ∃ nl, nl = rl.length := ⟨_, rfl⟩
          obtain ⟨A1, cp, rfl, hcp, hcm, hrd⟩ := ho.shapeN hnl.symm
          have hn64 : nl ≤ 64 := by omega
          have T4 := H3.out.below hb4
          have hfar : 0 < nl → ∀ x, A1 = some x → ¬ ds p q r x.block := fun hn x hx hc => by
            obtain ⟨g, cp', hv, hg, _⟩ := ho.form (by omega)
            injection hv with hv _ _
            rw [hv] at hx
            injection hx with hx
            subst hx
            have := H3.out.d.lt hc
            dsimp only at this
            omega
          have c3 := write_any T4.d a (hl := Hb.out.below T4.be) (c := c2) (H3.out.far Hb.out) E1.out E2.out
          have H4 := Lib.hid T4
          have HR := Lib.hid hrd
          have HF := Lib.hid hfar
          have HN := Lib.hid hnl
          clear kr hb4 T4 ho hrd hfar hnl hlen H3
          go_upto_region 14 with (first
            | (go_at_call 12; refine c3.mono ?_; rintro e w5 ⟨rfl, D5, O5⟩; have H5 := Lib.hid (H4.out.onD D5 O5); have HR5 := Lib.hid (rd_oth HR.out O5 HF.out); have k5 := flush_any D5 E3.out E4.out; clear D5 O5)
            | (go_at_call 13; refine k5.mono ?_; rintro e w6 ⟨rfl, D6, O6⟩; have H6 := Lib.hid (H5.out.onD D6 O6); have HR6 := Lib.hid (rd_oth HR5.out O6 HF.out); have k6 := stop_any D6 5 E5.out E6.out; clear D6 O6)
            | (go_at_call 19; refine k6.mono ?_; rintro e w7 ⟨rfl, D7, O7⟩; have H7 := Lib.hid (H6.out.onD D7 O7); have HR7 := Lib.hid (rd_oth HR6.out O7 HF.out); have k7 := down_any D7; rw [Hd.out] at k7; clear D7 O7)
            | (go_at_call 15; refine k7.mono ?_; rintro e w8 ⟨rfl, rfl⟩))
          have kr := read_any H7.out.d a Hrl.out.symm Her.out
          obtain ⟨t, ht⟩ : ∃ t, t = ByteArray.mk rl.toArray := ⟨_, rfl⟩
          have Ht := Lib.hid ht
          clear c3 k5 k6 k7 ht
          go_upto_region 15 with (go_at_call 17; refine kr.mono ?_; rintro e w9 ⟨v2, rfl, ho2, hb9⟩)
          obtain ⟨A3, cp3, rfl, hcp3, hcm3, hrd3⟩ := ho2.shapeN HN.out.symm
          have HB9 := Lib.hid ((H7.out.below hb9).be)
          have HR9 := Lib.hid (HR7.out.below hb9)
          have HS9 := Lib.hid hrd3
          have ka := awake_any w9
          clear kr ho2 hb9 hrd3
          go_wp2_with (go_at_call 14; refine ka.mono ?_; rintro e w10 ⟨rfl, hb10⟩; have v1 := (HR9.out.below hb10).conv (P := Try.prog) cp 23 5 9 Try.underlying23 Try.underlying5 Try.underlying9; have v2 := (HS9.out.below hb10).conv (P := Try.prog) cp3 23 5 9 Try.underlying23 Try.underlying5 Try.underlying9; rw [← Ht.out] at v1 v2; have HB10 := Lib.hid (HB9.out.trans (hb10.mono HB9.out.size)); clear hb10)
          go_ret
          exact ⟨by simp, HB10.out⟩
end Go.Proofs.Ytoookmkfaihbpaa
