/-
  The law of sealed records: walks.
-/
import Derived.Test.YtcogglanbpphpaaLgL0
namespace Go.Proofs.Ytcogglanbpphpaa
open Go.RowKit

/-- Texts that came in, sealed. -/
def sld (L : List ByteArray) : List (List UInt8) := L.map fun s => sealOf s.data.toList
theorem sld_len (s : ByteArray) : (sealOf s.data.toList).length = s.size + 4 := by
  rw [sealOf, List.length_append, be_length, Array.length_toList]
  rfl
/-- How many are forced behind i rounds. -/
def fcd (a : Int) (i : Nat) : Nat := min a.toNat i
/-- Behind i rounds. -/
def L1Rel (w : World) (L : List ByteArray) (a : Int) (g p q r : Nat) (i : Value) (wr : World) : Prop :=
  ∃ (k : Nat) (vs : Value) (S : Dk), k ≤ L.length ∧ i = .int .i64 (k : Int) ∧ (∀ s ∈ L.take k, s.size ≤ 60) ∧ LAt wr g p 0 64 1 1 0 vs ∧ OwnV 3 wr w.heap.size vs (nts (szs (sld (L.take k)) (sld (L.take k)).length)) ∧ DAt wr p q r 64 S ∧
    DInv (sld (L.take k)) (off (sld (L.take k)) (fcd a k)) S ∧ Below w.heap.size w wr ∧ ∀ x, vs.ownBlock = some x → ¬ ds p q r x
theorem sum_nine8 : sumOf [49, 50, 51, 52, 53, 54, 55, 56, 57] = 3421780262#32 := by decide +kernel
theorem sld_small {L : List ByteArray} (h : ∀ s ∈ L, s.size ≤ 60) : ∀ t ∈ sld L, 4 ≤ t.length ∧ t.length ≤ 64 := fun t ht => by
  simp only [sld, List.mem_map] at ht
  obtain ⟨s, hs, rfl⟩ := ht
  have := h s hs
  rw [sld_len]
  omega
theorem sld_off {L : List ByteArray} (h : ∀ s ∈ L, s.size ≤ 60) (m : Nat) : off (sld L) m ≤ 2 * m := off_le (fun t ht => np_le (by have := (sld_small h t ht).2; omega)) m
theorem sld_snoc (L : List ByteArray) {k : Nat} {s : ByteArray} (h : L[k]? = some s) : sld (L.take (k + 1)) = sld (L.take k) ++ [sealOf s.data.toList] := by
  rw [List.take_add_one, h, sld, sld, List.map_append]
  rfl
set_option maxRecDepth 20000 in
set_option maxHeartbeats 4000000 in
theorem topSealed_walk (a0 : Option Addr) (len0 cap0 : Nat) (L : List ByteArray) (a1 : Int) (a2 : Option Addr) (len2 cap2 : Nat) (keep : List Bool) (w : World) (hl : RdV w a0 len0 (L.map .string)) (hs : ∀ s ∈ L, s.size ≤ maxLen) (h1 : -9223372036854775808 ≤ a1 ∧ a1 ≤ 9223372036854775807) (hk : RdV w a2 len2 (tvs keep)) :
    Calls Try.prog 3 #[.slice a0 len0 cap0, .int .i64 a1, .slice a2 len2 cap2] w (Holds w) := by
  have hlen : L.length = len0 := by
    have := hl.len
    simpa using this
  have HL := Lib.hid hl
  have HK := Lib.hid hk
  have HS := Lib.hid hs
  have Hlen := Lib.hid hlen
  clear hl hs hk hlen
  by_cases hb0 : 10 < len0
  · go_enter Try.func3, Try.ntmps3
    go_wp2
    go_ret
    exact holds_long w
  · by_cases hb2 : 1000 < len2
    · go_enter Try.func3, Try.ntmps3
      go_wp2
      go_ret
      exact holds_long w
    · have hn : Calls Try.prog 4 #[.int .i64 64] w fun e w' => ∃ p q r, e = .returned (.tuple #[.pointer (some ⟨p, 0, none⟩), .int .i64 0]) ∧ DAt w' p q r 64 newD ∧ (∀ k, ds p q r k → w.heap.size ≤ k) ∧ Below w.heap.size w w' := (newDisk_any 64 w).mono fun e w' h => by
        rw [NewPost, if_pos (by omega)] at h
        exact h
      go_enter Try.func3, Try.ntmps3
      go_wp2_with fail
      refine hn.mono ?_
      rintro e w1 ⟨p, q, r, rfl, hD, hdb, hB1⟩
      have ho := open_new hD
      have HO := Lib.hid ho
      have HD := Lib.hid hD
      have Hdb := Lib.hid hdb
      have HB1 := Lib.hid hB1
      clear hn hD ho hdb hB1
      dsimp only
      go_wp2_with fail
      refine HO.out.mono ?_
      rintro e w2 ⟨T, g, vt, vs, rfl, hTl, rfl, hgb, hT2, hL2, hS2, hD2, hO2⟩
      obtain ⟨At, ct, rfl⟩ := slice_own hT2 (n := 0) rfl
      have hsd2 : ∀ x, vs.ownBlock = some x → ¬ ds p q r x := fun x hx hq => by have := (hS2.lt x hx).1; have := HD.out.lt hq; omega
      have hgx : ¬ ds p q r g := fun h => by have := HD.out.lt h; omega
      have hgb2 : w.heap.size ≤ g := Nat.le_trans HB1.out.size hgb
      have hB2 : Below w.heap.size w w2 := HB1.out.trans (hO2.below Hdb.out HB1.out.size)
      have H2 := Lib.hid (And.intro (show LAt w2 g p 0 64 1 1 0 vs from hL2) (And.intro (hS2.mono HB1.out.size) (And.intro hD2 (And.intro hB2 hsd2))))
      have HG := Lib.hid (And.intro hgx hgb2)
      clear hT2 hL2 hS2 hD2 hO2 hsd2 hgx hgb2 hB2 HO hTl hgb
      dsimp only
      go_wp2
      go_loopw [13] (fun i wr => L1Rel w L a1 g p q r i wr) (fun i _ => len0 - (Go.RowKit.intOf i).toNat)
      case atStart =>
        obtain ⟨hL2, hS2, hD2, hB2, hsd2⟩ := H2.out
        exact ⟨0, vs, _, Nat.zero_le _, rfl, by simp, hL2, hS2, hD2, (by show DInv [] (off [] (min a1.toNat 0)) _; rw [Nat.min_zero]; exact dInv_new), hB2, hsd2⟩
      case round =>
        obtain ⟨k, vs1, S, hk, rfl, hsm, hLk, hSk, hDk, hIk, hBk, hsdk⟩ := hrel
        by_cases hlt : k < len0
        · obtain ⟨b, o, x, rfl, hbb, hx, hcell⟩ := HL.out.cell hlt
          obtain ⟨s, hs, rfl⟩ : ∃ s, L[k]? = some s ∧ x = .string s := by
            simp only [List.getElem?_map, Option.map_eq_some_iff] at hx
            obtain ⟨s, h1, h2⟩ := hx
            exact ⟨s, h1, h2.symm⟩
          have hc1 : wr.cell? ⟨b, o + k, none⟩ = some (.string s) := (hBk.cell (p := ⟨b, o + k, none⟩) hbb).trans hcell
          have Hs := Lib.hid hs
          have HBk := Lib.hid hBk
          clear hx hcell hs
          by_cases h60 : (60 : Int) < (s.size : Int)
          · clear hLk hSk hDk hIk hsdk hsm hBk H2
            go_wp2
            go_ret
            exact ⟨rfl, HBk.out⟩
          · have hsz : s.size ≤ 60 := by omega
            obtain ⟨c3, w3, hcv, hr3, hB3, hc3, hm3⟩ := lg_bytes wr s (by unfold maxLen; omega)
            have hse := seal_any (some ⟨wr.heap.size, 0, none⟩) s.size c3 s.data.toList w3 hr3 (by omega)
            have HST := Lib.hid (And.intro hLk (And.intro hSk (And.intro hDk (And.intro hIk (And.intro hsdk (And.intro hsm (And.intro hB3 hsz)))))))
            have Hse := Lib.hid hse
            clear hLk hSk hDk hIk hsdk hsm hBk H2 hse hr3 hB3 hc3 hm3 hsz
            go_wp2_with fail
            refine Hse.out.mono ?_
            rintro e w4 ⟨v4, rfl, hown4, hB4⟩
            obtain ⟨A4, c4, rfl, hc4, hm4, hr4⟩ := hown4.shapeN (n := s.size + 4) (sld_len s)
            have hcv4 := hr4.conv (P := Try.prog) c4 32 5 9 Try.underlying32 Try.underlying5 Try.underlying9
            rw [show s.data.toList ++ be 4 (sumOf s.data.toList).toNat = sealOf s.data.toList from rfl] at hcv4
            obtain ⟨hLk, hSk, hDk, hIk, hsdk, hsm, hB3, hsz⟩ := HST.out
            have hB34 : Below wr.heap.size wr w4 := hB3.trans (hB4.mono hB3.size)
            have hkl : (L.take k).length = k := by rw [List.length_take]; omega
            have hTl : (sld (L.take k)).length = k := by rw [sld, List.length_map, hkl]
            have hTs := sld_small hsm
            have hoff := sld_off hsm (sld (L.take k)).length
            have hnpt : np (sealOf s.data.toList).length ≤ 2 := np_le (by rw [sld_len]; omega)
            have hwz := HBk.out.size
            have hwz4 := hB34.size
            have hap := append_log (base := w.heap.size) (t := sealOf s.data.toList) (hLk.below hB34) (hSk.below hB34) (hDk.below hB34) hIk.goes (by omega) HG.out.2 Hdb.out HG.out.1 hsdk (by omega) (by omega) (by omega) (by rw [sld_len]; omega) (by omega) (by omega) (by omega) (by omega) (fun u hu => by have := hTs u hu; omega)
            have Hap := Lib.hid hap
            have HST2 := Lib.hid (And.intro hDk (And.intro hIk (And.intro hsm (And.intro hsz (And.intro hTl (And.intro hoff hnpt))))))
            have hB04 := HBk.out.trans (hB34.mono hwz)
            have HB04 := Lib.hid hB04
            clear hLk hSk hDk hIk hsdk hsm hB3 hsz hkl hTl hTs hoff hnpt hwz hap HST hB34 hB04 hown4 hB4 hr4 Hse hcv hwz4 hc4 hm4
            dsimp only
            go_wp2_with fail
            refine Hap.out.mono ?_
            rintro e w5 ⟨vs5, rfl, hL5, hS5, hD5, hB5, hsd5⟩
            obtain ⟨hDk, hIk, hsm, hsz, hTl, hoff, hnpt⟩ := HST2.out
            have hI5 := hIk.append (by refine Nat.le_trans (off_mono _ (show fcd a1 k ≤ k from Nat.min_le_right _ _)) (by rw [hTl]; exact Nat.le_refl _)) (sealOf s.data.toList) (by omega)
            have hsn := sld_snoc L Hs.out
            have hB05 : Below w.heap.size w w5 := HB04.out.trans hB5
            have hsm' : ∀ u ∈ L.take (k + 1), u.size ≤ 60 := fun u hu => by
              rw [List.take_add_one, Hs.out] at hu
              rcases List.mem_append.1 hu with h | h
              · exact hsm u h
              · simp at h
                rw [h]
                exact hsz
            have hpre := off_pre (sld (L.take k)) (sealOf s.data.toList) (show fcd a1 k ≤ (sld (L.take k)).length by rw [hTl]; exact Nat.min_le_right _ _)
            rw [← hsn] at hS5 hI5 hpre
            rw [hTl] at hD5 hI5
            by_cases hf : (k : Int) < a1
            · have hfo := force_log hL5 hD5 hI5.goes
              have hfc : fcd a1 (k + 1) = k + 1 := by unfold fcd; omega
              have Hfo := Lib.hid hfo
              have H5 := Lib.hid (And.intro hL5 (And.intro hS5 (And.intro hI5 (And.intro hB05 (And.intro hsd5 (And.intro hsm' hfc))))))
              clear hDk hIk hsm hsz hTl hoff hnpt hsn hpre hL5 hS5 hD5 hB5 hsd5 hI5 hB05 hsm' hfo hfc HST2 Hap hcv4
              dsimp only
              go_wp2_with (go_at_call 8; refine Hfo.out.mono ?_; rintro e w6 ⟨rfl, hD6, hO6⟩; have H6 := Lib.hid (And.intro hD6 hO6); clear hD6 hO6)
              obtain ⟨hL5, hS5, hI5, hB05, hsd5, hsm', hfc⟩ := H5.out
              obtain ⟨hD6, hO6⟩ := H6.out
              have hdx : ∀ x, ds p q r x → w.heap.size ≤ x := Hdb.out
              have hS6 : OwnV 3 w6 w.heap.size vs5 _ := hS5.keep fun x hx => hO6.block x (hS5.lt x hx).2 (hsd5 x hx)
              have HR := Lib.hid (show L1Rel w L a1 g p q r (.int .i64 ((k + 1 : Nat) : Int)) w6 from ⟨k + 1, vs5, _, by rw [Hlen.out]; exact hlt, rfl, hsm', hL5.oth hO6 HG.out.1, hS6, hD6, hI5.flush _, hB05.trans (hO6.below hdx hB05.size), hsd5⟩)
              clear hL5 hS5 hI5 hB05 hsd5 hsm' hfc hD6 hO6 hdx hS6 H5 H6 Hfo
              have hR := HR.out
              rw [show ((k + 1 : Nat) : Int) = (k : Int) + 1 by omega] at hR
              refine ⟨?_, ?_⟩
              · repeat apply Exists.intro
                exact ⟨hR, rfl⟩
              · simp [Go.RowKit.intOf]
                omega
            · have hfc : fcd a1 (k + 1) = fcd a1 k := by unfold fcd; omega
              have H5 := Lib.hid (And.intro hL5 (And.intro hS5 (And.intro hI5 (And.intro hB05 (And.intro hsd5 (And.intro hsm' (And.intro hfc (And.intro hpre hD5))))))))
              clear hDk hIk hsm hsz hTl hoff hnpt hsn hpre hL5 hS5 hD5 hB5 hsd5 hI5 hB05 hsm' hfc HST2 Hap hcv4
              dsimp only
              go_wp2
              obtain ⟨hL5, hS5, hI5, hB05, hsd5, hsm', hfc, hpre, hD5⟩ := H5.out
              rw [← hpre, ← hfc] at hI5
              refine ⟨⟨k + 1, vs5, _, by rw [Hlen.out]; exact hlt, by go_num, hsm', hL5, hS5, hD5, hI5, hB05, hsd5⟩, ?_⟩
              simp [Go.RowKit.intOf]
              omega
        · obtain rfl : k = len0 := by have := Hlen.out; omega
          clear hlt
          have hLL : L.take k = L := List.take_of_length_le (by rw [Hlen.out]; exact Nat.le_refl _)
          rw [hLL] at hsm hIk hSk
          have hTl : (sld L).length = k := by rw [sld, List.length_map]; exact Hlen.out
          have hTs := sld_small hsm
          have hk2 : RdV wr a2 len2 (tvs keep) := HK.out.below hBk
          have hA2 : 0 < len2 → ∀ x, a2 = some x → ¬ ds p q r x.block := fun hp x hx hq => by
            obtain ⟨b, o, e, hb, _⟩ := HK.out.at_ hp
            rw [hx] at e
            injection e with e
            subst e
            have := Hdb.out _ hq
            simp at this
            omega
          have hcr := crash_any (c := cap2) hDk hk2 hA2
          have Hcr := Lib.hid hcr
          have HM := Lib.hid (And.intro hsm (And.intro hIk (And.intro hTl (And.intro hTs hBk))))
          clear hLL hsm hIk hSk hTl hTs hk2 hA2 hcr hDk hLk hsdk hBk H2
          go_wp2_with fail
          refine Hcr.out.mono ?_
          rintro e w5 ⟨ks, hks, rfl, hD5, hO5⟩
          obtain ⟨hsm, hIk, hTl, hTs, hBk⟩ := HM.out
          have hoff := sld_off hsm (sld L).length
          have hop := open_again (f := fcd a1 k) hD5 (crS_goes _ _ _) (hIk.crash keep hks) (fun t ht => by have := hTs t ht; omega) (fun t ht => by have := hTs t ht; omega) (by omega) (by omega) (by rw [hTl]; exact Nat.min_le_right _ _) (Nat.le_refl _)
          have Hop := Lib.hid hop
          have HD5 := Lib.hid hD5
          have HB5 := Lib.hid (hBk.trans (hO5.below Hdb.out hBk.size))
          have HM2 := Lib.hid (And.intro hsm hTl)
          clear hop hD5 hO5 hks hsm hIk hTl hTs hBk hoff HM Hcr
          dsimp only
          go_wp2_with fail
          refine Hop.out.mono ?_
          rintro e w6 ⟨T6, g6, vt6, vs6, ⟨m, hfm, hmL, rfl⟩, -, rfl, -, hT6, -, -, -, hO6⟩
          obtain ⟨hsm, hTl⟩ := HM2.out
          have hml : ((sld L).take m).length = m := by rw [List.length_take]; omega
          obtain ⟨A6, c6, hv6, _, _, hr6⟩ := hT6.shape (n := m) (by rw [svs_length, hml])
          subst hv6
          have HT6 := Lib.hid hr6
          have HB6 := Lib.hid (HB5.out.trans (hO6.below Hdb.out HB5.out.size))
          have hmk : m ≤ k := by omega
          have Hfm := Lib.hid hfm
          clear hT6 hO6 hr6 Hop HD5 hml hTl hsm hmL hfm
          dsimp only
          go_upto_region 16 with (fail)
          have e1 : ¬ ((k : Int) < (m : Int)) := by omega
          have e2 : ¬ ((m : Int) < min (max a1 0) (k : Int)) := by
            have := Hfm.out
            unfold fcd at this
            omega
          go_wp2
          clear e1 e2
          go_loopw [18] (fun i wr => ∃ j : Nat, j ≤ m ∧ i = .int .i64 (j : Int) ∧ Below w6.heap.size w6 wr) (fun i _ => m - (Go.RowKit.intOf i).toNat)
          case atStart => exact ⟨0, Nat.zero_le _, rfl, Below.refl _ _⟩
          case round =>
            obtain ⟨j, hj, rfl, hbj⟩ := hrel
            have hB0j := HB6.out.trans (hbj.mono HB6.out.size)
            by_cases hjm : j < m
            · have hr := HT6.out.below hbj
              obtain ⟨b, o, x, rfl, hbb, hx, hcell⟩ := hr.cell hjm
              obtain ⟨b0, o0, y, rfl, hb0', hy, hcell0⟩ := HL.out.cell (show j < k by omega)
              obtain ⟨s, hs, rfl⟩ : ∃ s, L[j]? = some s ∧ y = .string s := by
                simp only [List.getElem?_map, Option.map_eq_some_iff] at hy
                obtain ⟨s, h1, h2⟩ := hy
                exact ⟨s, h1, h2.symm⟩
              have hxv : x = .string ⟨(sealOf s.data.toList).toArray⟩ := by
                simp only [svs, sld, List.getElem?_map, List.getElem?_take, if_pos hjm, hs, Option.map_some, Option.some.injEq] at hx
                exact hx.symm
              subst hxv
              have hsz : s.size ≤ 60 := HM2.out.1 s (List.mem_of_getElem? hs)
              have hsl : (ByteArray.mk (sealOf s.data.toList).toArray).size = s.size + 4 := by
                show (sealOf s.data.toList).toArray.size = _
                rw [List.size_toArray, sld_len]
              obtain ⟨c3, w3, hcv, hr3, hB3, hc3, hm3⟩ := lg_bytes wr ⟨(sealOf s.data.toList).toArray⟩ (by rw [hsl]; unfold maxLen; omega)
              rw [hsl] at hcv hr3 hc3
              have hto : (ByteArray.mk (sealOf s.data.toList).toArray).data.toList = sealOf s.data.toList := rfl
              rw [hto] at hr3
              have htk : (sealOf s.data.toList).take (s.size + 4 - 4) = s.data.toList := by
                rw [sealOf, List.take_append_of_le_length (by rw [Array.length_toList]; show _ ≤ s.size; omega), List.take_of_length_le (by rw [Array.length_toList]; show s.size ≤ _; omega)]
              have hopn := open_yes _ (s.size + 4) c3 _ w3 hr3 (by omega) hc3 hm3 (by omega) (by rw [htk])
              rw [htk] at hopn
              have Hopn := Lib.hid hopn
              have HS3 := Lib.hid (And.intro hcell0 (And.intro hB0j (And.intro (hbj.trans (hB3.mono hbj.size)) (And.intro hB3 hsz))))
              have Hb0 := Lib.hid hb0'
              generalize ByteArray.mk (sealOf s.data.toList).toArray = S6 at hcell hcv
              clear hx hy hs hr hbj hB0j hsl hto htk hopn hr3 hc3 hm3 hB3 hsz hb0' hcell0
              go_wp2_with fail
              refine Hopn.out.mono ?_
              rintro e w7 ⟨v7, rfl, hown7, hB7⟩
              obtain ⟨A7, c7, rfl, hc7, hm7, hr7⟩ := hown7.shapeN (n := s.size) (by rw [Array.length_toList]; rfl)
              obtain ⟨hcell0, hB0j, hB63, hB3, hsz⟩ := HS3.out
              have hB07 : Below w.heap.size w w7 := hB0j.trans ((hB3.trans (hB7.mono hB3.size)).mono hB0j.size)
              have hB67 : Below w6.heap.size w6 w7 := hB63.trans (hB7.mono hB63.size)
              have hcv7 : ∀ nq, (convert 32 9 (.slice A7 s.size c7)).run Try.prog (w7.drewN nq) = .ok (.string s) (w7.drewN nq) := fun nq => by
                have := (hr7.below (below_drewN (Below.refl _ _) nq)).conv (P := Try.prog) c7 32 5 9 Try.underlying32 Try.underlying5 Try.underlying9
                exact this
              have hl7 : w7.cell? ⟨b0, o0 + j, none⟩ = some (.string s) := (hB07.cell (p := ⟨b0, o0 + j, none⟩) Hb0.out).trans hcell0
              have hjk : (j : Int) < (k : Int) := by omega
              have HBB := Lib.hid hB67
              clear hcell0 hB0j hB63 hB3 hsz hB07 hB67 hown7 hB7 hr7 HS3 Hopn hcv hcell hc7 hm7
              dsimp only
              go_wp2
              go_quiet (fail)
              go_wp2
              refine ⟨⟨j + 1, hjm, by go_num, HBB.out.trans (below_drewN (Below.refl _ _) _)⟩, ?_⟩
              simp [Go.RowKit.intOf]
              omega
            · obtain rfl : j = m := by omega
              clear hjm
              have r1 : Rd (wr.alloc (.cells #[.int .u8 49, .int .u8 50, .int .u8 51, .int .u8 52, .int .u8 53, .int .u8 54, .int .u8 55, .int .u8 56, .int .u8 57] 5 (9, 10))) (some ⟨wr.heap.size, 0, none⟩) 9 [49, 50, 51, 52, 53, 54, 55, 56, 57] :=
                Rd.mark (U := 5) (l := [49, 50, 51, 52, 53, 54, 55, 56, 57]) _ _ rfl
              have a1' : Below wr.heap.size wr (wr.alloc (.cells #[.int .u8 49, .int .u8 50, .int .u8 51, .int .u8 52, .int .u8 53, .int .u8 54, .int .u8 55, .int .u8 56, .int .u8 57] 5 (9, 10))) := (Below.refl _ _).alloc (Nat.le_refl _) _
              have kc := fun (w : World) (C : Array Value) (n c : Nat) => Lib.run_convert_bytes_const (P := Try.prog) w 32 5 C n c Try.underlying32 Try.underlying5
              have H0 := Lib.hid (And.intro hB0j a1')
              have R1 := Lib.hid r1
              clear hbj hB0j r1 a1'
              go_wp2_with fail
              refine (sum_any _ 9 9 _ _ R1.out (by simp [maxLen])).mono ?_
              rintro e w8 ⟨rfl, b1⟩
              rw [sum_nine8]
              have H9 := Lib.hid (H0.out.1.trans ((H0.out.2.trans (b1.mono H0.out.2.size)).mono H0.out.1.size))
              clear b1 R1 kc
              dsimp only
              go_wp2
              go_ret
              exact ⟨rfl, H9.out⟩
end Go.Proofs.Ytcogglanbpphpaa
