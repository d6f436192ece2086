/-
  Package redo: what Append does with the disk (its function literal), in a ring that does not wrap: a contract.
-/
import Derived.Test.YtcogglanbpphpaaLgOp
namespace Go.Proofs.Ytcogglanbpphpaa
open Go.RowKit

/-- So many sectors, one behind the other, are written. -/
def wrP (S : Dk) (a : Nat) (c : Nat → Ct) : Nat → Dk
  | 0 => S
  | j + 1 => setS (wrP S a c j) (a + j) (c j).laid
theorem Goes.wrP {S : Dk} (h : Goes S) (a : Nat) (c : Nat → Ct) : ∀ j, Goes (wrP S a c j)
  | 0 => h
  | j + 1 => (Goes.wrP h a c j).set _ _
theorem pc_ok {ag nu : Nat} {t : List UInt8} {i : Nat} (h2 : ag ≤ 2147483647) (h4 : nu ≤ 2147483647) (h6 : t.length ≤ 1024) (hi : i ≤ 2147483647) : (pc ag nu t i).Ok :=
  ⟨by simp [pc], by simp [pc], h2, h4, hi, by show t.length ≤ _; omega, by simp [pc]; omega⟩
/-- A part of a text. -/
theorem part_str (t : List UInt8) (j b : Nat) (hb : b = (j + 1) * 36 ∨ b = t.length ∧ t.length ≤ (j + 1) * 36) : (ByteArray.mk t.toArray).extract (j * 36) b = ⟨((t.drop (36 * j)).take 36).toArray⟩ := by
  rw [ByteArray.extract_mk, Nat.mul_comm j 36]
  congr 2
  rcases hb with rfl | ⟨rfl, h⟩
  · rw [show (j + 1) * 36 - 36 * j = 36 by omega]
  · rw [List.take_of_length_le (by rw [List.length_drop]; omega), List.take_of_length_le (by rw [List.length_drop]; omega)]
set_option maxRecDepth 20000 in
set_option maxHeartbeats 2000000 in
theorem append1_any {w : World} {g p q r n fr se ag fi m U sb db lb ub : Nat} {As : Option Addr} {cs : Nat} {t : List UInt8} {S : Dk} (hs : Whole w sb 3 [.int .i64 ((np t.length : Nat) : Int)]) (hdb : Whole w db 9 [.string ⟨t.toArray⟩]) (hlb : Whole w lb 28 [.pointer (some ⟨g, 0, none⟩)]) (hub : Whole w ub 3 [.int .i64 (U : Int)])
    (hL : LAt w g p fr se ag fi 0 (.slice As m cs)) (hd : DAt w p q r n S) (hg : Goes S) (hx : ∀ k, (k = sb ∨ k = db ∨ k = lb ∨ k = ub ∨ k = g) → ¬ ds p q r k) (h1 : 8 ≤ se) (h2 : se ≤ 1024) (h3 : fr + se ≤ n) (ht : t.length ≤ 1024) (hU : U + np t.length ≤ se - 1) (hag : ag ≤ 1000000) (hfi : fi + m ≤ 1000000) :
    Calls Try.prog 21 #[.pointer (some ⟨sb, 0, none⟩), .pointer (some ⟨db, 0, none⟩), .pointer (some ⟨lb, 0, none⟩), .pointer (some ⟨ub, 0, none⟩)] w (Did w p q r n (wrP S (fr + 1 + U) (pc ag (fi + m) t) (np t.length))) := by
  have s0 := hs.cell 0
  simp only [List.getElem?_cons_zero] at s0
  have hn := hd.most
  have HDB := Lib.hid hdb
  have HLB := Lib.hid hlb
  have HUB := Lib.hid hub
  have HL := Lib.hid hL
  have HG := Lib.hid hg
  have HX := Lib.hid hx
  have HD := Lib.hid hd
  obtain ⟨N, hN⟩ : ∃ N, N = np t.length := ⟨_, rfl⟩
  have hNle : N ≤ 29 := by rw [hN]; unfold np; omega
  rw [← hN] at s0 hU ⊢
  have HN := Lib.hid hN
  clear hs hdb hlb hub hL hd hg hx hN
  go_enter Try.func21, Try.ntmps21
  go_wp2
  clear s0
  go_loopw [7] (fun i wr => ∃ j : Nat, j ≤ N ∧ i = .int .i64 (j : Int) ∧ DAt wr p q r n (wrP S (fr + 1 + U) (pc ag (fi + m) t) j) ∧ Oth (ds p q r) w wr) (fun i _ => N - (Go.RowKit.intOf i).toNat)
  case atStart => exact ⟨0, Nat.zero_le _, rfl, HD.out, Oth.refl _ _⟩
  case round =>
    obtain ⟨j, hj, rfl, hDj, hO⟩ := hrel
    by_cases hlt : j < N
    · have kd := HDB.out.keep (hO.block db HDB.out.lt (HX.out db (by simp)))
      have kl := HLB.out.keep (hO.block lb HLB.out.lt (HX.out lb (by simp)))
      have ku := HUB.out.keep (hO.block ub HUB.out.lt (HX.out ub (by simp)))
      have hL := HL.out.oth hO (HX.out g (by simp))
      have d0 := kd.cell 0
      simp only [List.getElem?_cons_zero] at d0
      obtain ⟨s, hs⟩ : ∃ s, s = ByteArray.mk t.toArray := ⟨_, rfl⟩
      have hsz : s.size = t.length := by
        rw [hs]
        show t.toArray.size = _
        simp
      have htl : (j : Int) * 36 ≤ (s.size : Int) := by
        have := HN.out
        unfold np at this
        rw [hsz]
        omega
      have hsl : s.size ≤ 1024 := by omega
      rw [← hs] at d0
      have KD := Lib.hid kd
      have KL := Lib.hid kl
      have KU := Lib.hid ku
      have HLj := Lib.hid hL
      have HDj := Lib.hid hDj
      have HO := Lib.hid hO
      have Hs := Lib.hid (And.intro hs hsz)
      clear kd kl ku hL hDj hO hs hsz
      obtain ⟨X, hX⟩ : ∃ X, X = ByteArray.mk ((t.drop (36 * j)).take 36).toArray := ⟨_, rfl⟩
      have HXX := Lib.hid hX
      have e1 : ¬ ((s.size : Int) < ((j : Int) + 1) * 36) → s.extract (j * 36) ((j + 1) * 36) = X := fun h => by
        rw [HXX.out, Hs.out.1]
        exact part_str t j _ (.inl rfl)
      have e2 : ((s.size : Int) < ((j : Int) + 1) * 36) → s.extract (j * 36) s.size = X := fun h => by
        rw [HXX.out, Hs.out.2, Hs.out.1]
        exact part_str t j _ (.inr ⟨rfl, by have := Hs.out.2; omega⟩)
      have E1 := Lib.hid e1
      have E2 := Lib.hid e2
      clear e1 e2 hX
      have H31 := Lib.hid (And.intro h1 (And.intro h2 (And.intro h3 (And.intro ht (And.intro hag hfi)))))
      by_cases hmin : (s.size : Int) < ((j : Int) + 1) * 36
      all_goals
        go_upto_region 4 with (fail)
        first | rw [E1.out hmin] | rw [E2.out hmin]
        clear E1 E2 hmin
        have hK : fr + 1 + (0 + (U + j)) % (se - 1) = fr + 1 + U + j := by rw [Nat.mod_eq_of_lt (by omega)]; omega
        have hw : IntKind.i64.wrap ((U : Int) + (j : Int)) = (U : Int) + (j : Int) := IntWalk.i64_in _ (by omega)
        have hpl : ∀ W, LAt W g p fr se ag fi 0 (.slice As m cs) → Calls Try.prog 23 #[.pointer (some ⟨g, 0, none⟩), .int .i64 ((U : Int) + (j : Int))] W fun e w' => e = .returned (.int .i64 ((fr + 1 + U + j : Nat) : Int)) ∧ Below W.heap.size W w' := fun W h => by
          have := place_log h (by omega) h2 (by omega) (by omega) (U + j) (by omega)
          rw [hK] at this
          exact this
        have hnx : ∀ W, LAt W g p fr se ag fi 0 (.slice As m cs) → Calls Try.prog 24 #[.pointer (some ⟨g, 0, none⟩)] W fun e w' => e = .returned (.int .i64 ((fi + m : Nat) : Int)) ∧ Below W.heap.size W w' := fun W h => next_any h (by omega)
        obtain ⟨T0, hT0⟩ : ∃ T0, T0 = wrP S (fr + 1 + U) (pc ag (fi + m) t) j := ⟨_, rfl⟩
        obtain ⟨T1, hT1⟩ : ∃ T1, T1 = wrP S (fr + 1 + U) (pc ag (fi + m) t) (j + 1) := ⟨_, rfl⟩
        have hwr : ∀ W, LAt W g p fr se ag fi 0 (.slice As m cs) → DAt W p q r n T0 → Calls Try.prog 22 #[.pointer (some ⟨g, 0, none⟩), .int .i64 ((fr + 1 + U + j : Nat) : Int), .agg #[.int .i64 2, .int .i64 (ag : Int), .int .i64 ((fi + m : Nat) : Int), .int .i64 (j : Int), .int .i64 (s.size : Int), .string X]] W (Did W p q r n T1) := fun W h hD => by
          rw [hT0] at hD
          rw [Hs.out.2, HXX.out, hT1]
          exact write_log h hD (HG.out.wrP _ _ j) (by omega) (pc_ok (by omega) (by omega) ht (by omega))
        obtain ⟨a, ha⟩ : ∃ a, a = fr + 1 + U + j := ⟨_, rfl⟩
        obtain ⟨nu, hnu⟩ : ∃ nu, nu = fi + m := ⟨_, rfl⟩
        rw [← ha] at hpl hwr
        rw [← hnu] at hnx hwr
        have HDt := Lib.hid (show DAt wr p q r n T0 by rw [hT0]; exact HDj.out)
        have HT1 := Lib.hid hT1
        clear hT0 hT1
        have HPL := Lib.hid hpl
        have HNX := Lib.hid hnx
        have HWR := Lib.hid hwr
        have S1 := Lib.hid (And.intro (show wr.drew.cell? ⟨lb, 0, none⟩ = some (.pointer (some ⟨g, 0, none⟩)) from KL.out.cell 0) (And.intro (show wr.drew.cell? ⟨ub, 0, none⟩ = some (.int .i64 (U : Int)) from KU.out.cell 0) (And.intro (show wr.drew.cell? ⟨g, 3, none⟩ = some (.int .i64 (ag : Int)) from HLj.out.c3) (show wr.drew.cell? ⟨db, 0, none⟩ = some (.string s) from (KD.out.cell 0).trans (by rw [Hs.out.1]; rfl)))))
        have B1 := Lib.hid (show Below wr.heap.size wr wr.drew from (Below.refl _ _).drew)
        clear hpl hnx hwr hK d0 ha hnu
        go_region_held3 (fun w' => w'.cell? ⟨lb, 0, none⟩ = some (.pointer (some ⟨g, 0, none⟩)) ∧ w'.cell? ⟨ub, 0, none⟩ = some (.int .i64 (U : Int)) ∧ w'.cell? ⟨g, 3, none⟩ = some (.int .i64 (ag : Int)) ∧ w'.cell? ⟨db, 0, none⟩ = some (.string s)) (first | exact S1.out | exact S2.out | exact S3.out | exact S4.out) (first | (go_at_call 23; refine (HPL.out _ (HLj.out.below B1.out)).mono ?_; rintro e w2 ⟨rfl, hb2⟩; have B2 := Lib.hid (B1.out.trans (hb2.mono B1.out.size)); have S2 := Lib.hid (And.intro (show w2.cell? ⟨lb, 0, none⟩ = some (.pointer (some ⟨g, 0, none⟩)) from (KL.out.below B2.out).cell 0) (And.intro (show w2.cell? ⟨ub, 0, none⟩ = some (.int .i64 (U : Int)) from (KU.out.below B2.out).cell 0) (And.intro (HLj.out.below B2.out).c3 (show w2.cell? ⟨db, 0, none⟩ = some (.string s) from ((KD.out.below B2.out).cell 0).trans (by rw [Hs.out.1]; rfl))))); clear hb2) | (go_at_call 24; refine (HNX.out _ (HLj.out.below B2.out)).mono ?_; rintro e w3 ⟨rfl, hb3⟩; have B3 := Lib.hid (B2.out.trans (hb3.mono B2.out.size)); have S3 := Lib.hid (And.intro (show w3.cell? ⟨lb, 0, none⟩ = some (.pointer (some ⟨g, 0, none⟩)) from (KL.out.below B3.out).cell 0) (And.intro (show w3.cell? ⟨ub, 0, none⟩ = some (.int .i64 (U : Int)) from (KU.out.below B3.out).cell 0) (And.intro (HLj.out.below B3.out).c3 (show w3.cell? ⟨db, 0, none⟩ = some (.string s) from ((KD.out.below B3.out).cell 0).trans (by rw [Hs.out.1]; rfl))))); clear hb3) | (go_at_call 22; refine (HWR.out _ (HLj.out.below B3.out) (HDt.out.below B3.out)).mono ?_; rintro e w4 ⟨rfl, hD4, hO4⟩; have HD4 := Lib.hid hD4; have HO4 := Lib.hid ((Oth.of_below B3.out (ds p q r)).trans hO4); have S4 := Lib.hid (And.intro (show w4.cell? ⟨lb, 0, none⟩ = some (.pointer (some ⟨g, 0, none⟩)) from (KL.out.keep (HO4.out.block lb KL.out.lt (HX.out lb (by simp)))).cell 0) (And.intro (show w4.cell? ⟨ub, 0, none⟩ = some (.int .i64 (U : Int)) from (KU.out.keep (HO4.out.block ub KU.out.lt (HX.out ub (by simp)))).cell 0) (And.intro (HLj.out.oth HO4.out (HX.out g (by simp))).c3 (show w4.cell? ⟨db, 0, none⟩ = some (.string s) from ((KD.out.keep (HO4.out.block db KD.out.lt (HX.out db (by simp)))).cell 0).trans (by rw [Hs.out.1]; rfl))))); clear hD4 hO4))
        all_goals
          have HFF := Lib.hid (And.intro HD4.out (HO.out.trans HO4.out))
          clear S1 B1 S2 B2 S3 B3 S4 HD4 HO4 HPL HNX HWR HXX KD KL KU HLj
          go_wp2
          go_roundw
          case rel => exact ⟨j + 1, hlt, by go_num, by rw [← HT1.out]; exact HFF.out.1, HFF.out.2⟩
          case measure => simp [Go.RowKit.intOf]; omega
    · obtain rfl : j = N := by omega
      clear hlt
      have HF := Lib.hid (And.intro hDj hO)
      clear hDj hO
      go_wp2
      go_end0
      exact ⟨rfl, HF.out.1, HF.out.2⟩
end Go.Proofs.Ytcogglanbpphpaa
