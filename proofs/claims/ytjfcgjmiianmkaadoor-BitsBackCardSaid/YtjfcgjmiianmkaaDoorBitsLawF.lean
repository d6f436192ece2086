/-
  The walk of the law BitsRuns: it says true, whatever came in, and nothing that was there is written over.
-/
import Derived.Test.YtjfcgjmiianmkaaDoorBitsLawE
import Derived.Deep.CutBlock
namespace Go.Proofs.YtjfcgjmiianmkaaDoor
open Go.RowKit

/-- The calls that came in: a row of structs, four cells each. -/
def Ops (w : World) (A : Option Addr) (m : Nat) : Prop :=
  0 < m → ∃ b off, A = some ⟨b, off, none⟩ ∧ b < w.heap.size ∧ ∀ i, i < m → ∃ (k p q : Int) (o : Bool), w.cell? ⟨b, off + i * 4, none⟩ = some (.int .i64 k) ∧ w.cell? ⟨b, off + i * 4 + 1, none⟩ = some (.int .i64 p) ∧
    w.cell? ⟨b, off + i * 4 + 2, none⟩ = some (.int .i64 q) ∧ w.cell? ⟨b, off + i * 4 + 3, none⟩ = some (.bool o) ∧ p ≤ 9223372036854775807 ∧ q ≤ 9223372036854775807

/-- The round's state: the list in the document's hands and the map. -/
def RunsRel (w : World) (z g h m : Nat) (v i : Value) (wr : World) : Prop :=
  ∃ (k : Nat) (l : List Bool), k ≤ m ∧ i = .int .i64 (k : Int) ∧ l.length = z ∧ OwnV 4 wr w.heap.size v (bls l) ∧ MapAt wr g h l ∧ Below w.heap.size w wr

/-- Behind the switch: a list and a map, alike. -/
def CutRel (w : World) (z g h : Nat) (v : Value) (wc : World) : Prop := ∃ l : List Bool, l.length = z ∧ OwnV 4 wc w.heap.size v (bls l) ∧ MapAt wc g h l ∧ Below w.heap.size w wc

/-- A row that is written over, so far. -/
def OverOwn (base y : Nat) (v : Value) (w : World) (i : Value) (wr : World) : Prop := ∃ k : Nat, k ≤ y ∧ i = .int .i64 (k : Int) ∧ (∃ l, l.length = y ∧ Own 5 wr base v l) ∧ Below base w wr

/-- The document's Put, whatever the places. -/
def RefPutPost (w : World) (base : Nat) (l : List Bool) (er : Int) (e : Ending) (w' : World) : Prop := ∃ v, e = .returned (.tuple #[v, .int .i64 er]) ∧ OwnV 4 w' base v (bls l) ∧ Below w.heap.size w w'
theorem refPut_any (A : Option Addr) (k c base : Nat) (l : List Bool) (a n : Int) (on : Bool) (w : World) (ho : OwnV 4 w base (.slice A k c) (bls l)) (hl : l.length = k) (hb : base ≤ w.heap.size) (hr : RdB w A k l) (hk : k ≤ 4096) :
    Calls Tryd.prog 13 #[.slice A k c, .int .i64 a, .int .i64 n, .bool on] w (RefPutPost w base (putV l a n on) (putE l a n)) := by
  cases hm : mayPut l a n with
  | false =>
    have e1 : putV l a n on = l := by unfold putV; rw [hm]; rfl
    have e2 : putE l a n = 30 := by unfold putE; rw [hm]; rfl
    rw [e1, e2]
    refine (refPut_no A k c l a n on w hl hk hm).mono ?_
    rintro e w1 ⟨rfl, rfl⟩
    exact ⟨_, rfl, ho, Below.refl _ _⟩
  | true =>
    have h := of_decide_eq_true hm
    obtain ⟨i, rfl⟩ := Int.eq_ofNat_of_zero_le h.1
    obtain ⟨m, rfl⟩ := Int.eq_ofNat_of_zero_le h.2.1
    have e1 : putV l (i : Int) (m : Int) on = putL l i m on := by unfold putV; rw [hm, if_pos rfl, Int.toNat_natCast, Int.toNat_natCast]
    have e2 : putE l (i : Int) (m : Int) = 0 := by unfold putE; rw [hm]; rfl
    rw [e1, e2]
    refine (refPut_yes A k c l i m on w hr hk (by omega)).mono ?_
    rintro e w1 ⟨v, rfl, o1, b1⟩
    exact ⟨_, rfl, o1.mono hb, b1⟩

set_option maxRecDepth 100000 in
set_option maxHeartbeats 4000000 in
theorem bitsRuns_walk (n : Int) (A : Option Addr) (m c : Nat) (w : World) (hT : Tab w) (hs : Ops w A m) :
    Calls Tryd.prog 3 #[.int .i64 n, .slice A m c] w (Holds w) := by
  by_cases hm : 60 < m
  · go_enter Tryd.func3, Tryd.ntmps3
    go_wp2
    go_ret
    exact ⟨rfl, Below.refl _ _⟩
  have t0 : decide (60 < (m : Int)) = false := by simp; omega
  have M := may_any n
  by_cases hn : n < 0 ∨ 4096 < n
  · have N := new_no n w hn
    have M1 := fun W => M W
    rw [decide_eq_false (show ¬ (0 ≤ n ∧ n ≤ 4096) by omega)] at M1
    clear hn
    go_enter Tryd.func3, Tryd.ntmps3
    go_wp2_with fail
    refine N.mono ?_
    rintro e w1 ⟨rfl, rfl⟩
    go_wp2_with fail
    refine (awake_any w hT).mono ?_
    rintro e w1 ⟨rfl, b1⟩
    go_wp2_with fail
    refine (M1 w1).mono ?_
    rintro e w2 ⟨rfl, rfl⟩
    go_wp2
    go_ret
    exact ⟨rfl, b1⟩
  · obtain ⟨z, rfl⟩ : ∃ z : Nat, n = (z : Int) := ⟨n.toNat, by omega⟩
    have hz : z ≤ 4096 := by omega
    have hmk := run_makeV (P := Tryd.prog) Tryd.underlying29 Tryd.infoBool rfl z (by omega) (by omega)
    rw [decide_eq_true (show (0 : Int) ≤ (z : Int) ∧ (z : Int) ≤ 4096 by omega)] at M
    clear hn
    go_enter Tryd.func3, Tryd.ntmps3
    go_wp2_with fail
    refine (new_yes z w hz).mono ?_
    rintro e w1 ⟨g, h, rfl, m1, hg, hh, b1⟩
    have hT0 := hT.lt
    go_wp2_with fail
    refine (M w1).mono ?_
    rintro e w2 ⟨rfl, rfl⟩
    have hmk1 := hmk w1
    have o0 : OwnV 4 (w1.alloc (.cells (reps z (.bool false)).toArray 4)) w.heap.size (.slice (some ⟨w1.heap.size, 0, none⟩) z z) (bls (List.replicate z false)) := by
      have e : reps z (.bool false) = bls (List.replicate z false) := by simp [reps, bls]
      rw [e]
      have := (Whole.new w1 (bls (List.replicate z false)).toArray 4).own b1.size (by simp [bls, maxLen]; omega)
      simpa [bls] using this
    have b2 : Below w.heap.size w (w1.alloc (.cells (reps z (.bool false)).toArray 4)) := b1.alloc b1.size _
    have m2 : MapAt (w1.alloc (.cells (reps z (.bool false)).toArray 4)) g h (List.replicate z false) := m1.below ((Below.refl _ _).alloc (Nat.le_refl _) _)
    clear hmk M
    go_wp2_with fail
    clear hmk1 t0
    go_loopw [7, 8] (RunsRel w z g h m) (fun _ i _ => m - (intOf i).toNat)
    case atStart => exact ⟨0, _, Nat.zero_le _, rfl, by simp, o0, m2, b2⟩
    case round =>
      clear o0 m2 b2 m1 b1
      obtain ⟨i, l, hi, rfl, hlz, o1, m1, b1⟩ := hrel
      have hTr : Tab wr := hT.keep (b1.block _ hT0)
      by_cases hlt : i < m
      · obtain ⟨b, off, rfl, hbl, hcells⟩ := hs (by omega)
        obtain ⟨kk, p, q, o, h0, h1, h2, h3, hP, hN⟩ := hcells i hlt
        have c0 := (b1.cell (p := ⟨b, off + i * 4, none⟩) hbl).trans h0
        have c1 := (b1.cell (p := ⟨b, off + i * 4 + 1, none⟩) hbl).trans h1
        have c2 := (b1.cell (p := ⟨b, off + i * 4 + 2, none⟩) hbl).trans h2
        have c3 := (b1.cell (p := ⟨b, off + i * 4 + 3, none⟩) hbl).trans h3
        clear hcells h0 h1 h2 h3
        go_upto_block 2 with (fail)
        obtain ⟨wr0, hw0⟩ : ∃ wr0, wr0 = wr.alloc (.cells #[.int .i64 kk, .int .i64 p, .int .i64 q, .bool o] 31) := ⟨_, rfl⟩
        rw [← hw0]
        have bx : Box wr0 wr.heap.size kk p q o := by rw [hw0]; exact Box.new wr
        have b01 : Below wr.heap.size wr wr0 := by rw [hw0]; exact (Below.refl _ _).alloc (Nat.le_refl _) _
        have o2 := o1.below b01
        have m2 := m1.below b01
        have b2 := b1.trans (b01.mono b1.size)
        have hT2 := hTr.below b01
        have hsz := b1.size
        clear hw0 c0 c1 c2 c3 o1 m1 b01 hTr
        go_cut [7] (CutRel w z g h)
        case first =>
          obtain ⟨A7, c7, rfl, _, _, r7⟩ := o2.shape (n := z) (by rw [bls_length, hlz])
          have r7' : RdB wr0 A7 z l := r7
          have c0 := bx.c0
          have c1 := bx.c1
          have c2 := bx.c2
          have c3 := bx.c3
          have Hlz := Lib.hid hlz
          by_cases hk1 : kk = 1
          · subst hk1
            have R := refPut_any A7 z c7 w.heap.size l p q o wr0 o2 hlz b2.size r7' hz
            obtain ⟨er, her⟩ : ∃ er, er = putE l p q := ⟨_, rfl⟩
            rw [← her] at R
            clear hlz
            go_wp2_with fail
            refine R.mono ?_
            rintro e w3 ⟨v3, rfl, o3, b3⟩
            have bx3 := bx.below b3
            have d1 := bx3.c1
            have d2 := bx3.c2
            have d3 := bx3.c3
            have Pu := put_any g h l p q o w3 (m2.below b3) hP
            rw [← her] at Pu
            clear c0 c1 c2 c3 R her
            go_wp2_with fail
            refine Pu.mono ?_
            rintro e w4 ⟨rfl, m4, g4⟩
            clear Pu d1 d2 d3
            have hap : v3.ownBlock ≠ some h := by
              obtain ⟨ws, _, hw, _⟩ := m2.below b3
              exact o3.apart hw (by decide)
            have o4 := o3.grown g4 hap
            have b4 : Below w.heap.size w w4 := below_grown (b2.trans (b3.mono b2.size)) g4 (Nat.le_trans b2.size b3.size) hh
            go_wp2_with fail
            go_meet
            case rel => exact ⟨_, by rw [putV_length]; exact Hlz.out, o4, m4, b4⟩
          · have u1 : (kk == 1) = false := by simpa using hk1
            by_cases hk2 : kk = 2
            · subst hk2
              have G := get_any g h l p wr0 m2
              by_cases hin : 0 ≤ p ∧ p < (z : Int)
              · obtain ⟨j, rfl⟩ := Int.eq_ofNat_of_zero_le hin.1
                have hjz : j < z := by omega
                have e1 : getE l (j : Int) = 0 := by unfold getE; rw [if_pos (by rw [hlz]; exact hin)]
                have e2 : getB l (j : Int) = isOn l j := by unfold getB; rw [decide_eq_true (by rw [hlz]; exact hin), Int.toNat_natCast]; rfl
                rw [e1, e2] at G
                obtain ⟨bb, ob, rfl, _, cj⟩ := r7'.cell hjz
                obtain ⟨x, hx⟩ : ∃ x, x = isOn l j := ⟨_, rfl⟩
                rw [← hx] at G cj
                have t1 : (x != x) = false := by simp
                have O2 := Lib.hid o2
                clear hlz hx e1 e2 r7 r7' hin o2
                go_wp2_with fail
                refine G.mono ?_
                rintro e w3 ⟨rfl, rfl⟩
                go_wp2_with fail
                go_meet
                case rel => exact ⟨_, Hlz.out, O2.out, m2, b2⟩
              · have e1 : getE l p = 30 := by unfold getE; rw [if_neg (by rw [hlz]; exact hin)]
                have e2 : getB l p = false := by unfold getB; rw [decide_eq_false (by rw [hlz]; exact hin)]; rfl
                rw [e1, e2] at G
                have O2 := Lib.hid o2
                clear hlz e1 e2 r7 r7' o2
                by_cases hp0 : 0 ≤ p
                · have t1 : decide (p < (z : Int)) = false := by simp; omega
                  clear hin
                  go_wp2_with fail
                  refine G.mono ?_
                  rintro e w3 ⟨rfl, rfl⟩
                  go_wp2_with fail
                  go_meet
                  case rel => exact ⟨_, Hlz.out, O2.out, m2, b2⟩
                · have t1 : decide (0 ≤ p) = false := by simp; omega
                  clear hin
                  go_wp2_with fail
                  refine G.mono ?_
                  rintro e w3 ⟨rfl, rfl⟩
                  go_wp2_with fail
                  go_meet
                  case rel => exact ⟨_, Hlz.out, O2.out, m2, b2⟩
            · have u2 : (kk == 2) = false := by simpa using hk2
              by_cases hk3 : kk = 3
              · subst hk3
                obtain ⟨rr, hrr⟩ : ∃ rr, rr = runL l p q o := ⟨_, rfl⟩
                have H1 : Hid (∀ k : Nat, Calls Tryd.prog 16 #[.pointer (some ⟨g, 0, none⟩), .int .i64 p, .int .i64 q, .bool o] (wr0.drewN k) fun e w' => e = .returned (.int .i64 rr) ∧ w' = wr0.drewN k) := Lib.hid fun k => by
                  rw [hrr]
                  exact (run_any g h l p q o (wr0.drewN k) m2 hT2).mono fun e w' ⟨h1, h2⟩ => ⟨h1, h2.symm⟩
                have H2 : Hid (∀ k : Nat, Calls Tryd.prog 17 #[.slice A7 z c7, .int .i64 p, .int .i64 q, .bool o] (wr0.drewN k) fun e w' => e = .returned (.int .i64 rr) ∧ w' = wr0.drewN k) := Lib.hid fun k => by
                  rw [hrr]
                  exact (refRun_any A7 z c7 l p q o (wr0.drewN k) (r7'.below (below_drewN (Below.refl _ _) k)) hz hN).mono fun e w' ⟨h1, h2⟩ => ⟨h1, h2.symm⟩
                have O2 := Lib.hid o2
                clear hrr hlz r7 r7' o2
                go_wp2_with fail
                go_quiet ((first | (go_at_call 16; exact Calls.quiet_of_same (H1.out _)) | (go_at_call 17; exact Calls.quiet_of_same (H2.out _))))
                go_wp2_with fail
                go_meet
                case rel => exact ⟨_, Hlz.out, O2.out, m2, below_drewN b2 _⟩
              · have u3 : (kk == 3) = false := by simpa using hk3
                have O2 := Lib.hid o2
                clear hlz o2 r7 r7'
                go_wp2_with fail
                go_meet
                case rel => exact ⟨_, Hlz.out, O2.out, m2, b2⟩
        case rest =>
          obtain ⟨l2, hl2, o3, m3, b3⟩ := hcut
          obtain ⟨wa, hwa⟩ : ∃ wa, wa = wc := ⟨_, rfl⟩
          subst hwa
          clear o2 m2 hT2 bx b2 hsz hlz
          obtain ⟨A3, c3, rfl, _, _, r3⟩ := o3.shape (n := z) (by rw [bls_length, hl2])
          have O3 := Lib.hid o3
          have Hl2 := Lib.hid hl2
          clear o3 hl2
          go_wp2_with fail
          refine (bytes_any g h l2 wa m3).mono ?_
          rintro e w4 ⟨v4, rfl, o4, b4⟩
          obtain ⟨y, hy⟩ : ∃ y, y = (z + 7) / 8 := ⟨_, rfl⟩
          have hby : (bytesL l2).length = y := by rw [bytesL_length, Hl2.out, hy]
          obtain ⟨A4, c4, rfl, _, _, r4⟩ := o4.shapeN hby
          have hy512 : y ≤ 512 := by omega
          have Hby := Lib.hid hby
          have m4 := m3.below b4
          have r34 : RdB w4 A3 z l2 := RdB.below r3 b4
          have HL : Hid (∀ W : World, Below w4.heap.size w4 W → Calls Tryd.prog 19 #[.pointer (some ⟨g, 0, none⟩)] W fun e w' => e = .returned (.int .i64 (z : Int)) ∧ W = w') := Lib.hid fun W hW => by
            have := len_any g h l2 W (m4.below hW)
            rwa [Hl2.out] at this
          obtain ⟨C, hC⟩ : ∃ C, C = countL l2 := ⟨_, rfl⟩
          have HC : Hid (∀ W : World, Below w4.heap.size w4 W → Calls Tryd.prog 20 #[.pointer (some ⟨g, 0, none⟩)] W fun e w' => e = .returned (.int .i64 (C : Int)) ∧ W = w') := Lib.hid fun W hW => by
            rw [hC]
            exact count_any g h l2 W (m4.below hW)
          have HR : Hid (∀ W : World, Below w4.heap.size w4 W → Calls Tryd.prog 21 #[.slice A3 z c3] W fun e w' => e = .returned (.int .i64 (C : Int)) ∧ W = w') := Lib.hid fun W hW => by
            rw [hC]
            exact refCount_any A3 z c3 l2 W (r34.below hW) hz
          obtain ⟨bs, hbs⟩ : ∃ bs, bs = bytesL l2 := ⟨_, rfl⟩
          have HB : Hid (∀ W : World, Below w4.heap.size w4 W → Calls Tryd.prog 22 #[.slice A3 z c3] W (SealLike y bs W)) := Lib.hid fun W hW => by
            refine (refBytes_any A3 z c3 l2 W (r34.below hW) hz).mono ?_
            rintro e w5 ⟨v5, rfl, o5, b5⟩
            obtain ⟨A5, c5, rfl, _, _, r5⟩ := o5.shapeN Hby.out
            exact ⟨A5, c5, rfl, by rw [hbs]; exact r5, b5⟩
          change Rd w4 A4 y (bytesL l2) at r4
          rw [← hbs] at r4
          have bb0 : Below w4.heap.size w4 w4.drew := (Below.refl _ _).drew
          have O4 := Lib.hid o4
          clear hC hy hby hbs m4 r34 r3 o4
          go_upto_region 28 with (fail)
          go_cut [168] (fun v wd => v = .bool false ∧ Below w4.heap.size w4 wd)
          case first =>
            -- region 28 begins
            refine wp_region_any (by kernel_rfl) ?_
            change wpAny _ _ _ _ _ _ _ (World.drew _)
            refine take_put (i := 0) (d := 150) (v := ?_) rfl rfl (by kernel_rfl) (by kernel_rfl) (by kernel_rfl) (fun _ _ _ h => h) (Or.inl ⟨by rfl, ?_⟩) ?_
            rotate_left
            · intro w; go_simp; with_reducible rfl
            conv =>
              arg 7
              simp only [List.setIfInBounds_toArray, List.set_cons_succ, List.set_cons_zero]
            refine take_put (i := 2) (d := 152) (v := ?_) rfl rfl (by kernel_rfl) (by kernel_rfl) (by kernel_rfl) (fun _ _ _ h => h) (Or.inl ⟨by rfl, ?_⟩) ?_
            rotate_left
            · intro w; go_simp; with_reducible rfl
            conv =>
              arg 7
              simp only [List.setIfInBounds_toArray, List.set_cons_succ, List.set_cons_zero]
            refine wpAny_ready (rs := [1]) (by kernel_rfl) (by simp) ?_
            refine AllReady.cons rfl (fun K hK => ?_) (AllReady.nil)
            go_simp
            go_wp2_with (go_at_call 19; refine Calls.mono (HL.out _ bb0) ?_; rintro e wq1 ⟨rfl, rfl⟩)
            refine take_put (i := 3) (d := 153) (v := ?_) rfl rfl (by kernel_rfl) (by kernel_rfl) (by kernel_rfl) (fun _ _ _ h => h) (Or.inl ⟨by rfl, ?_⟩) ?_
            rotate_left
            · intro w; go_simp; with_reducible rfl
            conv =>
              arg 7
              simp only [List.setIfInBounds_toArray, List.set_cons_succ, List.set_cons_zero]
            refine take_put (i := 4) (d := 154) (v := ?_) rfl rfl (by kernel_rfl) (by kernel_rfl) (by kernel_rfl) (fun _ _ _ h => h) (Or.inl ⟨by rfl, ?_⟩) ?_
            rotate_left
            · intro w; go_simp; with_reducible rfl
            conv =>
              arg 7
              simp only [List.setIfInBounds_toArray, List.set_cons_succ, List.set_cons_zero]
            refine take_put (i := 5) (d := 155) (v := ?_) rfl rfl (by kernel_rfl) (by kernel_rfl) (by kernel_rfl) (fun _ _ _ h => h) (Or.inl ⟨by rfl, ?_⟩) ?_
            rotate_left
            · intro w; go_simp; with_reducible rfl
            conv =>
              arg 7
              simp only [List.setIfInBounds_toArray, List.set_cons_succ, List.set_cons_zero]
            refine take_put (i := 7) (d := 157) (v := ?_) rfl rfl (by kernel_rfl) (by kernel_rfl) (by kernel_rfl) (fun _ _ _ h => h) (Or.inl ⟨by rfl, ?_⟩) ?_
            rotate_left
            · intro w; go_simp; with_reducible rfl
            conv =>
              arg 7
              simp only [List.setIfInBounds_toArray, List.set_cons_succ, List.set_cons_zero]
            refine wpAny_ready (rs := [6]) (by kernel_rfl) (by simp) ?_
            refine AllReady.cons rfl (fun K hK => ?_) (AllReady.nil)
            go_simp
            go_wp2_with (go_at_call 20; refine Calls.mono (HC.out _ bb0) ?_; rintro e wq2 ⟨rfl, rfl⟩)
            refine wpAny_ready (rs := [8]) (by kernel_rfl) (by simp) ?_
            refine AllReady.cons rfl (fun K hK => ?_) (AllReady.nil)
            go_simp
            go_wp2_with (go_at_call 21; refine Calls.mono (HR.out _ bb0) ?_; rintro e wq3 ⟨rfl, rfl⟩)
            refine take_put (i := 9) (d := 159) (v := ?_) rfl rfl (by kernel_rfl) (by kernel_rfl) (by kernel_rfl) (fun _ _ _ h => h) (Or.inl ⟨by rfl, ?_⟩) ?_
            rotate_left
            · intro w; go_simp; with_reducible rfl
            conv =>
              arg 7
              simp only [List.setIfInBounds_toArray, List.set_cons_succ, List.set_cons_zero]
            refine take_put (i := 10) (d := 160) (v := ?_) rfl rfl (by kernel_rfl) (by kernel_rfl) (by kernel_rfl) (fun _ _ _ h => h) (Or.inl ⟨by rfl, ?_⟩) ?_
            rotate_left
            · intro w; go_simp; with_reducible rfl
            conv =>
              arg 7
              simp only [List.setIfInBounds_toArray, List.set_cons_succ, List.set_cons_zero]
            refine take_put (i := 11) (d := 161) (v := ?_) rfl rfl (by kernel_rfl) (by kernel_rfl) (by kernel_rfl) (fun _ _ _ h => h) (Or.inl ⟨by rfl, ?_⟩) ?_
            rotate_left
            · intro w; go_simp; with_reducible rfl
            conv =>
              arg 7
              simp only [List.setIfInBounds_toArray, List.set_cons_succ, List.set_cons_zero]
            refine take_put (i := 12) (d := 162) (v := ?_) rfl rfl (by kernel_rfl) (by kernel_rfl) (by kernel_rfl) (fun _ _ _ h => h) (Or.inl ⟨by rfl, ?_⟩) ?_
            rotate_left
            · intro w; go_simp; with_reducible rfl
            conv =>
              arg 7
              simp only [List.setIfInBounds_toArray, List.set_cons_succ, List.set_cons_zero]
            refine take_put (i := 14) (d := 164) (v := ?_) rfl rfl (by kernel_rfl) (by kernel_rfl) (by kernel_rfl) (fun _ _ _ h => h) (Or.inl ⟨by rfl, ?_⟩) ?_
            rotate_left
            · intro w; go_simp; with_reducible rfl
            conv =>
              arg 7
              simp only [List.setIfInBounds_toArray, List.set_cons_succ, List.set_cons_zero]
            refine wpAny_ready (rs := [13, 15]) (by kernel_rfl) (by simp) ?_
            refine AllReady.cons rfl (fun K hK => ?_) (AllReady.cons rfl (fun K hK => ?_) (AllReady.nil))
            · skip
              have k4 := (r4.below bb0).conv (P := Tryd.prog) c4 39 5 9 Tryd.underlying39 Tryd.underlying5 Tryd.underlying9
              go_simp
              refine hK _ _ ?_
              clear hK K
              clear k4
              refine wpAny_ready (rs := [15]) (by kernel_rfl) (by simp) ?_
              refine AllReady.cons rfl (fun K hK => ?_) (AllReady.nil)
              go_simp
              go_wp2_with (go_at_call 22; refine Calls.mono (HB.out _ bb0) ?_; rintro e wq5 ⟨A5, c5, rfl, r5, bq5⟩)
              have bb5 : Below w4.heap.size w4 wq5 := bb0.trans (bq5.mono bb0.size)
              refine wpAny_ready (rs := [16]) (by kernel_rfl) (by simp) ?_
              refine AllReady.cons rfl (fun K hK => ?_) (AllReady.nil)
              have k6 := r5.conv (P := Tryd.prog) c5 39 5 9 Tryd.underlying39 Tryd.underlying5 Tryd.underlying9
              go_simp
              refine hK _ _ ?_
              clear hK K
              clear k6
              refine take_put (i := 17) (d := 167) (v := ?_) rfl rfl (by kernel_rfl) (by kernel_rfl) (by kernel_rfl) (fun _ _ _ h => h) (Or.inl ⟨by rfl, ?_⟩) ?_
              rotate_left
              · intro w; go_simp; with_reducible rfl
              conv =>
                arg 7
                simp only [List.setIfInBounds_toArray, List.set_cons_succ, List.set_cons_zero]
              refine take_put (i := 18) (d := 168) (v := ?_) rfl rfl (by kernel_rfl) (by kernel_rfl) (by kernel_rfl) (fun _ _ _ h => h) (Or.inl ⟨by rfl, ?_⟩) ?_
              rotate_left
              · intro w; go_simp; with_reducible rfl
              conv =>
                arg 7
                simp only [List.setIfInBounds_toArray, List.set_cons_succ, List.set_cons_zero]
              refine wpAny_done (by kernel_rfl) ?_ _
              go_wp2_with fail
              go_meet
              case rel => exact ⟨rfl, bb5⟩
            · skip
              go_simp
              go_wp2_with (go_at_call 22; refine Calls.mono (HB.out _ bb0) ?_; rintro e wq7 ⟨A7, c7, rfl, r7, bq7⟩)
              have bb7 : Below w4.heap.size w4 wq7 := bb0.trans (bq7.mono bb0.size)
              refine wpAny_ready (rs := [13, 16]) (by kernel_rfl) (by simp) ?_
              refine AllReady.cons rfl (fun K hK => ?_) (AllReady.cons rfl (fun K hK => ?_) (AllReady.nil))
              · skip
                have k8 := (r4.below bb7).conv (P := Tryd.prog) c4 39 5 9 Tryd.underlying39 Tryd.underlying5 Tryd.underlying9
                go_simp
                refine hK _ _ ?_
                clear hK K
                clear k8
                refine wpAny_ready (rs := [16]) (by kernel_rfl) (by simp) ?_
                refine AllReady.cons rfl (fun K hK => ?_) (AllReady.nil)
                have k9 := r7.conv (P := Tryd.prog) c7 39 5 9 Tryd.underlying39 Tryd.underlying5 Tryd.underlying9
                go_simp
                refine hK _ _ ?_
                clear hK K
                clear k9
                refine take_put (i := 17) (d := 167) (v := ?_) rfl rfl (by kernel_rfl) (by kernel_rfl) (by kernel_rfl) (fun _ _ _ h => h) (Or.inl ⟨by rfl, ?_⟩) ?_
                rotate_left
                · intro w; go_simp; with_reducible rfl
                conv =>
                  arg 7
                  simp only [List.setIfInBounds_toArray, List.set_cons_succ, List.set_cons_zero]
                refine take_put (i := 18) (d := 168) (v := ?_) rfl rfl (by kernel_rfl) (by kernel_rfl) (by kernel_rfl) (fun _ _ _ h => h) (Or.inl ⟨by rfl, ?_⟩) ?_
                rotate_left
                · intro w; go_simp; with_reducible rfl
                conv =>
                  arg 7
                  simp only [List.setIfInBounds_toArray, List.set_cons_succ, List.set_cons_zero]
                refine wpAny_done (by kernel_rfl) ?_ _
                go_wp2_with fail
                go_meet
                case rel => exact ⟨rfl, bb7⟩
              · skip
                have k10 := r7.conv (P := Tryd.prog) c7 39 5 9 Tryd.underlying39 Tryd.underlying5 Tryd.underlying9
                go_simp
                refine hK _ _ ?_
                clear hK K
                clear k10
                refine wpAny_ready (rs := [13]) (by kernel_rfl) (by simp) ?_
                refine AllReady.cons rfl (fun K hK => ?_) (AllReady.nil)
                have k11 := (r4.below bb7).conv (P := Tryd.prog) c4 39 5 9 Tryd.underlying39 Tryd.underlying5 Tryd.underlying9
                go_simp
                refine hK _ _ ?_
                clear hK K
                clear k11
                refine take_put (i := 17) (d := 167) (v := ?_) rfl rfl (by kernel_rfl) (by kernel_rfl) (by kernel_rfl) (fun _ _ _ h => h) (Or.inl ⟨by rfl, ?_⟩) ?_
                rotate_left
                · intro w; go_simp; with_reducible rfl
                conv =>
                  arg 7
                  simp only [List.setIfInBounds_toArray, List.set_cons_succ, List.set_cons_zero]
                refine take_put (i := 18) (d := 168) (v := ?_) rfl rfl (by kernel_rfl) (by kernel_rfl) (by kernel_rfl) (fun _ _ _ h => h) (Or.inl ⟨by rfl, ?_⟩) ?_
                rotate_left
                · intro w; go_simp; with_reducible rfl
                conv =>
                  arg 7
                  simp only [List.setIfInBounds_toArray, List.set_cons_succ, List.set_cons_zero]
                refine wpAny_done (by kernel_rfl) ?_ _
                go_wp2_with fail
                go_meet
                case rel => exact ⟨rfl, bb7⟩
            -- region 28 ends
          case rest =>
            obtain ⟨rfl, b5⟩ := hcut
            clear HL HC HR HB r4 bb0
            have o5 := O4.out.below b5
            have b45 : Below wa.heap.size wa wc := b4.trans (b5.mono b4.size)
            go_wp2_with fail
            go_loopw [16] (OverOwn wa.heap.size y (.slice A4 y c4) wa) (fun v _ => y - (intOf v).toNat)
            case atStart => exact ⟨0, Nat.zero_le _, rfl, ⟨_, Hby.out, o5⟩, b45⟩
            case round =>
              clear o5 b45 b5
              obtain ⟨j, hj, rfl, ⟨l5, hl5, o6⟩, b6⟩ := hrel
              by_cases hjy : j < y
              · obtain ⟨g6, cap6, hv, hg6, _, _⟩ := o6.form (by omega)
                rw [hl5] at hv
                injection hv with f1 f2 f3
                subst f1
                subst f3
                obtain ⟨x6, hx6, c6⟩ := o6.cell hl5 hjy
                have f6 := o6.free hl5 j
                have o7 := o6.set hl5 j 255
                have Hl7 : Hid ((l5.set j 255).length = y) := Lib.hid (by rw [List.length_set]; exact hl5)
                have b7 := b6.setCell (p := ⟨g6, j, none⟩) hg6 (bv 255)
                clear hx6 hl5 o6 f2
                go_wp2
                exact ⟨⟨j + 1, by omega, by go_num, ⟨_, Hl7.out, o7⟩, b7⟩, by simp [intOf]; omega⟩
              · obtain rfl : j = y := by omega
                have o7 := O3.out.below b6
                have m7 := m3.below b6
                have b7 := b3.trans (b6.mono b3.size)
                clear hl5 o6
                go_wp2_with fail
                go_roundw
                case rel => exact ⟨i + 1, l2, by omega, by go_num, Hl2.out, o7, m7, b7⟩
                case measure => simp [intOf]; omega
      · obtain rfl : i = m := by omega
        go_wp2_with fail
        refine (awake_any wr hTr).mono ?_
        rintro e w2 ⟨rfl, b2⟩
        go_wp2
        go_ret
        exact ⟨rfl, b1.trans (b2.mono b1.size)⟩
end Go.Proofs.YtjfcgjmiianmkaaDoor
