/-
  Which words are free, and whether free blocks are right: contracts of freeWords and Check.
-/
import Derived.Test.YthiijnanfiddpaaDoorBudF
import Derived.Lib.Hide
namespace Go.Proofs.YthiijnanfiddpaaDoor
open Go.RowKit

/-- The map of the words of these blocks. -/
def MapOf (w : World) (r : Int) (l : List Blk) (e : Ending) (w' : World) : Prop :=
  ∃ g h m, e = .returned (.tuple #[.pointer (some ⟨g, 0, none⟩), .bool true]) ∧ MapAt w' g h m ∧ Mapped r l m ∧ w.heap.size ≤ g ∧ w.heap.size ≤ h ∧ Below w.heap.size w w'
/-- So far. -/
def FwRel (w : World) (r : Int) (l : List Blk) (g h : Nat) (i : Value) (wr : World) : Prop :=
  ∃ (k : Nat) (m : List Bool), i = .int .i64 (k : Int) ∧ k ≤ l.length ∧ Right r (l.take k) ∧ Mapped r (l.take k) m ∧ MapAt wr g h m ∧ Below w.heap.size w wr
def NoWords (w : World) (e : Ending) (w' : World) : Prop := e = .returned (.tuple #[.pointer none, .bool false]) ∧ Below w.heap.size w w'
theorem take_snocB {l : List Blk} {k : Nat} {x : Blk} (h : l[k]? = some x) : l.take (k + 1) = l.take k ++ [x] := by
  have hk : k < l.length := (List.getElem?_eq_some_iff.1 h).1
  rw [List.take_add_one, h]
  rfl
theorem last_take {l : List Blk} {k : Nat} {x : Blk} (h : l[k]? = some x) : (l.take (k + 1)).getLast? = some x := by
  rw [take_snocB h]; simp

set_option maxHeartbeats 400000 in
theorem freeWords_out (r : Int) (A : Option Addr) (n c : Nat) (w : World) (hr : ¬ (3 ≤ r ∧ r ≤ 8)) :
    Calls Tryd.prog 32 #[.int .i64 r, .slice A n c] w (NoWords w) := by
  have S1 := fun W => words_any r W
  obtain ⟨s, hs⟩ : ∃ s, s = wordsI r := ⟨_, rfl⟩
  have hs1 : 0 ≤ s ∧ s ≤ 256 := by
    rw [hs]
    unfold wordsI
    split
    · rename_i h; exact ⟨Int.le_of_lt (sz_pos r), sz_le256 h.1 h.2⟩
    · omega
  rw [← hs] at S1
  obtain ⟨k, rfl⟩ := Int.eq_ofNat_of_zero_le hs1.1
  have S2 := new_yes k w (by omega)
  have S3 := fun W => isRegion_any r W
  rw [decide_eq_false hr] at S3
  clear hs hs1 hr
  go_enter Tryd.func32, Tryd.ntmps32
  go_wp2_with (first | (go_at_call 19; refine (S1 _).mono ?_; rintro e w1 ⟨rfl, rfl⟩) | (go_at_call 27; refine S2.mono ?_; rintro e w1 ⟨g, h, rfl, m1, hg, hh, b1⟩) | (go_at_call 31; refine (S3 _).mono ?_; rintro e w2 ⟨rfl, rfl⟩))
  go_ret2
  exact ⟨rfl, b1⟩

set_option maxRecDepth 100000 in
set_option maxHeartbeats 4000000 in
theorem freeWords_in (r : Int) (A : Option Addr) (n c : Nat) (l : List Blk) (w : World) (hr : 3 ≤ r ∧ r ≤ 8) (h : RdS w A n l) (hn : n ≤ 1000) (hT : Tab w) :
    Calls Tryd.prog 32 #[.int .i64 r, .slice A n c] w fun e w' => (Right r l ∧ MapOf w r l e w') ∨ (¬ Right r l ∧ NoWords w e w') := by
  have hlen := h.len
  have S1 := fun W => words_any r W
  rw [wordsI_in (by omega) hr.2] at S1
  have hs0 := sz_pos r
  have hs1 := sz_le256 (o := r) (by omega) hr.2
  obtain ⟨k0, hk0⟩ := Int.eq_ofNat_of_zero_le (Int.le_of_lt hs0)
  have hmp := mapped_nil r
  rw [hk0, Int.toNat_natCast] at hmp
  rw [hk0] at S1
  have S2 := new_yes k0 w (by omega)
  have S3 := fun W => isRegion_any r W
  rw [decide_eq_true hr] at S3
  have HR := Lib.hid h
  have HT := Lib.hid hT
  clear h hT
  go_enter Tryd.func32, Tryd.ntmps32
  go_wp2_with (first | (go_at_call 19; refine (S1 _).mono ?_; rintro e w1 ⟨rfl, rfl⟩) | (go_at_call 27; refine S2.mono ?_; rintro e w1 ⟨g, h, rfl, m1, hg, hh, b1⟩) | (go_at_call 31; refine (S3 _).mono ?_; rintro e w2 ⟨rfl, rfl⟩))
  clear S1 S2 S3
  go_loopw [25] (FwRel w r l g h) (fun i _ => n - (intOf i).toNat)
  case atStart => exact ⟨0, _, rfl, Nat.zero_le _, right_nil hr, hmp, m1, b1⟩
  case round =>
    clear m1 b1 hmp hk0 hs0 hs1
    obtain ⟨k, m, rfl, hk, hR, hM, mA, bw⟩ := hrel
    by_cases hlt : k < n
    · obtain ⟨b, off, x, rfl, hbl, hx, hc0, hc1⟩ := HR.out.cell hlt
      have c0 := (bw.cell (p := ⟨b, off + k * 2, none⟩) hbl).trans hc0
      have c1 := (bw.cell (p := ⟨b, off + k * 2 + 1, none⟩) hbl).trans hc1
      have hsn := right_snoc (b := x) hR
      rw [← take_snocB hx] at hsn
      have hno : ¬ Comes r (l.take k) x → ¬ Right r l := fun hq hRl => hq (hsn.1 (right_prefix hRl _))
      have g1 := (Grew.refl wr).alloc (.cells #[.int .i64 x.1, .int .i64 x.2] 32)
      have B1 := Box2.new wr x 32
      have M1 := fun W => mayBe_any r x W (by omega)
      have M2 := fun (W : World) (G : Grew (wr.alloc (.cells #[.int .i64 x.1, .int .i64 x.2] 32)) W) => allTaken_any g h m x W (mA.below (g1.trans G).below) (HT.out.below (bw.trans ((g1.trans G).below.mono bw.size)))
      have hTr := bw.size
      by_cases hm : May r x
      · rw [decide_eq_true hm] at M1
        have htk := hM.taken hR.2.1 hr.2 hm
        cases ht : allTkn m x with
        | false =>
          have hn1 := Lib.hid (hno (fun q => by have := htk.2 q.2.1; rw [ht] at this; cases this))
          rw [ht] at M2
          obtain ⟨x0, x1⟩ := x
          unfold bval enc2 at M1 M2
          simp only at *
          clear hsn hno htk
          go_wp2_with (first | (go_at_call 44; refine (M1 _).mono ?_; rintro e w2 ⟨rfl, G2⟩; have e0 := (B1.below G2.below).c0; have e1 := (B1.below G2.below).c1) | (go_at_call 45; refine (M2 _ G2).mono ?_; rintro e w3 ⟨rfl, G3⟩))
          go_ret2
          exact .inr ⟨hn1.out, rfl, bw.trans (((g1.trans G2).trans G3).below.mono bw.size)⟩
        | true =>
          have hdis := htk.1 ht
          rw [ht] at M2
          have mixed : Tryd.prog.follows .mixedOrders = true := by kernel_rfl
          obtain ⟨p1, p2, p3⟩ := hM.put hm
          have P := fun (W : World) (G : Grew (wr.alloc (.cells #[.int .i64 x.1, .int .i64 x.2] 32)) W) => put_any g h m x.1 (sz x.2) true W (mA.below (g1.trans G).below) (by have := hm.2.2.2.1; have := sz_pos x.2; have := sz_le256 (o := r) (by omega) hr.2; omega)
          rw [p2] at P
          have W1 := fun W => words_any x.2 W
          rw [wordsI_in hm.1 (by have := hm.2.1; omega)] at W1
          have Hp := Lib.hid p3
          have Hs := Lib.hid hsn
          have Hno := Lib.hid hno
          have Hd := Lib.hid hdis
          have HM := Lib.hid hm
          have Hx := Lib.hid hx
          clear p1 p2 p3 hsn hno htk hdis hm hM
          obtain ⟨x0, x1⟩ := x
          unfold bval enc2 at M1 M2
          simp only at *
          go_wp2_with (first | (go_at_call 44; refine (M1 _).mono ?_; rintro e w2 ⟨rfl, G2⟩; have e0 := (B1.below G2.below).c0; have e1 := (B1.below G2.below).c1) | (go_at_call 45; refine (M2 _ G2).mono ?_; rintro e w3 ⟨rfl, G3⟩))
          have d0 : Box2 w3 wr.heap.size (x0, x1) := (B1.below G2.below).below G3.below
          have GG := g1.trans (G2.trans G3)
          have GH := G2.trans G3
          have bw3 := bw.trans (GG.below.mono bw.size)
          clear M1 M2 c0 c1 e0 e1 B1
          by_cases hk0 : k = 0
          · have hd : decide (0 < (k : Int)) = false := by simp; omega
            refine wp_region_quiet_grown mixed (by kernel_rfl) ?_
            repeat (go_big_quiet_step (fail))
            refine wpQuiet_nil ?_
            intro _ hw'
            obtain ⟨⟨nq, osq⟩, hw''⟩ := hw'
            subst hw''
            have G4 := (Grew.refl w3).grow nq osq
            generalize Go.Sort.grow (w3.drewN nq) osq = w4 at G4 ⊢
            have d4 := d0.below G4.below
            have e0 := d4.c0
            have e1 := d4.c1
            clear d0 d4 hd
            have hfol : ∀ a, (l.take k).getLast? = some a → mayFol a (x0, x1) = true := fun a ha => by rw [hk0] at ha; simp at ha
            go_wp2_with fail
            go_region_with (first | (go_at_call 19; refine (W1 _).mono ?_; rintro e w5 ⟨rfl, rfl⟩) | (go_at_call 28; refine (P _ (GH.trans G4).drew).mono ?_; rintro e w6 ⟨rfl, m6, g6⟩))
            all_goals
              go_wp2
              go_roundw
              case rel => exact ⟨k + 1, _, by go_num, by omega, Hs.out.2 ⟨HM.out, Hd.out, hfol⟩, by rw [take_snocB Hx.out]; exact Hp.out, m6, below_grown (bw3.trans (G4.drew.below.mono bw3.size)) g6 (Nat.le_trans bw3.size G4.drew.below.size) hh⟩
              case measure => simp [intOf]; omega
          · have hd : decide (0 < k) = true := by simp; omega
            obtain ⟨q, hq⟩ : ∃ q, q = k - 1 := ⟨_, rfl⟩
            have hkq := Lib.hid (show k = q + 1 by omega)
            have hq0 : IntKind.i64.wrap ((k : Int) - 1) = (q : Int) := by rw [IntKind.wrap_i64]; omega
            have hqn : q < n := by omega
            have hqi : (q : Int) < (n : Int) := by omega
            obtain ⟨b', off', y, hbo, _, hy, y0, y1⟩ := HR.out.cell hqn
            injection hbo with hbo
            injection hbo with hb1 hb2
            subst hb1
            subst hb2
            have hyt : y ∈ l.take k := by rw [hkq.out]; exact List.mem_of_getElem? (i := q) (by rw [List.getElem?_take, if_pos (by omega)]; exact hy)
            have hMy := hR.may hyt
            have hlast : (l.take k).getLast? = some y := by rw [hkq.out]; exact last_take hy
            have hsy := sz_pos y.2
            have hsr := sz_le256 (o := r) (by omega) hr.2
            have F1 := fun W => mayFollow_any y (x0, x1) W ⟨hMy.1, by have := hMy.2.1; omega⟩ ⟨hMy.2.2.1, by have := hMy.2.2.2.1; omega⟩
            have z0 := cell_grown (a := ⟨b, off + q * 2, none⟩) (Nat.lt_of_lt_of_le hbl bw3.size) ((bw3.cell (p := ⟨b, off + q * 2, none⟩) hbl).trans y0)
            have z1 := cell_grown (a := ⟨b, off + q * 2 + 1, none⟩) (Nat.lt_of_lt_of_le hbl bw3.size) ((bw3.cell (p := ⟨b, off + q * 2 + 1, none⟩) hbl).trans y1)
            have v0 := d0.g0
            have v1 := d0.g1
            simp only at v0 v1
            have hall := Lib.hid (fun hf : mayFol y (x0, x1) = true => show ∀ a, (l.take k).getLast? = some a → mayFol a (x0, x1) = true from fun a ha => by rw [hlast] at ha; injection ha with ha; rw [← ha]; exact hf)
            have hbad := Lib.hid (fun hf : mayFol y (x0, x1) = false => Hno.out fun qq => by have := qq.2.2 y hlast; rw [hf] at this; cases this)
            clear hq hyt hMy hlast hsy hsr y0 y1 hy hx hc0 hc1 hR
            obtain ⟨ya, yo⟩ := y
            unfold bval enc2 at F1
            simp only at *
            cases hf : mayFol (ya, yo) (x0, x1) with
            | false =>
              rw [hf] at F1
              have hb2 := Lib.hid (hbad.out hf)
              clear hall hbad hf
              refine wp_region_quiet_grown mixed (by kernel_rfl) ?_
              repeat (go_big_quiet_step ((go_at_call 53; exact calls_grown_says (F1 _))))
              refine wpQuiet_nil ?_
              intro _ hw'
              obtain ⟨⟨nq, osq⟩, hw''⟩ := hw'
              subst hw''
              have G4 := (Grew.refl w3).grow nq osq
              generalize Go.Sort.grow (w3.drewN nq) osq = w4 at G4 ⊢
              have d4 := d0.below G4.below
              have e0 := d4.c0
              have e1 := d4.c1
              clear d0 d4 hd z0 z1 v0 v1 F1 hq0
              go_wp2
              go_ret2
              exact .inr ⟨hb2.out, rfl, bw3.trans (G4.below.mono bw3.size)⟩
            | true =>
              rw [hf] at F1
              have hfol := Lib.hid (hall.out hf)
              clear hall hbad hf
              refine wp_region_quiet_grown mixed (by kernel_rfl) ?_
              repeat (go_big_quiet_step ((go_at_call 53; exact calls_grown_says (F1 _))))
              refine wpQuiet_nil ?_
              intro _ hw'
              obtain ⟨⟨nq, osq⟩, hw''⟩ := hw'
              subst hw''
              have G4 := (Grew.refl w3).grow nq osq
              generalize Go.Sort.grow (w3.drewN nq) osq = w4 at G4 ⊢
              have d4 := d0.below G4.below
              have e0 := d4.c0
              have e1 := d4.c1
              clear d0 d4 hd z0 z1 v0 v1 F1 hq0
              go_wp2_with fail
              go_region_with (first | (go_at_call 19; refine (W1 _).mono ?_; rintro e w5 ⟨rfl, rfl⟩) | (go_at_call 28; refine (P _ (GH.trans G4).drew).mono ?_; rintro e w6 ⟨rfl, m6, g6⟩))
              all_goals
                go_wp2
                go_roundw
                case rel => exact ⟨k + 1, _, by go_num, by omega, Hs.out.2 ⟨HM.out, Hd.out, hfol.out⟩, by rw [take_snocB Hx.out]; exact Hp.out, m6, below_grown (bw3.trans (G4.drew.below.mono bw3.size)) g6 (Nat.le_trans bw3.size G4.drew.below.size) hh⟩
                case measure => simp [intOf]; omega
      · rw [decide_eq_false hm] at M1
        have hn1 := Lib.hid (hno (fun q => hm q.1))
        obtain ⟨x0, x1⟩ := x
        unfold bval enc2 at M1 M2
        simp only at *
        clear hsn hno
        go_wp2_with (first | (go_at_call 44; refine (M1 _).mono ?_; rintro e w2 ⟨rfl, G2⟩; have e0 := (B1.below G2.below).c0; have e1 := (B1.below G2.below).c1) | (go_at_call 45; refine (M2 _ G2).mono ?_; rintro e w3 ⟨rfl, G3⟩))
        go_ret2
        exact .inr ⟨hn1.out, rfl, bw.trans ((g1.trans G2).below.mono bw.size)⟩
    · obtain rfl : k = n := by omega
      have hRl : Right r l := by rw [List.take_of_length_le (by omega)] at hR; exact hR
      have hMl : Mapped r l m := by rw [List.take_of_length_le (by omega)] at hM; exact hM
      go_wp2
      go_ret2
      exact .inl ⟨hRl, g, h, m, rfl, mA, hMl, hg, hh, bw⟩
end Go.Proofs.YthiijnanfiddpaaDoor
