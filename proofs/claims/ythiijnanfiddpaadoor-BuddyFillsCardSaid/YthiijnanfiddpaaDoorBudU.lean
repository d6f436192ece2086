/-
  Giving a block back, by the document: contract of Give.
-/
import Derived.Test.YthiijnanfiddpaaDoorBudGv
import Derived.Test.YthiijnanfiddpaaDoorBudT
import Derived.Test.YthiijnanfiddpaaDoorBudLawA
import Derived.Deep.LoopGhost
import Derived.Lib.MinMax
namespace Go.Proofs.YthiijnanfiddpaaDoor
open Go.RowKit

/-- What giving back tells: what is free, an error's number. -/
def GiveRes (r : Int) (l : List Blk) (b : Blk) (m : List Blk) (er : Int) : Prop :=
  (¬ Right r l ∧ m = [] ∧ er = 1) ∨ (Right r l ∧ ¬ Fits r l b ∧ m = [] ∧ er = 41) ∨ (Right r l ∧ Fits r l b ∧ er = 0 ∧ Gave r l b m)
theorem GiveRes.eq {r er er' : Int} {l m m' : List Blk} {b : Blk} (h : GiveRes r l b m er) (k : GiveRes r l b m' er') : m = m' ∧ er = er' := by
  rcases h with ⟨h1, h2, h3⟩ | ⟨h1, h2, h3, h4⟩ | ⟨h1, h2, h3, h4⟩ <;> rcases k with ⟨k1, k2, k3⟩ | ⟨k1, k2, k3, k4⟩ | ⟨k1, k2, k3, k4⟩ <;> simp_all
  exact h4.eq k4
def GivePost (w : World) (r : Int) (l : List Blk) (b : Blk) (e : Ending) (w' : World) : Prop :=
  ∃ m er v, e = .returned (.tuple #[v, .int .i64 er]) ∧ GiveRes r l b m er ∧ OwnB 32 w' w.heap.size v m ∧ Below w.heap.size w w'
theorem GivePost.nil {w w' : World} {r er : Int} {l : List Blk} {b : Blk} (h : GiveRes r l b [] er) (B : Below w.heap.size w w') : GivePost w r l b (.returned (.tuple #[.slice none 0 0, .int .i64 er])) w' := ⟨[], er, _, rfl, h, OwnB.nil, B⟩

set_option maxHeartbeats 1000000 in
theorem refGive_right (r : Int) (A : Option Addr) (n c : Nat) (l : List Blk) (b : Blk) (w : World) (h : RdS w A n l) (hn : n ≤ 1000) (hR : ¬ Right r l) :
    Calls Tryd.prog 25 #[.int .i64 r, .slice A n c, bval b] w (GivePost w r l b) := by
  have g1 := (Grew.refl w).alloc (.cells #[.int .i64 b.1, .int .i64 b.2] 32)
  have S := refRight_any r A n c l _ (h.below g1.below) hn
  rw [decide_eq_false hR] at S
  have hres := Lib.hid (show GiveRes r l b [] 1 from .inl ⟨hR, rfl, rfl⟩)
  clear h
  obtain ⟨y, p⟩ := b
  unfold bval enc2
  simp only at *
  go_enter Tryd.func25, Tryd.ntmps25
  go_wp2_with (go_at_call 13; refine S.mono ?_; rintro e w2 ⟨rfl, g2⟩)
  go_ret2
  exact GivePost.nil hres.out (g1.trans g2).below

set_option maxHeartbeats 1000000 in
theorem refGive_may (r : Int) (A : Option Addr) (n c : Nat) (l : List Blk) (b : Blk) (w : World) (h : RdS w A n l) (hn : n ≤ 1000) (hR : Right r l) (hM : ¬ May r b) :
    Calls Tryd.prog 25 #[.int .i64 r, .slice A n c, bval b] w (GivePost w r l b) := by
  have g1 := (Grew.refl w).alloc (.cells #[.int .i64 b.1, .int .i64 b.2] 32)
  have B1 := Lib.hid (Box2.new w b 32)
  have S := refRight_any r A n c l _ (h.below g1.below) hn
  rw [decide_eq_true hR] at S
  have S2 := fun W => refMay_any r b W (by have := hR.1; omega)
  rw [decide_eq_false hM] at S2
  have hres := Lib.hid (show GiveRes r l b [] 41 from .inr (.inl ⟨hR, fun q => hM q.1, rfl, rfl⟩))
  clear h
  obtain ⟨y, p⟩ := b
  unfold bval enc2 at *
  simp only at *
  go_enter Tryd.func25, Tryd.ntmps25
  go_wp2_with (first | (go_at_call 13; refine S.mono ?_; rintro e w2 ⟨rfl, g2⟩; have v0 := (B1.out.below g2.below).c0; have v1 := (B1.out.below g2.below).c1) | (go_at_call 33; refine (S2 _).mono ?_; rintro e w3 ⟨rfl, g3⟩))
  go_ret2
  exact GivePost.nil hres.out (g1.trans (g2.trans g3)).below

/-- None meets b so far. -/
def GmRel (W : World) (l : List Blk) (b : Blk) (i : Value) (wr : World) : Prop := ∃ k : Nat, k ≤ l.length ∧ i = .int .i64 (k : Int) ∧ (∀ a ∈ l.take k, ¬ Meets b a) ∧ Grew W wr
/-- The merging in memory, so far. -/
def GvRel (w : World) (r : Int) (l : List Blk) (b0 : Blk) (gg : Nat) (v : Value) (wr : World) : Prop :=
  ∃ (out : List Blk) (b : Blk), (r - b.2).toNat ≤ gg ∧ (∃ A n c, v = .slice A n c ∧ RdS wr A n out) ∧ Whole wr w.heap.size 32 [.int .i64 b.1, .int .i64 b.2] ∧ GvInv r l b0 out b ∧ Below w.heap.size w wr
theorem may_box {r : Int} {b : Blk} (hr : r ≤ 8) (h : May r b) : (0 ≤ b.2 ∧ b.2 ≤ 8) ∧ (0 ≤ b.1 ∧ b.1 ≤ 256) := by
  obtain ⟨k0, k1, k2, k3, k4⟩ := h
  have := sz_pos b.2
  have := sz_le256 (o := r) (by omega) hr
  exact ⟨⟨k0, by omega⟩, k2, by omega⟩

set_option maxRecDepth 100000 in
set_option maxHeartbeats 4000000 in
theorem refGive_in (r : Int) (A : Option Addr) (n c : Nat) (l : List Blk) (b : Blk) (w : World) (h : RdS w A n l) (hn : n ≤ 1000) (hR : Right r l) (hM : May r b) :
    Calls Tryd.prog 25 #[.int .i64 r, .slice A n c, bval b] w (GivePost w r l b) := by
  have g1 := (Grew.refl w).alloc (.cells #[.int .i64 b.1, .int .i64 b.2] 32)
  have hlen := h.len
  have hr8 := hR.1.2
  have K1 := Lib.hid (Whole.new w #[.int .i64 b.1, .int .i64 b.2] 32)
  have B1 := Lib.hid (Box2.new w b 32)
  have S := refRight_any r A n c l _ (h.below g1.below) hn
  rw [decide_eq_true hR] at S
  have S2 := fun W => refMay_any r b W (by have := hR.1; omega)
  rw [decide_eq_true hM] at S2
  have HR := Lib.hid h
  have HRt := Lib.hid hR
  have HM := Lib.hid hM
  have hmb := may_box hr8 hM
  have mixed := mixedP
  have hm := noGuard
  clear h hR hM
  obtain ⟨y, p⟩ := b
  unfold bval enc2 at *
  simp only at *
  go_enter Tryd.func25, Tryd.ntmps25
  go_upto_region 6 with (first | (go_at_call 13; refine S.mono ?_; rintro e w2 ⟨rfl, g2⟩; have v0 := (B1.out.below g2.below).c0; have v1 := (B1.out.below g2.below).c1) | (go_at_call 33; refine (S2 _).mono ?_; rintro e w3 ⟨rfl, g3⟩))
  have g3' := Lib.hid (g1.trans (g2.trans g3))
  have hz3 : w.heap.size < w3.heap.size := by
    have h1 := g2.below.size
    have h2 := g3.below.size
    simp at h1
    omega
  clear S S2 v0 v1
  go_loopw [8] (GmRel w3 l (y, p)) (fun i _ => n - (intOf i).toNat)
  case atStart => exact ⟨0, Nat.zero_le _, rfl, by simp, Grew.refl _⟩
  case round =>
    obtain ⟨k, hk, rfl, hno, gr⟩ := hrel
    by_cases hlt : k < n
    · obtain ⟨b', off, ⟨x0, x1⟩, rfl, hbl, hx, hc0, hc1⟩ := HR.out.cell hlt
      have G0 := g3'.out.trans gr
      have hgr := G0.below
      have hrl : wr.heap.size = wr.heap.size := rfl
      have z0 := cell_grown (a := ⟨b', off + k * 2, none⟩) (Nat.lt_of_lt_of_le hbl hgr.size) ((hgr.cell (p := ⟨b', off + k * 2, none⟩) hbl).trans hc0)
      have z1 := cell_grown (a := ⟨b', off + k * 2 + 1, none⟩) (Nat.lt_of_lt_of_le hbl hgr.size) ((hgr.cell (p := ⟨b', off + k * 2 + 1, none⟩) hbl).trans hc1)
      have Bw := ((B1.out.below g2.below).below g3.below).below gr.below
      have v0 := Bw.g0
      have v1 := Bw.g1
      simp only at v0 v1 z0 z1
      have hxl : (x0, x1) ∈ l := List.mem_of_getElem? hx
      have hmx := may_box hr8 (HRt.out.may hxl)
      have S3 := fun W => refMeet_any (x0, x1) (y, p) W hmx.1 hmb.1 hmx.2 hmb.2
      have hki : (k : Int) < (n : Int) := by omega
      have Hx := Lib.hid hx
      have HG := Lib.hid G0
      clear hx hc0 hc1 G0 hgr Bw
      unfold bval enc2 at S3
      simp only at S3
      by_cases he : Meets (x0, x1) (y, p)
      · rw [decide_eq_true he] at S3
        have hres := Lib.hid (show GiveRes r l (y, p) [] 41 from .inr (.inl ⟨HRt.out, fun q => q.2 _ hxl he.symm, rfl, rfl⟩))
        go_wp2_with fail
        refine wp_region_quiet_grown mixed (by kernel_rfl) ?_
        repeat (go_big_quiet_step ((go_at_call 34; exact calls_grown_says (S3 _))))
        refine wpQuiet_nil ?_
        intro _ hw'
        obtain ⟨⟨nq, osq⟩, hw''⟩ := hw'
        subst hw''
        have G4 := (Grew.refl wr).grow nq osq
        generalize Go.Sort.grow (wr.drewN nq) osq = w4 at G4 ⊢
        clear z0 z1 v0 v1 S3
        go_wp2
        go_ret2
        exact GivePost.nil hres.out (HG.out.trans G4).below
      · rw [decide_eq_false he] at S3
        go_wp2_with fail
        refine wp_region_quiet_grown mixed (by kernel_rfl) ?_
        repeat (go_big_quiet_step ((go_at_call 34; exact calls_grown_says (S3 _))))
        refine wpQuiet_nil ?_
        intro _ hw'
        obtain ⟨⟨nq, osq⟩, hw''⟩ := hw'
        subst hw''
        have G4 := (Grew.refl wr).grow nq osq
        generalize Go.Sort.grow (wr.drewN nq) osq = w4 at G4 ⊢
        clear z0 z1 v0 v1 S3
        go_wp2
        go_roundw
        case rel => exact ⟨k + 1, by omega, by go_num, by rw [take_snocB Hx.out]; intro a ha; rcases List.mem_append.1 ha with e | e; exact hno a e; rw [List.mem_singleton.1 e]; exact fun q => he q.symm, gr.trans G4⟩
        case measure => simp [intOf]; omega
    · obtain rfl : k = n := by omega
      rw [List.take_of_length_le (by omega)] at hno
      have hfit : Fits r l (y, p) := ⟨HM.out, hno⟩
      have HF := Lib.hid hfit
      have KW := ((K1.out.below g2.below).below g3.below).below gr.below
      have BW := (g3'.out.trans gr).below
      have RW := HR.out.below BW
      have hinv := GvInv.start HRt.out hfit
      clear hno hfit
      go_upto_region 11 with fail
      go_loopg [9] (r - p).toNat (fun gg v wr => GvRel w r l (y, p) gg v wr)
      case atStart => exact ⟨l, (y, p), Nat.le_refl _, ⟨_, _, _, rfl, RW⟩, KW, hinv, BW⟩
      case round =>
        clear hinv RW KW BW gr
        rename_i wq
        obtain ⟨out, ⟨x0, x1⟩, hg, ⟨A2, n2, c2, rfl, r2⟩, Wk, inv, bw⟩ := hrel
        have hn2 : n2 ≤ 1000 := by have := inv.right.len256; have := r2.len; omega
        have hbx := may_box hr8 inv.fits.1
        have hol := inv.right.len256
        have Bx : Box2 wr w.heap.size (x0, x1) := ⟨Wk.lt, Wk.cell 0, Wk.cell 1⟩
        have j0 := Bx.c0
        have j1 := Bx.c1
        have S4 := fun W => refTwin_any (x0, x1) W hbx.1 hbx.2
        have S5 := fun W (G : Grew wr W) => refIn_any A2 n2 c2 out (twin (x0, x1)) W (r2.below G.below) hn2
        have S7 := fun W (b : Below wr.heap.size wr W) => refWith_any A2 n2 c2 out (x0, x1) W (r2.below b) hn2
        have S6 := fun W (b : Below wr.heap.size wr W) => refWithout_any A2 n2 c2 out (twin (x0, x1)) W (r2.below b) hn2
        by_cases hlt : x1 < r
        · have kd : decide (x1 < r) = true := decide_eq_true hlt
          by_cases htw : twin (x0, x1) ∈ out
          · rw [decide_eq_true htw] at S5
            have hst := Lib.hid (inv.step hlt htw)
            have hmg := merged_ord (x0, x1)
            have htm := twin_may hr8 inv.fits.1 hlt
            have htb := may_box hr8 htm.1
            have hmb2 := may_box hr8 htm.2.1
            have hm1 : merged (x0, x1) = (min x0 (twin (x0, x1)).1, x1 + 1) := rfl
            obtain ⟨⟨t0, t1⟩, hte⟩ : ∃ q, q = twin (x0, x1) := ⟨_, rfl⟩
            rw [← hte] at S4 S5 S6 hst hm1 htb
            rw [hm1] at hst
            unfold bval enc2 at S4 S5 S6
            simp only at S4 S5 S6
            clear htm hmg hte S7 htw
            go_upto_region 12 with (first | (go_at_call 35; refine (S4 _).mono ?_; rintro e w4 ⟨rfl, g4⟩) | (go_at_call 48; refine (S5 _ g4).mono ?_; rintro e w5 ⟨rfl, g5⟩))
            clear j0 j1
            have B5 := Bx.below (g4.trans g5).below
            have i0 := B5.c0
            have i1 := B5.c1
            simp only at i0 i1
            clear B5
            go_upto_region 13 with (go_at_call 35; refine (S4 _).mono ?_; rintro e w6 ⟨rfl, g6⟩)
            have gA := ((g4.trans g5).trans g6).alloc (.cells #[.int .i64 t0, .int .i64 t1] 32)
            have BT := Box2.new w6 (t0, t1) 32
            have S6' := S6 _ gA.below
            have KA := Wk.below gA.below
            have bA := bw.trans (gA.below.mono bw.size)
            have hwA : wr.heap.size ≤ (w6.alloc (.cells #[.int .i64 t0, .int .i64 t1] 32)).heap.size := gA.below.size
            clear S6 S5 S4 i0 i1 g4 g5 Wk
            obtain ⟨kt, hkt⟩ : ∃ k, k = w6.heap.size := ⟨_, rfl⟩
            rw [← hkt] at BT ⊢
            clear hkt
            generalize w6.alloc (.cells #[.int .i64 t0, .int .i64 t1] 32) = wA at gA BT S6' KA bA hwA ⊢
            have i0 := BT.c0
            have i1 := BT.c1
            simp only at i0 i1
            go_upto_region 14 with (go_at_call 42; refine S6'.mono ?_; rintro e w8 ⟨v8, rfl, o8, b8⟩)
            have K8 := Lib.hid (KA.below b8)
            have BT8 := BT.below b8
            clear i0 i1 S6' KA
            have i0 := BT8.c0
            have e0 := K8.out.cell 0
            have e1 := K8.out.cell 1
            have e2 := K8.out.free
            have hwr : IntKind.i64.wrap (x1 + 1) = x1 + 1 := by rw [IntKind.wrap_i64]; omega
            have HO := Lib.hid o8
            have b9 := bA.trans (b8.mono bA.size)
            have hsw := bw.size
            simp only at i0
            clear o8 BT BT8
            go_wp2
            have hset := (K8.out.set 0 (.int .i64 (min x0 t0))).set 1 (.int .i64 (x1 + 1))
            have G2 := grown_trans (grown_set w8 w.heap.size 0 (.int .i64 (min x0 t0))) (grown_set _ w.heap.size 1 (.int .i64 (x1 + 1)))
            have own := HO.out.grown G2 (fun k hk => by have := (HO.out.lt k hk).1; have := Bx.lt; intro e; injection e with e; omega)
            have b10 := below_grown b9 G2 b9.size (Nat.le_refl _)
            clear e0 e1 e2 i0
            obtain ⟨A9, c9, hv9, r9⟩ := own.rd
            go_roundg (r - (x1 + 1)).toNat
            case measure => omega
            case rel => exact ⟨_, (min x0 t0, x1 + 1), Nat.le_refl _, ⟨_, _, _, hv9, r9⟩, hset, hst.out, b10⟩
          · rw [decide_eq_false htw] at S5
            have HI := Lib.hid (inv.done fun _ => htw)
            have hte := Lib.hid htw
            obtain ⟨⟨t0, t1⟩, hte⟩ : ∃ q, q = twin (x0, x1) := ⟨_, rfl⟩
            rw [← hte] at S4 S5
            unfold bval enc2 at S4 S5 S7
            simp only at S4 S5 S7
            clear hte S6 htw
            go_upto_region 15 with (first | (go_at_call 35; refine (S4 _).mono ?_; rintro e w4 ⟨rfl, g4⟩) | (go_at_call 48; refine (S5 _ g4).mono ?_; rintro e w5 ⟨rfl, g5⟩))
            clear j0 j1
            have B5 := Bx.below (g4.trans g5).below
            have i0 := B5.c0
            have i1 := B5.c1
            simp only at i0 i1
            have S7' := S7 _ (g4.trans g5).below
            have b5 := bw.trans ((g4.trans g5).below.mono bw.size)
            have hs5 := b5.size
            go_wp2_with (go_at_call 43; refine S7'.mono ?_; rintro e w6 ⟨v6, rfl, o6, b6⟩)
            go_ret2
            exact ⟨_, 0, _, rfl, .inr (.inr ⟨HRt.out, HF.out, rfl, HI.out⟩), o6.mono hs5, b5.trans (b6.mono b5.size)⟩
        · have kd : decide (x1 < r) = false := decide_eq_false hlt
          have HI := Lib.hid (inv.done fun q => absurd q hlt)
          have S7' := S7 _ (Below.refl _ _)
          unfold bval enc2 at S7'
          simp only at S7'
          clear S4 S5 S6 S7
          have hs5 := bw.size
          go_wp2_with (go_at_call 43; refine S7'.mono ?_; rintro e w6 ⟨v6, rfl, o6, b6⟩)
          go_ret2
          exact ⟨_, 0, _, rfl, .inr (.inr ⟨HRt.out, HF.out, rfl, HI.out⟩), o6.mono hs5, bw.trans (b6.mono bw.size)⟩

theorem refGive_any (r : Int) (A : Option Addr) (n c : Nat) (l : List Blk) (b : Blk) (w : World) (h : RdS w A n l) (hn : n ≤ 1000) :
    Calls Tryd.prog 25 #[.int .i64 r, .slice A n c, bval b] w (GivePost w r l b) := by
  by_cases hR : Right r l
  · by_cases hM : May r b
    · exact refGive_in r A n c l b w h hn hR hM
    · exact refGive_may r A n c l b w h hn hR hM
  · exact refGive_right r A n c l b w h hn hR
theorem refTake_any (r : Int) (A : Option Addr) (n c : Nat) (l : List Blk) (t : Int) (w : World) (h : RdS w A n l) (hn : n ≤ 1000) :
    Calls Tryd.prog 22 #[.int .i64 r, .slice A n c, .int .i64 t] w (TakePost w r l t) := by
  cases hm : mayTk r l t with
  | false => exact refTake_refused r A n c l t w h hn hm
  | true => exact refTake_asked r A n c l t w h hn hm
end Go.Proofs.YthiijnanfiddpaaDoor
