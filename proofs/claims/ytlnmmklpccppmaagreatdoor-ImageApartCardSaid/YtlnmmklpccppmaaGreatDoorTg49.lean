/-
  Whether two states are the same by the document, and a state in memory of its own: contracts.
  A state in memory of its own by the document, and whether a state is right by the program: contracts.
-/
import Derived.Test.YtlnmmklpccppmaaGreatDoorTg48
import Derived.Test.YtlnmmklpccppmaaGreatDoorTg41
namespace Go.Proofs.YtlnmmklpccppmaaGreatDoor
open Go.RowKit
def sameR (a b : Rw) : Bool := a.cl == b.cl && (a.sq == b.sq && (a.co == b.co && a.va == b.va))
theorem sameR_iff (a b : Rw) : sameR a b = true ↔ a = b := by
  unfold sameR
  simp only [Bool.and_eq_true, beq_iff_eq]
  constructor
  · rintro ⟨h1, h2, h3, h4⟩
    exact Rw.ext' h1 h2 h3 h4
  · rintro rfl
    exact ⟨rfl, rfl, rfl, rfl⟩
theorem run_neq_row (a b c d a' b' c' d' : Int) (W : World) : (binOp .neq 88 (.agg #[.int .i64 a, .int .i64 b, .int .i64 c, .int .i64 d]) (.agg #[.int .i64 a', .int .i64 b', .int .i64 c', .int .i64 d'])).run Tryz.prog W = .ok (.bool (!sameR ⟨a, b, c, d⟩ ⟨a', b', c', d'⟩)) W := by
  have u3 := Tryz.underlying3
  have a3 := Tryz.isAgg3
  have z3 := Tryz.sizeOf3
  have u4 := Tryz.underlying30
  have a4 := Tryz.isAgg30
  have z4 := Tryz.sizeOf30
  have u5 := Tryz.underlying59
  have a5 := Tryz.isAgg59
  have z5 := Tryz.sizeOf59
  have hR : Tryz.prog.underlying 59 = some (.struct (Tryz.prog.fieldsOf 59)) := by kernel_rfl
  have hq : Tryz.prog.stoodInHeld 59 = false := by kernel_rfl
  have hS : Tryz.prog.underlying 88 = some (.struct (Tryz.prog.fieldsOf 88)) := by kernel_rfl
  have hp : Tryz.prog.stoodInHeld 88 = false := by kernel_rfl
  have hN := fun (xs ys : Array Value) => run_equalIn_agg W 9998 59 xs ys hR hq
  simp only [Program.fieldsOf, u5] at hN
  rw [run_neq_struct, show (10000 : Nat) = 9999 + 1 from rfl, run_equalIn_agg W 9999 88 _ _ hS hp]
  simp only [Program.fieldsOf, Tryz.underlying88]
  unfold sameR
  go_simp
  by_cases h1 : a = a' <;> by_cases h2 : b = b' <;> by_cases h3 : c = c' <;> by_cases h4 : d = d' <;> simp [h1, h2, h3, h4]
theorem st_ne {a b : St} (h : a ≠ b) : decide (a = b) = false := decide_eq_false h
def SameRRel (W : World) (l m : List Rw) (i : Value) (wr : World) : Prop := ∃ k : Nat, k ≤ l.length ∧ i = .int .i64 (k : Int) ∧ l.take k = m.take k ∧ Grew W wr
set_option maxRecDepth 100000 in
set_option maxHeartbeats 8000000 in
theorem refSameS_any (s s' : SSl) (S S' : St) (w : World) (h : RdT w s S) (h' : RdT w s' S') (hS : SmallS S) :
    Calls Tryz.prog 22 #[sval S s, sval S' s'] w (Says w (.bool (decide (S = S')))) := by
  have g1 := (grew_alloc w (.cells (scs S s).toArray 39)).alloc (.cells (scs S' s').toArray 39)
  have K1 := (Whole.new w (scs S s).toArray 39).alloc (.cells (scs S' s').toArray 39)
  have K2 := Whole.new (w.alloc (.cells (scs S s).toArray 39)) (scs S' s').toArray 39
  have hz0 : (w.alloc (.cells (scs S s).toArray 39)).heap.size = w.heap.size + 1 := by simp
  rw [hz0] at K2
  have HW := Lib.hid (h.rs.below g1.below)
  have HW' := Lib.hid (h'.rs.below g1.below)
  have hlen := Lib.hid h.rs.len
  have hlen' := Lib.hid h'.rs.len
  have S6 := Lib.hid fun (W : World) (b : Below w.heap.size w W) => refSameH_any s.h s'.h S.hp S'.hp W (h.hp.below b) (h'.hp.below b) hS.1
  have hn := hS.2
  have mixed := mixedP
  obtain ⟨⟨A, n, c, F, m, d⟩, R, nr, cr⟩ := s
  obtain ⟨⟨A', n', c', F', m', d'⟩, R', nr', cr'⟩ := s'
  obtain ⟨H, l⟩ := S
  obtain ⟨H', l'⟩ := S'
  clear h h' hS hz0
  obtain ⟨v, hv⟩ : ∃ v, v = decide ((⟨H, l⟩ : St) = ⟨H', l'⟩) := ⟨_, rfl⟩
  rw [← hv]
  have HV := Lib.hid hv
  clear hv
  have hnr : nr ≤ 1000 := by have := hlen.out; simp only at this hn; omega
  clear hn
  simp only [sval, scs, hval, hcs, List.cons_append, List.nil_append] at *
  go_enter Tryz.func22, Tryz.ntmps22
  go_upto_region 1 with (fail)
  obtain ⟨p, hp⟩ : ∃ p, p = w.heap.size := ⟨_, rfl⟩
  rw [← hp] at K1 K2 ⊢
  generalize (w.alloc (.cells _ 39)).alloc (.cells _ 39) = W at g1 K1 K2 HW HW' ⊢
  have HK1 := Lib.hid K1
  have HK2 := Lib.hid K2
  have HG := Lib.hid g1
  obtain ⟨c0, c1, c2, c3, c4, c5, c6, c7, c8⟩ := K1.nine
  obtain ⟨e0, e1, e2, e3, e4, e5, e6, e7, e8⟩ := K2.nine
  clear hp K1 K2 g1
  by_cases hnn : nr = nr'
  case neg =>
    have d1 : ((nr : Int) != (nr' : Int)) = true := by simp; omega
    have Hv := Lib.hid (show v = false from HV.out.trans (st_ne fun e => hnn (by have := congrArg (fun x : St => x.rs.length) e; simp only at this; rw [← hlen.out, ← hlen'.out]; exact this)))
    clear hnn
    go_wp2
    go_ret
    exact ⟨(by rw [Hv.out]; try rfl), HG.out⟩
  have d1 : ((nr : Int) != (nr' : Int)) = false := by simp; omega
  have hnn' : nr' = nr := hnn.symm
  have S7 := S6.out W HG.out.below
  by_cases hh : H = H'
  case neg =>
    rw [decide_eq_false hh] at S7
    have Hv := Lib.hid (show v = false from HV.out.trans (st_ne fun e => hh (congrArg St.hp e)))
    clear hnn hnn' hh
    go_wp2_with fail
    refine S7.mono ?_
    rintro e w2 ⟨rfl, g2⟩
    have G := Lib.hid (HG.out.trans g2)
    clear g2 S7 c0 c1 c2 c3 c4 c5 c6 c7 c8 e0 e1 e2 e3 e4 e5 e6 e7 e8
    go_wp2
    go_ret
    exact ⟨(by rw [Hv.out]; try rfl), G.out⟩
  rw [decide_eq_true hh] at S7
  have Hh := Lib.hid hh
  clear hnn hh
  go_wp2_with fail
  refine S7.mono ?_
  rintro e w2 ⟨rfl, g2⟩
  have HK1 := Lib.hid (HK1.out.below g2.below)
  have HK2 := Lib.hid (HK2.out.below g2.below)
  have HW := Lib.hid (HW.out.below g2.below)
  have HW' := Lib.hid (HW'.out.below g2.below)
  have HG := Lib.hid (HG.out.trans g2)
  have Hnn := Lib.hid hnn'
  clear g2 S7 c0 c1 c2 c3 c4 c5 c6 c7 c8 e0 e1 e2 e3 e4 e5 e6 e7 e8 d1 hnn' S6
  go_upto_region 4 with (fail)
  go_loopw [5] (SameRRel w2 l l') (fun i _ => nr - (intOf i).toNat)
  case atStart => exact ⟨0, Nat.zero_le _, rfl, by simp, Grew.refl _⟩
  case round =>
    obtain ⟨k, hk, rfl, hok, gr⟩ := hrel
    have Hok := Lib.hid hok
    have K1 := HK1.out.below gr.below
    have K2 := HK2.out.below gr.below
    clear hok
    by_cases hlt : k < nr
    case neg =>
      have Hv := Lib.hid (show v = true from HV.out.trans (decide_eq_true (by
        have h1 := Hok.out
        rw [List.take_of_length_le (by have := hlen.out; omega), List.take_of_length_le (by have := hlen'.out; have := Hnn.out; omega)] at h1
        rw [h1, Hh.out])))
      have G := Lib.hid (HG.out.trans gr)
      obtain ⟨c0, c1, c2, c3, c4, c5, c6, c7, c8⟩ := K1.nine
      clear hk gr Hok K1 K2
      go_wp2
      go_ret
      exact ⟨(by rw [Hv.out]; try rfl), G.out⟩
    obtain ⟨b', off, x, rfl, hbl, hx, z0, z1, z2, z3⟩ := HW.out.get hlt
    obtain ⟨b2, off2, y, rfl, hbl2, hy, u0, u1, u2, u3⟩ := HW'.out.get (j := k) (by have := Hnn.out; omega)
    have hki : (k : Int) < (nr : Int) := by omega
    have hki2 : (k : Int) < (nr' : Int) := by have := Hnn.out; omega
    have hblw := Nat.lt_of_lt_of_le hbl gr.below.size
    have hblw2 := Nat.lt_of_lt_of_le hbl2 gr.below.size
    have x0 := cell_grown (a := ⟨b', off + k * 4, none⟩) hblw ((gr.below.cell (p := ⟨b', off + k * 4, none⟩) hbl).trans z0)
    have x1 := cell_grown (a := ⟨b', off + k * 4 + 1, none⟩) hblw ((gr.below.cell (p := ⟨b', off + k * 4 + 1, none⟩) hbl).trans z1)
    have x2 := cell_grown (a := ⟨b', off + k * 4 + 2, none⟩) hblw ((gr.below.cell (p := ⟨b', off + k * 4 + 2, none⟩) hbl).trans z2)
    have x3 := cell_grown (a := ⟨b', off + k * 4 + 3, none⟩) hblw ((gr.below.cell (p := ⟨b', off + k * 4 + 3, none⟩) hbl).trans z3)
    have y0 := cell_grown (a := ⟨b2, off2 + k * 4, none⟩) hblw2 ((gr.below.cell (p := ⟨b2, off2 + k * 4, none⟩) hbl2).trans u0)
    have y1 := cell_grown (a := ⟨b2, off2 + k * 4 + 1, none⟩) hblw2 ((gr.below.cell (p := ⟨b2, off2 + k * 4 + 1, none⟩) hbl2).trans u1)
    have y2 := cell_grown (a := ⟨b2, off2 + k * 4 + 2, none⟩) hblw2 ((gr.below.cell (p := ⟨b2, off2 + k * 4 + 2, none⟩) hbl2).trans u2)
    have y3 := cell_grown (a := ⟨b2, off2 + k * 4 + 3, none⟩) hblw2 ((gr.below.cell (p := ⟨b2, off2 + k * 4 + 3, none⟩) hbl2).trans u3)
    have c8 := K1.nine.2.2.2.2.2.2.2.2
    have e8 := K2.nine.2.2.2.2.2.2.2.2
    have c9 := cell_grown (a := ⟨p, 8, none⟩) K1.lt c8
    have e9 := cell_grown (a := ⟨p + 1, 8, none⟩) K2.lt e8
    have Hx := Lib.hid hx
    have Hy := Lib.hid hy
    have run := run_neq_row x.cl x.sq x.co x.va y.cl y.sq y.co y.va
    have hiff := sameR_iff x y
    have G := Lib.hid gr
    clear hk hx z0 z1 z2 z3 hbl hblw hy u0 u1 u2 u3 hbl2 hblw2 K1 K2 gr
    go_upto_region 6 with (fail)
    clear c8 e8
    cases hs : sameR x y with
    | false =>
      have run' := run
      rw [show sameR ⟨x.cl, x.sq, x.co, x.va⟩ ⟨y.cl, y.sq, y.co, y.va⟩ = false from hs] at run
      rw [hs] at hiff
      have Hv := Lib.hid (show v = false from HV.out.trans (st_ne fun e => absurd (hiff.2 (by
        have h1 : l = l' := congrArg St.rs e
        have := Hx.out
        rw [h1, Hy.out] at this
        injection this with this
        exact this.symm)) (by decide)))
      clear run' hiff hs
      refine wp_region_quiet_grown mixed (by kernel_rfl) ?_
      repeat (go_big_quiet_step (fail))
      refine wpQuiet_nil ?_
      rintro _ ⟨⟨nq, osq⟩, rfl⟩
      have G4 := Lib.hid ((HG.out.trans G.out).trans ((Grew.refl wr).grow nq osq))
      generalize Go.Sort.grow (wr.drewN nq) osq = W4 at G4 ⊢
      clear x0 x1 x2 x3 y0 y1 y2 y3 c9 e9 run
      go_wp2
      go_ret
      exact ⟨(by rw [Hv.out]; try rfl), G4.out⟩
    | true =>
      rw [show sameR ⟨x.cl, x.sq, x.co, x.va⟩ ⟨y.cl, y.sq, y.co, y.va⟩ = true from hs] at run
      have Hs := Lib.hid (show l.take (k + 1) = l'.take (k + 1) by
        rw [take_snocI Hx.out, take_snocI Hy.out, Hok.out, hiff.1 hs])
      clear hiff hs
      refine wp_region_quiet_grown mixed (by kernel_rfl) ?_
      repeat (go_big_quiet_step (fail))
      refine wpQuiet_nil ?_
      rintro _ ⟨⟨nq, osq⟩, rfl⟩
      have G4 := Lib.hid (G.out.trans ((Grew.refl wr).grow nq osq))
      generalize Go.Sort.grow (wr.drewN nq) osq = W4 at G4 ⊢
      clear x0 x1 x2 x3 y0 y1 y2 y3 c9 e9 run
      go_wp2_with fail
      go_roundw
      case rel => exact ⟨k + 1, by have := hlen.out; omega, by go_num, Hs.out, G4.out⟩
      case measure => simp [intOf]; omega
end Go.Proofs.YtlnmmklpccppmaaGreatDoor
namespace Go.Proofs.YtlnmmklpccppmaaGreatDoor
open Go.RowKit
/-- A state of the call's own. -/
structure OwnSt (w : World) (base : Nat) (s : SSl) (os : List (Ob × OSl)) (S : St) : Prop where
  hp : OwnHp w base s.h os S.hp
  rs : OwnW w base (.slice s.R s.n s.c) S.rs
theorem OwnSt.rd {w : World} {base : Nat} {s : SSl} {os : List (Ob × OSl)} {S : St} (h : OwnSt w base s os S) : RdT w s S := ⟨h.hp.rd, by
  obtain ⟨A, c, e, _, _, r⟩ := h.rs.shape rfl
  injection e with e1 e2 e3
  rw [e1, e2]
  exact r⟩
theorem OwnSt.below {w w' : World} {base : Nat} {s : SSl} {os : List (Ob × OSl)} {S : St} (h : OwnSt w base s os S) (b : Below w.heap.size w w') : OwnSt w' base s os S := ⟨h.hp.below b, h.rs.below b⟩
theorem OwnSt.mono {w : World} {base base' : Nat} {s : SSl} {os : List (Ob × OSl)} {S : St} (h : OwnSt w base s os S) (b : base' ≤ base) : OwnSt w base' s os S := ⟨h.hp.mono b, h.rs.mono b⟩
theorem OwnSt.grownI {w w' : World} {base r : Nat} {s : SSl} {os : List (Ob × OSl)} {S : St} (h : OwnSt w base s os S) (hg : w.grownBy w' (some r)) (hr : r < base) : OwnSt w' base s os S :=
  ⟨h.hp.grownI hg hr, h.rs.grown hg (fun k hk e => by have := (h.rs.lt k hk).1; injection e with e; omega)⟩
def OwnsSPost (w : World) (S : St) (e : Ending) (w' : World) : Prop := ∃ s os, e = .returned (sval S s) ∧ OwnSt w' w.heap.size s os S ∧ Below w.heap.size w w'
theorem grown_set9 (w : World) (g : Nat) (a0 a1 a2 a3 a4 a5 a6 a7 a8 : Value) : w.grownBy (((((((((w.setCell ⟨g, 0, none⟩ a0).setCell ⟨g, 1, none⟩ a1).setCell ⟨g, 2, none⟩ a2).setCell ⟨g, 3, none⟩ a3).setCell ⟨g, 4, none⟩ a4).setCell ⟨g, 5, none⟩ a5).setCell ⟨g, 6, none⟩ a6).setCell ⟨g, 7, none⟩ a7).setCell ⟨g, 8, none⟩ a8) (some g) :=
  grown_trans (grown_set8 w g a0 a1 a2 a3 a4 a5 a6 a7) (grown_set _ _ _ _)
def zst : List Value := [.int .i64 0, .slice none 0 0, .int .i64 0, .int .i64 0, .int .i64 0, .int .i64 0, .int .i64 0, .slice none 0 0, .slice none 0 0]
set_option maxRecDepth 100000 in
set_option maxHeartbeats 8000000 in
theorem refOwnS_any (s : SSl) (S : St) (w : World) (h : RdT w s S) (hS : SmallS S) :
    Calls Tryz.prog 17 #[sval S s] w (OwnsSPost w S) := by
  have b0 := ((Below.refl w.heap.size w).alloc (Nat.le_refl _) (.cells (scs S s).toArray 39))
  have b1 := b0.alloc b0.size (.cells zst.toArray 39)
  have K1 := (Whole.new w (scs S s).toArray 39).alloc (.cells zst.toArray 39)
  have K2 := Whole.new (w.alloc (.cells (scs S s).toArray 39)) zst.toArray 39
  have hz0 : (w.alloc (.cells (scs S s).toArray 39)).heap.size = w.heap.size + 1 := by simp
  rw [hz0] at K2
  have hz1 := Lib.hid (show ((w.alloc (.cells (scs S s).toArray 39)).alloc (.cells zst.toArray 39)).heap.size = w.heap.size + 2 by simp)
  have S1 := refOwnH_any s.h S.hp _ (h.hp.below b1) hS.1
  have HW := Lib.hid h.rs
  have hn := hS.2
  have hlen := Lib.hid h.rs.len
  obtain ⟨⟨A, n, c, F, m, d⟩, R, nr, cr⟩ := s
  obtain ⟨H, l⟩ := S
  have hnr : nr ≤ 1000 := by have := hlen.out; simp only at this hn; omega
  clear h hS hz0 b0 hn
  simp only [sval, scs, hval, hcs, List.cons_append, List.nil_append, zst] at *
  have HB := Lib.hid b1
  have HK1 := Lib.hid K1
  have HK2 := Lib.hid K2
  go_enter Tryz.func17, Tryz.ntmps17
  go_upto_region 1 with (fail)
  generalize (w.alloc (.cells _ 39)).alloc (.cells _ 39) = W at b1 K1 K2 S1 HB HK1 HK2 hz1 ⊢
  obtain ⟨c0, c1, c2, c3, c4, c5, c6, c7, c8⟩ := K1.nine
  clear b1 K1 K2
  go_upto_region 1 with (fail)
  have HK := HK1.out
  have S1 := Lib.hid S1
  have b2f := Lib.hid fun (w1 : World) (b2 : Below W.heap.size W w1) => (HK1.out.below b2).nine
  have b2g := Lib.hid fun (w1 : World) (b2 : Below W.heap.size W w1) => (HK1.out.below b2).free
  clear HK
  go_upto_region 2 with (go_at_call 10; refine S1.out.mono ?_; rintro e w1 ⟨⟨A2, n2, c2', F2, m2, d2⟩, os, rfl, o2, b2⟩; simp only [hval, hcs]; obtain ⟨d0, d1, d2'', d3, d4, d5, d6, d7, d8⟩ := b2f.out w1 b2; have df := b2g.out w1 b2)
  have K3 := ((((((((HK1.out.below b2).set 0 (.int .i64 H.od)).set 1 (.slice A2 n2 c2')).set 2 (.int .i64 H.nx)).set 3 (.int .i64 (tget H 0))).set 4 (.int .i64 (tget H 1))).set 5 (.int .i64 (tget H 2))).set 6 (.int .i64 (tget H 3))).set 7 (.slice F2 m2 d2)
  have G3 := grown_set8 w1 w.heap.size (.int .i64 H.od) (.slice A2 n2 c2') (.int .i64 H.nx) (.int .i64 (tget H 0)) (.int .i64 (tget H 1)) (.int .i64 (tget H 2)) (.int .i64 (tget H 3)) (.slice F2 m2 d2)
  have O3 := Lib.hid (o2.grownI G3 (by have := hz1.out; omega))
  have Kr3 := Lib.hid ((HK2.out.below b2).grown G3 (by omega))
  have B2 := HB.out.trans (b2.mono HB.out.size)
  have B3 := Lib.hid (below_grown B2 G3 B2.size (Nat.le_refl _))
  clear G3 o2 b2 B2 d0 d1 d2'' d3 d4 d5 d6 d7 d8 df c0 c1 c2 c3 c4 c5 c6 c7 c8 b2f b2g S1 HK1 HK2 HB
  generalize ((((((((w1.setCell ⟨w.heap.size, 0, none⟩ _).setCell ⟨w.heap.size, 1, none⟩ _).setCell ⟨w.heap.size, 2, none⟩ _).setCell ⟨w.heap.size, 3, none⟩ _).setCell ⟨w.heap.size, 4, none⟩ _).setCell ⟨w.heap.size, 5, none⟩ _).setCell ⟨w.heap.size, 6, none⟩ _).setCell ⟨w.heap.size, 7, none⟩ _) = W3 at K3 O3 Kr3 B3 ⊢
  simp only [List.set_cons_zero, List.set_cons_succ] at K3
  have HK3 := Lib.hid K3
  obtain ⟨d0, d1, d2', d3, d4, d5, d6, d7, d8⟩ := K3.nine
  obtain ⟨v4, W4, hap, o4, g4⟩ := run_appW W3.heap.size (.slice none 0 0) [] OwnW.nil R nr cr l (HW.out.below B3.out) (by simp; omega) (Nat.le_refl _)
  rw [List.nil_append] at o4
  have Ho4 := Lib.hid o4
  have Hg4 := Lib.hid (below_none g4)
  obtain ⟨A4, c4', rfl, _, _, _⟩ := o4.shape hlen.out
  clear o4 g4 K3
  go_upto_region 4 with (at_builtin; refine wpList_append_run hap rfl _ _ rfl rfl rfl rfl ?_)
  have HK4 := Lib.hid (HK3.out.below Hg4.out)
  have Kr4 := Lib.hid (Kr3.out.below Hg4.out)
  have B4 := Lib.hid (B3.out.trans (Hg4.out.mono B3.out.size))
  have O4 := Lib.hid (O3.out.below Hg4.out)
  have Hb3 := Lib.hid (show w.heap.size + 2 ≤ W3.heap.size by have := Hg4.out.size; have := O3.out; have h1 := Kr3.out.lt; omega)
  clear d0 d1 d2' d3 d4 d5 d6 d7 d8 hap HK3 Kr3 B3 O3 Hg4
  obtain ⟨d0, d1, d2', d3, d4, d5, d6, d7, d8⟩ := HK4.out.nine
  have df := HK4.out.free
  have K5 := HK4.out.set 8 (.slice A4 nr c4')
  have G5 := grown_set W4 w.heap.size 8 (.slice A4 nr c4')
  have Kr5 := Lib.hid (Kr4.out.grown G5 (by omega))
  have B5 := Lib.hid (below_grown B4.out G5 B4.out.size (Nat.le_refl _))
  have O5 := Lib.hid (OwnSt.grownI (base := w.heap.size + 2) (r := w.heap.size) (s := ⟨⟨A2, n2, c2', F2, m2, d2⟩, A4, nr, c4'⟩) (os := os) (S := ⟨H, l⟩) ⟨O4.out.mono (base' := w.heap.size + 2) (by have := hz1.out; omega), Ho4.out.mono Hb3.out⟩ G5 (by omega))
  go_upto_region 5 with (fail)
  clear d0 d1 d2' d3 d4 d5 d6 d7 d8 df G5 B4 O4 Kr4 HK4 Ho4
  generalize W4.setCell ⟨w.heap.size, 8, none⟩ (.slice A4 nr c4') = W5 at K5 Kr5 B5 O5 ⊢
  simp only [List.set_cons_zero, List.set_cons_succ] at K5
  obtain ⟨d0, d1, d2', d3, d4, d5, d6, d7, d8⟩ := K5.nine
  obtain ⟨r0, r1, r2, r3, r4, r5, r6, r7, r8⟩ := Kr5.out.nine
  have fr := Kr5.out.free
  have W1 := Lib.hid (((((((((Kr5.out.set 0 (.int .i64 H.od)).set 1 (.slice A2 n2 c2')).set 2 (.int .i64 H.nx)).set 3 (.int .i64 (tget H 0))).set 4 (.int .i64 (tget H 1))).set 5 (.int .i64 (tget H 2))).set 6 (.int .i64 (tget H 3))).set 7 (.slice F2 m2 d2)).set 8 (.slice A4 nr c4'))
  have G9 := Lib.hid (grown_set9 W5 (w.heap.size + 1) (.int .i64 H.od) (.slice A2 n2 c2') (.int .i64 H.nx) (.int .i64 (tget H 0)) (.int .i64 (tget H 1)) (.int .i64 (tget H 2)) (.int .i64 (tget H 3)) (.slice F2 m2 d2) (.slice A4 nr c4'))
  clear K5
  go_wp2
  refine bodyPost_ret (results_cell_row rfl _ _ (w.heap.size + 1) 39 _ (0, 0) _ rfl W1.out Tryz.underlying39 rfl (by kernel_rfl)) rfl ?_
  exact ⟨⟨⟨A2, n2, c2', F2, m2, d2⟩, A4, nr, c4'⟩, os, rfl, (O5.out.grownI G9.out (by omega)).mono (by omega), below_grown B5.out G9.out B5.out.size (by omega)⟩
def chkS (S : St) : Int := if RightS S then 0 else 60
set_option maxHeartbeats 4000000 in
theorem checkS_any (s : SSl) (S : St) (w : World) (h : RdT w s S) (hS : SmallS S) (hT : Tab w) :
    Calls Tryz.prog 18 #[sval S s] w (Tells w (.int .i64 (chkS S))) := by
  have b1 := ((Below.refl w.heap.size w).alloc (Nat.le_refl _) (.cells (scs S s).toArray 39))
  have K := Whole.new w (scs S s).toArray 39
  have S1 := check_heap s.h S.hp _ (h.hp.below b1) hS.1 (hT.below b1)
  have HW := Lib.hid (h.rs.below b1)
  have hn := hS.2
  have hlen := Lib.hid h.rs.len
  obtain ⟨⟨A, n, c, F, m, d⟩, R, nr, cr⟩ := s
  obtain ⟨H, l⟩ := S
  have hnr : nr ≤ 1000 := by have := hlen.out; simp only at this hn; omega
  clear h hS hT hn
  obtain ⟨v, hv⟩ : ∃ v, v = chkS ⟨H, l⟩ := ⟨_, rfl⟩
  rw [← hv]
  have HV := Lib.hid hv
  clear hv
  simp only [sval, scs, hval, hcs, List.cons_append, List.nil_append] at *
  by_cases hR : RightH H
  case neg =>
    rw [chkH_no hR] at S1
    have Hv := Lib.hid (show v = 60 from HV.out.trans (if_neg fun q => hR q.1))
    obtain ⟨c0, c1, c2, c3, c4, c5, c6, c7, c8⟩ := K.nine
    clear hR K
    go_enter Tryz.func18, Tryz.ntmps18
    go_wp2_with fail
    refine S1.mono ?_
    rintro e w2 ⟨rfl, b2⟩
    have B := Lib.hid (b1.trans (b2.mono b1.size))
    clear S1 b1 b2 c0 c1 c2 c3 c4 c5 c6 c7 c8
    go_wp2
    go_ret
    exact ⟨(by rw [Hv.out]; try rfl), B.out⟩
  rw [chkH_yes hR] at S1
  have HRt := Lib.hid hR
  obtain ⟨c0, c1, c2, c3, c4, c5, c6, c7, c8⟩ := K.nine
  clear hR
  go_enter Tryz.func18, Tryz.ntmps18
  go_wp2_with fail
  refine S1.mono ?_
  rintro e w2 ⟨rfl, b2⟩
  have B := b1.trans (b2.mono b1.size)
  have S2 := rowsRight_any R nr cr l w2 (HW.out.below b2) hnr
  clear S1 c0 c1 c2 c3 c4 c5 c6 c7 c8
  obtain ⟨c0, c1, c2, c3, c4, c5, c6, c7, c8⟩ := (K.below b2).nine
  clear K b2 b1
  by_cases hr : RowsOk l
  · rw [decide_eq_true hr] at S2
    have Hv := Lib.hid (show v = 0 from HV.out.trans (if_pos ⟨HRt.out, hr⟩))
    clear hr
    go_wp2_with fail
    refine S2.mono ?_
    rintro e w3 ⟨rfl, g3⟩
    have B3 := Lib.hid (B.trans (g3.below.mono B.size))
    clear S2 g3 B c0 c1 c2 c3 c4 c5 c6 c7 c8
    go_wp2
    go_ret
    exact ⟨(by rw [Hv.out]; try rfl), B3.out⟩
  · rw [decide_eq_false hr] at S2
    have Hv := Lib.hid (show v = 60 from HV.out.trans (if_neg fun q => hr q.2))
    clear hr
    go_wp2_with fail
    refine S2.mono ?_
    rintro e w3 ⟨rfl, g3⟩
    have B3 := Lib.hid (B.trans (g3.below.mono B.size))
    clear S2 g3 B c0 c1 c2 c3 c4 c5 c6 c7 c8
    go_wp2
    go_ret
    exact ⟨(by rw [Hv.out]; try rfl), B3.out⟩
end Go.Proofs.YtlnmmklpccppmaaGreatDoor
