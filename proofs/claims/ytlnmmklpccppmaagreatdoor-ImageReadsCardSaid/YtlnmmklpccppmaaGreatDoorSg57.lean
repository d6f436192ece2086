/-
  The document's free blocks beside objects: contracts of clear and free.
-/
import Derived.Test.YtlnmmklpccppmaaGreatDoorSg35
import Derived.Test.YtlnmmklpccppmaaGreatDoorSg39
import Derived.Test.YtlnmmklpccppmaaGreatDoorSg8
namespace Go.Proofs.YtlnmmklpccppmaaGreatDoor
open Go.RowKit
/-- May a block be, and meets it none of these? -/
def ClearP (r : Int) (B : Blk) (bs : List Blk) : Prop := (∀ c ∈ bs, ¬ Meets B c) ∧ May r B
instance (r : Int) (B : Blk) (bs : List Blk) : Decidable (ClearP r B bs) := by unfold ClearP; infer_instance
theorem ClearP.free {od : Int} {B : Blk} {bs F : List Blk} (h : ClearP od B bs) (k : FreeOf od bs F) {x : Int} (hx : InB B x) : Cov F x := by
  obtain ⟨h0, h1⟩ := h.2.words hx
  rw [k.cov]
  exact ⟨h0, h1, fun ⟨c, hc, hcx⟩ => h.1 c hc (meets_of hx hcx)⟩
theorem FreeOf.clear {od : Int} {B : Blk} {bs F : List Blk} (k : FreeOf od bs F) (hB : B ∈ F) : ClearP od B bs := by
  refine ⟨fun c hc hm => ?_, k.right.may hB⟩
  obtain ⟨m1, m2⟩ := hm
  have p1 := sz_pos B.2
  have p2 := sz_pos c.2
  obtain ⟨x, x1, x2⟩ : ∃ x, InB B x ∧ InB c x := by
    rcases Int.le_total B.1 c.1 with h | h
    · exact ⟨c.1, ⟨h, m2⟩, self_in c⟩
    · exact ⟨B.1, self_in B, ⟨h, m1⟩⟩
  exact ((k.cov x).1 ⟨B, hB, x1⟩).2.2 ⟨c, hc, x2⟩
/-- What is found so far, up to place p. -/
structure FrInv (od : Int) (bs G : List Blk) (p : Int) : Prop where
  lo : 0 ≤ p
  hi : p ≤ sz od
  len : (G.length : Int) ≤ p
  is : ∀ F, FreeOf od bs F → ∃ k, Part F p k ∧ G = F.take k
theorem FrInv.start {od : Int} {bs : List Blk} : FrInv od bs [] 0 := ⟨by omega, by have := sz_pos od; omega, by simp, fun F h => ⟨0, Part.start h.right, rfl⟩⟩
theorem FrInv.yes {od p o : Int} {bs G : List Blk} (h : FrInv od bs G p) (h0 : 0 ≤ o) (hr : o ≤ od) (hc : ClearP od (p, o) bs) (hm : ∀ q, o < q → q ≤ od → ¬ ClearP od (p, q) bs) : FrInv od bs (G ++ [(p, o)]) (p + sz o) := by
  have hp := sz_pos o
  have hM := hc.2
  refine ⟨by have := h.lo; omega, by have := hM.2.2.2.1; simp only at this; omega, by rw [List.length_append, List.length_singleton]; have := h.len; omega, fun F k => ?_⟩
  obtain ⟨j, hP, e⟩ := h.is F k
  obtain ⟨B, hB, e1⟩ := hP.at_ (k.right.2.2.imp fun q => q.1) (hc.free k (x := p) (self_in (p, o)))
  have hBm := List.mem_of_getElem? hB
  have g1 := k.right.greatest hBm h0 hr (by rw [e1]; exact hM.2.2.2.2) fun x x1 x2 => hc.free k (x := x) ⟨by simp only; omega, by simp only; omega⟩
  have g2 : ¬ o < B.2 := fun q => hm B.2 q (k.right.may hBm).2.1 (by rw [← e1]; exact k.clear hBm)
  obtain ⟨B1, B2⟩ := B
  simp only at e1 g1 g2
  obtain rfl : B2 = o := by omega
  subst e1
  obtain ⟨s1, s2⟩ := hP.step k.right hB rfl
  exact ⟨j + 1, s1, by rw [s2, e]⟩
theorem FrInv.no {od p : Int} {bs G : List Blk} (h : FrInv od bs G p) (hlt : p < sz od) (hm : ∀ q, 0 ≤ q → q ≤ od → ¬ ClearP od (p, q) bs) : FrInv od bs G (p + 1) := by
  refine ⟨by have := h.lo; omega, by omega, by have := h.len; omega, fun F k => ?_⟩
  obtain ⟨j, hP, e⟩ := h.is F k
  refine ⟨j, hP.skip (by omega) fun x x1 x2 hx => ?_, e⟩
  obtain rfl : x = p := by omega
  obtain ⟨B, hB, e1⟩ := hP.at_ (k.right.2.2.imp fun q => q.1) hx
  have hBm := List.mem_of_getElem? hB
  have hMB := k.right.may hBm
  exact hm B.2 hMB.1 hMB.2.1 (by rw [← e1]; exact k.clear hBm)
theorem FrInv.done {od : Int} {bs G F : List Blk} (h : FrInv od bs G (sz od)) (k : FreeOf od bs F) : G = F := by
  obtain ⟨j, hP, e⟩ := h.is F k
  rw [e]
  exact Part.done k.right hP
set_option maxHeartbeats 1000000 in
theorem refMeetW_any (a b : Blk) (w : World) (ha : 0 ≤ a.2 ∧ a.2 ≤ 8) (hb : 0 ≤ b.2 ∧ b.2 ≤ 8) (ra : 0 ≤ a.1 ∧ a.1 ≤ 4294967296) (rb : 0 ≤ b.1 ∧ b.1 ≤ 4294967296) :
    Calls Tryz.prog 75 #[bval a, bval b] w (Says w (.bool (decide (Meets a b)))) := by
  have S1 := fun W => refSize_any b.2 W hb.1 hb.2
  have S2 := fun W => refSize_any a.2 W ha.1 ha.2
  have l1 := sz_le256 hb.1 hb.2
  have l2 := sz_le256 ha.1 ha.2
  have p1 := sz_pos b.2
  have p2 := sz_pos a.2
  obtain ⟨x, o⟩ := a
  obtain ⟨y, p⟩ := b
  have key : decide (Meets (x, o) (y, p)) = (decide (x < y + sz p) && decide (y < x + sz o)) := by rw [Bool.eq_iff_iff, decide_eq_true_iff, Bool.and_eq_true, decide_eq_true_iff, decide_eq_true_iff]; exact Iff.rfl
  rw [key]
  clear key
  simp only at *
  obtain ⟨s, hs⟩ : ∃ s, s = sz p := ⟨_, rfl⟩
  obtain ⟨t, ht⟩ : ∃ t, t = sz o := ⟨_, rfl⟩
  rw [← hs] at S1 l1 p1 ⊢
  rw [← ht] at S2 l2 p2 ⊢
  clear hs ht
  unfold bval enc2
  simp only
  have g1 : Grew w ((w.alloc (.cells #[.int .i64 x, .int .i64 o] 65)).alloc (.cells #[.int .i64 y, .int .i64 p] 65)) := ((Grew.refl w).alloc _).alloc _
  have B1 := (Box2.new w (x, o) 65).alloc (.cells #[.int .i64 y, .int .i64 p] 65)
  have B2 := Box2.new (w.alloc (.cells #[.int .i64 x, .int .i64 o] 65)) (y, p) 65
  simp only [World.size_alloc] at B2
  have e1 : IntKind.i64.wrap (y + s) = y + s := by rw [IntKind.wrap_i64]; omega
  have e2 : IntKind.i64.wrap (x + t) = x + t := by rw [IntKind.wrap_i64]; omega
  by_cases h1 : x < y + s
  · have hd : decide (x < y + s) = true := decide_eq_true h1
    rw [hd, Bool.true_and]
    go_enter Tryz.func75, Tryz.ntmps75
    go_wp2_with fail
    generalize (w.alloc (.cells #[.int .i64 x, .int .i64 o] 65)).alloc (.cells #[.int .i64 y, .int .i64 p] 65) = w1 at g1 B1 B2 ⊢
    have c0 := B1.g0
    have c1 := B1.g1
    have d0 := B2.g0
    have d1 := B2.g1
    simp only at c0 c1 d0 d1
    clear B1 B2
    have mixed : Tryz.prog.follows .mixedOrders = true := by kernel_rfl
    refine wp_region_quiet_grown mixed (by kernel_rfl) ?_
    repeat (go_big_quiet_step (first | (go_at_call_of 77 p; exact calls_grown_same (S1 _)) | (go_at_call_of 77 o; exact calls_grown_same (S2 _))))
    refine wpQuiet_nil ?_
    intro _ hw'
    obtain ⟨⟨nq, osq⟩, hw''⟩ := hw'
    subst hw''
    have g2 := g1.grow nq osq
    clear c0 c1 d0 d1 S1 S2
    go_wp2
    go_ret
    exact ⟨rfl, g2⟩
  · have hd : decide (x < y + s) = false := decide_eq_false h1
    rw [hd, Bool.false_and]
    have hq : (x < y + s) = False := eq_false h1
    clear h1 hd
    go_enter Tryz.func75, Tryz.ntmps75
    go_wp2_with fail
    generalize (w.alloc (.cells #[.int .i64 x, .int .i64 o] 65)).alloc (.cells #[.int .i64 y, .int .i64 p] 65) = w1 at g1 B1 B2 ⊢
    have c0 := B1.g0
    have c1 := B1.g1
    have d0 := B2.g0
    have d1 := B2.g1
    simp only at c0 c1 d0 d1
    clear B1 B2
    have mixed : Tryz.prog.follows .mixedOrders = true := by kernel_rfl
    refine wp_region_quiet_grown mixed (by kernel_rfl) ?_
    repeat (go_big_quiet_step (first | (go_at_call_of 77 p; exact calls_grown_same (S1 _)) | (go_at_call_of 77 o; exact calls_grown_same (S2 _))))
    refine wpQuiet_nil ?_
    intro _ hw'
    obtain ⟨⟨nq, osq⟩, hw''⟩ := hw'
    subst hw''
    have g2 := g1.grow nq osq
    clear c0 c1 d0 d1 S1 S2
    go_wp2
    go_ret
    exact ⟨rfl, g2⟩
/-- The first blocks are not met. -/
def ClRel (W : World) (B : Blk) (os : List Ob) (i : Value) (wr : World) : Prop := ∃ k : Nat, k ≤ os.length ∧ i = .int .i64 (k : Int) ∧ (∀ (j : Nat) (x : Ob), j < k → os[j]? = some x → ¬ Meets B x.bl) ∧ Grew W wr
set_option maxHeartbeats 1000000 in
theorem clear_any (r : Int) (B : Blk) (A : Option Addr) (n c : Nat) (os : List Ob) (w : World) (h : RdO w A n os) (hn : n ≤ 1000) (hr : 0 ≤ r ∧ r ≤ 8) (hB : 0 ≤ B.2 ∧ B.2 ≤ 8) (hB1 : 0 ≤ B.1 ∧ B.1 ≤ 256) (hok : ∀ x ∈ os, BlkOk x) :
    Calls Tryz.prog 99 #[.int .i64 r, bval B, .slice A n c] w (Says w (.bool (decide (ClearP r B (os.map Ob.bl))))) := by
  have mixed : Tryz.prog.follows .mixedOrders = true := by kernel_rfl
  have hlen := Lib.hid h.len
  obtain ⟨x0, o0⟩ := B
  obtain ⟨P, hP⟩ : ∃ P, P = decide (ClearP r (x0, o0) (os.map Ob.bl)) := ⟨_, rfl⟩
  rw [← hP]
  have HP := Lib.hid hP
  clear hP
  have g1 : Grew w (w.alloc (.cells #[.int .i64 x0, .int .i64 o0] 65)) := (Grew.refl w).alloc _
  have B1 := Box2.new w (x0, o0) 65
  have HR := Lib.hid (h.below g1.below)
  clear h
  unfold bval enc2
  simp only at *
  go_enter Tryz.func99, Tryz.ntmps99
  go_wp2_with fail
  obtain ⟨k0, hk0⟩ : ∃ k0, k0 = w.heap.size := ⟨_, rfl⟩
  rw [← hk0] at B1 ⊢
  generalize w.alloc (.cells #[.int .i64 x0, .int .i64 o0] 65) = W at g1 B1 HR ⊢
  have HB1 := Lib.hid B1
  have G1 := Lib.hid g1
  clear B1 g1 hk0
  go_loopw [7] (ClRel W (x0, o0) os) (fun i _ => n - (intOf i).toNat)
  case atStart => exact ⟨0, Nat.zero_le _, rfl, (fun j x hj => absurd hj (Nat.not_lt_zero _)), Grew.refl _⟩
  case round =>
    obtain ⟨k, hk, rfl, hno, gr⟩ := hrel
    have Hno := Lib.hid hno
    clear hno
    by_cases hlt : k < n
    · have hki : (k : Int) < (n : Int) := by omega
      obtain ⟨b', off, x, rfl, hbl, hx, A1, n1, c1, A2, n2, c2, q0, q1, q2, q3, q4, _, _⟩ := HR.out.get hlt
      have hlt8 := Nat.lt_of_lt_of_le hbl gr.below.size
      have y1 := cell_grown (a := ⟨b', off + k * 5 + 1, none⟩) hlt8 ((gr.below.cell (p := ⟨b', off + k * 5 + 1, none⟩) hbl).trans q1)
      have y2 := cell_grown (a := ⟨b', off + k * 5 + 2, none⟩) hlt8 ((gr.below.cell (p := ⟨b', off + k * 5 + 2, none⟩) hbl).trans q2)
      have y3 := cell_grown (a := ⟨b', off + k * 5 + 1 + 1, none⟩) hlt8 ((gr.below.cell (p := ⟨b', off + k * 5 + 1 + 1, none⟩) hbl).trans q2)
      have BB := HB1.out.below gr.below
      have c0 := BB.g0
      have c1 := BB.g1
      obtain ⟨m1, m2, m3, m4⟩ := hok x (List.mem_of_getElem? hx)
      have S := fun W => refMeetW_any (x0, o0) x.bl W hB ⟨m3, by omega⟩ ⟨hB1.1, by have := hB1.2; simp only at this ⊢; omega⟩ ⟨m1, by omega⟩
      have Hx := Lib.hid hx
      have Gr := Lib.hid gr
      obtain ⟨xh, ⟨xa, xo⟩, xw, xl⟩ := x
      unfold bval enc2 at S
      simp only at S y1 y2 y3 c0 c1
      clear q0 q1 q2 q3 q4 hx hbl hlt8 gr m1 m2 m3 m4 BB
      by_cases hme : Meets (x0, o0) (xa, xo)
      · rw [decide_eq_true hme] at S
        have hPf := Lib.hid (show P = false from by
          rw [HP.out, decide_eq_false_iff_not]
          intro q
          exact q.1 (xa, xo) (List.mem_map.2 ⟨_, List.mem_of_getElem? Hx.out, rfl⟩) hme)
        clear hme
        go_wp2_with fail
        refine wp_region_quiet_grown mixed (by kernel_rfl) ?_
        repeat (go_big_quiet_step ((go_at_call 75; exact calls_grown_says (S _))))
        refine wpQuiet_nil ?_
        intro _ hw'
        obtain ⟨⟨nq, osq⟩, hw''⟩ := hw'
        subst hw''
        have G9 := (Grew.refl wr).grow nq osq
        generalize Go.Sort.grow (wr.drewN nq) osq = w9 at G9 ⊢
        clear S y1 y2 y3 c0 c1
        go_wp2
        go_ret
        exact ⟨by rw [hPf.out]; rfl, G1.out.trans (Gr.out.trans G9)⟩
      · rw [decide_eq_false hme] at S
        have Hme := Lib.hid hme
        clear hme
        go_wp2_with fail
        refine wp_region_quiet_grown mixed (by kernel_rfl) ?_
        repeat (go_big_quiet_step ((go_at_call 75; exact calls_grown_says (S _))))
        refine wpQuiet_nil ?_
        intro _ hw'
        obtain ⟨⟨nq, osq⟩, hw''⟩ := hw'
        subst hw''
        have G9 := (Grew.refl wr).grow nq osq
        generalize Go.Sort.grow (wr.drewN nq) osq = w9 at G9 ⊢
        clear S y1 y2 y3 c0 c1
        go_wp2
        go_roundw
        case rel =>
          refine ⟨k + 1, by have := hlen.out; omega, by go_num, fun j y hj hy => ?_, Gr.out.trans G9⟩
          by_cases hjk : j < k
          · exact Hno.out j y hjk hy
          · obtain rfl : j = k := by omega
            rw [Hx.out] at hy
            injection hy with hy
            subst hy
            exact Hme.out
        case measure => simp [intOf]; omega
    · obtain rfl : k = n := by have := hlen.out; omega
      have BB := HB1.out.below gr.below
      have c0 := BB.c0
      have c1 := BB.c1
      have S := refMay_any r (x0, o0) wr hr
      have HPf := Lib.hid (show P = decide (May r (x0, o0)) from by
        rw [HP.out, Bool.eq_iff_iff, decide_eq_true_iff, decide_eq_true_iff]
        refine ⟨fun q => q.2, fun q => ⟨fun z hz => ?_, q⟩⟩
        obtain ⟨x, hx, rfl⟩ := List.mem_map.1 hz
        obtain ⟨j, hj, e⟩ := List.getElem_of_mem hx
        exact Hno.out j x (by have := hlen.out; omega) (by rw [List.getElem?_eq_getElem hj, e]))
      unfold bval enc2 at S
      simp only at S c0 c1
      have Gr := Lib.hid gr
      clear BB gr
      go_wp2_with fail
      refine S.mono ?_
      rintro e w9 ⟨rfl, g9⟩
      clear S c0 c1
      go_wp2
      go_ret
      exact ⟨by rw [HPf.out]; rfl, G1.out.trans (Gr.out.trans g9)⟩
/-- What free answers. -/
def FreeP (w : World) (od : Int) (os : List Ob) (e : Ending) (w' : World) : Prop :=
  ∃ v G, e = .returned v ∧ OwnB 65 w' w.heap.size v G ∧ Below w.heap.size w w' ∧ G.length ≤ 256 ∧ ∀ F, FreeOf od (os.map Ob.bl) F → G = F
def FreeRel (w : World) (od : Int) (bs : List Blk) (v i : Value) (wr : World) : Prop :=
  ∃ (G : List Blk) (p : Int), i = .int .i64 p ∧ OwnB 65 wr w.heap.size v G ∧ FrInv od bs G p ∧ Below w.heap.size w wr
/-- The order is so far that no greater one may be. -/
def LowRel (W : World) (k0 : Nat) (od p : Int) (bs : List Blk) (wr : World) : Prop :=
  ∃ o : Int, 0 ≤ o ∧ o ≤ od ∧ Whole wr k0 65 (enc2 (p, o)) ∧ (∀ q, o < q → q ≤ od → ¬ ClearP od (p, q) bs) ∧ W.grownBy wr (some k0)
def ordOf (k0 : Nat) (W : World) : Nat := match W.cell? ⟨k0, 1, none⟩ with | some v => (intOf v).toNat | none => 0
theorem ordOf_whole {W : World} {k0 : Nat} {t : TypeId} {p o : Int} (h : Whole W k0 t (enc2 (p, o))) : ordOf k0 W = o.toNat := by
  unfold ordOf
  rw [h.cell 1]
  rfl
set_option maxHeartbeats 2000000 in
theorem free_any (od : Int) (A : Option Addr) (n c : Nat) (os : List Ob) (w : World) (h : RdO w A n os) (hn : n ≤ 1000) (hr : 3 ≤ od ∧ od ≤ 8) (hok : ∀ x ∈ os, BlkOk x) :
    Calls Tryz.prog 59 #[.int .i64 od, .slice A n c] w (FreeP w od os) := by
  have HR := Lib.hid h
  have Hok := Lib.hid hok
  have hz := sz_le256 (o := od) (by omega) hr.2
  have hzp := sz_pos od
  obtain ⟨N, hN⟩ : ∃ N, N = sz od := ⟨_, rfl⟩
  have HN := Lib.hid hN
  have S0 := fun W => refSize_any od W (by omega) hr.2
  rw [← hN] at S0 hz hzp
  clear h hok hN
  go_enter Tryz.func59, Tryz.ntmps59
  go_wp2_with fail
  go_loopw [5, 6] (FreeRel w od (os.map Ob.bl)) (fun _ i _ => (N - intOf i).toNat)
  case atStart => exact ⟨[], 0, rfl, OwnB.nil, FrInv.start, Below.refl _ _⟩
  case round =>
    obtain ⟨G, p, rfl, hown, hinv, hbw⟩ := hrel
    have Hown := Lib.hid hown
    have Hinv := Lib.hid hinv
    have Hbw := Lib.hid hbw
    have hp0 := hinv.lo
    have hpN := hinv.hi
    rw [← HN.out] at hpN
    clear hown hinv hbw
    go_wp2_with fail
    refine (S0 wr).mono ?_
    rintro e w1 ⟨rfl, rfl⟩
    by_cases hlt : p < N
    · obtain ⟨k0, hk0⟩ : ∃ k0, k0 = wr.heap.size := ⟨_, rfl⟩
      have HK := Lib.hid (show Whole (wr.alloc (.cells #[.int .i64 p, .int .i64 od] 65)) k0 65 (enc2 (p, od)) from by
        rw [hk0]
        exact Whole.new wr #[.int .i64 p, .int .i64 od] 65)
      have HB := Lib.hid (Hbw.out.alloc Hbw.out.size (.cells #[.int .i64 p, .int .i64 od] 65))
      have HO := Lib.hid (Hown.out.below ((Below.refl wr.heap.size wr).alloc (Nat.le_refl _) (.cells #[.int .i64 p, .int .i64 od] 65)))
      have Hk0 := Lib.hid (show w.heap.size ≤ k0 from by rw [hk0]; exact Hbw.out.size)
      have Hvk := Lib.hid (show ∀ k, u5.ownBlock = some k → k ≠ k0 from fun k hk e => by have := (Hown.out.lt k hk).2; omega)
      go_upto_region 5 with (fail)
      rw [← hk0]
      generalize wr.alloc (.cells #[.int .i64 p, .int .i64 od] 65) = W at HK HB HO ⊢
      clear hk0 Hown Hbw
      go_loopw [] (LowRel W k0 od p (os.map Ob.bl)) (fun W' => ordOf k0 W')
      case atStart => exact ⟨od, by omega, by omega, HK.out, (fun q q1 q2 => by omega), grown_refl _ _⟩
      case round =>
        obtain ⟨o, ho0, hod, hkw, hmx, gw⟩ := hrel
        have Hkw := Lib.hid hkw
        have Hmx := Lib.hid hmx
        have Gw := Lib.hid gw
        have hbw := below_grown HB.out gw HB.out.size Hk0.out
        -- INNER
        have c0 : wr.cell? ⟨k0, 0, none⟩ = some (.int .i64 p) := hkw.cell 0
        have c1 : wr.cell? ⟨k0, 1, none⟩ = some (.int .i64 o) := hkw.cell 1
        have z1 := hkw.free 1
        have HO8 := Lib.hid (HO.out.grown gw (fun k hk e => by injection e with e; exact Hvk.out k hk e))
        have HB8 := Lib.hid hbw
        have S := fun W' (b : Below wr.heap.size wr W') => clear_any od (p, o) A n c os W' (HR.out.below (hbw.trans (b.mono hbw.size))) hn ⟨by omega, hr.2⟩ ⟨ho0, by simp only; omega⟩ ⟨hp0, by simp only; omega⟩ Hok.out
        unfold bval enc2 at S
        simp only at S
        clear hkw hmx gw hbw
        by_cases hC : ClearP od (p, o) (os.map Ob.bl)
        · rw [decide_eq_true hC] at S
          have hC := Lib.hid hC
          by_cases ho : 0 < o
          · have hod0 : decide (0 < o) = true := decide_eq_true ho
            go_wp2_with fail
            refine (S wr (Below.refl _ _)).mono ?_
            rintro e w8 ⟨rfl, g8⟩
            have K8 := Hkw.out.below g8.below
            have O8 := HO8.out.below g8.below
            have B8 := HB8.out.trans (g8.below.mono HB8.out.size)
            have S8 := S w8 g8.below
            clear c0 c1 z1 S g8
            have c0 : w8.cell? ⟨k0, 0, none⟩ = some (.int .i64 p) := K8.cell 0
            have c1 : w8.cell? ⟨k0, 1, none⟩ = some (.int .i64 o) := K8.cell 1
            go_wp2_with fail
            refine S8.mono ?_
            rintro e w9 ⟨rfl, g9⟩
            clear S8 c0 c1
            have K9 := K8.below g9.below
            have O9 := O8.below g9.below
            have B9 := B8.trans (g9.below.mono B8.size)
            obtain ⟨v3, W3, hap, happ⟩ := run_appB_one (P := Tryz.prog) w.heap.size 24 24 65 Tryz.underlying24 Tryz.infoBlk2 rfl _ _ O9 (p, o) (by have := Hinv.out.len; omega) B9.size
            obtain ⟨n3, hn3⟩ : ∃ n3, (G ++ [(p, o)]).length = n3 := ⟨_, rfl⟩
            obtain ⟨A3, c3, rfl, _, _, _, _⟩ := happ.1.shape hn3
            have hvk := Hvk.out
            have K3 := K9.keep (happ.2.1.block _ K9.lt (fun e => hvk _ e.symm rfl))
            have B3 := happ.below O9 (Nat.le_refl _) B9.size B9
            have d0 : w9.cell? ⟨k0, 0, none⟩ = some (.int .i64 p) := K9.cell 0
            have d1 : w9.cell? ⟨k0, 1, none⟩ = some (.int .i64 o) := K9.cell 1
            have e1 : W3.cell? ⟨k0, 1, none⟩ = some (.int .i64 o) := K3.cell 1
            have HF := Lib.hid (show FreeRel w od (os.map Ob.bl) (.slice A3 n3 c3) (.int .i64 (p + sz o)) W3 from ⟨_, p + sz o, rfl, happ.1, Hinv.out.yes ho0 hod hC.out Hmx.out, B3⟩)
            have SZ := refSize_any o W3 ho0 (by omega)
            have hso := sz_pos o
            have hs2 : sz o ≤ 256 := sz_le256 ho0 (by omega)
            obtain ⟨so, hso2⟩ : ∃ so, so = sz o := ⟨_, rfl⟩
            rw [← hso2] at SZ HF hso hs2
            clear hso2 happ hn3 hvk K3 B3 O9 B9 g9 K9 K8 O8 B8
            go_wp2_with (at_builtin; refine wpList_append_run hap rfl _ _ rfl rfl rfl rfl ?_)
            refine SZ.mono ?_
            rintro e w10 ⟨rfl, rfl⟩
            clear SZ d0 d1 e1 hap
            go_wp2
            go_roundw
            case rel => have h1 : IntKind.i64.wrap (p + so) = p + so := by rw [IntKind.wrap_i64]; omega
                        first | exact HF.out | (rw [h1]; exact HF.out) | (rw [← IntKind.wrap_i64, h1]; exact HF.out)
            case measure => simp [intOf]; omega
          · obtain rfl : o = 0 := by omega
            go_wp2_with fail
            refine (S wr (Below.refl _ _)).mono ?_
            rintro e w9 ⟨rfl, g9⟩
            clear S c0 c1 z1 ho
            have K9 := Hkw.out.below g9.below
            have O9 := HO8.out.below g9.below
            have B9 := HB8.out.trans (g9.below.mono HB8.out.size)
            obtain ⟨v3, W3, hap, happ⟩ := run_appB_one (P := Tryz.prog) w.heap.size 24 24 65 Tryz.underlying24 Tryz.infoBlk2 rfl _ _ O9 (p, 0) (by have := Hinv.out.len; omega) B9.size
            obtain ⟨n3, hn3⟩ : ∃ n3, (G ++ [(p, 0)]).length = n3 := ⟨_, rfl⟩
            obtain ⟨A3, c3, rfl, _, _, _, _⟩ := happ.1.shape hn3
            have hvk := Hvk.out
            have K3 := K9.keep (happ.2.1.block _ K9.lt (fun e => hvk _ e.symm rfl))
            have B3 := happ.below O9 (Nat.le_refl _) B9.size B9
            have d0 : w9.cell? ⟨k0, 0, none⟩ = some (.int .i64 p) := K9.cell 0
            have d1 : w9.cell? ⟨k0, 1, none⟩ = some (.int .i64 0) := K9.cell 1
            have e1 : W3.cell? ⟨k0, 1, none⟩ = some (.int .i64 0) := K3.cell 1
            have HF := Lib.hid (show FreeRel w od (os.map Ob.bl) (.slice A3 n3 c3) (.int .i64 (p + sz 0)) W3 from ⟨_, p + sz 0, rfl, happ.1, Hinv.out.yes ho0 hod hC.out Hmx.out, B3⟩)
            have SZ := refSize_any 0 W3 ho0 (by omega)
            have hso := sz_pos 0
            have hs2 : sz 0 ≤ 256 := sz_le256 ho0 (by omega)
            obtain ⟨so, hso2⟩ : ∃ so, so = sz 0 := ⟨_, rfl⟩
            rw [← hso2] at SZ HF hso hs2
            clear hso2 happ hn3 hvk K3 B3 O9 B9 g9 K9 
            go_wp2_with (at_builtin; refine wpList_append_run hap rfl _ _ rfl rfl rfl rfl ?_)
            refine SZ.mono ?_
            rintro e w10 ⟨rfl, rfl⟩
            clear SZ d0 d1 e1 hap
            go_wp2
            go_roundw
            case rel => have h1 : IntKind.i64.wrap (p + so) = p + so := by rw [IntKind.wrap_i64]; omega
                        first | exact HF.out | (rw [h1]; exact HF.out) | (rw [← IntKind.wrap_i64, h1]; exact HF.out)
            case measure => simp [intOf]; omega
        · rw [decide_eq_false hC] at S
          have hC := Lib.hid hC
          by_cases ho : 0 < o
          · have hod0 : decide (0 < o) = true := decide_eq_true ho
            go_wp2_with fail
            refine (S wr (Below.refl _ _)).mono ?_
            rintro e w8 ⟨rfl, g8⟩
            have K8 := Hkw.out.below g8.below
            have d1 : w8.cell? ⟨k0, 1, none⟩ = some (.int .i64 o) := K8.cell 1
            have z8 := K8.free 1
            have gs := grown_set w8 k0 1 (.int .i64 (o - 1))
            have HL := Lib.hid (show LowRel W k0 od p (os.map Ob.bl) (w8.setCell ⟨k0, 1, none⟩ (.int .i64 (o - 1))) from ⟨o - 1, by omega, by omega, K8.set 1 _, fun q q1 q2 => by
              by_cases e : q = o
              · rw [e]; exact hC.out
              · exact Hmx.out q (by omega) q2, grown_trans (grown_trans Gw.out (grown_below g8.below _)) gs⟩)
            have h1 : IntKind.i64.wrap (o - 1) = o - 1 := by rw [IntKind.wrap_i64]; omega
            have hme := Lib.hid (show ordOf k0 (w8.setCell ⟨k0, 1, none⟩ (.int .i64 (o - 1))) < ordOf k0 wr from by rw [ordOf_whole Hkw.out, ordOf_whole (show Whole _ k0 _ (enc2 (p, o - 1)) from K8.set 1 (.int .i64 (o - 1)))]; omega)
            clear c0 c1 z1 S g8 K8 gs
            go_wp2
            go_roundw
            case rel => exact HL.out
            case measure => exact hme.out
          · obtain rfl : o = 0 := by omega
            go_wp2_with fail
            refine (S wr (Below.refl _ _)).mono ?_
            rintro e w9 ⟨rfl, g9⟩
            have K9 := Hkw.out.below g9.below
            have O9 := HO8.out.below g9.below
            have B9 := HB8.out.trans (g9.below.mono HB8.out.size)
            have e1 : w9.cell? ⟨k0, 1, none⟩ = some (.int .i64 0) := K9.cell 1
            have SZ := refSize_any 0 w9 (by omega) (by omega)
            rw [sz0] at SZ
            have HF := Lib.hid (show FreeRel w od (os.map Ob.bl) u5 (.int .i64 (p + 1)) w9 from ⟨G, p + 1, rfl, O9, Hinv.out.no (by rw [← HN.out]; exact hlt) (fun q q1 q2 => by
              by_cases e : q = 0
              · rw [e]; exact hC.out
              · exact Hmx.out q (by omega) q2), B9⟩)
            clear S c0 c1 z1 ho K9 O9 B9 g9
            go_wp2_with fail
            refine SZ.mono ?_
            rintro e w10 ⟨rfl, rfl⟩
            clear SZ e1
            go_wp2
            go_roundw
            case rel => exact HF.out
            case measure => simp [intOf]; omega
    · obtain rfl : p = N := by omega
      have HG := Lib.hid (show FreeP w od os (.returned u5) wr from ⟨u5, G, rfl, Hown.out, Hbw.out, by have := Hinv.out.len; omega, fun F hF => by
        have h1 := Hinv.out
        rw [HN.out] at h1
        exact h1.done hF⟩)
      go_wp2
      go_ret
      exact HG.out
end Go.Proofs.YtlnmmklpccppmaaGreatDoor
