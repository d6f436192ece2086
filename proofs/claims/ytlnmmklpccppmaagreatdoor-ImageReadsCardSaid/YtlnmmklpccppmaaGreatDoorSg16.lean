/-
  Whether a heap is right, by the document: contract.
  Heaps of objects in memory of the call's own: every row in a block of its own. Plain lemmas over any program.
-/
import Derived.Test.YtlnmmklpccppmaaGreatDoorSg15
namespace Go.Proofs.YtlnmmklpccppmaaGreatDoor
open Go.RowKit
/-- What the document asks of the object in place j. -/
def ObPre (H : Hp) (j : Nat) (x : Ob) : Prop := ObOk H x ∧ ∀ y, 0 < j → H.obs[j - 1]? = some y → y.hd < x.hd
theorem RightH.pre {H : Hp} (k : RightH H) {j : Nat} {x : Ob} (hx : H.obs[j]? = some x) : ObPre H j x := by
  refine ⟨k.ok x (List.mem_of_getElem? hx), fun y hj hy => ?_⟩
  obtain ⟨h1, h2⟩ := List.getElem?_eq_some_iff.1 hx
  obtain ⟨h3, h4⟩ := List.getElem?_eq_some_iff.1 hy
  have := List.pairwise_iff_getElem.1 k.rise (j - 1) j h3 h1 (by omega)
  rw [h2, h4] at this
  exact this
theorem pre_rise {H : Hp} (h : ∀ j x, H.obs[j]? = some x → ObPre H j x) : H.obs.Pairwise (fun a b => a.hd < b.hd) := by
  have step : ∀ j (hj : j + 1 < H.obs.length), (H.obs[j]'(by omega)).hd < H.obs[j + 1].hd := fun j hj =>
    (h (j + 1) H.obs[j + 1] (List.getElem?_eq_getElem hj)).2 _ (by omega) (by simp)
  rw [List.pairwise_iff_getElem]
  intro i j hi hj hij
  obtain ⟨d, rfl⟩ : ∃ d, j = i + 1 + d := ⟨j - i - 1, by omega⟩
  clear hij
  induction d with
  | zero => exact step i hj
  | succ d ih =>
    have h1 := ih (by omega)
    have h2 := step (i + 1 + d) hj
    exact Int.lt_trans h1 h2
def Rt1Rel (W : World) (H : Hp) (i : Value) (wr : World) : Prop := ∃ k : Nat, k ≤ H.obs.length ∧ i = .int .i64 (k : Int) ∧ (∀ j x, j < k → H.obs[j]? = some x → ObPre H j x) ∧ Grew W wr
def Rt2Rel (W : World) (H : Hp) (l : List Int) (i : Value) (wr : World) : Prop := ∃ k : Nat, k ≤ l.length ∧ i = .int .i64 (k : Int) ∧ (∀ j t, j < k → l[j]? = some t → Leads H t) ∧ Grew W wr
def Rt3Rel (W : World) (l : List Blk) (i : Value) (wr : World) : Prop := ∃ k : Nat, k ≤ l.length ∧ i = .int .i64 (k : Int) ∧ (∀ a b x y, a < b → b < k → l[a]? = some x → l[b]? = some y → ¬ Meets y x) ∧ Grew W wr
def Rt4Rel (W : World) (l : List Blk) (k : Nat) (i : Value) (wr : World) : Prop := ∃ q : Nat, q ≤ k ∧ i = .int .i64 (q : Int) ∧ (∀ a x y, a < q → l[a]? = some x → l[k]? = some y → ¬ Meets y x) ∧ Grew W wr
def Rt5Rel (W : World) (H : Hp) (i : Value) (wr : World) : Prop := ∃ k : Nat, k ≤ 4 ∧ i = .int .i64 (k : Int) ∧ (∀ j, j < k → Leads H (tget H j)) ∧ Grew W wr
/-- The part of it that the first test asks. -/
def Ok7 (H : Hp) (k : Nat) (x : Ob) : Prop := 1 ≤ x.hd ∧ x.hd < H.nx ∧ ∀ y, 0 < k → H.obs[k - 1]? = some y → y.hd < x.hd
def Ok9 (H : Hp) (x : Ob) : Prop := needI x.ws.length x.ls.length = x.bl.2 ∧ May H.od x.bl
open Classical in
noncomputable def bad (p : Prop) : Bool := !decide p
theorem bad_yes {p : Prop} (h : p) : bad p = false := by unfold bad; simp [h]
theorem bad_no {p : Prop} (h : ¬ p) : bad p = true := by unfold bad; simp [h]
theorem needSays (a b : Int) (W : World) : Calls Tryz.prog 71 #[.int .i64 a, .int .i64 b] W (Says W (.int .i64 (needI a b))) :=
  (refNeed_any a b W).mono fun _ _ h => ⟨h.1, h.2 ▸ Grew.refl _⟩
theorem notright (w w' : World) (H : Hp) (h : ¬ RightH H) (b : Below w.heap.size w w') : Tells w (.bool (decide (RightH H))) (.returned (.bool false)) w' := ⟨by rw [decide_eq_false h], b⟩
set_option maxRecDepth 100000 in
set_option maxHeartbeats 3000000 in
theorem refRightH_any (s : HSl) (H : Hp) (w : World) (h : RdH w s H) (hS : SmallH H) :
    Calls Tryz.prog 37 #[hval H s] w (Tells w (.bool (decide (RightH H)))) := by
  have g1 := (Grew.refl w).alloc (.cells (hcs H s).toArray 26)
  have K1 := Lib.hid (Whole.new w (hcs H s).toArray 26)
  have HO := Lib.hid (h.obs.below g1.below)
  have hlen := Lib.hid h.obs.len
  have hfl := h.fr.len
  have hS2 := hS.2.1
  have hS1 := hS.1
  have SR := fun W (b : Below w.heap.size w W) => refRight_any H.od s.F s.m s.d H.fr W (h.fr.below b) (by omega)
  have SL := Lib.hid (fun (t : Int) W (b : Below w.heap.size w W) => refLeads_any s H t W (h.below b) (by rw [← hlen.out]; omega))
  have SB := Lib.hid (fun W (b : Below w.heap.size w W) => refBlocks_any s H W (h.below b) hS)
  have HS := Lib.hid hS
  have H4 := Lib.hid h.tp
  have hnx := h.nx
  have mixed := mixedP
  have hm := noGuard
  obtain ⟨A, n, c, F, m, d⟩ := s
  clear h hfl hS2 hS hS1
  simp only [hval, hcs] at *
  have c0 := K1.out.cell 0
  have c1 := K1.out.cell 1
  have c2 := K1.out.cell 2
  have c7 := K1.out.cell 7
  simp only [List.getElem?_cons_succ, List.getElem?_cons_zero] at c0 c1 c2 c7
  by_cases hF : Right H.od H.fr
  case neg =>
    rw [decide_eq_false hF] at SR
    have hno := Lib.hid (show ¬ RightH H from fun q => hF q.fr)
    clear hF
    go_enter Tryz.func37, Tryz.ntmps37
    go_wp2_with (go_at_call 70; refine (SR _ g1.below).mono ?_; rintro e w2 ⟨rfl, g2⟩)
    go_ret
    exact notright w _ H hno.out (g1.trans g2).below
  rw [decide_eq_true hF] at SR
  have HF := Lib.hid hF
  clear hF
  by_cases hx1 : H.nx < 1
  case pos =>
    have hno := Lib.hid (show ¬ RightH H from fun q => absurd q.nx.1 (by omega))
    go_enter Tryz.func37, Tryz.ntmps37
    go_wp2_with (go_at_call 70; refine (SR _ g1.below).mono ?_; rintro e w2 ⟨rfl, g2⟩; have k2 := (K1.out.below g2.below).cell 2; simp only [List.getElem?_cons_succ, List.getElem?_cons_zero] at k2)
    go_ret
    exact notright w _ H hno.out (g1.trans g2).below
  have e1 : decide (H.nx < 1) = false := decide_eq_false hx1
  by_cases hx2 : 1000001 < H.nx
  case pos =>
    have hno := Lib.hid (show ¬ RightH H from fun q => absurd q.nx.2 (by omega))
    go_enter Tryz.func37, Tryz.ntmps37
    go_wp2_with (go_at_call 70; refine (SR _ g1.below).mono ?_; rintro e w2 ⟨rfl, g2⟩; have k2 := (K1.out.below g2.below).cell 2; simp only [List.getElem?_cons_succ, List.getElem?_cons_zero] at k2)
    go_ret
    exact notright w _ H hno.out (g1.trans g2).below
  have e2 : decide (1000000 < H.nx - 1) = false := decide_eq_false (by omega)
  by_cases hx3 : 256 < n
  case pos =>
    have e3 : decide (256 < (n : Int)) = true := by simp; omega
    have hno := Lib.hid (show ¬ RightH H from fun q => absurd q.len (by rw [hlen.out]; omega))
    go_enter Tryz.func37, Tryz.ntmps37
    go_wp2_with (go_at_call 70; refine (SR _ g1.below).mono ?_; rintro e w2 ⟨rfl, g2⟩; have k2 := (K1.out.below g2.below).cell 2; have k1 := (K1.out.below g2.below).cell 1; simp only [List.getElem?_cons_succ, List.getElem?_cons_zero] at k2 k1)
    go_ret
    exact notright w _ H hno.out (g1.trans g2).below
  have e3 : decide (256 < (n : Int)) = false := by simp; omega
  go_enter Tryz.func37, Tryz.ntmps37
  go_upto_region 4 with (go_at_call 70; refine (SR _ g1.below).mono ?_; rintro e w2 ⟨rfl, g2⟩; have k2 := (K1.out.below g2.below).cell 2; have k1 := (K1.out.below g2.below).cell 1; simp only [List.getElem?_cons_succ, List.getElem?_cons_zero] at k2 k1)
  have K2 := Lib.hid (K1.out.below g2.below)
  have HO2 := Lib.hid (HO.out.below g2.below)
  have G2 := Lib.hid (g1.trans g2)
  clear SR c0 c1 c2 c7 k1 k2 e1 e2 e3 K1 HO g1 g2
  go_loopw [3] (Rt1Rel w2 H) (fun i _ => n - (intOf i).toNat)
  case atStart => exact ⟨0, Nat.zero_le _, rfl, (fun j x hj => absurd hj (Nat.not_lt_zero _)), Grew.refl _⟩
  case round =>
    obtain ⟨k, hk, rfl, hpre, gr⟩ := hrel
    have Hpre := Lib.hid hpre
    have hkn : k ≤ n := by have := hlen.out; omega
    clear hpre hk
    have KW := K2.out.below gr.below
    have c1 := KW.cell 1
    simp only [List.getElem?_cons_succ, List.getElem?_cons_zero] at c1
    by_cases hlt : k < n
    · obtain ⟨b', off, x, rfl, hbl, hx, A1, n1, f1, B1, m1, d1, h0, h1, h2, h3, h4, r5, r6⟩ := HO2.out.get hlt
      have z0 := (gr.below.cell (p := ⟨b', off + k * 5, none⟩) hbl).trans h0
      have z1 := (gr.below.cell (p := ⟨b', off + k * 5 + 1, none⟩) hbl).trans h1
      have z2 := (gr.below.cell (p := ⟨b', off + k * 5 + 2, none⟩) hbl).trans h2
      have z3 := (gr.below.cell (p := ⟨b', off + k * 5 + 3, none⟩) hbl).trans h3
      have z4 := (gr.below.cell (p := ⟨b', off + k * 5 + 4, none⟩) hbl).trans h4
      have hki : (k : Int) < (n : Int) := by omega
      have R5 := Lib.hid r5
      have R6 := Lib.hid r6
      have Hx := Lib.hid hx
      have Hbl := Lib.hid hbl
      have Gr := Lib.hid gr
      have Hxe := Lib.hid (show x = x from rfl)
      clear h0 h1 h2 h3 h4 r5 r6 hx hbl
      go_upto_region 7 with (fail)
      have g3 := (Grew.refl wr).alloc (.cells #[.int .i64 x.hd, .int .i64 x.bl.1, .int .i64 x.bl.2, .slice A1 n1 f1, .slice B1 m1 d1] 68)
      have Kx := Whole.new wr #[.int .i64 x.hd, .int .i64 x.bl.1, .int .i64 x.bl.2, .slice A1 n1 f1, .slice B1 m1 d1] 68
      obtain ⟨kx, hkx⟩ : ∃ kx, kx = wr.heap.size := ⟨_, rfl⟩
      rw [← hkx] at Kx ⊢
      clear hkx z0 z1 z2 z3 z4
      generalize wr.alloc (.cells _ 68) = w3 at g3 Kx ⊢
      have KH := KW.below g3.below
      have G3 := Lib.hid (gr.trans g3)
      have KX := Lib.hid Kx
      have KHH := Lib.hid KH
      clear KW c1 gr g3
      go_cut [70] (fun v wc => v = .bool (bad (Ok7 H k x)) ∧ Grew w3 wc)
      case first =>
        have y0 := cell_grown (a := ⟨kx, 0, none⟩) Kx.lt (Kx.cell 0)
        have y1 := cell_grown (a := ⟨w.heap.size, 1, none⟩) KH.lt (KH.cell 1)
        have y2 := cell_grown (a := ⟨w.heap.size, 2, none⟩) KH.lt (KH.cell 2)
        have Fin := Lib.hid (fun (nq : Nat) (osq : Array Obj) => (Grew.refl w3).grow nq osq)
        clear Kx KH
        by_cases a1 : x.hd < 1
        case pos =>
          have d1 : decide (x.hd < 1) = true := decide_eq_true a1
          have Hb := Lib.hid (bad_no (p := Ok7 H k x) (fun q => absurd q.1 (by omega)))
          refine wp_region_quiet_grown mixed (by kernel_rfl) ?_
          repeat (go_big_quiet_step (fail))
          refine wpQuiet_nil ?_
          rintro _ ⟨⟨nq, osq⟩, rfl⟩
          go_wp2_with fail
          go_meet
          exact ⟨by rw [Hb.out], Fin.out _ _⟩
        have d1 : decide (x.hd < 1) = false := decide_eq_false a1
        by_cases a2 : H.nx ≤ x.hd
        case pos =>
          have d2 : decide (H.nx ≤ x.hd) = true := decide_eq_true a2
          have Hb := Lib.hid (bad_no (p := Ok7 H k x) (fun q => absurd q.2.1 (by omega)))
          refine wp_region_quiet_grown mixed (by kernel_rfl) ?_
          repeat (go_big_quiet_step (fail))
          refine wpQuiet_nil ?_
          rintro _ ⟨⟨nq, osq⟩, rfl⟩
          go_wp2_with fail
          go_meet
          exact ⟨by rw [Hb.out], Fin.out _ _⟩
        have d2 : decide (H.nx ≤ x.hd) = false := decide_eq_false a2
        by_cases a3 : k = 0
        case pos =>
          have d3 : decide (0 < (k : Int)) = false := by simp; omega
          have d4 : decide (0 < k) = false := by simp; omega
          have Hb := Lib.hid (bad_yes (p := Ok7 H k x) ⟨by omega, by omega, fun y hy => absurd hy (by omega)⟩)
          clear a3
          refine wp_region_quiet_grown mixed (by kernel_rfl) ?_
          repeat (go_big_quiet_step (fail))
          refine wpQuiet_nil ?_
          rintro _ ⟨⟨nq, osq⟩, rfl⟩
          go_wp2_with fail
          go_meet
          exact ⟨by rw [Hb.out], Fin.out _ _⟩
        have d3 : decide (0 < (k : Int)) = true := by simp; omega
        have d4 : decide (0 < k) = true := by simp; omega
        obtain ⟨q, hq⟩ : ∃ q, k = q + 1 := ⟨k - 1, by omega⟩
        have hqn : q < n := by omega
        obtain ⟨b2, off2, y, hA, hbl2, hy, A2, n2, f2, B2, m2, d2', j0, _, _, _, _, _, _⟩ := HO2.out.get hqn
        injection hA with hA
        injection hA with hA1 hA2
        subst hA1
        subst hA2
        have hq0 : IntKind.i64.wrap ((k : Int) - 1) = (q : Int) := by rw [IntKind.wrap_i64]; omega
        have hqi : (q : Int) < (n : Int) := by omega
        have hlt3 : b' < w3.heap.size := Nat.lt_of_lt_of_le hbl2 G3.out.below.size
        have y3 := cell_grown (a := ⟨b', off + q * 5, none⟩) hlt3 ((G3.out.below.cell (p := ⟨b', off + q * 5, none⟩) hbl2).trans j0)
        have hprev : ∀ z, 0 < k → H.obs[k - 1]? = some z → z = y := fun z _ hz => by
          rw [show k - 1 = q by omega, hy] at hz
          exact (Option.some.inj hz).symm
        have Hprev := Lib.hid hprev
        have Hyq := Lib.hid (show H.obs[k - 1]? = some y by rw [show k - 1 = q by omega]; exact hy)
        have Hk0 := Lib.hid (show 0 < k by omega)
        clear hq j0 hy hbl2 hlt3 hprev a3
        by_cases a4 : x.hd ≤ y.hd
        · have d5 : decide (x.hd ≤ y.hd) = true := decide_eq_true a4
          have Hb := Lib.hid (bad_no (p := Ok7 H k x) (fun q => by have := q.2.2 y Hk0.out Hyq.out; omega))
          refine wp_region_quiet_grown mixed (by kernel_rfl) ?_
          repeat (go_big_quiet_step (fail))
          refine wpQuiet_nil ?_
          rintro _ ⟨⟨nq, osq⟩, rfl⟩
          go_wp2_with fail
          go_meet
          exact ⟨by rw [Hb.out], Fin.out _ _⟩
        · have d5 : decide (x.hd ≤ y.hd) = false := decide_eq_false a4
          have Hb := Lib.hid (bad_yes (p := Ok7 H k x) ⟨by omega, by omega, fun z hz hzz => by rw [Hprev.out z hz hzz]; omega⟩)
          refine wp_region_quiet_grown mixed (by kernel_rfl) ?_
          repeat (go_big_quiet_step (fail))
          refine wpQuiet_nil ?_
          rintro _ ⟨⟨nq, osq⟩, rfl⟩
          go_wp2_with fail
          go_meet
          exact ⟨by rw [Hb.out], Fin.out _ _⟩
      case rest =>
        obtain ⟨hv, g4⟩ := hcut
        have G4 := Lib.hid (G3.out.trans g4)
        have KX4 := Lib.hid (KX.out.below g4.below)
        have KH4 := Lib.hid (KHH.out.below g4.below)
        clear KX KHH G3 g4 Kx KH
        by_cases q7 : Ok7 H k x
        case neg =>
          rw [bad_no q7] at hv
          subst hv
          have hno := Lib.hid (show ¬ RightH H from fun r => q7 (by obtain ⟨⟨p1, p2, _⟩, p3⟩ := r.pre Hx.out; exact ⟨p1, p2, p3⟩))
          clear q7
          go_wp2
          go_ret
          exact notright w _ H hno.out (G2.out.trans G4.out).below
        rw [bad_yes q7] at hv
        subst hv
        have Q7 := Lib.hid q7
        clear q7
        go_upto_region 9 with (fail)
        go_cut [89] (fun v wd => v = .bool (bad (Ok9 H x)) ∧ Grew wc wd)
        case first =>
          have y1 := cell_grown (a := ⟨kx, 1, none⟩) KX4.out.lt (KX4.out.cell 1)
          have y2 := cell_grown (a := ⟨kx, 2, none⟩) KX4.out.lt (KX4.out.cell 2)
          have y3 := cell_grown (a := ⟨kx, 3, none⟩) KX4.out.lt (KX4.out.cell 3)
          have y4 := cell_grown (a := ⟨kx, 4, none⟩) KX4.out.lt (KX4.out.cell 4)
          have y5 := cell_grown (a := ⟨w.heap.size, 0, none⟩) KH4.out.lt (KH4.out.cell 0)
          have Fin := Lib.hid (fun (nq : Nat) (osq : Array Obj) => (Grew.refl wc).grow nq osq)
          have SN := fun W => needSays (n1 : Int) (m1 : Int) W
          have hr8 := HF.out.1
          have SM := fun W => refMay_any H.od x.bl W (by omega)
          have hw5 := Lib.hid (show (x.ws.length : Int) = n1 by rw [R5.out.len])
          have hw6 := Lib.hid (show (x.ls.length : Int) = m1 by rw [R6.out.len])
          unfold bval enc2 at SM
          clear hr8
          obtain ⟨nn, hnn⟩ : ∃ nn, nn = needI (n1 : Int) (m1 : Int) := ⟨_, rfl⟩
          rw [← hnn] at SN
          have Hnn := Lib.hid (show needI x.ws.length x.ls.length = nn by rw [hw5.out, hw6.out, hnn])
          clear hnn
          by_cases a1 : nn = x.bl.2
          case neg =>
            have d1 : (nn != x.bl.2) = true := by simp [a1]
            have Hb := Lib.hid (bad_no (p := Ok9 H x) (fun q => a1 (by rw [← Hnn.out]; exact q.1)))
            refine wp_region_quiet_grown mixed (by kernel_rfl) ?_
            repeat (go_big_quiet_step ((go_at_call 71; exact calls_grown_says (SN _))))
            refine wpQuiet_nil ?_
            rintro _ ⟨⟨nq, osq⟩, rfl⟩
            go_wp2_with fail
            go_meet
            exact ⟨by rw [Hb.out], Fin.out _ _⟩
          have d1 : (nn != x.bl.2) = false := by simp [a1]
          have Ha1 := Lib.hid a1
          clear a1
          by_cases a2 : May H.od x.bl
          · rw [decide_eq_true a2] at SM
            have Hb := Lib.hid (bad_yes (p := Ok9 H x) ⟨by rw [Hnn.out]; exact Ha1.out, a2⟩)
            refine wp_region_quiet_grown mixed (by kernel_rfl) ?_
            repeat (go_big_quiet_step (first | (go_at_call 71; exact calls_grown_says (SN _)) | (go_at_call 72; exact calls_grown_says (SM _))))
            refine wpQuiet_nil ?_
            rintro _ ⟨⟨nq, osq⟩, rfl⟩
            go_wp2_with fail
            go_meet
            exact ⟨by rw [Hb.out], Fin.out _ _⟩
          · rw [decide_eq_false a2] at SM
            have Hb := Lib.hid (bad_no (p := Ok9 H x) (fun q => a2 q.2))
            refine wp_region_quiet_grown mixed (by kernel_rfl) ?_
            repeat (go_big_quiet_step (first | (go_at_call 71; exact calls_grown_says (SN _)) | (go_at_call 72; exact calls_grown_says (SM _))))
            refine wpQuiet_nil ?_
            rintro _ ⟨⟨nq, osq⟩, rfl⟩
            go_wp2_with fail
            go_meet
            exact ⟨by rw [Hb.out], Fin.out _ _⟩
        case rest =>
          obtain ⟨hv, g5⟩ := hcut
          have G5 := Lib.hid (G4.out.trans g5)
          have KX5 := Lib.hid (KX4.out.below g5.below)
          have KH5 := Lib.hid (KH4.out.below g5.below)
          clear KX4 KH4 G4 g5
          by_cases q9 : Ok9 H x
          case neg =>
            rw [bad_no q9] at hv
            subst hv
            have hno := Lib.hid (show ¬ RightH H from fun r => q9 (by obtain ⟨⟨_, _, p1, p2, _⟩, _⟩ := r.pre Hx.out; exact ⟨p1, p2⟩))
            clear q9
            go_wp2
            go_ret
            exact notright w _ H hno.out (G2.out.trans G5.out).below
          rw [bad_yes q9] at hv
          subst hv
          have Q9 := Lib.hid q9
          clear q9
          go_upto_region 12 with (fail)
          have Hlk := Lib.hid R6.out.len
          have RL := Lib.hid (R6.out.below G5.out.below)
          have hbd := (HS.out.2.2 x (List.mem_of_getElem? Hx.out)).2
          have hm1 : m1 ≤ 5000 := by have := Hlk.out; omega
          clear hbd
          go_loopw [5] (Rt2Rel wc H x.ls) (fun i _ => m1 - (intOf i).toNat)
          case atStart => exact ⟨0, Nat.zero_le _, rfl, (fun j t hj => absurd hj (Nat.not_lt_zero _)), Grew.refl _⟩
          case round =>
            obtain ⟨q, hq, rfl, hle, gq⟩ := hrel
            have Hle := Lib.hid hle
            have hqm : q ≤ m1 := by have := Hlk.out; omega
            clear hle hq
            have kx4 := (KX5.out.below gq.below).cell 4
            simp only [List.getElem?_cons_succ, List.getElem?_cons_zero] at kx4
            by_cases hlq : q < m1
            · obtain ⟨b3, off3, t, rfl, hb3, htl, hc3⟩ := RL.out.cell hlq
              have KH6 := KH5.out.below gq.below
              have y4 := cell_grown (a := ⟨kx, 4, none⟩) (KX5.out.below gq.below).lt ((KX5.out.below gq.below).cell 4)
              have yl := cell_grown (a := ⟨b3, off3 + q, none⟩) (Nat.lt_of_lt_of_le hb3 gq.below.size) ((gq.below.cell (p := ⟨b3, off3 + q, none⟩) hb3).trans hc3)
              have w0 := cell_grown (a := ⟨w.heap.size, 0, none⟩) KH6.lt (KH6.cell 0)
              have w1 := cell_grown (a := ⟨w.heap.size, 1, none⟩) KH6.lt (KH6.cell 1)
              have w2 := cell_grown (a := ⟨w.heap.size, 2, none⟩) KH6.lt (KH6.cell 2)
              have w3 := cell_grown (a := ⟨w.heap.size, 3, none⟩) KH6.lt (KH6.cell 3)
              have w4 := cell_grown (a := ⟨w.heap.size, 4, none⟩) KH6.lt (KH6.cell 4)
              have w5 := cell_grown (a := ⟨w.heap.size, 5, none⟩) KH6.lt (KH6.cell 5)
              have w6 := cell_grown (a := ⟨w.heap.size, 6, none⟩) KH6.lt (KH6.cell 6)
              have w7 := cell_grown (a := ⟨w.heap.size, 7, none⟩) KH6.lt (KH6.cell 7)
              have S := fun W (G : Grew wr W) => SL.out t W ((G2.out.trans (G5.out.trans (gq.trans G))).below)
              have hqi : (q : Int) < (m1 : Int) := by omega
              have Htl := Lib.hid htl
              have Gq := Lib.hid gq
              clear KH6 hb3 htl hc3 gq
              by_cases hl : Leads H t
              · rw [decide_eq_true hl] at S
                have Hl := Lib.hid hl
                clear hl
                go_wp2_with fail
                refine wp_region_quiet_grown mixed (by kernel_rfl) ?_
                repeat (go_big_quiet_step ((go_at_call 73; exact calls_grown_says (S _ ⟨_, _, rfl⟩))))
                refine wpQuiet_nil ?_
                intro _ hw'
                obtain ⟨⟨nq, osq⟩, hw''⟩ := hw'
                subst hw''
                have G6 := (Grew.refl wr).grow nq osq
                generalize Go.Sort.grow (wr.drewN nq) osq = w8 at G6 ⊢
                clear S y4 yl w0 w1 w2 w3 w4 w5 w6 w7 kx4
                go_wp2
                go_roundw
                case rel => exact ⟨q + 1, by have := Hlk.out; omega, by go_num, fun j u hj hu => by
                  rcases Nat.lt_or_ge j q with e | e
                  · exact Hle.out j u e hu
                  · obtain rfl : j = q := by omega
                    rw [Htl.out] at hu
                    injection hu with hu
                    rw [← hu]; exact Hl.out, Gq.out.trans G6⟩
                case measure => simp [intOf]; omega
              · rw [decide_eq_false hl] at S
                have hno := Lib.hid (show ¬ RightH H from fun r => hl (by obtain ⟨⟨_, _, _, _, p1⟩, _⟩ := r.pre Hx.out; exact p1 t (List.mem_of_getElem? Htl.out)))
                clear hl
                go_wp2_with fail
                refine wp_region_quiet_grown mixed (by kernel_rfl) ?_
                repeat (go_big_quiet_step ((go_at_call 73; exact calls_grown_says (S _ ⟨_, _, rfl⟩))))
                refine wpQuiet_nil ?_
                intro _ hw'
                obtain ⟨⟨nq, osq⟩, hw''⟩ := hw'
                subst hw''
                have G6 := (Grew.refl wr).grow nq osq
                generalize Go.Sort.grow (wr.drewN nq) osq = w8 at G6 ⊢
                clear S y4 yl w0 w1 w2 w3 w4 w5 w6 w7 kx4
                go_wp2
                go_ret
                exact notright w _ H hno.out (G2.out.trans (G5.out.trans (Gq.out.trans G6))).below
            · obtain rfl : q = m1 := by omega
              have Gq := Lib.hid gq
              clear gq
              go_wp2
              go_roundw
              case rel => exact ⟨k + 1, by have := hlen.out; omega, by go_num, fun j y hj hy => by
                rcases Nat.lt_or_ge j k with e | e
                · exact Hpre.out j y e hy
                · obtain rfl : j = k := by omega
                  rw [Hx.out] at hy
                  injection hy with hy
                  subst hy
                  refine ⟨⟨Q7.out.1, Q7.out.2.1, Q9.out.1, Q9.out.2, fun u hu => ?_⟩, Q7.out.2.2⟩
                  obtain ⟨a, ha, e2⟩ := List.getElem_of_mem hu
                  exact Hle.out a u (by have := Hlk.out; omega) (by rw [List.getElem?_eq_getElem ha, e2]), G5.out.trans Gq.out⟩
              case measure => simp [intOf]; omega
    · obtain rfl : k = n := by omega
      have hall : ∀ j x, H.obs[j]? = some x → ObPre H j x := fun j x hj => Hpre.out j x (by have h1 := (List.getElem?_eq_some_iff.1 hj).1; have := hlen.out; omega) hj
      have Hok := Lib.hid (show ∀ x ∈ H.obs, ObOk H x from fun x hx => by
        obtain ⟨j, hj, e⟩ := List.getElem_of_mem hx
        exact (hall j x (by rw [List.getElem?_eq_getElem hj, e])).1)
      have Hrise := Lib.hid (pre_rise hall)
      clear hall
      have c0 := KW.cell 0
      have c2 := KW.cell 2
      have c3 := KW.cell 3
      have c4 := KW.cell 4
      have c5 := KW.cell 5
      have c6 := KW.cell 6
      have c7 := KW.cell 7
      simp only [List.getElem?_cons_succ, List.getElem?_cons_zero] at c0 c2 c3 c4 c5 c6 c7
      have S := SB.out wr (G2.out.trans gr).below
      have Gr := Lib.hid gr
      have KWh := Lib.hid KW
      clear gr KW
      obtain ⟨N, hN⟩ : ∃ N, N = (blks H).length := ⟨_, rfl⟩
      have HN := Lib.hid hN
      clear hN
      go_upto_region 18 with (go_at_call 74; refine S.mono ?_; rintro e w4 ⟨v4, rfl, o4, b4⟩; obtain ⟨A4, c4', rfl, r4⟩ := o4.rdn (n := N) HN.out.symm)
      have B4 := Lib.hid ((G2.out.trans Gr.out).below.trans (b4.mono (G2.out.trans Gr.out).below.size))
      have K4 := Lib.hid (KWh.out.below b4)
      have R4 := Lib.hid r4
      have hmay : ∀ b ∈ blks H, May H.od b := fun b hb => by
        rcases List.mem_append.1 hb with e | e
        · exact HF.out.may e
        · obtain ⟨x, hx, rfl⟩ := List.mem_map.1 e
          exact (Hok.out x hx).2.2.2.1
      have Hmay := Lib.hid hmay
      have hN2 : N ≤ 1000 := by
        have h1 : H.fr.length ≤ 256 := HF.out.len256
        have h2 := hlen.out
        rw [HN.out]
        unfold blks
        rw [List.length_append, List.length_map]
        omega
      clear S c0 c1 c2 c3 c4 c5 c6 c7 o4 r4 b4 hmay
      go_loopw [7] (Rt3Rel w4 (blks H)) (fun i _ => N - (intOf i).toNat)
      case atStart => exact ⟨0, Nat.zero_le _, rfl, (fun a b x y _ hb => absurd hb (Nat.not_lt_zero _)), Grew.refl _⟩
      case round =>
        obtain ⟨k3, hk3, rfl, hap, g7⟩ := hrel
        have Hap := Lib.hid hap
        have hkN : k3 ≤ N := by have := HN.out; omega
        clear hap hk3
        by_cases hl3 : k3 < N
        · obtain ⟨b3, off3, y, rfl, hb3, hy, hc0, hc1⟩ := R4.out.cell hl3
          have hk3i : (k3 : Int) < (N : Int) := by omega
          have Hy := Lib.hid hy
          have C0 := Lib.hid hc0
          have C1 := Lib.hid hc1
          have Hb3 := Lib.hid hb3
          have G7 := Lib.hid g7
          clear hy hc0 hc1 hb3 g7
          go_upto_region 21 with (fail)
          go_loopw [8] (Rt4Rel w4 (blks H) k3) (fun i _ => k3 - (intOf i).toNat)
          case atStart => exact ⟨0, Nat.zero_le _, rfl, (fun a x y ha => absurd ha (Nat.not_lt_zero _)), G7.out⟩
          case round =>
            obtain ⟨q3, hq3, rfl, hap4, g8⟩ := hrel
            have Hap4 := Lib.hid hap4
            clear hap4
            by_cases hl4 : q3 < k3
            · obtain ⟨b5, off5, x, hA, hb5, hx5, hd0, hd1⟩ := R4.out.cell (show q3 < N by omega)
              injection hA with hA
              injection hA with hA1 hA2
              subst hA1
              subst hA2
              have hlt8 := Nat.lt_of_lt_of_le hb5 g8.below.size
              have y0 := cell_grown (a := ⟨b3, off3 + k3 * 2, none⟩) hlt8 ((g8.below.cell (p := ⟨b3, off3 + k3 * 2, none⟩) hb5).trans C0.out)
              have y1 := cell_grown (a := ⟨b3, off3 + k3 * 2 + 1, none⟩) hlt8 ((g8.below.cell (p := ⟨b3, off3 + k3 * 2 + 1, none⟩) hb5).trans C1.out)
              have x0 := cell_grown (a := ⟨b3, off3 + q3 * 2, none⟩) hlt8 ((g8.below.cell (p := ⟨b3, off3 + q3 * 2, none⟩) hb5).trans hd0)
              have x1 := cell_grown (a := ⟨b3, off3 + q3 * 2 + 1, none⟩) hlt8 ((g8.below.cell (p := ⟨b3, off3 + q3 * 2 + 1, none⟩) hb5).trans hd1)
              have hMy := may_box HF.out.1.2 (Hmay.out y (List.mem_of_getElem? Hy.out))
              have hMx := may_box HF.out.1.2 (Hmay.out x (List.mem_of_getElem? hx5))
              have S := fun W => refMeet_any y x W hMy.1 hMx.1 hMy.2 hMx.2
              have hqi : (q3 : Int) < (k3 : Int) := by omega
              have hqN : (q3 : Int) < (N : Int) := by omega
              have Hx5 := Lib.hid hx5
              have G8 := Lib.hid g8
              obtain ⟨ya, yo⟩ := y
              obtain ⟨xa, xo⟩ := x
              unfold bval enc2 at S
              simp only at S y0 y1 x0 x1
              clear hd0 hd1 hx5 hb5 hlt8 g8 hMy hMx
              by_cases hme : Meets (ya, yo) (xa, xo)
              · rw [decide_eq_true hme] at S
                have hno := Lib.hid (show ¬ RightH H from fun r => by
                  obtain ⟨h1, h2⟩ := List.getElem?_eq_some_iff.1 Hx5.out
                  obtain ⟨h3, h4⟩ := List.getElem?_eq_some_iff.1 Hy.out
                  have := List.pairwise_iff_getElem.1 r.apart q3 k3 h1 h3 hl4
                  rw [h2, h4] at this
                  exact this hme)
                clear hme
                go_wp2_with fail
                refine wp_region_quiet_grown mixed (by kernel_rfl) ?_
                repeat (go_big_quiet_step ((go_at_call 75; exact calls_grown_says (S _))))
                refine wpQuiet_nil ?_
                intro _ hw'
                obtain ⟨⟨nq, osq⟩, hw''⟩ := hw'
                subst hw''
                have G9 := (Grew.refl wr).grow nq osq
                generalize Go.Sort.grow (wr.drewN nq) osq = w9 at G9 ⊢
                clear S y0 y1 x0 x1
                go_wp2
                go_ret
                exact notright w _ H hno.out (B4.out.trans ((G8.out.trans G9).below.mono B4.out.size))
              · rw [decide_eq_false hme] at S
                have Hme := Lib.hid hme
                clear hme
                go_wp2_with fail
                refine wp_region_quiet_grown mixed (by kernel_rfl) ?_
                repeat (go_big_quiet_step ((go_at_call 75; exact calls_grown_says (S _))))
                refine wpQuiet_nil ?_
                intro _ hw'
                obtain ⟨⟨nq, osq⟩, hw''⟩ := hw'
                subst hw''
                have G9 := (Grew.refl wr).grow nq osq
                generalize Go.Sort.grow (wr.drewN nq) osq = w9 at G9 ⊢
                clear S y0 y1 x0 x1
                go_wp2
                go_roundw
                case rel => exact ⟨q3 + 1, by omega, by go_num, fun a u v ha hu hv => by
                  rcases Nat.lt_or_ge a q3 with e | e
                  · exact Hap4.out a u v e hu hv
                  · obtain rfl : a = q3 := by omega
                    rw [Hx5.out] at hu
                    rw [Hy.out] at hv
                    injection hu with hu
                    injection hv with hv
                    rw [← hu, ← hv]; exact Hme.out, G8.out.trans G9⟩
                case measure => simp [intOf]; omega
            · obtain rfl : q3 = k3 := by omega
              have G8 := Lib.hid g8
              clear g8
              go_wp2
              go_roundw
              case rel => exact ⟨q3 + 1, by have := HN.out; omega, by go_num, fun a b u v hab hb hu hv => by
                rcases Nat.lt_or_ge b q3 with e | e
                · exact Hap.out a b u v hab e hu hv
                · obtain rfl : b = q3 := by omega
                  exact Hap4.out a u v hab hu hv, G8.out⟩
              case measure => simp [intOf]; omega
        · obtain rfl : k3 = N := by omega
          have Hapart := Lib.hid (show (blks H).Pairwise (fun a b => ¬ Meets b a) from by
            rw [List.pairwise_iff_getElem]
            intro a b ha hb hab
            exact Hap.out a b _ _ hab (by have := HN.out; omega) (List.getElem?_eq_getElem ha) (List.getElem?_eq_getElem hb))
          have G7 := Lib.hid g7
          clear g7
          go_upto_region 26 with (fail)
          go_loopw [9] (Rt5Rel w4 H) (fun i _ => 4 - (intOf i).toNat)
          case atStart => exact ⟨0, by omega, rfl, (fun j hj => absurd hj (Nat.not_lt_zero _)), G7.out⟩
          case round =>
            obtain ⟨k5, hk5, rfl, htp, g8⟩ := hrel
            have Htp := Lib.hid htp
            have G8 := Lib.hid g8
            have K8 := K4.out.below g8.below
            clear htp g8
            by_cases hl5 : k5 < 4
            · have hcell : [Value.int .i64 H.od, .slice A k c, .int .i64 H.nx, .int .i64 (tget H 0), .int .i64 (tget H 1), .int .i64 (tget H 2), .int .i64 (tget H 3), .slice F m d][3 + k5]? = some (.int .i64 (tget H k5)) := by
                rcases (by omega : k5 = 0 ∨ k5 = 1 ∨ k5 = 2 ∨ k5 = 3) with e | e | e | e <;> subst e <;> rfl
              have wk := cell_grown (a := ⟨w.heap.size, 3 + k5, none⟩) K8.lt ((K8.cell (3 + k5)).trans hcell)
              have w0 := cell_grown (a := ⟨w.heap.size, 0, none⟩) K8.lt (K8.cell 0)
              have w1 := cell_grown (a := ⟨w.heap.size, 1, none⟩) K8.lt (K8.cell 1)
              have w2 := cell_grown (a := ⟨w.heap.size, 2, none⟩) K8.lt (K8.cell 2)
              have w3 := cell_grown (a := ⟨w.heap.size, 3, none⟩) K8.lt (K8.cell 3)
              have w4 := cell_grown (a := ⟨w.heap.size, 4, none⟩) K8.lt (K8.cell 4)
              have w5 := cell_grown (a := ⟨w.heap.size, 5, none⟩) K8.lt (K8.cell 5)
              have w6 := cell_grown (a := ⟨w.heap.size, 6, none⟩) K8.lt (K8.cell 6)
              have w7 := cell_grown (a := ⟨w.heap.size, 7, none⟩) K8.lt (K8.cell 7)
              have S := fun W (G : Grew wr W) => SL.out (tget H k5) W (B4.out.trans ((G8.out.trans G).below.mono B4.out.size))
              have hk5i : (k5 : Int) < 4 := by omega
              have hlead : RightH H → Leads H (tget H k5) := fun r => r.tp _ (by
                unfold tget
                rw [List.getD_eq_getElem?_getD, List.getElem?_eq_getElem (by rw [H4.out]; omega)]
                exact List.getElem_mem _)
              have Hlead := Lib.hid hlead
              obtain ⟨t, ht⟩ : ∃ t, t = tget H k5 := ⟨_, rfl⟩
              rw [← ht] at wk S Hlead
              have Ht := Lib.hid ht
              clear hcell K8 hlead ht
              by_cases hl : Leads H t
              · rw [decide_eq_true hl] at S
                have Hl := Lib.hid hl
                clear hl
                go_wp2_with fail
                refine wp_region_quiet_grown mixed (by kernel_rfl) ?_
                repeat (go_big_quiet_step ((go_at_call 73; exact calls_grown_says (S _ ⟨_, _, rfl⟩))))
                refine wpQuiet_nil ?_
                intro _ hw'
                obtain ⟨⟨nq, osq⟩, hw''⟩ := hw'
                subst hw''
                have G9 := (Grew.refl wr).grow nq osq
                generalize Go.Sort.grow (wr.drewN nq) osq = w9 at G9 ⊢
                clear S wk w0 w1 w2 w3 w4 w5 w6 w7
                go_wp2
                go_roundw
                case rel => exact ⟨k5 + 1, by omega, by go_num, fun j hj => by
                  rcases Nat.lt_or_ge j k5 with e | e
                  · exact Htp.out j e
                  · obtain rfl : j = k5 := by omega
                    rw [← Ht.out]; exact Hl.out, G8.out.trans G9⟩
                case measure => simp [intOf]; omega
              · rw [decide_eq_false hl] at S
                have hno := Lib.hid (show ¬ RightH H from fun r => hl (Hlead.out r))
                clear hl
                go_wp2_with fail
                refine wp_region_quiet_grown mixed (by kernel_rfl) ?_
                repeat (go_big_quiet_step ((go_at_call 73; exact calls_grown_says (S _ ⟨_, _, rfl⟩))))
                refine wpQuiet_nil ?_
                intro _ hw'
                obtain ⟨⟨nq, osq⟩, hw''⟩ := hw'
                subst hw''
                have G9 := (Grew.refl wr).grow nq osq
                generalize Go.Sort.grow (wr.drewN nq) osq = w9 at G9 ⊢
                clear S wk w0 w1 w2 w3 w4 w5 w6 w7
                go_wp2
                go_ret
                exact notright w _ H hno.out (B4.out.trans ((G8.out.trans G9).below.mono B4.out.size))
            · obtain rfl : k5 = 4 := by omega
              have hbb := fun b hb => (may_box HF.out.1.2 (Hmay.out b hb)).1
              have hod := HF.out.1
              have SW := fun W (G : Grew wr W) => ((refWords_any A4 k3 c4' (blks H) W (R4.out.below (G8.out.trans G).below) hN2 hbb).mono (R' := Says W (.int .i64 (sumL (blks H)))) fun _ _ h => ⟨h.1, h.2 ▸ Grew.refl _⟩)
              have SZ := fun W => ((refSize_any H.od W (by omega) hod.2).mono (R' := Says W (.int .i64 (sz H.od))) fun _ _ h => ⟨h.1, h.2 ▸ Grew.refl _⟩)
              have w0 := cell_grown (a := ⟨w.heap.size, 0, none⟩) K8.lt (K8.cell 0)
              have Hres := Lib.hid (show decide (RightH H) = (sumL (blks H) == sz H.od) from by
                rw [Bool.eq_iff_iff, decide_eq_true_iff, beq_iff_eq]
                refine ⟨fun r => r.sum, fun hs => ⟨HF.out, ⟨by omega, by omega⟩, Hrise.out, Hok.out, Hapart.out, fun t ht => ?_, hs⟩⟩
                obtain ⟨j, hj, e⟩ := List.getElem_of_mem ht
                have := Htp.out j (by rw [← H4.out]; exact hj)
                unfold tget at this
                rw [List.getD_eq_getElem?_getD, List.getElem?_eq_getElem hj, Option.getD_some, e] at this
                exact this)
              obtain ⟨z1, hz1⟩ : ∃ z, z = sumL (blks H) := ⟨_, rfl⟩
              obtain ⟨z2, hz2⟩ : ∃ z, z = sz H.od := ⟨_, rfl⟩
              rw [← hz1] at SW Hres
              rw [← hz2] at SZ Hres
              clear hz1 hz2 hbb hod K8
              go_upto_region 30 with (fail)
              refine wp_region_quiet_grown mixed (by kernel_rfl) ?_
              repeat (go_big_quiet_step (first | (go_at_call 76; exact calls_grown_says (SW _ ⟨_, _, rfl⟩)) | (go_at_call 77; exact calls_grown_says (SZ _))))
              refine wpQuiet_nil ?_
              intro _ hw'
              obtain ⟨⟨nq, osq⟩, hw''⟩ := hw'
              subst hw''
              have G9 := (Grew.refl wr).grow nq osq
              generalize Go.Sort.grow (wr.drewN nq) osq = w9 at G9 ⊢
              clear SW SZ w0
              go_wp2
              go_ret
              exact ⟨by rw [Hres.out]; rfl, B4.out.trans ((G8.out.trans G9).below.mono B4.out.size)⟩
end Go.Proofs.YtlnmmklpccppmaaGreatDoor
namespace Go.Proofs.YtlnmmklpccppmaaGreatDoor
open Go.RowKit
/-- An append that adds no element changes nothing. -/
theorem run_app_none {P : Program} {w : World} {base size n : Nat} {t ty U : TypeId} (ht : P.underlying t = some (.slice U)) {i0 : TypeInfo} (hi : P.info? U = some i0) {v : Value} {xs : List Value} (hown : w.ownsRow base U size v n xs) (A : Option Addr) (c : Nat) :
    (Builtin.append_ #[t, t] ty #[v, .slice A 0 c]).run P w = .ok v w := by
  rcases hown.2 with ⟨rfl, _⟩ | ⟨g, cap, cur, rfl, _, _, hnc, _⟩
  · cases A <;> simp [Builtin.append_, run_underlying ht, sizeOf, typeInfo, hi, Builtin.lenOf, Builtin.firstCells, loadCells, loadCellsFrom]
  · cases A <;> simp [Builtin.append_, run_underlying ht, sizeOf, typeInfo, hi, Builtin.lenOf, Builtin.firstCells, loadCells, loadCellsFrom, hnc, storeCells]
theorem ivs_one (l : List Int) : ∀ u ∈ ivs l, u.oneCell' = true := by
  intro u hu
  obtain ⟨x, _, rfl⟩ := List.mem_map.1 hu
  rfl
/-- append(v, l...) of integers. -/
theorem run_appI {P : Program} {w : World} (base : Nat) (t ty U : TypeId) (ht : P.underlying t = some (.slice U)) {z : Value} (hinfo : (P.info? U).map (fun i => (i.zero, i.size, i.bytes)) = some (some z, 1, 8)) (hz : z.cells.size = 1)
    (v : Value) (l : List Int) (hown : OwnV U w base v (ivs l)) (A : Option Addr) (m c : Nat) (news : List Int) (hr : RdI w A m news) (hle : l.length + m ≤ 1000000) (hbase : base ≤ w.heap.size) :
    ∃ v' w', (Builtin.append_ #[t, t] ty #[v, .slice A m c]).run P w = .ok v' w' ∧ OwnV U w' base v' (ivs (l ++ news)) ∧ w.grownBy w' v.ownBlock ∧ (v'.ownBlock = v.ownBlock ∨ ∃ k, v'.ownBlock = some k ∧ w.heap.size ≤ k) := by
  obtain ⟨i0, hi, hz0, hz1, hz2⟩ := info_parts hinfo
  have hm : news.length = m := hr.len
  by_cases h0 : m = 0
  · subst h0
    obtain rfl : news = [] := List.eq_nil_of_length_eq_zero hm
    exact ⟨v, w, run_app_none ht hi hown A c, by rw [List.append_nil]; exact hown, grown_refl _ _, .inl rfl⟩
  · obtain ⟨b, off, rfl, hb, hc⟩ := RdV.at_ hr (by omega)
    obtain ⟨v', w', hrun, h1, h2, _, h4⟩ := run_append_own_at (P := P) w base t ty U i0 _ 1 8 ht hi hz0 hz1 hz2 hz (by omega) v (ivs l).length (ivs l) hown ⟨b, off, none⟩ m c (ivs news) (by rw [ivs_length]; omega)
      (fun j u hj => by rw [add_plain]; exact hc j u hj) (ivs_one _) (by rw [ivs_length]; simp only [maxLen]; omega) (by rw [ivs_length]; omega) hbase
    refine ⟨v', w', hrun, ?_, h2, ?_⟩
    · unfold OwnV
      rw [ivs_append, List.length_append, ivs_length news, hm]
      exact h1
    · rcases h4 with h4 | h4
      · exact .inl h4
      · exact .inr ⟨_, h4, Nat.le_refl _⟩
/-- Where an object's two rows lie. -/
structure OSl where
  wv : Value
  lv : Value
def oc (p : Ob × OSl) : List Value := [.int .i64 p.1.hd, .int .i64 p.1.bl.1, .int .i64 p.1.bl.2, p.2.wv, p.2.lv]
def ocs (os : List (Ob × OSl)) : List Value := os.flatMap oc
theorem ocs_snoc (os : List (Ob × OSl)) (p : Ob × OSl) : ocs (os ++ [p]) = ocs os ++ oc p := by simp [ocs]
theorem ocs_length (os : List (Ob × OSl)) : (ocs os).length = os.length * 5 := by
  induction os with
  | nil => rfl
  | cons p t ih =>
    have : ocs (p :: t) = oc p ++ ocs t := by simp [ocs]
    rw [this, List.length_append, ih, List.length_cons]
    simp [oc]
    omega
theorem ocs_get : ∀ {os : List (Ob × OSl)} {j : Nat} {p : Ob × OSl}, os[j]? = some p → ∀ i u, (oc p)[i]? = some u → (ocs os)[j * 5 + i]? = some u
  | [], j, p, h, _, _, _ => by simp at h
  | q :: t, 0, p, h, i, u, hu => by
    simp at h
    subst h
    have : ocs (q :: t) = oc q ++ ocs t := by simp [ocs]
    have hi : i < (oc q).length := (List.getElem?_eq_some_iff.1 hu).1
    rw [this, Nat.zero_mul, Nat.zero_add, List.getElem?_append_left hi, hu]
  | q :: t, j + 1, p, h, i, u, hu => by
    have : ocs (q :: t) = oc q ++ ocs t := by simp [ocs]
    have hq : (oc q).length = 5 := rfl
    rw [this, List.getElem?_append_right (by omega), hq, show (j + 1) * 5 + i - 5 = j * 5 + i by omega]
    exact ocs_get (by simpa using h) i u hu
/-- The blocks of an object's two rows. -/
def twoB (a : OSl) : List Nat := a.wv.ownBlock.toList ++ a.lv.ownBlock.toList
def blocksOf (os : List (Ob × OSl)) : List Nat := os.flatMap fun p => twoB p.2
theorem blocksOf_snoc (os : List (Ob × OSl)) (p : Ob × OSl) : blocksOf (os ++ [p]) = blocksOf os ++ twoB p.2 := by simp [blocksOf]
/-- Objects in a row of the call's own, their rows in blocks of their own. -/
structure OwnOs (U I : TypeId) (w : World) (base : Nat) (v : Value) (os : List (Ob × OSl)) : Prop where
  row : w.ownsRow base U 5 v os.length (ocs os)
  ints : ∀ p ∈ os, OwnV I w base p.2.wv (ivs p.1.ws) ∧ OwnV I w base p.2.lv (ivs p.1.ls)
  apart : (blocksOf os).Nodup
section
variable {U I : TypeId} {w w' : World} {base : Nat} {v v' : Value} {os : List (Ob × OSl)}
theorem OwnOs.nil : OwnOs U I w base (.slice none 0 0) [] := ⟨World.ownsRow_nil w base U 5, (fun p h => by cases h), List.nodup_nil⟩
theorem mem_two {a : OSl} {k : Nat} : k ∈ twoB a ↔ a.wv.ownBlock = some k ∨ a.lv.ownBlock = some k := by
  unfold twoB
  rw [List.mem_append, Option.mem_toList, Option.mem_toList]
theorem mem_blocks {k : Nat} : k ∈ blocksOf os ↔ ∃ p ∈ os, p.2.wv.ownBlock = some k ∨ p.2.lv.ownBlock = some k := by
  unfold blocksOf
  rw [List.mem_flatMap]
  constructor
  · rintro ⟨p, hp, hk⟩; exact ⟨p, hp, mem_two.1 hk⟩
  · rintro ⟨p, hp, hk⟩; exact ⟨p, hp, mem_two.2 hk⟩
theorem OwnOs.lt (h : OwnOs U I w base v os) : ∀ k ∈ blocksOf os, base ≤ k ∧ k < w.heap.size := by
  intro k hk
  obtain ⟨p, hp, e⟩ := mem_blocks.1 hk
  rcases e with e | e
  · exact (h.ints p hp).1.lt k e
  · exact (h.ints p hp).2.lt k e
theorem OwnOs.row_lt (h : OwnOs U I w base v os) : ∀ k, v.ownBlock = some k → base ≤ k ∧ k < w.heap.size := World.ownsRow.lt h.row
theorem row_keep {U : TypeId} {s n : Nat} {xs : List Value} (h : w.ownsRow base U s v n xs) (hb : ∀ k, v.ownBlock = some k → w'.heap[k]? = w.heap[k]?) : w'.ownsRow base U s v n xs := by
  refine ⟨h.1, ?_⟩
  rcases h.2 with h2 | ⟨g, cap, cur, rfl, hg, hh, r⟩
  · exact .inl h2
  · exact .inr ⟨g, cap, cur, rfl, hg, by rw [hb g rfl]; exact hh, r⟩
theorem OwnOs.keep (h : OwnOs U I w base v os) (hr : ∀ k, v.ownBlock = some k → w'.heap[k]? = w.heap[k]?) (hi : ∀ k ∈ blocksOf os, w'.heap[k]? = w.heap[k]?) : OwnOs U I w' base v os :=
  ⟨row_keep h.row hr, fun p hp => ⟨(h.ints p hp).1.keep fun k hk => hi k (mem_blocks.2 ⟨p, hp, .inl hk⟩), (h.ints p hp).2.keep fun k hk => hi k (mem_blocks.2 ⟨p, hp, .inr hk⟩)⟩, h.apart⟩
theorem OwnOs.below (h : OwnOs U I w base v os) (hb : Below w.heap.size w w') : OwnOs U I w' base v os :=
  h.keep (fun k hk => hb.block k (h.row_lt k hk).2) fun k hk => hb.block k (h.lt k hk).2
theorem OwnOs.mono (h : OwnOs U I w base v os) {base' : Nat} (hb : base' ≤ base) : OwnOs U I w base' v os := by
  refine ⟨⟨h.row.1, ?_⟩, fun p hp => ⟨(h.ints p hp).1.mono hb, (h.ints p hp).2.mono hb⟩, h.apart⟩
  rcases h.row.2 with h2 | ⟨g, cap, cur, hv, hg, r⟩
  · exact .inl h2
  · exact .inr ⟨g, cap, cur, hv, by omega, r⟩
theorem row_type {s n : Nat} {xs : List Value} (h : w.ownsRow base U s v n xs) {k : Nat} (hk : v.ownBlock = some k) : ∃ cur, w.heap[k]? = some (.cells cur U (0, 0)) := by
  rcases h.2 with ⟨rfl, _⟩ | ⟨g, cap, cur, rfl, hg, hh, _⟩
  · cases hk
  · injection hk with hk
    subst hk
    exact ⟨cur, hh⟩
theorem OwnOs.row_ne (h : OwnOs U I w base v os) (hUI : U ≠ I) : ∀ k ∈ blocksOf os, v.ownBlock ≠ some k := by
  intro k hk e
  obtain ⟨c1, h1⟩ := row_type h.row e
  obtain ⟨p, hp, e2⟩ := mem_blocks.1 hk
  have h2 : ∃ cur, w.heap[k]? = some (.cells cur I (0, 0)) := by
    rcases e2 with e2 | e2
    · exact row_type (h.ints p hp).1 e2
    · exact row_type (h.ints p hp).2 e2
  obtain ⟨c2, h2⟩ := h2
  rw [h1] at h2
  injection h2 with h2
  injection h2 with _ h3
  exact hUI h3
theorem OwnOs.grown {r : Option Nat} (h : OwnOs U I w base v os) (hg : w.grownBy w' r) (h1 : ∀ k, v.ownBlock = some k → some k ≠ r) (h2 : ∀ k ∈ blocksOf os, some k ≠ r) : OwnOs U I w' base v os :=
  h.keep (fun k hk => hg.block k (h.row_lt k hk).2 (h1 k hk)) fun k hk => hg.block k (h.lt k hk).2 (h2 k hk)
/-- One more object comes to the row's end. -/
theorem OwnOs.snoc (h : OwnOs U I w base v os) (hUI : U ≠ I) {p : Ob × OSl} (hw : OwnV I w base p.2.wv (ivs p.1.ws)) (hl : OwnV I w base p.2.lv (ivs p.1.ls)) (hn : (twoB p.2).Nodup) (hd : ∀ k ∈ twoB p.2, k ∉ blocksOf os)
    (hrow : w'.ownsRow base U 5 v' (os.length + 1) (ocs os ++ oc p)) (hg : w.grownBy w' v.ownBlock) : OwnOs U I w' base v' (os ++ [p]) := by
  have hne : ∀ k ∈ twoB p.2, v.ownBlock ≠ some k := by
    intro k hk e
    obtain ⟨c1, h1⟩ := row_type h.row e
    have h2 : ∃ cur, w.heap[k]? = some (.cells cur I (0, 0)) := by
      rcases mem_two.1 hk with e2 | e2
      · exact row_type hw e2
      · exact row_type hl e2
    obtain ⟨c2, h2⟩ := h2
    rw [h1] at h2
    injection h2 with h2
    injection h2 with _ h3
    exact hUI h3
  refine ⟨by rw [List.length_append, List.length_singleton, ocs_snoc]; exact hrow, fun q hq => ?_, ?_⟩
  · rcases List.mem_append.1 hq with e | e
    · exact ⟨(h.ints q e).1.keep fun k hk => hg.block k ((h.ints q e).1.lt k hk).2 fun c => h.row_ne hUI k (mem_blocks.2 ⟨q, e, .inl hk⟩) c.symm, (h.ints q e).2.keep fun k hk => hg.block k ((h.ints q e).2.lt k hk).2 fun c => h.row_ne hUI k (mem_blocks.2 ⟨q, e, .inr hk⟩) c.symm⟩
    · rw [List.mem_singleton.1 e]
      exact ⟨hw.keep fun k hk => hg.block k (hw.lt k hk).2 fun c => hne k (mem_two.2 (.inl hk)) c.symm, hl.keep fun k hk => hg.block k (hl.lt k hk).2 fun c => hne k (mem_two.2 (.inr hk)) c.symm⟩
  · rw [blocksOf_snoc, List.nodup_append]
    exact ⟨h.apart, hn, fun a ha b hb e => hd b hb (e ▸ ha)⟩
/-- It reads as the objects. -/
theorem OwnOs.rd (h : OwnOs U I w base v os) : ∃ A c, v = .slice A os.length c ∧ RdO w A os.length (os.map (·.1)) := by
  rcases h.row.2 with ⟨rfl, hn⟩ | ⟨g, cap, cur, rfl, hg, hh, hc, hm, _⟩
  · exact ⟨none, 0, by rw [hn], by simp, fun hp => by omega⟩
  · refine ⟨_, cap, rfl, by simp, fun hp => ⟨g, 0, rfl, (Array.getElem?_eq_some_iff.1 hh).1, fun j x hx => ?_⟩⟩
    rw [List.getElem?_map, Option.map_eq_some_iff] at hx
    obtain ⟨⟨x', a⟩, hj, rfl⟩ := hx
    have cell : ∀ i u, (oc (x', a))[i]? = some u → w.cell? ⟨g, 0 + j * 5 + i, none⟩ = some u := fun i u hu => by
      have e := World.ownsRow.cells h.row (g := g) rfl _ _ (ocs_get hj i u hu)
      rw [add_plain] at e
      rw [show 0 + j * 5 + i = 0 + (j * 5 + i) by omega]
      exact e
    obtain ⟨hw, hl⟩ := h.ints _ (List.mem_of_getElem? hj)
    obtain ⟨A1, c1, e1, _, _, r1⟩ := hw.shape rfl
    obtain ⟨A2, c2, e2, _, _, r2⟩ := hl.shape rfl
    simp only at e1 e2
    exact ⟨A1, _, c1, A2, _, c2, cell 0 _ rfl, cell 1 _ rfl, cell 2 _ rfl, by rw [← e1]; exact cell 3 _ rfl, by rw [← e2]; exact cell 4 _ rfl, r1, r2⟩
/-- append(v, x), x in a block of its own. -/
theorem run_appO {P : Program} (t ty : TypeId) (ht : P.underlying t = some (.slice U)) {z : Value} (hinfo : (P.info? U).map (fun i => (i.zero, i.size, i.bytes)) = some (some z, 5, 72)) (hz : z.cells.size = 5)
    (hrow : w.ownsRow base U 5 v os.length (ocs os)) (p : Ob × OSl) (h1 : p.2.wv.oneCell' = true) (h2 : p.2.lv.oneCell' = true) (hle : os.length + 1 ≤ 1000000) (hbase : base ≤ w.heap.size) :
    ∃ v' w', (Builtin.append_ #[t, t] ty #[v, .slice (some ⟨w.heap.size, 0, none⟩) 1 1]).run P (w.alloc (.cells #[.int .i64 p.1.hd, .int .i64 p.1.bl.1, .int .i64 p.1.bl.2, p.2.wv, p.2.lv] U)) = .ok v' w' ∧
      w'.ownsRow base U 5 v' (os.length + 1) (ocs os ++ oc p) ∧ w.grownBy w' v.ownBlock ∧ (v'.ownBlock = v.ownBlock ∨ ∃ k, v'.ownBlock = some k ∧ w.heap.size ≤ k) := by
  obtain ⟨i0, hi, hz0, hz1, hz2⟩ := info_parts hinfo
  have hb1 : Below w.heap.size w (w.alloc (.cells #[.int .i64 p.1.hd, .int .i64 p.1.bl.1, .int .i64 p.1.bl.2, p.2.wv, p.2.lv] U)) := (Below.refl _ _).alloc (Nat.le_refl _) _
  have hr2 := row_keep hrow (w' := w.alloc (.cells #[.int .i64 p.1.hd, .int .i64 p.1.bl.1, .int .i64 p.1.bl.2, p.2.wv, p.2.lv] U)) (fun k hk => hb1.block k (World.ownsRow.lt hrow k hk).2)
  have hW := Whole.new w #[.int .i64 p.1.hd, .int .i64 p.1.bl.1, .int .i64 p.1.bl.2, p.2.wv, p.2.lv] U
  obtain ⟨v', w', hrun, k1, k2, _, k4⟩ := run_append_own_at (P := P) _ base t ty U i0 _ 5 72 ht hi hz0 hz1 hz2 hz (by omega) v os.length (ocs os) hr2 ⟨w.heap.size, 0, none⟩ 1 1 (oc p) rfl
    (fun j u hj => by rw [add_plain, Nat.zero_add, hW.cell]; exact hj) (fun u hu => by
      simp [oc] at hu
      rcases hu with rfl | rfl | rfl | rfl | rfl
      · rfl
      · rfl
      · rfl
      · exact h1
      · exact h2) (by simp only [maxLen]; omega) (by omega) (Nat.le_trans hbase hb1.size)
  refine ⟨v', w', hrun, k1, grown_trans (grown_below hb1 _) k2, ?_⟩
  rcases k4 with k4 | k4
  · exact .inl k4
  · exact .inr ⟨_, k4, hb1.size⟩
theorem OwnV.oneCell {l : List Value} (h : OwnV U w base v l) : v.oneCell' = true := by
  rcases h.2 with ⟨rfl, _⟩ | ⟨g, cap, cur, rfl, _⟩ <;> rfl
end
end Go.Proofs.YtlnmmklpccppmaaGreatDoor
