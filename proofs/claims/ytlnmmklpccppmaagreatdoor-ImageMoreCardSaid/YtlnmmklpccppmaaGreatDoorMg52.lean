/-
  The document's own bytes of numbers and of heaps: contracts of tumulusref06.numbers and PutHeap.
  The document's own bytes of heaps: the contract of tumulusref06.PutHeap.
-/
import Derived.Test.YtlnmmklpccppmaaGreatDoorMg51
import Derived.Test.YtlnmmklpccppmaaGreatDoorMg16
import Derived.Test.YtlnmmklpccppmaaGreatDoorMg41
namespace Go.Proofs.YtlnmmklpccppmaaGreatDoor
open Go.RowKit

def NumsRel (w : World) (ns : List Int) (v i : Value) (wr : World) : Prop :=
  ∃ k : Nat, k ≤ ns.length ∧ i = .int .i64 (k : Int) ∧ Own 5 wr w.heap.size v ((ns.take k).flatMap encN) ∧ Below w.heap.size w wr
/-- Bytes that were made are appended. -/
theorem app_step {w wr w1 : World} {base m2 m1 c1 : Nat} {v : Value} {A1 : Option Addr} {cs news : List UInt8} (ho : Own 5 wr base v cs) (hb : base ≤ wr.heap.size) (hl : cs.length + m1 ≤ 140737488355328) (B : Below base w wr) (b1 : Below wr.heap.size wr w1) (hr : Rd w1 A1 m1 news) (h2 : (cs ++ news).length = m2) :
    ∃ A2 c2 w2, (Builtin.append_ #[29, 29] 29 #[v, .slice A1 m1 c1]).run Tryz.prog w1 = .ok (.slice A2 m2 c2) w2 ∧ Own 5 w2 base (.slice A2 m2 c2) (cs ++ news) ∧ Below base w w2 ∧ w1.grownBy w2 v.ownBlock := by
  have o1 := ho.below b1
  obtain ⟨v2, w2, hap, hown2, hg2, _⟩ := run_app (P := Tryz.prog) base 29 29 5 Tryz.underlying29 Tryz.infoU8 v cs o1 A1 m1 c1 news hr hl (Nat.le_trans hb b1.size)
  obtain ⟨A2, c2, rfl, _, _, _⟩ := hown2.shapeN h2
  exact ⟨A2, c2, w2, hap, hown2, below_app (B.trans (b1.mono hb)) o1 hg2 (Nat.le_trans hb b1.size), hg2⟩
set_option maxHeartbeats 2000000 in
theorem refNumbers_any (A : Option Addr) (n c : Nat) (ns : List Int) (w : World) (h : RdV w A n (intvs ns)) (hN : ∀ x ∈ ns, IsNum x) (hn : n ≤ 10000) :
    Calls Tryz.prog 38 #[.slice A n c] w (Gives w (ns.flatMap encN)) := by
  have hlen := h.len
  rw [intvs_length] at hlen
  have HR := Lib.hid h
  have HN := Lib.hid hN
  clear h hN
  obtain ⟨X, hX⟩ : ∃ X, X = Gives w (ns.flatMap encN) := ⟨_, rfl⟩
  rw [← hX]
  have HX := Lib.hid hX
  clear hX
  go_enter Tryz.func38, Tryz.ntmps38
  go_wp2
  go_loopw [3, 4] (NumsRel w ns) (fun _ i _ => n - (intOf i).toNat)
  case atStart => exact ⟨0, Nat.zero_le _, rfl, Own.nil, Below.refl _ _⟩
  case round =>
    obtain ⟨k, hk, rfl, hown, hbw⟩ := hrel
    have Hown := Lib.hid hown
    have Hbw := Lib.hid hbw
    clear hown hbw
    by_cases hlt : k < n
    · have hki : (k : Int) < (n : Int) := by omega
      obtain ⟨b', off, u0, rfl, hbl, hx, hc0⟩ := HR.out.cell hlt
      obtain ⟨x, hxs, rfl⟩ := intvs_get hx
      have hxn := HN.out x (List.mem_of_getElem? hxs)
      have q0 := (Hbw.out.cell (p := ⟨b', off + k, none⟩) hbl).trans hc0
      have Htk := Lib.hid (take_flat encN hxs)
      have hl1 : ((ns.take k).flatMap encN).length ≤ 40000 := by rw [flat_len encN_length, List.length_take]; omega
      have hx0 := hxn.1
      have hx1 := hxn.2
      clear hx hxs hc0 hxn
      go_wp2_with fail
      refine (four_any x wr hx0 (by omega)).mono ?_
      rintro e w1 ⟨v1, rfl, hown1, hb1⟩
      obtain ⟨A1, c1, rfl, hc1, hm1, hrd1⟩ := hown1.shapeN (n := 4) (by simp [be_length])
      obtain ⟨m2, hm2⟩ : ∃ m2, ((ns.take k).flatMap encN ++ be 4 x.toNat).length = m2 := ⟨_, rfl⟩
      obtain ⟨A2, c2, w2, hap, o2, b2, _⟩ := app_step (c1 := c1) Hown.out Hbw.out.size (by omega) Hbw.out hb1 hrd1 hm2
      change Own _ w2 _ _ (_ ++ encN x) at o2
      rw [← Htk.out] at o2
      obtain ⟨A0, n0, c0, rfl⟩ : ∃ A0 n0 c0, u3 = .slice A0 n0 c0 := by obtain ⟨A0, c0, e, _⟩ := Hown.out.shape; exact ⟨A0, _, c0, e⟩
      have O2 := Lib.hid o2
      have B2 := Lib.hid b2
      clear o2 b2 hrd1 hown1 hb1 hl1 q0 hm2
      go_wp2_with (at_builtin; refine wpList_append_run hap rfl _ _ rfl rfl rfl rfl ?_)
      go_roundw
      case rel => exact ⟨k + 1, by omega, by go_num, O2.out, B2.out⟩
      case measure => simp [intOf]; omega
    · obtain rfl : k = n := by omega
      have hf := Hown.out
      rw [List.take_of_length_le (by omega)] at hf
      obtain ⟨A0, n0, c0, rfl⟩ : ∃ A0 n0 c0, u3 = .slice A0 n0 c0 := by obtain ⟨A0, c0, e, _⟩ := Hown.out.shape; exact ⟨A0, _, c0, e⟩
      have Hf := Lib.hid hf
      clear hf
      go_wp2
      rw [HX.out]
      exact ⟨_, rfl, Hf.out, Hbw.out⟩
end Go.Proofs.YtlnmmklpccppmaaGreatDoor
namespace Go.Proofs.YtlnmmklpccppmaaGreatDoor
open Go.RowKit

/-- Between the steps: bytes so far, and boxes that stay. -/
structure RP (W : World) (p : Nat) (hc : List Value) (q : Nat) (oc' : List Value) (cur : List UInt8) (v : Value) (wr : World) : Prop where
  own : Own 5 wr W.heap.size v cur
  box : Whole wr p 26 hc
  ob : Whole wr q 68 oc'
  bel : Below W.heap.size W wr
theorem RP.app {W wr w1 : World} {p q m1 c1 m2 : Nat} {hc oc' : List Value} {cur news : List UInt8} {v : Value} {A1 : Option Addr} (h : RP W p hc q oc' cur v wr) (hl : cur.length + m1 ≤ 140737488355328) (b1 : Below wr.heap.size wr w1) (hr : Rd w1 A1 m1 news) (h2 : (cur ++ news).length = m2) :
    ∃ A2 c2 w2, (Builtin.append_ #[29, 29] 29 #[v, .slice A1 m1 c1]).run Tryz.prog w1 = .ok (.slice A2 m2 c2) w2 ∧ RP W p hc q oc' (cur ++ news) (.slice A2 m2 c2) w2 := by
  obtain ⟨A2, c2, w2, hap, o2, b2, g2⟩ := app_step (c1 := c1) h.own h.bel.size hl h.bel b1 hr h2
  have k1 := h.box.below b1
  have k2 := h.ob.below b1
  have o1 := h.own.below b1
  exact ⟨A2, c2, w2, hap, o2, k1.keep (g2.block _ k1.lt (fun e => o1.ownV.apart k1 (by decide) e.symm)), k2.keep (g2.block _ k2.lt (fun e => o1.ownV.apart k2 (by decide) e.symm)), b2⟩
def WordsRel (W : World) (p : Nat) (hc : List Value) (q : Nat) (oc' : List Value) (cur : List UInt8) (ws : List Int) (v i : Value) (wr : World) : Prop :=
  ∃ k : Nat, k ≤ ws.length ∧ i = .int .i64 (k : Int) ∧ RP W p hc q oc' (cur ++ (ws.take k).flatMap encI) v wr
def ObsPRel (W : World) (p : Nat) (hc : List Value) (pre : List UInt8) (xs : List Ob) (v i : Value) (wr : World) : Prop :=
  ∃ j : Nat, j ≤ xs.length ∧ i = .int .i64 (j : Int) ∧ Own 5 wr W.heap.size v (pre ++ (xs.take j).flatMap encO) ∧ Whole wr p 26 hc ∧ Below W.heap.size W wr
theorem own_form {U : TypeId} {w : World} {base : Nat} {v : Value} {l : List UInt8} (h : Own U w base v l) : ∃ A n c, v = .slice A n c := by
  obtain ⟨A, c, e, _⟩ := h.shape
  exact ⟨A, _, c, e⟩
set_option maxHeartbeats 4000000 in
theorem refPutHeap_any (s : HSl) (H : Hp) (w : World) (h : RdH w s H) (hS : SmallH H) (hI : IntsH H) :
    Calls Tryz.prog 12 #[hval H s] w (PutHP w H) := by
  have B0 := (Below.refl w.heap.size w).alloc (Nat.le_refl _) (.cells (hcs H s).toArray 26)
  have K0 := Whole.new w (hcs H s).toArray 26
  have R := refRightH_any s H _ (h.below B0) hS
  by_cases hR : RightH H
  · rw [decide_eq_true hR] at R
    have k : ImH H := ⟨hR, h.tp, hI⟩
    have hdom := k.dom (g := fun _ _ => true) rfl
    have hobD := Lib.hid (fun x hx => k.domO (x := x) hx)
    have hlen256 := k.right.len
    have hsize := k.size
    obtain ⟨t0, t1, t2, t3, htpe⟩ := list4 h.tp
    have e0 : tget H 0 = t0 := by unfold tget; rw [htpe]; rfl
    have e1 : tget H 1 = t1 := by unfold tget; rw [htpe]; rfl
    have e2 : tget H 2 = t2 := by unfold tget; rw [htpe]; rfl
    have e3 : tget H 3 = t3 := by unfold tget; rw [htpe]; rfl
    have hnl := h.obs.len
    have HO := Lib.hid h.obs
    obtain ⟨pre, hpre⟩ : ∃ pre, pre = [H.od, H.nx, t0, t1, t2, t3, (s.n : Int)].flatMap encN := ⟨_, rfl⟩
    have Hfin := Lib.hid (show encH H = pre ++ H.obs.flatMap encO from by
      unfold encH
      rw [htpe, hpre, hnl]
      simp)
    have hN7 : ∀ x ∈ [H.od, H.nx, t0, t1, t2, t3, (s.n : Int)], IsNum x := by
      have ht := hdom.2.2.1.2
      simp only [htpe, List.mem_cons, List.not_mem_nil, or_false, forall_eq_or_imp, forall_eq] at ht
      have h4 := hdom.2.2.2.1
      simp only [hnl] at h4
      intro x hx
      simp only [List.mem_cons, List.not_mem_nil, or_false] at hx
      rcases hx with rfl | rfl | rfl | rfl | rfl | rfl | rfl
      · exact hdom.1
      · exact hdom.2.1
      · exact ht.1
      · exact ht.2.1
      · exact ht.2.2.1
      · exact ht.2.2.2
      · exact h4
    have hpl : pre.length = 28 := by rw [hpre, flat_len encN_length]; rfl
    have hbd : ∀ j, (pre ++ (H.obs.take j).flatMap encO).length ≤ 65600 := fun j => by
      have := flat_prefix encO H.obs j
      have h2 := congrArg List.length Hfin.out
      rw [List.length_append] at h2 ⊢
      omega
    have Hbd := Lib.hid hbd
    have HR := Lib.hid hR
    have Hw0 := Lib.hid h
    clear hbd hR k hdom htpe hS hI h
    obtain ⟨A, n, c, F, m, d⟩ := s
    simp only [hval, hcs] at *
    rw [e0, e1, e2, e3] at *
    go_enter Tryz.func12, Tryz.ntmps12
    go_wp2_with fail
    have hsW : (w.alloc (.cells #[.int .i64 H.od, .slice A n c, .int .i64 H.nx, .int .i64 t0, .int .i64 t1, .int .i64 t2, .int .i64 t3, .slice F m d] 26)).heap.size = w.heap.size + 1 := by simp
    generalize w.alloc (.cells #[.int .i64 H.od, .slice A n c, .int .i64 H.nx, .int .i64 t0, .int .i64 t1, .int .i64 t2, .int .i64 t3, .slice F m d] 26) = W at R B0 K0 hsW ⊢
    refine Calls.mono R ?_
    rintro e w1 ⟨rfl, b1⟩
    have K1 := K0.below b1
    have c0 := K1.cell 0
    have c1 := K1.cell 1
    have c2 := K1.cell 2
    have c3 := K1.cell 3
    have c4 := K1.cell 4
    have c5 := K1.cell 5
    have c6 := K1.cell 6
    have hlt := K1.lt
    have R2 := refNumbers_any (some ⟨w1.heap.size, 0, none⟩) 7 7 [H.od, H.nx, t0, t1, t2, t3, (n : Int)] _ (lit_rd w1 [H.od, H.nx, t0, t1, t2, t3, (n : Int)]) hN7 (by omega)
    rw [← hpre] at R2
    clear R e0 e1 e2 e3
    go_wp2_with fail
    refine Calls.mono R2 ?_
    rintro e w2 ⟨v2, rfl, o2, b2⟩
    have bA : Below w1.heap.size w1 (w1.alloc (.cells (intvs [H.od, H.nx, t0, t1, t2, t3, (n : Int)]).toArray 3)) := (Below.refl _ _).alloc (Nat.le_refl _) _
    have b12 := bA.trans (b2.mono bA.size)
    have M2 : Own 5 w2 W.heap.size v2 pre := o2.mono (Nat.le_trans b1.size bA.size)
    have K2 := K1.below b12
    have BW2 := b1.trans (b12.mono b1.size)
    have HM2 := Lib.hid (And.intro M2 (And.intro K2 BW2))
    have HB0 := Lib.hid B0
    clear R2 o2 b2 bA b12 M2 K1 K2 BW2 c0 c1 c2 c3 c4 c5 c6 B0 hpre hN7 b1
    go_wp2
    go_loopw [4, 5] (ObsPRel W w.heap.size [.int .i64 H.od, .slice A n c, .int .i64 H.nx, .int .i64 t0, .int .i64 t1, .int .i64 t2, .int .i64 t3, .slice F m d] pre H.obs) (fun _ i _ => n - (intOf i).toNat)
    case atStart => exact ⟨0, Nat.zero_le _, rfl, by simpa using HM2.out.1, HM2.out.2.1, HM2.out.2.2⟩
    case round =>
      clear HM2
      obtain ⟨j, hj, rfl, hown, hbox, hbw⟩ := hrel
      have Hown := Lib.hid hown
      have Hbox := Lib.hid hbox
      have Hbw := Lib.hid hbw
      have hszr := hbw.size
      have q1 := hbox.cell 1
      clear hown hbox hbw
      by_cases hlt2 : j < n
      · have hji : (j : Int) < (n : Int) := by omega
        obtain ⟨b', off, x, rfl, hbl, hx, A1, n1, c1, A2, n2, c2, x0, x1, x2, x3, x4, r1, r2⟩ := HO.out.get hlt2
        have hbW : b' < W.heap.size := by omega
        have cw := fun (k : Nat) (u : Value) (hk : w.cell? ⟨b', off + j * 5 + k, none⟩ = some u) => (Hbw.out.cell (p := ⟨b', off + j * 5 + k, none⟩) hbW).trans ((HB0.out.cell (p := ⟨b', off + j * 5 + k, none⟩) hbl).trans hk)
        have y0 := cw 0 _ x0
        have y1 := cw 1 _ x1
        have y2 := cw 2 _ x2
        have y3 := cw 3 _ x3
        have y4 := cw 4 _ x4
        rw [Nat.add_zero] at y0
        have hD := hobD.out x (List.mem_of_getElem? hx)
        have hl1 := r1.len
        have hl2 := r2.len
        have Htk := Lib.hid (take_flat encO hx)
        have HB4 := Lib.hid (show ∀ W', Below W.heap.size W W' → Below w.heap.size w W' from fun W' b => HB0.out.trans (b.mono HB0.out.size))
        have hN4 : ∀ y ∈ [x.hd, x.bl.1, (n1 : Int), (n2 : Int)], IsNum y := by
          intro y hy
          obtain ⟨d1, d2, _, d4, d5, _, _⟩ := hD
          simp only [List.mem_cons, List.not_mem_nil, or_false] at hy
          rcases hy with rfl | rfl | rfl | rfl
          · exact d1
          · exact d2
          · exact ⟨by omega, by omega⟩
          · exact ⟨by omega, by omega⟩
        have KX := Whole.new wr #[.int .i64 x.hd, .int .i64 x.bl.1, .int .i64 x.bl.2, .slice A1 n1 c1, .slice A2 n2 c2] 68
        have bX := (Below.refl wr.heap.size wr).alloc (Nat.le_refl _) (.cells #[.int .i64 x.hd, .int .i64 x.bl.1, .int .i64 x.bl.2, .slice A1 n1 c1, .slice A2 n2 c2] 68)
        have P0 : RP W w.heap.size _ wr.heap.size _ _ _ _ := ⟨Hown.out.below bX, Hbox.out.below bX, KX, Hbw.out.trans (bX.mono hszr)⟩
        have hbj := Hbd.out j
        have hsX : (wr.alloc (.cells #[.int .i64 x.hd, .int .i64 x.bl.1, .int .i64 x.bl.2, .slice A1 n1 c1, .slice A2 n2 c2] 68)).heap.size = wr.heap.size + 1 := by simp
        clear hx x0 x1 x2 x3 x4 cw bX KX
        go_wp2_with fail
        generalize wr.alloc (.cells #[.int .i64 x.hd, .int .i64 x.bl.1, .int .i64 x.bl.2, .slice A1 n1 c1, .slice A2 n2 c2] 68) = W5 at P0 hsX ⊢
        have bL : Below W5.heap.size W5 (W5.alloc (.cells (intvs [x.hd, x.bl.1, (n1 : Int), (n2 : Int)]).toArray 3)) := (Below.refl _ _).alloc (Nat.le_refl _) _
        have R5 := refNumbers_any (some ⟨W5.heap.size, 0, none⟩) 4 4 [x.hd, x.bl.1, (n1 : Int), (n2 : Int)] _ (lit_rd W5 [x.hd, x.bl.1, (n1 : Int), (n2 : Int)]) hN4 (by omega)
        rw [hsX] at R5
        refine Calls.mono R5 ?_
        rintro e w6 ⟨v6, rfl, o6, b6⟩
        have hm4 : ([x.hd, x.bl.1, (n1 : Int), (n2 : Int)].flatMap encN).length = 16 := by rw [flat_len encN_length]; rfl
        obtain ⟨A6, c6, rfl, _, _, rd6⟩ := o6.shapeN hm4
        have b56 := bL.trans (b6.mono bL.size)
        obtain ⟨m7, hm7⟩ : ∃ m7, (pre ++ (H.obs.take j).flatMap encO ++ [x.hd, x.bl.1, (n1 : Int), (n2 : Int)].flatMap encN).length = m7 := ⟨_, rfl⟩
        obtain ⟨A7, c7, w7, hap, P7⟩ := P0.app (c1 := c6) (by omega) b56 rd6 hm7
        obtain ⟨A0, n0, cc0, rfl⟩ := own_form Hown.out
        have HP7 := Lib.hid P7
        clear R5 o6 b6 bL b56 rd6 P0 P7 hm7 Hown Hbox Hbw q1
        go_wp2_with (at_builtin; refine wpList_append_run hap rfl _ _ rfl rfl rfl rfl ?_)
        obtain ⟨cur, hcur⟩ : ∃ cur, cur = pre ++ (H.obs.take j).flatMap encO ++ [x.hd, x.bl.1, (n1 : Int), (n2 : Int)].flatMap encN := ⟨_, rfl⟩
        rw [← hcur] at HP7
        have hcl : cur.length ≤ 65616 := by rw [hcur, List.length_append, hm4]; omega
        have Hcur := Lib.hid hcur
        clear hcur hap
        go_loopw [4, 8] (WordsRel W w.heap.size [.int .i64 H.od, .slice (some ⟨b', off, none⟩) n c, .int .i64 H.nx, .int .i64 t0, .int .i64 t1, .int .i64 t2, .int .i64 t3, .slice F m d] wr.heap.size [.int .i64 x.hd, .int .i64 x.bl.1, .int .i64 x.bl.2, .slice A1 n1 c1, .slice A2 n2 c2] cur x.ws) (fun _ i _ => n1 - (intOf i).toNat)
        case atStart => exact ⟨0, Nat.zero_le _, rfl, by simpa using HP7.out⟩
        case round =>
          clear HP7
          obtain ⟨k, hk, rfl, P⟩ := hrel
          have HP := Lib.hid P
          have ob2 := P.ob.cell 3
          have ob3 := P.ob.cell 4
          change _ = some (Value.slice A1 n1 c1) at ob2
          change _ = some (Value.slice A2 n2 c2) at ob3
          obtain ⟨Av, nv, cv, rfl⟩ := own_form P.own
          have hws := hD.2.2.2.1
          have hls := hD.2.2.2.2.1
          clear P
          by_cases hlt3 : k < n1
          · have hki : (k : Int) < (n1 : Int) := by omega
            obtain ⟨b3, off3, y, rfl, hb3, hy, hc3⟩ := r1.cell hlt3
            have hc3' := (HP.out.bel.cell (p := ⟨b3, off3 + k, none⟩) (show b3 < W.heap.size by omega)).trans ((HB0.out.cell (p := ⟨b3, off3 + k, none⟩) hb3).trans hc3)
            have Hty := Lib.hid (take_flat encI hy)
            clear hc3 hy
            go_wp2_with fail
            refine (eight_any y wr).mono ?_
            rintro e w9 ⟨v9, rfl, o9, b9⟩
            obtain ⟨A9, c9, rfl, _, _, rd9⟩ := o9.shapeN (n := 8) (by simp [be_length])
            obtain ⟨m8, hm8⟩ : ∃ m8, (cur ++ (x.ws.take k).flatMap encI ++ be 8 (u64n y)).length = m8 := ⟨_, rfl⟩
            obtain ⟨A10, c10, w10, hap, P10⟩ := HP.out.app (m1 := 8) (c1 := c9) (by rw [List.length_append, flat_len encI_length, List.length_take]; omega) b9 rd9 hm8
            have HP10 := Lib.hid P10
            clear o9 b9 rd9 P10 hm8 ob2 ob3 HP hc3'
            go_wp2_with (at_builtin; refine wpList_append_run hap rfl _ _ rfl rfl rfl rfl ?_)
            go_roundw
            case rel => exact ⟨k + 1, by omega, by go_num, by rw [Hty.out, ← List.append_assoc]; exact HP10.out⟩
            case measure => simp [intOf]; omega
          · obtain rfl : k = n1 := by omega
            have R9 := refNumbers_any A2 n2 c2 x.ls wr (RdV.below r2 (HB4.out _ HP.out.bel)) (fun y hy => hD.2.2.2.2.2.2 y hy) (by omega)
            go_wp2_with fail
            refine Calls.mono R9 ?_
            rintro e w9 ⟨v9, rfl, o9, b9⟩
            obtain ⟨n9, hn9⟩ : ∃ n9, (x.ls.flatMap encN).length = n9 := ⟨_, rfl⟩
            obtain ⟨A9, c9, rfl, _, _, rd9⟩ := o9.shapeN hn9
            obtain ⟨m8, hm8⟩ : ∃ m8, (cur ++ (x.ws.take k).flatMap encI ++ x.ls.flatMap encN).length = m8 := ⟨_, rfl⟩
            obtain ⟨A10, c10, w10, hap, P10⟩ := HP.out.app (m1 := n9) (c1 := c9) (by rw [List.length_append, flat_len encI_length, List.length_take]; rw [flat_len encN_length] at hn9; omega) b9 rd9 hm8
            have HP10 := Lib.hid P10
            have Hn := Lib.hid (show cur ++ (x.ws.take k).flatMap encI ++ x.ls.flatMap encN = pre ++ (H.obs.take (j + 1)).flatMap encO from by
              rw [Htk.out, encO_parts, List.take_of_length_le (by omega), Hcur.out, hl1, hl2]
              simp only [List.append_assoc])
            clear o9 b9 rd9 P10 hm8 ob2 ob3 HP hn9 R9
            go_wp2_with (at_builtin; refine wpList_append_run hap rfl _ _ rfl rfl rfl rfl ?_)
            go_roundw
            case rel => exact ⟨j + 1, by omega, by go_num, by rw [← Hn.out]; exact HP10.out.own, HP10.out.box, HP10.out.bel⟩
            case measure => simp [intOf]; omega
      · obtain rfl : j = n := by omega
        obtain ⟨A0, n0, cc0, rfl⟩ := own_form Hown.out
        have hf := Hown.out
        rw [List.take_of_length_le (by omega), ← Hfin.out] at hf
        have Hf := Lib.hid (hf.mono (base' := w.heap.size) (by omega))
        have Hb := Lib.hid (HB0.out.trans (Hbw.out.mono HB0.out.size))
        clear hf
        go_wp2
        go_ret2
        exact ⟨Hb.out, .inl ⟨HR.out, _, rfl, Hf.out⟩⟩
  · rw [decide_eq_false hR] at R
    have HR := Lib.hid hR
    clear h hS hI hR
    obtain ⟨A, n, c, F, m, d⟩ := s
    simp only [hval, hcs] at *
    go_enter Tryz.func12, Tryz.ntmps12
    go_wp2_with fail
    generalize w.alloc (.cells _ 26) = W at R B0 K0 ⊢
    refine Calls.mono R ?_
    rintro e w1 ⟨rfl, b1⟩
    have B1 := B0.trans (b1.mono B0.size)
    clear R K0
    go_wp2
    go_ret2
    exact ⟨B1, .inr ⟨HR.out, rfl⟩⟩
end Go.Proofs.YtlnmmklpccppmaaGreatDoor
