/-
  Package redo: what lies in the part is taken up (load), where a log lies there whose root tells of no record: a contract.
-/
import Derived.Test.YtcogglanbpphpaaLgLo
namespace Go.Proofs.Ytcogglanbpphpaa
open Go.RowKit

theorem pc_isPc {ag nu age : Nat} {t : List UInt8} {i : Nat} (h1 : 1 ≤ ag) (h2 : ag ≤ age) (h3 : age ≤ 2147483647) (h4 : 1 ≤ nu) (h5 : nu ≤ 2147483647) (h6 : t.length ≤ 1024) (hi : i < np t.length) : IsPc (pc ag nu t i) age :=
  ⟨rfl, h1, h2, h3, h4, h5, h6, hi, by
    show (((t.drop (36 * i)).take 36).length : Int) = min 36 ((t.length : Int) - (i : Int) * 36)
    rw [List.length_take, List.length_drop]
    unfold np at hi
    omega⟩
theorem allp_isPc {ag age : Nat} (h1 : 1 ≤ ag) (h2 : ag ≤ age) (h3 : age ≤ 2147483647) : ∀ (L : List (List UInt8)) (nu q : Nat) (c : Ct), 1 ≤ nu → nu + L.length ≤ 2147483647 → (∀ t ∈ L, t.length ≤ 1024) → (allp ag nu L)[q]? = some c → IsPc c age
  | [], _, _, _, _, _, _, h => by simp [allp] at h
  | t :: ts, nu, q, c, hn, hb, hl, h => by
    rw [allp] at h
    simp only [List.length_cons] at hb
    by_cases hq : q < ((List.range (np t.length)).map (pc ag nu t)).length
    · rw [List.getElem?_append_left hq] at h
      obtain ⟨x, hx, rfl⟩ := List.mem_map.1 (List.mem_of_getElem? h)
      exact pc_isPc h1 h2 h3 hn (by omega) (hl t (by simp)) (List.mem_range.1 hx)
    · rw [List.getElem?_append_right (by omega)] at h
      exact allp_isPc h1 h2 h3 ts (nu + 1) _ c (by omega) (by omega) (fun u hu => hl u (by simp [hu])) h
theorem FoPost.mono {w W : World} {R : Nat → Ct} {L : List (List UInt8)} {g p fr se ag fi : Nat} {e : Ending} {w' : World} (h : FoPost W R L g p fr se ag fi e w') (hg : w.grownBy W (some g)) : FoPost w R L g p fr se ag fi e w' := by
  obtain ⟨m, vt, vs, h1, h2, h3, h4, h5, h6, h7⟩ := h
  exact ⟨m, vt, vs, h1, h2, h3.mono hg.size, h4, h5.mono hg.size, grown_trans hg h6, h7⟩
set_option maxRecDepth 20000 in
set_option maxHeartbeats 2000000 in
theorem load_root {w : World} {g p fr se ag fi st q r n n1 age first : Nat} {S : Dk} {C : Nat → Ct} {L : List (List UInt8)} (h : LAt w g p fr se ag fi st (.slice none 0 0)) (hd : DAt w p q r n S) (h1 : fr + se ≤ n) (hn1 : se = n1 + 1) (h2 : 1 ≤ n1) (h2' : n1 ≤ 1024)
    (hC : ∀ j, j < se → Sec (S.now (fr + j)) (C j)) (hC0 : C 0 = rootC fr se age first 0 0) (hr : Ring (fun j => C (j + 1)) n1 age first L) (ha : 1 ≤ age) (ha2 : age ≤ 1000000) (hf : 1 ≤ first) (hf2 : first ≤ 1000000) (hl : L.length ≤ 1000) :
    Calls Try.prog 15 #[.pointer (some ⟨g, 0, none⟩)] w (FoPost w (fun j => C (j + 1)) L g p fr se age first) := by
  subst hn1
  have hk := contents_any (C := C) h hd h1 (by omega) hC
  have hn := hd.most
  have HL := Lib.hid h
  have HRG := Lib.hid hr
  have hpc : ∀ j, j < n1 → C (j + 1) = Ct.zero ∨ IsPc (C (j + 1)) age := fun j hj => by
    rcases hr.has j hj with e | e
    · exact .inl e
    · exact .inr (allp_isPc ha (Nat.le_refl _) (by omega) L first j _ hf (by omega) hr.len e)
  have HPC := Lib.hid hpc
  clear h hd hC hr hpc
  go_enter Try.func15, Try.ntmps15
  go_wp2_with (go_at_call 34; refine hk.mono ?_; rintro e w1 ⟨b, rfl, hB, hbb, hb⟩)
  clear hk
  have hR1 := hB.row.tail
  obtain ⟨x0', x1', x2', x3', x4', x5'⟩ := hB.row.get 0 (by omega)
  rw [hC0] at x0' x1' x2' x3' x4' x5'
  simp only [Nat.zero_mul, Nat.zero_add] at x0' x1' x2' x3' x4' x5' hR1
  have x0 : w1.drew.cell? ⟨b, 0, none⟩ = some (.int .i64 1) := x0'
  have x1 : w1.drew.cell? ⟨b, 1, none⟩ = some (.int .i64 (age : Int)) := x1'
  have x2 : w1.drew.cell? ⟨b, 2, none⟩ = some (.int .i64 (first : Int)) := x2'
  have x3 : w1.drew.cell? ⟨b, 3, none⟩ = some (.int .i64 0) := x3'
  have x4 : w1.drew.cell? ⟨b, 4, none⟩ = some (.int .i64 0) := x4'
  have x5 : w1.drew.cell? ⟨b, 5, none⟩ = some (.string ⟨(nameOf fr (n1 + 1)).toArray⟩) := x5'
  have hbl := hB.lt
  have y0 : ∀ o, (w1.alloc o).cell? ⟨b, 0, none⟩ = _ := fun o => (World.cell?_alloc_lt w1 o ⟨b, 0, none⟩ hbl).trans x0
  have y1 : ∀ o, (w1.alloc o).cell? ⟨b, 1, none⟩ = _ := fun o => (World.cell?_alloc_lt w1 o ⟨b, 1, none⟩ hbl).trans x1
  have y2 : ∀ o, (w1.alloc o).cell? ⟨b, 2, none⟩ = _ := fun o => (World.cell?_alloc_lt w1 o ⟨b, 2, none⟩ hbl).trans x2
  have y3 : ∀ o, (w1.alloc o).cell? ⟨b, 3, none⟩ = _ := fun o => (World.cell?_alloc_lt w1 o ⟨b, 3, none⟩ hbl).trans x3
  have y4 : ∀ o, (w1.alloc o).cell? ⟨b, 4, none⟩ = _ := fun o => (World.cell?_alloc_lt w1 o ⟨b, 4, none⟩ hbl).trans x4
  have y5 : ∀ o, (w1.alloc o).cell? ⟨b, 5, none⟩ = _ := fun o => (World.cell?_alloc_lt w1 o ⟨b, 5, none⟩ hbl).trans x5
  have hsl := fun W => cut_cts b n1 W
  simp only [if_neg (show ¬ n1 = 0 by omega)] at hsl
  obtain ⟨nm, hnm⟩ : ∃ nm, nm = ByteArray.mk (nameOf fr (n1 + 1)).toArray := ⟨_, rfl⟩
  rw [← hnm] at x5
  have HNM := Lib.hid hnm
  have HR1 := Lib.hid hR1
  have HB := Lib.hid hb
  have hln : (0 : Int) < ((n1 + 1 : Nat) : Int) := by omega
  clear hB hb hR1 hbl x0' x1' x2' x3' x4' x5' hnm
  simp only [← HNM.out] at y5
  go_region
  have hK := (Whole.new w1 #[.int .i64 1, .int .i64 (age : Int), .int .i64 (first : Int), .int .i64 0, .int .i64 0, .string nm] 57).drew
  have hBa : Below w1.heap.size w1 (w1.alloc (.cells #[.int .i64 1, .int .i64 (age : Int), .int .i64 (first : Int), .int .i64 0, .int .i64 0, .string nm] 57)).drew := ((Below.refl _ _).alloc (Nat.le_refl _) _).drew
  have hRW := HR1.out.below hBa
  have hBW := HB.out.trans (hBa.mono HB.out.size)
  generalize (w1.alloc (.cells #[.int .i64 1, .int .i64 (age : Int), .int .i64 (first : Int), .int .i64 0, .int .i64 0, .string nm] 57)).drew = W at hK hRW hBW ⊢
  have HRW := Lib.hid hRW
  have HBW := Lib.hid hBW
  have HK := Lib.hid hK
  have k0 : W.cell? ⟨w1.heap.size, 0, none⟩ = some (.int .i64 1) := hK.cell 0
  clear hK hBa hRW hBW x0 x1 x2 x3 x4 x5 y0 y1 y2 y3 y4 y5 HR1 HB hsl
  generalize w1.heap.size = tb at HK k0 ⊢
  go_wp2
  have hn0 : fr ≤ 4096 := by omega
  have hn2 : n1 + 1 ≤ 4096 := by omega
  have cN : ∀ dd os, Calls Try.prog 36 #[.pointer (some ⟨g, 0, none⟩)] (Go.Sort.grow (redrawn W dd) os) fun e w'' => e = .returned (.string nm) ∧ ∃ p : Regrown, w'' = Go.Sort.grow (redrawn W p.d) p.os := fun dd os =>
    Calls.regrown_of (by
      have := name_any ((HL.out.below HBW.out).below (below_regrown W dd os)) hn0 hn2
      unfold TellsS at this
      rw [← HNM.out] at this
      exact this)
  have cI : ∀ dd os, Calls Try.prog 35 #[.bool true] (Go.Sort.grow (redrawn W dd) os) fun e w'' => e = .returned (.tuple #[]) ∧ ∃ p : Regrown, w'' = Go.Sort.grow (redrawn W p.d) p.os := fun dd os =>
    Calls.regrown_of ((insist_yes _).mono fun e w' ⟨h1, h2⟩ => ⟨h1, by rw [h2]; exact Below.refl _ _⟩)
  clear k0
  have z0 := cell_regrown (show W.cell? ⟨tb, 0, none⟩ = some (.int .i64 1) from HK.out.cell 0)
  have z1 := cell_regrown (show W.cell? ⟨tb, 1, none⟩ = some (.int .i64 (age : Int)) from HK.out.cell 1)
  have z2 := cell_regrown (show W.cell? ⟨tb, 2, none⟩ = some (.int .i64 (first : Int)) from HK.out.cell 2)
  have z3 := cell_regrown (show W.cell? ⟨tb, 3, none⟩ = some (.int .i64 0) from HK.out.cell 3)
  have z5 := cell_regrown (show W.cell? ⟨tb, 5, none⟩ = some (.string nm) from HK.out.cell 5)
  have d1 : decide ((1 : Int) ≤ (age : Int)) = true := by simp; omega
  have d2 : decide ((1 : Int) ≤ (first : Int)) = true := by simp; omega
  have d3 : decide ((0 : Int) < (n1 : Int)) = true := by simp; omega
  have e1 : decide (1 ≤ age) = true := decide_eq_true ha
  have e2 : decide (1 ≤ first) = true := decide_eq_true hf
  have e3 : decide (0 < n1) = true := decide_eq_true (by omega)
  have mixed := mixed8
  refine wp_region_quiet_below mixed (by kernel_rfl) ?_
  repeat (go_big_quiet_step (first | exact cN _ _ | exact cI _ _))
  refine wpQuiet_nil ?_
  intro _ hw'
  obtain ⟨⟨dq, osq⟩, rfl⟩ := hw'
  have hB2 := below_regrown W dq osq
  dsimp only
  generalize Go.Sort.grow (redrawn W dq) osq = W2 at hB2 ⊢
  have HRW2 := Lib.hid (HRW.out.below hB2)
  have HK2 := Lib.hid (HK.out.below hB2)
  have HBW2 := Lib.hid (HBW.out.trans (hB2.mono HBW.out.size))
  clear cN cI z0 z1 z2 z3 z5 d1 d2 d3 e1 e2 e3 mixed hB2 HRW HK HBW
  go_wp2
  go_loopw [70] (fun i wr => ∃ k : Nat, k ≤ n1 ∧ i = .int .i64 (k : Int) ∧ Below W2.heap.size W2 wr) (fun i _ => n1 - (Go.RowKit.intOf i).toNat)
  case atStart => exact ⟨0, Nat.zero_le _, rfl, Below.refl _ _⟩
  case round =>
    obtain ⟨k, hk, rfl, hb⟩ := hrel
    by_cases hlt : k < n1
    · obtain ⟨x0, x1, x2, x3, x4, x5⟩ := (HRW2.out.below hb).get k hlt
      have hKt := HK2.out.below hb
      obtain ⟨c, hc⟩ : ∃ c, c = C (k + 1) := ⟨_, rfl⟩
      have hp := HPC.out k hlt
      rw [← hc] at x0 x1 x2 x3 x4 x5 hp
      simp only [sv] at x0 x1 x2 x3 x4 x5
      have hbf := hb.alloc hb.size (.cells #[.int .i64 (c.kd : Int), .int .i64 (c.ag : Int), .int .i64 (c.nu : Int), .int .i64 (c.pl : Int), .int .i64 (c.sz : Int), .string ⟨c.tx.toArray⟩] 57)
      have hKn := (Whole.new wr #[.int .i64 (c.kd : Int), .int .i64 (c.ag : Int), .int .i64 (c.nu : Int), .int .i64 (c.pl : Int), .int .i64 (c.sz : Int), .string ⟨c.tx.toArray⟩] 57)
      have HBF := Lib.hid hbf
      have hta := (hKt.alloc (.cells #[.int .i64 (c.kd : Int), .int .i64 (c.ag : Int), .int .i64 (c.nu : Int), .int .i64 (c.pl : Int), .int .i64 (c.sz : Int), .string ⟨c.tx.toArray⟩] 57)).cell 1
      have z0 := hKn.cell 0
      have z1 := hKn.cell 1
      have z2 := hKn.cell 2
      have z3 := hKn.cell 3
      have z4 := hKn.cell 4
      have z5 := hKn.cell 5
      simp only [List.getElem?_cons_succ, List.getElem?_cons_zero] at z0 z1 z2 z3 z4 z5 hta
      clear hb hbf hKn hKt hc
      rcases hp with e | hp
      · have hk0 : ((c.kd : Int) == 0) = true := by rw [e]; rfl
        clear e
        go_wp2_with (go_at_call 35; refine (insist_yes _).mono ?_; rintro e w7 ⟨rfl, hw7⟩; subst hw7)
        exact ⟨⟨k + 1, hlt, by go_num, HBF.out⟩, by simp [Go.RowKit.intOf]; omega⟩
      · have hk0 : ((c.kd : Int) == 0) = false := by rw [hp.kd]; rfl
        have hip : ∀ W, Calls Try.prog 37 #[.agg #[.int .i64 (c.kd : Int), .int .i64 (c.ag : Int), .int .i64 (c.nu : Int), .int .i64 (c.pl : Int), .int .i64 (c.sz : Int), .string ⟨c.tx.toArray⟩], .int .i64 (age : Int)] W fun e w' => e = .returned (.bool true) ∧ Below W.heap.size W w' := fun W => isPiece_yes hp W
        have HIP := Lib.hid hip
        clear hp hip
        go_wp2_with (first | (go_at_call 37; refine (HIP.out _).mono ?_; rintro e w6 ⟨rfl, hb6⟩; have HBF2 := Lib.hid (HBF.out.trans (hb6.mono HBF.out.size)); clear hb6) | (go_at_call 35; refine (insist_yes _).mono ?_; rintro e w7 ⟨rfl, hw7⟩; subst hw7))
        exact ⟨⟨k + 1, hlt, by go_num, HBF2.out⟩, by simp [Go.RowKit.intOf]; omega⟩
    · obtain rfl : k = n1 := by omega
      clear hlt
      have hbw := HBW2.out.trans (hb.mono HBW2.out.size)
      have hL := (HL.out.below hbw).drew
      have hKt := (HK2.out.below hb).drew
      have HRd := Lib.hid (HRW2.out.below hb).drew
      have hgt : g ≠ tb := hL.ne hKt (by decide)
      have t1 : wr.drew.cell? ⟨tb, 1, none⟩ = some (.int .i64 (age : Int)) := hKt.cell 1
      have t2 : wr.drew.cell? ⟨tb, 2, none⟩ = some (.int .i64 (first : Int)) := hKt.cell 2
      have t3 : wr.drew.cell? ⟨tb, 3, none⟩ = some (.int .i64 0) := hKt.cell 3
      have hLw := HL.out.below hbw
      have c3' := hLw.c3
      have c4' := hLw.c4
      have c5' := hLw.c5
      have f3' := hLw.free 3
      have f4' := hLw.free 4
      have f5' := hLw.free 5
      have hKw := HK2.out.below hb
      have t1' : wr.cell? ⟨tb, 1, none⟩ = some (.int .i64 (age : Int)) := hKw.cell 1
      have t2' : wr.cell? ⟨tb, 2, none⟩ = some (.int .i64 (first : Int)) := hKw.cell 2
      have t3' : wr.cell? ⟨tb, 3, none⟩ = some (.int .i64 0) := hKw.cell 3
      have hgs := grown_trans (grown_trans (grown_set wr g 3 (.int .i64 (age : Int))) (grown_set _ g 4 (.int .i64 (first : Int)))) (grown_set _ g 5 (.int .i64 0))
      have hL5 : LAt (((wr.setCell ⟨g, 3, none⟩ (.int .i64 (age : Int))).setCell ⟨g, 4, none⟩ (.int .i64 (first : Int))).setCell ⟨g, 5, none⟩ (.int .i64 0)) g p fr (k + 1) age first 0 (.slice none 0 0) := ((hLw.set3 age).set4 first).set5 0
      have hK5 := hKw.grown hgs hgt.symm
      have hR5 := (HRW2.out.below hb).grown hgs (by have := HL.out.lt; omega)
      have hg5 := grown_trans (grown_below hbw (some g)) hgs
      have H5 := Lib.hid (And.intro hL5 (And.intro hK5 (And.intro hR5 hg5)))
      clear hLw hKw hgs hL5 hK5 hR5 hg5
      have c3 := hL.c3
      have c4 := hL.c4
      have c5 := hL.c5
      have f3 := hL.free 3
      have f4 := hL.free 4
      have f5 := hL.free 5
      have Hbw := Lib.hid (show Below w.heap.size w wr.drew from hbw.drew)
      have HLd := Lib.hid hL
      have HKd := Lib.hid hKt
      clear hbw hL hKt hb HBW2 HRW2 HK2
      go_wp2
      go_region
      clear c3 c4 c5 c3' c4' c5' f3 f4 f5 f3' f4' f5' t1 t2 t3 t1' t2' t3' HRd Hbw HLd HKd
      generalize ((wr.setCell ⟨g, 3, none⟩ (.int .i64 (age : Int))).setCell ⟨g, 4, none⟩ (.int .i64 (first : Int))).setCell ⟨g, 5, none⟩ (.int .i64 0) = W5 at H5 ⊢
      obtain ⟨hL5, hK5, hR5, hg5⟩ := H5.out
      have t4 : W5.drew.cell? ⟨tb, 4, none⟩ = some (.int .i64 0) := hK5.cell 4
      have hF := follow_any (c := k) hR5.drew hL5.drew HRG.out h2' hf2 ha2 hl (by have := HL.out.lt; omega)
      have hg6 : w.grownBy W5.drew (some g) := grown_trans hg5 (grown_below (Below.refl _ _).drew _)
      have HF := Lib.hid hF
      have HG6 := Lib.hid hg6
      clear hL5 hK5 hR5 hg5 hF hg6 H5
      go_wp2_with fail
      refine HF.out.mono ?_
      intro e w9 hpost
      have hpo := hpost.mono HG6.out
      obtain ⟨m, vt, vs, h1', h2'', h3, h4, h5, h6, h7⟩ := hpo
      subst h2''
      obtain ⟨At, ct, rfl⟩ := slice_own h3 rfl
      have HFF := Lib.hid (And.intro h3 (And.intro h4 (And.intro h5 (And.intro h6 h7))))
      clear h3 h4 h5 h6 h7 hpost
      dsimp only
      go_wp2
      go_ret
      exact ⟨m, _, vs, h1', rfl, HFF.out.1, HFF.out.2.1, HFF.out.2.2.1, HFF.out.2.2.2.1, HFF.out.2.2.2.2⟩
end Go.Proofs.Ytcogglanbpphpaa
