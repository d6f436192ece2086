/-
  Whether free blocks are right, by the document: contract of Right.
  What the heap of blocks that wait does: contracts, one a function.
  What the heap of blocks that wait does, further: one comes, one goes, and the calls by which the library asks: contracts, one a function.
-/
import Derived.Test.YtlnmmklpccppmaaGreatDoorSg7
import Derived.Test.YtlnmmklpccppmaaGreatDoorSg4
import Derived.BigRegion
import Derived.Test.YtlnmmklpccppmaaGreatDoorSg5
import Derived.Deep.AppendLies
import Derived.Deep.RegionLaw
namespace Go.Proofs.YtlnmmklpccppmaaGreatDoor
open Go.RowKit
theorem right_ahd {r : Int} {fs : List Blk} {b : Blk} (h : Right r fs) (hb : May r b) (ha : ∀ a ∈ fs, Ahd r a b) : Right r (fs ++ [b]) := by
  refine ⟨h.1, fun c hc => ?_, ?_⟩
  · rcases List.mem_append.1 hc with e | e
    · exact h.2.1 c e
    · rw [List.mem_singleton.1 e]; exact hb
  · rw [List.pairwise_append]
    exact ⟨h.2.2, List.pairwise_singleton _ _, fun a h1 c hc => by rw [List.mem_singleton.1 hc]; exact ha a h1⟩
theorem right_at {r : Int} {l : List Blk} (h : Right r l) {j k : Nat} (hjk : j < k) (hk : k < l.length) : Ahd r (nth l j) (nth l k) := by
  have h2 := h.2.2
  rw [List.pairwise_iff_getElem] at h2
  have := h2 j k (by omega) hk hjk
  have e1 : nth l j = l[j] := by have := nth_get (l := l) (j := j) (by omega); rw [List.getElem?_eq_getElem (by omega)] at this; exact (Option.some.inj this).symm
  have e2 : nth l k = l[k] := by have := nth_get hk; rw [List.getElem?_eq_getElem hk] at this; exact (Option.some.inj this).symm
  rw [e1, e2]
  exact this
def RtRel (w : World) (r : Int) (l : List Blk) (i : Value) (wr : World) : Prop := ∃ k : Nat, k ≤ l.length ∧ i = .int .i64 (k : Int) ∧ Right r (l.take k) ∧ Grew w wr
def RtIn (w : World) (r : Int) (l : List Blk) (k : Nat) (i : Value) (wr : World) : Prop := ∃ m : Nat, m ≤ k ∧ i = .int .i64 (m : Int) ∧ (∀ j, j < m → Ahd r (nth l j) (nth l k)) ∧ Grew w wr
theorem rtIn_done {r : Int} {l : List Blk} {k : Nat} {x : Blk} (hR : Right r (l.take k)) (hx : l[k]? = some x) (hM : May r x) (h : ∀ j, j < k → Ahd r (nth l j) (nth l k)) : Right r (l.take (k + 1)) := by
  rw [take_snocB hx]
  refine right_ahd hR hM fun a ha => ?_
  obtain ⟨j, hj, rfl⟩ := List.mem_iff_getElem.1 ha
  have hjk : j < k := by rw [List.length_take] at hj; omega
  have hkl : k < l.length := (List.getElem?_eq_some_iff.1 hx).1
  have e1 : nth l k = x := by have := nth_get hkl; rw [hx] at this; exact (Option.some.inj this).symm
  have e2 : (l.take k)[j] = nth l j := by have := nth_get (l := l) (j := j) (by omega); rw [List.getElem?_eq_getElem (by omega)] at this; rw [List.getElem_take]; exact Option.some.inj this
  rw [e2, ← e1]
  exact h j hjk
set_option maxRecDepth 100000 in
set_option maxHeartbeats 4000000 in
theorem refRight_any (r : Int) (A : Option Addr) (n c : Nat) (l : List Blk) (w : World) (h : RdS w A n l) (hn : n ≤ 1000) :
    Calls Tryz.prog 70 #[.int .i64 r, .slice A n c] w (Says w (.bool (decide (Right r l)))) := by
  have hlen := h.len
  have S1 := fun W => refRegion_any r W
  by_cases hr : 3 ≤ r ∧ r ≤ 8
  · rw [decide_eq_true hr] at S1
    have S2 := fun W => refSize_any r W (by omega) hr.2
    have hs1 := sz_le256 (o := r) (by omega) hr.2
    have hs0 := sz_pos r
    by_cases hsz : (n : Int) ≤ sz r
    · obtain ⟨s, hs⟩ : ∃ s, s = sz r := ⟨_, rfl⟩
      rw [← hs] at S2 hsz hs1 hs0
      have t1 : decide (s < (n : Int)) = false := by simp; omega
      have hr1 : 0 ≤ r := by omega
      have hr8 := hr.2
      have HR := Lib.hid h
      have HP := Lib.hid hr
      have mixed := mixedP
      have hmg := noGuard
      clear h hs hr
      go_enter Tryz.func70, Tryz.ntmps70
      go_wp2_with (first | (go_at_call 58; refine (S1 _).mono ?_; rintro e w1 ⟨rfl, rfl⟩) | (go_at_call 77; refine (S2 _).mono ?_; rintro e w1 ⟨rfl, rfl⟩))
      clear S1 S2
      go_loopw [5] (RtRel w r l) (fun i _ => n - (intOf i).toNat)
      case atStart => exact ⟨0, Nat.zero_le _, rfl, right_nil HP.out, Grew.refl _⟩
      case round =>
        obtain ⟨k, hk, rfl, hR, gr⟩ := hrel
        by_cases hlt : k < n
        · obtain ⟨b', off, ⟨x0, x1⟩, rfl, hbl, hx, hc0, hc1⟩ := HR.out.cell hlt
          have hgr := gr.below
          have c0 := (hgr.cell (p := ⟨b', off + k * 2, none⟩) hbl).trans hc0
          have c1 := (hgr.cell (p := ⟨b', off + k * 2 + 1, none⟩) hbl).trans hc1
          have M := fun W => refMay_any r (x0, x1) W ⟨hr1, hr8⟩
          have hki : (k : Int) < (n : Int) := by omega
          have hxk : nth l k = (x0, x1) := by have := nth_get (l := l) (j := k) (by omega); rw [hx] at this; exact (Option.some.inj this).symm
          have HRR := Lib.hid hR
          have Hx := Lib.hid hx
          have Hxk := Lib.hid hxk
          unfold bval enc2 at M
          simp only at M c0 c1 hc0 hc1
          clear hR hx hxk
          by_cases hm : May r (x0, x1)
          · rw [decide_eq_true hm] at M
            have HM := Lib.hid hm
            have ox : 0 ≤ x1 ∧ x1 ≤ 8 := ⟨hm.1, by have := hm.2.1; simp only at this; omega⟩
            have px : 0 ≤ x0 ∧ x0 ≤ 256 := ⟨hm.2.2.1, by have h1 := hm.2.2.2.1; have h2 := sz_pos x1; have h3 := sz_le256 hr1 hr8; simp only at h1; omega⟩
            clear hm
            go_wp2_with (go_at_call 72; refine (M _).mono ?_; rintro e w2 ⟨rfl, G2⟩)
            have gr2 := gr.trans G2
            clear M c0 c1 G2
            go_loopw [6] (RtIn w r l k) (fun i _ => k - (intOf i).toNat)
            case atStart => exact ⟨0, Nat.zero_le _, rfl, fun j hj => absurd hj (Nat.not_lt_zero _), gr2⟩
            case round =>
              clear gr2 hgr
              obtain ⟨m, hmk, rfl, hA, gi⟩ := hrel
              by_cases hmlt : m < k
              · have hgi := gi.below
                obtain ⟨b2, off2, ⟨a0, a1⟩, hbo, _, ha, ha0, ha1⟩ := HR.out.cell (show m < n by omega)
                injection hbo with hbo
                injection hbo with hb1 hb2
                subst hb1
                subst hb2
                have hbw : b' < wr.heap.size := Nat.lt_of_lt_of_le hbl hgi.size
                have z0 := cell_grown (a := ⟨b', off + k * 2, none⟩) hbw ((hgi.cell (p := ⟨b', off + k * 2, none⟩) hbl).trans hc0)
                have z1 := cell_grown (a := ⟨b', off + k * 2 + 1, none⟩) hbw ((hgi.cell (p := ⟨b', off + k * 2 + 1, none⟩) hbl).trans hc1)
                have v0 := cell_grown (a := ⟨b', off + m * 2, none⟩) hbw ((hgi.cell (p := ⟨b', off + m * 2, none⟩) hbl).trans ha0)
                have v1 := cell_grown (a := ⟨b', off + m * 2 + 1, none⟩) hbw ((hgi.cell (p := ⟨b', off + m * 2 + 1, none⟩) hbl).trans ha1)
                simp only at z0 z1 v0 v1
                have hmi : (m : Int) < (n : Int) := by omega
                have hmm : (m : Int) < (k : Int) := by omega
                have Hm := Lib.hid (show nth l m = (a0, a1) by have := nth_get (l := l) (j := m) (by omega); rw [ha] at this; exact (Option.some.inj this).symm)
                have hMa : May r (a0, a1) := HRR.out.2.1 _ (List.mem_of_getElem? (i := m) (by rw [List.getElem?_take, if_pos hmlt]; exact ha))
                have oa : 0 ≤ a1 ∧ a1 ≤ 8 := ⟨hMa.1, by have := hMa.2.1; simp only at this; omega⟩
                have pa : 0 ≤ a0 ∧ a0 ≤ 256 := ⟨hMa.2.2.1, by have h1 := hMa.2.2.2.1; have h2 := sz_pos a1; have h3 := sz_le256 hr1 hr8; simp only at h1; omega⟩
                have ME := fun W => refMeet_any (x0, x1) (a0, a1) W ox oa px pa
                have TW := fun W => refTwin_any (x0, x1) W ox px
                obtain ⟨⟨u, v⟩, huv⟩ : ∃ c, c = twin (x0, x1) := ⟨_, rfl⟩
                rw [← huv] at TW
                have q := run_eql_blk u v a0 a1
                have Huv := Lib.hid huv
                have HA := Lib.hid hA
                unfold bval enc2 at ME TW
                simp only at ME TW
                clear ha ha0 ha1 hMa huv hA
                by_cases g1 : x0 ≤ a0
                · have hd1 : decide (x0 ≤ a0) = true := decide_eq_true g1
                  have hbad : ¬ Right r l := fun qq => by have hAh := right_at qq hmlt (by omega); rw [Hm.out, Hxk.out] at hAh; exact absurd hAh.1 (by simp only; omega)
                  go_wp2_with fail
                  refine wp_region_quiet_grown mixed (by kernel_rfl) ?_
                  repeat (go_big_quiet_step ((first | (go_at_call 75; exact calls_grown_says (ME _)) | (go_at_call 123; exact calls_grown_says (TW _)))))
                  refine wpQuiet_nil ?_
                  intro _ hw'
                  obtain ⟨⟨nq, osq⟩, hw''⟩ := hw'
                  subst hw''
                  have G4 := (Grew.refl wr).grow nq osq
                  generalize Go.Sort.grow (wr.drewN nq) osq = w4 at G4 ⊢
                  clear z0 z1 v0 v1 ME TW q
                  go_wp2
                  go_ret
                  exact ⟨by rw [decide_eq_false hbad]; rfl, gi.trans G4⟩
                · have hd1 : decide (x0 ≤ a0) = false := decide_eq_false g1
                  by_cases g2 : Meets (x0, x1) (a0, a1)
                  · rw [decide_eq_true g2] at ME
                    have hbad : ¬ Right r l := fun qq => by have hAh := right_at qq hmlt (by omega); rw [Hm.out, Hxk.out] at hAh; exact hAh.2.1 g2
                    go_wp2_with fail
                    refine wp_region_quiet_grown mixed (by kernel_rfl) ?_
                    repeat (go_big_quiet_step ((first | (go_at_call 75; exact calls_grown_says (ME _)) | (go_at_call 123; exact calls_grown_says (TW _)))))
                    refine wpQuiet_nil ?_
                    intro _ hw'
                    obtain ⟨⟨nq, osq⟩, hw''⟩ := hw'
                    subst hw''
                    have G4 := (Grew.refl wr).grow nq osq
                    generalize Go.Sort.grow (wr.drewN nq) osq = w4 at G4 ⊢
                    clear z0 z1 v0 v1 ME TW q
                    go_wp2
                    go_ret
                    exact ⟨by rw [decide_eq_false hbad]; rfl, gi.trans G4⟩
                  · rw [decide_eq_false g2] at ME
                    by_cases g3 : x1 < r
                    · have hd3 : decide (x1 < r) = true := decide_eq_true g3
                      cases g4 : sameB (u, v) (a0, a1) with
                      | true =>
                        rw [g4] at q
                        have hbad : ¬ Right r l := fun qq => by have hAh := right_at qq hmlt (by omega); rw [Hm.out, Hxk.out] at hAh; exact hAh.2.2 ⟨g3, by rw [← Huv.out]; exact (sameB_iff _ _).1 g4⟩
                        go_wp2_with fail
                        refine wp_region_quiet_grown mixed (by kernel_rfl) ?_
                        repeat (go_big_quiet_step ((first | (go_at_call 75; exact calls_grown_says (ME _)) | (go_at_call 123; exact calls_grown_says (TW _)))))
                        refine wpQuiet_nil ?_
                        intro _ hw'
                        obtain ⟨⟨nq, osq⟩, hw''⟩ := hw'
                        subst hw''
                        have G4 := (Grew.refl wr).grow nq osq
                        generalize Go.Sort.grow (wr.drewN nq) osq = w4 at G4 ⊢
                        clear z0 z1 v0 v1 ME TW q
                        go_wp2
                        go_ret
                        exact ⟨by rw [decide_eq_false hbad]; rfl, gi.trans G4⟩
                      | false =>
                        rw [g4] at q
                        have hAh := Lib.hid (show Ahd r (nth l m) (nth l k) by rw [Hm.out, Hxk.out]; exact ⟨by simp only; omega, g2, fun e => by have := e.2; rw [← Huv.out] at this; rw [(sameB_iff _ _).2 this] at g4; cases g4⟩)
                        go_wp2_with fail
                        refine wp_region_quiet_grown mixed (by kernel_rfl) ?_
                        repeat (go_big_quiet_step ((first | (go_at_call 75; exact calls_grown_says (ME _)) | (go_at_call 123; exact calls_grown_says (TW _)))))
                        refine wpQuiet_nil ?_
                        intro _ hw'
                        obtain ⟨⟨nq, osq⟩, hw''⟩ := hw'
                        subst hw''
                        have G4 := (Grew.refl wr).grow nq osq
                        generalize Go.Sort.grow (wr.drewN nq) osq = w4 at G4 ⊢
                        clear z0 z1 v0 v1 ME TW q
                        go_wp2
                        go_roundw
                        case rel => exact ⟨m + 1, by omega, by go_num, fun j hj => by rcases Nat.lt_or_ge j m with e | e; exact HA.out j e; rw [show j = m by omega]; exact hAh.out, gi.trans G4⟩
                        case measure => simp [intOf]; omega
                    · have hd3 : decide (x1 < r) = false := decide_eq_false g3
                      have hAh := Lib.hid (show Ahd r (nth l m) (nth l k) by rw [Hm.out, Hxk.out]; exact ⟨by simp only; omega, g2, fun e => g3 e.1⟩)
                      go_wp2_with fail
                      refine wp_region_quiet_grown mixed (by kernel_rfl) ?_
                      repeat (go_big_quiet_step ((first | (go_at_call 75; exact calls_grown_says (ME _)) | (go_at_call 123; exact calls_grown_says (TW _)))))
                      refine wpQuiet_nil ?_
                      intro _ hw'
                      obtain ⟨⟨nq, osq⟩, hw''⟩ := hw'
                      subst hw''
                      have G4 := (Grew.refl wr).grow nq osq
                      generalize Go.Sort.grow (wr.drewN nq) osq = w4 at G4 ⊢
                      clear z0 z1 v0 v1 ME TW q
                      go_wp2
                      go_roundw
                      case rel => exact ⟨m + 1, by omega, by go_num, fun j hj => by rcases Nat.lt_or_ge j m with e | e; exact HA.out j e; rw [show j = m by omega]; exact hAh.out, gi.trans G4⟩
                      case measure => simp [intOf]; omega
              · obtain rfl : m = k := by omega
                have hnx := Lib.hid (rtIn_done HRR.out Hx.out HM.out hA)
                clear hA
                go_wp2
                go_roundw
                case rel => exact ⟨m + 1, by omega, by go_num, hnx.out, gi⟩
                case measure => simp [intOf]; omega
          · rw [decide_eq_false hm] at M
            have hbad : ¬ Right r l := fun q => hm (q.2.1 _ (List.mem_of_getElem? Hx.out))
            clear hm
            go_wp2_with (go_at_call 72; refine (M _).mono ?_; rintro e w2 ⟨rfl, G2⟩)
            go_ret
            exact ⟨by rw [decide_eq_false hbad]; rfl, gr.trans G2⟩
        · obtain rfl : k = n := by omega
          rw [List.take_of_length_le (by omega)] at hR
          have HRR := Lib.hid hR
          clear hR
          go_wp2
          go_ret
          exact ⟨by rw [decide_eq_true HRR.out]; rfl, gr⟩
    · have hbad : ¬ Right r l := fun q => hsz (by rw [← hlen]; exact q.len)
      rw [decide_eq_false hbad]
      obtain ⟨s, hs⟩ : ∃ s, s = sz r := ⟨_, rfl⟩
      rw [← hs] at S2 hsz hs1
      have t1 : decide (s < (n : Int)) = true := by simp; omega
      clear h hs hr hbad
      go_enter Tryz.func70, Tryz.ntmps70
      go_wp2_with (first | (go_at_call 58; refine (S1 _).mono ?_; rintro e w1 ⟨rfl, rfl⟩) | (go_at_call 77; refine (S2 _).mono ?_; rintro e w1 ⟨rfl, rfl⟩))
      go_ret
      exact ⟨rfl, Grew.refl _⟩
  · rw [decide_eq_false hr] at S1
    have hbad : ¬ Right r l := fun q => hr q.1
    rw [decide_eq_false hbad]
    clear h hr hbad
    go_enter Tryz.func70, Tryz.ntmps70
    go_wp2_with (go_at_call 58; refine (S1 _).mono ?_; rintro e w1 ⟨rfl, rfl⟩)
    go_ret
    exact ⟨rfl, Grew.refl _⟩
theorem OwnB.rd {U : TypeId} {w : World} {base : Nat} {v : Value} {l : List Blk} (h : OwnB U w base v l) : ∃ A c, v = .slice A l.length c ∧ RdS w A l.length l := by
  obtain ⟨A, c, hv, _, _, r, _⟩ := h.shape rfl
  exact ⟨A, c, hv, r⟩
theorem OwnB.rdn {U : TypeId} {w : World} {base n : Nat} {v : Value} {l : List Blk} (h : OwnB U w base v l) (hn : l.length = n) : ∃ A c, v = .slice A n c ∧ RdS w A n l := by
  subst hn
  exact h.rd
end Go.Proofs.YtlnmmklpccppmaaGreatDoor
namespace Go.Proofs.YtlnmmklpccppmaaGreatDoor
open Go.RowKit
/-- The methods by which blocks wait. -/
def mSize : Value := .func (.methodOf 193 "tumulus/buddy.size") #[] #[]
def mSwap : Value := .func (.methodOf 193 "tumulus/buddy.swap") #[] #[]
def mPush : Value := .func (.methodOf 193 "tumulus/buddy.push") #[] #[]
def mPop : Value := .func (.methodOf 193 "tumulus/buddy.pop") #[] #[]
def mLess : Value := .func (.func 198) #[] #[]
/-- The cells of a queue. -/
def qcs (g : Nat) : List Value := [.pointer (some ⟨g, 0, none⟩), mSize, mLess, mSwap, mPush, mPop]
/-- What waits: block g is the struct, whose list is v, of the call's own. -/
structure QAt (w : World) (base g : Nat) (v : Value) (l : List Blk) : Prop where
  at_ : Whole w g 207 [v]
  own : OwnB 65 w base v l
  lo : base ≤ g
theorem QAt.below {w w' : World} {base g : Nat} {v : Value} {l : List Blk} (h : QAt w base g v l) (b : Below w.heap.size w w') : QAt w' base g v l := ⟨h.at_.below b, h.own.below b, h.lo⟩
theorem QAt.ne {w : World} {base g n c : Nat} {A : Addr} {l : List Blk} (h : QAt w base g (.slice (some A) n c) l) : A.block ≠ g := by
  obtain ⟨h1, h2, _⟩ := h
  rcases h2.2 with ⟨e, _⟩ | ⟨g', cap, cur, e, _, hh, _⟩
  · cases e
  · injection e with e _ _
    injection e with e
    subst e
    rintro rfl
    unfold Whole at h1
    rw [hh] at h1
    injection h1 with h1
    injection h1 with _ ht
    exact absurd ht (by decide)
/-- What a call that works on what waits leaves beside it: all else as it was. -/
structure QStep (w w' : World) (g : Nat) (v v' : Value) : Prop where
  os : w'.os = w.os
  tape : w'.tape = w.tape
  output : w'.output = w.output
  size : w.heap.size ≤ w'.heap.size
  block : ∀ k, k < w.heap.size → k ≠ g → v.ownBlock ≠ some k → w'.heap[k]? = w.heap[k]?
  own : v'.ownBlock = v.ownBlock ∨ ∃ k, v'.ownBlock = some k ∧ w.heap.size ≤ k
theorem QStep.of_below {w w' : World} (h : Below w.heap.size w w') (g : Nat) (v : Value) : QStep w w' g v v := ⟨h.os, h.tape, h.output, h.size, fun k hk _ _ => h.block k hk, .inl rfl⟩
theorem QStep.trans {a b c : World} {g : Nat} {u v x : Value} (h : QStep a b g u v) (k : QStep b c g v x) : QStep a c g u x where
  os := k.os.trans h.os
  tape := k.tape.trans h.tape
  output := k.output.trans h.output
  size := Nat.le_trans h.size k.size
  block := fun i hi hg hu => by
    refine (k.block i (Nat.lt_of_lt_of_le hi h.size) hg ?_).trans (h.block i hi hg hu)
    rcases h.own with e | ⟨m, e, hm⟩
    · rw [e]; exact hu
    · rw [e]
      intro e2
      injection e2 with e2
      omega
  own := by
    rcases k.own with e | ⟨m, e, hm⟩
    · rw [e]; exact h.own
    · exact .inr ⟨m, e, Nat.le_trans h.size hm⟩
theorem QStep.below {a b : World} {base g : Nat} {v v' : Value} {l : List Blk} (h : QStep a b g v v') (q : QAt a base g v l) {B : Nat} (hB : B ≤ base) : Below B a b := 
  ⟨h.os, h.tape, h.output, h.size, fun k hk => h.block k (by have := q.at_.lt; have := q.lo; omega) (by have := q.lo; omega) fun e => by have := q.own.lt k e; omega⟩
/-- What a call that works on what waits leaves. -/
def Waits (w : World) (base g : Nat) (v : Value) (l : List Blk) (v' : Value) (w' : World) : Prop := QAt w' base g v' l ∧ QStep w w' g v v'
end Go.Proofs.YtlnmmklpccppmaaGreatDoor
namespace Go.Proofs.YtlnmmklpccppmaaGreatDoor
open Go.RowKit
theorem QAt.off {w : World} {base g : Nat} {v : Value} {l : List Blk} (h : QAt w base g v l) : v.ownBlock ≠ some g := by
  intro e
  rcases h.own.2 with ⟨e2, _⟩ | ⟨g', cap, cur, e2, _, hh, _⟩
  · rw [e2] at e; cases e
  · rw [e2] at e
    injection e with e
    have h3 := h.at_
    unfold Whole at h3
    rw [← e, hh] at h3
    injection h3 with h3
    injection h3 with _ ht
    exact absurd ht (by decide)
theorem Waits.below {w w1 w2 : World} {base g : Nat} {v v' : Value} {l : List Blk} (h : Waits w base g v l v' w1) (b : Below w1.heap.size w1 w2) : Waits w base g v l v' w2 := ⟨h.1.below b, h.2.trans (QStep.of_below b g v')⟩
theorem Waits.trans {w w1 w2 : World} {base g : Nat} {v v' v'' : Value} {l m : List Blk} (h : Waits w base g v l v' w1) (k : Waits w1 base g v' m v'' w2) : Waits w base g v m v'' w2 := ⟨k.1, h.2.trans k.2⟩
theorem QAt.waits {w w1 : World} {base g : Nat} {v : Value} {l : List Blk} (h : QAt w base g v l) (b : Below w.heap.size w w1) : Waits w base g v l v w1 := ⟨h.below b, QStep.of_below b g v⟩
end Go.Proofs.YtlnmmklpccppmaaGreatDoor
