/-
  Taking a block, by the program: contract of Take.
  What is taken, given back: plain mathematics. How many words right blocks have.
  How many words of a map are true that is the map of right blocks: plain mathematics.
-/
import Derived.Test.YtlnmmklpccppmaaGreatDoorTg12
namespace Go.Proofs.YtlnmmklpccppmaaGreatDoor
open Go.RowKit
set_option maxHeartbeats 1000000 in
theorem take_refused (r : Int) (A : Option Addr) (n c : Nat) (l : List Blk) (t : Int) (w : World) (h : RdS w A n l) (hn : n ≤ 1000) (hT : Tab w) (hm : mayTk r l t = false) :
    Calls Tryz.prog 137 #[.int .i64 r, .slice A n c, .int .i64 t] w (TakePost w r l t) := by
  have hB := (Below.refl w.heap.size w).alloc (Nat.le_refl _) (.cells #[.int .i64 0, .int .i64 0] 65)
  have S := mayTake_any r A n c l t _ (h.below hB) hn (hT.below hB)
  rw [hm] at S
  have HK := Lib.hid (Whole.new w #[.int .i64 0, .int .i64 0] 65)
  have HB := Lib.hid hB
  have hres := Lib.hid (show TakeRes r l t (0, 0) [] 1 from .inl ⟨hm, rfl, rfl, rfl⟩)
  clear h hB hT hm
  go_enter Tryz.func137, Tryz.ntmps137
  go_wp2_with (go_at_call 154; refine S.mono ?_; rintro e w2 ⟨rfl, b2⟩; have K := Lib.hid (HK.out.below b2); have c0 := K.out.cell 0; have c1 := K.out.cell 1; have f0 := K.out.free)
  obtain ⟨K2, P⟩ := refused_post (b := (0, 0)) hres.out K.out (HB.out.trans (b2.mono HB.out.size)) rfl
  exact bodyPost_ret (results_box3 (b := (0, 0)) (p := 6) (q := 7) (u := 8) rfl _ _ w.heap.size rfl (K2.cell 0) (K2.cell 1)) rfl P
set_option maxHeartbeats 1000000 in
theorem take_full (r : Int) (A : Option Addr) (n c : Nat) (l : List Blk) (t : Int) (w : World) (h : RdS w A n l) (hn : n ≤ 1000) (hT : Tab w) (hm : mayTk r l t = true) (hr : roomB l t = false) :
    Calls Tryz.prog 137 #[.int .i64 r, .slice A n c, .int .i64 t] w (TakePost w r l t) := by
  have hB := (Below.refl w.heap.size w).alloc (Nat.le_refl _) (.cells #[.int .i64 0, .int .i64 0] 65)
  have S := mayTake_any r A n c l t _ (h.below hB) hn (hT.below hB)
  have S2 := fun W (b : Below w.heap.size w W) => hasRoom_any A n c l t W (h.below b) hn
  rw [hm] at S
  rw [hr] at S2
  have HK := Lib.hid (Whole.new w #[.int .i64 0, .int .i64 0] 65)
  have HB := Lib.hid hB
  have hres := Lib.hid (show TakeRes r l t (0, 0) [] 40 from .inr (.inl ⟨hm, hr, rfl, rfl, rfl⟩))
  clear h hB hT hm hr
  go_enter Tryz.func137, Tryz.ntmps137
  go_wp2_with (first | (go_at_call 154; refine S.mono ?_; rintro e w2 ⟨rfl, b2⟩; have B2 := HB.out.trans (b2.mono HB.out.size)) | (go_at_call 155; refine (S2 w2 B2).mono ?_; rintro e w3 ⟨rfl, b3⟩; have K := Lib.hid ((HK.out.below b2).below b3); have c0 := K.out.cell 0; have c1 := K.out.cell 1; have f0 := K.out.free))
  obtain ⟨K2, P⟩ := refused_post (b := (0, 0)) hres.out K.out (B2.trans (b3.mono B2.size)) rfl
  exact bodyPost_ret (results_box3 (b := (0, 0)) (p := 6) (q := 7) (u := 8) rfl _ _ w.heap.size rfl (K2.cell 0) (K2.cell 1)) rfl P
/-- Memory while a block is taken: the queue's box, the block's, the result's. -/
structure TkMem (w : World) (kq kb g : Nat) (b : Blk) (H : List Blk) (vq : Value) (L : List Blk) (v : Value) (wr : World) : Prop where
  qs : QS w w.heap.size w.heap.size [kb, kq, w.heap.size] g H vq L v wr
  kb_ : Whole wr kb 65 [.int .i64 b.1, .int .i64 b.2]
  kq_ : Whole wr kq 202 (qcs g)
  kr_ : Whole wr w.heap.size 65 [.int .i64 0, .int .i64 0]
  ne : kb ≠ kq ∧ kb ≠ w.heap.size ∧ kq ≠ w.heap.size
section
variable {w wr w2 : World} {kq kb g : Nat} {b : Blk} {H H' L L' : List Blk} {vq vq' v v' : Value}
theorem TkMem.below (M : TkMem w kq kb g b H vq L v wr) (h : Below wr.heap.size wr w2) : TkMem w kq kb g b H vq L v w2 :=
  ⟨M.qs.below h, M.kb_.below h, M.kq_.below h, M.kr_.below h, M.ne⟩
theorem TkMem.app (M : TkMem w kq kb g b H vq L v wr) (k : AppB 65 wr w.heap.size v L' v' w2) : TkMem w kq kb g b H vq L' v' w2 := by
  obtain ⟨q, hk⟩ := M.qs.app k
  exact ⟨q, M.kb_.keep (hk _ (by simp)), M.kq_.keep (hk _ (by simp)), M.kr_.keep (hk _ (by simp)), M.ne⟩
theorem TkMem.waits (M : TkMem w kq kb g b H vq L v wr) (k : Waits wr w.heap.size g vq H' vq' w2) (hh : HeapFrom H' H'.length 0) : TkMem w kq kb g b H' vq' L v w2 := by
  obtain ⟨q, hk⟩ := M.qs.waits k hh
  exact ⟨q, M.kb_.keep (hk _ (by simp)), M.kq_.keep (hk _ (by simp)), M.kr_.keep (hk _ (by simp)), M.ne⟩
theorem TkMem.store1 (M : TkMem w kq kb g b H vq L v wr) (o : Int) : TkMem w kq kb g (b.1, o) H vq L v (wr.setCell ⟨kb, 1, none⟩ (.int .i64 o)) := by
  obtain ⟨q, hk⟩ := M.qs.store (r := kb) (by simp) (grown_set wr kb 1 (.int .i64 o))
  exact ⟨q, M.kb_.set 1 (.int .i64 o), M.kq_.keep (hk _ (by simp) (fun e => M.ne.1 e.symm)), M.kr_.keep (hk _ (by simp) (fun e => M.ne.2.1 e.symm)), M.ne⟩
theorem TkMem.store0 (M : TkMem w kq kb g b H vq L v wr) (x : Int) : TkMem w kq kb g (x, b.2) H vq L v (wr.setCell ⟨kb, 0, none⟩ (.int .i64 x)) := by
  obtain ⟨q, hk⟩ := M.qs.store (r := kb) (by simp) (grown_set wr kb 0 (.int .i64 x))
  exact ⟨q, M.kb_.set 0 (.int .i64 x), M.kq_.keep (hk _ (by simp) (fun e => M.ne.1 e.symm)), M.kr_.keep (hk _ (by simp) (fun e => M.ne.2.1 e.symm)), M.ne⟩
theorem TkMem.rise (M : TkMem w kq kb g b H vq L v wr) (k : wr.grownBy w2 v.ownBlock) : Whole w2 kb 65 [.int .i64 b.1, .int .i64 b.2] ∧ Whole w2 w.heap.size 65 [.int .i64 0, .int .i64 0] ∧ Below w.heap.size w w2 := by
  have h1 := M.qs.boxes kb (by simp)
  have h2 := M.qs.boxes w.heap.size (by simp)
  exact ⟨M.kb_.keep (k.block _ h1.1 (fun e => h1.2.2.2.2 e.symm)), M.kr_.keep (k.block _ h2.1 (fun e => h2.2.2.2.2 e.symm)), M.qs.bel.grown k M.qs.small fun j hj => (M.qs.row.lt j hj).1⟩
theorem TkMem.store (M : TkMem w kq kb g b H vq L v wr) (x o : Int) : TkMem w kq kb g (x, o) H vq L v ((wr.setCell ⟨kb, 0, none⟩ (.int .i64 x)).setCell ⟨kb, 1, none⟩ (.int .i64 o)) := (M.store0 x).store1 o
end
theorem twin_half {r o : Int} {B : Blk} (hr : r ≤ 8) (hB : May r B) (h0 : 0 ≤ o) (ho : o < B.2) : twin (B.1, o) = (B.1 + sz o, o) := by
  have hc : IsHalf B o (B.1 + sz o, o) := ⟨Int.le_refl _, ho, rfl⟩
  obtain ⟨h1, _, _, h4, _⟩ := half_may hr h0 hB hc
  have := twin_twin hr h1
  rw [h4] at this
  exact this
def Tk1Rel (w : World) (l : List Blk) (t : Int) (kq kb g : Nat) (gg : Nat) (v : Value) (wr : World) : Prop :=
  ∃ b H vq L, H.length ≤ gg ∧ TkMem w kq kb g b H vq L v wr ∧ Tk1 l t b H L
def Tk2Rel (w : World) (l : List Blk) (t : Int) (B : Blk) (H : List Blk) (vq : Value) (kq kb g : Nat) (gg : Nat) (v : Value) (wr : World) : Prop :=
  ∃ o M, t ≤ o ∧ o ≤ B.2 ∧ (o - t).toNat ≤ gg ∧ TkMem w kq kb g (B.1, o) H vq M v wr ∧ Tk2 l B o H M ∧ (M.length : Int) + o ≤ 300
set_option maxRecDepth 100000 in
set_option maxHeartbeats 8000000 in
theorem take_in (r : Int) (A : Option Addr) (n c : Nat) (l : List Blk) (t : Int) (w : World) (h : RdS w A n l) (hn : n ≤ 1000) (hT : Tab w) (hm : mayTk r l t = true) (hr : roomB l t = true) :
    Calls Tryz.prog 137 #[.int .i64 r, .slice A n c, .int .i64 t] w (TakePost w r l t) := by
  have hB := (Below.refl w.heap.size w).alloc (Nat.le_refl _) (.cells #[.int .i64 0, .int .i64 0] 65)
  have S := mayTake_any r A n c l t _ (h.below hB) hn (hT.below hB)
  have S2 := fun W (b : Below w.heap.size w W) => hasRoom_any A n c l t W (h.below b) hn
  have S3 := fun W (b : Below w.heap.size w W) => wait_any A n c l W (h.below b) hn
  rw [hm] at S
  rw [hr] at S2
  have hm2 := hm
  unfold mayTk at hm2
  rw [Bool.and_eq_true, Bool.and_eq_true, decide_eq_true_iff, decide_eq_true_iff, decide_eq_true_iff] at hm2
  obtain ⟨hR, h0, h1⟩ := hm2
  have HK := Lib.hid (Whole.new w #[.int .i64 0, .int .i64 0] 65)
  have HB := Lib.hid hB
  have HM := Lib.hid hm
  have HRm := Lib.hid hr
  have HRt := Lib.hid hR
  have hlen := Lib.hid h.len
  have hz0 : (w.alloc (.cells #[.int .i64 0, .int .i64 0] 65)).heap.size = w.heap.size + 1 := by simp
  clear h hB hT hm hr hR
  go_enter Tryz.func137, Tryz.ntmps137
  go_upto_region 7 with (first | (go_at_call 154; refine S.mono ?_; rintro e w2 ⟨rfl, b2⟩; have B2 := HB.out.trans (b2.mono HB.out.size)) | (go_at_call 155; refine (S2 w2 B2).mono ?_; rintro e w3 ⟨rfl, b3⟩; have B3 := B2.trans (b3.mono B2.size)) | (go_at_call 156; refine (S3 w3 B3).mono ?_; rintro e w4 ⟨g, vq, H, he, qa, hp, hheap, b4⟩; unfold qv qcs mSize mLess mSwap mPush mPop at he; subst he))
  have hw3 : w.heap.size + 1 ≤ w3.heap.size := by rw [← hz0]; exact Nat.le_trans b2.size b3.size
  have hg := qa.lo
  have qs4 : QS w w.heap.size w.heap.size [w.heap.size] g H vq [] (.slice none 0 0) w4 := ⟨⟨qa.at_, qa.own.mono (by omega), by omega⟩, hheap, OwnB.nil, (fun e => by cases e), (fun _ _ e => by cases e), (fun s hs => by
    rw [List.mem_singleton.1 hs]
    exact ⟨by have := b4.size; omega, Nat.le_refl _, by omega, fun e => by have := (qa.own.lt _ e).1; omega, fun e => by cases e⟩), B3.trans (b4.mono B3.size), Nat.le_refl _, by have := b4.size; omega⟩
  have K4 := ((HK.out.below b2).below b3).below (b4.mono (Nat.le_refl _))
  have hA := (Below.refl w4.heap.size w4).alloc (Nat.le_refl _) (.cells (qcs g).toArray 202)
  have K5 : Whole (w4.alloc (.cells (qcs g).toArray 202)) w4.heap.size 202 (qcs g) := Whole.new w4 (qcs g).toArray 202
  have qs5 := qs4.add hA (Nat.le_refl _) (by simp)
  have R5 := K4.below hA
  have hne5 : w.heap.size < w4.heap.size := by have := b4.size; omega
  clear qs4 qa hA S S2 S3 K4
  obtain ⟨kq, hkq⟩ : ∃ k, k = w4.heap.size := ⟨_, rfl⟩
  unfold qcs mSize mLess mSwap mPush mPop at K5
  unfold qcs mSize mLess mSwap mPush mPop at qs5
  unfold qcs mSize mLess mSwap mPush mPop at R5
  rw [← hkq] at K5 qs5 hne5 ⊢
  clear hkq
  generalize w4.alloc (.cells _ 202) = w5 at K5 qs5 R5 ⊢
  have c0 := K5.cell 0
  have c1 := K5.cell 1
  have c2 := K5.cell 2
  have c3 := K5.cell 3
  have c4 := K5.cell 4
  have c5 := K5.cell 5
  have hHl := hp.length_eq
  have hl256 := HRt.out.len256
  have hH0 : H.length ≠ 0 := fun e => by
    have h2 := HRm.out
    rw [show l = [] from List.eq_nil_of_length_eq_zero (by omega)] at h2
    cases h2
  obtain ⟨m, hm⟩ : ∃ m, H.length = m + 1 := ⟨H.length - 1, by omega⟩
  have S5 := qnext_any w.heap.size g vq H m w5 qs5.q hm (by omega) hheap
  obtain ⟨⟨x, o⟩, hx⟩ : ∃ x, x = nth H 0 := ⟨_, rfl⟩
  rw [← hx] at S5
  unfold qv qcs bval enc2 mSize mLess mSwap mPush mPop at S5
  simp only at S5
  clear hx
  go_upto_region 8 with (go_at_call 157; refine S5.mono ?_; rintro e w6 ⟨rfl, H2, vq2, hp2, hmin, hheap2, hwt2⟩)
  obtain ⟨qs6, hk6⟩ := qs5.waits hwt2 hheap2
  have Kq6 := K5.keep (hk6 _ (by simp))
  have Kr6 := R5.keep (hk6 _ (by simp))
  have hA6 := (Below.refl w6.heap.size w6).alloc (Nat.le_refl _) (.cells #[.int .i64 x, .int .i64 o] 65)
  have hkq6 := (qs6.boxes kq (by simp)).1
  have M7 : TkMem w kq w6.heap.size g (x, o) H2 vq2 [] (.slice none 0 0) (w6.alloc (.cells #[.int .i64 x, .int .i64 o] 65)) :=
    ⟨qs6.add hA6 (Nat.le_refl _) (by simp), Whole.new w6 #[.int .i64 x, .int .i64 o] 65, Kq6.below hA6, Kr6.below hA6, by omega, by omega, by omega⟩
  have I7 : Tk1 l t (x, o) H2 [] := ⟨by rw [List.append_nil]; exact hp2.trans hp, (fun c hc => by cases hc), hmin⟩
  clear qs5 K5 R5 S5 hwt2 qs6 hk6 Kq6 Kr6 hA6 c0 c1 c2 c3 c4 c5
  obtain ⟨kb, hkb⟩ : ∃ k, k = w6.heap.size := ⟨_, rfl⟩
  rw [← hkb] at M7 ⊢
  clear hkb
  generalize w6.alloc (.cells #[.int .i64 x, .int .i64 o] 65) = w7 at M7 ⊢
  go_loopg [10] H2.length (fun gg v wr => Tk1Rel w l t kq kb g gg v wr)
  case atStart => exact ⟨(x, o), H2, vq2, [], Nat.le_refl _, M7, I7⟩
  case round =>
    clear M7 I7 hp2 hmin hheap2 hp hheap hm hH0 hHl hkq6 hne5
    obtain ⟨⟨x1, o1⟩, H1, vq1, L1, hg1, M, I⟩ := hrel
    obtain ⟨A2, ca, rfl, r2⟩ := M.qs.row.rd
    have hlens := I.perm.length_eq
    simp only [List.length_append, List.length_cons] at hlens
    have hl1 : L1.length ≤ 300 := by omega
    have hl2 : H1.length ≤ 300 := by omega
    have hle := Lib.hid hlens
    clear hlens
    have d0 := M.kb_.cell 0
    have d1 := M.kb_.cell 1
    have df := M.kb_.free
    simp only at d0 d1
    by_cases hlt : o1 < t
    · have kd : decide (o1 < t) = true := decide_eq_true hlt
      have hmo := I.more hlt HRm.out
      obtain ⟨v8, w8, hap, happ⟩ := run_appB_one (P := Tryz.prog) w.heap.size 24 24 65 Tryz.underlying24 Tryz.infoBlk2 rfl _ _ M.qs.row (x1, o1) (by omega) M.qs.lo2
      have M8 := M.app happ
      simp only at hap
      obtain ⟨m1, hm1⟩ : ∃ m, H1.length = m + 1 := ⟨H1.length - 1, by omega⟩
      have S8 := qnext_any w.heap.size g vq1 H1 m1 w8 M8.qs.q hm1 (by omega) M8.qs.heap
      obtain ⟨⟨x2, o2⟩, hx2⟩ : ∃ x, x = nth H1 0 := ⟨_, rfl⟩
      rw [← hx2] at S8
      unfold qv qcs bval enc2 mSize mLess mSwap mPush mPop at S8
      simp only at S8
      have Kq := M8.kq_
      unfold qcs mSize mLess mSwap mPush mPop at Kq
      have c0 := Kq.cell 0
      have c1 := Kq.cell 1
      have c2 := Kq.cell 2
      have c3 := Kq.cell 3
      have c4 := Kq.cell 4
      have c5 := Kq.cell 5
      have HM8 := Lib.hid M8
      have HI := Lib.hid I
      clear M M8 Kq I happ hx2 hmo
      go_wp2_with (first | (at_builtin; refine wpList_append_run hap rfl _ _ rfl rfl rfl rfl ?_) | (go_at_call 157; refine S8.mono ?_; rintro e w9 ⟨rfl, H2, vq2, hp2, hmin, hheap2, hwt2⟩; have M9 := Lib.hid (HM8.out.waits hwt2 hheap2); have e0 := M9.out.kb_.cell 0; have e1 := M9.out.kb_.cell 1; have ef := M9.out.kb_.free))
      have hlp := Lib.hid hp2.length_eq
      go_roundg H2.length
      case measure => have := hlp.out; simp at this; omega
      case rel => exact ⟨(x2, o2), H2, vq2, _, Nat.le_refl _, M9.out.store x2 o2, HI.out.next hlt hp2 hmin⟩
    · have kd : decide (o1 < t) = false := decide_eq_false hlt
      obtain ⟨hBl, hBq⟩ := I.best
      have hMB := HRt.out.may hBl
      have hI2 := Tk2.start HRt.out I
      simp only at hI2
      have hMB0 := hMB
      obtain ⟨q0, q1, _, _, _⟩ := hMB0
      simp only at q0 q1
      have hr8 := HRt.out.1.2
      go_upto_region 11 with fail
      go_loopg [10] (o1 - t).toNat (fun gg v wr => Tk2Rel w l t (x1, o1) H1 vq1 kq kb g gg v wr)
      case atStart => exact ⟨o1, L1, by omega, Int.le_refl _, Nat.le_refl _, M, hI2, by have := hle.out; omega⟩
      case round =>
        clear M hI2 d0 d1 df r2 kd I
        obtain ⟨o3, M3, ho1, ho2, hg3, M, I, hml⟩ := hrel
        obtain ⟨A3, ca3, rfl, r3⟩ := M.qs.row.rd
        simp only at ho2
        have d0 := M.kb_.cell 0
        have d1 := M.kb_.cell 1
        have df := M.kb_.free
        simp only at d0 d1
        have hl3 : M3.length ≤ 300 := by omega
        by_cases hlt3 : t < o3
        · have kd : decide (t < o3) = true := decide_eq_true hlt3
          have hwo : IntKind.i64.wrap (o3 - 1) = o3 - 1 := by rw [IntKind.wrap_i64]; omega
          have M8 := M.store1 (o3 - 1)
          go_upto_region 13 with (fail)
          simp only at M8
          generalize wr.setCell ⟨kb, 1, none⟩ (.int .i64 (o3 - 1)) = w8 at M8 ⊢
          have T := fun W => twin_any (x1, o3 - 1) W ⟨by simp only; omega, by simp only; omega⟩ (may_box hr8 hMB).2
          have hst := Lib.hid (I.step HRt.out hBl (by omega) ho2)
          rw [twin_half hr8 hMB (by omega) (by simp only; omega)] at T
          simp only at hst
          obtain ⟨s, hs⟩ : ∃ s, s = sz (o3 - 1) := ⟨_, rfl⟩
          simp only [← hs] at T hst
          clear hs
          unfold bval enc2 at T
          simp only at T
          have HM8 := Lib.hid M8
          clear d0 d1 df kd hwo M I r3
          have d0 := M8.kb_.cell 0
          have d1 := M8.kb_.cell 1
          simp only at d0 d1
          clear M8
          go_wp2_with (first | (go_at_call 158; refine (T _).mono ?_; rintro e w9 ⟨rfl, g9⟩; have M9 := HM8.out.below g9.below; obtain ⟨v10, w10, hap, happ⟩ := run_appB_one (P := Tryz.prog) w.heap.size 24 24 65 Tryz.underlying24 Tryz.infoBlk2 rfl _ _ M9.qs.row (x1 + s, o3 - 1) (by omega) M9.qs.lo2; simp only at hap; have M10 := Lib.hid (M9.app happ); clear M9 happ) | (at_builtin; refine wpList_append_run hap rfl _ _ rfl rfl rfl rfl ?_))
          go_roundg (o3 - 1 - t).toNat
          case measure => omega
          case rel => exact ⟨o3 - 1, _, by omega, by simp only; omega, Nat.le_refl _, M10.out, hst.out, by simp; omega⟩
        · obtain rfl : o3 = t := by omega
          have kd : decide (o3 < o3) = false := by simp
          obtain ⟨Aq, cq, hvq, rq⟩ := M.qs.q.own.rd
          have MD := M.below (Below.refl _ _).drew
          obtain ⟨vA, wA, hap, happ⟩ := run_appB (P := Tryz.prog) (w := wr.drew) w.heap.size 24 24 65 Tryz.underlying24 Tryz.infoBlk2 rfl _ _ MD.qs.row Aq H1.length cq H1 (rq.below (Below.refl _ _).drew) (by omega) MD.qs.lo2
          have MA := MD.app happ
          rw [← append_ts _ _ 205 _ 65 Tryz.underlying24 Tryz.underlying205] at hap
          have a0 := MA.kb_.cell 0
          have a1 := MA.kb_.cell 1
          have R := rising_any w.heap.size vA (M3 ++ H1) wA MA.qs.row (by simp; omega)
          have c0 := M.kq_.cell 0
          have cg := M.qs.q.at_.cell 0
          rw [hvq] at cg
          simp only at a0 a1
          unfold qcs at c0
          have HMA := Lib.hid MA
          have HI := Lib.hid I
          clear MA MD happ I rq
          go_wp2_with fail
          go_region_law (first | (refine step_append_run hap rfl (.tmp 51) (.tmp 56) rfl rfl rfl rfl ?_) | (rw [if_pos (by simp [Region.wanted])]; unfold Oper.wp; go_simp; refine R.mono ?_; rintro e wB ⟨m', rfl, hpm, hsm, hom, gb⟩; have KB := HMA.out.rise gb; have e0 := KB.1.cell 0; have e1 := KB.1.cell 1; have z0 := KB.2.1.cell 0; have z1 := KB.2.1.cell 1; have zf := KB.2.1.free; dsimp only))
          all_goals
            obtain ⟨KB1, KR, BB⟩ := HMA.out.rise gb
            have K2 := (KR.set 0 (.int .i64 x1)).set 1 (.int .i64 o3)
            have G2 := grown_trans (grown_set wB w.heap.size 0 (.int .i64 x1)) (grown_set _ w.heap.size 1 (.int .i64 o3))
            have HT2 := Lib.hid (show TakePost w r l o3 (.returned (.tuple #[bval (x1, o3), vA, .int .i64 0])) ((wB.setCell ⟨w.heap.size, 0, none⟩ (.int .i64 x1)).setCell ⟨w.heap.size, 1, none⟩ (.int .i64 o3)) from
              ⟨(x1, o3), m', 0, vA, rfl, .inr (.inr ⟨HM.out, HRm.out, rfl, HI.out.done hBl ho2 hBq hpm hsm⟩), hom.grown G2 (fun k hk => by have := (HMA.out.qs.boxes w.heap.size (by simp)).2.2.2.2; intro e; injection e with e; exact this (e ▸ hk)), below_grown BB G2 BB.size (Nat.le_refl _)⟩)
            clear e0 e1 z0 z1 zf a0 a1 c0 cg hap R KB gb hom hpm hsm
            go_wp2
            exact bodyPost_ret (results_box3 (b := (x1, o3)) (p := 6) (q := 7) (u := 8) rfl _ _ w.heap.size rfl (K2.cell 0) (K2.cell 1)) rfl HT2.out
theorem take_any (r : Int) (A : Option Addr) (n c : Nat) (l : List Blk) (t : Int) (w : World) (h : RdS w A n l) (hn : n ≤ 1000) (hT : Tab w) :
    Calls Tryz.prog 137 #[.int .i64 r, .slice A n c, .int .i64 t] w (TakePost w r l t) := by
  cases hm : mayTk r l t with
  | false => exact take_refused r A n c l t w h hn hT hm
  | true =>
    cases hr : roomB l t with
    | false => exact take_full r A n c l t w h hn hT hm hr
    | true => exact take_in r A n c l t w h hn hT hm hr
end Go.Proofs.YtlnmmklpccppmaaGreatDoor
namespace Go.Proofs.YtlnmmklpccppmaaGreatDoor
open Go.RowKit
theorem Took.fits {r t : Int} {l m : List Blk} {b : Blk} (hR : Right r l) (ht : 0 ≤ t) (h : Took l t b m) : Fits r m b := by
  obtain ⟨h1, h2, h3⟩ := h.may hR ht
  obtain ⟨h4, h5⟩ := h.right hR ht
  refine ⟨h1, fun a ha hm => ?_⟩
  have hpa := sz_pos a.2
  have hpb := sz_pos b.2
  obtain ⟨y, hy1, hy2⟩ : ∃ y, InB b y ∧ InB a y := ⟨max b.1 a.1, by unfold InB; have := hm.1; have := hm.2; omega, by unfold InB; have := hm.1; have := hm.2; omega⟩
  exact ((h5 y).1 ⟨a, ha, hy2⟩).2 hy1
/-- What is taken and given back leaves what was. -/
theorem Took.back {r t : Int} {l m : List Blk} {b : Blk} (hR : Right r l) (ht : 0 ≤ t) (h : Took l t b m) : GiveRes r m b l 0 := by
  obtain ⟨h1, h2, h3⟩ := h.may hR ht
  obtain ⟨h4, h5⟩ := h.right hR ht
  refine .inr (.inr ⟨h4, h.fits hR ht, rfl, hR, fun x => ?_⟩)
  rw [h5 x]
  constructor
  · intro hx
    by_cases hb : InB b x
    · exact .inr hb
    · exact .inl ⟨hx, hb⟩
  · rintro (hx | hx)
    · exact hx.1
    · exact h3 x hx
theorem sumL_cons (b : Blk) (l : List Blk) : sumL (b :: l) = sz b.2 + sumL l := by simp [sumL]
theorem sumL_append (l m : List Blk) : sumL (l ++ m) = sumL l + sumL m := by simp [sumL]
theorem sumL_perm {l m : List Blk} (h : l.Perm m) : sumL l = sumL m := by
  induction h with
  | nil => rfl
  | cons x _ ih => rw [sumL_cons, sumL_cons, ih]
  | swap x y l => simp only [sumL_cons]; omega
  | trans _ _ h1 h2 => exact h1.trans h2
/-- Take's list by steps: the sum goes with them. -/
theorem halves_sum {r t : Int} {l : List Blk} {B : Blk} (hR : Right r l) (hB : B ∈ l) (ht : 0 ≤ t) : ∀ (n : Nat), (n : Int) ≤ B.2 - t → ∃ m, TkInv l B (B.2 - n) m ∧ sumL m + sz (B.2 - n) = sumL l
  | 0, _ => by
    have hp := woL_perm (rest := l.erase B) hR (List.perm_cons_erase hB).symm
    refine ⟨woL l B, by simpa using TkInv.start hR, ?_⟩
    have h1 := sumL_perm (List.perm_cons_erase hB)
    rw [sumL_cons] at h1
    have h2 := sumL_perm hp
    simp only [Int.natCast_zero, Int.sub_zero]
    omega
  | n + 1, hn => by
    obtain ⟨m, h1, h2⟩ := halves_sum hR hB ht n (by omega)
    have h3 := TkInv.step hR hB (by omega) (by omega) h1
    refine ⟨_, by rw [show B.2 - ((n + 1 : Nat) : Int) = B.2 - n - 1 by omega]; exact h3, ?_⟩
    rw [show B.2 - ((n + 1 : Nat) : Int) = B.2 - n - 1 by omega, sumL_perm (ins_perm _ m), sumL_cons]
    have h4 := sz_succ (o := B.2 - n - 1) (by omega)
    rw [show B.2 - (n : Int) - 1 + 1 = B.2 - n by omega] at h4
    simp only
    omega
theorem Took.sum {r t : Int} {l m : List Blk} {b : Blk} (hR : Right r l) (ht : 0 ≤ t) (h : Took l t b m) : sumL m + sz t = sumL l := by
  obtain ⟨B, h1, h2, h3, rfl, h5, h6⟩ := h
  obtain ⟨m', ⟨k1, k2⟩, k3⟩ := halves_sum hR h1 ht (B.2 - t).toNat (by omega)
  rw [show B.2 - ((B.2 - t).toNat : Int) = t by omega] at k2 k3
  rw [rise_ext h5 k1 fun c => by rw [h6, k2]]
  exact k3
end Go.Proofs.YtlnmmklpccppmaaGreatDoor
namespace Go.Proofs.YtlnmmklpccppmaaGreatDoor
open Go.RowKit
theorem cnt_all (f : Nat → Bool) (x : Bool) : ∀ n, (∀ i, i < n → f i = x) → cnt f n = if x then n else 0
  | 0, _ => by cases x <;> rfl
  | n + 1, h => by
    rw [show cnt f (n + 1) = cnt f n + cnt (fun k => f (n + k)) 1 from cnt_add f n 1, cnt_all f x n fun i hi => h i (by omega)]
    have h1 : f n = x := h n (by omega)
    cases x <;> simp [cnt, h1]
theorem cnt_put {f g : Nat → Bool} {a n k : Nat} (hf : ∀ i, a ≤ i → i < a + n → f i = false) (hg : ∀ i, i < a + n + k → g i = if a ≤ i ∧ i < a + n then true else f i) :
    cnt g (a + n + k) = cnt f (a + n + k) + n := by
  rw [cnt_add, cnt_add, cnt_add f, cnt_add f]
  rw [cnt_congr (f := g) (g := f) (n := a) fun i hi => by rw [hg i (by omega), if_neg (by omega)]]
  rw [cnt_all (fun i => g (a + i)) true n fun i hi => by rw [hg (a + i) (by omega), if_pos (by omega)]]
  rw [cnt_all (fun i => f (a + i)) false n fun i hi => hf (a + i) (by omega) (by omega)]
  rw [cnt_congr (f := fun i => g (a + n + i)) (g := fun i => f (a + n + i)) (n := k) fun i hi => by rw [hg (a + n + i) (by omega), if_neg (by omega)]]
  simp
  omega
theorem mapped_same {r : Int} {fs : List Blk} {m m' : List Bool} (h : Mapped r fs m) (k : Mapped r fs m') : countL m = countL m' := by
  have hl : m.length = m'.length := by have := h.1; have := k.1; omega
  unfold countL
  rw [← hl]
  refine cnt_congr fun i hi => ?_
  rw [Bool.eq_iff_iff, h.2 i hi, k.2 i (by omega)]
/-- The words of right blocks, counted. -/
theorem mapped_count {r : Int} : ∀ (n : Nat) (fs : List Blk), fs.length = n → Right r fs → ∃ m, Mapped r fs m ∧ (countL m : Int) = sumL fs
  | 0, fs, hn, h => by
    obtain rfl : fs = [] := List.eq_nil_of_length_eq_zero hn
    have hmp := mapped_nil r
    refine ⟨_, hmp, ?_⟩
    unfold countL
    rw [cnt_all _ false _ fun i hi => by
      cases e : isOn (List.replicate (sz r).toNat false) i with
      | false => rfl
      | true => obtain ⟨c, hc, _⟩ := (hmp.2 i hi).1 e; cases hc]
    simp [sumL]
  | n + 1, fs, hn, h => by
    obtain ⟨fs', b, rfl⟩ : ∃ f b, fs = f ++ [b] := ⟨fs.dropLast, fs.getLast (by intro e; rw [e] at hn; simp at hn), (List.dropLast_concat_getLast _).symm⟩
    have hn' : fs'.length = n := by simp at hn; exact hn
    have h' : Right r fs' := by have := right_prefix h fs'.length; simpa using this
    obtain ⟨m, hm, hc⟩ := mapped_count n fs' hn' h'
    have hcm := (right_snoc h').1 h
    obtain ⟨p1, _, p3⟩ := hm.put hcm.1
    refine ⟨_, p3, ?_⟩
    obtain ⟨k0, k1, k2, k3, k4⟩ := hcm.1
    have hp := sz_pos b.2
    have hml := hm.1
    rw [sumL_snoc, p1]
    unfold countL
    rw [putL_length]
    have := cnt_put (f := isOn m) (g := isOn (putL m b.1.toNat (sz b.2).toNat true)) (a := b.1.toNat) (n := (sz b.2).toNat) (k := m.length - (b.1.toNat + (sz b.2).toNat)) (fun i hi hj => by
      cases e : isOn m i with
      | false => rfl
      | true =>
        obtain ⟨c, hc, hx⟩ := (hm.2 i (by omega)).1 e
        exact absurd (meets_of (show InB b (i : Int) from ⟨by omega, by omega⟩) hx) (hcm.2.1 c hc)) (fun i hi => putL_isOn _ _ _ _ (by omega))
    rw [show b.1.toNat + (sz b.2).toNat + (m.length - (b.1.toNat + (sz b.2).toNat)) = m.length by omega] at this
    unfold countL at hc
    rw [this]
    omega
theorem Mapped.count {r : Int} {fs : List Blk} {m : List Bool} (hR : Right r fs) (h : Mapped r fs m) : (countL m : Int) = sumL fs := by
  obtain ⟨m', h1, h2⟩ := mapped_count fs.length fs rfl hR
  rw [mapped_same h h1]
  exact h2
/-- The words of a block that is free are found. -/
theorem Mapped.found {r : Int} {fs : List Blk} {m : List Bool} {b : Blk} (h : Mapped r fs m) (hb : May r b) (hc : ∀ x, InB b x → Cov fs x) : runL m b.1 (sz b.2) true = b.1 := by
  obtain ⟨h1, h2⟩ := h
  obtain ⟨k0, k1, k2, k3, k4⟩ := hb
  have hp := sz_pos b.2
  obtain ⟨x, o⟩ := b
  simp only at *
  obtain ⟨a, rfl⟩ := Int.eq_ofNat_of_zero_le k2
  obtain ⟨n, hn⟩ := Int.eq_ofNat_of_zero_le (Int.le_of_lt hp)
  rw [hn, runL_at (by omega), runAt_iff]
  exact ⟨by omega, fun k hk => (h2 (a + k) (by omega)).2 (hc _ ⟨by simp only; omega, by simp only [hn]; omega⟩)⟩
/-- A block's words are turned off. -/
theorem Mapped.off {r : Int} {fs ms : List Blk} {m : List Bool} {b : Blk} (h : Mapped r fs m) (hb : May r b) (hc : ∀ x, Cov ms x ↔ Cov fs x ∧ ¬ InB b x) : putE m b.1 (sz b.2) = 0 ∧ Mapped r ms (putV m b.1 (sz b.2) false) := by
  obtain ⟨h1, h2⟩ := h
  obtain ⟨k0, k1, k2, k3, k4⟩ := hb
  have hp := sz_pos b.2
  have hm : mayPut m b.1 (sz b.2) = true := decide_eq_true ⟨k2, by omega, by omega⟩
  have e1 : putV m b.1 (sz b.2) false = putL m b.1.toNat (sz b.2).toNat false := by unfold putV; rw [hm, if_pos rfl]
  refine ⟨by unfold putE; rw [hm]; rfl, ?_⟩
  rw [e1]
  refine ⟨by rw [putL_length]; exact h1, fun x hx => ?_⟩
  rw [putL_length] at hx
  rw [putL_isOn m _ _ _ hx, hc]
  by_cases hi : b.1.toNat ≤ x ∧ x < b.1.toNat + (sz b.2).toNat
  · rw [if_pos hi]
    exact ⟨(fun e => by cases e), fun e => absurd (show InB b (x : Int) from ⟨by omega, by omega⟩) e.2⟩
  · rw [if_neg hi, h2 x hx]
    exact ⟨fun h => ⟨h, fun h => hi ⟨by have := h.1; omega, by have := h.2; omega⟩⟩, fun h => h.1⟩
theorem inB0 (p x : Int) : InB (p, 0) x ↔ x = p := by
  unfold InB
  simp only [sz0]
  omega
theorem room_of_sum {l : List Blk} (hl : ∀ b ∈ l, 0 ≤ b.2) (h : sumL l ≠ 0) : roomB l 0 = true := by
  cases l with
  | nil => exact absurd rfl h
  | cons b t =>
    have := hl b (List.mem_cons_self ..)
    simp [roomB, this]
theorem nil_of_sum {l : List Blk} (hl : ∀ b ∈ l, 0 ≤ b.2 ∧ b.2 ≤ 8) (h : sumL l = 0) : l = [] := by
  cases l with
  | nil => rfl
  | cons b t =>
    have h1 := (sumL_bound t fun c hc => hl c (List.mem_cons_of_mem _ hc)).1
    have h2 := sz_pos b.2
    rw [sumL_cons] at h
    omega
/-- The words at these places were taken of fs, one by one, and l is left. -/
structure Taken (r : Int) (fs : List Blk) (ps : List Int) (l : List Blk) : Prop where
  right : Right r l
  nodup : ps.Nodup
  mem : ∀ p ∈ ps, Cov fs p
  cov : ∀ x, Cov l x ↔ Cov fs x ∧ x ∉ ps
  sum : sumL l + (ps.length : Int) = sumL fs
theorem Taken.start {r : Int} {fs : List Blk} (h : Right r fs) : Taken r fs [] fs :=
  ⟨h, List.nodup_nil, (fun _ h => by cases h), fun x => by simp, by simp⟩
theorem Taken.step {r : Int} {fs l m : List Blk} {ps : List Int} {b : Blk} (h : Taken r fs ps l) (k : Took l 0 b m) : b.2 = 0 ∧ Taken r fs (ps ++ [b.1]) m := by
  obtain ⟨h1, h2, h3⟩ := k.may h.right (Int.le_refl _)
  obtain ⟨h4, h5⟩ := k.right h.right (Int.le_refl _)
  have h6 := k.sum h.right (Int.le_refl _)
  obtain ⟨p, o⟩ := b
  simp only at h2
  subst h2
  have hc := (h.cov p).1 (h3 p ((inB0 p p).2 rfl))
  refine ⟨rfl, h4, ?_, ?_, fun x => ?_, ?_⟩
  · rw [List.nodup_append]
    refine ⟨h.nodup, by simp, fun a ha b hb => ?_⟩
    rw [List.mem_singleton.1 hb]
    intro e
    subst e; exact hc.2 ha
  · intro q hq
    rcases List.mem_append.1 hq with e | e
    · exact h.mem q e
    · rw [List.mem_singleton.1 e]; exact hc.1
  · rw [h5, h.cov, inB0, List.mem_append, List.mem_singleton]
    constructor
    · rintro ⟨⟨a, b⟩, c⟩
      exact ⟨a, fun e => e.elim b c⟩
    · rintro ⟨a, b⟩
      exact ⟨⟨a, fun e => b (.inl e)⟩, fun e => b (.inr e)⟩
  · have := h.sum
    rw [sz0] at h6
    simp
    omega
/-- The place of what is given back behind i others. -/
def plc (n f : Nat) (back : Bool) (i : Nat) : Nat := if back then (if i ≤ f then f - i else f + n - i) else (if f + i < n then f + i else f + i - n)
theorem plc_inj {n f i j : Nat} (back : Bool) (_hf : f < n) (hi : i < n) (hj : j < n) (h : plc n f back i = plc n f back j) : i = j := by
  unfold plc at h
  cases back
  · simp at h
    split at h <;> split at h <;> omega
  · simp at h
    split at h <;> split at h <;> omega
theorem plc_all {n f k : Nat} (back : Bool) (hf : f < n) (hk : k < n) : ∃ i, i < n ∧ plc n f back i = k := by
  unfold plc
  cases back
  · by_cases h : f ≤ k
    · exact ⟨k - f, by omega, by simp; split <;> omega⟩
    · exact ⟨k + n - f, by omega, by simp; split <;> omega⟩
  · by_cases h : k ≤ f
    · exact ⟨f - k, by omega, by simp only [if_true]; rw [if_pos (by omega)]; omega⟩
    · exact ⟨f + n - k, by omega, by simp only [if_true]; rw [if_neg (by omega)]; omega⟩
/-- Of the places ps those at pl 0 .. pl (i - 1) were given back, and l is free. -/
structure Given (r : Int) (ps : List Int) (pl : Nat → Nat) (i : Nat) (l : List Blk) : Prop where
  right : Right r l
  cov : ∀ x, Cov l x ↔ ∃ j, j < i ∧ ps[pl j]? = some x
theorem Given.start {r : Int} {ps : List Int} {pl : Nat → Nat} (h : 3 ≤ r ∧ r ≤ 8) : Given r ps pl 0 [] :=
  ⟨right_nil h, fun x => ⟨(fun ⟨_, h, _⟩ => by cases h), (fun ⟨_, h, _⟩ => by omega)⟩⟩
theorem nodup_at {ps : List Int} (h : ps.Nodup) {i j : Nat} {p : Int} (hi : ps[i]? = some p) (hj : ps[j]? = some p) : i = j := by
  obtain ⟨h1, h2⟩ := List.getElem?_eq_some_iff.1 hi
  obtain ⟨h3, h4⟩ := List.getElem?_eq_some_iff.1 hj
  exact (List.getElem_inj h).1 (h2.trans h4.symm)
theorem Given.step {r er p : Int} {fs l m : List Blk} {ps : List Int} {f : Nat} {back : Bool} {i : Nat} (hF : Right r fs) (hT : Taken r fs ps []) (h : Given r ps (plc ps.length f back) i l) (hf : f < ps.length) (hi : i < ps.length) (hp : ps[plc ps.length f back i]? = some p) (k : GiveRes r l (p, 0) m er) :
    er = 0 ∧ Given r ps (plc ps.length f back) (i + 1) m := by
  have hr := hF.1
  have hfit : Fits r l (p, 0) := by
    refine ⟨?_, fun a ha hm => ?_⟩
    · obtain ⟨b, hb, hx⟩ := hT.mem p (List.mem_of_getElem? hp)
      obtain ⟨k0, k1, k2, k3, k4⟩ := hF.may hb
      obtain ⟨x0, x1⟩ := hx
      have := sz_pos b.2
      exact ⟨Int.le_refl _, by simp only; omega, by simp only; omega, by simp only [sz0]; omega, by simp only [sz0]; omega⟩
    · have hc : Cov l p := ⟨a, ha, by
        obtain ⟨m1, m2⟩ := hm
        simp only [sz0] at m1 m2
        exact ⟨by omega, by omega⟩⟩
      obtain ⟨j, hj, hq⟩ := (h.cov p).1 hc
      have := plc_inj back hf hi (by omega : j < ps.length) (nodup_at hT.nodup hp hq)
      omega
  rcases k with ⟨k1, _⟩ | ⟨_, k1, _⟩ | ⟨_, _, rfl, k1, k2⟩
  · exact absurd h.right k1
  · exact absurd hfit k1
  · refine ⟨rfl, k1, fun x => ?_⟩
    rw [k2, h.cov, inB0]
    constructor
    · rintro (⟨j, hj, e⟩ | rfl)
      · exact ⟨j, by omega, e⟩
      · exact ⟨i, by omega, hp⟩
    · rintro ⟨j, hj, e⟩
      by_cases hji : j = i
      · subst hji
        rw [hp] at e
        injection e with e
        exact .inr e.symm
      · exact .inl ⟨j, by omega, e⟩
theorem Given.done {r : Int} {fs l : List Blk} {ps : List Int} {f : Nat} {back : Bool} (hF : Right r fs) (hT : Taken r fs ps []) (h : Given r ps (plc ps.length f back) ps.length l) (hf : f < ps.length ∨ ps.length = 0) : l = fs := by
  refine canon h.right hF fun x => ?_
  rw [h.cov]
  constructor
  · rintro ⟨j, _, e⟩
    exact hT.mem x (List.mem_of_getElem? e)
  · intro hx
    have hm : x ∈ ps := by
      by_cases hm : x ∈ ps
      · exact hm
      · obtain ⟨_, hb, _⟩ := (hT.cov x).2 ⟨hx, hm⟩
        cases hb
    obtain ⟨k, hk, e⟩ := List.getElem_of_mem hm
    rcases hf with hf | hf
    · obtain ⟨i, hi, hp⟩ := plc_all back hf hk
      exact ⟨i, hi, by rw [hp, List.getElem?_eq_getElem hk, e]⟩
    · omega
theorem Taken.room {r : Int} {fs ls : List Blk} {ps : List Int} (h : Taken r fs ps ls) (hk : (ps.length : Int) < sumL fs) : mayTk r ls 0 = true ∧ roomB ls 0 = true := by
  have hr := h.right.1
  refine ⟨by unfold mayTk; rw [decide_eq_true h.right, decide_eq_true (by omega : (0 : Int) ≤ r)]; rfl, room_of_sum (fun b hb => (h.right.may hb).1) (by have := h.sum; omega)⟩
theorem Taken.full {r : Int} {fs ls : List Blk} {ps : List Int} (h : Taken r fs ps ls) (hk : (ps.length : Int) = sumL fs) : ls = [] :=
  nil_of_sum (fun b hb => (may_box h.right.1.2 (h.right.may hb)).1) (by have := h.sum; omega)
end Go.Proofs.YtlnmmklpccppmaaGreatDoor
