/-
  The walk of the law BuddyFills: it says true, whatever came in, and nothing that was there is written over.
-/
import Derived.Test.YthiijnanfiddpaaDoorBudMap
namespace Go.Proofs.YthiijnanfiddpaaDoor
open Go.RowKit

theorem inB0 (p x : Int) : InB (p, 0) x ↔ x = p := by
  unfold InB
  simp only [sz0]
  omega
theorem room_of_sum {l : List Blk} (hl : ∀ b ∈ l, 0 ≤ b.2) (h : sumL l ≠ 0) : roomB l 0 = true := by
  cases l with
  | nil => exact absurd rfl h
  | cons b t =>
    have := hl b (List.mem_cons_self ..)
    simp [roomB, this]
theorem nil_of_sum {l : List Blk} (hl : ∀ b ∈ l, 0 ≤ b.2 ∧ b.2 ≤ 8) (h : sumL l = 0) : l = [] := by
  cases l with
  | nil => rfl
  | cons b t =>
    have h1 := (sumL_bound t fun c hc => hl c (List.mem_cons_of_mem _ hc)).1
    have h2 := sz_pos b.2
    rw [sumL_cons] at h
    omega

/-- The words at these places were taken of fs, one by one, and l is left. -/
structure Taken (r : Int) (fs : List Blk) (ps : List Int) (l : List Blk) : Prop where
  right : Right r l
  nodup : ps.Nodup
  mem : ∀ p ∈ ps, Cov fs p
  cov : ∀ x, Cov l x ↔ Cov fs x ∧ x ∉ ps
  sum : sumL l + (ps.length : Int) = sumL fs
theorem Taken.start {r : Int} {fs : List Blk} (h : Right r fs) : Taken r fs [] fs :=
  ⟨h, List.nodup_nil, (fun _ h => by cases h), fun x => by simp, by simp⟩
theorem Taken.step {r : Int} {fs l m : List Blk} {ps : List Int} {b : Blk} (h : Taken r fs ps l) (k : Took l 0 b m) : b.2 = 0 ∧ Taken r fs (ps ++ [b.1]) m := by
  obtain ⟨h1, h2, h3⟩ := k.may h.right (Int.le_refl _)
  obtain ⟨h4, h5⟩ := k.right h.right (Int.le_refl _)
  have h6 := k.sum h.right (Int.le_refl _)
  obtain ⟨p, o⟩ := b
  simp only at h2
  subst h2
  have hc := (h.cov p).1 (h3 p ((inB0 p p).2 rfl))
  refine ⟨rfl, h4, ?_, ?_, fun x => ?_, ?_⟩
  · rw [List.nodup_append]
    refine ⟨h.nodup, by simp, fun a ha b hb => ?_⟩
    rw [List.mem_singleton.1 hb]
    intro e
    subst e; exact hc.2 ha
  · intro q hq
    rcases List.mem_append.1 hq with e | e
    · exact h.mem q e
    · rw [List.mem_singleton.1 e]; exact hc.1
  · rw [h5, h.cov, inB0, List.mem_append, List.mem_singleton]
    constructor
    · rintro ⟨⟨a, b⟩, c⟩
      exact ⟨a, fun e => e.elim b c⟩
    · rintro ⟨a, b⟩
      exact ⟨⟨a, fun e => b (.inl e)⟩, fun e => b (.inr e)⟩
  · have := h.sum
    rw [sz0] at h6
    simp
    omega

/-- The place of what is given back behind i others. -/
def plc (n f : Nat) (back : Bool) (i : Nat) : Nat := if back then (if i ≤ f then f - i else f + n - i) else (if f + i < n then f + i else f + i - n)
theorem plc_lt {n f i : Nat} (back : Bool) (_hf : f < n) (hi : i < n) : plc n f back i < n := by
  unfold plc
  cases back <;> simp <;> split <;> omega
theorem plc_inj {n f i j : Nat} (back : Bool) (_hf : f < n) (hi : i < n) (hj : j < n) (h : plc n f back i = plc n f back j) : i = j := by
  unfold plc at h
  cases back
  · simp at h
    split at h <;> split at h <;> omega
  · simp at h
    split at h <;> split at h <;> omega
theorem plc_all {n f k : Nat} (back : Bool) (hf : f < n) (hk : k < n) : ∃ i, i < n ∧ plc n f back i = k := by
  unfold plc
  cases back
  · by_cases h : f ≤ k
    · exact ⟨k - f, by omega, by simp; split <;> omega⟩
    · exact ⟨k + n - f, by omega, by simp; split <;> omega⟩
  · by_cases h : k ≤ f
    · exact ⟨f - k, by omega, by simp only [if_true]; rw [if_pos (by omega)]; omega⟩
    · exact ⟨f + n - k, by omega, by simp only [if_true]; rw [if_neg (by omega)]; omega⟩
theorem plc_num {n f i : Nat} (hf : f < n) (hi : i < n) : ((f : Int) + (i : Int) * 1) % (n : Int) = (plc n f false i : Nat) := by
  unfold plc
  rw [Int.mul_one]
  simp only [Bool.false_eq_true, if_false]
  split
  · rw [Int.emod_eq_of_lt (by omega) (by omega)]; omega
  · rw [show (f : Int) + i = ((f : Int) + i - n) + n by omega, Int.add_emod_right, Int.emod_eq_of_lt (by omega) (by omega)]; omega
theorem plc_num_back {n f i : Nat} (hf : f < n) (hi : i < n) : ((f : Int) + (i : Int) * ((n : Int) - 1)) % (n : Int) = (plc n f true i : Nat) := by
  unfold plc
  simp only [if_true]
  rw [show (f : Int) + (i : Int) * ((n : Int) - 1) = ((f : Int) - i) + i * n by rw [Int.mul_sub]; omega, Int.add_mul_emod_self_right]
  split
  · rw [Int.emod_eq_of_lt (by omega) (by omega)]; omega
  · rw [← Int.add_emod_right, Int.emod_eq_of_lt (by omega) (by omega)]; omega

/-- Of the places ps those at pl 0 .. pl (i - 1) were given back, and l is free. -/
structure Given (r : Int) (ps : List Int) (pl : Nat → Nat) (i : Nat) (l : List Blk) : Prop where
  right : Right r l
  cov : ∀ x, Cov l x ↔ ∃ j, j < i ∧ ps[pl j]? = some x
theorem Given.start {r : Int} {ps : List Int} {pl : Nat → Nat} (h : 3 ≤ r ∧ r ≤ 8) : Given r ps pl 0 [] :=
  ⟨right_nil h, fun x => ⟨(fun ⟨_, h, _⟩ => by cases h), (fun ⟨_, h, _⟩ => by omega)⟩⟩
theorem nodup_at {ps : List Int} (h : ps.Nodup) {i j : Nat} {p : Int} (hi : ps[i]? = some p) (hj : ps[j]? = some p) : i = j := by
  obtain ⟨h1, h2⟩ := List.getElem?_eq_some_iff.1 hi
  obtain ⟨h3, h4⟩ := List.getElem?_eq_some_iff.1 hj
  exact (List.getElem_inj h).1 (h2.trans h4.symm)
theorem Given.step {r er p : Int} {fs l m : List Blk} {ps : List Int} {f : Nat} {back : Bool} {i : Nat} (hF : Right r fs) (hT : Taken r fs ps []) (h : Given r ps (plc ps.length f back) i l) (hf : f < ps.length) (hi : i < ps.length) (hp : ps[plc ps.length f back i]? = some p) (k : GiveRes r l (p, 0) m er) :
    er = 0 ∧ Given r ps (plc ps.length f back) (i + 1) m := by
  have hr := hF.1
  have hfit : Fits r l (p, 0) := by
    refine ⟨?_, fun a ha hm => ?_⟩
    · obtain ⟨b, hb, hx⟩ := hT.mem p (List.mem_of_getElem? hp)
      obtain ⟨k0, k1, k2, k3, k4⟩ := hF.may hb
      obtain ⟨x0, x1⟩ := hx
      have := sz_pos b.2
      exact ⟨Int.le_refl _, by simp only; omega, by simp only; omega, by simp only [sz0]; omega, by simp only [sz0]; omega⟩
    · have hc : Cov l p := ⟨a, ha, by
        obtain ⟨m1, m2⟩ := hm
        simp only [sz0] at m1 m2
        exact ⟨by omega, by omega⟩⟩
      obtain ⟨j, hj, hq⟩ := (h.cov p).1 hc
      have := plc_inj back hf hi (by omega : j < ps.length) (nodup_at hT.nodup hp hq)
      omega
  rcases k with ⟨k1, _⟩ | ⟨_, k1, _⟩ | ⟨_, _, rfl, k1, k2⟩
  · exact absurd h.right k1
  · exact absurd hfit k1
  · refine ⟨rfl, k1, fun x => ?_⟩
    rw [k2, h.cov, inB0]
    constructor
    · rintro (⟨j, hj, e⟩ | rfl)
      · exact ⟨j, by omega, e⟩
      · exact ⟨i, by omega, hp⟩
    · rintro ⟨j, hj, e⟩
      by_cases hji : j = i
      · subst hji
        rw [hp] at e
        injection e with e
        exact .inr e.symm
      · exact .inl ⟨j, by omega, e⟩
theorem Given.done {r : Int} {fs l : List Blk} {ps : List Int} {f : Nat} {back : Bool} (hF : Right r fs) (hT : Taken r fs ps []) (h : Given r ps (plc ps.length f back) ps.length l) (hf : f < ps.length ∨ ps.length = 0) : l = fs := by
  refine canon h.right hF fun x => ?_
  rw [h.cov]
  constructor
  · rintro ⟨j, _, e⟩
    exact hT.mem x (List.mem_of_getElem? e)
  · intro hx
    have hm : x ∈ ps := by
      by_cases hm : x ∈ ps
      · exact hm
      · obtain ⟨_, hb, _⟩ := (hT.cov x).2 ⟨hx, hm⟩
        cases hb
    obtain ⟨k, hk, e⟩ := List.getElem_of_mem hm
    rcases hf with hf | hf
    · obtain ⟨i, hi, hp⟩ := plc_all back hf hk
      exact ⟨i, hi, by rw [hp, List.getElem?_eq_getElem hk, e]⟩
    · omega
/-- The blocks of these places. -/
def unit1 (ps : List Int) : List Blk := ps.map fun p => (p, 0)
theorem unit1_snoc (ps : List Int) (p : Int) : unit1 (ps ++ [p]) = unit1 ps ++ [(p, 0)] := by simp [unit1]
theorem unit1_length (ps : List Int) : (unit1 ps).length = ps.length := by simp [unit1]
theorem unit1_get {ps : List Int} {i : Nat} {p : Int} (h : ps[i]? = some p) : (unit1 ps)[i]? = some (p, 0) := by simp [unit1, h]

/-- Taking one word each round, so far. -/
def FlRel (w : World) (r : Int) (fs : List Blk) (L G i : Value) (wr : World) : Prop :=
  ∃ (ps : List Int) (ls : List Blk), i = .int .i64 (ps.length : Int) ∧ (∃ A n c, L = .slice A n c ∧ RdS wr A n ls) ∧ OwnB 32 wr w.heap.size G (unit1 ps) ∧ Taken r fs ps ls ∧ Below w.heap.size w wr
/-- Giving one back each round, so far. -/
def FgRel (w : World) (r : Int) (ps : List Int) (f : Nat) (back : Bool) (L i : Value) (wr : World) : Prop :=
  ∃ (k : Nat) (ls : List Blk), i = .int .i64 (k : Int) ∧ k ≤ ps.length ∧ (∃ A n c, L = .slice A n c ∧ RdS wr A n ls) ∧ Given r ps (plc ps.length f back) k ls ∧ Below w.heap.size w wr
theorem Taken.room {r : Int} {fs ls : List Blk} {ps : List Int} (h : Taken r fs ps ls) (hk : (ps.length : Int) < sumL fs) : mayTk r ls 0 = true ∧ roomB ls 0 = true := by
  have hr := h.right.1
  refine ⟨by unfold mayTk; rw [decide_eq_true h.right, decide_eq_true (by omega : (0 : Int) ≤ r)]; rfl, room_of_sum (fun b hb => (h.right.may hb).1) (by have := h.sum; omega)⟩
theorem Taken.full {r : Int} {fs ls : List Blk} {ps : List Int} (h : Taken r fs ps ls) (hk : (ps.length : Int) = sumL fs) : ls = [] :=
  nil_of_sum (fun b hb => (may_box h.right.1.2 (h.right.may hb)).1) (by have := h.sum; omega)
theorem take_none {r : Int} (hr : 3 ≤ r ∧ r ≤ 8) : TakeRes r [] 0 (0, 0) [] 40 :=
  .inr (.inl ⟨by unfold mayTk; rw [decide_eq_true (right_nil hr), decide_eq_true (by omega : (0 : Int) ≤ r)]; rfl, rfl, rfl, rfl, rfl⟩)

set_option maxRecDepth 100000 in
set_option maxHeartbeats 8000000 in
theorem buddyFills_walk (r : Int) (A : Option Addr) (m c : Nat) (f s : Int) (l : List Blk) (w : World) (hT : Tab w) (h : RdS w A m l) :
    Calls Tryd.prog 9 #[.int .i64 r, .slice A m c, .int .i64 f, .int .i64 s] w (Holds w) := by
  have SL := fun W (b : Below w.heap.size w W) => all_law W (hT.below b)
  have ST := fun W (b : Below w.heap.size w W) => takes_law W (hT.below b)
  by_cases hm : 600 < m
  · go_enter Tryd.func9, Tryd.ntmps9
    go_wp2_with (first | (go_at_call 18; refine (SL _ (Below.refl _ _)).mono ?_; rintro e w1 ⟨rfl, b1⟩) | (go_at_call 23; refine (ST _ b1).mono ?_; rintro e w2 ⟨rfl, b2⟩))
    go_ret
    exact ⟨rfl, b1.trans (b2.mono b1.size)⟩
  have t0 : decide (600 < (m : Int)) = false := by simp; omega
  by_cases hf : f < 0
  · go_enter Tryd.func9, Tryd.ntmps9
    go_wp2_with (first | (go_at_call 18; refine (SL _ (Below.refl _ _)).mono ?_; rintro e w1 ⟨rfl, b1⟩) | (go_at_call 23; refine (ST _ b1).mono ?_; rintro e w2 ⟨rfl, b2⟩))
    go_ret
    exact ⟨rfl, b1.trans (b2.mono b1.size)⟩
  have t1 : decide (f < 0) = false := by simp; omega
  have S1 := check_any r A m c l w h (by omega) hT
  by_cases hR : Right r l
  case neg =>
    rw [chkE_no hR] at S1
    clear h hT hR
    go_enter Tryd.func9, Tryd.ntmps9
    go_wp2_with (first | (go_at_call 12; refine S1.mono ?_; rintro e w0 ⟨rfl, b0⟩) | (go_at_call 18; refine (SL _ b0).mono ?_; rintro e w1 ⟨rfl, b1⟩; have B1 := b0.trans (b1.mono b0.size)) | (go_at_call 23; refine (ST _ B1).mono ?_; rintro e w2 ⟨rfl, b2⟩))
    go_ret
    exact ⟨rfl, B1.trans (b2.mono B1.size)⟩
  rw [chkE_yes hR] at S1
  have hr := hR.1
  have hl1 := hR.len256
  have hsz := fun b (hb : b ∈ l) => (may_box hr.2 (hR.may hb)).1
  have hs1 := sumL_bound l hsz
  have SW1 := fun (W : World) (b : Below w.heap.size w W) => refWords_any A m c l W (h.below b) (by omega) hsz
  obtain ⟨N, hN⟩ := Int.eq_ofNat_of_zero_le hs1.1
  rw [hN] at SW1
  have hN1 : N ≤ 65536 := by omega
  have HN := Lib.hid hN
  have HR := Lib.hid h
  have HT := Lib.hid hT
  have HRt := Lib.hid hR
  have Hlen := Lib.hid h.len
  have Hst := Lib.hid (Taken.start hR)
  clear h hT hR hN hs1 hsz
  go_enter Tryd.func9, Tryd.ntmps9
  go_upto_region 7 with (first | (go_at_call 12; refine S1.mono ?_; rintro e w1 ⟨rfl, B1⟩) | (go_at_call 26; refine (SW1 _ B1).mono ?_; rintro e w2 ⟨rfl, rfl⟩))
  clear S1 SW1
  go_loopw [10, 11, 12] (FlRel w r l) (fun _ _ i _ => N - (intOf i).toNat)
  case atStart => exact ⟨[], l, rfl, ⟨_, _, _, rfl, HR.out.below B1⟩, OwnB.nil, Hst.out, B1⟩
  case round =>
    obtain ⟨ps, ls, rfl, ⟨A1, n1, c1, rfl, r1⟩, og, hTn, bw⟩ := hrel
    clear B1
    have hlp : (ps.length : Int) ≤ N := by
      have h1 := hTn.sum
      have h2 := sumL_bound ls (fun b hb => (may_box hr.2 (hTn.right.may hb)).1)
      have := HN.out
      omega
    have hl2 := hTn.right.len256
    have hn1 := r1.len
    by_cases hlt : ps.length < N
    · have hki : (ps.length : Int) < (N : Int) := by omega
      obtain ⟨hm1, hm2⟩ := hTn.room (by have := HN.out; omega)
      have S2 := take_any r A1 n1 c1 ls 0 wr r1 (by omega) (HT.out.below bw)
      have HTn := Lib.hid hTn
      clear hTn hn1 r1 hl2
      go_upto_region 10 with (go_at_call 21; refine S2.mono ?_; rintro e w2 ⟨⟨x, o⟩, ms, er, v2, he, res, o2, b2⟩; unfold bval enc2 at he; simp only at he; subst he; obtain ⟨A2, c2, rfl, _, _, r2, _, hA2⟩ := o2.shape (n := ms.length) rfl)
      have hne : ∀ v', (∀ k, v' = some k → k < wr.heap.size) → ∀ a, A2 = some a → some a.block ≠ v' := fun v' hv a ha e => by
        have h1 := (o2.lt _ (hA2 a ha).1).1
        have h2 := hv _ e.symm
        omega
      have hno := hne _ fun k hk => (og.lt k hk).2
      obtain ⟨rfl, hTk⟩ : er = 0 ∧ Took ls 0 (x, o) ms := by
        rcases res with ⟨e, _⟩ | ⟨_, e, _⟩ | ⟨_, _, e, k⟩
        · rw [hm1] at e; cases e
        · rw [hm2] at e; cases e
        · exact ⟨e, k⟩
      obtain ⟨ho, hstep⟩ := HTn.out.step hTk
      simp only at ho
      subst ho
      have hA := (Below.refl w2.heap.size w2).alloc (Nat.le_refl _) (.cells #[.int .i64 x, .int .i64 0] 32)
      have X2 := Box2.new w2 (x, 0) 32
      have ba := b2.trans (hA.mono b2.size)
      have Ba := bw.trans (ba.mono bw.size)
      have r2a := r2.below hA
      have oga := og.below ba
      clear S2 hA b2 o2 r2 res hm1 hm2 og bw ba hTk
      obtain ⟨k2, hk2⟩ : ∃ k, k = w2.heap.size := ⟨_, rfl⟩
      rw [← hk2] at X2 ⊢
      clear hk2
      generalize w2.alloc (.cells #[.int .i64 x, .int .i64 0] 32) = wa at X2 Ba r2a oga ⊢
      have i0 := X2.c0
      have i1 := X2.c1
      have hul : (unit1 ps).length = ps.length := unit1_length ps
      obtain ⟨v5, w5, hap, happ⟩ := run_appB_one (P := Tryd.prog) w.heap.size 22 22 32 Tryd.underlying22 Tryd.infoBlk2 rfl _ _ oga (x, 0) (by rw [hul]; omega) Ba.size
      have B5 := happ.below oga (Nat.le_refl _) Ba.size Ba
      have og5 := happ.1
      have r5 := r2a.grown happ.2.1 hno
      have H5 := Lib.hid (show FlRel w r l (.slice A2 ms.length c2) v5 (.int .i64 ((ps.length + 1 : Nat) : Int)) w5 from ⟨ps ++ [x], ms, by simp, ⟨_, _, _, rfl, r5⟩, by unfold unit1 at og5 ⊢; rw [List.map_append]; exact og5, hstep, B5⟩)
      simp only at hap i0 i1
      clear og5 B5 happ r5 hno hne hA2 hstep X2 Ba r2a oga hul HTn hlp
      go_wp2_with (at_builtin; refine wpList_append_run hap rfl _ _ rfl rfl rfl rfl ?_)
      go_roundw
      case rel => exact H5.out
      case measure => simp [intOf]; omega
    · obtain rfl : N = ps.length := by omega
      obtain rfl := hTn.full HN.out.symm
      obtain rfl : n1 = 0 := by simpa using hn1.symm
      have HTn := Lib.hid hTn
      have S2 := take_any r A1 0 c1 [] 0 wr r1 (by omega) (HT.out.below bw)
      clear hlt hTn hl2 hn1 hlp
      go_upto_region 15 with (go_at_call 21; refine S2.mono ?_; rintro e w2 hP; obtain ⟨v2, he, o2, b2⟩ := hP.is (take_none hr); unfold bval enc2 at he; simp only at he; subst he; obtain ⟨A2, c2, rfl, r2⟩ := o2.rdn (n := 0) rfl)
      have hA := (Below.refl w2.heap.size w2).alloc (Nat.le_refl _) (.cells #[.int .i64 0, .int .i64 0] 32)
      have ba := b2.trans (hA.mono b2.size)
      have Ba := bw.trans (ba.mono bw.size)
      have oga := og.below ba
      clear S2 hA b2 o2 r2 og r1
      obtain ⟨k2, hk2⟩ : ∃ k, k = w2.heap.size := ⟨_, rfl⟩
      rw [← hk2]
      clear hk2
      generalize w2.alloc (.cells #[.int .i64 0, .int .i64 0] 32) = wa at Ba oga ⊢
      obtain ⟨n, hn⟩ : ∃ n, n = ps.length := ⟨_, rfl⟩
      rw [← hn]
      have Hn := Lib.hid hn
      have hn6 : n ≤ 65536 := by omega
      clear hn hN1 HN ba bw
      go_upto_region 18 with (fail)
      go_cut [88] (fun v wc => ∃ q : Bool, v = .bool q ∧ (q = true → 0 < n) ∧ wc = wa)
      case first =>
        by_cases hs : s.tmod 2 = 0
        · go_wp2
          go_meet
          exact ⟨false, rfl, (fun e => by cases e), rfl⟩
        · by_cases hn0 : 0 < n
          · have hn1 : decide (0 < (n : Int)) = true := by simp; omega
            go_wp2
            go_meet
            exact ⟨s.tmod 2 != 0, rfl, fun _ => hn0, rfl⟩
          · have hn1 : decide (0 < (n : Int)) = false := by simp; omega
            go_wp2
            go_meet
            exact ⟨false, rfl, (fun e => by cases e), rfl⟩
      case rest =>
        obtain ⟨q, rfl, hq, rfl⟩ := hcut
        go_upto_if 88 with (fail)
        go_cut [19] (fun v wd => ∃ back : Bool, v = .int .i64 (if back then (n : Int) - 1 else 1) ∧ wd = wc)
        case first =>
          cases q with
          | false =>
            go_wp2
            go_meet
            exact ⟨false, rfl, rfl⟩
          | true =>
            have hn0 := hq rfl
            go_wp2
            go_meet
            exact ⟨true, rfl, rfl⟩
        case rest =>
        obtain ⟨back, rfl, hwd⟩ := hcut
        subst hwd
        clear hq
        have hgv := Lib.hid (Given.start (ps := ps) (pl := plc ps.length (f % (n : Int)).toNat back) hr)
        obtain ⟨b, hb⟩ : ∃ b, b = if back then (n : Int) - 1 else 1 := ⟨_, rfl⟩
        rw [← hb]
        have Hb := Lib.hid hb
        clear hb
        go_upto_region 22 with (fail)
        go_loopw [10, 20] (FgRel wc r ps (f % (n : Int)).toNat back) (fun _ i _ => n - (intOf i).toNat)
        case atStart => exact ⟨0, [], rfl, Nat.zero_le _, ⟨_, _, _, rfl, rfl, fun h => absurd h (Nat.lt_irrefl 0)⟩, hgv.out, Below.refl _ _⟩
        case round =>
          obtain ⟨k, ls, rfl, hk, ⟨A3, n3, c3, rfl, r3⟩, hG, bw⟩ := hrel
          have B3 := Ba.trans (bw.mono Ba.size)
          have hn3 := r3.len
          have hl3 := hG.right.len256
          by_cases hlt : k < n
          · have hnp := Hn.out
            have hf0 : 0 ≤ f % (n : Int) := Int.emod_nonneg f (by omega)
            have hf1 : f % (n : Int) < n := Int.emod_lt_of_pos f (by omega)
            obtain ⟨f', hf'⟩ : ∃ f' : Nat, f' = (f % (n : Int)).toNat := ⟨_, rfl⟩
            have q1 : f.tmod (n : Int) = (f' : Int) := by rw [Int.tmod_eq_emod_of_nonneg hf]; omega
            have hfn : f' < n := by omega
            obtain ⟨p, hp⟩ : ∃ p, p = plc n f' back k := ⟨_, rfl⟩
            have hpn : p < n := by rw [hp]; exact plc_lt back hfn hlt
            obtain ⟨t, ht⟩ : ∃ t : Int, (k : Int) * b = t := ⟨_, rfl⟩
            have q2 : ((f' : Int) + t).tmod (n : Int) = (p : Int) ∧ 0 ≤ t ∧ t ≤ 65536 * 65536 := by
              have h1 := Hb.out
              cases back with
              | false =>
                simp only [Bool.false_eq_true, if_false] at h1
                subst h1
                have := plc_num hfn hlt
                rw [ht, ← hp] at this
                exact ⟨by rw [Int.tmod_eq_emod_of_nonneg (by omega)]; exact this, by omega, by omega⟩
              | true =>
                simp only [if_true] at h1
                subst h1
                have := plc_num_back hfn hlt
                rw [ht, ← hp] at this
                have hb0 : 0 ≤ (k : Int) * ((n : Int) - 1) := Int.mul_nonneg (by omega) (by omega)
                have hb1 : (k : Int) * ((n : Int) - 1) ≤ 65536 * 65536 := Int.mul_le_mul (by omega) (by omega) (by omega) (by omega)
                exact ⟨by rw [Int.tmod_eq_emod_of_nonneg (by omega)]; exact this, by omega, by omega⟩
            obtain ⟨q2, ht0, ht1⟩ := q2
            obtain ⟨z, hz⟩ : ∃ z, ps[p]? = some z := ⟨_, List.getElem?_eq_getElem (by omega)⟩
            have hul : (unit1 ps).length = n := by rw [unit1_length]; omega
            have ogr := oga.below bw
            obtain ⟨g, cap, rfl, hbg, hgl, hcap, _⟩ := ogr.form hul (by omega)
            obtain ⟨c0, c1⟩ := ogr.cell hul (unit1_get hz)
            simp only at c0 c1
            have S3 := give_any r A3 n3 c3 ls (z, 0) wr r3 (by omega) (HT.out.below B3)
            unfold bval enc2 at S3
            simp only at S3
            have HGn := Lib.hid (fun (ms : List Blk) (er : Int) (k' : GiveRes r ls (z, 0) ms er) => hG.step (f := (f % (n : Int)).toNat) (back := back) HRt.out HTn.out (by rw [← hnp, ← hf']; exact hfn) (by rw [← hnp]; exact hlt) (by rw [← hnp, ← hf', ← hp]; exact hz) k')
            have hpi : (p : Int) < (n : Int) := by omega
            have hki : (k : Int) < (n : Int) := by omega
            have hn0 : 0 < n := by omega
            have Hk := Lib.hid hk
            have Hbw := Lib.hid bw
            clear hf' hp hz hul ogr hf0 hf1 hnp hn3 hl3 r3 hG hk bw
            go_upto_region 25 with (go_at_call 24; refine S3.mono ?_; rintro e w4 ⟨ms, er, v4, rfl, res, o4, b4⟩; obtain ⟨A4, c4, rfl, r4⟩ := o4.rdn (n := ms.length) rfl)
            obtain ⟨rfl, hG4⟩ := HGn.out _ _ res
            have HG4 := Lib.hid hG4
            have B4 := Lib.hid (Hbw.out.trans (b4.mono Hbw.out.size))
            clear hG4 res o4 HGn S3 c0 c1
            go_wp2_with fail
            go_roundw
            case rel => exact ⟨k + 1, ms, by go_num, by have := Hn.out; omega, ⟨_, _, _, rfl, r4⟩, HG4.out, B4.out⟩
            case measure => simp [intOf]; omega
          · obtain rfl : k = n := by have := Hn.out; omega
            obtain rfl : ls = l := by
              have hnp := Hn.out
              have hG2 : ∀ j, j = k → Given r ps (plc ps.length (f % (k : Int)).toNat back) j ls := fun j e => by subst e; exact hG
              refine Given.done (f := (f % (k : Int)).toNat) (back := back) HRt.out HTn.out (hG2 _ hnp.symm) ?_
              rw [← hnp]
              by_cases h0 : 0 < k
              · exact .inl (by have := Int.emod_lt_of_pos f (show (0 : Int) < k by omega); have := Int.emod_nonneg f (show (k : Int) ≠ 0 by omega); omega)
              · exact .inr (by omega)
            have SS := fun (W : World) (bb : Below wr.heap.size wr W) => refSame_any A3 A n3 c3 m c ls ls W (r3.below bb) (HR.out.below (B3.trans (bb.mono B3.size))) (by omega)
            rw [decide_eq_true rfl] at SS
            clear hn3 hl3 r3 hG
            go_wp2_with (first | (go_at_call 18; refine (SL _ B3).mono ?_; rintro e w4 ⟨rfl, b4⟩; have B4 := B3.trans (b4.mono B3.size)) | (go_at_call 23; refine (ST _ B4).mono ?_; rintro e w5 ⟨rfl, b5⟩; have B5 := B4.trans (b5.mono B4.size); have b35 := b4.trans (b5.mono b4.size)) | (go_at_call 15; refine (SS _ b35).mono ?_; rintro e w6 ⟨rfl, g6⟩))
            go_ret
            exact ⟨by first | rfl | (simp; done), B5.trans (g6.below.mono B5.size)⟩
end Go.Proofs.YthiijnanfiddpaaDoor
