/-
  What the document's helpers that make rows do: without one, with one more; how many words; which block is taken: contracts.
-/
import Derived.Test.YthiijnanfiddpaaDoorBudR
namespace Go.Proofs.YthiijnanfiddpaaDoor
open Go.RowKit

/-- Blocks but one. -/
def woL (l : List Blk) (b : Blk) : List Blk := l.filter fun x => !sameB x b
theorem woL_snoc_yes {l : List Blk} {b x : Blk} (h : sameB x b = false) : woL (l ++ [x]) b = woL l b ++ [x] := by simp [woL, h]
theorem woL_snoc_no {l : List Blk} {b x : Blk} (h : sameB x b = true) : woL (l ++ [x]) b = woL l b := by simp [woL, h]
theorem woL_len (l : List Blk) (b : Blk) : (woL l b).length ≤ l.length := List.length_filter_le _ _
theorem woL_mem {l : List Blk} {b c : Blk} : c ∈ woL l b ↔ c ∈ l ∧ c ≠ b := by
  unfold woL
  rw [List.mem_filter]
  constructor
  · rintro ⟨h1, h2⟩
    exact ⟨h1, fun e => by rw [(sameB_iff _ _).2 e] at h2; cases h2⟩
  · rintro ⟨h1, h2⟩
    exact ⟨h1, by rw [sameB_no h2]; rfl⟩
/-- The row of the call's own, so far. -/
def RowRel (W : World) (v : Value) (o : List Blk) (wr : World) : Prop := OwnB 32 wr W.heap.size v o ∧ Below W.heap.size W wr
theorem RowRel.grew {W wr w2 : World} {v : Value} {o : List Blk} (h : RowRel W v o wr) (g : Grew wr w2) : RowRel W v o w2 := ⟨h.1.below g.below, h.2.trans (g.below.mono h.2.size)⟩
theorem RowRel.app {W wr w2 : World} {v v' : Value} {o o' : List Blk} (h : RowRel W v o wr) (k : AppB 32 wr W.heap.size v o' v' w2) : RowRel W v' o' w2 := ⟨k.1, k.below h.1 (Nat.le_refl _) h.2.size h.2⟩
theorem RowRel.one {W wr : World} {v : Value} {o : List Blk} (h : RowRel W v o wr) (hl : o.length ≤ 5000) (b : Blk) :
    ∃ v' w', (Builtin.append_ #[22, 22] 22 #[v, .slice (some ⟨wr.heap.size, 0, none⟩) 1 1]).run Tryd.prog (wr.alloc (.cells #[.int .i64 b.1, .int .i64 b.2] 32)) = .ok v' w' ∧ RowRel W v' (o ++ [b]) w' := by
  obtain ⟨v', w', h1, h2⟩ := run_appB_one (P := Tryd.prog) W.heap.size 22 22 32 Tryd.underlying22 Tryd.infoBlk2 rfl v o h.1 b (by omega) h.2.size
  exact ⟨v', w', h1, h.app h2⟩

def WoRel (W : World) (l : List Blk) (b : Blk) (v i : Value) (wr : World) : Prop := ∃ k : Nat, k ≤ l.length ∧ i = .int .i64 (k : Int) ∧ RowRel W v (woL (l.take k) b) wr
set_option maxHeartbeats 1000000 in
theorem refWithout_any (A : Option Addr) (n c : Nat) (l : List Blk) (b : Blk) (w : World) (h : RdS w A n l) (hn : n ≤ 1000) :
    Calls Tryd.prog 42 #[.slice A n c, bval b] w (GivesB1 w (woL l b)) := by
  have hlen := h.len
  have HR := Lib.hid h
  have B1 := Lib.hid (Box2.new w b 32)
  have g1 := (Grew.refl w).alloc (.cells #[.int .i64 b.1, .int .i64 b.2] 32)
  clear h
  obtain ⟨y, p⟩ := b
  have mixed := mixedP
  have hm := noGuard
  unfold bval enc2
  simp only at *
  have hz : (w.alloc (.cells #[.int .i64 y, .int .i64 p] 32)).heap.size = w.heap.size + 1 := by simp
  go_enter Tryd.func42, Tryd.ntmps42
  go_wp2
  generalize hW : w.alloc (.cells #[.int .i64 y, .int .i64 p] 32) = W at B1 g1 hz ⊢
  clear hW
  go_loopw [5, 6] (WoRel W l (y, p)) (fun _ i _ => n - (intOf i).toNat)
  case atStart => exact ⟨0, Nat.zero_le _, rfl, OwnB.nil, Below.refl _ _⟩
  case round =>
    obtain ⟨k, hk, rfl, hrow⟩ := hrel
    have bw := hrow.2
    have bw2 := hrow.2
    by_cases hlt : k < n
    · obtain ⟨b', off, ⟨x0, x1⟩, rfl, hbl, hx, hc0, hc1⟩ := HR.out.cell hlt
      have hgr := g1.below.trans (bw.mono g1.below.size)
      have hbr := Nat.lt_of_lt_of_le hbl hgr.size
      have a0 := (hgr.cell (p := ⟨b', off + k * 2, none⟩) hbl).trans hc0
      have a1 := (hgr.cell (p := ⟨b', off + k * 2 + 1, none⟩) hbl).trans hc1
      have z0 := cell_grown (a := ⟨b', off + k * 2, none⟩) hbr a0
      have z1 := cell_grown (a := ⟨b', off + k * 2 + 1, none⟩) hbr a1
      have Bx := B1.out.below bw2
      have v0 := Bx.g0
      have v1 := Bx.g1
      simp only at v0 v1 z0 z1 a0 a1
      have hki : (k : Int) < (n : Int) := by omega
      have Hx := Lib.hid hx
      clear hx hc0 hc1
      have q := run_neq_blk x0 x1 y p
      cases he : sameB (x0, x1) (y, p) with
      | true =>
        rw [he] at q
        have Hw := Lib.hid (show woL (l.take (k + 1)) (y, p) = woL (l.take k) (y, p) by rw [take_snocB Hx.out, woL_snoc_no he])
        go_wp2_with fail
        refine wp_region_quiet_grown mixed (by kernel_rfl) ?_
        repeat (go_big_quiet_step (fail))
        refine wpQuiet_nil ?_
        intro _ hw'
        obtain ⟨⟨nq, osq⟩, hw''⟩ := hw'
        subst hw''
        have G4 := (Grew.refl wr).grow nq osq
        generalize Go.Sort.grow (wr.drewN nq) osq = w4 at G4 ⊢
        clear z0 z1 v0 v1 q
        go_wp2
        go_roundw
        case rel => exact ⟨k + 1, by omega, by go_num, by rw [Hw.out]; exact hrow.grew G4⟩
        case measure => simp [intOf]; omega
      | false =>
        rw [he] at q
        have Hw := Lib.hid (show woL (l.take (k + 1)) (y, p) = woL (l.take k) (y, p) ++ [(x0, x1)] by rw [take_snocB Hx.out, woL_snoc_yes he])
        go_wp2_with fail
        refine wp_region_quiet_grown mixed (by kernel_rfl) ?_
        repeat (go_big_quiet_step (fail))
        refine wpQuiet_nil ?_
        intro _ hw'
        obtain ⟨⟨nq, osq⟩, hw''⟩ := hw'
        subst hw''
        have G4 := (Grew.refl wr).grow nq osq
        generalize Go.Sort.grow (wr.drewN nq) osq = w4 at G4 ⊢
        clear z0 z1 v0 v1 q
        have a0' := (G4.below.cell (p := ⟨b', off + k * 2, none⟩) hbr).trans a0
        have a1' := (G4.below.cell (p := ⟨b', off + k * 2 + 1, none⟩) hbr).trans a1
        obtain ⟨v', w5, hap, hrow5⟩ := (hrow.grew G4).one (by have := woL_len (l.take k) (y, p); have := List.length_take (l := l) (i := k); omega) (x0, x1)
        simp only at hap
        have Hrow5 := Lib.hid hrow5
        clear hrow5 hrow
        go_wp2_with (at_builtin; refine wpList_append_run hap rfl _ _ rfl rfl rfl rfl ?_)
        go_roundw
        case rel => exact ⟨k + 1, by omega, by go_num, by rw [Hw.out]; exact Hrow5.out⟩
        case measure => simp [intOf]; omega
    · obtain rfl : k = n := by omega
      rw [List.take_of_length_le (by omega)] at hrow
      have Hrow := Lib.hid hrow
      clear hrow
      go_wp2
      go_ret
      exact ⟨_, rfl, Hrow.out.1.mono (by omega), g1.below.trans (Hrow.out.2.mono (by omega))⟩

/-- Blocks, and one more, by rising place. -/
def ins (b : Blk) : List Blk → List Blk
  | [] => [b]
  | c :: t => if b.1 < c.1 then b :: c :: t else c :: ins b t
theorem ins_lt {b c : Blk} {t : List Blk} (h : b.1 < c.1) : ins b (c :: t) = b :: c :: t := if_pos h
theorem ins_ge {b c : Blk} {t : List Blk} (h : ¬ b.1 < c.1) : ins b (c :: t) = c :: ins b t := if_neg h
theorem ins_mem {b c : Blk} : ∀ {l : List Blk}, c ∈ ins b l ↔ c = b ∨ c ∈ l
  | [] => by simp [ins]
  | d :: t => by
    unfold ins
    split
    · simp
    · simp only [List.mem_cons, ins_mem (l := t)]
      constructor
      · rintro (h | h | h) <;> simp [h]
      · rintro (h | h | h) <;> simp [h]
theorem ins_rise {b : Blk} : ∀ {l : List Blk}, l.Pairwise (fun x y => x.1 < y.1) → (∀ c ∈ l, c.1 ≠ b.1) → (ins b l).Pairwise (fun x y => x.1 < y.1)
  | [], _, _ => List.pairwise_singleton _ _
  | d :: t, h, hne => by
    unfold ins
    split
    · rename_i hlt
      rw [List.pairwise_cons]
      refine ⟨fun c hc => ?_, h⟩
      rcases List.mem_cons.1 hc with e | e
      · rw [e]; exact hlt
      · have := (List.pairwise_cons.1 h).1 c e; omega
    · rename_i hlt
      rw [List.pairwise_cons] at h ⊢
      refine ⟨fun c hc => ?_, ins_rise h.2 fun c hc => hne c (List.mem_cons_of_mem _ hc)⟩
      have hd := hne d (List.mem_cons_self ..)
      rcases ins_mem.1 hc with e | e
      · rw [e]; omega
      · exact h.1 c e
theorem ins_len {b : Blk} : ∀ {l : List Blk}, (ins b l).length = l.length + 1
  | [] => rfl
  | d :: t => by
    unfold ins
    split
    · simp
    · simp [ins_len (l := t)]
theorem drop_get {l : List Blk} {k : Nat} {x : Blk} (h : l[k]? = some x) : l.drop k = x :: l.drop (k + 1) := by
  have hk : k < l.length := (List.getElem?_eq_some_iff.1 h).1
  rw [List.drop_eq_getElem_cons hk]
  congr 1
  rw [List.getElem?_eq_getElem hk] at h
  exact Option.some.inj h
/-- What is laid so far, and what is to come. -/
def InsOk (l : List Blk) (b : Blk) (k : Nat) (f : Bool) (o : List Blk) : Prop := o.length ≤ 2 * k ∧ (if f then o ++ l.drop k else o ++ ins b (l.drop k)) = ins b l
def WithRel (W : World) (l : List Blk) (b : Blk) (v q i : Value) (wr : World) : Prop := ∃ (k : Nat) (f : Bool) (o : List Blk), k ≤ l.length ∧ i = .int .i64 (k : Int) ∧ q = .bool f ∧ InsOk l b k f o ∧ RowRel W v o wr
set_option maxHeartbeats 2000000 in
theorem refWith_any (A : Option Addr) (n c : Nat) (l : List Blk) (b : Blk) (w : World) (h : RdS w A n l) (hn : n ≤ 1000) :
    Calls Tryd.prog 43 #[.slice A n c, bval b] w (GivesB1 w (ins b l)) := by
  have hlen := h.len
  have HR := Lib.hid h
  have B1 := Lib.hid (Box2.new w b 32)
  have g1 := (Grew.refl w).alloc (.cells #[.int .i64 b.1, .int .i64 b.2] 32)
  clear h
  obtain ⟨y, p⟩ := b
  have mixed := mixedP
  unfold bval enc2
  simp only at *
  have hz : (w.alloc (.cells #[.int .i64 y, .int .i64 p] 32)).heap.size = w.heap.size + 1 := by simp
  go_enter Tryd.func43, Tryd.ntmps43
  go_wp2
  generalize hW : w.alloc (.cells #[.int .i64 y, .int .i64 p] 32) = W at B1 g1 hz ⊢
  clear hW
  go_loopw [5, 6, 7] (WithRel W l (y, p)) (fun _ _ i _ => n - (intOf i).toNat)
  case atStart => exact ⟨0, false, [], Nat.zero_le _, rfl, rfl, ⟨Nat.zero_le _, by simp⟩, OwnB.nil, Below.refl _ _⟩
  case round =>
    obtain ⟨k, f, o, hk, rfl, rfl, hok, hrow⟩ := hrel
    have bw := hrow.2
    have bw2 := hrow.2
    have hol := hok.1
    by_cases hlt : k < n
    · obtain ⟨b', off, ⟨x0, x1⟩, rfl, hbl, hx, hc0, hc1⟩ := HR.out.cell hlt
      have hgr := g1.below.trans (bw.mono g1.below.size)
      have hbr := Nat.lt_of_lt_of_le hbl hgr.size
      have a0 := (hgr.cell (p := ⟨b', off + k * 2, none⟩) hbl).trans hc0
      have a1 := (hgr.cell (p := ⟨b', off + k * 2 + 1, none⟩) hbl).trans hc1
      have z0 := cell_grown (a := ⟨b', off + k * 2, none⟩) hbr a0
      have z1 := cell_grown (a := ⟨b', off + k * 2 + 1, none⟩) hbr a1
      have Bx := B1.out.below bw2
      have v0 := Bx.g0
      have v1 := Bx.g1
      simp only at v0 v1 z0 z1 a0 a1
      have hki : (k : Int) < (n : Int) := by omega
      have Hx := Lib.hid hx
      clear hx hc0 hc1
      have Hok := Lib.hid hok
      clear hok
      have hdr := Lib.hid (drop_get Hx.out)
      cases f with
      | true =>
        have hok2 := Lib.hid (show InsOk l (y, p) (k + 1) true (o ++ [(x0, x1)]) from ⟨by simp; omega, by have := Hok.out.2; rw [if_pos rfl, hdr.out] at this; rw [if_pos rfl, List.append_assoc]; exact this⟩)
        go_wp2_with fail
        refine wp_region_quiet_grown mixed (by kernel_rfl) ?_
        repeat (go_big_quiet_step (fail))
        refine wpQuiet_nil ?_
        intro _ hw'
        obtain ⟨⟨nq, osq⟩, hw''⟩ := hw'
        subst hw''
        have G4 := (Grew.refl wr).grow nq osq
        generalize Go.Sort.grow (wr.drewN nq) osq = w4 at G4 ⊢
        clear z0 z1 v0 v1
        have a0' := (G4.below.cell (p := ⟨b', off + k * 2, none⟩) hbr).trans a0
        have a1' := (G4.below.cell (p := ⟨b', off + k * 2 + 1, none⟩) hbr).trans a1
        obtain ⟨v', w5, hap, hrow5⟩ := (hrow.grew G4).one (by omega) (x0, x1)
        simp only at hap
        have Hrow5 := Lib.hid hrow5
        clear hrow5 hrow
        go_wp2_with (at_builtin; refine wpList_append_run hap rfl _ _ rfl rfl rfl rfl ?_)
        go_roundw
        case rel => exact ⟨k + 1, true, _, by omega, by go_num, rfl, hok2.out, Hrow5.out⟩
        case measure => simp [intOf]; omega
      | false =>
        by_cases hlt2 : y < x0
        · have hd : decide (y < x0) = true := decide_eq_true hlt2
          have hok2 := Lib.hid (show InsOk l (y, p) (k + 1) true ((o ++ [(y, p)]) ++ [(x0, x1)]) from ⟨by simp; omega, by
            have := Hok.out.2
            rw [if_neg (by simp), hdr.out] at this
            rw [ins_lt (show ((y, p) : Blk).1 < ((x0, x1) : Blk).1 from hlt2)] at this
            rw [if_pos rfl, ← this]
            simp⟩)
          go_wp2_with fail
          refine wp_region_quiet_grown mixed (by kernel_rfl) ?_
          repeat (go_big_quiet_step (fail))
          refine wpQuiet_nil ?_
          intro _ hw'
          obtain ⟨⟨nq, osq⟩, hw''⟩ := hw'
          subst hw''
          have G4 := (Grew.refl wr).grow nq osq
          generalize Go.Sort.grow (wr.drewN nq) osq = w4 at G4 ⊢
          clear z0 z1 v0 v1
          have a0' := (G4.below.cell (p := ⟨b', off + k * 2, none⟩) hbr).trans a0
          have a1' := (G4.below.cell (p := ⟨b', off + k * 2 + 1, none⟩) hbr).trans a1
          have Bx4 := Bx.below G4.below
          have u0 := Bx4.c0
          have u1 := Bx4.c1
          simp only at u0 u1
          obtain ⟨v', w5, hap, hrow5⟩ := (hrow.grew G4).one (by omega) (y, p)
          simp only at hap
          have hap1 := Lib.hid hap
          have hbr4 : b' < w4.heap.size := Nat.lt_of_lt_of_le hbr G4.below.size
          go_upto_region 9 with (at_builtin; refine wpList_append_run hap rfl _ _ rfl rfl rfl rfl ?_)
          have b5 := hrow5.2
          have hbrW : b' < W.heap.size := Nat.lt_of_lt_of_le hbl g1.below.size
          have a0'' := (hrow5.2.cell (p := ⟨b', off + k * 2, none⟩) hbrW).trans (((hrow.2.cell (p := ⟨b', off + k * 2, none⟩) hbrW).symm).trans a0)
          have a1'' := (hrow5.2.cell (p := ⟨b', off + k * 2 + 1, none⟩) hbrW).trans (((hrow.2.cell (p := ⟨b', off + k * 2 + 1, none⟩) hbrW).symm).trans a1)
          clear hap hap1 a0' a1' a0 a1 u0 u1
          obtain ⟨v2, w6, hap, hrow6⟩ := hrow5.one (by simp; omega) (x0, x1)
          simp only at hap
          have Hrow6 := Lib.hid hrow6
          clear hrow6 hrow5 hrow
          go_wp2_with (at_builtin; refine wpList_append_run hap rfl _ _ rfl rfl rfl rfl ?_)
          go_roundw
          case rel => exact ⟨k + 1, true, _, by omega, by go_num, rfl, hok2.out, Hrow6.out⟩
          case measure => simp [intOf]; omega
        · have hd : decide (y < x0) = false := decide_eq_false hlt2
          have hok2 := Lib.hid (show InsOk l (y, p) (k + 1) false (o ++ [(x0, x1)]) from ⟨by simp; omega, by
            have := Hok.out.2
            rw [if_neg (by simp), hdr.out] at this
            rw [ins_ge (show ¬ ((y, p) : Blk).1 < ((x0, x1) : Blk).1 from hlt2)] at this
            rw [if_neg (by simp), ← this]
            simp⟩)
          go_wp2_with fail
          refine wp_region_quiet_grown mixed (by kernel_rfl) ?_
          repeat (go_big_quiet_step (fail))
          refine wpQuiet_nil ?_
          intro _ hw'
          obtain ⟨⟨nq, osq⟩, hw''⟩ := hw'
          subst hw''
          have G4 := (Grew.refl wr).grow nq osq
          generalize Go.Sort.grow (wr.drewN nq) osq = w4 at G4 ⊢
          clear z0 z1 v0 v1
          have a0' := (G4.below.cell (p := ⟨b', off + k * 2, none⟩) hbr).trans a0
          have a1' := (G4.below.cell (p := ⟨b', off + k * 2 + 1, none⟩) hbr).trans a1
          obtain ⟨v', w5, hap, hrow5⟩ := (hrow.grew G4).one (by omega) (x0, x1)
          simp only at hap
          have Hrow5 := Lib.hid hrow5
          clear hrow5 hrow
          go_wp2_with (at_builtin; refine wpList_append_run hap rfl _ _ rfl rfl rfl rfl ?_)
          go_roundw
          case rel => exact ⟨k + 1, false, _, by omega, by go_num, rfl, hok2.out, Hrow5.out⟩
          case measure => simp [intOf]; omega
    · obtain rfl : k = n := by omega
      have hd0 : l.drop k = [] := List.drop_of_length_le (by omega)
      cases f with
      | true =>
        have ho : o = ins (y, p) l := by have := hok.2; rw [if_pos rfl, hd0, List.append_nil] at this; exact this
        rw [ho] at hrow
        have Hrow := Lib.hid hrow
        clear hrow hok ho
        go_wp2
        go_ret
        exact ⟨_, rfl, Hrow.out.1.mono (by omega), g1.below.trans (Hrow.out.2.mono (by omega))⟩
      | false =>
        have ho : o ++ [(y, p)] = ins (y, p) l := by have := hok.2; rw [if_neg (by simp), hd0] at this; exact this
        have Bx := B1.out.below bw2
        have u0 := Bx.c0
        have u1 := Bx.c1
        simp only at u0 u1
        obtain ⟨v', w5, hap, hrow5⟩ := hrow.one (by omega) (y, p)
        simp only at hap
        rw [ho] at hrow5
        have Hrow := Lib.hid hrow5
        clear hrow5 hrow hok ho
        go_wp2_with (at_builtin; refine wpList_append_run hap rfl _ _ rfl rfl rfl rfl ?_)
        go_ret
        exact ⟨_, rfl, Hrow.out.1.mono (by omega), g1.below.trans (Hrow.out.2.mono (by omega))⟩
end Go.Proofs.YthiijnanfiddpaaDoor
