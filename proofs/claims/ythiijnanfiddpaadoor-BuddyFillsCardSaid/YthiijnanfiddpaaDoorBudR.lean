/-
  What the document's helpers for rows of blocks do: one is among them, two rows are the same, a row of its own, one more, one less, how many words: contracts.
-/
import Derived.Test.YthiijnanfiddpaaDoorBudH
namespace Go.Proofs.YthiijnanfiddpaaDoor
open Go.RowKit

theorem Tryd.infoBlk2 : (Tryd.prog.info? 32).map (fun i => (i.zero, i.size, i.bytes)) = some (some (.agg #[.int .i64 0, .int .i64 0]), 2, 16) := by kernel_rfl
theorem mixedP : Tryd.prog.follows .mixedOrders = true := by kernel_rfl
/-- So far not found. -/
def InRel (w : World) (l : List Blk) (b : Blk) (i : Value) (wr : World) : Prop := ∃ k : Nat, k ≤ l.length ∧ i = .int .i64 (k : Int) ∧ b ∉ l.take k ∧ Grew w wr
set_option maxHeartbeats 1000000 in
theorem refIn_any (A : Option Addr) (n c : Nat) (l : List Blk) (b : Blk) (w : World) (h : RdS w A n l) (hn : n ≤ 1000) :
    Calls Tryd.prog 48 #[.slice A n c, bval b] w (Says w (.bool (decide (b ∈ l)))) := by
  have hlen := h.len
  have HR := Lib.hid h
  have B1 := Lib.hid (Box2.new w b 32)
  have g1 := (Grew.refl w).alloc (.cells #[.int .i64 b.1, .int .i64 b.2] 32)
  clear h
  obtain ⟨y, p⟩ := b
  have mixed := mixedP
  have hm := noGuard
  unfold bval enc2
  simp only at *
  go_enter Tryd.func48, Tryd.ntmps48
  go_wp2
  go_loopw [5] (InRel (w.alloc (.cells #[.int .i64 y, .int .i64 p] 32)) l (y, p)) (fun i _ => n - (intOf i).toNat)
  case atStart => exact ⟨0, Nat.zero_le _, rfl, by simp, Grew.refl _⟩
  case round =>
    obtain ⟨k, hk, rfl, hno, gr⟩ := hrel
    by_cases hlt : k < n
    · obtain ⟨b', off, ⟨x0, x1⟩, rfl, hbl, hx, hc0, hc1⟩ := HR.out.cell hlt
      have hgr := (g1.trans gr).below
      have z0 := cell_grown (a := ⟨b', off + k * 2, none⟩) (Nat.lt_of_lt_of_le hbl hgr.size) ((hgr.cell (p := ⟨b', off + k * 2, none⟩) hbl).trans hc0)
      have z1 := cell_grown (a := ⟨b', off + k * 2 + 1, none⟩) (Nat.lt_of_lt_of_le hbl hgr.size) ((hgr.cell (p := ⟨b', off + k * 2 + 1, none⟩) hbl).trans hc1)
      have v0 := (B1.out.below gr.below).g0
      have v1 := (B1.out.below gr.below).g1
      simp only at v0 v1 z0 z1
      have q := run_eql_blk x0 x1 y p
      have hki : (k : Int) < (n : Int) := by omega
      have Hx := Lib.hid hx
      clear hx hc0 hc1
      cases he : sameB (x0, x1) (y, p) with
      | true =>
        rw [he] at q
        have hin : (y, p) ∈ l := by rw [← (sameB_iff _ _).1 he]; exact List.mem_of_getElem? Hx.out
        go_wp2_with fail
        refine wp_region_quiet_grown mixed (by kernel_rfl) ?_
        repeat (go_big_quiet_step (fail))
        refine wpQuiet_nil ?_
        intro _ hw'
        obtain ⟨⟨nq, osq⟩, hw''⟩ := hw'
        subst hw''
        have G4 := (Grew.refl wr).grow nq osq
        generalize Go.Sort.grow (wr.drewN nq) osq = w4 at G4 ⊢
        clear z0 z1 v0 v1 q
        go_wp2
        go_ret
        exact ⟨by rw [decide_eq_true hin]; rfl, g1.trans (gr.trans G4)⟩
      | false =>
        rw [he] at q
        have hne : (x0, x1) ≠ (y, p) := fun e => by rw [(sameB_iff _ _).2 e] at he; cases he
        go_wp2_with fail
        refine wp_region_quiet_grown mixed (by kernel_rfl) ?_
        repeat (go_big_quiet_step (fail))
        refine wpQuiet_nil ?_
        intro _ hw'
        obtain ⟨⟨nq, osq⟩, hw''⟩ := hw'
        subst hw''
        have G4 := (Grew.refl wr).grow nq osq
        generalize Go.Sort.grow (wr.drewN nq) osq = w4 at G4 ⊢
        clear z0 z1 v0 v1 q
        go_wp2
        go_roundw
        case rel => exact ⟨k + 1, by omega, by go_num, by rw [take_snocB Hx.out]; intro hmem; rcases List.mem_append.1 hmem with e | e; exact hno e; exact hne (List.mem_singleton.1 e).symm, gr.trans G4⟩
        case measure => simp [intOf]; omega
    · obtain rfl : k = n := by omega
      have hni : (y, p) ∉ l := by rw [List.take_of_length_le (by omega)] at hno; exact hno
      clear hno
      go_wp2
      go_ret
      exact ⟨by rw [decide_eq_false hni]; rfl, g1.trans gr⟩

/-- So far alike. -/
def SameRel (w : World) (l m : List Blk) (i : Value) (wr : World) : Prop := ∃ k : Nat, k ≤ l.length ∧ i = .int .i64 (k : Int) ∧ l.take k = m.take k ∧ Grew w wr
set_option maxHeartbeats 1000000 in
theorem refSame_any (A A2 : Option Addr) (n c n2 c2 : Nat) (l m : List Blk) (w : World) (h : RdS w A n l) (h2 : RdS w A2 n2 m) (hn : n ≤ 1000) :
    Calls Tryd.prog 15 #[.slice A n c, .slice A2 n2 c2] w (Says w (.bool (decide (l = m)))) := by
  have hlen := h.len
  have hlen2 := h2.len
  by_cases hnn : n = n2
  · subst hnn
    have HR := Lib.hid h
    have HR2 := Lib.hid h2
    have mixed := mixedP
    have hm := noGuard
    clear h h2
    go_enter Tryd.func15, Tryd.ntmps15
    go_wp2
    go_loopw [5] (SameRel w l m) (fun i _ => n - (intOf i).toNat)
    case atStart => exact ⟨0, Nat.zero_le _, rfl, by simp, Grew.refl _⟩
    case round =>
      obtain ⟨k, hk, rfl, hsm, gr⟩ := hrel
      by_cases hlt : k < n
      · obtain ⟨b', off, ⟨x0, x1⟩, rfl, hbl, hx, hc0, hc1⟩ := HR.out.cell hlt
        obtain ⟨b2, off2, ⟨y0, y1⟩, rfl, hbl2, hy, hd0, hd1⟩ := HR2.out.cell hlt
        have hgr := gr.below
        have z0 := cell_grown (a := ⟨b', off + k * 2, none⟩) (Nat.lt_of_lt_of_le hbl hgr.size) ((hgr.cell (p := ⟨b', off + k * 2, none⟩) hbl).trans hc0)
        have z1 := cell_grown (a := ⟨b', off + k * 2 + 1, none⟩) (Nat.lt_of_lt_of_le hbl hgr.size) ((hgr.cell (p := ⟨b', off + k * 2 + 1, none⟩) hbl).trans hc1)
        have v0 := cell_grown (a := ⟨b2, off2 + k * 2, none⟩) (Nat.lt_of_lt_of_le hbl2 hgr.size) ((hgr.cell (p := ⟨b2, off2 + k * 2, none⟩) hbl2).trans hd0)
        have v1 := cell_grown (a := ⟨b2, off2 + k * 2 + 1, none⟩) (Nat.lt_of_lt_of_le hbl2 hgr.size) ((hgr.cell (p := ⟨b2, off2 + k * 2 + 1, none⟩) hbl2).trans hd1)
        simp only at v0 v1 z0 z1
        have q := run_neq_blk x0 x1 y0 y1
        have hki : (k : Int) < (n : Int) := by omega
        have Hx := Lib.hid hx
        have Hy := Lib.hid hy
        clear hx hy hc0 hc1 hd0 hd1
        cases he : sameB (x0, x1) (y0, y1) with
        | true =>
          rw [he] at q
          have heq := (sameB_iff _ _).1 he
          have Hsm := Lib.hid (show l.take (k + 1) = m.take (k + 1) by rw [take_snocB Hx.out, take_snocB Hy.out, hsm, heq])
          clear hsm heq
          go_wp2_with fail
          refine wp_region_quiet_grown mixed (by kernel_rfl) ?_
          repeat (go_big_quiet_step (fail))
          refine wpQuiet_nil ?_
          intro _ hw'
          obtain ⟨⟨nq, osq⟩, hw''⟩ := hw'
          subst hw''
          have G4 := (Grew.refl wr).grow nq osq
          generalize Go.Sort.grow (wr.drewN nq) osq = w4 at G4 ⊢
          clear z0 z1 v0 v1 q
          go_wp2
          go_roundw
          case rel => exact ⟨k + 1, by omega, by go_num, Hsm.out, gr.trans G4⟩
          case measure => simp [intOf]; omega
        | false =>
          rw [he] at q
          have hne : l ≠ m := fun e => by
            have h1 := Hx.out
            rw [e, Hy.out] at h1
            rw [(sameB_iff _ _).2 (Option.some.inj h1).symm] at he
            cases he
          clear hsm
          go_wp2_with fail
          refine wp_region_quiet_grown mixed (by kernel_rfl) ?_
          repeat (go_big_quiet_step (fail))
          refine wpQuiet_nil ?_
          intro _ hw'
          obtain ⟨⟨nq, osq⟩, hw''⟩ := hw'
          subst hw''
          have G4 := (Grew.refl wr).grow nq osq
          generalize Go.Sort.grow (wr.drewN nq) osq = w4 at G4 ⊢
          clear z0 z1 v0 v1 q
          go_wp2
          go_ret
          exact ⟨by rw [decide_eq_false hne]; rfl, gr.trans G4⟩
      · obtain rfl : k = n := by omega
        have heq : l = m := by rw [List.take_of_length_le (by omega), List.take_of_length_le (by omega)] at hsm; exact hsm
        have Heq := Lib.hid heq
        clear hsm heq
        go_wp2
        go_ret
        exact ⟨by rw [decide_eq_true Heq.out]; rfl, gr⟩
  · have hne : l ≠ m := fun e => hnn (by rw [← hlen, ← hlen2, e])
    rw [decide_eq_false hne]
    have t1 : ((n : Int) == (n2 : Int)) = false := by simp; omega
    clear h h2
    go_enter Tryd.func15, Tryd.ntmps15
    go_wp2
    go_ret
    exact ⟨rfl, Grew.refl _⟩

/-- A row of the call's own. -/
def GivesB1 (w : World) (l : List Blk) (e : Ending) (w' : World) : Prop := ∃ v, e = .returned v ∧ OwnB 32 w' w.heap.size v l ∧ Below w.heap.size w w'
set_option maxHeartbeats 400000 in
theorem refOwn_any (A : Option Addr) (n c : Nat) (l : List Blk) (w : World) (h : RdS w A n l) (hn : n ≤ 1000) : Calls Tryd.prog 10 #[.slice A n c] w (GivesB1 w l) := by
  obtain ⟨v1, w1, hap, happ⟩ := run_appB (P := Tryd.prog) w.heap.size 22 22 32 Tryd.underlying22 Tryd.infoBlk2 rfl (.slice none 0 0) [] OwnB.nil A n c l h (by simp; omega) (Nat.le_refl _)
  rw [List.nil_append] at happ
  have hb2 := happ.below (OwnB.nil (U := 32)) (Nat.le_refl _) (Nat.le_refl _) (Below.refl _ _)
  have Ho := Lib.hid happ.1
  clear h happ
  go_enter Tryd.func10, Tryd.ntmps10
  go_wp2_with (at_builtin; refine wpList_append_run hap rfl _ _ rfl rfl rfl rfl ?_)
  go_ret
  exact ⟨_, rfl, Ho.out, hb2⟩

end Go.Proofs.YthiijnanfiddpaaDoor
