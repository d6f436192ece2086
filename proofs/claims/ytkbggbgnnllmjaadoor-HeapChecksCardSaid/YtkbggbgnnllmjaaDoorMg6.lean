/-
  The kit's contracts of slices.SortFunc, ContainsFunc, Clone and cmp.Compare, laid at this program's functions, in plain words. No condition of its own.
  Whether free blocks are right, whether it may be asked, whether there is room; the whole region: contracts.
  What the document's helpers for rows of blocks do: one is among them, two rows are the same, a row of its own, one more, one less, how many words: contracts.
-/
import Derived.Shelf.SlGeneric
import Derived.Shelf.SlLaysF0
import Derived.Shelf.SlSortCmp.QuietGrown
import Derived.Deep.Cut
import Derived.Deep.LoopGhost
import Derived.Deep.QuietTactic
import Derived.Shelf.SlicesQ.IndexFunc
import Derived.Shelf.SlicesG.Cmp
import Derived.Shelf.SlicesE.Clone
import Derived.Ground.SlsfProg
import Derived.Ground.SlgcProg
import Derived.Ground.SlgfProg
import Derived.Ground.SlgnProg
import Derived.Test.YtkbggbgnnllmjaaDoorProg
import Derived.Test.YtkbggbgnnllmjaaDoorMg5
namespace Go.Proofs
open Go.Shelf
def Tryd.sortB_ren : Go.Shelf.Ren := ⟨fun | 6 => 35 | 15 => 45 | 14 => 44 | 28 => 62 | 29 => 63 | 20 => 54 | 21 => 55 | 22 => 56 | 23 => 57 | 24 => 58 | 25 => 59 | 26 => 60 | 27 => 61 | 46 => 70 | 47 => 71 | 48 => 72 | 49 => 73 | 50 => 74 | 57 => 78 | n => n, fun | 22 => 24 | 24 => 38 | 25 => 58 | 3 => 3 | 39 => 68 | 0 => 0 | 53 => 84 | 55 => 86 | 4 => 4 | 46 => 78 | 45 => 77 | 50 => 69 | 5 => 5 | 9 => 9 | 66 => 93 | 70 => 97 | 76 => 103 | 77 => 104 | n => n, fun | n => n⟩
theorem Tryd.sortB : Go.Proofs.SlLaysF0.n6 Tryd.prog Tryd.sortB_ren := {
  mixed := by kernel_rfl
  f6 := ⟨Tryd.f35.name, by decide, Tryd.func35.trans (congrArg some (by kernel_rfl))⟩
  f14 := ⟨Tryd.f44.name, by decide, Tryd.func44.trans (congrArg some (by kernel_rfl))⟩
  f15 := Tryd.func45.trans (congrArg some (by kernel_rfl))
  f20 := ⟨Tryd.f54.name, by decide, Tryd.func54.trans (congrArg some (by kernel_rfl))⟩
  f21 := ⟨Tryd.f55.name, by decide, Tryd.func55.trans (congrArg some (by kernel_rfl))⟩
  f22 := ⟨Tryd.f56.name, by decide, Tryd.func56.trans (congrArg some (by kernel_rfl))⟩
  f23 := ⟨Tryd.f57.name, by decide, Tryd.func57.trans (congrArg some (by kernel_rfl))⟩
  f24 := ⟨Tryd.f58.name, by decide, Tryd.func58.trans (congrArg some (by kernel_rfl))⟩
  f25 := ⟨Tryd.f59.name, by decide, Tryd.func59.trans (congrArg some (by kernel_rfl))⟩
  f26 := ⟨Tryd.f60.name, by decide, Tryd.func60.trans (congrArg some (by kernel_rfl))⟩
  f27 := ⟨Tryd.f61.name, by decide, Tryd.func61.trans (congrArg some (by kernel_rfl))⟩
  f28 := Tryd.func62.trans (congrArg some (by kernel_rfl))
  f29 := Tryd.func63.trans (congrArg some (by kernel_rfl))
  f46 := ⟨Tryd.f70.name, by decide, Tryd.func70.trans (congrArg some (by kernel_rfl))⟩
  f47 := Tryd.func71.trans (congrArg some (by kernel_rfl))
  f48 := Tryd.func72.trans (congrArg some (by kernel_rfl))
  f49 := ⟨Tryd.f73.name, by decide, Tryd.func73.trans (congrArg some (by kernel_rfl))⟩
  f50 := ⟨Tryd.f74.name, by decide, Tryd.func74.trans (congrArg some (by kernel_rfl))⟩
  f57 := ⟨Tryd.f78.name, by decide, Tryd.func78.trans (congrArg some (by kernel_rfl))⟩
  t0 := Tryd.underlying0
  a0 := Tryd.isAgg0
  z0 := Tryd.sizeOf0
  v0 := Tryd.zeroValue0
  t3 := Tryd.underlying3
  a3 := Tryd.isAgg3
  z3 := Tryd.sizeOf3
  v3 := Tryd.zeroValue3
  t4 := Tryd.underlying4
  a4 := Tryd.isAgg4
  z4 := Tryd.sizeOf4
  v4 := Tryd.zeroValue4
  t5 := Tryd.underlying5
  a5 := Tryd.isAgg5
  z5 := Tryd.sizeOf5
  v5 := Tryd.zeroValue5
  t9 := Tryd.underlying9
  a9 := Tryd.isAgg9
  z9 := Tryd.sizeOf9
  v9 := Tryd.zeroValue9
  t22 := Tryd.underlying24
  a22 := Tryd.isAgg24
  z22 := Tryd.sizeOf24
  v22 := Tryd.zeroValue24
  t25 := Tryd.underlying58
  a25 := Tryd.isAgg58
  z25 := Tryd.sizeOf58
  v25 := Tryd.zeroValue58
  t39 := Tryd.underlying68
  a39 := Tryd.isAgg68
  z39 := Tryd.sizeOf68
  v39 := Tryd.zeroValue68
  t45 := Tryd.underlying77
  a45 := Tryd.isAgg77
  z45 := Tryd.sizeOf77
  v45 := Tryd.zeroValue77
  t46 := Tryd.underlying78
  a46 := Tryd.isAgg78
  z46 := Tryd.sizeOf78
  v46 := Tryd.zeroValue78
  t50 := Tryd.underlying69
  a50 := Tryd.isAgg69
  z50 := Tryd.sizeOf69
  v50 := Tryd.zeroValue69
  t53 := Tryd.underlying84
  a53 := Tryd.isAgg84
  z53 := Tryd.sizeOf84
  v53 := Tryd.zeroValue84
  t55 := Tryd.underlying86
  a55 := Tryd.isAgg86
  z55 := Tryd.sizeOf86
  v55 := Tryd.zeroValue86
  t66 := Tryd.underlying93
  a66 := Tryd.isAgg93
  z66 := Tryd.sizeOf93
  v66 := Tryd.zeroValue93
  t70 := Tryd.underlying97
  a70 := Tryd.isAgg97
  z70 := Tryd.sizeOf97
  v70 := Tryd.zeroValue97
  t76 := Tryd.underlying103
  a76 := Tryd.isAgg103
  z76 := Tryd.sizeOf103
  v76 := Tryd.zeroValue103
  t77 := Tryd.underlying104
  a77 := Tryd.isAgg104
  z77 := Tryd.sizeOf104
  v77 := Tryd.zeroValue104 }
def Tryd.cmpI_ren : Go.Shelf.Ren := ⟨fun | 5 => 37 | 7 => 46 | n => n, fun | 22 => 3 | 3 => 3 | 4 => 4 | n => n, fun | n => n⟩
theorem Tryd.cmpI : Go.Proofs.SlLaysC2.n5 Tryd.prog Tryd.cmpI_ren := {
  mixed := by kernel_rfl
  f5 := ⟨Tryd.f37.name, by decide, Tryd.func37.trans (congrArg some (by kernel_rfl))⟩
  f7 := ⟨Tryd.f46.name, by decide, Tryd.func46.trans (congrArg some (by kernel_rfl))⟩
  t3 := Tryd.underlying3
  a3 := Tryd.isAgg3
  z3 := Tryd.sizeOf3
  v3 := Tryd.zeroValue3
  t4 := Tryd.underlying4
  a4 := Tryd.isAgg4
  z4 := Tryd.sizeOf4
  v4 := Tryd.zeroValue4
  t22 := Tryd.underlying3
  a22 := Tryd.isAgg3
  z22 := Tryd.sizeOf3
  v22 := Tryd.zeroValue3 }
def Tryd.containsI_ren : Go.Shelf.Ren := ⟨fun | 8 => 40 | 6 => 48 | n => n, fun | 22 => 39 | 23 => 3 | 25 => 45 | 4 => 4 | 3 => 3 | 0 => 0 | n => n, fun | n => n⟩
theorem Tryd.containsI : Go.Proofs.SlLaysH0.n8 Tryd.prog Tryd.containsI_ren := {
  mixed := by kernel_rfl
  f6 := ⟨Tryd.f48.name, by decide, Tryd.func48.trans (congrArg some (by kernel_rfl))⟩
  f8 := ⟨Tryd.f40.name, by decide, Tryd.func40.trans (congrArg some (by kernel_rfl))⟩
  t0 := Tryd.underlying0
  a0 := Tryd.isAgg0
  z0 := Tryd.sizeOf0
  v0 := Tryd.zeroValue0
  t3 := Tryd.underlying3
  a3 := Tryd.isAgg3
  z3 := Tryd.sizeOf3
  v3 := Tryd.zeroValue3
  t4 := Tryd.underlying4
  a4 := Tryd.isAgg4
  z4 := Tryd.sizeOf4
  v4 := Tryd.zeroValue4
  t22 := Tryd.underlying39
  a22 := Tryd.isAgg39
  z22 := Tryd.sizeOf39
  v22 := Tryd.zeroValue39
  t25 := Tryd.underlying45
  a25 := Tryd.isAgg45
  z25 := Tryd.sizeOf45
  v25 := Tryd.zeroValue45 }
def Tryd.cloneB_ren : Go.Shelf.Ren := ⟨fun | 41 => 34 | n => n, fun | 22 => 24 | 23 => 38 | 4 => 4 | n => n, fun | n => n⟩
theorem Tryd.cloneB : Go.Proofs.SlLaysE0.n41 Tryd.prog Tryd.cloneB_ren := {
  mixed := by kernel_rfl
  f41 := ⟨Tryd.f34.name, by decide, Tryd.func34.trans (congrArg some (by kernel_rfl))⟩
  t4 := Tryd.underlying4
  a4 := Tryd.isAgg4
  z4 := Tryd.sizeOf4
  v4 := Tryd.zeroValue4
  t22 := Tryd.underlying24
  a22 := Tryd.isAgg24
  z22 := Tryd.sizeOf24
  v22 := Tryd.zeroValue24 }
end Go.Proofs
namespace Go.Proofs.YtkbggbgnnllmjaaDoor
open Go.RowKit

def chkE (r : Int) (l : List Blk) : Int := if Right r l then 0 else 1
theorem chkE_yes {r : Int} {l : List Blk} (h : Right r l) : chkE r l = 0 := if_pos h
theorem chkE_no {r : Int} {l : List Blk} (h : ¬ Right r l) : chkE r l = 1 := if_neg h

/-- What freeWords does, whatever the order. -/
theorem freeWords_any (r : Int) (A : Option Addr) (n c : Nat) (l : List Blk) (w : World) (h : RdS w A n l) (hn : n ≤ 1000) (hT : Tab w) :
    Calls Tryd.prog 43 #[.int .i64 r, .slice A n c] w fun e w' => (Right r l ∧ MapOf w r l e w') ∨ (¬ Right r l ∧ NoWords w e w') := by
  by_cases hr : 3 ≤ r ∧ r ≤ 8
  · exact freeWords_in r A n c l w hr h hn hT
  · exact (freeWords_out r A n c w hr).mono fun e w' h => .inr ⟨fun q => hr q.1, h⟩

set_option maxHeartbeats 1000000 in
theorem check_any (r : Int) (A : Option Addr) (n c : Nat) (l : List Blk) (w : World) (h : RdS w A n l) (hn : n ≤ 1000) (hT : Tab w) :
    Calls Tryd.prog 33 #[.int .i64 r, .slice A n c] w (Tells w (.int .i64 (chkE r l))) := by
  have S := freeWords_any r A n c l w h hn hT
  by_cases hR : Right r l
  · rw [chkE_yes hR]
    have S2 : Calls Tryd.prog 43 #[.int .i64 r, .slice A n c] w (MapOf w r l) := S.mono fun e w' h => h.elim (fun h => h.2) (fun h => absurd hR h.1)
    clear S h
    go_enter Tryd.func33, Tryd.ntmps33
    go_wp2_with (go_at_call 43; refine S2.mono ?_; rintro e w1 ⟨g, h, m, rfl, _, _, _, _, b1⟩)
    go_ret
    exact ⟨rfl, b1⟩
  · rw [chkE_no hR]
    have S2 : Calls Tryd.prog 43 #[.int .i64 r, .slice A n c] w (NoWords w) := S.mono fun e w' h => h.elim (fun h => absurd h.1 hR) (fun h => h.2)
    clear S h
    go_enter Tryd.func33, Tryd.ntmps33
    go_wp2_with (go_at_call 43; refine S2.mono ?_; rintro e w1 ⟨rfl, b1⟩)
    go_ret
    exact ⟨rfl, b1⟩

/-- It may be asked for a block of this order. -/
def mayTk (r : Int) (l : List Blk) (t : Int) : Bool := decide (Right r l) && (decide (0 ≤ t) && decide (t ≤ r))
/-- There is a free block of this order or a greater one. -/
def roomB (l : List Blk) (t : Int) : Bool := l.any fun b => decide (t ≤ b.2)
/-- The whole region, or a refusal. -/
def GivesL (w : World) (l : List Blk) (er : Int) (e : Ending) (w' : World) : Prop := ∃ v, e = .returned (.tuple #[v, .int .i64 er]) ∧ OwnB 38 w' w.heap.size v l ∧ Below w.heap.size w w'
def allL (r : Int) : List Blk := if 3 ≤ r ∧ r ≤ 8 then [(0, r)] else []
def allE (r : Int) : Int := if 3 ≤ r ∧ r ≤ 8 then 0 else 1
set_option maxHeartbeats 1000000 in
theorem all_any (r : Int) (w : World) : Calls Tryd.prog 15 #[.int .i64 r] w (GivesL w (allL r) (allE r)) := by
  have S := fun W => isRegion_any r W
  unfold allL allE
  by_cases hr : 3 ≤ r ∧ r ≤ 8
  · rw [decide_eq_true hr] at S
    rw [if_pos hr, if_pos hr]
    go_enter Tryd.func15, Tryd.ntmps15
    go_wp2_with (go_at_call 31; refine (S _).mono ?_; rintro e w1 ⟨rfl, rfl⟩)
    go_ret2
    exact ⟨_, rfl, OwnB.one _ (0, r) _ rfl (Nat.le_refl _), (Below.refl _ _).alloc (Nat.le_refl _) _⟩
  · rw [decide_eq_false hr] at S
    rw [if_neg hr, if_neg hr]
    go_enter Tryd.func15, Tryd.ntmps15
    go_wp2_with (go_at_call 31; refine (S _).mono ?_; rintro e w1 ⟨rfl, rfl⟩)
    go_ret2
    exact ⟨_, rfl, OwnB.nil, Below.refl _ _⟩
end Go.Proofs.YtkbggbgnnllmjaaDoor
namespace Go.Proofs.YtkbggbgnnllmjaaDoor
open Go.RowKit

theorem Tryd.infoBlk2 : (Tryd.prog.info? 38).map (fun i => (i.zero, i.size, i.bytes)) = some (some (.agg #[.int .i64 0, .int .i64 0]), 2, 16) := by kernel_rfl
theorem mixedP : Tryd.prog.follows .mixedOrders = true := by kernel_rfl
/-- So far not found. -/
def InRel (w : World) (l : List Blk) (b : Blk) (i : Value) (wr : World) : Prop := ∃ k : Nat, k ≤ l.length ∧ i = .int .i64 (k : Int) ∧ b ∉ l.take k ∧ Grew w wr
/-- So far alike. -/
def SameRel (w : World) (l m : List Blk) (i : Value) (wr : World) : Prop := ∃ k : Nat, k ≤ l.length ∧ i = .int .i64 (k : Int) ∧ l.take k = m.take k ∧ Grew w wr
set_option maxHeartbeats 1000000 in
theorem refSame_any (A A2 : Option Addr) (n c n2 c2 : Nat) (l m : List Blk) (w : World) (h : RdS w A n l) (h2 : RdS w A2 n2 m) (hn : n ≤ 1000) :
    Calls Tryd.prog 21 #[.slice A n c, .slice A2 n2 c2] w (Says w (.bool (decide (l = m)))) := by
  have hlen := h.len
  have hlen2 := h2.len
  by_cases hnn : n = n2
  · subst hnn
    have HR := Lib.hid h
    have HR2 := Lib.hid h2
    have mixed := mixedP
    have hm := noGuard
    clear h h2
    go_enter Tryd.func21, Tryd.ntmps21
    go_wp2
    go_loopw [5] (SameRel w l m) (fun i _ => n - (intOf i).toNat)
    case atStart => exact ⟨0, Nat.zero_le _, rfl, by simp, Grew.refl _⟩
    case round =>
      obtain ⟨k, hk, rfl, hsm, gr⟩ := hrel
      by_cases hlt : k < n
      · obtain ⟨b', off, ⟨x0, x1⟩, rfl, hbl, hx, hc0, hc1⟩ := HR.out.cell hlt
        obtain ⟨b2, off2, ⟨y0, y1⟩, rfl, hbl2, hy, hd0, hd1⟩ := HR2.out.cell hlt
        have hgr := gr.below
        have z0 := cell_grown (a := ⟨b', off + k * 2, none⟩) (Nat.lt_of_lt_of_le hbl hgr.size) ((hgr.cell (p := ⟨b', off + k * 2, none⟩) hbl).trans hc0)
        have z1 := cell_grown (a := ⟨b', off + k * 2 + 1, none⟩) (Nat.lt_of_lt_of_le hbl hgr.size) ((hgr.cell (p := ⟨b', off + k * 2 + 1, none⟩) hbl).trans hc1)
        have v0 := cell_grown (a := ⟨b2, off2 + k * 2, none⟩) (Nat.lt_of_lt_of_le hbl2 hgr.size) ((hgr.cell (p := ⟨b2, off2 + k * 2, none⟩) hbl2).trans hd0)
        have v1 := cell_grown (a := ⟨b2, off2 + k * 2 + 1, none⟩) (Nat.lt_of_lt_of_le hbl2 hgr.size) ((hgr.cell (p := ⟨b2, off2 + k * 2 + 1, none⟩) hbl2).trans hd1)
        simp only at v0 v1 z0 z1
        have q := run_neq_blk x0 x1 y0 y1
        have hki : (k : Int) < (n : Int) := by omega
        have Hx := Lib.hid hx
        have Hy := Lib.hid hy
        clear hx hy hc0 hc1 hd0 hd1
        cases he : sameB (x0, x1) (y0, y1) with
        | true =>
          rw [he] at q
          have heq := (sameB_iff _ _).1 he
          have Hsm := Lib.hid (show l.take (k + 1) = m.take (k + 1) by rw [take_snocB Hx.out, take_snocB Hy.out, hsm, heq])
          clear hsm heq
          go_wp2_with fail
          refine wp_region_quiet_grown mixed (by kernel_rfl) ?_
          repeat (go_big_quiet_step (fail))
          refine wpQuiet_nil ?_
          intro _ hw'
          obtain ⟨⟨nq, osq⟩, hw''⟩ := hw'
          subst hw''
          have G4 := (Grew.refl wr).grow nq osq
          generalize Go.Sort.grow (wr.drewN nq) osq = w4 at G4 ⊢
          clear z0 z1 v0 v1 q
          go_wp2
          go_roundw
          case rel => exact ⟨k + 1, by omega, by go_num, Hsm.out, gr.trans G4⟩
          case measure => simp [intOf]; omega
        | false =>
          rw [he] at q
          have hne : l ≠ m := fun e => by
            have h1 := Hx.out
            rw [e, Hy.out] at h1
            rw [(sameB_iff _ _).2 (Option.some.inj h1).symm] at he
            cases he
          clear hsm
          go_wp2_with fail
          refine wp_region_quiet_grown mixed (by kernel_rfl) ?_
          repeat (go_big_quiet_step (fail))
          refine wpQuiet_nil ?_
          intro _ hw'
          obtain ⟨⟨nq, osq⟩, hw''⟩ := hw'
          subst hw''
          have G4 := (Grew.refl wr).grow nq osq
          generalize Go.Sort.grow (wr.drewN nq) osq = w4 at G4 ⊢
          clear z0 z1 v0 v1 q
          go_wp2
          go_ret
          exact ⟨by rw [decide_eq_false hne]; rfl, gr.trans G4⟩
      · obtain rfl : k = n := by omega
        have heq : l = m := by rw [List.take_of_length_le (by omega), List.take_of_length_le (by omega)] at hsm; exact hsm
        have Heq := Lib.hid heq
        clear hsm heq
        go_wp2
        go_ret
        exact ⟨by rw [decide_eq_true Heq.out]; rfl, gr⟩
  · have hne : l ≠ m := fun e => hnn (by rw [← hlen, ← hlen2, e])
    rw [decide_eq_false hne]
    have t1 : ((n : Int) == (n2 : Int)) = false := by simp; omega
    clear h h2
    go_enter Tryd.func21, Tryd.ntmps21
    go_wp2
    go_ret
    exact ⟨rfl, Grew.refl _⟩

/-- A row of the call's own. -/
def GivesB1 (w : World) (l : List Blk) (e : Ending) (w' : World) : Prop := ∃ v, e = .returned v ∧ OwnB 38 w' w.heap.size v l ∧ Below w.heap.size w w'
set_option maxHeartbeats 400000 in
theorem refOwn_any (A : Option Addr) (n c : Nat) (l : List Blk) (w : World) (h : RdS w A n l) (hn : n ≤ 1000) : Calls Tryd.prog 14 #[.slice A n c] w (GivesB1 w l) := by
  obtain ⟨v1, w1, hap, happ⟩ := run_appB (P := Tryd.prog) w.heap.size 24 24 38 Tryd.underlying24 Tryd.infoBlk2 rfl (.slice none 0 0) [] OwnB.nil A n c l h (by simp; omega) (Nat.le_refl _)
  rw [List.nil_append] at happ
  have hb2 := happ.below (OwnB.nil (U := 38)) (Nat.le_refl _) (Nat.le_refl _) (Below.refl _ _)
  have Ho := Lib.hid happ.1
  clear h happ
  go_enter Tryd.func14, Tryd.ntmps14
  go_wp2_with (at_builtin; refine wpList_append_run hap rfl _ _ rfl rfl rfl rfl ?_)
  go_ret
  exact ⟨_, rfl, Ho.out, hb2⟩

end Go.Proofs.YtkbggbgnnllmjaaDoor
