/-
  The reader's exported calls: contracts, one a call.
-/
import Derived.Test.YtlnmmklpccppmaaCdRead
import Derived.Deep.RegionWith
import Derived.Deep.QuietTactic
import Derived.BigQuiet
namespace Go.Proofs.Ytlnmmklpccppmaa
open Go.RowKit

/-- What comes of a read that failed and put the place back. -/
def Stays (w : World) (g : Nat) (l : List UInt8) (v : Value) (er : Int) (e : Ending) (w' : World) : Prop :=
  e = .returned (.tuple #[v, .int .i64 er]) ∧ Rdr w' g l ∧ w.grownBy w' (some g)

theorem Moved.of_same {w : World} {g : Nat} {l : List UInt8} {v : Value} {er : Int} (hr : Rdr w g l) {e : Ending} {w' : World} (h : e = .returned (.tuple #[v, .int .i64 er]) ∧ w = w') : Moved w g v er e w' := by
  obtain ⟨rfl, rfl⟩ := h
  exact ⟨rfl, ⟨l, hr⟩, grown_refl _ _⟩

set_option maxHeartbeats 1000000 in
theorem stayItg_ok (g : Nat) (l : List UInt8) (k : Nat) (n : Int) (w : World) (hr : Rdr w g l) (Hc : Hid (Calls Try.prog 23 #[.pointer (some ⟨g, 0, none⟩)] w (ReadPost w g k l (.int .i64 n)))) :
    Calls Try.prog 22 #[.pointer (some ⟨g, 0, none⟩), .func (Fn.func 23) #[.pointer (some ⟨g, 0, none⟩)] #[]] w (ReadPost w g k l (.int .i64 n)) := by
  obtain ⟨A, m, c, hblk, hrd, hnc, hcm⟩ := hr
  have hcell := block_cell hblk
  clear hblk hrd hnc hcm
  focus
    go_enter Try.func22, Try.ntmps22
    go_wp2_with fail
    refine Calls.mono Hc.out ?_
    rintro e w' ⟨rfl, hr', hg⟩
    clear hcell
    go_wp2
    go_ret2
    exact ⟨rfl, hr', hg⟩
theorem stay_back {w w' : World} {g : Nat} {l : List UInt8} {A : Option Addr} {m c : Nat} (hblk : w.heap[g]? = some (.cells #[.slice A m c] 52 (0, 0))) (hrd : Rd w A m l) (hnc : m ≤ c) (hcm : c ≤ maxLen) (hm : ∃ l', Rdr w' g l') (hg : w.grownBy w' (some g)) :
    ∃ u, w'.cell? ⟨g, 0, none⟩ = some u ∧ w'.frozen? ⟨g, 0, none⟩ = false ∧ Rdr (w'.setCell ⟨g, 0, none⟩ (.slice A m c)) g l ∧ w.grownBy (w'.setCell ⟨g, 0, none⟩ (.slice A m c)) (some g) := by
  obtain ⟨l', A', m', c', hb', _⟩ := hm
  have hgg := hg.trans (grown_set0 (g := g) (.slice A m c))
  exact ⟨_, block_cell hb', block_free hb', ⟨A, m, c, block_set hb' _, hrd.beside hblk hgg, hnc, hcm⟩, hgg⟩
set_option maxHeartbeats 1000000 in
theorem stayItg_no (g : Nat) (l : List UInt8) (n er : Int) (w : World) (hr : Rdr w g l) (her : (er == 0) = false) (Hc : Hid (Calls Try.prog 23 #[.pointer (some ⟨g, 0, none⟩)] w (Moved w g (.int .i64 n) er))) :
    Calls Try.prog 22 #[.pointer (some ⟨g, 0, none⟩), .func (Fn.func 23) #[.pointer (some ⟨g, 0, none⟩)] #[]] w (Stays w g l (.int .i64 n) er) := by
  obtain ⟨A, m, c, hblk, hrd, hnc, hcm⟩ := hr
  have hcell := block_cell hblk
  have Hblk := Lib.hid hblk
  clear hblk
  have her2 : (er != 0) = true := by simpa using her
  focus
    go_enter Try.func22, Try.ntmps22
    go_wp2_with fail
    refine Calls.mono Hc.out ?_
    rintro e w' ⟨rfl, hm, hg⟩
    obtain ⟨u, hu, hfr, hr2, hg2⟩ := stay_back Hblk.out hrd hnc hcm hm hg
    clear hcell
    go_wp2
    go_ret2
    exact ⟨rfl, hr2, hg2⟩
theorem Rdr.drew {w : World} {g : Nat} {l : List UInt8} (h : Rdr w g l) : Rdr w.drew g l := by
  obtain ⟨A, m, c, hblk, hrd, hnc, hcm⟩ := h
  exact ⟨A, m, c, hblk, hrd.drew, hnc, hcm⟩

theorem grown_of_drew {w w' : World} {r : Option Nat} (h : w.drew.grownBy w' r) : w.grownBy w' r := ⟨h.os, h.tape, h.output, h.size, h.block⟩

/-- One contract for readOrStay at a number. -/
def Got (w : World) (g : Nat) (l : List UInt8) (v : Value) (k : Nat) (er : Int) (e : Ending) (w' : World) : Prop :=
  e = .returned (.tuple #[v, .int .i64 er]) ∧ Rdr w' g (l.drop k) ∧ w.grownBy w' (some g)

theorem stayIntAny (g : Nat) (l : List UInt8) (w : World) (hr : Rdr w g l) :
    Calls Try.prog 22 #[.pointer (some ⟨g, 0, none⟩), .func (Fn.func 23) #[.pointer (some ⟨g, 0, none⟩)] #[]] w (Got w g l (.int .i64 (rint l).1) (rint l).2.1 (rint l).2.2) := by
  by_cases h4 : l.length < 8
  · rw [rint, if_pos h4]
    exact stayItg_no g l 0 10 w hr rfl ((restInt_no g l w hr h4).mono fun _ _ h => Moved.of_same hr h)
  · rw [rint, if_neg h4]
    exact stayItg_ok g l 8 _ w hr (restInt_yes g l w hr (by omega))
set_option maxHeartbeats 1000000 in
theorem int_any (g : Nat) (l : List UInt8) (w : World) (hr : Rdr w g l) :
    Calls Try.prog 20 #[.pointer (some ⟨g, 0, none⟩)] w (Got w g l (.int .i64 (rint l).1) (rint l).2.1 (rint l).2.2) := by
  have Hc := Lib.hid (stayIntAny g l w.drew hr.drew)
  go_enter Try.func20, Try.ntmps20
  go_wp2_with fail
  go_region_with (go_at_call 22; refine Calls.mono Hc.out ?_; rintro e w' ⟨rfl, hr', hg⟩)
  go_wp2
  go_ret2
  exact ⟨rfl, hr', grown_of_drew hg⟩
set_option maxHeartbeats 400000 in
theorem left_any (g : Nat) (l : List UInt8) (w : World) (hr : Rdr w g l) :
    Calls Try.prog 15 #[.pointer (some ⟨g, 0, none⟩)] w fun e w' => e = .returned (.int .i64 (l.length : Int)) ∧ w = w' := by
  obtain ⟨A, m, c, hblk, hrd, hnc, hcm⟩ := hr
  have hcell := block_cell hblk
  have hl := hrd.len
  rw [hl]
  clear hblk hrd hl
  unfold maxLen at hcm
  go_enter Try.func15, Try.ntmps15
  go_wp2
  go_ret
  exact ⟨rfl, rfl⟩

set_option maxHeartbeats 400000 in
theorem nil_int (w : World) : Calls Try.prog 20 #[.pointer none] w fun e w' => e = .returned (.tuple #[.int .i64 0, .int .i64 3]) ∧ w = w' := by
  go_enter Try.func20, Try.ntmps20
  go_wp2
  go_ret2
  exact ⟨rfl, rfl⟩
set_option maxHeartbeats 400000 in
theorem nil_left (w : World) : Calls Try.prog 15 #[.pointer none] w fun e w' => e = .returned (.int .i64 0) ∧ w = w' := by
  go_enter Try.func15, Try.ntmps15
  go_wp2
  go_ret
  exact ⟨rfl, rfl⟩

set_option maxHeartbeats 400000 in
theorem new_any (A : Option Addr) (n c : Nat) (l : List UInt8) (w : World) (hl : Rd w A n l) (hn : n ≤ 70368744177664) :
    Calls Try.prog 14 #[.slice A n c] w fun e w' => ∃ g, e = .returned (.pointer (some ⟨g, 0, none⟩)) ∧ w.heap.size ≤ g ∧ g < w'.heap.size ∧ Rdr w' g l ∧ Below w.heap.size w w' := by
  have hmk := run_make_bytes (P := Try.prog) Try.underlying50 Try.infoU8 n n (by omega) (by omega)
  obtain ⟨w1, hcp, hown1, hb1⟩ := run_copy_new (P := Try.prog) 50 25 3 5 Try.underlying50 Try.infoU8 A n c n l hl (by omega) (by simp only [maxLen]; omega)
  obtain ⟨A2, c2, hv, hc2, hm2, hr2⟩ := hown1.shapeN hl.len
  injection hv with e1 e2 e3
  subst e1 e3
  go_enter Try.func14, Try.ntmps14
  go_wp2
  go_ret
  refine ⟨_, rfl, hb1.size, by simp, ⟨_, n, n, ?_, hr2.alloc _, hc2, hm2⟩, hb1.alloc hb1.size _⟩
  exact heap_alloc_new w1 _
end Go.Proofs.Ytlnmmklpccppmaa
