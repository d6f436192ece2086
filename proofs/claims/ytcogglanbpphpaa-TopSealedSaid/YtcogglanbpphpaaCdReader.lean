/-
  The reader's exported calls: contracts, one a call.
-/
import Derived.Test.YtcogglanbpphpaaCdRead
import Derived.Deep.RegionWith
import Derived.Deep.QuietTactic
import Derived.BigQuiet
namespace Go.Proofs.Ytcogglanbpphpaa
open Go.RowKit

/-- What comes of a read that failed and put the place back. -/
def Stays (w : World) (g : Nat) (l : List UInt8) (v : Value) (er : Int) (e : Ending) (w' : World) : Prop :=
  e = .returned (.tuple #[v, .int .i64 er]) ∧ Rdr w' g l ∧ w.grownBy w' (some g)

theorem Moved.of_same {w : World} {g : Nat} {l : List UInt8} {v : Value} {er : Int} (hr : Rdr w g l) {e : Ending} {w' : World} (h : e = .returned (.tuple #[v, .int .i64 er]) ∧ w = w') : Moved w g v er e w' := by
  obtain ⟨rfl, rfl⟩ := h
  exact ⟨rfl, ⟨l, hr⟩, grown_refl _ _⟩

set_option maxHeartbeats 1000000 in
theorem stayNum_ok (g : Nat) (l : List UInt8) (k : Nat) (n : Int) (w : World) (hr : Rdr w g l) (Hc : Hid (Calls Try.prog 85 #[.pointer (some ⟨g, 0, none⟩)] w (ReadPost w g k l (.int .i64 n)))) :
    Calls Try.prog 84 #[.pointer (some ⟨g, 0, none⟩), .func (Fn.func 85) #[.pointer (some ⟨g, 0, none⟩)] #[]] w (ReadPost w g k l (.int .i64 n)) := by
  obtain ⟨A, m, c, hblk, hrd, hnc, hcm⟩ := hr
  have hcell := block_cell hblk
  clear hblk hrd hnc hcm
  focus
    go_enter Try.func84, Try.ntmps84
    go_wp2_with fail
    refine Calls.mono Hc.out ?_
    rintro e w' ⟨rfl, hr', hg⟩
    clear hcell
    go_wp2
    go_ret2
    exact ⟨rfl, hr', hg⟩
theorem stay_back {w w' : World} {g : Nat} {l : List UInt8} {A : Option Addr} {m c : Nat} (hblk : w.heap[g]? = some (.cells #[.slice A m c] 126 (0, 0))) (hrd : Rd w A m l) (hnc : m ≤ c) (hcm : c ≤ maxLen) (hm : ∃ l', Rdr w' g l') (hg : w.grownBy w' (some g)) :
    ∃ u, w'.cell? ⟨g, 0, none⟩ = some u ∧ w'.frozen? ⟨g, 0, none⟩ = false ∧ Rdr (w'.setCell ⟨g, 0, none⟩ (.slice A m c)) g l ∧ w.grownBy (w'.setCell ⟨g, 0, none⟩ (.slice A m c)) (some g) := by
  obtain ⟨l', A', m', c', hb', _⟩ := hm
  have hgg := hg.trans (grown_set0 (g := g) (.slice A m c))
  exact ⟨_, block_cell hb', block_free hb', ⟨A, m, c, block_set hb' _, hrd.beside hblk hgg, hnc, hcm⟩, hgg⟩
set_option maxHeartbeats 1000000 in
theorem stayNum_no (g : Nat) (l : List UInt8) (n er : Int) (w : World) (hr : Rdr w g l) (her : (er == 0) = false) (Hc : Hid (Calls Try.prog 85 #[.pointer (some ⟨g, 0, none⟩)] w (Moved w g (.int .i64 n) er))) :
    Calls Try.prog 84 #[.pointer (some ⟨g, 0, none⟩), .func (Fn.func 85) #[.pointer (some ⟨g, 0, none⟩)] #[]] w (Stays w g l (.int .i64 n) er) := by
  obtain ⟨A, m, c, hblk, hrd, hnc, hcm⟩ := hr
  have hcell := block_cell hblk
  have Hblk := Lib.hid hblk
  clear hblk
  have her2 : (er != 0) = true := by simpa using her
  focus
    go_enter Try.func84, Try.ntmps84
    go_wp2_with fail
    refine Calls.mono Hc.out ?_
    rintro e w' ⟨rfl, hm, hg⟩
    obtain ⟨u, hu, hfr, hr2, hg2⟩ := stay_back Hblk.out hrd hnc hcm hm hg
    clear hcell
    go_wp2
    go_ret2
    exact ⟨rfl, hr2, hg2⟩
set_option maxHeartbeats 1000000 in
theorem stayText_ok (g : Nat) (l : List UInt8) (k : Nat) (s : ByteArray) (w : World) (hr : Rdr w g l) (Hc : Hid (Calls Try.prog 87 #[.pointer (some ⟨g, 0, none⟩)] w (ReadPost w g k l (.string s)))) :
    Calls Try.prog 86 #[.pointer (some ⟨g, 0, none⟩), .func (Fn.func 87) #[.pointer (some ⟨g, 0, none⟩)] #[]] w (ReadPost w g k l (.string s)) := by
  obtain ⟨A, m, c, hblk, hrd, hnc, hcm⟩ := hr
  have hcell := block_cell hblk
  clear hblk hrd hnc hcm
  go_enter Try.func86, Try.ntmps86
  go_wp2_with fail
  refine Calls.mono Hc.out ?_
  rintro e w' ⟨rfl, hr', hg⟩
  clear hcell
  go_wp2
  go_ret2
  exact ⟨rfl, hr', hg⟩
set_option maxHeartbeats 1000000 in
theorem stayText_no (g : Nat) (l : List UInt8) (s : ByteArray) (er : Int) (w : World) (hr : Rdr w g l) (her : (er == 0) = false) (Hc : Hid (Calls Try.prog 87 #[.pointer (some ⟨g, 0, none⟩)] w (Moved w g (.string s) er))) :
    Calls Try.prog 86 #[.pointer (some ⟨g, 0, none⟩), .func (Fn.func 87) #[.pointer (some ⟨g, 0, none⟩)] #[]] w (Stays w g l (.string s) er) := by
  obtain ⟨A, m, c, hblk, hrd, hnc, hcm⟩ := hr
  have hcell := block_cell hblk
  have Hblk := Lib.hid hblk
  clear hblk
  have her2 : (er != 0) = true := by simpa using her
  go_enter Try.func86, Try.ntmps86
  go_wp2_with fail
  refine Calls.mono Hc.out ?_
  rintro e w' ⟨rfl, hm, hg⟩
  obtain ⟨u, hu, hfr, hr2, hg2⟩ := stay_back Hblk.out hrd hnc hcm hm hg
  clear hcell
  go_wp2
  go_ret2
  exact ⟨rfl, hr2, hg2⟩

theorem Rdr.drew {w : World} {g : Nat} {l : List UInt8} (h : Rdr w g l) : Rdr w.drew g l := by
  obtain ⟨A, m, c, hblk, hrd, hnc, hcm⟩ := h
  exact ⟨A, m, c, hblk, hrd.drew, hnc, hcm⟩

theorem grown_of_drew {w w' : World} {r : Option Nat} (h : w.drew.grownBy w' r) : w.grownBy w' r := ⟨h.os, h.tape, h.output, h.size, h.block⟩

/-- One contract for readOrStay at a number. -/
def Got (w : World) (g : Nat) (l : List UInt8) (v : Value) (k : Nat) (er : Int) (e : Ending) (w' : World) : Prop :=
  e = .returned (.tuple #[v, .int .i64 er]) ∧ Rdr w' g (l.drop k) ∧ w.grownBy w' (some g)

theorem stayNumber_any (g : Nat) (l : List UInt8) (w : World) (hr : Rdr w g l) :
    Calls Try.prog 84 #[.pointer (some ⟨g, 0, none⟩), .func (Fn.func 85) #[.pointer (some ⟨g, 0, none⟩)] #[]] w (Got w g l (.int .i64 (rnum l).1) (rnum l).2.1 (rnum l).2.2) := by
  by_cases h0 : (rnum l).2.2 = 0
  · obtain ⟨u, hu, _, _, _, hc⟩ := rnum_ok l h0
    rw [hu]
    exact stayNum_ok g l 4 u w hr (hc g w hr)
  · by_cases h4 : l.length < 4
    · rw [rnum, if_pos h4]
      exact stayNum_no g l 0 10 w hr rfl ((restNumber_no g l w hr h4).mono fun _ _ h => Moved.of_same hr h)
    · by_cases h5 : 127 < (l.getD 0 0).toNat
      · rw [rnum, if_neg h4, if_pos h5]
        have hx : l[0]? = some (l.getD 0 0) := by simp [List.getD, List.getElem?_eq_getElem (show 0 < l.length by omega)]
        exact stayNum_no g l 0 11 w hr rfl ((restNumber_form g l _ w hr (by omega) hx h5).mono fun _ _ ⟨h1, h2, h3⟩ => ⟨h1, ⟨_, h2⟩, h3⟩)
      · exact absurd (by rw [rnum, if_neg h4, if_neg h5]) h0
theorem stayTextAny (g : Nat) (l : List UInt8) (w : World) (hr : Rdr w g l) :
    Calls Try.prog 86 #[.pointer (some ⟨g, 0, none⟩), .func (Fn.func 87) #[.pointer (some ⟨g, 0, none⟩)] #[]] w (Got w g l (.string ⟨(rtext l).1.toArray⟩) (rtext l).2.1 (rtext l).2.2) := by
  by_cases h0 : (rnum l).2.2 = 0
  · obtain ⟨u, hu, hlt, _, h4, hc⟩ := rnum_ok l h0
    rw [rtext, if_neg (by simpa using h0), hu]
    by_cases h7 : 65536 < u
    · rw [if_pos (show (65536 : Int) < (u : Int) by omega)]
      exact stayText_no g l _ 11 w hr rfl (restText_big g l u w hlt (hc g w hr) h7)
    · rw [if_neg (show ¬ (65536 : Int) < (u : Int) by omega)]
      by_cases h8 : l.length < 4 + u
      · rw [if_pos (show (l.length : Int) - 4 < (u : Int) by omega)]
        exact stayText_no g l _ 10 w hr rfl (restText_short g l u w hlt (hc g w hr) (by omega) h4 h8)
      · rw [if_neg (show ¬ (l.length : Int) - 4 < (u : Int) by omega)]
        exact stayText_ok g l _ _ w hr (restText_ok g l u w hlt (hc g w hr) (by omega) (by omega))
  · rw [rtext, if_pos h0]
    exact stayText_no g l _ _ w hr (by simpa using h0) (restText_end g l _ w hr rfl h0)

set_option maxHeartbeats 1000000 in
theorem number_any (g : Nat) (l : List UInt8) (w : World) (hr : Rdr w g l) :
    Calls Try.prog 65 #[.pointer (some ⟨g, 0, none⟩)] w (Got w g l (.int .i64 (rnum l).1) (rnum l).2.1 (rnum l).2.2) := by
  have Hc := Lib.hid (stayNumber_any g l w.drew hr.drew)
  go_enter Try.func65, Try.ntmps65
  go_wp2_with fail
  go_region_with (go_at_call 84; refine Calls.mono Hc.out ?_; rintro e w' ⟨rfl, hr', hg⟩)
  go_wp2
  go_ret2
  exact ⟨rfl, hr', grown_of_drew hg⟩
set_option maxHeartbeats 1000000 in
theorem text_any (g : Nat) (l : List UInt8) (w : World) (hr : Rdr w g l) :
    Calls Try.prog 67 #[.pointer (some ⟨g, 0, none⟩)] w (Got w g l (.string ⟨(rtext l).1.toArray⟩) (rtext l).2.1 (rtext l).2.2) := by
  have Hc := Lib.hid (stayTextAny g l w.drew hr.drew)
  go_enter Try.func67, Try.ntmps67
  go_wp2_with fail
  go_region_with (go_at_call 86; refine Calls.mono Hc.out ?_; rintro e w' ⟨rfl, hr', hg⟩)
  go_wp2
  go_ret2
  exact ⟨rfl, hr', grown_of_drew hg⟩
set_option maxHeartbeats 400000 in
theorem left_any (g : Nat) (l : List UInt8) (w : World) (hr : Rdr w g l) :
    Calls Try.prog 68 #[.pointer (some ⟨g, 0, none⟩)] w fun e w' => e = .returned (.int .i64 (l.length : Int)) ∧ w = w' := by
  obtain ⟨A, m, c, hblk, hrd, hnc, hcm⟩ := hr
  have hcell := block_cell hblk
  have hl := hrd.len
  rw [hl]
  clear hblk hrd hl
  unfold maxLen at hcm
  go_enter Try.func68, Try.ntmps68
  go_wp2
  go_ret
  exact ⟨rfl, rfl⟩

set_option maxHeartbeats 400000 in
theorem nil_number (w : World) : Calls Try.prog 65 #[.pointer none] w fun e w' => e = .returned (.tuple #[.int .i64 0, .int .i64 3]) ∧ w = w' := by
  go_enter Try.func65, Try.ntmps65
  go_wp2
  go_ret2
  exact ⟨rfl, rfl⟩
set_option maxHeartbeats 400000 in
theorem nil_text (w : World) : Calls Try.prog 67 #[.pointer none] w fun e w' => e = .returned (.tuple #[.string ⟨#[]⟩, .int .i64 3]) ∧ w = w' := by
  go_enter Try.func67, Try.ntmps67
  go_wp2
  go_ret2
  exact ⟨rfl, rfl⟩
set_option maxHeartbeats 400000 in
theorem nil_left (w : World) : Calls Try.prog 68 #[.pointer none] w fun e w' => e = .returned (.int .i64 0) ∧ w = w' := by
  go_enter Try.func68, Try.ntmps68
  go_wp2
  go_ret
  exact ⟨rfl, rfl⟩

set_option maxHeartbeats 400000 in
theorem new_any (A : Option Addr) (n c : Nat) (l : List UInt8) (w : World) (hl : Rd w A n l) (hn : n ≤ 70368744177664) :
    Calls Try.prog 61 #[.slice A n c] w fun e w' => ∃ g, e = .returned (.pointer (some ⟨g, 0, none⟩)) ∧ w.heap.size ≤ g ∧ g < w'.heap.size ∧ Rdr w' g l ∧ Below w.heap.size w w' := by
  have hmk := run_make_bytes (P := Try.prog) Try.underlying124 Try.infoU8 n n (by omega) (by omega)
  obtain ⟨w1, hcp, hown1, hb1⟩ := run_copy_new (P := Try.prog) 124 32 3 5 Try.underlying124 Try.infoU8 A n c n l hl (by omega) (by simp only [maxLen]; omega)
  obtain ⟨A2, c2, hv, hc2, hm2, hr2⟩ := hown1.shapeN hl.len
  injection hv with e1 e2 e3
  subst e1 e3
  go_enter Try.func61, Try.ntmps61
  go_wp2
  go_ret
  refine ⟨_, rfl, hb1.size, by simp, ⟨_, n, n, ?_, hr2.alloc _, hc2, hm2⟩, hb1.alloc hb1.size _⟩
  exact heap_alloc_new w1 _
end Go.Proofs.Ytcogglanbpphpaa
