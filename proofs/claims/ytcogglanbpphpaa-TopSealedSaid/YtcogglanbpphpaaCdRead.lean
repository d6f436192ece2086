/-
  What the calls that read numbers, ints and texts do: contracts, one a function. A reader is a block of one cell, which holds the slice of what is left.
-/
import Derived.Test.YtcogglanbpphpaaCdRef
import Derived.Laws.Bits64b
namespace Go.Proofs.Ytcogglanbpphpaa
open Go.RowKit

/-- The number that bytes are, the highest first. -/
def ofbe (l : List UInt8) : Nat := l.foldl (fun n x => n * 256 + x.toNat) 0
theorem ofbe_snoc (l : List UInt8) (x : UInt8) : ofbe (l ++ [x]) = ofbe l * 256 + x.toNat := by simp [ofbe]
theorem ofbe_lt (l : List UInt8) : ofbe l < 256 ^ l.length := by
  suffices h : ∀ (l : List UInt8) (a : Nat), l.foldl (fun n x => n * 256 + x.toNat) a < (a + 1) * 256 ^ l.length by simpa [ofbe] using h l 0
  intro l
  induction l with
  | nil => intro a; simp
  | cons x l ih =>
    intro a
    have hx := x.toNat_lt
    have h1 := ih (a * 256 + x.toNat)
    have h2 : (a * 256 + x.toNat + 1) * 256 ^ l.length ≤ ((a + 1) * 256) * 256 ^ l.length := Nat.mul_le_mul_right _ (by omega)
    simp only [List.foldl_cons, List.length_cons, Nat.pow_succ]
    calc _ < _ := h1
      _ ≤ _ := h2
      _ = _ := by rw [Nat.mul_assoc, Nat.mul_comm 256]
theorem ofbe_step (U x : Nat) (hU : U < 72057594037927936) (hx : x < 256) : bits .or .u64 ((U : Int) * 256) (x : Int) = ((U * 256 + x : Nat) : Int) := by
  have h1 : (U : Int) * 256 = ((U * 256 : Nat) : Int) := by omega
  rw [h1, bits_or_u64_nat _ _ (by omega) (by omega)]
  congr 1
  have := Nat.two_pow_add_eq_or_of_lt (i := 8) (b := x) (by omega) U
  rw [Nat.mul_comm U 256]
  exact this.symm

set_option maxHeartbeats 400000 in
theorem joinBits_any (A : Option Addr) (n c : Nat) (l : List UInt8) (w : World) (hl : Rd w A n l) (hn : n ≤ 8) :
    Calls Try.prog 96 #[.slice A n c] w fun e w' => e = .returned (.int .u64 (ofbe l)) ∧ w = w' := by
  have Hl := Lib.hid hl.len
  go_enter Try.func96, Try.ntmps96
  go_wp2_with fail
  go_loop [3, 8] (fun v i => ∃ k : Nat, k ≤ n ∧ i = .int .i64 k ∧ v = .int .u64 (ofbe (l.take k))) (fun _ i => n - (intOf i).toNat)
  case atStart => exact ⟨0, Nat.zero_le _, rfl, rfl⟩
  case round =>
    obtain ⟨k, hk, rfl, rfl⟩ := hrel
    by_cases hlt : k < n
    · obtain ⟨b, off, x, rfl, _, hx, hc⟩ := hl.cell hlt
      have hU : ofbe (l.take k) < 72057594037927936 := by
        have h1 := ofbe_lt (l.take k)
        have h2 : 256 ^ (l.take k).length ≤ 256 ^ 7 := Nat.pow_le_pow_right (by omega) (by rw [List.length_take]; omega)
        omega
      have hst := ofbe_step (ofbe (l.take k)) x.toNat hU x.toNat_lt
      have hsn : ofbe (l.take (k + 1)) = ofbe (l.take k) * 256 + x.toNat := by
        rw [List.take_add_one, hx]
        exact ofbe_snoc _ _
      rw [← hsn] at hst
      clear hx
      have hx256 : x.toNat < 256 := x.toNat_lt
      go_wp2
      refine ⟨⟨k + 1, by omega, by go_num, ?_⟩, by simp [intOf]; omega⟩
      rw [hsn]
      congr 1
    · obtain rfl : k = n := by omega
      rw [List.take_of_length_le (by rw [Hl.out]; omega)]
      go_wp2
      go_ret
      exact ⟨rfl, rfl⟩

/-- Block g is one cell, the slice of what a reader has left: the bytes l. -/
def Rdr (w : World) (g : Nat) (l : List UInt8) : Prop :=
  ∃ A n c, w.heap[g]? = some (.cells #[.slice A n c] 126 (0, 0)) ∧ Rd w A n l ∧ n ≤ c ∧ c ≤ maxLen
theorem block_cell {w : World} {g : Nat} {v : Value} {t : TypeId} (h : w.heap[g]? = some (.cells #[v] t (0, 0))) : w.cell? ⟨g, 0, none⟩ = some v := by
  rw [cell_of_row w g 0 _ t (0, 0) h]; rfl
theorem block_free {w : World} {g : Nat} {v : Value} {t : TypeId} (h : w.heap[g]? = some (.cells #[v] t (0, 0))) : w.frozen? ⟨g, 0, none⟩ = false := by
  simp [World.frozen?, h]
theorem block_set {w : World} {g : Nat} {v : Value} {t : TypeId} (h : w.heap[g]? = some (.cells #[v] t (0, 0))) (u : Value) : (w.setCell ⟨g, 0, none⟩ u).heap[g]? = some (.cells #[u] t (0, 0)) := by
  simp [World.setCell, Array.getElem?_modify, h]
/-- Bytes don't lie in a block that is one slice; so they stay where only that block turns. -/
theorem Rd.beside {w w' : World} {A : Option Addr} {n : Nat} {l : List UInt8} {g : Nat} {B : Option Addr} {m c : Nat} {t : TypeId} (h : Rd w A n l) (hb : w.heap[g]? = some (.cells #[.slice B m c] t (0, 0))) (hg : w.grownBy w' (some g)) : Rd w' A n l :=
  ⟨h.len, fun hn => by
    obtain ⟨b, off, e, hlt, hc⟩ := h.at_ hn
    have hne : b ≠ g := by
      rintro rfl
      have hl : 0 < l.length := by have := h.len; omega
      have h0 := hc 0 l[0] (List.getElem?_eq_getElem hl)
      rw [cell_of_row w b _ _ t (0, 0) hb] at h0
      rcases Nat.eq_zero_or_pos (off + 0) with h1 | h1
      · rw [h1] at h0; cases h0
      · rw [Array.getElem?_eq_none (by simp; omega)] at h0; cases h0
    refine ⟨b, off, e, Nat.lt_of_lt_of_le hlt hg.size, fun j x hx => ?_⟩
    rw [World.cell?_of_block (w := w) (hg.block b hlt (fun e => hne (by injection e)))]
    exact hc j x hx⟩

/-- What comes of take where there is enough. -/
def TakePostC (w : World) (g : Nat) (k : Nat) (l : List UInt8) (e : Ending) (w' : World) : Prop :=
  ∃ A c, e = .returned (.tuple #[.slice A k c, .int .i64 0]) ∧ k ≤ c ∧ c ≤ maxLen ∧ Rd w' A k (l.take k) ∧ Rdr w' g (l.drop k) ∧ w.grownBy w' (some g)

set_option maxHeartbeats 400000 in
theorem take_no (g : Nat) (l : List UInt8) (k : Int) (w : World) (hr : Rdr w g l) (hk : (l.length : Int) < k) :
    Calls Try.prog 95 #[.pointer (some ⟨g, 0, none⟩), .int .i64 k] w (RefusedS w 10) := by
  obtain ⟨A, n, c, hblk, hrd, hnc, hcm⟩ := hr
  have hcell := block_cell hblk
  have hfr := block_free hblk
  have hlen := hrd.len
  rw [hlen] at hk
  clear hlen hrd hblk
  unfold maxLen at hcm
  go_enter Try.func95, Try.ntmps95
  go_wp2
  go_ret2
  exact ⟨rfl, rfl⟩

/-- A store into a reader's block, by the reader's own slice. -/
theorem grown_set0 {w : World} {g : Nat} (v : Value) : w.grownBy (w.setCell ⟨g, 0, none⟩ v) (some g) :=
  ⟨rfl, rfl, rfl, by simp [World.setCell], fun k _ hne => Below.heap_setCell w _ v k (fun e => hne (by rw [e]))⟩
theorem take_post {w : World} {g : Nat} {l : List UInt8} {A : Option Addr} {n c k : Nat} (hblk : w.heap[g]? = some (.cells #[.slice A n c] 126 (0, 0))) (hrd : Rd w A n l) (hnc : n ≤ c) (hcm : c ≤ maxLen) (hk : k ≤ n) :
    TakePostC w g k l (.returned (.tuple #[.slice A k c, .int .i64 0])) (w.setCell ⟨g, 0, none⟩ (.slice (if c = k then A else A.map (·.add k)) (n - k) (c - k))) :=
  ⟨A, c, rfl, by omega, hcm, (hrd.take hk).beside hblk (grown_set0 _), ⟨_, _, _, block_set hblk _, (hrd.cut hk hnc).beside hblk (grown_set0 _), by omega, by omega⟩, grown_set0 _⟩

set_option maxHeartbeats 400000 in
theorem take_yes (g : Nat) (l : List UInt8) (k : Nat) (w : World) (hr : Rdr w g l) (hk : k ≤ l.length) :
    Calls Try.prog 95 #[.pointer (some ⟨g, 0, none⟩), .int .i64 k] w (TakePostC w g k l) := by
  obtain ⟨A, n, c, hblk, hrd, hnc, hcm⟩ := hr
  have hcell := block_cell hblk
  have hfr := block_free hblk
  have hlen := hrd.len
  rw [hlen] at hk
  clear hlen
  have hp := take_post hblk hrd hnc hcm hk
  clear hblk
  unfold maxLen at hcm
  have Hp := Lib.hid hp
  clear hp
  by_cases hck : c = k
  · subst hck
    obtain rfl : n = c := by omega
    rw [if_pos rfl, Nat.sub_self] at Hp
    go_enter Try.func95, Try.ntmps95
    go_wp2
    go_ret2
    exact Hp.out
  · rw [if_neg hck] at Hp
    go_enter Try.func95, Try.ntmps95
    go_wp2
    go_ret2
    exact Hp.out

/-- What comes of a method that reads a number of k bytes: its value is f of them. -/
def ReadPost (w : World) (g : Nat) (k : Nat) (l : List UInt8) (v : Value) (e : Ending) (w' : World) : Prop :=
  e = .returned (.tuple #[v, .int .i64 0]) ∧ Rdr w' g (l.drop k) ∧ w.grownBy w' (some g)

set_option maxHeartbeats 400000 in
theorem restNumber_no (g : Nat) (l : List UInt8) (w : World) (hr : Rdr w g l) (hk : l.length < 4) :
    Calls Try.prog 85 #[.pointer (some ⟨g, 0, none⟩)] w fun e w' => e = .returned (.tuple #[.int .i64 0, .int .i64 10]) ∧ w = w' := by
  go_enter Try.func85, Try.ntmps85
  go_wp2_with fail
  refine (take_no g l 4 w hr (by omega)).mono ?_
  rintro e w' ⟨rfl, rfl⟩
  go_wp2
  go_ret2
  exact ⟨rfl, rfl⟩
/-- Where the first byte is too great: the bytes are taken, and refused. -/
theorem restNumber_form (g : Nat) (l : List UInt8) (x : UInt8) (w : World) (hr : Rdr w g l) (hk : 4 ≤ l.length) (hx : l[0]? = some x) (h : 127 < x.toNat) :
    Calls Try.prog 85 #[.pointer (some ⟨g, 0, none⟩)] w (fun e w' => e = .returned (.tuple #[.int .i64 0, .int .i64 11]) ∧ Rdr w' g (l.drop 4) ∧ w.grownBy w' (some g)) := by
  go_enter Try.func85, Try.ntmps85
  go_wp2_with fail
  refine (take_yes g l 4 w hr hk).mono ?_
  rintro e w' ⟨A, c, rfl, hc, hm, hrd, hr', hg⟩
  obtain ⟨b, off, y, rfl, _, hy, hcell⟩ := hrd.cell (j := 0) (by omega)
  obtain rfl : y = x := by
    rw [List.getElem?_take, if_pos (by omega), hx] at hy
    injection hy with hy
    exact hy.symm
  rw [Nat.add_zero] at hcell
  clear hx hy
  go_wp2
  go_ret2
  exact ⟨rfl, hr', hg⟩
theorem restNumber_yes (g : Nat) (l : List UInt8) (x : UInt8) (w : World) (hr : Rdr w g l) (hk : 4 ≤ l.length) (hx : l[0]? = some x) (h : x.toNat ≤ 127) :
    Calls Try.prog 85 #[.pointer (some ⟨g, 0, none⟩)] w (ReadPost w g 4 l (.int .i64 (ofbe (l.take 4)))) := by
  go_enter Try.func85, Try.ntmps85
  go_wp2_with fail
  refine (take_yes g l 4 w hr hk).mono ?_
  rintro e w' ⟨A, c, rfl, hc, hm, hrd, hr', hg⟩
  obtain ⟨b, off, y, rfl, _, hy, hcell⟩ := hrd.cell (j := 0) (by omega)
  obtain rfl : y = x := by
    rw [List.getElem?_take, if_pos (by omega), hx] at hy
    injection hy with hy
    exact hy.symm
  rw [Nat.add_zero] at hcell
  clear hx hy
  have hlt : ofbe (l.take 4) < 4294967296 := by
    have h1 := ofbe_lt (l.take 4)
    have h2 : 256 ^ (l.take 4).length ≤ 256 ^ 4 := Nat.pow_le_pow_right (by omega) (by rw [List.length_take]; omega)
    omega
  go_wp2_with fail
  refine (joinBits_any _ 4 c (l.take 4) w' hrd (by omega)).mono ?_
  rintro e w2 ⟨rfl, rfl⟩
  go_wp2
  go_ret2
  exact ⟨rfl, hr', hg⟩

/-- A number read off bytes: its value, how many bytes it has, the number of the error. -/
def rnum (l : List UInt8) : Int × Nat × Int := if l.length < 4 then (0, 0, 10) else if 127 < (l.getD 0 0).toNat then (0, 0, 11) else (ofbe (l.take 4), 4, 0)
/-- An int. -/
def rint (l : List UInt8) : Int × Nat × Int := if l.length < 8 then (0, 0, 10) else (wrap64 (ofbe (l.take 8)), 8, 0)
/-- A text. -/
def rtext (l : List UInt8) : List UInt8 × Nat × Int :=
  if (rnum l).2.2 ≠ 0 then ([], 0, (rnum l).2.2) else if 65536 < (rnum l).1 then ([], 0, 11) else if ((l.length : Int) - 4) < (rnum l).1 then ([], 0, 10) else
    ((l.drop 4).take (rnum l).1.toNat, 4 + (rnum l).1.toNat, 0)

/-- A method of rest that failed: the place may have moved. -/
def Moved (w : World) (g : Nat) (v : Value) (er : Int) (e : Ending) (w' : World) : Prop :=
  e = .returned (.tuple #[v, .int .i64 er]) ∧ (∃ l', Rdr w' g l') ∧ w.grownBy w' (some g)
set_option maxHeartbeats 400000 in
theorem restText_end (g : Nat) (l : List UInt8) (er : Int) (w : World) (hr : Rdr w g l) (h : (rnum l).2.2 = er) (he : er ≠ 0) :
    Calls Try.prog 87 #[.pointer (some ⟨g, 0, none⟩)] w (Moved w g (.string ⟨#[]⟩) er) := by
  unfold rnum at h
  split at h
  · rename_i h4
    subst h
    go_enter Try.func87, Try.ntmps87
    go_wp2_with fail
    refine (restNumber_no g l w hr h4).mono ?_
    rintro e w' ⟨rfl, rfl⟩
    go_wp2
    go_ret2
    exact ⟨rfl, ⟨l, hr⟩, grown_refl _ _⟩
  · rename_i h4
    split at h
    · rename_i h5
      subst h
      have hl : 0 < l.length := by omega
      have hx : l[0]? = some (l.getD 0 0) := by simp [List.getD, List.getElem?_eq_getElem hl]
      go_enter Try.func87, Try.ntmps87
      go_wp2_with fail
      refine (restNumber_form g l _ w hr (by omega) hx h5).mono ?_
      rintro e w' ⟨rfl, hr', hg⟩
      clear hx
      go_wp2
      go_ret2
      exact ⟨rfl, ⟨_, hr'⟩, hg⟩
    · exact absurd h.symm he

/-- Where a number is there: what it is, and that it is read. -/
theorem rnum_ok (l : List UInt8) (h : (rnum l).2.2 = 0) : ∃ u : Nat, rnum l = ((u : Int), 4, 0) ∧ u < 4294967296 ∧ u = ofbe (l.take 4) ∧ 4 ≤ l.length ∧
    ∀ (g : Nat) (w : World), Rdr w g l → Calls Try.prog 85 #[.pointer (some ⟨g, 0, none⟩)] w (ReadPost w g 4 l (.int .i64 (u : Int))) := by
  have h4 : ¬ l.length < 4 := by intro h4; rw [rnum, if_pos h4] at h; cases h
  have h5 : ¬ 127 < (l.getD 0 0).toNat := by intro h5; rw [rnum, if_neg h4, if_pos h5] at h; cases h
  have h6 : rnum l = ((ofbe (l.take 4) : Int), 4, 0) := by rw [rnum, if_neg h4, if_neg h5]
  have hlt : ofbe (l.take 4) < 4294967296 := by
    have h1 := ofbe_lt (l.take 4)
    have h2 : 256 ^ (l.take 4).length ≤ 256 ^ 4 := Nat.pow_le_pow_right (by omega) (by rw [List.length_take]; omega)
    omega
  have hx : l[0]? = some (l.getD 0 0) := by simp [List.getD, List.getElem?_eq_getElem (show 0 < l.length by omega)]
  exact ⟨_, h6, hlt, rfl, by omega, fun g w hr => restNumber_yes g l _ w hr (by omega) hx (by omega)⟩

set_option maxHeartbeats 400000 in
theorem restText_big (g : Nat) (l : List UInt8) (u : Nat) (w : World) (hlt : u < 4294967296) (Hc : Hid (Calls Try.prog 85 #[.pointer (some ⟨g, 0, none⟩)] w (ReadPost w g 4 l (.int .i64 (u : Int))))) (h7 : 65536 < u) :
    Calls Try.prog 87 #[.pointer (some ⟨g, 0, none⟩)] w (Moved w g (.string ⟨#[]⟩) 11) := by
  go_enter Try.func87, Try.ntmps87
  go_wp2_with fail
  refine Calls.mono Hc.out ?_
  rintro e w' ⟨rfl, hr', hg⟩
  go_wp2
  go_ret2
  exact ⟨rfl, ⟨_, hr'⟩, hg⟩
set_option maxHeartbeats 400000 in
theorem restText_short (g : Nat) (l : List UInt8) (u : Nat) (w : World) (hlt : u < 4294967296) (Hc : Hid (Calls Try.prog 85 #[.pointer (some ⟨g, 0, none⟩)] w (ReadPost w g 4 l (.int .i64 (u : Int))))) (h7 : u ≤ 65536) (h4 : 4 ≤ l.length) (h8 : l.length < 4 + u) :
    Calls Try.prog 87 #[.pointer (some ⟨g, 0, none⟩)] w (Moved w g (.string ⟨#[]⟩) 10) := by
  have hk : ((l.drop 4).length : Int) < (u : Int) := by rw [List.length_drop]; omega
  go_enter Try.func87, Try.ntmps87
  go_wp2_with fail
  refine Calls.mono Hc.out ?_
  rintro e w' ⟨rfl, hr', hg⟩
  go_wp2_with fail
  refine (take_no g _ (u : Int) w' hr' hk).mono ?_
  rintro e w2 ⟨rfl, rfl⟩
  clear hk
  go_wp2
  go_ret2
  exact ⟨rfl, ⟨_, hr'⟩, hg⟩
set_option maxHeartbeats 400000 in
theorem restText_ok (g : Nat) (l : List UInt8) (u : Nat) (w : World) (hlt : u < 4294967296) (Hc : Hid (Calls Try.prog 85 #[.pointer (some ⟨g, 0, none⟩)] w (ReadPost w g 4 l (.int .i64 (u : Int))))) (h7 : u ≤ 65536) (h8 : 4 + u ≤ l.length) :
    Calls Try.prog 87 #[.pointer (some ⟨g, 0, none⟩)] w (ReadPost w g (4 + u) l (.string ⟨((l.drop 4).take u).toArray⟩)) := by
  have hk : u ≤ (l.drop 4).length := by rw [List.length_drop]; omega
  have Hk := Lib.hid hk
  clear hk
  generalize hd : l.drop 4 = m at *
  have Hd := Lib.hid hd
  clear hd
  go_enter Try.func87, Try.ntmps87
  go_wp2_with fail
  refine Calls.mono Hc.out ?_
  rintro e w' ⟨rfl, hr', hg⟩
  rw [Hd.out] at hr'
  go_wp2_with fail
  refine (take_yes g m u w' hr' Hk.out).mono ?_
  rintro e w2 ⟨A, c, rfl, hc, hm, hrd, hr2, hg2⟩
  have k1 := hrd.conv (P := Try.prog) c 32 5 9 Try.underlying32 Try.underlying5 Try.underlying9
  go_wp2
  go_ret2
  refine ⟨rfl, ?_, hg.trans hg2⟩
  rw [← Hd.out, List.drop_drop] at hr2
  exact hr2
end Go.Proofs.Ytcogglanbpphpaa
