/-
  The walk of the law SumParts: it says true, whatever came in, and nothing that was there is written over.
-/
import Derived.Test.YtpainpekapnbhaaSumLawA
namespace Go.Proofs.Ytpainpekapnbhaa
open Go.RowKit

/-- A slice of slices of bytes that reads as these rows. -/
structure Rows2 (w : World) (A : Option Addr) (n : Nat) (ls : List (List UInt8)) : Prop where
  len : ls.length = n
  at_ : 0 < n → ∃ b off, A = some ⟨b, off, none⟩ ∧ b < w.heap.size ∧ ∀ j l, ls[j]? = some l → ∃ Aj cj, w.cell? ⟨b, off + j, none⟩ = some (.slice Aj l.length cj) ∧ Rd w Aj l.length l ∧ l.length ≤ cj ∧ cj ≤ maxLen
theorem Rows2.below {w w' : World} {A : Option Addr} {n : Nat} {ls : List (List UInt8)} (h : Rows2 w A n ls) (hb : Below w.heap.size w w') : Rows2 w' A n ls :=
  ⟨h.len, fun hn => by
    obtain ⟨b, off, e, hlt, hc⟩ := h.at_ hn
    refine ⟨b, off, e, Nat.lt_of_lt_of_le hlt hb.size, fun j l hj => ?_⟩
    obtain ⟨Aj, cj, h1, h2, h3, h4⟩ := hc j l hj
    exact ⟨Aj, cj, (hb.cell hlt).trans h1, h2.below hb, h3, h4⟩⟩
theorem Rows2.get {w : World} {A : Option Addr} {n : Nat} {ls : List (List UInt8)} (h : Rows2 w A n ls) {k : Nat} (hk : k < n) : ∃ b off l Ak ck, A = some ⟨b, off, none⟩ ∧ b < w.heap.size ∧ ls[k]? = some l ∧ w.cell? ⟨b, off + k, none⟩ = some (.slice Ak l.length ck) ∧ Rd w Ak l.length l ∧ l.length ≤ ck ∧ ck ≤ maxLen := by
  obtain ⟨b, off, e, hlt, hc⟩ := h.at_ (by omega)
  have hl : k < ls.length := by have := h.len; omega
  obtain ⟨Ak, ck, h1, h2, h3, h4⟩ := hc k ls[k] (List.getElem?_eq_getElem hl)
  exact ⟨b, off, ls[k], Ak, ck, e, hlt, List.getElem?_eq_getElem hl, h1, h2, h3, h4⟩

/-- The rows as the frame opens them. -/
theorem rows_of {w : World} {a : Option Addr} {len cap : Nat} {A : Nat → Option Addr} {L C : Nat → Nat} {Z : Nat → List Int}
    (h : (a = none ∧ len = 0 ∧ cap = 0) ∨ ∃ x, a = some x ∧ len ≤ cap ∧ cap ≤ maxLen ∧ ∀ r, r < cap → w.cell? (x.add r) = some (.slice (A r) (L r) (C r)) ∧ L r ≤ C r ∧ C r ≤ maxLen ∧ (Z r).length = C r ∧ (∀ n ∈ Z r, (Lit.int .u8 n).wf = true) ∧ (A r = none → C r = 0) ∧
      ∀ a', A r = some a' → ∀ c, c < C r → w.cell? (a'.add c) = some (.int .u8 ((Z r).getD c 0))) :
    ∃ ls, Rows2 w a len ls ∧ len ≤ cap ∧ cap ≤ maxLen := by
  rcases h with ⟨rfl, rfl, rfl⟩ | ⟨x, rfl, hl, hm, hr⟩
  · exact ⟨[], ⟨rfl, fun h => absurd h (by omega)⟩, Nat.le_refl _, by simp [maxLen]⟩
  · have each : ∀ r, ∃ l, r < cap → Rd w (A r) (L r) l := fun r => by
      rcases Nat.lt_or_ge r cap with h | h
      · obtain ⟨_, h2, h3, h4, h5, h6, h7⟩ := hr r h
        cases hA : A r with
        | none =>
          have h0 := h6 hA
          obtain ⟨l, hl, _⟩ := rd_of_row (w := w) (a := none) (len := L r) (cap := C r) (zs := Z r) (.inl ⟨rfl, by omega, h0, List.eq_nil_of_length_eq_zero (by omega)⟩)
          exact ⟨l, fun _ => hl⟩
        | some a' =>
          obtain ⟨l, hl, _⟩ := rd_of_row (w := w) (a := some a') (len := L r) (cap := C r) (zs := Z r) (.inr ⟨a', rfl, h2, h3, h4, fun i hi => h7 a' hA i (by omega), h5⟩)
          exact ⟨l, fun _ => hl⟩
      · exact ⟨[], fun h' => by omega⟩
    obtain ⟨f, hf⟩ := Classical.skolem.1 each
    refine ⟨(List.range len).map f, ⟨by simp, fun hp => ?_⟩, hl, hm⟩
    obtain ⟨b, off, spot⟩ := x
    have h0 := (hr 0 (by omega)).1
    have hspot : spot = none := by simpa [Addr.add] using World.cell?_spot h0
    subst hspot
    refine ⟨b, off, rfl, by simpa [Addr.add] using World.block_lt_of_cell? w _ h0, fun j l hj => ?_⟩
    simp only [List.getElem?_map, Option.map_eq_some_iff] at hj
    obtain ⟨r, hr1, rfl⟩ := hj
    obtain ⟨hr2, rfl⟩ : j < len ∧ r = j := by
      obtain ⟨h1, h2⟩ := List.getElem?_eq_some_iff.1 hr1
      simp at h1 h2
      exact ⟨h1, h2.symm⟩
    obtain ⟨h1, h2, h3, _⟩ := hr r (by omega)
    have hrd := hf r (by omega)
    rw [hrd.len]
    rw [add_plain] at h1
    exact ⟨A r, C r, h1, hrd, h2, h3⟩

def PartsRel (ls : List (List UInt8)) (n : Nat) (w : World) (v s i : Value) (wr : World) : Prop :=
  ∃ k : Nat, k ≤ n ∧ i = .int .i64 k ∧ s = .int .i64 ((sumOf (ls.take k).flatten).toNat : Int) ∧ Own 5 wr w.heap.size v (ls.take k).flatten ∧ (ls.take k).flatten.length ≤ 65536 ∧ Below w.heap.size w wr
theorem flat_succ {ls : List (List UInt8)} {k : Nat} {l : List UInt8} (h : ls[k]? = some l) : (ls.take (k + 1)).flatten = (ls.take k).flatten ++ l := by
  rw [List.take_add_one, h]
  simp

set_option maxHeartbeats 2000000 in
theorem sumParts_walk (A : Option Addr) (n c : Nat) (ls : List (List UInt8)) (w : World) (hb : Rows2 w A n ls) :
    Calls Try.prog 4 #[.slice A n c] w (Holds w) := by
  by_cases hn : 1000 < n
  · go_enter Try.func4, Try.ntmps4
    go_wp2
    go_ret
    exact ⟨rfl, Below.refl _ _⟩
  · have Hl := Lib.hid hb.len
    go_enter Try.func4, Try.ntmps4
    go_wp2_with fail
    refine (sum_any none 0 0 [] w Rd.nil (by simp [maxLen])).mono ?_
    rintro e w1 ⟨rfl, b1⟩
    go_wp2_with fail
    go_loopw [3, 4, 5] (PartsRel ls n w) (fun _ _ i _ => n - (intOf i).toNat)
    case atStart => exact ⟨0, Nat.zero_le _, rfl, rfl, Own.nil, by simp, b1⟩
    case round =>
      clear b1
      obtain ⟨k, hk, rfl, rfl, o1, hle, bl1⟩ := hrel
      by_cases hlt : k < n
      · obtain ⟨b, off, l, Ak, ck, rfl, hbw, hlk, hck0, rk, hl1, hl2⟩ := hb.get hlt
        have hck : wr.cell? ⟨b, off + k, none⟩ = some (.slice Ak l.length ck) := (bl1.cell hbw).trans hck0
        have Hlk := Lib.hid (flat_succ hlk)
        obtain ⟨p, hp⟩ : ∃ p, p = (ls.take k).flatten := ⟨_, rfl⟩
        rw [← hp] at o1 hle Hlk ⊢
        obtain ⟨m, hm⟩ : ∃ m, l.length = m := ⟨_, rfl⟩
        obtain ⟨q, hq⟩ : ∃ q, p.length = q := ⟨_, rfl⟩
        rw [hm] at hck hck0 rk
        obtain ⟨A1, c1, rfl, hc1, hm1, r1⟩ := o1.shapeN hq
        have Hm := Lib.hid hm
        have Hq := Lib.hid hq
        rw [hq] at hle
        have Hck0 := Lib.hid hck0
        have Hp := Lib.hid hp
        clear hp hlk hm hq hl1 hl2 hck0
        by_cases hbig : 65536 - (q : Int) < (m : Int)
        · go_wp2
          go_ret
          exact ⟨rfl, bl1⟩
        · have rkw := rk.below bl1
          obtain ⟨v2, w2, hap, o2, hg2, _⟩ := run_app (P := Try.prog) w.heap.size 22 22 5 Try.underlying22 Try.infoU8 _ p o1 Ak m ck l rkw (by rw [Hq.out]; omega) bl1.size
          have bl2 := below_app bl1 o1 hg2 bl1.size
          have hck2 : w2.cell? ⟨b, off + k, none⟩ = some (.slice Ak m ck) := (bl2.cell hbw).trans Hck0.out
          have rk2 := rk.below bl2
          clear o1 hg2 bl1 rkw r1
          go_wp2_with (at_builtin; refine wpList_append_run hap rfl _ _ rfl rfl rfl rfl ?_)
          clear hap
          refine (more_yes (sumOf p) Ak m ck l w2 rk2 (by simp only [maxLen]; omega)).mono ?_
          rintro e w3 ⟨rfl, b3⟩
          have o3 := o2.below b3
          have bl3 := bl2.trans (b3.mono bl2.size)
          have Hlen : Hid ((ls.take (k + 1)).flatten.length ≤ 65536) := Lib.hid (by rw [Hlk.out, List.length_append, Hq.out, Hm.out]; omega)
          have Hs : Hid (crc (sumOf p) l = sumOf (ls.take (k + 1)).flatten) := Lib.hid (by rw [Hlk.out]; unfold sumOf; rw [crc_append])
          rw [Hs.out]
          rw [← Hlk.out] at o3
          clear o2 hck hck2 rk rk2
          go_wp2
          go_roundw
          case rel => exact ⟨k + 1, by omega, by go_num, rfl, o3, Hlen.out, bl3⟩
          case measure => simp [intOf]; omega
      · obtain rfl : k = n := by omega
        go_wp2_with fail
        refine (sums_any wr).mono ?_
        rintro e w2 ⟨rfl, b2⟩
        obtain ⟨p, hp⟩ : ∃ p, p = (ls.take k).flatten := ⟨_, rfl⟩
        rw [← hp] at o1 hle ⊢
        obtain ⟨q, hq⟩ : ∃ q, p.length = q := ⟨_, rfl⟩
        obtain ⟨A1, c1, rfl, hc1, hm1, r1⟩ := o1.shapeN hq
        rw [hq] at hle
        have bl2 := bl1.trans (b2.mono bl1.size)
        clear hp hq o1
        go_wp2_with fail
        refine (sum_any A1 q c1 p w2 (r1.below b2) (by simp only [maxLen]; omega)).mono ?_
        rintro e w3 ⟨rfl, b3⟩
        go_wp2
        go_ret
        exact ⟨rfl, bl2.trans (b3.mono bl2.size)⟩
end Go.Proofs.Ytpainpekapnbhaa
