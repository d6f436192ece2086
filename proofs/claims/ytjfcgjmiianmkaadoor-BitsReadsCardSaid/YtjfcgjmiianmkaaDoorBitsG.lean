/-
  What Read does: contracts.
-/
import Derived.Test.YtjfcgjmiianmkaaDoorBitsF
import Derived.BigQuiet
import Derived.Deep.RegionWith
import Derived.Deep.DeepCutAuto
namespace Go.Proofs.YtjfcgjmiianmkaaDoor
open Go.RowKit

/-- The bytes are no map's of n bits. -/
def readB (n : Int) (b : List UInt8) : Bool := decide (0 ≤ n ∧ n ≤ 4096) && decide (b.length = (n.toNat + 7) / 8) && !behindB n.toNat b
theorem readB_iff {n : Int} {b : List UInt8} : readB n b = true ↔ (0 ≤ n ∧ n ≤ 4096) ∧ b.length = (n.toNat + 7) / 8 ∧ behindB n.toNat b = false := by
  unfold readB
  simp [and_assoc]

/-- What Read hands back: a refusal, and memory besides; or a map of its own. -/
def Reads1 (w : World) (e : Ending) (w' : World) : Prop := e = .returned (.tuple #[.pointer none, .int .i64 1]) ∧ Below w.heap.size w w'

theorem run_copy_words {W : World} {h h2 k : Nat} {zs ws : List Nat} (hz : Whole W h 61 (wvs zs)) (hw : Whole W h2 61 (wvs ws)) (hzk : zs.length = k) (hwk : ws.length = k) :
    ∃ W', (∀ ty, (Builtin.copy_ #[55, 55] ty #[.slice (some ⟨h, 0, none⟩) k k, .slice (some ⟨h2, 0, none⟩) k k]).run Tryd.prog W = .ok (.int .i64 (k : Int)) W') ∧ Whole W' h 61 (wvs ws) ∧ W.grownBy W' (some h) := by
  have hs : (Tryd.prog.info? 61).map (·.size) = some 1 := by kernel_rfl
  have hl : (wvs ws).length = k := by rw [wvs_length, hwk]
  have hl2 : (wvs zs).length = k := by rw [wvs_length, hzk]
  refine ⟨W.setRow h (wvs ws).toArray, fun ty => ?_, ?_, ?_⟩
  · have := run_copy_row (P := Tryd.prog) W 55 55 ty 61 h 0 k k ⟨h2, 0, none⟩ k k (wvs zs).toArray 61 (wvs ws) Tryd.underlying55 hs hz (by rw [hl]; exact (Nat.min_self k).symm)
      (fun j v hv => by rw [add_plain, Nat.zero_add, hw.cell, hv]) (by rw [hl]; simp [hl2]) (fun v hv => by
        simp only [wvs, List.mem_map] at hv
        obtain ⟨x, _, rfl⟩ := hv
        rfl)
    rw [this, hl]
    congr 2
    simp [hl2]
  · unfold Whole
    exact setRow_heap W h _ _ _ _ hz
  · exact ⟨rfl, rfl, rfl, by simp, fun i _ hi => setRow_other W h i _ (fun e => hi (by rw [e]))⟩

set_option maxHeartbeats 1000000 in
theorem read_no (n : Int) (A : Option Addr) (k c : Nat) (b : List UInt8) (w : World) (hb : Rd w A k b) (h : readB n b = false) :
    Calls Tryd.prog 24 #[.int .i64 n, .slice A k c] w (Reads1 w) := by
  by_cases hn : n < 0 ∨ 4096 < n
  · have N := new_no n w hn
    go_enter Tryd.func24, Tryd.ntmps24
    go_wp2_with (go_at_call 10; refine N.mono ?_; rintro e w1 ⟨rfl, rfl⟩)
    go_ret2
    exact ⟨rfl, Below.refl _ _⟩
  · obtain ⟨i, rfl⟩ : ∃ i : Nat, n = (i : Int) := ⟨n.toNat, by omega⟩
    have hi : i ≤ 4096 := by omega
    have Hlk := Lib.hid hb.len
    have Hb := Lib.hid h
    clear h hn
    go_enter Tryd.func24, Tryd.ntmps24
    go_wp2_with fail
    refine (new_yes i w hi).mono ?_
    rintro e w1 ⟨g, h, rfl, m1, hg, hh, b1⟩
    have hb1 := hb.below b1
    have u := units_any i 8 (by omega) (by omega) (by omega) w1
    rw [show i + 8 - 1 = i + 7 by omega] at u
    obtain ⟨z, hz⟩ : ∃ z, z = (i + 7) / 8 := ⟨_, rfl⟩
    rw [← hz] at u
    by_cases hkz : k = z
    · subst hkz
      have hbe : behindB i b = true := by
        have h := Hb.out
        unfold readB at h
        rw [decide_eq_true (by omega), Int.toNat_natCast, decide_eq_true (by rw [Hlk.out]; exact hz)] at h
        simpa using h
      have B := behind_any i A k c b w1 hb1 hz hi
      rw [hbe] at B
      have t1 : ((k : Int) != (k : Int)) = false := by simp
      clear hz hbe
      go_wp2_with (first | (go_at_call 27; refine u.mono ?_; rintro e w2 ⟨rfl, rfl⟩) | (go_at_call 33; refine B.mono ?_; rintro e w2 ⟨rfl, rfl⟩))
      go_ret2
      exact ⟨rfl, b1⟩
    · have t1 : ((k : Int) != (z : Int)) = true := by simp; omega
      clear hz hkz
      go_wp2_with (go_at_call 27; refine u.mono ?_; rintro e w2 ⟨rfl, rfl⟩)
      go_ret2
      exact ⟨rfl, b1⟩

theorem h2_len {ws zs : List Nat} {q : Nat} (h : ws.length = q) (k : q = zs.length) : ws.length = zs.length := h.trans k
def JoinsQ (w : World) (q : Nat) (b : List UInt8) (e : Ending) (w' : World) : Prop := ∃ ws, e = .returned (.slice (some ⟨w.heap.size, 0, none⟩) q q) ∧ ws.length = q ∧ Joined b b.length ws ∧ Whole w' w.heap.size 61 (wvs ws) ∧ Below w.heap.size w w'

set_option maxHeartbeats 2000000 in
theorem read_yes (i : Nat) (A : Option Addr) (k c : Nat) (b : List UInt8) (w : World) (hb : Rd w A k b) (h : readB (i : Int) b = true) :
    Calls Tryd.prog 24 #[.int .i64 (i : Int), .slice A k c] w (Makes w (bitsOf i b)) := by
  obtain ⟨hi0, hlb, hbe⟩ := readB_iff.1 h
  rw [Int.toNat_natCast] at hlb hbe
  have hi : i ≤ 4096 := by omega
  clear hi0
  have hl := hb.len
  have Hlk := Lib.hid hl
  have Hlb := Lib.hid hlb
  have Hbe := Lib.hid hbe
  have hk : k = (i + 7) / 8 := by omega
  have hk5 : k ≤ 512 := by omega
  have Hk := Lib.hid hk
  clear h hlb hbe hl hk
  go_enter Tryd.func24, Tryd.ntmps24
  go_wp2_with fail
  refine (new_yes i w hi).mono ?_
  rintro e w1 ⟨g, h, rfl, m1, hg, hh, b1⟩
  have hb1 := hb.below b1
  have u := units_any i 8 (by omega) (by omega) (by omega) w1
  rw [show i + 8 - 1 = i + 7 by omega, ← Hk.out] at u
  have B := behind_any i A k c b w1 hb1 Hk.out hi
  rw [Hbe.out] at B
  have t1 : ((k : Int) != (k : Int)) = false := by simp
  have hgh := m1.ne
  obtain ⟨zs, h1, h2, hw, _⟩ := m1
  obtain ⟨q, hq⟩ : ∃ q, q = zs.length := ⟨_, rfl⟩
  have c1 := h1.cell 1
  rw [← hq] at c1
  have Hq := Lib.hid hq
  have H1 := Lib.hid h1
  have H2 := Lib.hid h2
  have Hw := Lib.hid hw
  have hq2 : (b.length + 7) / 8 = q := by
    have := hw.len
    rw [List.length_replicate] at this
    have := Hlb.out
    omega
  have HJ : Hid (∀ W : World, Below w1.heap.size w1 W → Calls Tryd.prog 34 #[.slice A k c] W (JoinsQ W q b)) := Lib.hid fun W hW => (join_any A k c b W (hb1.below hW) hk5).mono fun e w2 ⟨ws, h1, h2, h3, h4⟩ => by
    have hlw : ws.length = q := by rw [h2.len, hq2]
    exact ⟨ws, by rw [h1, hlw], hlw, h2, h3, h4⟩
  clear hq h1 h2 hw hq2
  go_upto_region 6 with (first | (go_at_call 27; refine u.mono ?_; rintro e w2 ⟨rfl, rfl⟩) | (go_at_call 33; refine B.mono ?_; rintro e w2 ⟨rfl, rfl⟩))
  clear u B
  go_region_with (go_at_call 34; refine Calls.mono (HJ.out _ (by first | exact (Below.refl _ _).drew | exact Below.refl _ _)) ?_; rintro e w2 ⟨ws, rfl, hlw, hj, hwh, b2⟩; have b2' : Below w1.heap.size w1 w2 := (by first | exact (Below.refl _ _).drew.trans b2 | exact b2); have c2 := (H1.out.below b2').cell 1; obtain ⟨w3, hrun, hw3, g3⟩ := run_copy_words (h2 := w1.heap.size) (H2.out.below b2') hwh Hq.out.symm hlw; have hrun3 := hrun 3; have Hlw := Lib.hid hlw; clear hlw hrun; rw [← Hq.out] at c2)
  all_goals
    clear hrun3 c2 c1
    have hj2 := hj.words Hlb.out Hbe.out
    have hg2 := H1.out.below b2'
    have hgl := h2_len Hlw.out Hq.out
    have b3 : Below w.heap.size w w3 := below_grown (b1.trans (b2'.mono b1.size)) g3 (Nat.le_trans b1.size b2'.size) hh
    have Hj2 := Lib.hid hj2
    have Hgl := Lib.hid hgl
    clear hj hj2 hgl
    go_wp2
    go_ret2
    exact ⟨g, h, rfl, ⟨ws, by rw [bitsOf_length, Hgl.out]; have := hg2.grown g3 hgh; rw [List.length_replicate] at this; exact this, hw3, Hj2.out, by rw [bitsOf_length]; exact hi⟩, hg, hh, b3⟩
end Go.Proofs.YtjfcgjmiianmkaaDoor
