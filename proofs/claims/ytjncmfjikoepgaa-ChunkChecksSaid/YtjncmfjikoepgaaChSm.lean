/-
  Package chunk: count, length, sumOf; strings as bytes; a text's copy: contracts.
-/
import Derived.Test.YtjncmfjikoepgaaChMath
import Derived.Lib.MinMax
import Derived.Lib.ConvBytes
import Derived.Lib.BufferWrite
import Derived.Lib.UnsafeStr
import Derived.Laws.AppendOwn
namespace Go.Proofs.Ytjncmfjikoepgaa
open Go.RowKit

theorem Try.infoIntL : (Try.prog.info? 3).map (fun i => (i.zero, i.size, i.bytes)) = some (some (.int .i64 0), 1, 8) := by kernel_rfl
theorem Try.infoStr : (Try.prog.info? 9).map (fun i => (i.zero, i.size, i.bytes)) = some (some (.string ⟨#[]⟩), 1, 16) := by kernel_rfl

set_option maxHeartbeats 400000 in
theorem count_any (n : Nat) (w : World) (hn : n ≤ 1000000) :
    Calls Try.prog 37 #[.int .i64 (n : Int)] w fun e w' => e = .returned (.int .i64 ((cnt n : Nat) : Int)) ∧ w = w' := by
  obtain ⟨k, hk⟩ : ∃ k, k = cnt n := ⟨_, rfl⟩
  have h1 : ((n : Int) + 80 - 1) / 80 = (k : Int) := by rw [hk]; unfold cnt; omega
  rw [← hk]
  clear hk
  go_enter Try.func37, Try.ntmps37
  go_wp2
  go_ret
  exact ⟨by simp only [h1]; rfl, rfl⟩

set_option maxHeartbeats 400000 in
theorem length_any (n k : Nat) (w : World) (hn : n ≤ 1000000) (hk : k * 80 ≤ n) :
    Calls Try.prog 38 #[.int .i64 (n : Int), .int .i64 (k : Int)] w fun e w' => e = .returned (.int .i64 ((pln n k : Nat) : Int)) ∧ w = w' := by
  obtain ⟨q, hq⟩ : ∃ q, q = k * 80 := ⟨_, rfl⟩
  obtain ⟨p, hp⟩ : ∃ p, p = pln n k := ⟨_, rfl⟩
  have h1 : (k : Int) * 80 = (q : Int) := by omega
  have h3 : min (80 : Int) ((n : Int) - (q : Int)) = (p : Int) := by rw [hp]; unfold pln; omega
  rw [← hp]
  have hk2 : q ≤ n := by omega
  clear hq hp hk
  go_enter Try.func38, Try.ntmps38
  go_wp2
  go_ret
  exact ⟨by first | rfl | simp only [h3], rfl⟩

/-- A string's bytes. -/
theorem str_bytes (w : World) (s : ByteArray) (hs : s.size ≤ maxLen) : ∃ c w2, (convert 9 45 (.string s)).run Try.prog w = .ok (.slice (some ⟨w.heap.size, 0, none⟩) s.size c) w2 ∧ Rd w2 (some ⟨w.heap.size, 0, none⟩) s.size s.data.toList ∧ Below w.heap.size w w2 ∧ s.size ≤ c ∧ c ≤ maxLen := by
  refine ⟨_, _, Lib.run_convert_string_bytes w 9 45 5 s Try.underlying9 Try.underlying45 Try.underlying5, ⟨rfl, fun _ => ⟨w.heap.size, 0, rfl, by rw [Lib.bytesWorld_size]; omega, fun j x hx => ?_⟩⟩, ⟨?_, ?_, ?_, ?_, fun k hk => Lib.bytesWorld_at_old _ _ _ _ hk⟩, grownCap_ge _ _ _ _, grownCap_le_maxLen _ _ _ _ hs⟩
  · have hj : j < s.data.toList.length := (List.getElem?_eq_some_iff.1 hx).1
    rw [Nat.zero_add, Lib.bytesWorld_cell w 5 s j (by have h2 := hj; rw [Array.length_toList] at h2; exact h2)]
    simp [List.getD_eq_getElem?_getD, hx]
  · simp [Lib.bytesWorld, World.freeze, World.alloc, World.drew, -World.alloc_eq, -World.drew_eq]
  · simp [Lib.bytesWorld, World.freeze, World.alloc, World.drew, -World.alloc_eq, -World.drew_eq]
  · simp [Lib.bytesWorld, World.freeze, World.alloc, World.drew, -World.alloc_eq, -World.drew_eq]
  · rw [Lib.bytesWorld_size]; omega

/-- What a call that tells a text's sum says. -/
def GivesN (w : World) (n : Nat) (e : Ending) (w' : World) : Prop := e = .returned (.int .i64 (n : Int)) ∧ Below w.heap.size w w'
set_option maxHeartbeats 400000 in
theorem sumStr_any (s : ByteArray) (w : World) (hs : s.size ≤ 1000000) :
    Calls Try.prog 24 #[.string s] w (GivesN w (smv s)) := by
  obtain ⟨c, w2, hcv, hr, hb, _, _⟩ := str_bytes w s (by unfold maxLen; omega)
  obtain ⟨n, hn⟩ : ∃ n, n = s.size := ⟨_, rfl⟩
  rw [← hn] at hcv hr
  have HS := sum_any (some ⟨w.heap.size, 0, none⟩) n c s.data.toList w2 hr (by unfold maxLen; omega)
  unfold GivesSI at HS
  have Hb := Lib.hid hb
  clear hr hb hn
  go_enter Try.func24, Try.ntmps24
  go_wp2_with fail
  refine HS.mono ?_
  rintro e w3 ⟨rfl, b3⟩
  clear HS
  go_wp2
  go_ret
  exact ⟨rfl, Hb.out.trans (b3.mono Hb.out.size)⟩

theorem ba_empty {s : ByteArray} (h : s.size = 0) : s = ⟨#[]⟩ := ByteArray.ext (Array.eq_empty_of_size_eq_zero h)
/-- copy(out, s) of a text into a row that has just been made, as long as s. -/
theorem run_copy_text {w : World} (s : ByteArray) {n : Nat} (hn : s.size = n) (h : n ≤ 1000000) :
    ∃ w1, (Builtin.copy_ #[45, 9] 3 #[.slice (some ⟨w.heap.size, 0, none⟩) n n, .string s]).run Try.prog (w.alloc (.cells (zcells n).toArray 5)) = .ok (.int .i64 (n : Int)) w1 ∧
      Own 5 w1 w.heap.size (.slice (some ⟨w.heap.size, 0, none⟩) n n) s.data.toList ∧ Below w.heap.size w w1 := by
  obtain ⟨i0, hi, _, hz1, _⟩ := info_parts Try.infoU8
  have hl : s.data.toList.length = n := hn
  have hrun := Lib.run_copy_row_string (P := Try.prog) (w.alloc (.cells (zcells n).toArray 5)) 45 9 3 5 w.heap.size 0 n n s (zcells n).toArray 5 Try.underlying45 (by rw [hi]; simp [hz1]) (heap_alloc_new w _) (by omega) (by simp [zcells]; omega)
  rw [hn] at hrun
  have hrow : ((zcells n).toArray.toList.take 0 ++ Lib.byteCells s.data.toList ++ (zcells n).toArray.toList.drop (0 + n)) = bvs s.data.toList := by
    rw [List.take_zero, List.nil_append, List.drop_of_length_le (by simp [zcells]), List.append_nil]
    rfl
  rw [hrow] at hrun
  have ho := Own.of_row (U := 5) (base := w.heap.size) (l := s.data.toList) (cap := n) (setRow_heap (w.alloc (.cells (zcells n).toArray 5)) w.heap.size (zcells n).toArray (bvs s.data.toList).toArray 5 (0, 0) (heap_alloc_new w _)) (Nat.le_refl _) (by omega) (by unfold maxLen; omega) (by rw [bvs_length, hl]) (List.take_of_length_le (by rw [bvs_length]; exact Nat.le_refl _))
  rw [hl] at ho
  exact ⟨_, hrun, ho, below_setRow ((Below.refl _ _).alloc (Nat.le_refl _) _) (Nat.le_refl _) _⟩
/-- unsafe.String of a row of the call's own: its bytes. -/
theorem run_text_own {w : World} {base g n : Nat} {l : List UInt8} (hl : l.length = n) (h0 : 0 < n) (hn : n ≤ 1000000) (h : Own 5 w base (.slice (some ⟨g, 0, none⟩) n n) l) :
    (Builtin.unsafeString_ #[70, 3] 9 #[.pointer (some ⟨g, 0, none⟩), .int .i64 (n : Int)]).run Try.prog w = .ok (.string ⟨l.toArray⟩) (w.freeze ⟨g, 0, none⟩ n) := by
  obtain ⟨cur, hg, hs⟩ : ∃ cur, w.heap[g]? = some (.cells cur 5 (0, 0)) ∧ cur.size = n * 1 := by
    rcases h.2 with ⟨hv, _⟩ | ⟨g', cap, cur, hv, _, hg, _, _, hs, _⟩
    · cases hv
    · injection hv with e1 e2 e3
      injection e1 with e1
      injection e1 with e1
      subst e1 e3
      exact ⟨cur, hg, hs⟩
  have hne : l ≠ [] := fun e => by
    rw [e] at hl
    simp at hl
    omega
  subst hl
  refine Lib.run_unsafeString_row w 70 3 9 5 Try.underlying70 (by kernel_rfl) g cur.size (by simp [World.shape?, hg]) l hne (by omega) (by omega) fun j x hx => ?_
  exact World.ownsRow.cells h (g := g) rfl j (.int .u8 x.toNat) (by simp [bvs, bv, hx])
set_option maxHeartbeats 1000000 in
theorem sclone_any (s : ByteArray) (w : World) (hlim : s.size ≤ 1000000) :
    Calls Try.prog 40 #[.string s] w fun e w' => e = .returned (.string s) ∧ Below w.heap.size w w' := by
  obtain ⟨n, hn⟩ : ∃ n, s.size = n := ⟨_, rfl⟩
  by_cases h0 : n = 0
  · obtain rfl := ba_empty (hn.trans h0)
    go_enter Try.func40, Try.ntmps40
    go_wp2
    go_ret
    exact ⟨rfl, Below.refl _ _⟩
  · have hmk := run_make_bytes (P := Try.prog) Try.underlying45 Try.infoU8 n n (Nat.le_refl _) (by omega) w
    obtain ⟨w1, hcp, ho, hb⟩ := run_copy_text (w := w) s hn (by omega)
    have hst := run_text_own (l := s.data.toList) hn (by omega) (by omega) ho
    have hse : (⟨s.data.toList.toArray⟩ : ByteArray) = s := by simp
    rw [hse] at hst
    have HB := Lib.hid (Lib.below_freeze hb (p := ⟨w.heap.size, 0, none⟩) (Nat.le_refl _) n)
    have hpos : 0 < n := by omega
    clear ho hb hse h0
    go_enter Try.func40, Try.ntmps40
    go_wp2
    go_ret
    exact ⟨rfl, HB.out⟩
set_option maxHeartbeats 400000 in
theorem strClone_any (s : ByteArray) (w : World) (hlim : s.size ≤ 1000000) :
    Calls Try.prog 28 #[.string s] w fun e w' => e = .returned (.string s) ∧ Below w.heap.size w w' := by
  go_enter Try.func28, Try.ntmps28
  go_wp2_with fail
  refine (sclone_any s w hlim).mono ?_
  rintro e w1 ⟨rfl, b1⟩
  go_wp2
  go_ret
  exact ⟨rfl, b1⟩
end Go.Proofs.Ytjncmfjikoepgaa
