/-
  strings.Clone: a text's copy: contract.
-/
import Derived.Test.YtgkhjmdghmpfcaaBase
import Derived.Test.YtgkhjmdghmpfcaaVals
import Derived.Lib.ConvBytes
import Derived.Lib.BufferWrite
import Derived.Lib.UnsafeStr
import Derived.Laws.AppendOwn
namespace Go.Proofs.Ytgkhjmdghmpfcaa
open Go.RowKit

theorem ba_empty {s : ByteArray} (h : s.size = 0) : s = ⟨#[]⟩ := ByteArray.ext (Array.eq_empty_of_size_eq_zero h)
/-- copy(out, s) of a text into a row that has just been made, as long as s. -/
theorem run_copy_text {w : World} (s : ByteArray) {n : Nat} (hn : s.size = n) (h : n ≤ 1000000) :
    ∃ w1, (Builtin.copy_ #[76, 9] 3 #[.slice (some ⟨w.heap.size, 0, none⟩) n n, .string s]).run Try.prog (w.alloc (.cells (zcells n).toArray 5)) = .ok (.int .i64 (n : Int)) w1 ∧
      Own 5 w1 w.heap.size (.slice (some ⟨w.heap.size, 0, none⟩) n n) s.data.toList ∧ Below w.heap.size w w1 := by
  obtain ⟨i0, hi, _, hz1, _⟩ := info_parts Try.infoU8
  have hl : s.data.toList.length = n := hn
  have hrun := Lib.run_copy_row_string (P := Try.prog) (w.alloc (.cells (zcells n).toArray 5)) 76 9 3 5 w.heap.size 0 n n s (zcells n).toArray 5 Try.underlying76 (by rw [hi]; simp [hz1]) (heap_alloc_new w _) (by omega) (by simp [zcells]; omega)
  rw [hn] at hrun
  have hrow : ((zcells n).toArray.toList.take 0 ++ Lib.byteCells s.data.toList ++ (zcells n).toArray.toList.drop (0 + n)) = bvs s.data.toList := by
    rw [List.take_zero, List.nil_append, List.drop_of_length_le (by simp [zcells]), List.append_nil]
    rfl
  rw [hrow] at hrun
  have ho := Own.of_row (U := 5) (base := w.heap.size) (l := s.data.toList) (cap := n) (setRow_heap (w.alloc (.cells (zcells n).toArray 5)) w.heap.size (zcells n).toArray (bvs s.data.toList).toArray 5 (0, 0) (heap_alloc_new w _)) (Nat.le_refl _) (by omega) (by unfold maxLen; omega) (by rw [bvs_length, hl]) (List.take_of_length_le (by rw [bvs_length]; exact Nat.le_refl _))
  rw [hl] at ho
  exact ⟨_, hrun, ho, below_setRow ((Below.refl _ _).alloc (Nat.le_refl _) _) (Nat.le_refl _) _⟩
/-- unsafe.String of a row of the call's own: its bytes. -/
theorem run_text_own {w : World} {base g n : Nat} {l : List UInt8} (hl : l.length = n) (h0 : 0 < n) (hn : n ≤ 1000000) (h : Own 5 w base (.slice (some ⟨g, 0, none⟩) n n) l) :
    (Builtin.unsafeString_ #[77, 3] 9 #[.pointer (some ⟨g, 0, none⟩), .int .i64 (n : Int)]).run Try.prog w = .ok (.string ⟨l.toArray⟩) (w.freeze ⟨g, 0, none⟩ n) := by
  obtain ⟨cur, hg, hs⟩ : ∃ cur, w.heap[g]? = some (.cells cur 5 (0, 0)) ∧ cur.size = n * 1 := by
    rcases h.2 with ⟨hv, _⟩ | ⟨g', cap, cur, hv, _, hg, _, _, hs, _⟩
    · cases hv
    · injection hv with e1 e2 e3
      injection e1 with e1
      injection e1 with e1
      subst e1 e3
      exact ⟨cur, hg, hs⟩
  have hne : l ≠ [] := fun e => by
    rw [e] at hl
    simp at hl
    omega
  subst hl
  refine Lib.run_unsafeString_row w 77 3 9 5 Try.underlying77 (by kernel_rfl) g cur.size (by simp [World.shape?, hg]) l hne (by omega) (by omega) fun j x hx => ?_
  exact World.ownsRow.cells h (g := g) rfl j (.int .u8 x.toNat) (by simp [bvs, bv, hx])
set_option maxRecDepth 20000 in
set_option maxHeartbeats 1000000 in
theorem sclone_any (s : ByteArray) (w : World) (hlim : s.size ≤ 1000000) :
    Calls Try.prog 35 #[.string s] w fun e w' => e = .returned (.string s) ∧ Below w.heap.size w w' := by
  obtain ⟨n, hn⟩ : ∃ n, s.size = n := ⟨_, rfl⟩
  by_cases h0 : n = 0
  · obtain rfl := ba_empty (hn.trans h0)
    go_enter Try.func35, Try.ntmps35
    go_wp2
    go_ret
    exact ⟨rfl, Below.refl _ _⟩
  · have hmk := run_make_bytes (P := Try.prog) Try.underlying76 Try.infoU8 n n (Nat.le_refl _) (by omega) w
    obtain ⟨w1, hcp, ho, hb⟩ := run_copy_text (w := w) s hn (by omega)
    have hst := run_text_own (l := s.data.toList) hn (by omega) (by omega) ho
    have hse : (⟨s.data.toList.toArray⟩ : ByteArray) = s := by simp
    rw [hse] at hst
    have HB := Lib.hid (Lib.below_freeze hb (p := ⟨w.heap.size, 0, none⟩) (Nat.le_refl _) n)
    have hpos : 0 < n := by omega
    clear ho hb hse h0
    go_enter Try.func35, Try.ntmps35
    go_wp2
    go_ret
    exact ⟨rfl, HB.out⟩
set_option maxHeartbeats 400000 in
theorem strClone_any (s : ByteArray) (w : World) (hlim : s.size ≤ 1000000) :
    Calls Try.prog 33 #[.string s] w fun e w' => e = .returned (.string s) ∧ Below w.heap.size w w' := by
  go_enter Try.func33, Try.ntmps33
  go_wp2_with fail
  refine (sclone_any s w hlim).mono ?_
  rintro e w1 ⟨rfl, b1⟩
  go_wp2
  go_ret
  exact ⟨rfl, b1⟩
end Go.Proofs.Ytgkhjmdghmpfcaa
