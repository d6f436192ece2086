/-
  A bag's row: drop; a new bag; how many messages a bag has; Take and Double: contracts.
-/
import Derived.Test.YtgkhjmdghmpfcaaBgRow
namespace Go.Proofs.Ytgkhjmdghmpfcaa
open Go.RowKit

def DropPost (w : World) (p base room : Nat) (v : Value) (l : List (Ms × Value)) (w' : World) : Prop := ∃ v', BagAt w' p base room v' l ∧ Oth (bX p v) w w' ∧ v'.ownBlock = v.ownBlock
set_option maxRecDepth 20000 in
set_option maxHeartbeats 1000000 in
theorem drop_any {w : World} {p base room : Nat} {v : Value} {l : List (Ms × Value)} (h : BagAt w p base room v l) {i : Nat} (hi : i < l.length) :
    Calls Try.prog 31 #[.pointer (some ⟨p, 0, none⟩), .int .i64 (i : Int)] w fun e w' => e = .returned (.tuple #[]) ∧ DropPost w p base room v (l.eraseIdx i) w' := by
  obtain ⟨g, cb, hv⟩ : ∃ g c, v = .slice (some ⟨g, 0, none⟩) l.length c := by
    rcases h.row.2 with ⟨_, e⟩ | ⟨g, cap, cur, e, _⟩
    · omega
    · exact ⟨g, cap, e⟩
  have hn2 : l.length ≤ 200 := Nat.le_trans h.len h.hi
  obtain ⟨n, hn⟩ : ∃ n, n = l.length := ⟨_, rfl⟩
  obtain ⟨j, hj⟩ : ∃ j, j = i + 1 := ⟨_, rfl⟩
  have hrow := h.row
  rw [hv] at hrow
  have HDel := delM_any (i := i) (r := 1) (t := n - i - 1) (n := n) (c := cb) (by rw [hn]; exact hrow) (fun q hq => (h.ents q hq).msg.one) (by omega) (by omega) (by omega)
  rw [← hj] at HDel
  have c1 := h.ptr.cell 1
  rw [hv, ← hn] at c1
  simp only [List.getElem?_cons_succ, List.getElem?_cons_zero] at c1
  have fj : (i : Int) + 1 = (j : Int) := by omega
  have fw : IntKind.i64.wrap (j : Int) = (j : Int) := by rw [IntKind.wrap_i64]; omega
  have hgp : g ≠ p := fun e => h.pv (by rw [hv, e]; rfl)
  have HE := Lib.hid (show l.take i ++ l.drop j = l.eraseIdx i by rw [hj, List.eraseIdx_eq_take_drop_succ])
  have HL := Lib.hid (show i + (n - i - 1) = (l.eraseIdx i).length by rw [List.length_eraseIdx, if_pos hi]; omega)
  have hlen : (l.eraseIdx i).length ≤ room := by rw [List.length_eraseIdx, if_pos hi]; have := h.len; omega
  have Hh := Lib.hid h
  have HP := Lib.hid (fun (w2 : World) (g2 : w.grownBy w2 (some g)) => show Whole w2 p 61 [.int .i64 (room : Int), v] from h.ptr.grown g2 (Ne.symm hgp))
  have HV := Lib.hid hv
  have HLe := Lib.hid hlen
  clear h hrow hi hn hj hv hlen hn2
  go_enter Try.func31, Try.ntmps31
  go_wp2_with (go_at_call 34; refine HDel.mono ?_; rintro e w2 ⟨rfl, O2, g2⟩; have d1 := (HP.out _ g2).cell 1; have f1 := (HP.out _ g2).free 1; rw [HV.out] at d1; simp only [List.getElem?_cons_succ, List.getElem?_cons_zero] at d1; have HO := Lib.hid O2; have HG := Lib.hid g2; clear O2 g2)
  go_end0
  have hP2 := HP.out _ HG.out
  have hO2 := HO.out
  rw [HE.out, HL.out] at hO2
  have hvg : v.ownBlock = some g := by rw [HV.out]; rfl
  have o2 : Oth (bX p v) w w2 := Oth.of_grown HG.out (.inr hvg)
  have o3 : Oth (bX p v) w (w2.setCell ⟨p, 1, none⟩ (.slice (some ⟨g, 0, none⟩) (i + (n - i - 1)) cb)) := o2.set (.inl rfl) 1 _
  rw [HL.out] at o3 ⊢
  refine ⟨rfl, .slice (some ⟨g, 0, none⟩) (l.eraseIdx i).length cb, ⟨hP2.set 1 _, ?_, fun q hq => ?_, Hh.out.lo, Hh.out.hi, HLe.out, fun q hq => Hh.out.small q (List.mem_of_mem_eraseIdx hq), Hh.out.bp⟩, o3, hvg.symm⟩
  · exact row_keep hO2 fun k hk => (grown_set w2 p 1 _).block k (World.ownsRow.lt hO2 k hk).2 fun e => by
      injection e with e
      subst e
      exact row_whole_apart hO2 hP2 (by decide) hk
  · have h' := List.mem_of_mem_eraseIdx hq
    exact (Hh.out.ents q h').oth o3 fun k hk => Hh.out.ep h' hk
set_option maxHeartbeats 400000 in
theorem new_yes {base : Nat} (room : Nat) (w : World) (h1 : 1 ≤ room) (h2 : room ≤ 200) (hb : base ≤ w.heap.size) :
    Calls Try.prog 9 #[.int .i64 (room : Int)] w fun e w' => e = .returned (.tuple #[.pointer (some ⟨w.heap.size, 0, none⟩), .int .i64 0]) ∧ BagAt w' w.heap.size base room (.slice none 0 0) [] ∧ Below w.heap.size w w' := by
  have HK := Lib.hid (Whole.new w #[.int .i64 (room : Int), .slice none 0 0] 61)
  have HB := Lib.hid ((Below.refl w.heap.size w).alloc (Nat.le_refl _) (.cells #[.int .i64 (room : Int), .slice none 0 0] 61))
  have d0 : decide ((room : Int) < 1) = false := by simp; omega
  have d1 : decide (200 < (room : Int)) = false := by simp; omega
  go_enter Try.func9, Try.ntmps9
  go_wp2
  go_ret2
  exact ⟨rfl, ⟨HK.out, World.ownsRow_nil _ _ _ _, (fun q hq => by cases hq), h1, h2, Nat.zero_le _, (fun q hq => by cases hq), hb⟩, HB.out⟩
set_option maxHeartbeats 400000 in
theorem new_no (room : Int) (w : World) (h : room < 1 ∨ 200 < room) :
    Calls Try.prog 9 #[.int .i64 room] w fun e w' => e = .returned (.tuple #[.pointer none, .int .i64 1]) ∧ w' = w := by
  by_cases h1 : room < 1
  · clear h
    go_enter Try.func9, Try.ntmps9
    go_wp2
    go_ret2
    exact ⟨rfl, rfl⟩
  · have h2 : 200 < room := by omega
    clear h
    go_enter Try.func9, Try.ntmps9
    go_wp2
    go_ret2
    exact ⟨rfl, rfl⟩
set_option maxHeartbeats 400000 in
theorem len_any {w : World} {p base room : Nat} {v : Value} {l : List (Ms × Value)} (h : BagAt w p base room v l) : Calls Try.prog 12 #[.pointer (some ⟨p, 0, none⟩)] w fun e w' => e = .returned (.int .i64 (l.length : Int)) ∧ w' = w := by
  obtain ⟨B, cb, hv, -, -, -, -⟩ := h.rd
  have c1 := h.ptr.cell 1
  rw [hv] at c1
  simp only [List.getElem?_cons_succ, List.getElem?_cons_zero] at c1
  clear h hv
  go_enter Try.func12, Try.ntmps12
  go_wp2
  go_ret
  exact ⟨rfl, rfl⟩
set_option maxHeartbeats 400000 in
theorem len_nil (w : World) : Calls Try.prog 12 #[.pointer none] w fun e w' => e = .returned (.int .i64 0) ∧ w' = w := by
  go_enter Try.func12, Try.ntmps12
  go_wp2
  go_ret
  exact ⟨rfl, rfl⟩
end Go.Proofs.Ytgkhjmdghmpfcaa
