/-
  ViewsHalves: the walk of the law.
-/
import Derived.Test.YtbfamijlaoopaaaVwLawD
import Derived.Test.YtbfamijlaoopaaaCel
namespace Go.Proofs.Ytbfamijlaoopaaa
open Go.RowKit
theorem sl1_int (w : World) (x : Int) : (Instr.buildSlice 22 1 #[(0, .int .i64 x)]).run Try.prog w = .ok (.slice (some ⟨w.heap.size, 0, none⟩) 1 1) (w.alloc (.cells #[.int .i64 x] 3)) := by kernel_rfl
/-- A row of numbers of the call's own. -/
def OwnN (w : World) (base : Nat) (v : Value) (l : List Int) : Prop := OwnV 3 w base v (ivl l)
theorem OwnN.nil {w : World} {base : Nat} : OwnN w base (.slice none 0 0) [] := OwnV.nil
theorem OwnN.below {w w' : World} {base : Nat} {v : Value} {l : List Int} (h : OwnN w base v l) (hb : Below w.heap.size w w') : OwnN w' base v l := OwnV.below h hb
theorem OwnN.rd {w : World} {base : Nat} {v : Value} {l : List Int} (h : OwnN w base v l) : ∃ A c, v = .slice A l.length c ∧ RdN w A l.length l := by
  obtain ⟨A, c, e, _, _, r⟩ := OwnV.shape h (ivl_len l)
  exact ⟨A, c, e, r⟩
/-- append(v, x) -/
theorem app_int {w0 w : World} {v : Value} {l : List Int} (h : OwnN w w0.heap.size v l) (hb : Below w0.heap.size w0 w) (x : Int) (hl : l.length + 1 ≤ 1000000) :
    ∃ W v' w', (Instr.buildSlice 22 1 #[(0, .int .i64 x)]).run Try.prog w = .ok (.slice (some ⟨w.heap.size, 0, none⟩) 1 1) W ∧ (Builtin.append_ #[22, 22] 22 #[v, .slice (some ⟨w.heap.size, 0, none⟩) 1 1]).run Try.prog W = .ok v' w' ∧ OwnN w' w0.heap.size v' (l ++ [x]) ∧ Below w0.heap.size w0 w' := by
  obtain ⟨v', w', h1, h2, h3, _⟩ := run_app_cell (P := Try.prog) w0.heap.size 22 22 3 Try.underlying22 Try.infoIntL rfl (by decide) (by decide) v (ivl l) h (.int .i64 x) rfl (by rw [ivl_len]; exact hl) hb.size
  refine ⟨_, v', w', sl1_int w x, h1, ?_, hb.grown h3 hb.size fun k hk => (OwnV.lt h k hk).1⟩
  unfold OwnN
  simpa [ivl] using h2
def HvRel (w : World) (N : Nat) (l : List Int) (s i : Value) (wr : World) : Prop := ∃ (k : Nat) (r : List Int), k ≤ N ∧ i = .int .i64 ((k : Int) + 1) ∧ OwnN wr w.heap.size s r ∧ (∀ x : Int, x ∈ r ↔ 1 ≤ x ∧ x ≤ (k : Int) ∧ ¬ x ∈ l) ∧ r.length ≤ k ∧ Below w.heap.size w wr
def HvIn (W : World) (l : List Int) (x : Int) (s i : Value) (wr : World) : Prop := ∃ j : Nat, j ≤ l.length ∧ i = .int .i64 (j : Int) ∧ s = .bool (decide (x ∈ l.take j)) ∧ wr = W
theorem halves_step {l r : List Int} {k : Nat} (h : ∀ x : Int, x ∈ r ↔ 1 ≤ x ∧ x ≤ (k : Int) ∧ ¬ x ∈ l) : ((k : Int) + 1 ∈ l → ∀ x : Int, x ∈ r ↔ 1 ≤ x ∧ x ≤ ((k + 1 : Nat) : Int) ∧ ¬ x ∈ l) ∧ (¬ (k : Int) + 1 ∈ l → ∀ x : Int, x ∈ r ++ [(k : Int) + 1] ↔ 1 ≤ x ∧ x ≤ ((k + 1 : Nat) : Int) ∧ ¬ x ∈ l) := by
  constructor
  · intro hm x
    rw [h x]
    constructor
    · rintro ⟨a, b, c⟩
      exact ⟨a, by omega, c⟩
    · rintro ⟨a, b, c⟩
      by_cases e : x = (k : Int) + 1
      · rw [e] at c
        exact absurd hm c
      · exact ⟨a, by omega, c⟩
  · intro hm x
    rw [List.mem_append, List.mem_singleton, h x]
    constructor
    · rintro (⟨a, b, c⟩ | rfl)
      · exact ⟨a, by omega, c⟩
      · exact ⟨by omega, by omega, hm⟩
    · rintro ⟨a, b, c⟩
      by_cases e : x = (k : Int) + 1
      · exact .inr e
      · exact .inl ⟨a, by omega, c⟩
set_option maxHeartbeats 4000000 in
theorem viewsHalves_walk (nodes : Int) (A : Option Addr) (n c : Nat) (l : List Int) (w : World) (h : RdN w A n l) : Calls Try.prog 9 #[.int .i64 nodes, .slice A n c] w (Holds w) := by
  have HA := Lib.hid asks_any
  have HB := Lib.hid (Below.refl w.heap.size w)
  have HN := Lib.hid (fun W => vnodes_any nodes W)
  by_cases g1 : 300 < n
  · have g1i : (300 : Int) < (n : Int) := by omega
    clear h
    go_enter Try.func9, Try.ntmps9
    go_wp2_with (go_at_call 11; refine (HA.out _).mono ?_; rintro x W ⟨rfl, b⟩; have HB := Lib.hid (HB.out.trans (b.mono HB.out.size)); clear b)
    go_ret
    exact ⟨rfl, HB.out⟩
  · have g1i : ¬ ((300 : Int) < (n : Int)) := by omega
    cases hn : isN nodes
    · rw [hn] at HN
      clear h hn
      go_enter Try.func9, Try.ntmps9
      go_wp2_with (first | (go_at_call 12; refine (HN.out _).mono ?_; rintro x W ⟨rfl, b⟩; have HB := Lib.hid (HB.out.trans (b.mono HB.out.size)); clear b) | (go_at_call 11; refine (HA.out _).mono ?_; rintro x W ⟨rfl, b⟩; have HB := Lib.hid (HB.out.trans (b.mono HB.out.size)); clear b))
      go_ret
      exact ⟨rfl, HB.out⟩
    · rw [hn] at HN
      obtain ⟨N, rfl⟩ : ∃ N : Nat, nodes = (N : Int) := ⟨nodes.toNat, by have := isN_cases hn; omega⟩
      have hN7 : N ≤ 7 := by have := isN_cases hn; omega
      have Hn := Lib.hid hn
      have HR := Lib.hid (fun W (b : Below w.heap.size w W) => h.below b)
      have HL := Lib.hid h.len
      clear h hn
      go_enter Try.func9, Try.ntmps9
      go_upto_region 3 with (go_at_call 12; refine (HN.out _).mono ?_; rintro x W ⟨rfl, b⟩; have HB := Lib.hid (HB.out.trans (b.mono HB.out.size)); clear b)
      clear HN
      go_wp2
      go_loopw [5, 6] (HvRel w N l) (fun _ i _ => N + 1 - (Go.RowKit.intOf i).toNat)
      case atStart => exact ⟨0, [], Nat.zero_le _, rfl, OwnN.nil, fun x => by simp; omega, Nat.le_refl _, HB.out⟩
      case round =>
        obtain ⟨k, r, hk, rfl, hO, hr, hrl, hb⟩ := hrel
        have HB := Lib.hid hb
        have HO := Lib.hid hO
        have HSt := Lib.hid (halves_step hr)
        have Hr := Lib.hid hr
        clear hb hO hr
        by_cases hlt : k < N
        · have hki : (k : Int) + 1 ≤ (N : Int) := by omega
          go_wp2
          go_loopw [7, 8] (HvIn wr l ((k : Int) + 1)) (fun _ j _ => n - (Go.RowKit.intOf j).toNat)
          case atStart => exact ⟨0, Nat.zero_le _, rfl, by simp, rfl⟩
          case round =>
            obtain ⟨j, hj, rfl, rfl, rfl⟩ := hrel
            rw [HL.out] at hj
            by_cases hjn : j < n
            · have hji : (j : Int) < (n : Int) := by omega
              obtain ⟨b, off, y, rfl, -, hy, hc⟩ := (HR.out wr HB.out).cell hjn
              have hst : decide ((k : Int) + 1 ∈ l.take (j + 1)) = (decide ((k : Int) + 1 ∈ l.take j) || decide (y = (k : Int) + 1)) := by
                rw [decide_eq_decide.2 (take_mem hy), Bool.decide_or, decide_eq_decide.2 (eq_comm (a := (k : Int) + 1) (b := y))]
              clear hy
              generalize decide ((k : Int) + 1 ∈ l.take j) = q at hst
              cases q
              · by_cases e : y = (k : Int) + 1
                · have t1 : (y == (k : Int) + 1) = true := by simp [e]
                  have t2 : decide (y = (k : Int) + 1) = true := by simp [e]
                  have Hst := Lib.hid (show decide ((k : Int) + 1 ∈ l.take (j + 1)) = true by rw [hst, t2]; rfl)
                  clear hst e
                  go_wp2
                  go_roundw
                  case rel => exact ⟨j + 1, by have := HL.out; omega, by go_num, by rw [Hst.out], rfl⟩
                  case measure => simp [Go.RowKit.intOf]; omega
                · have t1 : (y == (k : Int) + 1) = false := by simp [e]
                  have t2 : decide (y = (k : Int) + 1) = false := by simp [e]
                  have Hst := Lib.hid (show decide ((k : Int) + 1 ∈ l.take (j + 1)) = false by rw [hst, t2]; rfl)
                  clear hst e
                  go_wp2
                  go_roundw
                  case rel => exact ⟨j + 1, by have := HL.out; omega, by go_num, by rw [Hst.out], rfl⟩
                  case measure => simp [Go.RowKit.intOf]; omega
              · have Hst := Lib.hid (show decide ((k : Int) + 1 ∈ l.take (j + 1)) = true by rw [hst]; rfl)
                clear hst
                go_wp2
                go_roundw
                case rel => exact ⟨j + 1, by have := HL.out; omega, by go_num, by rw [Hst.out], rfl⟩
                case measure => simp [Go.RowKit.intOf]; omega
            · obtain rfl : j = n := by omega
              have hji : ¬ ((j : Int) < (j : Int)) := by omega
              rw [List.take_of_length_le (show l.length ≤ j by rw [HL.out]; omega)]
              by_cases hm : (k : Int) + 1 ∈ l
              · have HS2 := Lib.hid (HSt.out.1 hm)
                rw [decide_eq_true hm]
                clear hm
                go_wp2
                go_roundw
                case rel => exact ⟨k + 1, r, by omega, by go_num, HO.out, HS2.out, by omega, HB.out⟩
                case measure => simp [Go.RowKit.intOf]; omega
              · have HS2 := Lib.hid (HSt.out.2 hm)
                rw [decide_eq_false hm]
                obtain ⟨W1, v1, W2, sl, ap, hO2, hb2⟩ := app_int HO.out HB.out ((k : Int) + 1) (by omega)
                have HO2 := Lib.hid hO2
                have HB2 := Lib.hid hb2
                have hrl2 : (r ++ [(k : Int) + 1]).length ≤ k + 1 := by rw [List.length_append, List.length_singleton]; omega
                have HRL2 := Lib.hid hrl2
                clear hm hO2 hb2 hrl2
                go_upto_region 13 with fail
                refine wp_region_list ?_
                refine wpList_pure (v := u5) rfl rfl ?_
                simp only [Act.put, List.setIfInBounds_toArray, List.set_cons_zero, List.set_cons_succ]
                refine wpList_pure (v := .int .i64 ((k : Int) + 1)) rfl rfl ?_
                simp only [Act.put, List.setIfInBounds_toArray, List.set_cons_zero, List.set_cons_succ]
                refine wpList_slice1_run sl rfl _ rfl rfl ?_
                simp only [Act.put, List.setIfInBounds_toArray, List.set_cons_zero, List.set_cons_succ]
                refine wpList_append_run ap rfl _ _ rfl rfl rfl rfl ?_
                simp only [Act.put, List.setIfInBounds_toArray, List.set_cons_zero, List.set_cons_succ]
                refine wpList_pure (v := v1) rfl rfl (wpList_nil ?_)
                simp only [Act.put, List.setIfInBounds_toArray, List.set_cons_zero, List.set_cons_succ]
                clear ap sl
                go_wp2
                go_roundw
                case rel => exact ⟨k + 1, r ++ [(k : Int) + 1], by omega, by go_num, HO2.out, HS2.out, HRL2.out, HB2.out⟩
                case measure => simp [Go.RowKit.intOf]; omega
        · obtain rfl : k = N := by omega
          have hki : ¬ ((k : Int) + 1 ≤ (k : Int)) := by omega
          have HH := Lib.hid (enough_halves (a := l) (b := r) Hn.out fun x a b => by rw [Hr.out x]; exact ⟨fun q => q.2.2, fun q => ⟨a, b, q⟩⟩)
          obtain ⟨A', c', rfl, hrd⟩ := HO.out.rd
          have HRd := Lib.hid hrd
          have HE1 := Lib.hid (fun W (b : Below wr.heap.size wr W) => venough_any (c := c) (HR.out W (HB.out.trans (b.mono HB.out.size))) (by omega) (k : Int))
          have HE2 := Lib.hid (fun W (b : Below wr.heap.size wr W) => venough_any (c := c') (HRd.out.below b) (by omega) (k : Int))
          have HH2 := HH.out
          clear hrd HO HRd HH
          generalize enough (k : Int) l = q1 at HH2 HE1
          generalize enough (k : Int) r = q2 at HH2 HE2
          have hq : q2 = !q1 := by cases q1 <;> cases q2 <;> simp_all
          subst hq
          clear HH2
          cases q1
          all_goals
            go_wp2_with (first | (go_at_call 11; refine (HA.out _).mono ?_; rintro x W ⟨rfl, b⟩; have HB4 := Lib.hid b; clear b) | (go_at_call 18; with_reducible refine (HE1.out _ HB4.out).mono ?_; rintro x W ⟨rfl, b⟩; have HB5 := Lib.hid (HB4.out.trans (b.mono HB4.out.size)); clear b) | (go_at_call 18; with_reducible refine (HE2.out _ HB5.out).mono ?_; rintro x W ⟨rfl, b⟩; have HB6 := Lib.hid (HB5.out.trans (b.mono HB5.out.size)); clear b))
            go_ret
            exact ⟨rfl, HB.out.trans (HB6.out.mono HB.out.size)⟩
end Go.Proofs.Ytbfamijlaoopaaa
