/-
  ViewsSure: the walk of the law.
-/
import Derived.Test.YtbfamijlaoopaaaVwLawF
namespace Go.Proofs.Ytbfamijlaoopaaa
open Go.RowKit
theorem run_neq_ack (x o : Int) (W : World) : (binOp .neq 32 (.agg #[.int .i64 x, .int .i64 o]) (.agg #[.int .i64 x, .int .i64 o])).run Try.prog W = .ok (.bool false) W := by
  have u3 := Try.underlying3
  have a3 := Try.isAgg3
  have z3 := Try.sizeOf3
  have hS : Try.prog.underlying 32 = some (.struct (Try.prog.fieldsOf 32)) := by kernel_rfl
  have hp : Try.prog.stoodInHeld 32 = false := by kernel_rfl
  rw [run_neq_struct, show (10000 : Nat) = 9999 + 1 from rfl, run_equalIn_agg W 9999 32 _ _ hS hp]
  simp only [Program.fieldsOf, Try.underlying32]
  go_simp
theorem Try.infoAck : (Try.prog.info? 32).map (fun i => (i.zero, i.size, i.bytes)) = some (some (.agg #[.int .i64 0, .int .i64 0]), 2, 16) := by kernel_rfl
theorem akl_one (l : List (Int × Int)) : ∀ u ∈ l.flatMap akc, u.oneCell' = true := fm_one (fun x u hu => by
  simp only [akc, List.mem_cons, List.not_mem_nil, or_false] at hu
  rcases hu with rfl | rfl <;> rfl) l
/-- append(nil, acks...) -/
theorem app_acks {w : World} {A : Option Addr} {n : Nat} {l : List (Int × Int)} (c : Nat) (h : RdK w A n l) (hn : n ≤ 1000000) : ∃ A' c' w', (Builtin.append_ #[29, 29] 29 #[.slice none 0 0, .slice A n c]).run Try.prog w = .ok (.slice A' n c') w' ∧ RdK w' A' n l ∧ Below w.heap.size w w' := by
  obtain ⟨v, w', h1, h2, h3, -⟩ := run_appC (P := Try.prog) (ty := 29) (t := 29) Try.underlying29 Try.infoAck rfl (by decide) (by decide) (World.ownsRow_nil w w.heap.size 32 2) c h.rd (akl_one l) (by omega) (Nat.le_refl _)
  rw [Nat.zero_add, List.nil_append] at h2
  obtain ⟨A', c', rfl, -, -, r, -⟩ := row_rd h2
  exact ⟨A', c', w', h1, ⟨h.len, r⟩, (Below.refl _ _).grown h3 (Nat.le_refl _) fun k hk => by cases hk⟩
def SrRel (w : World) (n : Nat) (i : Value) (wr : World) : Prop := ∃ k : Nat, k ≤ n ∧ i = .int .i64 (k : Int) ∧ Below w.heap.size w wr
set_option maxHeartbeats 4000000 in
theorem viewsSure_walk (nodes own : Int) (A : Option Addr) (n c : Nat) (l : List (Int × Int)) (w : World) (h : RdK w A n l) : Calls Try.prog 4 #[.int .i64 nodes, .int .i64 own, .slice A n c] w (Holds w) := by
  have HS := Lib.hid sure_any
  by_cases g1 : 300 < n
  · have g1i : (300 : Int) < (n : Int) := by omega
    clear h
    go_enter Try.func4, Try.ntmps4
    go_wp2
    go_ret
    exact ⟨rfl, Below.refl _ _⟩
  · have g1i : ¬ ((300 : Int) < (n : Int)) := by omega
    obtain ⟨A2, c2, W1, ap, h2, b1⟩ := app_acks c h (by omega)
    have HB1 := Lib.hid b1
    have HR1 := Lib.hid (fun W (b : Below w.heap.size w W) => h.below b)
    have HR2 := Lib.hid (fun W (b : Below W1.heap.size W1 W) => h2.below b)
    have HV := Lib.hid (vsure_any (c := c) (h.below b1) (by omega) nodes own)
    have HRf := Lib.hid (fun W (b : Below W1.heap.size W1 W) => rsure_any (c := c2) (h2.below b) (by omega) nodes own)
    clear h h2 b1
    generalize sureV nodes own l = s at HV HRf
    go_enter Try.func4, Try.ntmps4
    go_upto_region 4 with fail
    refine wp_region_list ?_
    refine wpList_pure (v := .slice none 0 0) rfl rfl ?_
    simp only [Act.put, List.setIfInBounds_toArray, List.set_cons_zero, List.set_cons_succ]
    refine wpList_pure (v := .slice A n c) rfl rfl ?_
    simp only [Act.put, List.setIfInBounds_toArray, List.set_cons_zero, List.set_cons_succ]
    refine wpList_append_run ap rfl _ _ rfl rfl rfl rfl ?_
    simp only [Act.put, List.setIfInBounds_toArray, List.set_cons_zero, List.set_cons_succ]
    refine wpList_pure (v := .slice A2 n c2) rfl rfl (wpList_nil ?_)
    simp only [Act.put, List.setIfInBounds_toArray, List.set_cons_zero, List.set_cons_succ]
    clear ap
    go_upto_region 6 with (go_at_call 20; refine HV.out.mono ?_; rintro x W2 ⟨rfl, b⟩; have HB2 := Lib.hid b; clear b)
    clear HV
    go_wp2
    go_loopw [9] (SrRel W1 n) (fun i _ => n - (Go.RowKit.intOf i).toNat)
    case atStart => exact ⟨0, Nat.zero_le _, rfl, HB2.out⟩
    case round =>
      obtain ⟨k, hk, rfl, hb⟩ := hrel
      have HB := Lib.hid hb
      clear hb
      by_cases hlt : k < n
      · have hki : (k : Int) < (n : Int) := by omega
        obtain ⟨b, off, ⟨y, z⟩, rfl, -, hy, p0, p1⟩ := (HR1.out wr (HB1.out.trans (HB.out.mono HB1.out.size))).get hlt
        obtain ⟨b2, off2, ⟨y2, z2⟩, rfl, -, hy2, q0, q1⟩ := (HR2.out wr HB.out).get hlt
        obtain ⟨rfl, rfl⟩ : y2 = y ∧ z2 = z := by rw [hy] at hy2; injection hy2 with hy2; injection hy2 with e1 e2; exact ⟨e1.symm, e2.symm⟩
        have ne := run_neq_ack y2 z2
        simp only at p0 p1 q0 q1
        clear hy hy2
        go_wp2
        go_quiet (fail)
        go_wp2
        go_roundw
        case rel => exact ⟨k + 1, hlt, by go_num, below_drewN HB.out _⟩
        case measure => simp [Go.RowKit.intOf]; omega
      · obtain rfl : k = n := by omega
        have hki : ¬ ((k : Int) < (k : Int)) := by omega
        have HWr := Lib.hid (Below.refl wr.heap.size wr)
        go_wp2_with (first | (go_at_call 21; refine (HS.out _).mono ?_; rintro x W3 ⟨rfl, b⟩; have HB3 := Lib.hid (HB.out.trans (b.mono HB.out.size)); clear b) | (go_at_call 22; refine (HRf.out _ HB3.out).mono ?_; rintro x W4 ⟨rfl, rfl⟩))
        go_ret
        exact ⟨by simp, HB1.out.trans (HB3.out.mono HB1.out.size)⟩
end Go.Proofs.Ytbfamijlaoopaaa
