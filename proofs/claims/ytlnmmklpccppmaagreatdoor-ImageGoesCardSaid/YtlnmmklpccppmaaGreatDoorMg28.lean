/-
  The document's rows of operations on a heap: what each makes; the law's walk through them.
-/
import Derived.Test.YtlnmmklpccppmaaGreatDoorMg27
import Derived.Test.YtlnmmklpccppmaaGreatDoorMg21
namespace Go.Proofs.YtlnmmklpccppmaaGreatDoor
open Go.RowKit

theorem took_a : Took [(0, 3)] 2 (0, 2) [(4, 2)] := by
  refine ⟨(0, 3), by simp, by decide, fun c hc _ => ?_, rfl, List.pairwise_singleton _ _, fun c => ?_⟩
  · rw [List.mem_singleton.1 hc]; exact Lq.refl _
  · unfold IsHalf
    simp only [List.mem_singleton]
    constructor
    · rintro rfl
      exact .inr ⟨by decide, by decide, by decide⟩
    · rintro (⟨h1, h2⟩ | ⟨h1, h2, h3⟩)
      · exact absurd h1 h2
      · have h1' : (2 : Int) ≤ c.2 := h1
        have h2' : c.2 < 3 := h2
        have : c.2 = 2 := by omega
        rw [this] at h3
        exact Prod.ext h3 this
theorem took_b : Took [(4, 2)] 2 (4, 2) [] := by
  refine ⟨(4, 2), by simp, by decide, fun c hc _ => ?_, rfl, List.Pairwise.nil, fun c => ?_⟩
  · rw [List.mem_singleton.1 hc]; exact Lq.refl _
  · unfold IsHalf
    simp only [List.mem_singleton, List.not_mem_nil, false_iff]
    rintro (⟨h1, h2⟩ | ⟨h1, h2, h3⟩)
    · exact absurd h1 h2
    · have h1' : (2 : Int) ≤ c.2 := h1
      have h2' : c.2 < 2 := h2
      omega
theorem gave_a : Gave 3 [] (4, 2) [(4, 2)] := ⟨by decide, fun x => by simp [Cov]⟩
def ob1 : Ob := ⟨1, (0, 2), [0, 0], [0]⟩
def ob1w : Ob := ⟨1, (0, 2), [0, 7], [0]⟩
def ob1l : Ob := ⟨1, (0, 2), [0, 7], [2]⟩
def ob2 : Ob := ⟨2, (4, 2), [0, 0, 0], []⟩
def ob3 : Ob := ⟨3, (4, 2), [0, 0, 0], []⟩
def st : Nat → Hp
  | 0 => newH 3
  | 1 => ⟨3, [ob1], 2, [0, 0, 0, 0], [(4, 2)]⟩
  | 2 => ⟨3, [ob1, ob2], 3, [0, 0, 0, 0], []⟩
  | 3 => ⟨3, [ob1, ob2], 3, [0, 0, 0, 0], []⟩
  | 4 => ⟨3, [ob1w, ob2], 3, [0, 0, 0, 0], []⟩
  | 5 => ⟨3, [ob1w, ob2], 3, [0, 0, 0, 0], []⟩
  | 6 => ⟨3, [ob1w, ob2], 3, [0, 0, 0, 0], []⟩
  | 7 => ⟨3, [ob1w, ob2], 3, [0, 0, 0, 0], []⟩
  | 8 => ⟨3, [ob1l, ob2], 3, [0, 0, 0, 0], []⟩
  | 9 => ⟨3, [ob1l, ob2], 3, [2, 0, 0, 0], []⟩
  | 10 => ⟨3, [ob1w], 3, [0, 0, 0, 0], [(4, 2)]⟩
  | 11 => ⟨3, [ob1w], 3, [0, 0, 0, 0], [(4, 2)]⟩
  | 12 => ⟨3, [ob1w], 3, [0, 0, 0, 0], [(4, 2)]⟩
  | 13 => ⟨3, [ob1w], 3, [0, 0, 0, 0], [(4, 2)]⟩
  | _ => ⟨3, [ob1w, ob3], 4, [0, 0, 0, 0], []⟩
def opAt : Nat → Opn
  | 0 => ⟨1, 0, 0, 2, 1, 0, 0⟩
  | 1 => ⟨1, 0, 0, 3, 0, 0, 0⟩
  | 2 => ⟨1, 0, 0, 0, 0, 0, 0⟩
  | 3 => ⟨3, 1, 1, 0, 0, 7, 0⟩
  | 4 => ⟨6, 1, 1, 0, 0, 0, 0⟩
  | 5 => ⟨6, 1, 2, 0, 0, 0, 0⟩
  | 6 => ⟨6, 3, 0, 0, 0, 0, 0⟩
  | 7 => ⟨4, 1, 0, 0, 0, 0, 2⟩
  | 8 => ⟨5, 0, 0, 0, 0, 0, 2⟩
  | 9 => ⟨2, 2, 0, 0, 0, 0, 0⟩
  | 10 => ⟨7, 1, 0, 0, 0, 0, 0⟩
  | 11 => ⟨8, 0, 0, 0, 0, 0, 0⟩
  | 12 => ⟨1, 0, 0, 33, 0, 0, 0⟩
  | _ => ⟨1, 0, 0, 3, 0, 0, 0⟩
def wantAt : Nat → Int × Int
  | 0 => (0, 1)
  | 1 => (0, 2)
  | 2 => (50, 0)
  | 3 => (0, 0)
  | 4 => (0, 7)
  | 5 => (52, 0)
  | 6 => (51, 0)
  | 12 => (53, 0)
  | 13 => (0, 3)
  | _ => (0, 0)
theorem alloc_gives {h : Hp} {n kk N : Int} {b : Blk} {m : List Blk} (hN : needI n kk = N) (h0 : 0 ≤ N) (hx : h.nx ≤ 1000000) (hr : roomB h.fr N = true) (ht : Took h.fr N b m) : allocH h n kk = ({ h with obs := h.obs ++ [⟨h.nx, b, List.replicate n.toNat 0, List.replicate kk.toNat 0⟩], nx := h.nx + 1, fr := m }, 0, h.nx) := by
  unfold allocH
  rw [hN, if_neg (by omega), if_neg (by omega), hr, if_neg (by simp), takeF_eq ht]
theorem st_step : ∀ k, k < 14 → doneH (st k) (opAt k) = (st (k + 1), wantAt k)
  | 0, _ => by rw [doneH_alloc rfl]; exact alloc_gives (N := 2) (by decide) (by decide) (by decide) (by decide) took_a
  | 1, _ => by rw [doneH_alloc rfl]; exact alloc_gives (N := 2) (by decide) (by decide) (by decide) (by decide) took_b
  | 2, _ => by rw [doneH_alloc rfl]; unfold allocH; rw [if_neg (by decide), if_neg (by decide), if_pos (by decide)]; rfl
  | 3, _ => by rw [doneH_obj (by decide)]; rfl
  | 4, _ => by rw [doneH_read rfl]; rfl
  | 5, _ => by rw [doneH_read rfl]; rfl
  | 6, _ => by rw [doneH_read rfl]; rfl
  | 7, _ => by rw [doneH_obj (by decide)]; rfl
  | 8, _ => by rw [doneH_tops (by decide)]; rfl
  | 9, _ => by
    rw [doneH_obj (by decide)]
    show objH (st 9) (opAt 9) 1 ob2 = _
    unfold objH
    rw [if_pos (show (opAt 9).k = 2 from rfl)]
    unfold freeH
    rw [show giveF (st 9).od (st 9).fr ob2.bl = [(4, 2)] from giveF_eq gave_a]
    rfl
  | 10, _ => by rw [doneH_follow rfl]; rfl
  | 11, _ => by rw [doneH_top rfl]; rfl
  | 12, _ => by rw [doneH_alloc rfl]; unfold allocH; rw [if_pos (by decide)]; rfl
  | 13, _ => by rw [doneH_alloc rfl]; exact alloc_gives (N := 2) (by decide) (by decide) (by decide) (by decide) took_b
  | n + 14, h => by omega
theorem st_right : ∀ k, k ≤ 14 → RightH (st k)
  | 0, _ => right_newH (by omega)
  | k + 1, h => by
    have h1 := (doneH_right (st_right k (by omega)) (opAt k)).1
    rw [st_step k (by omega)] at h1
    exact h1
theorem st_small : ∀ k, k ≤ 14 → SmallH (st k) := fun k h => by
  rcases (by omega : k = 0 ∨ k = 1 ∨ k = 2 ∨ k = 3 ∨ k = 4 ∨ k = 5 ∨ k = 6 ∨ k = 7 ∨ k = 8 ∨ k = 9 ∨ k = 10 ∨ k = 11 ∨ k = 12 ∨ k = 13 ∨ k = 14) with e | e | e | e | e | e | e | e | e | e | e | e | e | e | e <;> subst e <;> exact ⟨by decide, by decide, by decide⟩
def opsL : List Value := [.int .i64 1, .int .i64 0, .int .i64 0, .int .i64 2, .int .i64 1, .int .i64 0, .int .i64 0, .int .i64 1, .int .i64 0, .int .i64 0, .int .i64 3, .int .i64 0, .int .i64 0, .int .i64 0, .int .i64 1, .int .i64 0, .int .i64 0, .int .i64 0, .int .i64 0, .int .i64 0, .int .i64 0, .int .i64 3, .int .i64 1, .int .i64 1, .int .i64 0, .int .i64 0, .int .i64 7, .int .i64 0, .int .i64 6, .int .i64 1, .int .i64 1, .int .i64 0, .int .i64 0, .int .i64 0, .int .i64 0, .int .i64 6, .int .i64 1, .int .i64 2, .int .i64 0, .int .i64 0, .int .i64 0, .int .i64 0, .int .i64 6, .int .i64 3, .int .i64 0, .int .i64 0, .int .i64 0, .int .i64 0, .int .i64 0, .int .i64 4, .int .i64 1, .int .i64 0, .int .i64 0, .int .i64 0, .int .i64 0, .int .i64 2, .int .i64 5, .int .i64 0, .int .i64 0, .int .i64 0, .int .i64 0, .int .i64 0, .int .i64 2, .int .i64 2, .int .i64 2, .int .i64 0, .int .i64 0, .int .i64 0, .int .i64 0, .int .i64 0, .int .i64 7, .int .i64 1, .int .i64 0, .int .i64 0, .int .i64 0, .int .i64 0, .int .i64 0, .int .i64 8, .int .i64 0, .int .i64 0, .int .i64 0, .int .i64 0, .int .i64 0, .int .i64 0, .int .i64 1, .int .i64 0, .int .i64 0, .int .i64 33, .int .i64 0, .int .i64 0, .int .i64 0, .int .i64 1, .int .i64 0, .int .i64 0, .int .i64 3, .int .i64 0, .int .i64 0, .int .i64 0]
def wantsL : List Value := [.int .i64 0, .int .i64 1, .int .i64 0, .int .i64 2, .int .i64 50, .int .i64 0, .int .i64 0, .int .i64 0, .int .i64 0, .int .i64 7, .int .i64 52, .int .i64 0, .int .i64 51, .int .i64 0, .int .i64 0, .int .i64 0, .int .i64 0, .int .i64 0, .int .i64 0, .int .i64 0, .int .i64 0, .int .i64 0, .int .i64 0, .int .i64 0, .int .i64 53, .int .i64 0, .int .i64 0, .int .i64 3]
theorem ops_at : ∀ k, k < 14 → ∀ j u, (opcs (opAt k))[j]? = some u → opsL[k * 7 + j]? = some u := by
  intro k hk j u hu
  have hj : j < 7 := (List.getElem?_eq_some_iff.1 hu).1
  rcases (by omega : k = 0 ∨ k = 1 ∨ k = 2 ∨ k = 3 ∨ k = 4 ∨ k = 5 ∨ k = 6 ∨ k = 7 ∨ k = 8 ∨ k = 9 ∨ k = 10 ∨ k = 11 ∨ k = 12 ∨ k = 13) with e | e | e | e | e | e | e | e | e | e | e | e | e | e <;> subst e <;>
    (rcases (by omega : j = 0 ∨ j = 1 ∨ j = 2 ∨ j = 3 ∨ j = 4 ∨ j = 5 ∨ j = 6) with e | e | e | e | e | e | e <;> subst e <;> exact hu)
theorem wants_at : ∀ k, k < 14 → wantsL[k * 2]? = some (.int .i64 (wantAt k).1) ∧ wantsL[k * 2 + 1]? = some (.int .i64 (wantAt k).2) := by
  intro k hk
  rcases (by omega : k = 0 ∨ k = 1 ∨ k = 2 ∨ k = 3 ∨ k = 4 ∨ k = 5 ∨ k = 6 ∨ k = 7 ∨ k = 8 ∨ k = 9 ∨ k = 10 ∨ k = 11 ∨ k = 12 ∨ k = 13) with e | e | e | e | e | e | e | e | e | e | e | e | e | e <;> subst e <;> exact ⟨rfl, rfl⟩
theorem results_op {fn : Func} {p : Tmp} (h : fn.results = #[.cell p 50]) (tmps : Array Value) (w : World) (kp : Nat) (hp : tmps.getD p undef = .pointer (some ⟨kp, 0, none⟩)) {a0 a1 a2 a3 a4 a5 a6 : Value} (K : Whole w kp 50 [a0, a1, a2, a3, a4, a5, a6]) :
    (results fn tmps).run Tryz.prog w = .ok (.agg #[a0, a1, a2, a3, a4, a5, a6]) w := by
  have u1 := Tryz.underlying50
  have z1 := Tryz.sizeOf50
  have i1 := Tryz.isAgg50
  have hp' : tmps[p]?.getD undef = .pointer (some ⟨kp, 0, none⟩) := by simpa using hp
  obtain ⟨c0, c1, c2, c3, c4, c5, c6⟩ := K.seven
  simp only [results, h]
  simp [hp', asAddr, loadVar]
  go_simp
theorem OwnHp.other {w w' : World} {base p : Nat} {s : HSl} {os : List (Ob × OSl)} {H : Hp} {cs : List Value} (h : OwnHp w base s os H) (K : Whole w p 26 cs) (hg : w.grownBy w' (some p)) : OwnHp w' base s os H := by
  have hI : ∀ k ∈ blocksOf os, some k ≠ some p := fun k hk e => by
    injection e with e
    subst e
    obtain ⟨q, hq, e2⟩ := mem_blocks.1 hk
    have : ∃ c2, w.heap[k]? = some (.cells c2 3 (0, 0)) := by
      rcases e2 with e2 | e2
      · exact row_type (h.objs.ints q hq).1 e2
      · exact row_type (h.objs.ints q hq).2 e2
    obtain ⟨c2, h2⟩ := this
    exact absurd (heap_types K h2) (by decide)
  exact ⟨h.objs.grown hg (fun k hk e => by
      injection e with e
      subst e
      obtain ⟨c1, h1⟩ := row_type h.objs.row hk
      exact absurd (heap_types K h1) (by decide)) hI, h.obs, h.free.grown hg (fun k hk e => by
      injection e with e
      subst e
      obtain ⟨c1, h1⟩ := row_type h.free hk
      exact absurd (heap_types K h1) (by decide)), h.tp, h.nx⟩
theorem run_neq_res (x o y p : Int) (W : World) : (binOp .neq 59 (.agg #[.int .i64 x, .int .i64 o]) (.agg #[.int .i64 y, .int .i64 p])).run Tryz.prog W = .ok (.bool (!sameB (x, o) (y, p))) W := by
  have u3 := Tryz.underlying3
  have a3 := Tryz.isAgg3
  have z3 := Tryz.sizeOf3
  have u4 := Tryz.underlying30
  have a4 := Tryz.isAgg30
  have z4 := Tryz.sizeOf30
  have hS : Tryz.prog.underlying 59 = some (.struct (Tryz.prog.fieldsOf 59)) := by kernel_rfl
  have hp : Tryz.prog.stoodInHeld 59 = false := by kernel_rfl
  rw [run_neq_struct, show (10000 : Nat) = 9999 + 1 from rfl, run_equalIn_agg W 9999 59 _ _ hS hp]
  simp only [Program.fieldsOf, Tryz.underlying59]
  unfold sameB
  go_simp
  by_cases h1 : x = y <;> by_cases h2 : o = p <;> simp [h1, h2]
/-- A heap and what was told in boxes of their own. -/
def BxRel (w0 : Nat) (wr : World) (H' : Hp) (rc rv : Int) (v6 v7 : Value) (wc : World) : Prop :=
  ∃ s' os' p6 p7, v6 = .pointer (some ⟨p6, 0, none⟩) ∧ v7 = .pointer (some ⟨p7, 0, none⟩) ∧ OwnHp wc w0 s' os' H' ∧ Whole wc p6 26 (hcs H' s') ∧ Whole wc p7 59 [.int .i64 rc, .int .i64 rv] ∧ Below wr.heap.size wr wc
section
variable {w0 : Nat} {wr V W5 : World} {s' : HSl} {os' : List (Ob × OSl)} {H' : Hp} {rc rv : Int}
theorem bx_a1 (h0 : w0 ≤ wr.heap.size) (hV : Below wr.heap.size wr V) (O : OwnHp W5 V.heap.size s' os' H') (b : Below V.heap.size V W5) :
    BxRel w0 wr H' rc rv (.pointer (some ⟨W5.heap.size, 0, none⟩)) (.pointer (some ⟨W5.heap.size + 1, 0, none⟩)) ((W5.alloc (.cells (hcs H' s').toArray 26)).alloc (.cells #[.int .i64 rc, .int .i64 rv] 59)) := by
  have bV := hV.trans (b.mono hV.size)
  have k1 := Whole.new W5 (hcs H' s').toArray 26
  have k2 := Whole.new (W5.alloc (.cells (hcs H' s').toArray 26)) #[.int .i64 rc, .int .i64 rv] 59
  rw [show (W5.alloc (.cells (hcs H' s').toArray 26)).heap.size = W5.heap.size + 1 by simp] at k2
  have bb := ((Grew.refl W5).alloc (.cells (hcs H' s').toArray 26)).alloc (.cells #[.int .i64 rc, .int .i64 rv] 59)
  exact ⟨s', os', _, _, rfl, rfl, (O.below bb.below).mono (Nat.le_trans h0 hV.size), k1.alloc _, k2, bV.trans (bb.below.mono bV.size)⟩
theorem bx_a2 (h0 : w0 ≤ wr.heap.size) (hV : Below wr.heap.size wr V) (O : OwnHp W5 V.heap.size s' os' H') (b : Below V.heap.size V W5) :
    BxRel w0 wr H' rc rv (.pointer (some ⟨W5.heap.size + 1, 0, none⟩)) (.pointer (some ⟨W5.heap.size, 0, none⟩)) ((W5.alloc (.cells #[.int .i64 rc, .int .i64 rv] 59)).alloc (.cells (hcs H' s').toArray 26)) := by
  have bV := hV.trans (b.mono hV.size)
  have k1 := Whole.new W5 #[.int .i64 rc, .int .i64 rv] 59
  have k2 := Whole.new (W5.alloc (.cells #[.int .i64 rc, .int .i64 rv] 59)) (hcs H' s').toArray 26
  rw [show (W5.alloc (.cells #[.int .i64 rc, .int .i64 rv] 59)).heap.size = W5.heap.size + 1 by simp] at k2
  have bb := ((Grew.refl W5).alloc (.cells #[.int .i64 rc, .int .i64 rv] 59)).alloc (.cells (hcs H' s').toArray 26)
  exact ⟨s', os', _, _, rfl, rfl, (O.below bb.below).mono (Nat.le_trans h0 hV.size), k2, k1.alloc _, bV.trans (bb.below.mono bV.size)⟩
def set8 (w : World) (g : Nat) (H : Hp) (s : HSl) : World := ((((((((w.setCell ⟨g, 0, none⟩ (.int .i64 H.od)).setCell ⟨g, 1, none⟩ (.slice s.A s.n s.c)).setCell ⟨g, 2, none⟩ (.int .i64 H.nx)).setCell ⟨g, 3, none⟩ (.int .i64 (tget H 0))).setCell ⟨g, 4, none⟩ (.int .i64 (tget H 1))).setCell ⟨g, 5, none⟩ (.int .i64 (tget H 2))).setCell ⟨g, 6, none⟩ (.int .i64 (tget H 3))).setCell ⟨g, 7, none⟩ (.slice s.F s.m s.d))
def set2 (w : World) (g : Nat) (rc rv : Int) : World := (w.setCell ⟨g, 0, none⟩ (.int .i64 rc)).setCell ⟨g, 1, none⟩ (.int .i64 rv)
theorem set8_is {w : World} {g : Nat} {H : Hp} {s : HSl} (K : Whole w g 26 zcs) : Whole (set8 w g H s) g 26 (hcs H s) ∧ w.grownBy (set8 w g H s) (some g) :=
  ⟨(((((((K.set 0 _).set 1 _).set 2 _).set 3 _).set 4 _).set 5 _).set 6 _).set 7 _, grown_set8 w g _ _ _ _ _ _ _ _⟩
theorem set2_is {w : World} {g : Nat} {rc rv : Int} (K : Whole w g 59 rcs) : Whole (set2 w g rc rv) g 59 [.int .i64 rc, .int .i64 rv] ∧ w.grownBy (set2 w g rc rv) (some g) :=
  ⟨(K.set 0 _).set 1 _, grown_trans (grown_set _ _ _ _) (grown_set _ _ _ _)⟩
theorem bx_b {p6 : Nat} (h0 : w0 ≤ wr.heap.size) (hV : Below wr.heap.size wr V) (O : OwnHp W5 V.heap.size s' os' H') (b : Below V.heap.size V W5) (K6 : Whole V p6 26 zcs) (h6 : wr.heap.size ≤ p6) :
    BxRel w0 wr H' rc rv (.pointer (some ⟨p6, 0, none⟩)) (.pointer (some ⟨W5.heap.size, 0, none⟩)) ((set8 W5 p6 H' s').alloc (.cells #[.int .i64 rc, .int .i64 rv] 59)) := by
  have bV := hV.trans (b.mono hV.size)
  obtain ⟨k1, g1⟩ := set8_is (H := H') (s := s') (K6.below b)
  have hz : (set8 W5 p6 H' s').heap.size = W5.heap.size := by simp [set8]
  have k2 := Whole.new (set8 W5 p6 H' s') #[.int .i64 rc, .int .i64 rv] 59
  rw [hz] at k2
  have b1 := below_grown bV g1 bV.size h6
  have bb := ((Grew.refl (set8 W5 p6 H' s')).alloc (.cells #[.int .i64 rc, .int .i64 rv] 59)).below
  exact ⟨s', os', _, _, rfl, rfl, ((O.grown g1 K6.lt).below bb).mono (Nat.le_trans h0 hV.size), k1.alloc _, k2, b1.trans (bb.mono b1.size)⟩
theorem bx_c {p7 : Nat} (h0 : w0 ≤ wr.heap.size) (hV : Below wr.heap.size wr V) (O : OwnHp W5 V.heap.size s' os' H') (b : Below V.heap.size V W5) (K7 : Whole V p7 59 rcs) (h7 : wr.heap.size ≤ p7) :
    BxRel w0 wr H' rc rv (.pointer (some ⟨W5.heap.size, 0, none⟩)) (.pointer (some ⟨p7, 0, none⟩)) ((set2 W5 p7 rc rv).alloc (.cells (hcs H' s').toArray 26)) := by
  have bV := hV.trans (b.mono hV.size)
  obtain ⟨k1, g1⟩ := set2_is (rc := rc) (rv := rv) (K7.below b)
  have hz : (set2 W5 p7 rc rv).heap.size = W5.heap.size := by simp [set2]
  have k2 := Whole.new (set2 W5 p7 rc rv) (hcs H' s').toArray 26
  rw [hz] at k2
  have b1 := below_grown bV g1 bV.size h7
  have bb := ((Grew.refl (set2 W5 p7 rc rv)).alloc (.cells (hcs H' s').toArray 26)).below
  exact ⟨s', os', _, _, rfl, rfl, ((O.grown g1 K7.lt).below bb).mono (Nat.le_trans h0 hV.size), k2, k1.alloc _, b1.trans (bb.mono b1.size)⟩
theorem bx_d {p6 p7 : Nat} (h0 : w0 ≤ wr.heap.size) (hV : Below wr.heap.size wr V) (O : OwnHp W5 V.heap.size s' os' H') (b : Below V.heap.size V W5) (K6 : Whole V p6 26 zcs) (h6 : wr.heap.size ≤ p6) (K7 : Whole V p7 59 rcs) (h7 : wr.heap.size ≤ p7) (hne : p6 ≠ p7) :
    BxRel w0 wr H' rc rv (.pointer (some ⟨p6, 0, none⟩)) (.pointer (some ⟨p7, 0, none⟩)) (set2 (set8 W5 p6 H' s') p7 rc rv) := by
  have bV := hV.trans (b.mono hV.size)
  obtain ⟨k1, g1⟩ := set8_is (H := H') (s := s') (K6.below b)
  obtain ⟨k2, g2⟩ := set2_is (rc := rc) (rv := rv) ((K7.below b).grown g1 (fun e => hne e.symm))
  have b1 := below_grown bV g1 bV.size h6
  have b2 := below_grown b1 g2 b1.size h7
  exact ⟨s', os', _, _, rfl, rfl, ((O.grown g1 K6.lt).grown g2 K7.lt).mono (Nat.le_trans h0 hV.size), k1.grown g2 hne, k2, b2⟩
end
/-- Between the rows. -/
def DsRel (w : World) (p pL pW : Nat) (i : Value) (wr : World) : Prop :=
  ∃ (k : Nat) (s : HSl) (os : List (Ob × OSl)), k ≤ 14 ∧ i = .int .i64 (k : Int) ∧ OwnHp wr w.heap.size s os (st k) ∧ Whole wr p 26 (hcs (st k) s) ∧ Whole wr pL 50 opsL ∧ Whole wr pW 59 wantsL ∧ Below w.heap.size w wr
theorem set8_any {w : World} {g : Nat} {H : Hp} {s : HSl} {a0 a1 a2 a3 a4 a5 a6 a7 : Value} (K : Whole w g 26 [a0, a1, a2, a3, a4, a5, a6, a7]) : Whole (set8 w g H s) g 26 (hcs H s) ∧ w.grownBy (set8 w g H s) (some g) :=
  ⟨(((((((K.set 0 _).set 1 _).set 2 _).set 3 _).set 4 _).set 5 _).set 6 _).set 7 _, grown_set8 w g _ _ _ _ _ _ _ _⟩
theorem ds_step {w wc : World} {p pL pW k : Nat} {s' : HSl} {os' : List (Ob × OSl)} {a0 a1 a2 a3 a4 a5 a6 a7 : Value} (O' : OwnHp wc w.heap.size s' os' (st (k + 1))) (KP : Whole wc p 26 [a0, a1, a2, a3, a4, a5, a6, a7]) (KL : Whole wc pL 50 opsL) (KW : Whole wc pW 59 wantsL) (BW : Below w.heap.size w wc) (hpl : w.heap.size ≤ p) (hk : k < 14) :
    DsRel w p pL pW (.int .i64 ((k + 1 : Nat) : Int)) (set8 wc p (st (k + 1)) s') := by
  obtain ⟨k1, gs⟩ := set8_any (H := st (k + 1)) (s := s') KP
  exact ⟨k + 1, s', os', by omega, rfl, O'.other KP gs, k1, KL.grown gs (KL.ne KP (by decide)), KW.grown gs (KW.ne KP (by decide)), below_grown BW gs BW.size hpl⟩
theorem Whole.two' {w : World} {g : Nat} {t : TypeId} {a0 a1 : Value} (h : Whole w g t [a0, a1]) : w.cell? ⟨g, 0, none⟩ = some a0 ∧ w.cell? ⟨g, 1, none⟩ = some a1 := ⟨h.cell 0, h.cell 1⟩
end Go.Proofs.YtlnmmklpccppmaaGreatDoor
