/-
  The document's rows of operations on a heap: what each makes; the law's walk through them.
-/
import Derived.Test.YtkbggbgnnllmjaaGreatDoorMg27
import Derived.Test.YtkbggbgnnllmjaaGreatDoorMg21
namespace Go.Proofs.YtkbggbgnnllmjaaGreatDoor
open Go.RowKit

theorem took_a : Took [(0, 3)] 2 (0, 2) [(4, 2)] := by
  refine ⟨(0, 3), by simp, by decide, fun c hc _ => ?_, rfl, List.pairwise_singleton _ _, fun c => ?_⟩
  · rw [List.mem_singleton.1 hc]; exact Lq.refl _
  · unfold IsHalf
    simp only [List.mem_singleton]
    constructor
    · rintro rfl
      exact .inr ⟨by decide, by decide, by decide⟩
    · rintro (⟨h1, h2⟩ | ⟨h1, h2, h3⟩)
      · exact absurd h1 h2
      · have h1' : (2 : Int) ≤ c.2 := h1
        have h2' : c.2 < 3 := h2
        have : c.2 = 2 := by omega
        rw [this] at h3
        exact Prod.ext h3 this
theorem took_b : Took [(4, 2)] 2 (4, 2) [] := by
  refine ⟨(4, 2), by simp, by decide, fun c hc _ => ?_, rfl, List.Pairwise.nil, fun c => ?_⟩
  · rw [List.mem_singleton.1 hc]; exact Lq.refl _
  · unfold IsHalf
    simp only [List.mem_singleton, List.not_mem_nil, false_iff]
    rintro (⟨h1, h2⟩ | ⟨h1, h2, h3⟩)
    · exact absurd h1 h2
    · have h1' : (2 : Int) ≤ c.2 := h1
      have h2' : c.2 < 2 := h2
      omega
theorem gave_a : Gave 3 [] (4, 2) [(4, 2)] := ⟨by decide, fun x => by simp [Cov]⟩
def ob1 : Ob := ⟨1, (0, 2), [0, 0], [0]⟩
def ob1w : Ob := ⟨1, (0, 2), [0, 7], [0]⟩
def ob1l : Ob := ⟨1, (0, 2), [0, 7], [2]⟩
def ob2 : Ob := ⟨2, (4, 2), [0, 0, 0], []⟩
def ob3 : Ob := ⟨3, (4, 2), [0, 0, 0], []⟩
def st : Nat → Hp
  | 0 => newH 3
  | 1 => ⟨3, [ob1], 2, [0, 0, 0, 0], [(4, 2)]⟩
  | 2 => ⟨3, [ob1, ob2], 3, [0, 0, 0, 0], []⟩
  | 3 => ⟨3, [ob1, ob2], 3, [0, 0, 0, 0], []⟩
  | 4 => ⟨3, [ob1w, ob2], 3, [0, 0, 0, 0], []⟩
  | 5 => ⟨3, [ob1w, ob2], 3, [0, 0, 0, 0], []⟩
  | 6 => ⟨3, [ob1w, ob2], 3, [0, 0, 0, 0], []⟩
  | 7 => ⟨3, [ob1w, ob2], 3, [0, 0, 0, 0], []⟩
  | 8 => ⟨3, [ob1l, ob2], 3, [0, 0, 0, 0], []⟩
  | 9 => ⟨3, [ob1l, ob2], 3, [2, 0, 0, 0], []⟩
  | 10 => ⟨3, [ob1w], 3, [0, 0, 0, 0], [(4, 2)]⟩
  | 11 => ⟨3, [ob1w], 3, [0, 0, 0, 0], [(4, 2)]⟩
  | 12 => ⟨3, [ob1w], 3, [0, 0, 0, 0], [(4, 2)]⟩
  | 13 => ⟨3, [ob1w], 3, [0, 0, 0, 0], [(4, 2)]⟩
  | _ => ⟨3, [ob1w, ob3], 4, [0, 0, 0, 0], []⟩
def opAt : Nat → Opn
  | 0 => ⟨1, 0, 0, 2, 1, 0, 0⟩
  | 1 => ⟨1, 0, 0, 3, 0, 0, 0⟩
  | 2 => ⟨1, 0, 0, 0, 0, 0, 0⟩
  | 3 => ⟨3, 1, 1, 0, 0, 7, 0⟩
  | 4 => ⟨6, 1, 1, 0, 0, 0, 0⟩
  | 5 => ⟨6, 1, 2, 0, 0, 0, 0⟩
  | 6 => ⟨6, 3, 0, 0, 0, 0, 0⟩
  | 7 => ⟨4, 1, 0, 0, 0, 0, 2⟩
  | 8 => ⟨5, 0, 0, 0, 0, 0, 2⟩
  | 9 => ⟨2, 2, 0, 0, 0, 0, 0⟩
  | 10 => ⟨7, 1, 0, 0, 0, 0, 0⟩
  | 11 => ⟨8, 0, 0, 0, 0, 0, 0⟩
  | 12 => ⟨1, 0, 0, 33, 0, 0, 0⟩
  | _ => ⟨1, 0, 0, 3, 0, 0, 0⟩
def wantAt : Nat → Int × Int
  | 0 => (0, 1)
  | 1 => (0, 2)
  | 2 => (50, 0)
  | 3 => (0, 0)
  | 4 => (0, 7)
  | 5 => (52, 0)
  | 6 => (51, 0)
  | 12 => (53, 0)
  | 13 => (0, 3)
  | _ => (0, 0)
theorem alloc_gives {h : Hp} {n kk N : Int} {b : Blk} {m : List Blk} (hN : needI n kk = N) (h0 : 0 ≤ N) (hx : h.nx ≤ 1000000) (hr : roomB h.fr N = true) (ht : Took h.fr N b m) : allocH h n kk = ({ h with obs := h.obs ++ [⟨h.nx, b, List.replicate n.toNat 0, List.replicate kk.toNat 0⟩], nx := h.nx + 1, fr := m }, 0, h.nx) := by
  unfold allocH
  rw [hN, if_neg (by omega), if_neg (by omega), hr, if_neg (by simp), takeF_eq ht]
theorem st_step : ∀ k, k < 14 → doneH (st k) (opAt k) = (st (k + 1), wantAt k)
  | 0, _ => by rw [doneH_alloc rfl]; exact alloc_gives (N := 2) (by decide) (by decide) (by decide) (by decide) took_a
  | 1, _ => by rw [doneH_alloc rfl]; exact alloc_gives (N := 2) (by decide) (by decide) (by decide) (by decide) took_b
  | 2, _ => by rw [doneH_alloc rfl]; unfold allocH; rw [if_neg (by decide), if_neg (by decide), if_pos (by decide)]; rfl
  | 3, _ => by rw [doneH_obj (by decide)]; rfl
  | 4, _ => by rw [doneH_read rfl]; rfl
  | 5, _ => by rw [doneH_read rfl]; rfl
  | 6, _ => by rw [doneH_read rfl]; rfl
  | 7, _ => by rw [doneH_obj (by decide)]; rfl
  | 8, _ => by rw [doneH_tops (by decide)]; rfl
  | 9, _ => by
    rw [doneH_obj (by decide)]
    show objH (st 9) (opAt 9) 1 ob2 = _
    unfold objH
    rw [if_pos (show (opAt 9).k = 2 from rfl)]
    unfold freeH
    rw [show giveF (st 9).od (st 9).fr ob2.bl = [(4, 2)] from giveF_eq gave_a]
    rfl
  | 10, _ => by rw [doneH_follow rfl]; rfl
  | 11, _ => by rw [doneH_top rfl]; rfl
  | 12, _ => by rw [doneH_alloc rfl]; unfold allocH; rw [if_pos (by decide)]; rfl
  | 13, _ => by rw [doneH_alloc rfl]; exact alloc_gives (N := 2) (by decide) (by decide) (by decide) (by decide) took_b
  | n + 14, h => by omega
theorem st_right : ∀ k, k ≤ 14 → RightH (st k)
  | 0, _ => right_newH (by omega)
  | k + 1, h => by
    have h1 := (doneH_right (st_right k (by omega)) (opAt k)).1
    rw [st_step k (by omega)] at h1
    exact h1
theorem st_small : ∀ k, k ≤ 14 → SmallH (st k) := fun k h => by
  rcases (by omega : k = 0 ∨ k = 1 ∨ k = 2 ∨ k = 3 ∨ k = 4 ∨ k = 5 ∨ k = 6 ∨ k = 7 ∨ k = 8 ∨ k = 9 ∨ k = 10 ∨ k = 11 ∨ k = 12 ∨ k = 13 ∨ k = 14) with e | e | e | e | e | e | e | e | e | e | e | e | e | e | e <;> subst e <;> exact ⟨by decide, by decide, by decide⟩
def opsL : List Value := [.int .i64 1, .int .i64 0, .int .i64 0, .int .i64 2, .int .i64 1, .int .i64 0, .int .i64 0, .int .i64 1, .int .i64 0, .int .i64 0, .int .i64 3, .int .i64 0, .int .i64 0, .int .i64 0, .int .i64 1, .int .i64 0, .int .i64 0, .int .i64 0, .int .i64 0, .int .i64 0, .int .i64 0, .int .i64 3, .int .i64 1, .int .i64 1, .int .i64 0, .int .i64 0, .int .i64 7, .int .i64 0, .int .i64 6, .int .i64 1, .int .i64 1, .int .i64 0, .int .i64 0, .int .i64 0, .int .i64 0, .int .i64 6, .int .i64 1, .int .i64 2, .int .i64 0, .int .i64 0, .int .i64 0, .int .i64 0, .int .i64 6, .int .i64 3, .int .i64 0, .int .i64 0, .int .i64 0, .int .i64 0, .int .i64 0, .int .i64 4, .int .i64 1, .int .i64 0, .int .i64 0, .int .i64 0, .int .i64 0, .int .i64 2, .int .i64 5, .int .i64 0, .int .i64 0, .int .i64 0, .int .i64 0, .int .i64 0, .int .i64 2, .int .i64 2, .int .i64 2, .int .i64 0, .int .i64 0, .int .i64 0, .int .i64 0, .int .i64 0, .int .i64 7, .int .i64 1, .int .i64 0, .int .i64 0, .int .i64 0, .int .i64 0, .int .i64 0, .int .i64 8, .int .i64 0, .int .i64 0, .int .i64 0, .int .i64 0, .int .i64 0, .int .i64 0, .int .i64 1, .int .i64 0, .int .i64 0, .int .i64 33, .int .i64 0, .int .i64 0, .int .i64 0, .int .i64 1, .int .i64 0, .int .i64 0, .int .i64 3, .int .i64 0, .int .i64 0, .int .i64 0]
def wantsL : List Value := [.int .i64 0, .int .i64 1, .int .i64 0, .int .i64 2, .int .i64 50, .int .i64 0, .int .i64 0, .int .i64 0, .int .i64 0, .int .i64 7, .int .i64 52, .int .i64 0, .int .i64 51, .int .i64 0, .int .i64 0, .int .i64 0, .int .i64 0, .int .i64 0, .int .i64 0, .int .i64 0, .int .i64 0, .int .i64 0, .int .i64 0, .int .i64 0, .int .i64 53, .int .i64 0, .int .i64 0, .int .i64 3]
theorem ops_at : ∀ k, k < 14 → ∀ j u, (opcs (opAt k))[j]? = some u → opsL[k * 7 + j]? = some u := by
  intro k hk j u hu
  have hj : j < 7 := (List.getElem?_eq_some_iff.1 hu).1
  rcases (by omega : k = 0 ∨ k = 1 ∨ k = 2 ∨ k = 3 ∨ k = 4 ∨ k = 5 ∨ k = 6 ∨ k = 7 ∨ k = 8 ∨ k = 9 ∨ k = 10 ∨ k = 11 ∨ k = 12 ∨ k = 13) with e | e | e | e | e | e | e | e | e | e | e | e | e | e <;> subst e <;>
    (rcases (by omega : j = 0 ∨ j = 1 ∨ j = 2 ∨ j = 3 ∨ j = 4 ∨ j = 5 ∨ j = 6) with e | e | e | e | e | e | e <;> subst e <;> exact hu)
theorem wants_at : ∀ k, k < 14 → wantsL[k * 2]? = some (.int .i64 (wantAt k).1) ∧ wantsL[k * 2 + 1]? = some (.int .i64 (wantAt k).2) := by
  intro k hk
  rcases (by omega : k = 0 ∨ k = 1 ∨ k = 2 ∨ k = 3 ∨ k = 4 ∨ k = 5 ∨ k = 6 ∨ k = 7 ∨ k = 8 ∨ k = 9 ∨ k = 10 ∨ k = 11 ∨ k = 12 ∨ k = 13) with e | e | e | e | e | e | e | e | e | e | e | e | e | e <;> subst e <;> exact ⟨rfl, rfl⟩
theorem results_op {fn : Func} {p : Tmp} (h : fn.results = #[.cell p 29]) (tmps : Array Value) (w : World) (kp : Nat) (hp : tmps.getD p undef = .pointer (some ⟨kp, 0, none⟩)) {a0 a1 a2 a3 a4 a5 a6 : Value} (K : Whole w kp 29 [a0, a1, a2, a3, a4, a5, a6]) :
    (results fn tmps).run Tryz.prog w = .ok (.agg #[a0, a1, a2, a3, a4, a5, a6]) w := by
  have u1 := Tryz.underlying29
  have z1 := Tryz.sizeOf29
  have i1 := Tryz.isAgg29
  have hp' : tmps[p]?.getD undef = .pointer (some ⟨kp, 0, none⟩) := by simpa using hp
  obtain ⟨c0, c1, c2, c3, c4, c5, c6⟩ := K.seven
  simp only [results, h]
  simp [hp', asAddr, loadVar]
  go_simp
set_option maxHeartbeats 1000000 in
theorem lawAlloc_any (a b : Int) (w : World) : Calls Tryz.prog 20 #[.int .i64 a, .int .i64 b] w fun e w' => e = .returned (opv ⟨1, 0, 0, a, b, 0, 0⟩) ∧ Grew w w' := by
  have K := Lib.hid (Whole.new w #[.int .i64 1, .int .i64 0, .int .i64 0, .int .i64 a, .int .i64 b, .int .i64 0, .int .i64 0] 29)
  go_enter Tryz.func20, Tryz.ntmps20
  go_wp2_with fail
  refine bodyPost_ret (results_op rfl _ _ w.heap.size rfl K.out) rfl ?_
  exact ⟨rfl, (Grew.refl w).alloc _⟩
theorem OwnHp.other {w w' : World} {base p : Nat} {s : HSl} {os : List (Ob × OSl)} {H : Hp} {cs : List Value} (h : OwnHp w base s os H) (K : Whole w p 26 cs) (hg : w.grownBy w' (some p)) : OwnHp w' base s os H := by
  have hI : ∀ k ∈ blocksOf os, some k ≠ some p := fun k hk e => by
    injection e with e
    subst e
    obtain ⟨q, hq, e2⟩ := mem_blocks.1 hk
    have : ∃ c2, w.heap[k]? = some (.cells c2 3 (0, 0)) := by
      rcases e2 with e2 | e2
      · exact row_type (h.objs.ints q hq).1 e2
      · exact row_type (h.objs.ints q hq).2 e2
    obtain ⟨c2, h2⟩ := this
    exact absurd (heap_types K h2) (by decide)
  exact ⟨h.objs.grown hg (fun k hk e => by
      injection e with e
      subst e
      obtain ⟨c1, h1⟩ := row_type h.objs.row hk
      exact absurd (heap_types K h1) (by decide)) hI, h.obs, h.free.grown hg (fun k hk e => by
      injection e with e
      subst e
      obtain ⟨c1, h1⟩ := row_type h.free hk
      exact absurd (heap_types K h1) (by decide)), h.tp, h.nx⟩
theorem run_neq_res (x o y p : Int) (W : World) : (binOp .neq 34 (.agg #[.int .i64 x, .int .i64 o]) (.agg #[.int .i64 y, .int .i64 p])).run Tryz.prog W = .ok (.bool (!sameB (x, o) (y, p))) W := by
  have u3 := Tryz.underlying3
  have a3 := Tryz.isAgg3
  have z3 := Tryz.sizeOf3
  have u4 := Tryz.underlying32
  have a4 := Tryz.isAgg32
  have z4 := Tryz.sizeOf32
  have hS : Tryz.prog.underlying 34 = some (.struct (Tryz.prog.fieldsOf 34)) := by kernel_rfl
  have hp : Tryz.prog.stoodInHeld 34 = false := by kernel_rfl
  rw [run_neq_struct, show (10000 : Nat) = 9999 + 1 from rfl, run_equalIn_agg W 9999 34 _ _ hS hp]
  simp only [Program.fieldsOf, Tryz.underlying34]
  unfold sameB
  go_simp
  by_cases h1 : x = y <;> by_cases h2 : o = p <;> simp [h1, h2]
/-- A heap and what was told in boxes of their own. -/
def BxRel (w0 : Nat) (wr : World) (H' : Hp) (rc rv : Int) (v6 v7 : Value) (wc : World) : Prop :=
  ∃ s' os' p6 p7, v6 = .pointer (some ⟨p6, 0, none⟩) ∧ v7 = .pointer (some ⟨p7, 0, none⟩) ∧ OwnHp wc w0 s' os' H' ∧ Whole wc p6 26 (hcs H' s') ∧ Whole wc p7 34 [.int .i64 rc, .int .i64 rv] ∧ Below wr.heap.size wr wc
section
variable {w0 : Nat} {wr V W5 : World} {s' : HSl} {os' : List (Ob × OSl)} {H' : Hp} {rc rv : Int}
theorem bx_a1 (h0 : w0 ≤ wr.heap.size) (hV : Below wr.heap.size wr V) (O : OwnHp W5 V.heap.size s' os' H') (b : Below V.heap.size V W5) :
    BxRel w0 wr H' rc rv (.pointer (some ⟨W5.heap.size, 0, none⟩)) (.pointer (some ⟨W5.heap.size + 1, 0, none⟩)) ((W5.alloc (.cells (hcs H' s').toArray 26)).alloc (.cells #[.int .i64 rc, .int .i64 rv] 34)) := by
  have bV := hV.trans (b.mono hV.size)
  have k1 := Whole.new W5 (hcs H' s').toArray 26
  have k2 := Whole.new (W5.alloc (.cells (hcs H' s').toArray 26)) #[.int .i64 rc, .int .i64 rv] 34
  rw [show (W5.alloc (.cells (hcs H' s').toArray 26)).heap.size = W5.heap.size + 1 by simp] at k2
  have bb := ((Grew.refl W5).alloc (.cells (hcs H' s').toArray 26)).alloc (.cells #[.int .i64 rc, .int .i64 rv] 34)
  exact ⟨s', os', _, _, rfl, rfl, (O.below bb.below).mono (Nat.le_trans h0 hV.size), k1.alloc _, k2, bV.trans (bb.below.mono bV.size)⟩
theorem bx_a2 (h0 : w0 ≤ wr.heap.size) (hV : Below wr.heap.size wr V) (O : OwnHp W5 V.heap.size s' os' H') (b : Below V.heap.size V W5) :
    BxRel w0 wr H' rc rv (.pointer (some ⟨W5.heap.size + 1, 0, none⟩)) (.pointer (some ⟨W5.heap.size, 0, none⟩)) ((W5.alloc (.cells #[.int .i64 rc, .int .i64 rv] 34)).alloc (.cells (hcs H' s').toArray 26)) := by
  have bV := hV.trans (b.mono hV.size)
  have k1 := Whole.new W5 #[.int .i64 rc, .int .i64 rv] 34
  have k2 := Whole.new (W5.alloc (.cells #[.int .i64 rc, .int .i64 rv] 34)) (hcs H' s').toArray 26
  rw [show (W5.alloc (.cells #[.int .i64 rc, .int .i64 rv] 34)).heap.size = W5.heap.size + 1 by simp] at k2
  have bb := ((Grew.refl W5).alloc (.cells #[.int .i64 rc, .int .i64 rv] 34)).alloc (.cells (hcs H' s').toArray 26)
  exact ⟨s', os', _, _, rfl, rfl, (O.below bb.below).mono (Nat.le_trans h0 hV.size), k2, k1.alloc _, bV.trans (bb.below.mono bV.size)⟩
def set8 (w : World) (g : Nat) (H : Hp) (s : HSl) : World := ((((((((w.setCell ⟨g, 0, none⟩ (.int .i64 H.od)).setCell ⟨g, 1, none⟩ (.slice s.A s.n s.c)).setCell ⟨g, 2, none⟩ (.int .i64 H.nx)).setCell ⟨g, 3, none⟩ (.int .i64 (tget H 0))).setCell ⟨g, 4, none⟩ (.int .i64 (tget H 1))).setCell ⟨g, 5, none⟩ (.int .i64 (tget H 2))).setCell ⟨g, 6, none⟩ (.int .i64 (tget H 3))).setCell ⟨g, 7, none⟩ (.slice s.F s.m s.d))
def set2 (w : World) (g : Nat) (rc rv : Int) : World := (w.setCell ⟨g, 0, none⟩ (.int .i64 rc)).setCell ⟨g, 1, none⟩ (.int .i64 rv)
theorem set8_is {w : World} {g : Nat} {H : Hp} {s : HSl} (K : Whole w g 26 zcs) : Whole (set8 w g H s) g 26 (hcs H s) ∧ w.grownBy (set8 w g H s) (some g) :=
  ⟨(((((((K.set 0 _).set 1 _).set 2 _).set 3 _).set 4 _).set 5 _).set 6 _).set 7 _, grown_set8 w g _ _ _ _ _ _ _ _⟩
theorem set2_is {w : World} {g : Nat} {rc rv : Int} (K : Whole w g 34 rcs) : Whole (set2 w g rc rv) g 34 [.int .i64 rc, .int .i64 rv] ∧ w.grownBy (set2 w g rc rv) (some g) :=
  ⟨(K.set 0 _).set 1 _, grown_trans (grown_set _ _ _ _) (grown_set _ _ _ _)⟩
theorem bx_b {p6 : Nat} (h0 : w0 ≤ wr.heap.size) (hV : Below wr.heap.size wr V) (O : OwnHp W5 V.heap.size s' os' H') (b : Below V.heap.size V W5) (K6 : Whole V p6 26 zcs) (h6 : wr.heap.size ≤ p6) :
    BxRel w0 wr H' rc rv (.pointer (some ⟨p6, 0, none⟩)) (.pointer (some ⟨W5.heap.size, 0, none⟩)) ((set8 W5 p6 H' s').alloc (.cells #[.int .i64 rc, .int .i64 rv] 34)) := by
  have bV := hV.trans (b.mono hV.size)
  obtain ⟨k1, g1⟩ := set8_is (H := H') (s := s') (K6.below b)
  have hz : (set8 W5 p6 H' s').heap.size = W5.heap.size := by simp [set8]
  have k2 := Whole.new (set8 W5 p6 H' s') #[.int .i64 rc, .int .i64 rv] 34
  rw [hz] at k2
  have b1 := below_grown bV g1 bV.size h6
  have bb := ((Grew.refl (set8 W5 p6 H' s')).alloc (.cells #[.int .i64 rc, .int .i64 rv] 34)).below
  exact ⟨s', os', _, _, rfl, rfl, ((O.grown g1 K6.lt).below bb).mono (Nat.le_trans h0 hV.size), k1.alloc _, k2, b1.trans (bb.mono b1.size)⟩
theorem bx_c {p7 : Nat} (h0 : w0 ≤ wr.heap.size) (hV : Below wr.heap.size wr V) (O : OwnHp W5 V.heap.size s' os' H') (b : Below V.heap.size V W5) (K7 : Whole V p7 34 rcs) (h7 : wr.heap.size ≤ p7) :
    BxRel w0 wr H' rc rv (.pointer (some ⟨W5.heap.size, 0, none⟩)) (.pointer (some ⟨p7, 0, none⟩)) ((set2 W5 p7 rc rv).alloc (.cells (hcs H' s').toArray 26)) := by
  have bV := hV.trans (b.mono hV.size)
  obtain ⟨k1, g1⟩ := set2_is (rc := rc) (rv := rv) (K7.below b)
  have hz : (set2 W5 p7 rc rv).heap.size = W5.heap.size := by simp [set2]
  have k2 := Whole.new (set2 W5 p7 rc rv) (hcs H' s').toArray 26
  rw [hz] at k2
  have b1 := below_grown bV g1 bV.size h7
  have bb := ((Grew.refl (set2 W5 p7 rc rv)).alloc (.cells (hcs H' s').toArray 26)).below
  exact ⟨s', os', _, _, rfl, rfl, ((O.grown g1 K7.lt).below bb).mono (Nat.le_trans h0 hV.size), k2, k1.alloc _, b1.trans (bb.mono b1.size)⟩
theorem bx_d {p6 p7 : Nat} (h0 : w0 ≤ wr.heap.size) (hV : Below wr.heap.size wr V) (O : OwnHp W5 V.heap.size s' os' H') (b : Below V.heap.size V W5) (K6 : Whole V p6 26 zcs) (h6 : wr.heap.size ≤ p6) (K7 : Whole V p7 34 rcs) (h7 : wr.heap.size ≤ p7) (hne : p6 ≠ p7) :
    BxRel w0 wr H' rc rv (.pointer (some ⟨p6, 0, none⟩)) (.pointer (some ⟨p7, 0, none⟩)) (set2 (set8 W5 p6 H' s') p7 rc rv) := by
  have bV := hV.trans (b.mono hV.size)
  obtain ⟨k1, g1⟩ := set8_is (H := H') (s := s') (K6.below b)
  obtain ⟨k2, g2⟩ := set2_is (rc := rc) (rv := rv) ((K7.below b).grown g1 (fun e => hne e.symm))
  have b1 := below_grown bV g1 bV.size h6
  have b2 := below_grown b1 g2 b1.size h7
  exact ⟨s', os', _, _, rfl, rfl, ((O.grown g1 K6.lt).grown g2 K7.lt).mono (Nat.le_trans h0 hV.size), k1.grown g2 hne, k2, b2⟩
end
/-- Between the rows. -/
def DsRel (w : World) (p pL pW : Nat) (i : Value) (wr : World) : Prop :=
  ∃ (k : Nat) (s : HSl) (os : List (Ob × OSl)), k ≤ 14 ∧ i = .int .i64 (k : Int) ∧ OwnHp wr w.heap.size s os (st k) ∧ Whole wr p 26 (hcs (st k) s) ∧ Whole wr pL 29 opsL ∧ Whole wr pW 34 wantsL ∧ Below w.heap.size w wr
theorem set8_any {w : World} {g : Nat} {H : Hp} {s : HSl} {a0 a1 a2 a3 a4 a5 a6 a7 : Value} (K : Whole w g 26 [a0, a1, a2, a3, a4, a5, a6, a7]) : Whole (set8 w g H s) g 26 (hcs H s) ∧ w.grownBy (set8 w g H s) (some g) :=
  ⟨(((((((K.set 0 _).set 1 _).set 2 _).set 3 _).set 4 _).set 5 _).set 6 _).set 7 _, grown_set8 w g _ _ _ _ _ _ _ _⟩
theorem ds_step {w wc : World} {p pL pW k : Nat} {s' : HSl} {os' : List (Ob × OSl)} {a0 a1 a2 a3 a4 a5 a6 a7 : Value} (O' : OwnHp wc w.heap.size s' os' (st (k + 1))) (KP : Whole wc p 26 [a0, a1, a2, a3, a4, a5, a6, a7]) (KL : Whole wc pL 29 opsL) (KW : Whole wc pW 34 wantsL) (BW : Below w.heap.size w wc) (hpl : w.heap.size ≤ p) (hk : k < 14) :
    DsRel w p pL pW (.int .i64 ((k + 1 : Nat) : Int)) (set8 wc p (st (k + 1)) s') := by
  obtain ⟨k1, gs⟩ := set8_any (H := st (k + 1)) (s := s') KP
  exact ⟨k + 1, s', os', by omega, rfl, O'.other KP gs, k1, KL.grown gs (KL.ne KP (by decide)), KW.grown gs (KW.ne KP (by decide)), below_grown BW gs BW.size hpl⟩
theorem Whole.two' {w : World} {g : Nat} {t : TypeId} {a0 a1 : Value} (h : Whole w g t [a0, a1]) : w.cell? ⟨g, 0, none⟩ = some a0 ∧ w.cell? ⟨g, 1, none⟩ = some a1 := ⟨h.cell 0, h.cell 1⟩
set_option maxRecDepth 100000 in
set_option maxHeartbeats 40000000 in
theorem does_any (w : World) (hT : Tab w) : Calls Tryz.prog 17 #[] w (Tells w (.bool true)) := by
  have HT := Lib.hid hT
  clear hT
  have LA := lawAlloc_any
  unfold opv opcs at LA
  simp only at LA
  go_enter Tryz.func17, Tryz.ntmps17
  go_upto_region 2 with (go_at_call 25; refine (new3 _).mono ?_; rintro e w1 ⟨A, n, c, F, d, rfl, o1, b1⟩)
  obtain ⟨p, W, hW, hp, K, bw⟩ := box_heap w1 (.int .i64 3) (.slice A n c) (.int .i64 1) (.int .i64 0) (.int .i64 0) (.int .i64 0) (.int .i64 0) (.slice F 1 d)
  rw [hW, ← hp]
  have R0 := Lib.hid (o1.below bw)
  have K0 := Lib.hid K
  have B0 := Lib.hid (b1.trans (bw.mono b1.size))
  have hpl := Lib.hid (show w.heap.size ≤ p by rw [hp]; exact b1.size)
  clear hW hp K bw o1 b1
  go_upto_region 3 with (go_at_call 20; refine (LA _ _ _).mono ?_; rintro e w2 ⟨rfl, g2⟩)
  rename_i wa ga wb gb wc gc wd gd kq aq
  have G2 := Lib.hid ((((ga.trans gb).trans gc).trans gd).trans g2)
  have KL := Whole.new w2 opsL.toArray 29
  have gL := (Grew.refl w2).alloc (.cells opsL.toArray 29)
  obtain ⟨pL, hpL⟩ : ∃ pL, pL = w2.heap.size := ⟨_, rfl⟩
  unfold opsL at KL gL
  rw [← hpL] at KL ⊢
  generalize w2.alloc (.cells _ 29) = W3 at KL gL ⊢
  have KLH := Lib.hid (show Whole W3 pL 29 opsL from KL)
  have G3 := Lib.hid (G2.out.trans gL)
  clear KL gL hpL ga gb gc gd g2 G2 LA
  go_upto_region 4 with (fail)
  have KV := Whole.new W3 wantsL.toArray 34
  have gV := (Grew.refl W3).alloc (.cells wantsL.toArray 34)
  obtain ⟨pW, hpW⟩ : ∃ pW, pW = W3.heap.size := ⟨_, rfl⟩
  unfold wantsL at KV gV
  rw [← hpW] at KV ⊢
  generalize W3.alloc (.cells _ 34) = W4 at KV gV ⊢
  have KVH := Lib.hid (show Whole W4 pW 34 wantsL from KV)
  have HR := Lib.hid (show DsRel w p pL pW (.int .i64 0) W4 from ⟨0, _, [], by omega, rfl, (R0.out.mono (Nat.le_refl _)).below (G3.out.trans gV).below, (K0.out.below (G3.out.trans gV).below), KLH.out.below gV.below, KVH.out, B0.out.trans ((G3.out.trans gV).below.mono B0.out.size)⟩)
  clear KV gV hpW KVH KLH G3 R0 K0 B0
  go_upto_region 5 with (fail)
  go_loopw [5] (DsRel w p pL pW) (fun i _ => 14 - (intOf i).toNat)
  case atStart => exact HR.out
  case round =>
    clear HR
    obtain ⟨k, s, os, hk, rfl, O, KP, KL, KW, BW⟩ := hrel
    by_cases hlt : k < 14
    · obtain ⟨z0, z1, z2, z3, z4, z5, z6⟩ : _ ∧ _ ∧ _ ∧ _ ∧ _ ∧ _ ∧ _ := ⟨(KL.cell (k * 7)).trans (by simpa using ops_at k hlt 0 _ rfl), (KL.cell (k * 7 + 1)).trans (ops_at k hlt 1 _ rfl), (KL.cell (k * 7 + 2)).trans (ops_at k hlt 2 _ rfl), (KL.cell (k * 7 + 3)).trans (ops_at k hlt 3 _ rfl), (KL.cell (k * 7 + 4)).trans (ops_at k hlt 4 _ rfl), (KL.cell (k * 7 + 5)).trans (ops_at k hlt 5 _ rfl), (KL.cell (k * 7 + 6)).trans (ops_at k hlt 6 _ rfl)⟩
      have S := Lib.hid fun (W' : World) (b : Below wr.heap.size wr W') => (by
        have h1 := do_heap s (st k) (opAt k) W' (O.rd.below b) (st_small k (by omega)) (HT.out.below (BW.trans (b.mono BW.size)))
        rw [doH_right (st_right k (by omega)), st_step k hlt] at h1
        exact h1 : Calls Tryz.prog 13 #[hval (st k) s, opv (opAt k)] W' (InPost W' W'.heap.size (st (k + 1), wantAt k)))
      obtain ⟨v0, v1⟩ := wants_at k hlt
      have y0 := (KW.cell (k * 2)).trans v0
      have y1 := (KW.cell (k * 2 + 1)).trans v1
      have Y := Lib.hid (And.intro y0 y1)
      obtain ⟨A5, n5, c5, F5, m5, d5⟩ := s
      generalize opAt k = o at z0 z1 z2 z3 z4 z5 z6 S
      obtain ⟨ok, oh, oi, on, okk, ov, ot⟩ := o
      obtain ⟨H', hH'⟩ : ∃ H', H' = st (k + 1) := ⟨_, rfl⟩
      rw [← hH'] at S
      have HH' := Lib.hid hH'
      generalize wantAt k = wt at S Y
      obtain ⟨rc, rv⟩ := wt
      have hki : (k : Int) < 14 := by omega
      generalize st k = H at O KP S
      simp only [hval, hcs, opv, opcs] at S KP z0 z1 z2 z3 z4 z5 z6
      obtain ⟨c0, c1, c2, c3, c4, c5', c6, c7⟩ := KP.eight
      have HO := Lib.hid O
      have HKP := Lib.hid KP
      have HKL := Lib.hid KL
      have HKW := Lib.hid KW
      have HBW := Lib.hid BW
      have mixed := mixedP
      clear O KP KL KW BW hH' v0 v1 y0 y1 hk
      have mkS := Lib.hid fun (W : World) (bl : Below wr.heap.size wr W) => (by
        obtain ⟨e0, e1, e2, e3, e4, e5, e6, e7⟩ := (HKP.out.below bl).eight
        exact ⟨e0, e1, e2, e3, e4, e5, e6, e7, (bl.cell (p := ⟨pL, k * 7, none⟩) HKL.out.lt).trans z0, (bl.cell (p := ⟨pL, k * 7 + 1, none⟩) HKL.out.lt).trans z1, (bl.cell (p := ⟨pL, k * 7 + 2, none⟩) HKL.out.lt).trans z2, (bl.cell (p := ⟨pL, k * 7 + 3, none⟩) HKL.out.lt).trans z3, (bl.cell (p := ⟨pL, k * 7 + 4, none⟩) HKL.out.lt).trans z4, (bl.cell (p := ⟨pL, k * 7 + 5, none⟩) HKL.out.lt).trans z5, (bl.cell (p := ⟨pL, k * 7 + 6, none⟩) HKL.out.lt).trans z6⟩ : W.cell? ⟨p, 0, none⟩ = some (.int .i64 H.od) ∧ W.cell? ⟨p, 1, none⟩ = some (.slice A5 n5 c5) ∧ W.cell? ⟨p, 2, none⟩ = some (.int .i64 H.nx) ∧ W.cell? ⟨p, 3, none⟩ = some (.int .i64 (tget H 0)) ∧ W.cell? ⟨p, 4, none⟩ = some (.int .i64 (tget H 1)) ∧ W.cell? ⟨p, 5, none⟩ = some (.int .i64 (tget H 2)) ∧ W.cell? ⟨p, 6, none⟩ = some (.int .i64 (tget H 3)) ∧ W.cell? ⟨p, 7, none⟩ = some (.slice F5 m5 d5) ∧ W.cell? ⟨pL, k * 7, none⟩ = some (.int .i64 ok) ∧ W.cell? ⟨pL, k * 7 + 1, none⟩ = some (.int .i64 oh) ∧ W.cell? ⟨pL, k * 7 + 2, none⟩ = some (.int .i64 oi) ∧ W.cell? ⟨pL, k * 7 + 3, none⟩ = some (.int .i64 on) ∧ W.cell? ⟨pL, k * 7 + 4, none⟩ = some (.int .i64 okk) ∧ W.cell? ⟨pL, k * 7 + 5, none⟩ = some (.int .i64 ov) ∧ W.cell? ⟨pL, k * 7 + 6, none⟩ = some (.int .i64 ot))
      go_upto_region 7 with (fail)
      go_cut [6, 7] (BxRel w.heap.size wr H' rc rv)
      case first =>
        go_region_held3 (fun W => W.cell? ⟨p, 0, none⟩ = some (.int .i64 H.od) ∧ W.cell? ⟨p, 1, none⟩ = some (.slice A5 n5 c5) ∧ W.cell? ⟨p, 2, none⟩ = some (.int .i64 H.nx) ∧ W.cell? ⟨p, 3, none⟩ = some (.int .i64 (tget H 0)) ∧ W.cell? ⟨p, 4, none⟩ = some (.int .i64 (tget H 1)) ∧ W.cell? ⟨p, 5, none⟩ = some (.int .i64 (tget H 2)) ∧ W.cell? ⟨p, 6, none⟩ = some (.int .i64 (tget H 3)) ∧ W.cell? ⟨p, 7, none⟩ = some (.slice F5 m5 d5) ∧ W.cell? ⟨pL, k * 7, none⟩ = some (.int .i64 ok) ∧ W.cell? ⟨pL, k * 7 + 1, none⟩ = some (.int .i64 oh) ∧ W.cell? ⟨pL, k * 7 + 2, none⟩ = some (.int .i64 oi) ∧ W.cell? ⟨pL, k * 7 + 3, none⟩ = some (.int .i64 on) ∧ W.cell? ⟨pL, k * 7 + 4, none⟩ = some (.int .i64 okk) ∧ W.cell? ⟨pL, k * 7 + 5, none⟩ = some (.int .i64 ov) ∧ W.cell? ⟨pL, k * 7 + 6, none⟩ = some (.int .i64 ot)) (((with_reducible refine mkS.out _ ?_); first | ((repeat (first | (with_reducible refine bel_alloc ?_ _) | (with_reducible refine Below.setCell ?_ (by dsimp only; first | omega | (simp; omega)) _) | (with_reducible refine Below.drew ?_))); first | (with_reducible exact Below.refl _ _) | (with_reducible exact HB5.out)) | ((repeat (first | (with_reducible refine bel_alloc ?_ _) | (with_reducible refine Below.setCell ?_ (by dsimp only; first | omega | (simp; omega)) _) | (with_reducible refine Below.drew ?_))); first | (with_reducible exact Below.refl _ _) | (with_reducible exact trivial)))) ((go_at_call 13; (with_reducible refine Calls.mono (S.out _ (by ((repeat (first | (with_reducible refine bel_alloc ?_ _) | (with_reducible refine Below.setCell ?_ (by dsimp only; first | omega | (simp; omega)) _) | (with_reducible refine Below.drew ?_))); first | (with_reducible exact Below.refl _ _) | (with_reducible exact trivial)))) ?_); rintro e w5 ⟨⟨A6, n6, c6', F6, k6, d6⟩, os6, rfl, O6, b6⟩; simp only [hval, hcs]; have hV := Lib.hid (bel_is (w := wr) (by ((repeat (first | (with_reducible refine bel_alloc ?_ _) | (with_reducible refine Below.setCell ?_ (by dsimp only; first | omega | (simp; omega)) _) | (with_reducible refine Below.drew ?_))); first | (with_reducible exact Below.refl _ _) | (with_reducible exact trivial))) b6); have HB5 := Lib.hid (hV.out.trans (b6.mono hV.out.size)); have hz5 := HB5.out.size; (try (have V6 := whole_is (t := 26) (cs := zcs) (by ((repeat (first | ((with_reducible apply whole_new'); rfl) | (with_reducible apply Whole.alloc) | (with_reducible apply Whole.drew))); try (with_reducible exact trivial))) b6; (try simp only [size_alloc] at V6); have HV6 := Lib.hid V6; have M6 := V6.below b6; obtain ⟨m0, m1, m2, m3, m4, m5, m6, m7⟩ := M6.eight; have mf := M6.free; have ml := M6.lt; have mn := Nat.ne_of_lt M6.lt; have mn' := (Nat.ne_of_lt M6.lt).symm; have m0A := fun o => Lib.cell?_alloc_some o m0; have m1A := fun o => Lib.cell?_alloc_some o m1; have m2A := fun o => Lib.cell?_alloc_some o m2; have m3A := fun o => Lib.cell?_alloc_some o m3; have m4A := fun o => Lib.cell?_alloc_some o m4; have m5A := fun o => Lib.cell?_alloc_some o m5; have m6A := fun o => Lib.cell?_alloc_some o m6; have m7A := fun o => Lib.cell?_alloc_some o m7; have mfA := fun (o : Obj) j => (M6.alloc o).free j; clear M6 V6)); (try (have V7 := whole_is (t := 34) (cs := rcs) (by ((repeat (first | ((with_reducible apply whole_new'); rfl) | (with_reducible apply Whole.alloc) | (with_reducible apply Whole.drew))); try (with_reducible exact trivial))) b6; (try simp only [size_alloc] at V7); have HV7 := Lib.hid V7; have M7 := V7.below b6; obtain ⟨q0, q1⟩ := M7.two'; have qf := M7.free; have ql := M7.lt; have qn := Nat.ne_of_lt M7.lt; have qn' := (Nat.ne_of_lt M7.lt).symm; have q0A := fun o => Lib.cell?_alloc_some o q0; have q1A := fun o => Lib.cell?_alloc_some o q1; have qfA := fun (o : Obj) j => (M7.alloc o).free j; clear M7 V7)); (try (have hbb := box_beside (HV6.out.below b6) (b0 := .int .i64 0) (b1 := .int .i64 0) (HV7.out.below b6); have qs0 := hbb.1; have qs1 := hbb.2.1; have qsf := hbb.2.2; clear hbb))))
        · go_wp2_with fail
          go_meet
          exact bx_a1 HBW.out.size hV.out O6 b6
        · go_wp2_with fail
          go_meet
          exact bx_a2 HBW.out.size hV.out O6 b6
        · go_wp2_with fail
          go_meet
          have hb := bx_b (rc := rc) (rv := rv) HBW.out.size hV.out O6 b6 HV6.out (by omega); (try unfold set2 at hb); (try unfold set8 at hb); (try simp only at hb); exact hb
        · go_wp2_with fail
          go_meet
          have hb := bx_d (rc := rc) (rv := rv) HBW.out.size hV.out O6 b6 HV6.out (by omega) HV7.out (by omega) (by omega); (try unfold set2 at hb); (try unfold set8 at hb); (try simp only at hb); exact hb
        · go_wp2_with fail
          go_meet
          have hb := bx_c (rc := rc) (rv := rv) HBW.out.size hV.out O6 b6 HV7.out (by omega); (try unfold set2 at hb); (try unfold set8 at hb); (try simp only [hcs] at hb); exact hb
        · go_wp2_with fail
          go_meet
          have hb := bx_d (rc := rc) (rv := rv) HBW.out.size hV.out O6 b6 HV6.out (by omega) HV7.out (by omega) (by omega); (try unfold set2 at hb); (try unfold set8 at hb); (try simp only at hb); exact hb
      case rest =>
        obtain ⟨s', os', p6, p7, rfl, rfl, O', K6, K7, bl⟩ := hcut
        clear mkS S c0 c1 c2 c3 c4 c5' c6 c7 z0 z1 z2 z3 z4 z5 z6
        have KP := HKP.out.below bl
        have KL := HKL.out.below bl
        have KW := HKW.out.below bl
        have BW := HBW.out.trans (bl.mono HBW.out.size)
        obtain ⟨m0, m1⟩ := K7.two'
        have y0 := (bl.cell (p := ⟨pW, k * 2, none⟩) HKW.out.lt).trans Y.out.1
        have y1 := (bl.cell (p := ⟨pW, k * 2 + 1, none⟩) HKW.out.lt).trans Y.out.2
        have g0 := cell_grown (a := ⟨p7, 0, none⟩) K7.lt m0
        have g1 := cell_grown (a := ⟨p7, 1, none⟩) K7.lt m1
        have g2 := cell_grown (a := ⟨pW, k * 2, none⟩) KW.lt y0
        have g3 := cell_grown (a := ⟨pW, k * 2 + 1, none⟩) KW.lt y1
        have run := run_neq_res rc rv rc rv
        rw [show (!sameB (rc, rv) (rc, rv)) = false by simp [sameB]] at run
        clear m0 m1 y0 y1
        go_upto_region 8 with (fail)
        refine wp_region_quiet_grown mixed (by kernel_rfl) ?_
        repeat (go_big_quiet_step (fail))
        refine wpQuiet_nil ?_
        rintro _ ⟨⟨nq, osq⟩, rfl⟩
        have G9 := (Grew.refl wc).grow nq osq
        generalize Go.Sort.grow (wc.drewN nq) osq = W9 at G9 ⊢
        clear g0 g1 g2 g3 run
        have b9 := G9.below
        obtain ⟨A7, n7, c7', F7, m7, d7⟩ := s'
        have K69 := K6.below b9
        have KP9 := KP.below b9
        simp only [hcs] at K69 KP9
        obtain ⟨x0, x1, x2, x3, x4, x5, x6, x7⟩ := K69.eight
        obtain ⟨t0, t1, t2, t3, t4, t5, t6, t7⟩ := KP9.eight
        have tf := KP9.free
        have HE := HH'.out
        have O9 := O'.below b9
        rw [HE] at O9
        have HF := Lib.hid (ds_step (w := w) O9 KP9 (KL.below b9) (KW.below b9) (BW.trans (b9.mono BW.size)) hpl.out hlt)
        rw [← HE] at HF
        unfold set8 at HF
        simp only at HF
        have hki1 : IntKind.i64.wrap ((k : Int) + 1) = ((k + 1 : Nat) : Int) := by rw [IntKind.wrap_i64]; omega
        clear O' K6 K7 KP KL KW BW b9 G9 K69 KP9 HKP HKL HKW HBW Y bl HE O9 HH'
        go_wp2_with fail
        go_roundw
        case rel => first | exact HF.out | (have h9 := HF.out; push_cast at h9; exact h9)
        case measure => simp [intOf]; omega
    · obtain rfl : k = 14 := by omega
      obtain ⟨A5, n5, c5, F5, m5, d5⟩ := s
      have hn5 : n5 = 2 := by have h1 := O.rd.obs.len; exact h1.symm
      have c1 := KP.cell 1
      simp only [hcs, List.getElem?_cons_succ, List.getElem?_cons_zero] at c1
      have HB := Lib.hid BW
      rw [hn5] at c1
      clear O KP KL KW BW hn5
      go_wp2_with fail
      go_ret
      exact ⟨rfl, HB.out⟩
end Go.Proofs.YtkbggbgnnllmjaaGreatDoor
