/-
  Words for rows of a state in memory: a slice that reads as rows, a slice of rows of the call's own, append. Plain lemmas.
  The document's questions about states (Big, MayRow, Right, Same, Own), and the program's (mayBe, rowsRight, Check): contracts.
  Whether a state is right and two states are the same, and a state in memory of its own: contracts.
-/
import Derived.Test.YtlnmmklpccppmaaGreatDoorTg35
import Derived.Test.YtlnmmklpccppmaaGreatDoorTg17
import Derived.Test.YtlnmmklpccppmaaGreatDoorTg38
import Derived.Test.YtlnmmklpccppmaaGreatDoorTg44
import Derived.Test.YtlnmmklpccppmaaGreatDoorTg15
import Derived.Test.YtlnmmklpccppmaaGreatDoorTg16
import Derived.Test.YtlnmmklpccppmaaGreatDoorTg21
import Derived.Test.YtlnmmklpccppmaaGreatDoorTg23
namespace Go.Proofs.YtlnmmklpccppmaaGreatDoor
open Go.RowKit
theorem rightI_small {H : Hp} (k : RightH H) : SmallH H := by
  refine ⟨by have := k.len; omega, by have := k.fr.len256; omega, fun x hx => ?_⟩
  have h1 := (k.ok x hx).2.2
  have h2 := needI_in (w := x.ws.length) (l := x.ls.length) (by rw [h1.1]; exact h1.2.1.1)
  omega
theorem smallI_zero : SmallH zeroH := ⟨by simp [zeroH], by simp [zeroH], fun x hx => by cases hx⟩
/-- A row's four cells. -/
def rc4 (r : Rw) : List Value := [.int .i64 r.cl, .int .i64 r.sq, .int .i64 r.co, .int .i64 r.va]
def rwcs (l : List Rw) : List Value := l.flatMap rc4
theorem rwcs_cons (b : Rw) (l : List Rw) : rwcs (b :: l) = .int .i64 b.cl :: .int .i64 b.sq :: .int .i64 b.co :: .int .i64 b.va :: rwcs l := rfl
theorem rwcs_append (l m : List Rw) : rwcs (l ++ m) = rwcs l ++ rwcs m := by simp [rwcs]
theorem rwcs_length (l : List Rw) : (rwcs l).length = l.length * 4 := by
  induction l with
  | nil => rfl
  | cons b t ih => rw [rwcs_cons]; simp [ih]; omega
theorem rwcs_one (l : List Rw) : ∀ u ∈ rwcs l, u.oneCell' = true := by
  intro u hu
  simp only [rwcs, List.mem_flatMap] at hu
  obtain ⟨b, _, hb⟩ := hu
  simp [rc4] at hb
  rcases hb with rfl | rfl | rfl | rfl <;> rfl
theorem rwcs_get : ∀ {l : List Rw} {j : Nat} {b : Rw} {i : Nat} {u : Value}, l[j]? = some b → (rc4 b)[i]? = some u → (rwcs l)[j * 4 + i]? = some u
  | [], j, b, i, u, h, _ => by simp at h
  | c :: t, 0, b, i, u, h, hu => by
    simp at h
    subst h
    have hi := (List.getElem?_eq_some_iff.1 hu).1
    show ((rc4 c) ++ rwcs t)[0 * 4 + i]? = some u
    rw [List.getElem?_append_left (by omega), Nat.zero_mul, Nat.zero_add]
    exact hu
  | c :: t, j + 1, b, i, u, h, hu => by
    have := rwcs_get (l := t) (j := j) (b := b) (by simpa using h) hu
    rw [rwcs_cons, show (j + 1) * 4 + i = (j * 4 + i) + 1 + 1 + 1 + 1 by omega]
    simpa using this
theorem rwcs_at {l : List Rw} {j : Nat} {u : Value} (h : (rwcs l)[j]? = some u) : ∃ b, l[j / 4]? = some b ∧ (rc4 b)[j % 4]? = some u := by
  have hj : j < l.length * 4 := by rw [← rwcs_length]; exact (List.getElem?_eq_some_iff.1 h).1
  have hb : l[j / 4]? = some (l[j / 4]'(by omega)) := List.getElem?_eq_getElem (by omega)
  refine ⟨_, hb, ?_⟩
  have hi : (rc4 (l[j / 4]'(by omega)))[j % 4]? = some ((rc4 (l[j / 4]'(by omega)))[j % 4]'(by simp [rc4]; omega)) := List.getElem?_eq_getElem _
  have := rwcs_get hb hi
  rw [show j / 4 * 4 + j % 4 = j by omega, h] at this
  rw [hi, this]
theorem rwcs_snoc (l : List Rw) (x : Rw) : rwcs (l ++ [x]) = rwcs l ++ rc4 x := by rw [rwcs_append]; simp [rwcs]
/-- The slice '.slice A n _' reads as the rows l. -/
structure RdW (w : World) (A : Option Addr) (n : Nat) (l : List Rw) : Prop where
  len : l.length = n
  at_ : 0 < n → ∃ b off, A = some ⟨b, off, none⟩ ∧ b < w.heap.size ∧ ∀ (j : Nat) (x : Rw), l[j]? = some x → ∀ (i : Nat) (u : Value), (rc4 x)[i]? = some u → w.cell? ⟨b, off + j * 4 + i, none⟩ = some u
section
variable {w w' : World} {A : Option Addr} {n : Nat} {l : List Rw}
theorem RdW.nil : RdW w A 0 [] := ⟨rfl, fun h => absurd h (by omega)⟩
theorem RdW.below (h : RdW w A n l) (k : Below w.heap.size w w') : RdW w' A n l :=
  ⟨h.len, fun hn => by
    obtain ⟨b, off, e, hb, hc⟩ := h.at_ hn
    exact ⟨b, off, e, Nat.lt_of_lt_of_le hb k.size, fun j o hj i u hu => (k.cell (p := ⟨b, off + j * 4 + i, none⟩) hb).trans (hc j o hj i u hu)⟩⟩
theorem RdW.get (h : RdW w A n l) {j : Nat} (hj : j < n) : ∃ b off x, A = some ⟨b, off, none⟩ ∧ b < w.heap.size ∧ l[j]? = some x ∧ w.cell? ⟨b, off + j * 4, none⟩ = some (.int .i64 x.cl) ∧ w.cell? ⟨b, off + j * 4 + 1, none⟩ = some (.int .i64 x.sq) ∧ w.cell? ⟨b, off + j * 4 + 2, none⟩ = some (.int .i64 x.co) ∧ w.cell? ⟨b, off + j * 4 + 3, none⟩ = some (.int .i64 x.va) := by
  obtain ⟨b, off, e, hb, hc⟩ := h.at_ (by omega)
  have hl : j < l.length := by have := h.len; omega
  have hx : l[j]? = some l[j] := List.getElem?_eq_getElem hl
  exact ⟨b, off, l[j], e, hb, hx, hc j _ hx 0 _ rfl, hc j _ hx 1 _ rfl, hc j _ hx 2 _ rfl, hc j _ hx 3 _ rfl⟩
theorem RdW.cells (h : RdW w A n l) (hn : 0 < n) : ∃ b off, A = some ⟨b, off, none⟩ ∧ b < w.heap.size ∧ ∀ j u, (rwcs l)[j]? = some u → w.cell? ⟨b, off + j, none⟩ = some u := by
  obtain ⟨b, off, e, hb, hc⟩ := h.at_ hn
  refine ⟨b, off, e, hb, fun j u hu => ?_⟩
  obtain ⟨x, hx, hi⟩ := rwcs_at hu
  have := hc _ _ hx _ _ hi
  rwa [show off + j / 4 * 4 + j % 4 = off + j by omega] at this
end
/-- The slice v was made by the call itself (its block is 'base' or later) and holds the rows l. -/
def OwnW (w : World) (base : Nat) (v : Value) (l : List Rw) : Prop := w.ownsRow base 88 4 v l.length (rwcs l)
section
variable {w w' : World} {base : Nat} {v : Value} {l : List Rw}
theorem OwnW.nil : OwnW w base (.slice none 0 0) [] := World.ownsRow_nil w base _ 4
theorem OwnW.mono (h : OwnW w base v l) {base' : Nat} (hb : base' ≤ base) : OwnW w base' v l := by
  refine ⟨h.1, ?_⟩
  rcases h.2 with h2 | ⟨g, cap, cur, hv, hg, r⟩
  · exact .inl h2
  · exact .inr ⟨g, cap, cur, hv, by omega, r⟩
theorem OwnW.keep (h : OwnW w base v l) (hb : ∀ k, v.ownBlock = some k → w'.heap[k]? = w.heap[k]?) : OwnW w' base v l := by
  refine ⟨h.1, ?_⟩
  rcases h.2 with h2 | ⟨g, cap, cur, rfl, hg, hh, r⟩
  · exact .inl h2
  · exact .inr ⟨g, cap, cur, rfl, hg, by rw [hb g rfl]; exact hh, r⟩
theorem OwnW.lt (h : OwnW w base v l) : ∀ k, v.ownBlock = some k → base ≤ k ∧ k < w.heap.size := World.ownsRow.lt h
theorem OwnW.below (h : OwnW w base v l) (hb : Below w.heap.size w w') : OwnW w' base v l := h.keep fun k hk => hb.block k (h.lt k hk).2
theorem OwnW.grown {r : Option Nat} (h : OwnW w base v l) (hg : w.grownBy w' r) (hne : ∀ k, v.ownBlock = some k → some k ≠ r) : OwnW w' base v l :=
  h.keep fun k hk => hg.block k (h.lt k hk).2 (hne k hk)
theorem OwnW.apart {p : Nat} {t : TypeId} {cs : List Value} (h : OwnW w base v l) (K : Whole w p t cs) (ht : t ≠ 88) : v.ownBlock ≠ some p := by
  intro e
  rcases h.2 with ⟨rfl, _⟩ | ⟨g, cap, cur, rfl, hg, hh, r⟩
  · cases e
  · simp [Value.ownBlock] at e
    subst e
    unfold Whole at K
    rw [hh] at K
    injection K with K
    injection K with _ K
    exact ht K.symm
theorem OwnW.shape (h : OwnW w base v l) {n : Nat} (hn : l.length = n) : ∃ A c, v = .slice A n c ∧ n ≤ c ∧ c ≤ maxLen ∧ RdW w A n l := by
  subst hn
  rcases h.2 with ⟨rfl, hn⟩ | ⟨g, cap, cur, rfl, hg, hh, hc, hm, _⟩
  · exact ⟨none, 0, by rw [hn], by omega, by simp [maxLen], ⟨rfl, fun hp => by omega⟩⟩
  · refine ⟨_, cap, rfl, hc, hm, ⟨rfl, fun hp => ⟨g, 0, rfl, (Array.getElem?_eq_some_iff.1 hh).1, fun j x hx i u hu => ?_⟩⟩⟩
    have e1 := World.ownsRow.cells h (g := g) rfl _ _ (rwcs_get hx hu)
    rw [add_plain] at e1
    rw [Nat.add_assoc]
    exact e1
end
theorem Tryz.infoRow : (Tryz.prog.info? 88).map (fun i => (i.zero, i.size, i.bytes)) = some (some (.agg #[.int .i64 0, .int .i64 0, .int .i64 0, .int .i64 0]), 4, 32) := by kernel_rfl
/-- What an append leaves. -/
def AppW (w : World) (base : Nat) (v : Value) (l : List Rw) (v' : Value) (w' : World) : Prop :=
  OwnW w' base v' l ∧ w.grownBy w' v.ownBlock
/-- append(v, more...) -/
theorem run_appW {w : World} (base : Nat) (v : Value) (l : List Rw) (hown : OwnW w base v l) (A : Option Addr) (m c : Nat) (news : List Rw) (hr : RdW w A m news) (hle : l.length + m ≤ 1000000) (hbase : base ≤ w.heap.size) :
    ∃ v' w', (Builtin.append_ #[37, 37] 37 #[v, .slice A m c]).run Tryz.prog w = .ok v' w' ∧ AppW w base v (l ++ news) v' w' := by
  obtain ⟨i0, hi, hz0, hz1, hz2⟩ := info_parts Tryz.infoRow
  have ht := Tryz.underlying37
  have hm : news.length = m := hr.len
  by_cases h0 : m = 0
  · subst h0
    obtain rfl : news = [] := List.eq_nil_of_length_eq_zero hm
    have hrun : (Builtin.append_ #[37, 37] 37 #[v, .slice A 0 c]).run Tryz.prog w = .ok v w := by
      rcases hown.2 with ⟨rfl, _⟩ | ⟨g, cap, cur, rfl, _, _, hnc, _⟩
      · cases A <;> simp [Builtin.append_, run_underlying ht, sizeOf, typeInfo, hi, Builtin.lenOf, Builtin.firstCells, loadCells, loadCellsFrom]
      · cases A <;> simp [Builtin.append_, run_underlying ht, sizeOf, typeInfo, hi, Builtin.lenOf, Builtin.firstCells, loadCells, loadCellsFrom, hnc, storeCells]
    exact ⟨v, w, hrun, by rw [List.append_nil]; exact hown, ⟨rfl, rfl, rfl, Nat.le_refl _, fun _ _ _ => rfl⟩⟩
  · obtain ⟨b, off, rfl, hb, hc⟩ := hr.cells (by omega)
    obtain ⟨v', w', hrun, h1, h2, _, _⟩ := run_append_own_at (P := Tryz.prog) w base 37 37 88 i0 _ 4 32 ht hi hz0 hz1 hz2 rfl (by omega) v l.length (rwcs l) hown ⟨b, off, none⟩ m c (rwcs news) (by rw [rwcs_length]; omega)
      (fun j u hj => by rw [add_plain]; exact hc j u hj) (rwcs_one _) (by simp only [maxLen]; omega) (by omega) hbase
    refine ⟨v', w', hrun, ?_, h2⟩
    unfold OwnW
    rw [rwcs_append, List.length_append, hm]
    exact h1
theorem RdW.one (w : World) (b : Rw) (cs : Array Value) (h : cs.toList = rc4 b) : RdW (w.alloc (.cells cs 88)) (some ⟨w.heap.size, 0, none⟩) 1 [b] :=
  ⟨rfl, fun _ => ⟨w.heap.size, 0, rfl, by simp, fun j x hx i u hu => by
    have hj : j = 0 := by
      have := (List.getElem?_eq_some_iff.1 hx).1
      simpa using this
    subst hj
    simp at hx
    subst hx
    have hw := Whole.new w cs 88
    rw [h] at hw
    rw [Nat.zero_mul, Nat.add_zero, Nat.zero_add, hw.cell]
    exact hu⟩⟩
/-- Where a state's lists lie. -/
structure SSl where
  h : HSl
  R : Option Addr
  n : Nat
  c : Nat
def scs (S : St) (s : SSl) : List Value := hcs S.hp s.h ++ [.slice s.R s.n s.c]
def sval (S : St) (s : SSl) : Value := .agg (scs S s).toArray
structure RdT (w : World) (s : SSl) (S : St) : Prop where
  hp : RdH w s.h S.hp
  rs : RdW w s.R s.n S.rs
theorem RdT.below {w w' : World} {s : SSl} {S : St} (h : RdT w s S) (k : Below w.heap.size w w') : RdT w' s S := ⟨h.hp.below k, h.rs.below k⟩
def SmallS (S : St) : Prop := SmallH S.hp ∧ S.rs.length ≤ 1000
def IntsS (S : St) : Prop := IntsH S.hp ∧ ∀ r ∈ S.rs, IsInt r.va
theorem Whole.nine {w : World} {g : Nat} {t : TypeId} {a0 a1 a2 a3 a4 a5 a6 a7 a8 : Value} (h : Whole w g t [a0, a1, a2, a3, a4, a5, a6, a7, a8]) : w.cell? ⟨g, 0, none⟩ = some a0 ∧ w.cell? ⟨g, 1, none⟩ = some a1 ∧ w.cell? ⟨g, 2, none⟩ = some a2 ∧ w.cell? ⟨g, 3, none⟩ = some a3 ∧ w.cell? ⟨g, 4, none⟩ = some a4 ∧ w.cell? ⟨g, 5, none⟩ = some a5 ∧ w.cell? ⟨g, 6, none⟩ = some a6 ∧ w.cell? ⟨g, 7, none⟩ = some a7 ∧ w.cell? ⟨g, 8, none⟩ = some a8 :=
  ⟨h.cell 0, h.cell 1, h.cell 2, h.cell 3, h.cell 4, h.cell 5, h.cell 6, h.cell 7, h.cell 8⟩
theorem Whole.four {w : World} {g : Nat} {t : TypeId} {a0 a1 a2 a3 : Value} (h : Whole w g t [a0, a1, a2, a3]) : w.cell? ⟨g, 0, none⟩ = some a0 ∧ w.cell? ⟨g, 1, none⟩ = some a1 ∧ w.cell? ⟨g, 2, none⟩ = some a2 ∧ w.cell? ⟨g, 3, none⟩ = some a3 :=
  ⟨h.cell 0, h.cell 1, h.cell 2, h.cell 3⟩
end Go.Proofs.YtlnmmklpccppmaaGreatDoor
namespace Go.Proofs.YtlnmmklpccppmaaGreatDoor
open Go.RowKit
def BigSPost (w : World) (S : St) (e : Ending) (w' : World) : Prop := ∃ q, e = .returned (.bool q) ∧ (q = false → SmallS S) ∧ Grew w w'
theorem grew_alloc (w : World) (o : Obj) : Grew w (w.alloc o) := (Grew.refl w).alloc o
set_option maxHeartbeats 2000000 in
theorem refBigS_any (s : SSl) (S : St) (w : World) (h : RdT w s S) :
    Calls Tryz.prog 16 #[sval S s] w (BigSPost w S) := by
  have g1 := grew_alloc w (.cells (scs S s).toArray 39)
  have K := Whole.new w (scs S s).toArray 39
  have S1 := refBig_any s.h S.hp _ (h.hp.below g1.below)
  have hlen := Lib.hid h.rs.len
  obtain ⟨⟨A, n, c, F, m, d⟩, R, nr, cr⟩ := s
  obtain ⟨H, rs⟩ := S
  clear h
  simp only [sval, scs, hval, hcs, List.cons_append, List.nil_append] at *
  obtain ⟨c0, c1, c2, c3, c4, c5, c6, c7, c8⟩ := K.nine
  clear K
  by_cases hn : 1000 < nr
  · have hni : (1000 : Int) < (nr : Int) := by omega
    clear S1
    go_enter Tryz.func16, Tryz.ntmps16
    go_wp2
    go_ret
    exact ⟨true, rfl, (fun e => by cases e), g1⟩
  · have hni : ¬ ((1000 : Int) < (nr : Int)) := by omega
    have hrs := Lib.hid (show rs.length ≤ 1000 by have := hlen.out; omega)
    clear hn
    go_enter Tryz.func16, Tryz.ntmps16
    go_wp2_with fail
    refine S1.mono ?_
    rintro e w1 ⟨q, rfl, hq, g2⟩
    have G := Lib.hid (g1.trans g2)
    have Hq := Lib.hid (show q = false → SmallS ⟨H, rs⟩ from fun e => ⟨hq e, hrs.out⟩)
    clear g1 g2 hq S1 c0 c1 c2 c3 c4 c5 c6 c7 c8
    cases q <;> (go_wp2; go_ret; exact ⟨_, rfl, (by first | exact Hq.out | exact fun _ => Hq.out trivial | (intro e; cases e)), G.out⟩)
def rwv (r : Rw) : Value := .agg (rc4 r).toArray
set_option maxHeartbeats 4000000 in
theorem mayBeR_any (r : Rw) (w : World) : Calls Tryz.prog 88 #[rwv r] w (Says w (.bool (decide (MayR r)))) := by
  have g1 := grew_alloc w (.cells (rc4 r).toArray 88)
  have K := Whole.new w (rc4 r).toArray 88
  obtain ⟨x, y, z, v⟩ := r
  simp only [rwv, rc4] at *
  obtain ⟨c0, c1, c2, c3⟩ := K.four
  clear K
  by_cases h1 : 1 ≤ x
  case neg =>
    rw [decide_eq_false (fun k => h1 k.1.1)]
    go_enter Tryz.func88, Tryz.ntmps88
    go_wp2
    go_ret
    exact ⟨rfl, g1⟩
  by_cases h2 : x ≤ 4
  case neg =>
    rw [decide_eq_false (fun k => h2 k.1.2)]
    go_enter Tryz.func88, Tryz.ntmps88
    go_wp2
    go_ret
    exact ⟨rfl, g1⟩
  by_cases h3 : 1 ≤ y
  case neg =>
    rw [decide_eq_false (fun k => h3 k.2.1.1)]
    go_enter Tryz.func88, Tryz.ntmps88
    go_wp2
    go_ret
    exact ⟨rfl, g1⟩
  by_cases h4 : y ≤ 1000000
  case neg =>
    rw [decide_eq_false (fun k => h4 k.2.1.2)]
    go_enter Tryz.func88, Tryz.ntmps88
    go_wp2
    go_ret
    exact ⟨rfl, g1⟩
  by_cases h5 : 0 ≤ z
  case neg =>
    rw [decide_eq_false (fun k => h5 k.2.2.1)]
    go_enter Tryz.func88, Tryz.ntmps88
    go_wp2
    go_ret
    exact ⟨rfl, g1⟩
  by_cases h6 : z ≤ 65535
  case neg =>
    rw [decide_eq_false (fun k => h6 k.2.2.2)]
    go_enter Tryz.func88, Tryz.ntmps88
    go_wp2
    go_ret
    exact ⟨rfl, g1⟩
  rw [decide_eq_true (show MayR ⟨x, y, z, v⟩ from ⟨⟨h1, h2⟩, ⟨h3, h4⟩, h5, h6⟩)]
  go_enter Tryz.func88, Tryz.ntmps88
  go_wp2
  go_ret
  exact ⟨rfl, g1⟩
end Go.Proofs.YtlnmmklpccppmaaGreatDoor
namespace Go.Proofs.YtlnmmklpccppmaaGreatDoor
open Go.RowKit
theorem rows_step {l : List Rw} {k : Nat} {x : Rw} (h : RowsOk (l.take k)) (hx : l[k]? = some x) (hm : MayR x) (hp : ∀ y, 0 < k → l[k - 1]? = some y → y.cl < x.cl) : RowsOk (l.take (k + 1)) := by
  have hk : k < l.length := (List.getElem?_eq_some_iff.1 hx).1
  rw [take_snocI hx]
  refine ⟨fun r hr => ?_, ?_⟩
  · rcases List.mem_append.1 hr with e | e
    · exact h.1 r e
    · rw [List.mem_singleton.1 e]; exact hm
  · rw [List.pairwise_append]
    refine ⟨h.2, List.pairwise_singleton _ _, fun a ha b hb => ?_⟩
    rw [List.mem_singleton.1 hb]
    obtain ⟨j, hj⟩ := List.mem_iff_getElem?.1 ha
    have hjk : j < k := by have := (List.getElem?_eq_some_iff.1 hj).1; rw [List.length_take] at this; omega
    have hy : l[k - 1]? = some (l[k - 1]'(by omega)) := List.getElem?_eq_getElem (by omega)
    have h1 := hp _ (by omega) hy
    by_cases e : j = k - 1
    · rw [List.getElem?_take, if_pos (by omega), e, hy] at hj
      injection hj with hj
      rw [← hj]; exact h1
    · have hz : (l.take k)[k - 1]? = some (l[k - 1]'(by omega)) := by rw [List.getElem?_take, if_pos (by omega)]; exact hy
      have h2 := h.2
      rw [List.pairwise_iff_getElem] at h2
      obtain ⟨i1, e1⟩ := List.getElem?_eq_some_iff.1 hj
      obtain ⟨i2, e2⟩ := List.getElem?_eq_some_iff.1 hz
      have := h2 j (k - 1) i1 i2 (by omega)
      rw [e1, e2] at this
      omega
theorem rows_bad {l : List Rw} {k : Nat} {x : Rw} (hx : l[k]? = some x) (h : ¬ MayR x) : ¬ RowsOk l := fun q => h (q.1 x (List.mem_of_getElem? hx))
theorem rows_falls {l : List Rw} {q : Nat} {x y : Rw} (hx : l[q + 1]? = some x) (hy : l[q]? = some y) (h : x.cl ≤ y.cl) : ¬ RowsOk l := fun r => by
  have h2 := r.2
  rw [List.pairwise_iff_getElem] at h2
  obtain ⟨i1, e1⟩ := List.getElem?_eq_some_iff.1 hx
  obtain ⟨i2, e2⟩ := List.getElem?_eq_some_iff.1 hy
  have := h2 q (q + 1) i2 i1 (by omega)
  rw [e1, e2] at this
  omega
def RwRel (W : World) (l : List Rw) (i : Value) (wr : World) : Prop := ∃ k : Nat, k ≤ l.length ∧ i = .int .i64 (k : Int) ∧ RowsOk (l.take k) ∧ Grew W wr
theorem rows_zero (l : List Rw) : RowsOk (l.take 0) := ⟨fun r hr => by simp at hr, by simp⟩
set_option maxRecDepth 100000 in
set_option maxHeartbeats 8000000 in
theorem rowsRight_any (R : Option Addr) (nr cr : Nat) (l : List Rw) (w : World) (h : RdW w R nr l) (hn : nr ≤ 1000) :
    Calls Tryz.prog 45 #[.slice R nr cr] w (Says w (.bool (decide (RowsOk l)))) := by
  have HW := Lib.hid h
  have hlen := Lib.hid h.len
  have mixed := mixedP
  clear h
  obtain ⟨v, hv⟩ : ∃ v, v = decide (RowsOk l) := ⟨_, rfl⟩
  rw [← hv]
  have HV := Lib.hid hv
  clear hv
  go_enter Tryz.func45, Tryz.ntmps45
  go_wp2_with fail
  go_loopw [7] (RwRel w l) (fun i _ => nr - (intOf i).toNat)
  case atStart => exact ⟨0, Nat.zero_le _, rfl, rows_zero l, Grew.refl _⟩
  case round =>
    obtain ⟨k, hk, rfl, hok, gr⟩ := hrel
    have Hok := Lib.hid hok
    clear hok
    by_cases hlt : k < nr
    case neg =>
      have Hend := Lib.hid (show v = true from HV.out.trans (decide_eq_true (by have := Hok.out; rwa [List.take_of_length_le (by have := hlen.out; omega)] at this)))
      have Gr := Lib.hid gr
      clear hk gr Hok
      go_wp2
      go_ret
      exact ⟨(by rw [Hend.out]; try rfl), Gr.out⟩
    obtain ⟨b', off, x, rfl, hbl, hx, z0, z1, z2, z3⟩ := HW.out.get hlt
    have hki : (k : Int) < (nr : Int) := by omega
    have y0 := (gr.below.cell (p := ⟨b', off + k * 4, none⟩) hbl).trans z0
    have y1 := (gr.below.cell (p := ⟨b', off + k * 4 + 1, none⟩) hbl).trans z1
    have y2 := (gr.below.cell (p := ⟨b', off + k * 4 + 2, none⟩) hbl).trans z2
    have y3' := (gr.below.cell (p := ⟨b', off + k * 4 + 3, none⟩) hbl).trans z3
    have Hx := Lib.hid hx
    have SM := mayBeR_any x
    simp only [rwv, rc4] at SM
    have Hbl := Lib.hid hbl
    clear hk hx z0 z1 z2 z3 hbl
    go_upto_region 4 with (fail)
    have g3 := grew_alloc wr (.cells #[.int .i64 x.cl, .int .i64 x.sq, .int .i64 x.co, .int .i64 x.va] 88)
    have Kx := Whole.new wr #[.int .i64 x.cl, .int .i64 x.sq, .int .i64 x.co, .int .i64 x.va] 88
    obtain ⟨kx, hkx⟩ : ∃ kx, kx = wr.heap.size := ⟨_, rfl⟩
    rw [← hkx] at Kx ⊢
    clear hkx y0 y1 y2 y3'
    generalize wr.alloc (.cells _ 88) = w3 at g3 Kx ⊢
    have G := Lib.hid (gr.trans g3)
    clear gr g3
    have x0 := cell_grown (a := ⟨kx, 0, none⟩) Kx.lt (Kx.cell 0)
    have x1 := cell_grown (a := ⟨kx, 1, none⟩) Kx.lt (Kx.cell 1)
    have x2 := cell_grown (a := ⟨kx, 2, none⟩) Kx.lt (Kx.cell 2)
    have x3 := cell_grown (a := ⟨kx, 3, none⟩) Kx.lt (Kx.cell 3)
    clear Kx
    by_cases hm : MayR x
    case neg =>
      rw [decide_eq_false hm] at SM
      have Hno := Lib.hid (rows_bad Hx.out hm)
      clear hm
      refine wp_region_quiet_grown mixed (by kernel_rfl) ?_
      repeat (go_big_quiet_step ((go_at_call 88; exact calls_grown_says (SM _))))
      refine wpQuiet_nil ?_
      rintro _ ⟨⟨nq, osq⟩, rfl⟩
      have G4 := Lib.hid (G.out.trans ((Grew.refl w3).grow nq osq))
      generalize Go.Sort.grow (w3.drewN nq) osq = W4 at G4 ⊢
      clear SM x0 x1 x2 x3
      go_wp2
      go_ret
      exact ⟨(by rw [HV.out, decide_eq_false Hno.out]; try rfl), G4.out⟩
    rw [decide_eq_true hm] at SM
    have Hm := Lib.hid hm
    clear hm
    by_cases hk0 : k = 0
    case pos =>
      have d3 : decide (0 < (k : Int)) = false := by simp; omega
      have d4 : decide (0 < k) = false := by simp; omega
      have Hs := Lib.hid (rows_step Hok.out Hx.out Hm.out (fun y h0 => absurd h0 (by omega)))
      clear hk0
      refine wp_region_quiet_grown mixed (by kernel_rfl) ?_
      repeat (go_big_quiet_step ((go_at_call 88; exact calls_grown_says (SM _))))
      refine wpQuiet_nil ?_
      rintro _ ⟨⟨nq, osq⟩, rfl⟩
      have G4 := Lib.hid (G.out.trans ((Grew.refl w3).grow nq osq))
      generalize Go.Sort.grow (w3.drewN nq) osq = W4 at G4 ⊢
      clear SM x0 x1 x2 x3
      go_wp2_with fail
      go_roundw
      case rel => exact ⟨k + 1, by have := hlen.out; omega, by go_num, Hs.out, G4.out⟩
      case measure => simp [intOf]; omega
    obtain ⟨q, hq⟩ : ∃ q, k = q + 1 := ⟨k - 1, by omega⟩
    have HQ := Lib.hid hq
    obtain ⟨b2, off2, y, hA2, hbl2, hy, j0, _, _, _⟩ := HW.out.get (j := q) (by omega)
    injection hA2 with hA2
    injection hA2 with hA3 hA4
    subst hA3 hA4
    have hq0 : IntKind.i64.wrap ((k : Int) - 1) = (q : Int) := by rw [IntKind.wrap_i64]; omega
    have hqi : (q : Int) < (nr : Int) := by omega
    have d3 : decide (0 < (k : Int)) = true := by simp; omega
    have d4 : decide (0 < k) = true := by simp; omega
    have y3 := cell_grown (a := ⟨b', off + q * 4, none⟩) (Nat.lt_of_lt_of_le hbl2 G.out.below.size) ((G.out.below.cell (p := ⟨b', off + q * 4, none⟩) hbl2).trans j0)
    have Hy := Lib.hid hy
    clear hbl2 j0 hy hk0 hq
    by_cases hc : x.cl ≤ y.cl
    case pos =>
      have hcd : decide (x.cl ≤ y.cl) = true := decide_eq_true hc
      have Hno := Lib.hid (rows_falls (by rw [← HQ.out]; exact Hx.out) Hy.out hc)
      refine wp_region_quiet_grown mixed (by kernel_rfl) ?_
      repeat (go_big_quiet_step ((go_at_call 88; exact calls_grown_says (SM _))))
      refine wpQuiet_nil ?_
      rintro _ ⟨⟨nq, osq⟩, rfl⟩
      have G4 := Lib.hid (G.out.trans ((Grew.refl w3).grow nq osq))
      generalize Go.Sort.grow (w3.drewN nq) osq = W4 at G4 ⊢
      clear SM x0 x1 x2 x3
      go_wp2
      go_ret
      exact ⟨(by rw [HV.out, decide_eq_false Hno.out]; try rfl), G4.out⟩
    have hcd : decide (x.cl ≤ y.cl) = false := decide_eq_false hc
    have Hs := Lib.hid (rows_step Hok.out Hx.out Hm.out (fun z _ hz => by rw [HQ.out, Nat.add_sub_cancel, Hy.out] at hz; injection hz with hz; rw [← hz]; omega))
    refine wp_region_quiet_grown mixed (by kernel_rfl) ?_
    repeat (go_big_quiet_step ((go_at_call 88; exact calls_grown_says (SM _))))
    refine wpQuiet_nil ?_
    rintro _ ⟨⟨nq, osq⟩, rfl⟩
    have G4 := Lib.hid (G.out.trans ((Grew.refl w3).grow nq osq))
    generalize Go.Sort.grow (w3.drewN nq) osq = W4 at G4 ⊢
    clear SM x0 x1 x2 x3
    go_wp2_with fail
    go_roundw
    case rel => exact ⟨k + 1, by have := hlen.out; omega, by go_num, Hs.out, G4.out⟩
    case measure => simp [intOf]; omega
end Go.Proofs.YtlnmmklpccppmaaGreatDoor
