/-
  A heap in memory of its own, by the document: contract.
  When a heap is right, by blocks that lie side by side: plain mathematics, no program.
-/
import Derived.Test.YtlnmmklpccppmaaGreatDoorSg16
import Derived.Test.YtlnmmklpccppmaaGreatDoorSg14
namespace Go.Proofs.YtlnmmklpccppmaaGreatDoor
open Go.RowKit
theorem Tryz.infoOb : (Tryz.prog.info? 68).map (fun i => (i.zero, i.size, i.bytes)) = some (some (.agg #[.int .i64 0, .int .i64 0, .int .i64 0, .slice none 0 0, .slice none 0 0]), 5, 72) := by kernel_rfl
theorem Tryz.infoInt : (Tryz.prog.info? 3).map (fun i => (i.zero, i.size, i.bytes)) = some (some (.int .i64 0), 1, 8) := by kernel_rfl
/-- A heap in memory of the call's own. -/
structure OwnHp (w : World) (base : Nat) (s : HSl) (os : List (Ob × OSl)) (H : Hp) : Prop where
  objs : OwnOs 68 3 w base (.slice s.A s.n s.c) os
  obs : H.obs = os.map (·.1)
  free : OwnB 65 w base (.slice s.F s.m s.d) H.fr
  tp : H.tp.length = 4
  nx : H.nx ≤ 9223372036854775807
theorem OwnHp.rd {w : World} {base : Nat} {s : HSl} {os : List (Ob × OSl)} {H : Hp} (h : OwnHp w base s os H) : RdH w s H := by
  obtain ⟨A, c, hv, hr⟩ := h.objs.rd
  obtain ⟨F, d, hf, hfr⟩ := h.free.rd
  injection hv with e1 e2 e3
  injection hf with f1 f2 f3
  exact ⟨by rw [e1, e2, h.obs]; exact hr, by rw [f1, f2]; exact hfr, h.tp, h.nx⟩
theorem OwnHp.below {w w' : World} {base : Nat} {s : HSl} {os : List (Ob × OSl)} {H : Hp} (h : OwnHp w base s os H) (b : Below w.heap.size w w') : OwnHp w' base s os H := ⟨h.objs.below b, h.obs, h.free.below b, h.tp, h.nx⟩
theorem OwnHp.mono {w : World} {base base' : Nat} {s : HSl} {os : List (Ob × OSl)} {H : Hp} (h : OwnHp w base s os H) (b : base' ≤ base) : OwnHp w base' s os H := ⟨h.objs.mono b, h.obs, h.free.mono b, h.tp, h.nx⟩
def zcs : List Value := [.int .i64 0, .slice none 0 0, .int .i64 0, .int .i64 0, .int .i64 0, .int .i64 0, .int .i64 0, .slice none 0 0]
/-- Memory between the rounds of Own: the argument's box, the result's, the row so far. -/
structure CpMem (w : World) (cs : List Value) (v : Value) (os : List (Ob × OSl)) (W : World) : Prop where
  own : OwnOs 68 3 W (w.heap.size + 2) v os
  kh : Whole W w.heap.size 26 cs
  kr : Whole W (w.heap.size + 1) 26 zcs
  bel : Below w.heap.size w W
theorem CpMem.below {w W W' : World} {cs : List Value} {v : Value} {os : List (Ob × OSl)} (h : CpMem w cs v os W) (b : Below W.heap.size W W') : CpMem w cs v os W' :=
  ⟨h.own.below b, h.kh.below b, h.kr.below b, h.bel.trans (b.mono h.bel.size)⟩
/-- Within a round: the object's box, a block of its own. -/
structure CbMem (w : World) (cs : List Value) (v : Value) (os : List (Ob × OSl)) (bx : Nat) (xs : List Value) (W : World) : Prop where
  cp : CpMem w cs v os W
  bx_ : Whole W bx 68 xs
  hi : w.heap.size + 2 ≤ bx
  row : ∀ k, v.ownBlock = some k → k < bx
  rows : ∀ k ∈ blocksOf os, k < bx
theorem CbMem.below {w W W' : World} {cs xs : List Value} {v : Value} {os : List (Ob × OSl)} {bx : Nat} (h : CbMem w cs v os bx xs W) (b : Below W.heap.size W W') : CbMem w cs v os bx xs W' :=
  ⟨h.cp.below b, h.bx_.below b, h.hi, h.row, h.rows⟩
theorem CbMem.set {w W : World} {cs xs : List Value} {v : Value} {os : List (Ob × OSl)} {bx : Nat} (h : CbMem w cs v os bx xs W) (j : Nat) (u : Value) : CbMem w cs v os bx (xs.set j u) (W.setCell ⟨bx, j, none⟩ u) := by
  have hg := grown_set W bx j u
  have hb := h.hi
  refine ⟨⟨h.cp.own.grown hg (fun k hk e => ?_) (fun k hk e => ?_), h.cp.kh.grown hg (by omega), h.cp.kr.grown hg (by omega), below_grown h.cp.bel hg h.cp.bel.size (by omega)⟩, h.bx_.set j u, h.hi, h.row, h.rows⟩
  · injection e with e; have := h.row k hk; omega
  · injection e with e; have := h.rows k hk; omega
theorem grown_set8 (w : World) (g : Nat) (a0 a1 a2 a3 a4 a5 a6 a7 : Value) : w.grownBy ((((((((w.setCell ⟨g, 0, none⟩ a0).setCell ⟨g, 1, none⟩ a1).setCell ⟨g, 2, none⟩ a2).setCell ⟨g, 3, none⟩ a3).setCell ⟨g, 4, none⟩ a4).setCell ⟨g, 5, none⟩ a5).setCell ⟨g, 6, none⟩ a6).setCell ⟨g, 7, none⟩ a7) (some g) :=
  grown_trans (grown_trans (grown_trans (grown_trans (grown_trans (grown_trans (grown_trans (grown_set _ g 0 a0) (grown_set _ g 1 a1)) (grown_set _ g 2 a2)) (grown_set _ g 3 a3)) (grown_set _ g 4 a4)) (grown_set _ g 5 a5)) (grown_set _ g 6 a6)) (grown_set _ g 7 a7)
theorem nodup_two {a b : Option Nat} (h : ∀ i j, a = some i → b = some j → i ≠ j) : (a.toList ++ b.toList).Nodup := by
  cases a <;> cases b <;> simp
  exact h _ _ rfl rfl
end Go.Proofs.YtlnmmklpccppmaaGreatDoor
namespace Go.Proofs.YtlnmmklpccppmaaGreatDoor
open Go.RowKit
/-- Each block begins where the one ahead of it ends. -/
def contig : Int → List Blk → Prop
  | _, [] => True
  | s, b :: t => b.1 = s ∧ contig (s + sz b.2) t
theorem contig_append : ∀ {l m : List Blk} {s : Int}, contig s (l ++ m) ↔ contig s l ∧ contig (s + sumL l) m
  | [], m, s => by simp [contig, sumL]
  | b :: t, m, s => by
    show (b.1 = s ∧ contig (s + sz b.2) (t ++ m)) ↔ (b.1 = s ∧ contig (s + sz b.2) t) ∧ contig (s + sumL (b :: t)) m
    rw [contig_append (l := t), sumL_cons, and_assoc, Int.add_assoc]
theorem contig_one {s : Int} {b : Blk} : contig s [b] ↔ b.1 = s := by simp [contig]
theorem contig_in : ∀ {m : List Blk} {s : Int}, contig s m → ∀ b ∈ m, s ≤ b.1 ∧ b.1 + sz b.2 ≤ s + sumL m
  | [], _, _, b, hb => by cases hb
  | c :: t, s, h, b, hb => by
    obtain ⟨h1, h2⟩ := h
    have hp := sz_pos c.2
    have h0 : 0 ≤ sumL t := by have := sumL_ge t; omega
    rw [sumL_cons]
    rcases List.mem_cons.1 hb with e | e
    · subst e; omega
    · have := contig_in h2 b e
      omega
theorem contig_apart : ∀ {m : List Blk} {s : Int}, contig s m → m.Pairwise (fun a b => ¬ Meets b a)
  | [], _, _ => List.Pairwise.nil
  | c :: t, s, h => by
    obtain ⟨h1, h2⟩ := h
    rw [List.pairwise_cons]
    refine ⟨fun b hb hm => ?_, contig_apart h2⟩
    have := contig_in h2 b hb
    have := hm.1
    omega
/-- Blocks that rise, none on another one, of as many words as there is room for, lie side by side. -/
theorem contig_of : ∀ {m : List Blk} {s R : Int}, m.Pairwise (fun a b => a.1 ≤ b.1) → m.Pairwise (fun a b => ¬ Meets b a) → (∀ b ∈ m, s ≤ b.1 ∧ b.1 + sz b.2 ≤ R) → sumL m ≤ max 0 (R - s) ∧ (s + sumL m = R → contig s m)
  | [], s, R, _, _, _ => ⟨by simp [sumL]; omega, fun _ => trivial⟩
  | c :: t, s, R, h1, h2, h3 => by
    rw [List.pairwise_cons] at h1 h2
    have hp := sz_pos c.2
    have hc := h3 c (List.mem_cons_self ..)
    obtain ⟨i1, i2⟩ := contig_of (s := c.1 + sz c.2) (R := R) h1.2 h2.2 (fun b hb => ⟨by
      have q1 := h1.1 b hb
      have q2 := h2.1 b hb
      have hpb := sz_pos b.2
      unfold Meets at q2
      omega, (h3 b (List.mem_cons_of_mem _ hb)).2⟩)
    rw [sumL_cons]
    refine ⟨by omega, fun e => ?_⟩
    have e1 : c.1 = s := by omega
    exact ⟨e1, by rw [← e1]; exact i2 (by omega)⟩
/-- An object has a block of its order at a multiple of its size. -/
def Shp (x : Ob) : Prop := 0 ≤ needI x.ws.length x.ls.length ∧ x.bl.2 = needI x.ws.length x.ls.length ∧ x.bl.1 % sz x.bl.2 = 0
instance (x : Ob) : Decidable (Shp x) := by unfold Shp; infer_instance
/-- The objects rise below the next handle, each with a block of its order. -/
def ObsR (h : Hp) : Prop := (1 ≤ h.nx ∧ h.nx ≤ 1000001) ∧ h.obs.Pairwise (fun a b => a.hd < b.hd) ∧ ∀ x ∈ h.obs, 1 ≤ x.hd ∧ x.hd < h.nx ∧ Shp x
def LinksR (h : Hp) : Prop := (∀ x ∈ h.obs, ∀ t ∈ x.ls, Leads h t) ∧ ∀ t ∈ h.tp, Leads h t
theorem rightH_iff {h : Hp} {m : List Blk} (ho : ObsR h) (hf : Right h.od h.fr) (hp : m.Perm (blks h)) (hs : m.Pairwise (fun a b => a.1 ≤ b.1)) : RightH h ↔ (contig 0 m ∧ sumL m = sz h.od) ∧ LinksR h := by
  have hsum := sumL_perm hp
  constructor
  · intro k
    have hmay : ∀ b ∈ m, May h.od b := fun b hb => by
      have := hp.mem_iff.1 hb
      unfold blks at this
      rcases List.mem_append.1 this with e | e
      · exact hf.may e
      · obtain ⟨x, hx, rfl⟩ := List.mem_map.1 e
        exact (k.ok x hx).2.2.2.1
    have hap : m.Pairwise (fun a b => ¬ Meets b a) := hp.symm.pairwise k.apart (fun q r => q r.symm)
    have hc := contig_of (s := 0) (R := sz h.od) hs hap (fun b hb => by have := (hmay b hb).2.2; omega)
    exact ⟨⟨hc.2 (by rw [hsum, k.sum]; omega), by rw [hsum, k.sum]⟩, fun x hx => (k.ok x hx).2.2.2.2, k.tp⟩
  · rintro ⟨⟨c1, c2⟩, l1, l2⟩
    have hr := hf.1
    refine ⟨hf, ho.1, ho.2.1, fun x hx => ?_, ?_, l2, by rw [← hsum, c2]⟩
    · obtain ⟨a1, a2, a3, a4, a5⟩ := ho.2.2 x hx
      have hb : x.bl ∈ m := hp.mem_iff.2 (by unfold blks; exact List.mem_append_right _ (List.mem_map_of_mem hx))
      have hin := contig_in c1 x.bl hb
      have hn := needI_bd x.ws.length x.ls.length
      have hle := sz_inj (o := x.bl.2) (p := h.od) (by omega) (by omega) (by omega) hr.2 (by omega)
      exact ⟨a1, a2, a4.symm, ⟨by omega, hle, by omega, by omega, a5⟩, l1 x hx⟩
    · exact hp.pairwise (contig_apart c1) (fun q r => q r.symm)
theorem rightH_obs {h : Hp} (k : RightH h) : ObsR h := ⟨k.nx, k.rise, fun x hx => by
  obtain ⟨a1, a2, a3, a4, a5⟩ := k.ok x hx
  exact ⟨a1, a2, by rw [a3]; exact a4.1, a3.symm, a4.2.2.2.2⟩⟩
end Go.Proofs.YtlnmmklpccppmaaGreatDoor
