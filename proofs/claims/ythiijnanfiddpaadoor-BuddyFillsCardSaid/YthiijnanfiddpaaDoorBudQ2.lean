/-
  What the heap of blocks that wait does, further: one comes, one goes, and the calls by which the library asks: contracts, one a function.
-/
import Derived.Test.YthiijnanfiddpaaDoorBudQ
import Derived.Test.YthiijnanfiddpaaDoorBudC
import Derived.Deep.AppendLies
import Derived.Deep.RegionLaw
namespace Go.Proofs.YthiijnanfiddpaaDoor
open Go.RowKit

theorem Tryd.infoBlk : (Tryd.prog.info? 32).map (fun i => (i.zero, i.size, i.bytes)) = some (some (.agg #[.int .i64 0, .int .i64 0]), 2, 16) := by kernel_rfl

/-- An append whose run is known, as a step of a region that draws. -/
theorem step_append_run {P : Program} {ops : Array Oper} {o : Oper} {a : Act} {w w' : World} {K : Act → World → Prop} {Q : Exit → Act → World → Prop} {E : Prop} {v y v' : Value} {t u ty : TypeId}
    (hrun : (Builtin.append_ #[t, u] ty #[v, y]).run P w = .ok v' w') (hgd : o.guard = none) (s x : Operand)
    (ho : o.op = .call { callee := .builtin .append, args := #[s, x], argTypes := #[t, u] }) (hty : o.type = ty) (hs : a.eval s = v) (hx : a.eval x = y)
    (hK : K (a.put o.dst v') w') : if Region.wanted o (yielded ops a.tmps) = true then Oper.wp P o a w K Q else E := by
  have hw : Region.wanted o (yielded ops a.tmps) = true := by simp [Region.wanted, hgd]
  rw [if_pos hw]
  subst hty
  unfold Oper.wp execOp
  simp only [ho, resolve, invoke, builtin, Sem.run_bind, Sem.run_pure, Result.andThen_ok, List.map_toArray, List.map_cons, List.map_nil, hs, hx, hrun]
  exact hK

theorem QAt.off {w : World} {base g : Nat} {v : Value} {l : List Blk} (h : QAt w base g v l) : v.ownBlock ≠ some g := by
  intro e
  rcases h.own.2 with ⟨e2, _⟩ | ⟨g', cap, cur, e2, _, hh, _⟩
  · rw [e2] at e; cases e
  · rw [e2] at e
    injection e with e
    have h3 := h.at_
    unfold Whole at h3
    rw [← e, hh] at h3
    injection h3 with h3
    injection h3 with _ ht
    exact absurd ht (by decide)
theorem Waits.below {w w1 w2 : World} {base g : Nat} {v v' : Value} {l : List Blk} (h : Waits w base g v l v' w1) (b : Below w1.heap.size w1 w2) : Waits w base g v l v' w2 := ⟨h.1.below b, h.2.trans (QStep.of_below b g v')⟩
theorem Waits.trans {w w1 w2 : World} {base g : Nat} {v v' v'' : Value} {l m : List Blk} (h : Waits w base g v l v' w1) (k : Waits w1 base g v' m v'' w2) : Waits w base g v m v'' w2 := ⟨k.1, h.2.trans k.2⟩
theorem QAt.waits {w w1 : World} {base g : Nat} {v : Value} {l : List Blk} (h : QAt w base g v l) (b : Below w.heap.size w w1) : Waits w base g v l v w1 := ⟨h.below b, QStep.of_below b g v⟩
/-- A new list is stored. -/
theorem waits_store {w w1 w2 : World} {base g : Nat} {v v' : Value} {l m : List Blk} (h : QAt w base g v l) (hB : Below w.heap.size w w1) (ho : OwnB 32 w2 base v' m) (hg : w1.grownBy w2 v.ownBlock)
    (hv : v'.ownBlock = v.ownBlock ∨ ∃ k, v'.ownBlock = some k ∧ w1.heap.size ≤ k) : Waits w base g v m v' (w2.setCell ⟨g, 0, none⟩ v') := by
  have h1 := h.below hB
  have hlt := h.at_.lt
  have hne := h.off
  have W2 : Whole w2 g 71 [v] := h1.at_.keep (hg.block g h1.at_.lt fun e => hne e.symm)
  have hs := hB.size
  have hs2 := hg.size
  have hne' : v'.ownBlock ≠ some g := by
    rcases hv with e | ⟨k, e, hk⟩
    · rw [e]; exact hne
    · rw [e]; intro e2; injection e2 with e2; omega
  refine ⟨⟨W2.set 0 v', ho.keep fun k hk => heap_setCell_other w2 ⟨g, 0, none⟩ k v' (by rintro rfl; exact hne' hk), h.lo⟩, ?_⟩
  refine ⟨hg.os.trans hB.os, hg.tape.trans hB.tape, hg.output.trans hB.output, by simp [World.setCell]; omega, fun k hk hkg hkv => ?_, ?_⟩
  · rw [heap_setCell_other w2 ⟨g, 0, none⟩ k v' hkg, hg.block k (by omega) (fun e => hkv e.symm), hB.block k hk]
  · rcases hv with e | ⟨k, e, hk⟩
    · exact .inl e
    · exact .inr ⟨k, e, by omega⟩
set_option maxHeartbeats 2000000 in
theorem push_any (base g : Nat) (v : Value) (l : List Blk) (b : Blk) (w : World) (h : QAt w base g v l) (hl : l.length ≤ 1000) (hb : base ≤ w.heap.size) :
    Calls Tryd.prog 72 #[.pointer (some ⟨g, 0, none⟩), bval b] w fun e w' => e = .returned (.tuple #[]) ∧ ∃ v', Waits w base g v (l ++ [b]) v' w' := by
  have hB := (Below.refl w.heap.size w).alloc (Nat.le_refl _) (.cells #[.int .i64 b.1, .int .i64 b.2] 32)
  have h1 := h.below hB
  have h2 := h1.below (Below.refl _ _).drew
  obtain ⟨v', w2, hrun, happ⟩ := run_appB_one (P := Tryd.prog) (w := (w.alloc (.cells #[.int .i64 b.1, .int .i64 b.2] 32)).drew) base 69 69 32 Tryd.underlying69 Tryd.infoBlk rfl v l h2.own b (by omega) (Nat.le_trans hb hB.size)
  obtain ⟨A, n, c, hv⟩ : ∃ A n c, v = .slice A n c := by
    obtain ⟨A, c, e, _⟩ := h.own.shape rfl
    exact ⟨_, _, _, e⟩
  obtain ⟨A', n', c', hv'⟩ : ∃ A n c, v' = .slice A n c := by
    obtain ⟨A, c, e, _⟩ := happ.1.shape rfl
    exact ⟨_, _, _, e⟩
  obtain ⟨c0, c00⟩ := two_allocs (p := ⟨g, 0, none⟩) h.at_.lt (h.at_.cell 0)
  have hgv : some g ≠ v.ownBlock := fun e => h.off e.symm
  have W2 : Whole w2 g 71 [v] := h2.at_.keep (happ.2.1.block g h2.at_.lt hgv)
  have cw := W2.cell 0
  have fw := W2.free 0
  have HW := Lib.hid W2
  have Hap := Lib.hid happ
  have HB := Lib.hid hB
  have H := Lib.hid h
  have hgd := Lib.hid hgv
  clear h h1 h2 hB W2 happ hgv
  obtain ⟨x, o⟩ := b
  unfold bval enc2
  simp only at *
  subst hv
  subst hv'
  have hrun2 : Sem.run Tryd.prog (Builtin.append_ #[69, 69] 69 #[.slice A n c, .slice (some ⟨w.heap.size + 1, 0, none⟩) 1 1]) ((w.alloc (.cells #[.int .i64 x, .int .i64 o] 32)).alloc (.cells #[.int .i64 x, .int .i64 o] 32)).drew = .ok (.slice A' n' c') w2 := by
    have e : (w.alloc (.cells #[.int .i64 x, .int .i64 o] 32)).drew.heap.size = w.heap.size + 1 := by simp
    rw [e] at hrun
    exact hrun
  clear hrun
  go_enter Tryd.func72, Tryd.ntmps72
  go_wp2_with fail
  go_region_law (refine step_append_run hrun2 rfl (.tmp 7) (.tmp 9) rfl rfl rfl rfl ?_)
  all_goals
    go_end0
    exact ⟨rfl, _, waits_store H.out (HB.out.trans ((Below.refl _ _).drew.mono HB.out.size)) Hap.out.1 Hap.out.2.1 Hap.out.2.2⟩

set_option maxHeartbeats 2000000 in
theorem pop_any (base g : Nat) (v : Value) (l : List Blk) (m : Nat) (w : World) (h : QAt w base g v l) (hl : l.length = m + 1) (h2 : m ≤ 1000) :
    Calls Tryd.prog 73 #[.pointer (some ⟨g, 0, none⟩)] w fun e w' => e = .returned (bval (nth l m)) ∧ ∃ v', Waits w base g v (l.take m) v' w' := by
  obtain ⟨r, cap, rfl, _, hr, hc, hcm⟩ := h.own.form hl (by omega)
  obtain ⟨c0, c00⟩ := two_allocs (p := ⟨g, 0, none⟩) h.at_.lt (h.at_.cell 0)
  obtain ⟨a0, a1⟩ := h.own.cell hl (nth_get (show m < l.length by omega))
  obtain ⟨a0', a0''⟩ := two_allocs (p := ⟨r, m * 2, none⟩) hr a0
  obtain ⟨a1', a1''⟩ := two_allocs (p := ⟨r, m * 2 + 1, none⟩) hr a1
  have hcut := h.own.cut hl (show m ≤ m + 1 by omega)
  have hg := h.at_.lt
  have f0 : ∀ o o', ((w.alloc o).alloc o').frozen? ⟨g, 0, none⟩ = false := fun o o' => by
    have b := ((Below.refl w.heap.size w).alloc (Nat.le_refl _) o).alloc (by simp) o'
    exact (h.at_.below b).free 0
  have g1 : w.heap.size + 1 ≠ g := by omega
  have g2 : w.heap.size ≠ g := by omega
  have g3 : g ≠ w.heap.size + 1 := by omega
  have g4 : g ≠ w.heap.size := by omega
  obtain ⟨⟨x, o⟩, hx⟩ : ∃ x, x = nth l m := ⟨_, rfl⟩
  rw [← hx] at a0 a1 a0' a1' a0'' a1'' ⊢
  unfold bval enc2
  simp only at *
  have k1 : (m : Int) < ((m + 1 : Nat) : Int) := by omega
  have k2 : ((m + 1 : Nat) : Int) - 1 = (m : Int) := by omega
  have H := Lib.hid h
  have Hcut := Lib.hid hcut
  unfold maxLen at hcm
  clear h hcut hx hl
  go_enter Tryd.func73, Tryd.ntmps73
  go_wp2
  have hW : Waits w base g (.slice (some ⟨r, 0, none⟩) (m + 1) cap) (l.take m) (.slice (some ⟨r, 0, none⟩) m cap) (w.setCell ⟨g, 0, none⟩ (.slice (some ⟨r, 0, none⟩) m cap)) :=
    waits_store H.out (Below.refl _ _) Hcut.out (grown_refl _ _) (.inl rfl)
  have hs : (w.setCell ⟨g, 0, none⟩ (.slice (some ⟨r, 0, none⟩) m cap)).heap.size = w.heap.size := by simp [World.setCell]
  generalize w.setCell ⟨g, 0, none⟩ (.slice (some ⟨r, 0, none⟩) m cap) = w1 at hW hs ⊢
  have B1 := (Box2.new w1 (x, o) 32).alloc (.cells #[.int .i64 x, .int .i64 o] 32)
  rw [hs] at B1
  refine bodyPost_ret (results_box (b := (x, o)) rfl _ _ w.heap.size rfl B1.c0 B1.c1) rfl ?_
  exact ⟨rfl, _, hW.below (((Below.refl _ _).alloc (Nat.le_refl _) _).alloc (by simp) _)⟩
end Go.Proofs.YthiijnanfiddpaaDoor
