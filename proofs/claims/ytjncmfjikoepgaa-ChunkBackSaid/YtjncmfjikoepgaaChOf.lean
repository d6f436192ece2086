/-
  Package chunk: Of and Cut: contracts.
-/
import Derived.Maps.AppendAt
import Derived.Test.YtjncmfjikoepgaaChIt
namespace Go.Proofs.Ytjncmfjikoepgaa
open Go.RowKit Go.Shelf

attribute [local go_sem] Oper.semAt_some
theorem wpListIn_append_run {F : Fence} {n : Nat} {P : Program} {w w' : World} {ops : Array Oper} {rest : List Oper} {o : Oper} {a : Act} {Q : Exit → Act → World → Prop} {v y v' : Value} {t u ty : TypeId}
    (hrun : (Builtin.append_ #[t, u] ty #[v, y]).run P w = .ok v' w') (hgd : o.guard = none) (s x : Operand)
    (ho : o.op = .call { callee := .builtin .append, args := #[s, x], argTypes := #[t, u] }) (hty : o.type = ty) (hs : a.eval s = v) (hx : a.eval x = y)
    (h : wpListIn F n P ops Q rest (a.put o.dst v') w') : wpListIn F n P ops Q (o :: rest) a w := by
  subst hty
  refine wpListIn_plain hgd fun K hK => ?_
  unfold Oper.wpIn
  refine ⟨by simp [Oper.about, ho, resolve, Target.leads, Sem.run_pure], ?_⟩
  rw [Oper.semAt_plain F _ _ (by rw [ho]; intro c hc'; cases hc')]
  simp [execOp, ho, resolve, invoke, builtin, hs, hx, hrun, Result.andThen]
  exact hK _ _ h
/-- A text, or nothing, and an error's number: what Cut tells. -/
def CutP (w : World) (s : ByteArray) (i : Int) (e : Ending) (w' : World) : Prop :=
  (((s.size ≤ 65536 ∧ 0 ≤ i ∧ i < cnt s.size) ∧ e = .returned (.tuple #[.string (pce s i.toNat), .int .i64 0])) ∨
    (¬ (s.size ≤ 65536 ∧ 0 ≤ i ∧ i < cnt s.size) ∧ e = .returned (.tuple #[.string ⟨#[]⟩, .int .i64 100]))) ∧ Below w.heap.size w w'
/-- A box lies as it lay behind the turn of another block. -/
theorem boxed_putObj {W : World} {B D : Nat} {t : TypeId} {v : Value} (h : Go.Boxed W B t v) (o : Obj) (hne : B ≠ D) : Go.Boxed (W.putObj D o) B t v := by
  unfold Go.Boxed World.putObj
  rw [Array.getElem?_setIfInBounds_ne (fun e => hne e.symm)]
  exact h
theorem below_none {n B : Nat} {w W : World} (h : Below n w W) (hn : n ≤ w.heap.size) (hB : w.heap.size ≤ B) {o : Obj} (hK : W.heap[B]? = some o) (ho : o.isCells = false) (hw : o.isWalk = false) (o' : Obj) : Below n w (W.putObj B o') :=
  h.trans (belowK_b (w := w) hn _ B _ _ hB hK ho hw)
/-- Two results that lie in boxes. -/
theorem results_te {fn : Func} {p q : Tmp} (h : fn.results = #[.cell p 9, .cell q 25]) (tmps : Array Value) (w : World) (kp kq : Nat) (hp : tmps.getD p undef = .pointer (some ⟨kp, 0, none⟩)) (hq : tmps.getD q undef = .pointer (some ⟨kq, 0, none⟩))
    {s : ByteArray} {r : Int} (K : w.cell? ⟨kp, 0, none⟩ = some (.string s)) (R : w.cell? ⟨kq, 0, none⟩ = some (.int .i64 r)) : (results fn tmps).run Try.prog w = .ok (.tuple #[.string s, .int .i64 r]) w := by
  have u1 := Try.underlying9
  have u2 := Try.underlying25
  have hp' : tmps[p]?.getD undef = .pointer (some ⟨kp, 0, none⟩) := by simpa using hp
  have hq' : tmps[q]?.getD undef = .pointer (some ⟨kq, 0, none⟩) := by simpa using hq
  simp only [results, h]
  simp [hp', hq', asAddr, loadVar]
  go_simp
set_option maxRecDepth 100000 in
set_option maxHeartbeats 4000000 in
theorem cut_in (s : ByteArray) (i : Int) (w : World) (hs : s.size ≤ 1000000) (hi : -9223372036854775808 ≤ i ∧ i ≤ 9223372036854775807) :
    CallsIn Fence.wide 3 Try.prog 11 #[.string s, .int .i64 i] w (CutP w s i) := by
  refine callsIn_of_wp_marks Try.func11 rfl trivial ?_ rfl
  simp only [Try.ntmps11, List.size_toArray, List.length_cons, List.length_nil, Nat.reduceAdd, Nat.reduceSub, Array.replicate_succ, Array.replicate_zero, List.push_toArray, List.append_toArray, List.nil_append, List.cons_append]
  obtain ⟨p, hp⟩ : ∃ p, p = w.heap.size := ⟨_, rfl⟩
  have b0 := Go.Boxed.new w 3 (.int .i64 i)
  have b1 := Go.Boxed.new (w.alloc (.cells #[.int .i64 i] 3)) 9 (.string ⟨#[]⟩)
  have b2 := Go.Boxed.new ((w.alloc (.cells #[.int .i64 i] 3)).alloc (.cells #[.string ⟨#[]⟩] 9)) 25 (.int .i64 0)
  by_cases hbig : 65536 < s.size
  · gi_wp2
    have B : Below w.heap.size w (((w.alloc (.cells #[.int .i64 i] 3)).alloc (.cells #[.string ⟨#[]⟩] 9)).alloc (.cells #[.int .i64 100] 25)) := (((Below.refl _ w).alloc (Nat.le_refl _) _).alloc (by simp) _).alloc (by simp; omega) _
    exact ⟨_, results_te rfl _ _ (w.heap.size + 1) (w.heap.size + 1 + 1) rfl rfl (by go_simp) (by go_simp), .inr ⟨by omega, rfl⟩, B⟩
  · have b3 := Go.Boxed.new (((w.alloc (.cells #[.int .i64 i] 3)).alloc (.cells #[.string ⟨#[]⟩] 9)).alloc (.cells #[.int .i64 0] 25)) 9 (.string s)
    simp only [World.size_alloc] at b1 b2 b3
    have B : Below w.heap.size w ((((w.alloc (.cells #[.int .i64 i] 3)).alloc (.cells #[.string ⟨#[]⟩] 9)).alloc (.cells #[.int .i64 0] 25)).alloc (.cells #[.string s] 9)) := ((((Below.refl _ w).alloc (Nat.le_refl _) _).alloc (by simp) _).alloc (by simp; omega) _).alloc (by simp; omega) _
    have c0 := ((b0.alloc (.cells #[.string ⟨#[]⟩] 9)).alloc (.cells #[.int .i64 0] 25)).alloc (.cells #[.string s] 9)
    have c1 := (b1.alloc (.cells #[.int .i64 0] 25)).alloc (.cells #[.string s] 9)
    have c2 := b2.alloc (.cells #[.string s] 9)
    gi_wp2_with (refine ⟨trivial, ?_⟩; gi_at_call 23; refine (callsIn_wide.2 (chunks_any s _)).mono ?_; rintro e w' ⟨rfl, rfl⟩)
    generalize hW0 : ((((w.alloc (.cells #[.int .i64 i] 3)).alloc (.cells #[.string ⟨#[]⟩] 9)).alloc (.cells #[.int .i64 0] 25)).alloc (.cells #[.string s] 9)) = W0 at *
    have hsz : W0.heap.size = w.heap.size + 1 + 1 + 1 + 1 := by rw [← hW0]; simp
    clear hW0 b0 b1 b2
    refine wpIn_rangeFunc_ownG rfl (by decide) (gf := 36) (lb := #[.pointer (some ⟨w.heap.size + 1 + 1 + 1, 0, none⟩)]) rfl trivial (enters_of Try.func36 (by kernel_rfl) rfl)
      (chunks_stops s hs _ (w.heap.size + 1 + 1 + 1) (by omega) b3.cell) (fun h k => k.trans h) (fun W l o o' hl _ _ _ => by show (W.putObj l o').heap[w.heap.size + 1 + 1 + 1]? = _; unfold World.putObj; rw [Array.getElem?_setIfInBounds_ne (by omega)]) (Below.refl _ _) (fun _ => rfl)
      (fun pre W => Below w.heap.size w W ∧ Go.Boxed W w.heap.size 3 (.int .i64 i) ∧ Go.Boxed W (w.heap.size + 1) 9 (.string ⟨#[]⟩) ∧ Go.Boxed W (w.heap.size + 1 + 1) 25 (.int .i64 0) ∧ ∀ x ∈ pre, ((x : Nat) : Int) ≠ i)
      (fun c _ W => Below w.heap.size w W ∧ Go.Boxed W (w.heap.size + 1) 9 (.string (pce s i.toNat)) ∧ Go.Boxed W (w.heap.size + 1 + 1) 25 (.int .i64 0) ∧ (0 ≤ i ∧ i < cnt s.size) ∧ c = .ret)
      (OwnFrom.and (ownFrom_below (Nat.le_refl _) (by omega)) (OwnFrom.and (Own.from (boxed_own _ _ _) _) (OwnFrom.and (Own.from (boxed_own _ _ _) _) (OwnFrom.and (Own.from (boxed_own _ _ _) _) (ownFrom_pure _ _)))))
      (fun c => OwnFrom.and (ownFrom_below (Nat.le_refl _) (by omega)) (OwnFrom.and (Own.from (boxed_own _ _ _) _) (OwnFrom.and (Own.from (boxed_own _ _ _) _) (ownFrom_pure _ _))))
      ⟨B, c0, c1, c2, fun _ h => by cases h⟩
      (fun x => { tmps := #[.string s, .int .i64 i, undef, .pointer (some ⟨w.heap.size, 0, none⟩), .pointer (some ⟨w.heap.size + 1, 0, none⟩), .pointer (some ⟨w.heap.size + 1 + 1, 0, none⟩), .int .i64 (x.1 : Int), .string (pce s x.1), .string s, .int .i64 s.size, .bool (decide (65536 < (s.size : Int))), .string s, .func (.func 36) #[] #[.pointer (some ⟨w.heap.size + 1 + 1 + 1, 0, none⟩)], .int .i64 (x.1 : Int), .string (pce s x.1), undef, undef, undef, undef, undef], defers := [] }) ?assign ?body ?done ?stop
    case assign =>
      intro l x W K hK
      unfold yv
      gi_wp2
      exact hK
    case body =>
      rintro lp pre x W ⟨hB, h0, h1, h2, hne⟩ hlt
      have hc0 := h0.cell
      by_cases hx : (x.1 : Int) = i
      · have hxs : (pce s x.1).size ≤ 1000000 := by
          rw [pce_size x.2]
          have := pln_le s.size x.1
          omega
        obtain ⟨t, ht⟩ : ∃ t, t = pce s x.1 := ⟨_, rfl⟩
        rw [← ht] at hxs ⊢
        have HC := strClone_any t W hxs
        have H := Lib.hid (And.intro h0 (And.intro h1 (And.intro h2 (And.intro hB (And.intro hx ht)))))
        have Hh := Lib.hid h1.lt
        clear h0 h1 h2 hB ht
        subst hx
        gi_wp2_with (refine ⟨trivial, ?_⟩; gi_at_call 28; refine (CallsIn.inRound lp (callsIn_wide.2 HC)).mono ?_; rintro e w' ⟨rfl, hb⟩; obtain ⟨h0, h1, h2, hB, hx, ht⟩ := H.out; have d1 := (hb.block _ h1.lt).trans h1; have d2 := (hb.block _ h2.lt).trans h2; have e1 := Go.Boxed.cell d1; have e2 := Go.Boxed.frozen d1; have e3 := Go.Boxed.cell d2; have e4 := Go.Boxed.frozen d2)
        have hp1 := hB.size
        refine ⟨((KeepsOthers.of_grownBy (grown_below hb none) (by rintro _ _ ⟨⟩)).trans ((KeepsOthers.setCell _ _ _).trans (KeepsOthers.setCell _ _ _))).from _,
          ((hB.trans (hb.mono hp1)).setCell (p := ⟨w.heap.size + 1, 0, none⟩) (by dsimp only; omega) _).setCell (p := ⟨w.heap.size + 1 + 1, 0, none⟩) (by dsimp only; omega) _, ?_, ?_, ⟨by omega, by have := x.2; omega⟩, rfl⟩
        · rw [Int.toNat_natCast]
          exact Go.Boxed.other (Go.Boxed.set _ d1) (show w.heap.size + 1 ≠ w.heap.size + 1 + 1 by omega) _
        · exact Go.Boxed.set _ (Go.Boxed.other d2 (show w.heap.size + 1 + 1 ≠ w.heap.size + 1 by omega) _)
      · gi_wp2
        refine ⟨KeepsFrom.refl _ _, rfl, hB, h0, h1, h2, fun y hy => ?_⟩
        rcases List.mem_append.1 hy with h | h
        · exact hne y h
        · rw [List.mem_singleton.1 h]
          exact hx
    case done =>
      rintro D ys W hD rfl ⟨hB, h0, h1, h2, hne⟩ hK
      have f1 := h1.cell
      have f2 := h1.frozen
      have f3 := h2.cell
      have f4 := h2.frozen
      have b1 := Go.Boxed.other (Go.Boxed.set (.string ⟨#[]⟩) h1) (show w.heap.size + 1 ≠ w.heap.size + 1 + 1 by omega) (.int .i64 100)
      have b2 := Go.Boxed.set (.int .i64 100) (Go.Boxed.other h2 (show w.heap.size + 1 + 1 ≠ w.heap.size + 1 by omega) (.string ⟨#[]⟩))
      have hK' := ((KeepsOthers.setCell W ⟨w.heap.size + 1, 0, none⟩ (.string ⟨#[]⟩)).trans (KeepsOthers.setCell _ ⟨w.heap.size + 1 + 1, 0, none⟩ (.int .i64 100))).same D _ hK rfl
      have hB' := (hB.setCell (p := ⟨w.heap.size + 1, 0, none⟩) (by dsimp only; omega) (.string ⟨#[]⟩)).setCell (p := ⟨w.heap.size + 1 + 1, 0, none⟩) (by dsimp only; omega) (.int .i64 100)
      have hno : ¬ (s.size ≤ 65536 ∧ 0 ≤ i ∧ i < cnt s.size) := fun ⟨_, q1, q2⟩ => hne ⟨i.toNat, by omega⟩ (List.mem_finRange _) (by simp; omega)
      have HH := Lib.hid (And.intro b1 (And.intro b2 (And.intro hK' (And.intro hB' hno))))
      clear b1 b2 hK' hB' hno hne
      gi_wp2
      obtain ⟨b1, b2, hK', hB', hno⟩ := HH.out
      refine ⟨by simp, .inl ⟨_, _, rfl, run_takeDeferred hK', ?_⟩⟩
      exact ⟨_, results_te rfl _ _ (w.heap.size + 1) (w.heap.size + 1 + 1) rfl rfl (boxed_putObj b1 _ (by omega)).cell (boxed_putObj b2 _ (by omega)).cell, .inr ⟨hno, rfl⟩, below_none hB' (Nat.le_refl _) (by omega) hK' rfl rfl _⟩
    case stop =>
      rintro D c pre W hD _ ⟨hB, h1, h2, hr, rfl⟩ hK
      gi_wp2
      refine ⟨by simp, .inl ⟨_, _, rfl, run_takeDeferred hK, ?_⟩⟩
      exact ⟨_, results_te rfl _ _ (w.heap.size + 1) (w.heap.size + 1 + 1) rfl rfl (boxed_putObj h1 _ (by omega)).cell (boxed_putObj h2 _ (by omega)).cell, .inl ⟨⟨by omega, hr⟩, rfl⟩, below_none hB (Nat.le_refl _) (by omega) hK rfl rfl _⟩
theorem cut_any (s : ByteArray) (i : Int) (w : World) (hs : s.size ≤ 1000000) (hi : -9223372036854775808 ≤ i ∧ i ≤ 9223372036854775807) :
    Calls Try.prog 11 #[.string s, .int .i64 i] w (CutP w s i) := callsIn_wide.1 (cut_in s i w hs hi)
end Go.Proofs.Ytjncmfjikoepgaa
