/-
  Rows of structs that are made at once and then stored one by one. Plain lemmas over any program.
  A list of objects that a reader reads: the contract of list.
-/
import Derived.Test.YtlnmmklpccppmaaGreatDoorTg36
import Derived.Laws.MakeOwn
import Derived.Test.YtlnmmklpccppmaaGreatDoorTg37
import Derived.Test.YtlnmmklpccppmaaGreatDoorTg18
namespace Go.Proofs.YtlnmmklpccppmaaGreatDoor
open Go.RowKit
/-- make([]T, n), T of m cells. -/
theorem run_makeS {P : Program} {t e : TypeId} {z : Value} {m bytes : Nat} (ht : P.underlying t = some (.slice e)) (hi : (P.info? e).map (fun i => (i.zero, i.size, i.bytes)) = some (some z, m, bytes)) (hz : z.cells.size = m) (hm : 0 < m) (n : Nat) (hn : bytes * n ≤ 140737488355328) (hn2 : n ≤ 140737488355328) :
    ∃ cur : List Value, cur.length = n * m ∧ (∀ u ∈ cur, u ∈ z.cells.toList) ∧ ∀ W : World, (Instr.makeSlice t (.int .i64 (n : Int)) (.int .i64 (n : Int))).run P W = .ok (.slice (some ⟨W.heap.size, 0, none⟩) n n) (W.alloc (.cells cur.toArray e)) := by
  obtain ⟨i0, hi, hz0, hz1, hz2⟩ := info_parts hi
  have hb : (bytes : Int) * (n : Int) ≤ 281474976710656 := by
    have h : ((bytes * n : Nat) : Int) ≤ 281474976710656 := by omega
    rwa [Int.natCast_mul] at h
  refine ⟨(madeCells z.cells (n * m)).toList, by rw [Array.length_toList, size_madeCells], fun u hu => ?_, fun W => ?_⟩
  · unfold madeCells at hu
    rw [Array.toList_map, List.mem_map] at hu
    obtain ⟨i, _, rfl⟩ := hu
    have hlt : i % z.cells.size < z.cells.size := Nat.mod_lt _ (by omega)
    rw [getElem!_pos z.cells _ hlt]
    exact Array.mem_toList_iff.2 (Array.getElem_mem hlt)
  · have h := run_make (P := P) W t e i0 _ ht hi hz0 .i64 .i64 (n : Int) (n : Int) (by omega) (by omega) (by rw [hz2]; exact hb) (by omega)
    rw [h, Int.toNat_natCast, hz1, Array.toArray_toList]
theorem split_at {α : Type} {l : List α} {p m : Nat} (h : p + m ≤ l.length) : ∃ xs ys zs, l = xs ++ (ys ++ zs) ∧ xs.length = p ∧ ys.length = m ∧ xs = l.take p := by
  refine ⟨l.take p, (l.drop p).take m, (l.drop p).drop m, ?_, by rw [List.length_take]; omega, by rw [List.length_take, List.length_drop]; omega, rfl⟩
  rw [List.take_append_drop, List.take_append_drop]
theorem sets2 {α : Type} {l : List α} {p : Nat} (h : p + 2 ≤ l.length) (a b : α) : ((l.set p a).set (p + 1) b).take (p + 2) = l.take p ++ [a, b] := by
  obtain ⟨xs, ys, zs, rfl, hx, hy, e⟩ := split_at h
  rw [← e]
  match ys, hy with
  | [y0, y1], _ => subst hx; simp [List.take_append]; exact List.take_of_length_le (by omega)
theorem sets4 {α : Type} {l : List α} {p : Nat} (h : p + 4 ≤ l.length) (a b c d : α) : ((((l.set p a).set (p + 1) b).set (p + 2) c).set (p + 3) d).take (p + 4) = l.take p ++ [a, b, c, d] := by
  obtain ⟨xs, ys, zs, rfl, hx, hy, e⟩ := split_at h
  rw [← e]
  match ys, hy with
  | [y0, y1, y2, y3], _ => subst hx; simp [List.take_append]; exact List.take_of_length_le (by omega)
theorem sets5 {α : Type} {l : List α} {p : Nat} (h : p + 5 ≤ l.length) (a b c d f : α) : (((((l.set p a).set (p + 1) b).set (p + 2) c).set (p + 3) d).set (p + 4) f).take (p + 5) = l.take p ++ [a, b, c, d, f] := by
  obtain ⟨xs, ys, zs, rfl, hx, hy, e⟩ := split_at h
  rw [← e]
  match ys, hy with
  | [y0, y1, y2, y3, y4], _ => subst hx; simp [List.take_append]; exact List.take_of_length_le (by omega)
/-- A made row whose first cells are known, as the call's own. -/
theorem Whole.ownS {w : World} {g : Nat} {t : TypeId} {cur xs : List Value} {m n base : Nat} (h : Whole w g t cur) (hb : base ≤ g) (hl : cur.length = n * m) (hx : xs.length = n * m) (ht : cur.take (n * m) = xs) (hm : n ≤ maxLen) : w.ownsRow base t m (.slice (some ⟨g, 0, none⟩) n n) n xs :=
  ⟨hx, .inr ⟨g, n, cur.toArray, rfl, hb, h, Nat.le_refl _, hm, by simpa using hl, by simpa using ht⟩⟩
def nobV (v : Value) : Prop := ∀ x, v ≠ .int .u8 x
theorem nobs_set {l : List Value} (h : ∀ u ∈ l, nobV u) (j : Nat) {v : Value} (hv : nobV v) : ∀ u ∈ l.set j v, nobV u := fun u hu => by
  rcases List.mem_or_eq_of_mem_set hu with e | e
  · exact h u e
  · rw [e]; exact hv
end Go.Proofs.YtlnmmklpccppmaaGreatDoor
namespace Go.Proofs.YtlnmmklpccppmaaGreatDoor
open Go.RowKit
theorem Tryz.infoObj : (Tryz.prog.info? 68).map (fun i => (i.zero, i.size, i.bytes)) = some (some (.agg #[.int .i64 0, .int .i64 0, .int .i64 0, .slice none 0 0, .slice none 0 0]), 5, 72) := by kernel_rfl
/-- So far: k of them are read and stored. -/
structure LObsRel (w : World) (g n : Nat) (l : List UInt8) (k : Nat) (cur : List Value) (os : List (Ob × OSl)) (r : List UInt8) (wr : World) : Prop where
  le : k ≤ n
  prs : prep pobj k l = some (os.map (·.1), r)
  rd : Rdr wr g r
  row : Whole wr w.heap.size 68 cur
  len : cur.length = n * 5
  nob : ∀ u ∈ cur, nobV u
  fst : cur.take (k * 5) = ocs os
  ints : ∀ p ∈ os, OwnV 3 wr (w.heap.size + 1) p.2.wv (ivs p.1.ws) ∧ OwnV 3 wr (w.heap.size + 1) p.2.lv (ivs p.1.ls)
  apart : (blocksOf os).Nodup
  gr : w.grownBy wr (some g)
theorem LObsRel.lenOs {w wr : World} {g n k : Nat} {l r : List UInt8} {cur : List Value} {os : List (Ob × OSl)} (h : LObsRel w g n l k cur os r wr) : os.length = k := by
  have := prep_len h.prs
  rwa [List.length_map] at this
def LObsLoop (w : World) (g n : Nat) (l : List UInt8) (i : Value) (wr : World) : Prop := ∃ (k : Nat) (cur : List Value) (os : List (Ob × OSl)) (r : List UInt8), i = .int .i64 (k : Int) ∧ LObsRel w g n l k cur os r wr
theorem LObsRel.step {w wr w2 : World} {g n k : Nat} {l r r' : List UInt8} {cur : List Value} {os : List (Ob × OSl)} (hr : Rdr w g l) (h : LObsRel w g n l k cur os r wr) (hlt : k < n) {x : Ob} {s : OSl} (hp : pobj r = some (x, r')) (hg : wr.grownBy w2 (some g)) (rd2 : Rdr w2 g r') (o1 : OwnV 3 w2 wr.heap.size s.wv (ivs x.ws)) (o2 : OwnV 3 w2 wr.heap.size s.lv (ivs x.ls)) (hd : ∀ k, s.wv.ownBlock = some k → s.lv.ownBlock ≠ some k) :
    LObsRel w g n l (k + 1) (((((cur.set (k * 5) (.int .i64 x.hd)).set (k * 5 + 1) (.int .i64 x.bl.1)).set (k * 5 + 2) (.int .i64 x.bl.2)).set (k * 5 + 3) s.wv).set (k * 5 + 4) s.lv) (os ++ [(x, s)]) r'
      (((((w2.setCell ⟨w.heap.size, k * 5, none⟩ (.int .i64 x.hd)).setCell ⟨w.heap.size, k * 5 + 1, none⟩ (.int .i64 x.bl.1)).setCell ⟨w.heap.size, k * 5 + 2, none⟩ (.int .i64 x.bl.2)).setCell ⟨w.heap.size, k * 5 + 3, none⟩ s.wv).setCell ⟨w.heap.size, k * 5 + 4, none⟩ s.lv) := by
  have hgl := hr.lt
  have hlo := h.lenOs
  have hbl := h.row.lt
  have W2 := h.row.grown hg (by omega)
  have gs : w2.grownBy (((((w2.setCell ⟨w.heap.size, k * 5, none⟩ (.int .i64 x.hd)).setCell ⟨w.heap.size, k * 5 + 1, none⟩ (.int .i64 x.bl.1)).setCell ⟨w.heap.size, k * 5 + 2, none⟩ (.int .i64 x.bl.2)).setCell ⟨w.heap.size, k * 5 + 3, none⟩ s.wv).setCell ⟨w.heap.size, k * 5 + 4, none⟩ s.lv) (some w.heap.size) :=
    grown_trans (grown_trans (grown_trans (grown_trans (grown_set _ _ _ _) (grown_set _ _ _ _)) (grown_set _ _ _ _)) (grown_set _ _ _ _)) (grown_set _ _ _ _)
  have n1 : nobV s.wv := fun y e => by
    obtain ⟨A, c, e2, _⟩ := o1.shape rfl
    rw [e2] at e
    cases e
  have n2 : nobV s.lv := fun y e => by
    obtain ⟨A, c, e2, _⟩ := o2.shape rfl
    rw [e2] at e
    cases e
  have own : ∀ {v : Value} {zs : List Value} {b : Nat}, w.heap.size + 1 ≤ b → OwnV 3 w2 b v zs → OwnV 3 (((((w2.setCell ⟨w.heap.size, k * 5, none⟩ (.int .i64 x.hd)).setCell ⟨w.heap.size, k * 5 + 1, none⟩ (.int .i64 x.bl.1)).setCell ⟨w.heap.size, k * 5 + 2, none⟩ (.int .i64 x.bl.2)).setCell ⟨w.heap.size, k * 5 + 3, none⟩ s.wv).setCell ⟨w.heap.size, k * 5 + 4, none⟩ s.lv) (w.heap.size + 1) v zs := fun hb o =>
    (o.grown gs (fun e => by have := (o.lt _ e).1; omega)).mono hb
  refine ⟨hlt, ?_, rd2.apart (W2.noByte h.nob) (by omega) gs, ((((W2.set _ _).set _ _).set _ _).set _ _).set _ _, by simp [h.len], ?_, ?_, ?_, ?_, ?_⟩
  · rw [List.map_append]
    exact prep_step h.prs hp
  · exact nobs_set (nobs_set (nobs_set (nobs_set (nobs_set h.nob _ (fun _ e => by cases e)) _ (fun _ e => by cases e)) _ (fun _ e => by cases e)) _ n1) _ n2
  · rw [show (k + 1) * 5 = k * 5 + 5 by omega, sets5 (by rw [h.len]; omega), h.fst, ocs_snoc]
    rfl
  · intro p hp2
    rcases List.mem_append.1 hp2 with e | e
    · obtain ⟨a1, a2⟩ := h.ints p e
      exact ⟨own (Nat.le_refl _) (a1.grown hg (fun e => by have := (a1.lt _ e).1; omega)), own (Nat.le_refl _) (a2.grown hg (fun e => by have := (a2.lt _ e).1; omega))⟩
    · rw [List.mem_singleton.1 e]
      exact ⟨own hbl o1, own hbl o2⟩
  · rw [blocksOf_snoc, List.nodup_append]
    refine ⟨h.apart, ?_, fun a ha b hb e => ?_⟩
    · unfold twoB
      rw [List.nodup_append]
      refine ⟨?_, ?_, fun a ha b hb e => ?_⟩
      · cases s.wv.ownBlock <;> simp
      · cases s.lv.ownBlock <;> simp
      · subst e
        rw [Option.mem_toList] at ha hb
        exact hd a ha hb
    · subst e
      obtain ⟨p, hp2, e⟩ := mem_blocks.1 ha
      have h1 : a < wr.heap.size := by
        rcases e with e | e
        · exact ((h.ints p hp2).1.lt a e).2
        · exact ((h.ints p hp2).2.lt a e).2
      have h2 : wr.heap.size ≤ a := by
        rcases mem_two.1 hb with e | e
        · exact (o1.lt a e).1
        · exact (o2.lt a e).1
      omega
  · exact grown_new (grown_new (grown_new (grown_new (grown_new (grown_trans h.gr hg) (Nat.le_refl _) _ _) (Nat.le_refl _) _ _) (Nat.le_refl _) _ _) (Nat.le_refl _) _ _) (Nat.le_refl _) _ _
theorem LObsRel.done {w wr : World} {g n : Nat} {l r : List UInt8} {cur : List Value} {os : List (Ob × OSl)} (h : LObsRel w g n l n cur os r wr) (hn : n ≤ 1000) : OwnOs 68 3 wr w.heap.size (.slice (some ⟨w.heap.size, 0, none⟩) n n) os := by
  have hlo := h.lenOs
  refine ⟨?_, fun p hp => ⟨(h.ints p hp).1.mono (Nat.le_succ _), (h.ints p hp).2.mono (Nat.le_succ _)⟩, h.apart⟩
  rw [hlo]
  exact h.row.ownS (Nat.le_refl _) h.len (by rw [ocs_length, hlo]) h.fst (by simp only [maxLen]; omega)
set_option maxHeartbeats 2000000 in
theorem listObj_any (n most : Nat) (hm : most ≤ 1000) (g : Nat) (l : List UInt8) (w : World) (hr : Rdr w g l) :
    Calls Tryz.prog 85 #[.int .i64 (n : Int), .int .i64 (most : Int), .func (.func 86) #[rdv g] #[]] w
      (Reads w g (if most < n then none else prep pobj n l) fun xs v w' => ∃ os, xs = os.map (·.1) ∧ OwnOs 68 3 w' w.heap.size v os) := by
  by_cases hn : most < n
  · rw [if_pos hn]
    go_enter Tryz.func85, Tryz.ntmps85
    go_wp2_with fail
    refine (giveUp_any _).mono ?_
    rintro e w' ⟨rfl, rfl⟩
    go_wp2
    exact ⟨rfl, grown_refl _ _, rfl⟩
  · rw [if_neg hn]
    obtain ⟨cur, hcl, hcm, hmk⟩ := run_makeS (P := Tryz.prog) Tryz.underlying22 Tryz.infoObj rfl (by omega) n (by omega) (by omega)
    have HR : Hid (LObsRel w g n l 0 cur [] l (w.alloc (.cells cur.toArray 68))) := Lib.hid ⟨Nat.zero_le _, rfl, hr.alloc _, Whole.new w cur.toArray 68, hcl, fun u hu x e => by
      have := hcm u hu
      subst e
      simp [Value.cells] at this, by simp [ocs], (fun p hp => by cases hp), List.nodup_nil, grown_below ((Below.refl _ _).alloc (Nat.le_refl _) _) _⟩
    clear hcl hcm
    unfold rdv
    go_enter Tryz.func85, Tryz.ntmps85
    go_wp2
    clear hmk
    go_loopw [17] (LObsLoop w g n l) (fun i _ => n - (intOf i).toNat)
    case atStart => exact ⟨0, cur, [], l, rfl, HR.out⟩
    case round =>
      clear HR
      obtain ⟨k, cur', os, r, rfl, hrel⟩ := hrel
      have Hrel := Lib.hid hrel
      have hk := hrel.le
      clear hrel
      by_cases hlt : k < n
      · have hki : (k : Int) < (n : Int) := by omega
        go_wp2_with fail
        refine (object_any g r wr Hrel.out.rd).mono ?_
        rintro e w2 ⟨hg2, hm2⟩
        cases hq : pobj r with
        | none =>
          rw [hq] at hm2
          subst hm2
          have Hst := Lib.hid (prep_stop Hrel.out.prs hq hlt)
          have G2 := Lib.hid (grown_trans Hrel.out.gr hg2)
          clear hq hg2
          go_wp2
          exact ⟨rfl, G2.out, by rw [Hst.out]⟩
        | some q =>
          obtain ⟨x, r'⟩ := q
          rw [hq] at hm2
          obtain ⟨v, rfl, ⟨s, rfl, o1, o2, hd⟩, rd2⟩ := hm2
          have Hs := Lib.hid (Hrel.out.step hr hlt hq hg2 rd2 o1 o2 hd)
          have W2 := Hrel.out.row.grown hg2 (by have := hr.lt; omega)
          have hkl : k * 5 + 5 ≤ cur'.length := by rw [Hrel.out.len]; omega
          obtain ⟨u0, hu0⟩ : ∃ u, w2.cell? ⟨w.heap.size, k * 5, none⟩ = some u := ⟨_, by rw [W2.cell, List.getElem?_eq_getElem (by omega)]⟩
          obtain ⟨u1, hu1⟩ : ∃ u, w2.cell? ⟨w.heap.size, k * 5 + 1, none⟩ = some u := ⟨_, by rw [W2.cell, List.getElem?_eq_getElem (by omega)]⟩
          obtain ⟨u2, hu2⟩ : ∃ u, w2.cell? ⟨w.heap.size, k * 5 + 2, none⟩ = some u := ⟨_, by rw [W2.cell, List.getElem?_eq_getElem (by omega)]⟩
          obtain ⟨u3, hu3⟩ : ∃ u, w2.cell? ⟨w.heap.size, k * 5 + 3, none⟩ = some u := ⟨_, by rw [W2.cell, List.getElem?_eq_getElem (by omega)]⟩
          obtain ⟨u4, hu4⟩ : ∃ u, w2.cell? ⟨w.heap.size, k * 5 + 4, none⟩ = some u := ⟨_, by rw [W2.cell, List.getElem?_eq_getElem (by omega)]⟩
          have z0 := W2.free (k * 5)
          have z1 := W2.free (k * 5 + 1)
          have z2 := W2.free (k * 5 + 2)
          have z3 := W2.free (k * 5 + 3)
          have z4 := W2.free (k * 5 + 4)
          obtain ⟨x0, ⟨x1, x2⟩, xw, xl⟩ := x
          obtain ⟨sw, sl⟩ := s
          obtain ⟨Aw, cw, rfl, _, _, _⟩ := o1.shape rfl
          obtain ⟨Al, cl, rfl, _, _, _⟩ := o2.shape rfl
          simp only at Hs
          generalize (ivs xw).length = nw at *
          generalize (ivs xl).length = nl at *
          clear hq hg2 rd2 o1 o2 hd W2 hkl
          dsimp only [oc]
          go_wp2
          go_roundw
          case rel => exact ⟨k + 1, _, _, r', by go_num, Hs.out⟩
          case measure => simp [intOf]; omega
      · obtain rfl : k = n := by omega
        have Hd := Lib.hid (Hrel.out.done (by omega))
        go_wp2
        go_ret
        refine ⟨Hrel.out.gr, ?_⟩
        rw [Hrel.out.prs]
        exact ⟨_, rfl, ⟨os, rfl, Hd.out⟩, Hrel.out.rd⟩
end Go.Proofs.YtlnmmklpccppmaaGreatDoor
