/-
  Entries and messages in memory: what reads as some; rows of the call's own; appends; loads, stores, boxes of a message. Plain lemmas.
-/
import Derived.Test.YtgkhjmdghmpfcaaBgMath
import Derived.Test.YtgkhjmdghmpfcaaRowK
import Derived.Deep.WholeRow
import Derived.Laws.StructEq
import Derived.Lib.SliceRun
namespace Go.Proofs.Ytgkhjmdghmpfcaa
open Go.RowKit

/-- A slice reads as these cells, so many an element. -/
structure RdC (w : World) (A : Option Addr) (n K : Nat) (cs : List Value) : Prop where
  len : cs.length = n * K
  at_ : 0 < n → ∃ b off, A = some ⟨b, off, none⟩ ∧ b < w.heap.size ∧ w.rangeAt b off cs
section
variable {w w' : World} {A : Option Addr} {n K : Nat} {cs : List Value}
theorem RdC.nil : RdC w A 0 K [] := ⟨by simp, fun h => absurd h (by omega)⟩
theorem RdC.keep (h : RdC w A n K cs) (hk : ∀ b off, A = some ⟨b, off, none⟩ → b < w.heap.size → w'.heap[b]? = w.heap[b]?) (hs : w.heap.size ≤ w'.heap.size) : RdC w' A n K cs :=
  ⟨h.len, fun hn => by
    obtain ⟨b, off, e, hb, hc⟩ := h.at_ hn
    exact ⟨b, off, e, Nat.lt_of_lt_of_le hb hs, fun j x hx => (World.cell?_of_block (hk b off e hb)).trans (hc j x hx)⟩⟩
theorem RdC.below (h : RdC w A n K cs) (hb : Below w.heap.size w w') : RdC w' A n K cs := h.keep (fun _ _ _ hl => hb.block _ hl) hb.size
theorem RdC.drew (h : RdC w A n K cs) : RdC w.drew A n K cs := h.below (Below.refl _ _).drew
theorem RdC.oth {X : Nat → Prop} (h : RdC w A n K cs) (hO : Oth X w w') (hX : ∀ b off, A = some ⟨b, off, none⟩ → ¬ X b) : RdC w' A n K cs := h.keep (fun _ _ e hl => hO.block _ hl (hX _ _ e)) hO.size
theorem RdC.cell (h : RdC w A n K cs) {j i : Nat} (hj : j < n) (hi : i < K) : ∃ b off u, A = some ⟨b, off, none⟩ ∧ b < w.heap.size ∧ cs[j * K + i]? = some u ∧ w.cell? ⟨b, off + j * K + i, none⟩ = some u := by
  obtain ⟨b, off, e, hb, hc⟩ := h.at_ (by omega)
  have hl : j * K + i < cs.length := by
    rw [h.len]
    have := Nat.mul_le_mul_right K (show j + 1 ≤ n by omega)
    rw [Nat.add_mul] at this
    omega
  have hg := List.getElem?_eq_getElem hl
  exact ⟨b, off, _, e, hb, hg, by rw [Nat.add_assoc]; exact hc _ _ hg⟩
/-- b[i:j] -/
theorem RdC.cut (h : RdC w A n K cs) {i j c : Nat} (hi : i ≤ j) (hj : j ≤ n) (hc : n ≤ c) : RdC w (if c = i then A else A.map (·.add (i * K))) (j - i) K ((cs.drop (i * K)).take ((j - i) * K)) := by
  have hm : j * K ≤ n * K := Nat.mul_le_mul_right _ hj
  have hm2 : i * K + (j - i) * K = j * K := by rw [← Nat.add_mul]; congr 1; omega
  refine ⟨by rw [List.length_take, List.length_drop, h.len]; omega, fun hn => ?_⟩
  obtain ⟨b, off, rfl, hb, hcell⟩ := h.at_ (by omega)
  rw [if_neg (by omega)]
  refine ⟨b, off + i * K, by simp only [Option.map_some, add_plain], hb, fun q x hx => ?_⟩
  rw [Nat.add_assoc]
  refine hcell _ x ?_
  rw [List.getElem?_take] at hx
  split at hx
  · rw [← hx, List.getElem?_drop]
  · cases hx
end
/-- A row of the call's own reads as its cells. -/
theorem row_rd {U : TypeId} {w : World} {base K n : Nat} {v : Value} {xs : List Value} (h : w.ownsRow base U K v n xs) : ∃ A c, v = .slice A n c ∧ n ≤ c ∧ c ≤ maxLen ∧ RdC w A n K xs ∧ ∀ b off, A = some ⟨b, off, none⟩ → v.ownBlock = some b := by
  rcases h.2 with ⟨rfl, hn⟩ | ⟨g, cap, cur, rfl, hg, hh, hc, hm, _⟩
  · subst hn
    exact ⟨none, 0, rfl, Nat.le_refl _, by simp [maxLen], ⟨h.1, fun hp => absurd hp (by omega)⟩, fun b off e => by cases e⟩
  · refine ⟨_, cap, rfl, hc, hm, ⟨h.1, fun _ => ⟨g, 0, rfl, (Array.getElem?_eq_some_iff.1 hh).1, fun j x hx => ?_⟩⟩, fun b off e => ?_⟩
    · have := World.ownsRow.cells h (g := g) rfl j x hx
      rw [add_plain] at this
      exact this
    · injection e with e
      injection e with e
      subst e
      rfl
theorem row_mono {U : TypeId} {w : World} {base base' K n : Nat} {v : Value} {xs : List Value} (h : w.ownsRow base U K v n xs) (hb : base' ≤ base) : w.ownsRow base' U K v n xs := by
  refine ⟨h.1, ?_⟩
  rcases h.2 with h2 | ⟨g, cap, cur, hv, hg, r⟩
  · exact .inl h2
  · exact .inr ⟨g, cap, cur, hv, by omega, r⟩
theorem row_below {U : TypeId} {w w' : World} {base K n : Nat} {v : Value} {xs : List Value} (h : w.ownsRow base U K v n xs) (hb : Below w.heap.size w w') : w'.ownsRow base U K v n xs :=
  row_keep h fun k hk => hb.block k (World.ownsRow.lt h k hk).2
theorem row_oth {U : TypeId} {w w' : World} {base K n : Nat} {v : Value} {xs : List Value} {X : Nat → Prop} (h : w.ownsRow base U K v n xs) (hO : Oth X w w') (hX : ∀ k, v.ownBlock = some k → ¬ X k) : w'.ownsRow base U K v n xs :=
  row_keep h fun k hk => hO.block k (World.ownsRow.lt h k hk).2 (hX k hk)
theorem row_one {U : TypeId} {w : World} {base K n : Nat} {v : Value} {xs : List Value} (h : w.ownsRow base U K v n xs) : v.oneCell' = true := by
  rcases h.2 with ⟨rfl, _⟩ | ⟨g, cap, cur, rfl, _⟩ <;> rfl
/-- append(v, more...) onto a row of the call's own. -/
theorem run_appC {P : Program} {w : World} {base n K by_ : Nat} {t ty U : TypeId} (ht : P.underlying t = some (.slice U)) {z : Value} (hinfo : (P.info? U).map (fun i => (i.zero, i.size, i.bytes)) = some (some z, K, by_)) (hz : z.cells.size = K) (hK : 0 < K) (hby : by_ ≤ 256)
    {v : Value} {xs : List Value} (hown : w.ownsRow base U K v n xs) {A : Option Addr} {m : Nat} (c : Nat) {news : List Value} (hr : RdC w A m K news) (h1 : ∀ u ∈ news, u.oneCell' = true) (hle : n + m ≤ 1000000) (hbase : base ≤ w.heap.size) :
    ∃ v' w', (Builtin.append_ #[t, t] ty #[v, .slice A m c]).run P w = .ok v' w' ∧ w'.ownsRow base U K v' (n + m) (xs ++ news) ∧ w.grownBy w' v.ownBlock ∧ (v'.ownBlock = v.ownBlock ∨ v'.ownBlock = some w.heap.size) := by
  obtain ⟨i0, hi, hz0, hz1, hz2⟩ := info_parts hinfo
  by_cases h0 : m = 0
  · subst h0
    obtain rfl : news = [] := List.eq_nil_of_length_eq_zero (by rw [hr.len]; omega)
    exact ⟨v, w, run_app_none ht hi hown A c, by rw [List.append_nil]; exact hown, grown_refl _ _, .inl rfl⟩
  · obtain ⟨b, off, rfl, hb, hc⟩ := hr.at_ (by omega)
    have hmm : (n + m) * by_ ≤ 1000000 * 256 := Nat.mul_le_mul hle hby
    obtain ⟨v', w', hrun, k1, k2, _, k4⟩ := run_append_own_at (P := P) w base t ty U i0 z K by_ ht hi hz0 hz1 hz2 hz hK v n xs hown ⟨b, off, none⟩ m c news hr.len
      (fun j u hj => by rw [add_plain]; exact hc j u hj) h1 (by simp only [maxLen]; omega) (by omega) hbase
    exact ⟨v', w', hrun, k1, k2, k4⟩
/-- append(v, x), x's cells in a block of their own. -/
theorem run_appC1 {P : Program} {w : World} {base n K by_ : Nat} {t ty U : TypeId} (ht : P.underlying t = some (.slice U)) {z : Value} (hinfo : (P.info? U).map (fun i => (i.zero, i.size, i.bytes)) = some (some z, K, by_)) (hz : z.cells.size = K) (hK : 0 < K) (hby : by_ ≤ 256)
    {v : Value} {xs : List Value} (hown : w.ownsRow base U K v n xs) {news : List Value} {cs : Array Value} (hcs : cs = news.toArray) (hl : news.length = K) (h1 : ∀ u ∈ news, u.oneCell' = true) (hle : n + 1 ≤ 1000000) (hbase : base ≤ w.heap.size) :
    ∃ v' w', (Builtin.append_ #[t, t] ty #[v, .slice (some ⟨w.heap.size, 0, none⟩) 1 1]).run P (w.alloc (.cells cs U)) = .ok v' w' ∧ w'.ownsRow base U K v' (n + 1) (xs ++ news) ∧ w.grownBy w' v.ownBlock ∧ (v'.ownBlock = v.ownBlock ∨ ∃ k, v'.ownBlock = some k ∧ w.heap.size ≤ k) := by
  subst hcs
  have hb1 : Below w.heap.size w (w.alloc (.cells news.toArray U)) := (Below.refl _ _).alloc (Nat.le_refl _) _
  have hW := Whole.new w news.toArray U
  obtain ⟨v', w', hrun, k1, k2, k4⟩ := run_appC (ty := ty) ht hinfo hz hK hby (row_below hown hb1) (A := some ⟨w.heap.size, 0, none⟩) (m := 1) 1 (news := news) ⟨by omega, fun _ => ⟨_, 0, rfl, hW.lt, fun j u hj => by rw [Nat.zero_add, hW.cell]; exact hj⟩⟩ h1 hle (Nat.le_trans hbase hb1.size)
  refine ⟨v', w', hrun, k1, grown_trans (grown_below hb1 _) k2, ?_⟩
  rcases k4 with k4 | k4
  · exact .inl k4
  · exact .inr ⟨_, k4, hb1.size⟩

/-! ### Entries -/
def zec : List Value := [.int .i64 0, .int .i64 0, .int .i64 0, .int .i64 0, .int .i64 0, .int .i64 0, .int .i64 0, .int .i64 0, .int .i64 0, .int .i64 0, .int .i64 0]
theorem Try.infoEn : (Try.prog.info? 66).map (fun i => (i.zero, i.size, i.bytes)) = some (some (.agg zec.toArray), 11, 88) := by kernel_rfl
theorem Try.infoMs : (Try.prog.info? 47).map (fun i => (i.zero, i.size, i.bytes)) = some (some (mval zms zv), 23, 208) := by kernel_rfl
/-- A slice reads as these entries. -/
structure RdE (w : World) (A : Option Addr) (n : Nat) (l : List En) : Prop where
  len : l.length = n
  rd : RdC w A n 11 (ecl l)
section
variable {w w' : World} {A : Option Addr} {n : Nat} {l : List En}
theorem RdE.nil : RdE w A 0 [] := ⟨rfl, RdC.nil⟩
theorem RdE.below (h : RdE w A n l) (hb : Below w.heap.size w w') : RdE w' A n l := ⟨h.len, h.rd.below hb⟩
theorem RdE.drew (h : RdE w A n l) : RdE w.drew A n l := ⟨h.len, h.rd.drew⟩
theorem RdE.oth {X : Nat → Prop} (h : RdE w A n l) (hO : Oth X w w') (hX : ∀ b off, A = some ⟨b, off, none⟩ → ¬ X b) : RdE w' A n l := ⟨h.len, h.rd.oth hO hX⟩
theorem RdE.get (h : RdE w A n l) {j : Nat} (hj : j < n) : ∃ b off x, A = some ⟨b, off, none⟩ ∧ b < w.heap.size ∧ l[j]? = some x ∧ ∀ (i : Nat) (u : Value), (ec x)[i]? = some u → w.cell? ⟨b, off + j * 11 + i, none⟩ = some u := by
  obtain ⟨b, off, e, hb, hc⟩ := h.rd.at_ (by omega)
  have hl : j < l.length := by have := h.len; omega
  have hg := List.getElem?_eq_getElem hl
  exact ⟨b, off, l[j], e, hb, hg, fun i u hu => by rw [Nat.add_assoc]; exact hc _ _ (fm_get ec_len hg hu)⟩
end
/-- Entries in a row of the call's own. -/
def OwnE (w : World) (base : Nat) (v : Value) (l : List En) : Prop := w.ownsRow base 66 11 v l.length (ecl l)
theorem OwnE.nil {w : World} {base : Nat} : OwnE w base (.slice none 0 0) [] := World.ownsRow_nil w base _ 11
theorem OwnE.rd {w : World} {base : Nat} {v : Value} {l : List En} (h : OwnE w base v l) : ∃ A c, v = .slice A l.length c ∧ RdE w A l.length l ∧ ∀ b off, A = some ⟨b, off, none⟩ → v.ownBlock = some b := by
  obtain ⟨A, c, e, _, _, r, hb⟩ := row_rd h
  exact ⟨A, c, e, ⟨rfl, r⟩, hb⟩
/-- Where a message's entries lie. -/
def MsgR (w : World) (p : Ms × Value) : Prop := ∃ A c, p.2 = .slice A p.1.es.length c ∧ RdE w A p.1.es.length p.1.es
section
variable {w w' : World} {p : Ms × Value}
theorem MsgR.below (h : MsgR w p) (hb : Below w.heap.size w w') : MsgR w' p := by
  obtain ⟨A, c, e, r⟩ := h
  exact ⟨A, c, e, r.below hb⟩
theorem MsgR.drew (h : MsgR w p) : MsgR w.drew p := h.below (Below.refl _ _).drew
theorem OwnE.msg {base : Nat} (h : OwnE w base p.2 p.1.es) : MsgR w p := by
  obtain ⟨A, c, e, r, _⟩ := h.rd
  exact ⟨A, c, e, r⟩
theorem MsgR.one (h : MsgR w p) : p.2.oneCell' = true := by
  obtain ⟨A, c, e, _⟩ := h
  rw [e]
  rfl
theorem msgR_zero {w : World} : MsgR w (zms, zv) := ⟨none, 0, rfl, RdE.nil⟩
end
/-- A slice reads as these messages. -/
structure RdM (w : World) (A : Option Addr) (n : Nat) (l : List (Ms × Value)) : Prop where
  len : l.length = n
  rd : RdC w A n 23 (mcl l)
  ents : ∀ p ∈ l, MsgR w p
section
variable {w w' : World} {A : Option Addr} {n : Nat} {l : List (Ms × Value)}
theorem RdM.nil : RdM w A 0 [] := ⟨rfl, RdC.nil, fun p hp => by cases hp⟩
theorem RdM.below (h : RdM w A n l) (hb : Below w.heap.size w w') : RdM w' A n l := ⟨h.len, h.rd.below hb, fun p hp => (h.ents p hp).below hb⟩
theorem RdM.drew (h : RdM w A n l) : RdM w.drew A n l := h.below (Below.refl _ _).drew
theorem RdM.get (h : RdM w A n l) {j : Nat} (hj : j < n) : ∃ b off p, A = some ⟨b, off, none⟩ ∧ b < w.heap.size ∧ l[j]? = some p ∧ MsgR w p ∧ w.rangeAt b (off + j * 23) (mcs p.1 p.2) := by
  obtain ⟨b, off, e, hb, hc⟩ := h.rd.at_ (by omega)
  have hl : j < l.length := by have := h.len; omega
  have hg := List.getElem?_eq_getElem hl
  exact ⟨b, off, l[j], e, hb, hg, h.ents _ (List.getElem_mem hl), fun i u hu => by rw [Nat.add_assoc]; exact hc _ _ (fm_get mcc_len hg hu)⟩
theorem RdM.one (h : RdM w A n l) : ∀ u ∈ mcl l, u.oneCell' = true := mcl_one fun p hp => (h.ents p hp).one
/-- l[i:j] -/
theorem RdM.cut (h : RdM w A n l) {i j c : Nat} (hi : i ≤ j) (hj : j ≤ n) (hc : n ≤ c) : RdM w (if c = i then A else A.map (·.add (i * 23))) (j - i) ((l.drop i).take (j - i)) := by
  have r := h.rd.cut hi hj hc
  unfold mcl at r
  rw [fm_drop mcc_len, fm_take mcc_len] at r
  exact ⟨by rw [List.length_take, List.length_drop, h.len]; omega, r, fun p hp => h.ents p (List.mem_of_mem_drop (List.mem_of_mem_take hp))⟩
end
theorem range_grown {w w' : World} {b o : Nat} {cs : List Value} (h : w.rangeAt b o cs) (hb : w'.heap[b]? = w.heap[b]?) : w'.rangeAt b o cs := fun j x hx => (World.cell?_of_block hb).trans (h j x hx)

/-! ### A message is read, written, put into a box -/
def mobj (m : Ms) (e : Value) : Obj := .cells (mcs m e).toArray 47
theorem mval_cells (m : Ms) (e : Value) : (mval m e).cells = (mcs m e).toArray := rfl
theorem sizeMs : (Try.prog.info? 47).map (·.size) = some 23 := by kernel_rfl
theorem whole_ms (w : World) (m : Ms) (e : Value) : Whole (w.alloc (mobj m e)) w.heap.size 47 (mcs m e) := Whole.new w (mcs m e).toArray 47
theorem load_ms {w : World} {b o : Nat} {m : Ms} {e : Value} (h : w.rangeAt b o (mcs m e)) :
    (Instr.loadAt 47 (.pointer (some ⟨b, o, none⟩))).run Try.prog w = .ok (mval m e) w :=
  run_loadAt_mid w b o 47 (mcs m e) _ h Try.underlying47 rfl sizeMs
theorem whole_range {w : World} {b : Nat} {t : TypeId} {cs : List Value} (h : Whole w b t cs) : w.rangeAt b 0 cs := fun j x hx => by rw [Nat.zero_add, h.cell, hx]
theorem load_box {w : World} {b : Nat} {t : TypeId} {m : Ms} {e : Value} (h : Whole w b t (mcs m e)) :
    (Instr.loadAt 47 (.pointer (some ⟨b, 0, none⟩))).run Try.prog w = .ok (mval m e) w := load_ms (whole_range h)
theorem box_ms (w : World) (m : Ms) (e : Value) : (Instr.box 47 (mval m e)).run Try.prog w = .ok (.pointer (some ⟨w.heap.size, 0, none⟩)) (w.alloc (mobj m e)) := by
  have h : (newVar 47 (mval m e)).run Try.prog w = .ok ⟨w.heap.size, 0, none⟩ (w.alloc (mobj m e)) := by
    unfold newVar mval Value.cells mobj
    generalize (mcs m e).toArray = c
    simp [newRow]
  simp only [Instr.box, Sem.run_bind, Result.andThen_ok, h, Sem.run_pure]
theorem zero_ms (w : World) : (zeroValue 47).run Try.prog w = .ok (mval zms zv) w := by
  obtain ⟨i0, hi, hz0, _, _⟩ := info_parts Try.infoMs
  simp [zeroValue, typeInfo, hi, hz0]
theorem alloc_ms (w : World) : (Instr.alloc 47 true (.tuple #[])).run Try.prog w = .ok (.pointer (some ⟨w.heap.size, 0, none⟩)) (w.alloc (mobj zms zv)) := by
  have h : (newVar 47 (mval zms zv)).run Try.prog w = .ok ⟨w.heap.size, 0, none⟩ (w.alloc (mobj zms zv)) := by
    unfold newVar mval Value.cells mobj
    generalize (mcs zms zv).toArray = c
    simp [newRow]
  simp only [Instr.alloc, Sem.run_bind, zero_ms, Result.andThen_ok, h, Sem.run_pure]
theorem store_box {w : World} {m0 : Ms} {e0 : Value} {m : Ms} {e : Value} (he : e.oneCell' = true) :
    (Instr.storeAt 47 (.pointer (some ⟨w.heap.size, 0, none⟩)) (mval m e)).run Try.prog (w.alloc (mobj m0 e0)) = .ok () (w.alloc (mobj m e)) :=
  run_storeAt_new w 47 (mcs m0 e0).toArray (mcs m e).toArray (by simp [mcs_len, sizeMs]) (by simp [mcs_len]) (all_oneCell_toArray (mcs_one m he))
theorem store_ms {w : World} {b : Nat} {t : TypeId} {cs : List Value} (h : Whole w b t cs) (hl : cs.length = 23) {m : Ms} {e : Value} (he : e.oneCell' = true) :
    ∃ w', (Instr.storeAt 47 (.pointer (some ⟨b, 0, none⟩)) (mval m e)).run Try.prog w = .ok () w' ∧ Whole w' b t (mcs m e) ∧ w.grownBy w' (some b) := by
  have ht : w.there b 0 (mcs m e).toArray.size := fun j hj => ⟨by rw [Nat.zero_add, h.cell, List.getElem?_eq_getElem (by simp [mcs_len] at hj; omega)]; rfl, h.free _⟩
  refine ⟨_, run_storeAt_mid (P := Try.prog) w b 0 47 (mcs m e).toArray ht (by simp [mcs_len, sizeMs]) (all_oneCell_toArray (mcs_one m he)), ?_, grown_sets b _ 0 w⟩
  have := h.sets (vs := mcs m e) (o := 0)
  rw [layL_eq (by rw [mcs_len]; omega), List.take_zero, List.nil_append, List.drop_of_length_le (by rw [mcs_len]; omega), List.append_nil] at this
  exact this
end Go.Proofs.Ytgkhjmdghmpfcaa
