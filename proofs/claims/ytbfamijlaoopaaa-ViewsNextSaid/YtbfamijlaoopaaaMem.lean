/-
  Words for memory that every text of this seat uses: bytes as cells, a slice that reads as a list of bytes, a slice of bytes that a call made itself; how they are kept, converted to a string, appended. Plain lemmas, no condition of their own.
-/
import Derived.WalkKit
import Derived.WalkSpells
import Derived.WalkLawsBesides
import Derived.Maps.AppendAt
import Derived.Deep.AppendLies
import Derived.Deep.Draws
import Derived.Lib.AppendStr
import Derived.Lib.Hide
import Derived.Laws.BytesArg
import Derived.Laws.CopyOwn
namespace Go.Proofs.Ytbfamijlaoopaaa
open Go.RowKit

/-- A byte as the cell that holds it. -/
def bv (x : UInt8) : Value := .int .u8 (x.toNat : Int)
def bvs (l : List UInt8) : List Value := l.map bv
theorem bvs_length (l : List UInt8) : (bvs l).length = l.length := by simp [bvs]
theorem bvs_append (l m : List UInt8) : bvs (l ++ m) = bvs l ++ bvs m := by simp [bvs]
theorem bvs_one (l : List UInt8) : ∀ u ∈ bvs l, u.oneCell' = true := by
  intro u hu
  simp only [bvs, List.mem_map] at hu
  obtain ⟨x, _, rfl⟩ := hu
  rfl
theorem bvs_get {l : List UInt8} {j : Nat} {u : Value} (h : (bvs l)[j]? = some u) : ∃ x, l[j]? = some x ∧ u = .int .u8 (x.toNat : Int) := by
  simp only [bvs, List.getElem?_map, Option.map_eq_some_iff] at h
  obtain ⟨x, hx, rfl⟩ := h
  exact ⟨x, hx, rfl⟩

theorem add_plain (b off j : Nat) : (⟨b, off, none⟩ : Addr).add j = ⟨b, off + j, none⟩ := by unfold Addr.add; split <;> simp_all

/-- The slice '.slice A n _' reads as the bytes l. -/
structure Rd (w : World) (A : Option Addr) (n : Nat) (l : List UInt8) : Prop where
  len : l.length = n
  at_ : 0 < n → ∃ b off, A = some ⟨b, off, none⟩ ∧ b < w.heap.size ∧ ∀ j x, l[j]? = some x → w.cell? ⟨b, off + j, none⟩ = some (.int .u8 (x.toNat : Int))

section
variable {w w' : World} {A : Option Addr} {n : Nat} {l : List UInt8}
theorem Rd.nil : Rd w A 0 [] := ⟨rfl, fun h => absurd h (by omega)⟩
theorem Rd.keep (h : Rd w A n l) (hs : w.heap.size ≤ w'.heap.size) (hk : ∀ p : Addr, p.block < w.heap.size → w'.cell? p = w.cell? p) : Rd w' A n l :=
  ⟨h.len, fun hn => by
    obtain ⟨b, off, e, hb, hc⟩ := h.at_ hn
    exact ⟨b, off, e, by omega, fun j x hx => (hk ⟨b, off + j, none⟩ hb).trans (hc j x hx)⟩⟩
theorem Rd.below (h : Rd w A n l) (hb : Below w.heap.size w w') : Rd w' A n l := h.keep hb.size fun _ hp => hb.cell hp
theorem Rd.alloc (h : Rd w A n l) (o : Obj) : Rd (w.alloc o) A n l := h.below ((Below.refl _ _).alloc (Nat.le_refl _) o)
theorem Rd.drew (h : Rd w A n l) : Rd w.drew A n l := h.below (Below.refl _ _).drew
theorem Rd.cell (h : Rd w A n l) {j : Nat} (hj : j < n) : ∃ b off x, A = some ⟨b, off, none⟩ ∧ b < w.heap.size ∧ l[j]? = some x ∧ w.cell? ⟨b, off + j, none⟩ = some (.int .u8 (x.toNat : Int)) := by
  obtain ⟨b, off, e, hb, hc⟩ := h.at_ (by omega)
  have hl : j < l.length := by have := h.len; omega
  exact ⟨b, off, l[j], e, hb, List.getElem?_eq_getElem hl, hc j _ (List.getElem?_eq_getElem hl)⟩
theorem Rd.take (h : Rd w A n l) {k : Nat} (hk : k ≤ n) : Rd w A k (l.take k) :=
  ⟨by rw [List.length_take, h.len]; omega, fun hp => by
    obtain ⟨b, off, e, hb, hc⟩ := h.at_ (by omega)
    refine ⟨b, off, e, hb, fun j x hx => hc j x ?_⟩
    rw [List.getElem?_take] at hx
    split at hx
    · exact hx
    · cases hx⟩
theorem Rd.cut (h : Rd w A n l) {k cap : Nat} (hk : k ≤ n) (hc : n ≤ cap) : Rd w (if cap = k then A else A.map (·.add k)) (n - k) (l.drop k) := by
  refine ⟨by rw [List.length_drop, h.len], fun hn => ?_⟩
  obtain ⟨b, off, rfl, hb, hcell⟩ := h.at_ (by omega)
  rw [if_neg (by omega)]
  refine ⟨b, off + k, by simp only [Option.map_some, add_plain], hb, fun j x hx => ?_⟩
  rw [Nat.add_assoc]
  exact hcell _ x (by rw [← hx, List.getElem?_drop])
/-- string(b) -/
theorem Rd.conv (h : Rd w A n l) {P : Program} (c : Nat) (src e dst : TypeId) (hs : P.underlying src = some (.slice e)) (he : P.underlying e = some (.int .u8)) (hd : P.underlying dst = some .string) :
    (convert src dst (.slice A n c)).run P w = .ok (.string ⟨l.toArray⟩) w := by
  by_cases hn : n = 0
  · subst hn
    have hl : l = [] := List.eq_nil_of_length_eq_zero h.len
    subst hl
    rw [run_convert_bytes_string w src dst e _ 0 c hs he hd]
    cases A with
    | none => simp [Conv.bytesToString]; rfl
    | some a =>
      rw [run_bytesToString w a 0 c [] (by simp [loadCells, loadCellsFrom])]
      rfl
  · obtain ⟨b, off, rfl, hb, hc⟩ := h.at_ (by omega)
    rw [run_convert_bytes_arg w src e hs he b off n c (l.map fun x => (x.toNat : Int)) (by simpa using h.len) (fun i hi => by
      have hl : i < l.length := by have := h.len; omega
      rw [hc i l[i] (List.getElem?_eq_getElem hl)]
      simp [List.getD, List.getElem?_eq_getElem hl]) dst hd]
    have : strOfNums (l.map fun x => (x.toNat : Int)) = ⟨l.toArray⟩ := by
      unfold strOfNums
      congr 2
      rw [List.map_map]
      conv => rhs; rw [← List.map_id l]
      apply List.map_congr_left
      intro x _
      simp
    rw [this]
end

/-- The slice v was made by the call itself (its block is 'base' or later) and holds the bytes l; it may have room behind. -/
def Own (U : TypeId) (w : World) (base : Nat) (v : Value) (l : List UInt8) : Prop := w.ownsRow base U 1 v l.length (bvs l)

section
variable {U : TypeId} {w w' : World} {base : Nat} {v : Value} {l : List UInt8}
theorem Own.nil : Own U w base (.slice none 0 0) [] := World.ownsRow_nil w base U 1
theorem Own.mono (h : Own U w base v l) {base' : Nat} (hb : base' ≤ base) : Own U w base' v l := by
  refine ⟨h.1, ?_⟩
  rcases h.2 with h2 | ⟨g, cap, cur, hv, hg, r⟩
  · exact .inl h2
  · exact .inr ⟨g, cap, cur, hv, by omega, r⟩
theorem Own.keep (h : Own U w base v l) (hb : ∀ k, v.ownBlock = some k → w'.heap[k]? = w.heap[k]?) : Own U w' base v l := by
  refine ⟨h.1, ?_⟩
  rcases h.2 with h2 | ⟨g, cap, cur, rfl, hg, hh, r⟩
  · exact .inl h2
  · exact .inr ⟨g, cap, cur, rfl, hg, by rw [hb g rfl]; exact hh, r⟩
theorem Own.lt (h : Own U w base v l) : ∀ k, v.ownBlock = some k → base ≤ k ∧ k < w.heap.size := World.ownsRow.lt h
theorem Own.below (h : Own U w base v l) (hb : Below w.heap.size w w') : Own U w' base v l := h.keep fun k hk => hb.block k (h.lt k hk).2
theorem Own.alloc (h : Own U w base v l) (o : Obj) : Own U (w.alloc o) base v l := h.below ((Below.refl _ _).alloc (Nat.le_refl _) o)
theorem Own.drew (h : Own U w base v l) : Own U w.drew base v l := h.below (Below.refl _ _).drew
theorem Own.shape (h : Own U w base v l) : ∃ A c, v = .slice A l.length c ∧ l.length ≤ c ∧ c ≤ maxLen ∧ Rd w A l.length l := by
  rcases h.2 with ⟨rfl, hn⟩ | ⟨g, cap, cur, rfl, hg, hh, hc, hm, _⟩
  · exact ⟨none, 0, by rw [hn], by omega, by simp [maxLen], ⟨rfl, fun hp => by omega⟩⟩
  · refine ⟨_, cap, rfl, hc, hm, ⟨rfl, fun hp => ⟨g, 0, rfl, (Array.getElem?_eq_some_iff.1 hh).1, fun j x hx => ?_⟩⟩⟩
    have := World.ownsRow.cells h (g := g) rfl j (bv x) (by simp [bvs, hx])
    rw [add_plain] at this
    exact this
end

theorem Own.shapeN {U : TypeId} {w : World} {base : Nat} {v : Value} {l : List UInt8} (h : Own U w base v l) {n : Nat} (hl : l.length = n) : ∃ A c, v = .slice A n c ∧ n ≤ c ∧ c ≤ maxLen ∧ Rd w A n l := by
  subst hl
  exact h.shape

/-- So many zero bytes as cells; a plain definition, so that the walk leaves it as it stands. -/
def zcells (k : Nat) : List Value := List.replicate k (.int .u8 0)
theorem zcells_length (k : Nat) : (zcells k).length = k := by simp [zcells]
/-- make([]byte, n, c) -/
theorem run_make_bytes {P : Program} {t e : TypeId} (ht : P.underlying t = some (.slice e)) (hi : (P.info? e).map (fun i => (i.zero, i.size, i.bytes)) = some (some (.int .u8 0), 1, 1)) (n c : Nat) (hnc : n ≤ c) (hc : c ≤ 140737488355328) (W : World) :
    (Instr.makeSlice t (.int .i64 (n : Int)) (.int .i64 (c : Int))).run P W = .ok (.slice (some ⟨W.heap.size, 0, none⟩) n c) (W.alloc (.cells (zcells c).toArray e)) := by
  obtain ⟨i0, hi, hz0, hz1, hz2⟩ := info_parts hi
  have h := run_make (P := P) W t e i0 _ ht hi hz0 .i64 .i64 (n : Int) (c : Int) (by omega) (by omega) (by rw [hz2]; omega) (by omega)
  rw [h, Int.toNat_natCast, Int.toNat_natCast, hz1, Nat.mul_one]
  have : madeCells (Value.int .u8 0).cells c = (zcells c).toArray := by
    apply Array.ext'
    exact toList_madeCells_one (Value.int .u8 0) c
  rw [this]

section
variable {U : TypeId} {w w' : World} {base : Nat} {v : Value} {l : List UInt8}
/-- A row that the call made, of which the first cells are known. -/
theorem Own.of_row {g cap : Nat} {cur : List Value} (hg : w.heap[g]? = some (.cells cur.toArray U (0, 0))) (hb : base ≤ g) (hl : l.length ≤ cap) (hc : cap ≤ maxLen) (hs : cur.length = cap) (ht : cur.take l.length = bvs l) :
    Own U w base (.slice (some ⟨g, 0, none⟩) l.length cap) l :=
  ⟨by rw [bvs_length, Nat.mul_one], .inr ⟨g, cap, cur.toArray, rfl, hb, hg, hl, hc, by simpa using hs, by simpa using ht⟩⟩
/-- A slice literal of bytes. -/
theorem Own.lit (cs : Array Value) (hb : base ≤ w.heap.size) (h : cs.toList = bvs l) (hl : l.length ≤ maxLen) :
    Own U (w.alloc (.cells cs U)) base (.slice (some ⟨w.heap.size, 0, none⟩) l.length l.length) l := by
  have hsz : cs.size = l.length := by rw [← Array.length_toList, h, bvs_length]
  have := World.ownsRow_lit (base := base) (e := U) (size := 1) w cs l.length hb hl (by omega)
  rw [h] at this
  exact this
theorem Rd.lit (cs : Array Value) (h : cs.toList = bvs l) (hl : l.length ≤ maxLen) : Rd (w.alloc (.cells cs U)) (some ⟨w.heap.size, 0, none⟩) l.length l := by
  obtain ⟨A, c, hv, _, _, hr⟩ := (Own.lit (U := U) (w := w) (base := 0) cs (Nat.zero_le _) h hl).shape
  injection hv with h1 h2 h3
  rw [h1]
  exact hr
end

/-- append(v, more...) onto a slice of the call's own. -/
theorem run_app {P : Program} {w : World} (base : Nat) (t ty U : TypeId) (ht : P.underlying t = some (.slice U)) (hinfo : (P.info? U).map (fun i => (i.zero, i.size, i.bytes)) = some (some (.int .u8 0), 1, 1))
    (v : Value) (l : List UInt8) (hown : Own U w base v l) (A : Option Addr) (m c : Nat) (news : List UInt8) (hr : Rd w A m news)
    (hle : l.length + m ≤ 140737488355328) (hbase : base ≤ w.heap.size) :
    ∃ v' w', (Builtin.append_ #[t, t] ty #[v, .slice A m c]).run P w = .ok v' w' ∧ Own U w' base v' (l ++ news) ∧ w.grownBy w' v.ownBlock ∧ (v'.ownBlock = v.ownBlock ∨ v'.ownBlock = some w.heap.size) := by
  obtain ⟨i0, hi, hz0, hz1, hz2⟩ := info_parts hinfo
  have hm : news.length = m := hr.len
  by_cases h0 : m = 0
  · subst h0
    obtain rfl : news = [] := List.eq_nil_of_length_eq_zero hm
    have hrun : (Builtin.append_ #[t, t] ty #[v, .slice A 0 c]).run P w = .ok v w := by
      rcases hown.2 with ⟨rfl, _⟩ | ⟨g, cap, cur, rfl, _, _, hnc, _⟩
      · cases A <;> simp [Builtin.append_, run_underlying ht, sizeOf, typeInfo, hi, Builtin.lenOf, Builtin.firstCells, loadCells, loadCellsFrom]
      · cases A <;> simp [Builtin.append_, run_underlying ht, sizeOf, typeInfo, hi, Builtin.lenOf, Builtin.firstCells, loadCells, loadCellsFrom, hnc, storeCells]
    exact ⟨v, w, hrun, by rw [List.append_nil]; exact hown, ⟨rfl, rfl, rfl, Nat.le_refl _, fun _ _ _ => rfl⟩, Or.inl rfl⟩
  · obtain ⟨b, off, rfl, hb, hc⟩ := hr.at_ (by omega)
    obtain ⟨v', w', hrun, h1, h2, _, h4⟩ := run_append_own_at (P := P) w base t ty U i0 _ 1 1 ht hi hz0 hz1 hz2 rfl (by omega) v l.length (bvs l) hown ⟨b, off, none⟩ m c (bvs news) (by rw [bvs_length]; omega)
      (fun j u hj => by
        obtain ⟨y, hy, rfl⟩ := bvs_get hj
        rw [add_plain]
        exact hc j y hy) (bvs_one _) (by simp only [maxLen]; omega) (by omega) hbase
    refine ⟨v', w', hrun, ?_, h2, h4⟩
    unfold Own
    rw [bvs_append, List.length_append, hm]
    exact h1

/-- At the append in a walk: its run is known. -/
theorem wpList_append_run {P : Program} {w w' : World} {ops : Array Oper} {rest : List Oper} {o : Oper} {a : Act} {Q : Exit → Act → World → Prop} {v y v' : Value} {t u ty : TypeId}
    (hrun : (Builtin.append_ #[t, u] ty #[v, y]).run P w = .ok v' w') (hgd : o.guard = none) (s x : Operand)
    (ho : o.op = .call { callee := .builtin .append, args := #[s, x], argTypes := #[t, u] }) (hty : o.type = ty) (hs : a.eval s = v) (hx : a.eval x = y)
    (h : wpList P ops Q rest (a.put o.dst v') w') : wpList P ops Q (o :: rest) a w := by
  subst hty
  refine wpList_plain hgd fun K hK => ?_
  unfold Oper.wp execOp
  simp only [ho, resolve, invoke, builtin, Sem.run_bind, Sem.run_pure, Result.andThen_ok, List.map_toArray, List.map_cons, List.map_nil, hs, hx, hrun]
  exact hK _ _ h

/-- append(v, x) of one byte, which lies in a block of its own. -/
theorem run_app_one {P : Program} {w : World} (base : Nat) (t ty U : TypeId) (ht : P.underlying t = some (.slice U)) (hinfo : (P.info? U).map (fun i => (i.zero, i.size, i.bytes)) = some (some (.int .u8 0), 1, 1))
    (v : Value) (l : List UInt8) (hown : Own U w base v l) (u : Value) (x : UInt8) (hx : u = bv x) (hle : l.length + 1 ≤ 140737488355328) (hbase : base ≤ w.heap.size) :
    ∃ v' w', (Builtin.append_ #[t, t] ty #[v, .slice (some ⟨w.heap.size, 0, none⟩) 1 1]).run P (w.alloc (.cells #[u] U)) = .ok v' w' ∧ Own U w' base v' (l ++ [x]) ∧ Below base w w' := by
  have hr : Rd (w.alloc (.cells #[u] U)) (some ⟨w.heap.size, 0, none⟩) 1 [x] := Rd.lit (l := [x]) #[u] (by rw [hx]; rfl) (by simp [maxLen])
  have ho := hown.alloc (.cells #[u] U)
  obtain ⟨v', w', h1, h2, h3, _⟩ := run_app base t ty U ht hinfo v l ho _ 1 1 [x] hr hle (by simp; omega)
  exact ⟨v', w', h1, h2, ((Below.refl base w).alloc hbase _).grown h3 (by simp; omega) fun k hk => (ho.lt k hk).1⟩

/-- append(v, s...) of a string. -/
theorem run_app_string {P : Program} {w : World} (base : Nat) (t u ty U : TypeId) (ht : P.underlying t = some (.slice U)) (hu : P.underlying u = some .string) (hinfo : (P.info? U).map (fun i => (i.zero, i.size, i.bytes)) = some (some (.int .u8 0), 1, 1))
    (v : Value) (l : List UInt8) (hown : Own U w base v l) (s : ByteArray) (hle : l.length + s.size ≤ 140737488355328) (hbase : base ≤ w.heap.size) :
    ∃ v' w', (Builtin.append_ #[t, u] ty #[v, .string s]).run P w = .ok v' w' ∧ Own U w' base v' (l ++ s.data.toList) ∧ w.grownBy w' v.ownBlock := by
  obtain ⟨i0, hi, hz0, hz1, hz2⟩ := info_parts hinfo
  obtain ⟨v', w', h1, h2, h3, _⟩ := Lib.run_append_own_string (P := P) w base t u ty U i0 ht hu hi hz0 hz1 hz2 v l.length (bvs l) hown s (by simp only [maxLen]; omega) hle hbase
  refine ⟨v', w', h1, ?_, h3⟩
  unfold Own
  rw [bvs_append, List.length_append]
  exact h2

/-- copy(out, b) into a row that has just been made, as long as b. -/
theorem run_copy_new {P : Program} {w : World} (dT sT ty U : TypeId) (hu : P.underlying dT = some (.slice U)) (hinfo : (P.info? U).map (fun i => (i.zero, i.size, i.bytes)) = some (some (.int .u8 0), 1, 1))
    (A : Option Addr) (n c cap : Nat) (l : List UInt8) (hr : Rd w A n l) (hc : n ≤ cap) (hm : cap ≤ maxLen) :
    ∃ w1, (Builtin.copy_ #[dT, sT] ty #[.slice (some ⟨w.heap.size, 0, none⟩) n cap, .slice A n c]).run P (w.alloc (.cells (zcells cap).toArray U)) = .ok (.int .i64 (n : Int)) w1 ∧
      Own U w1 w.heap.size (.slice (some ⟨w.heap.size, 0, none⟩) n cap) l ∧ Below w.heap.size w w1 := by
  obtain ⟨i0, hi, hz0, hz1, hz2⟩ := info_parts hinfo
  have hsz : (P.info? U).map (·.size) = some 1 := by rw [hi]; simp [hz1]
  have hl := hr.len
  by_cases h0 : n = 0
  · subst h0
    obtain rfl : l = [] := List.eq_nil_of_length_eq_zero hl
    refine ⟨_, run_copy_none (P := P) _ dT sT ty U _ _ 0 cap 0 c hu hsz rfl, ?_, (Below.refl _ _).alloc (Nat.le_refl _) _⟩
    exact Own.of_row (l := []) (heap_alloc_new w _) (Nat.le_refl _) (Nat.zero_le _) hm (zcells_length _) rfl
  · obtain ⟨b, off, rfl, hb, hcell⟩ := hr.at_ (by omega)
    have hrun := run_copy_row (P := P) (w.alloc (.cells (zcells cap).toArray U)) dT sT ty U w.heap.size 0 n cap ⟨b, off, none⟩ n c (zcells cap).toArray U (bvs l) hu hsz (heap_alloc_new w _)
      (by rw [bvs_length, hl]; simp) (fun j v hj => by
        obtain ⟨x, hx, rfl⟩ := bvs_get hj
        rw [add_plain, World.cell?_alloc_lt w _ _ hb]
        exact hcell j x hx) (by rw [bvs_length, hl]; simp [zcells]; omega) (bvs_one _)
    rw [bvs_length, hl] at hrun
    refine ⟨_, hrun, ?_, below_setRow ((Below.refl _ _).alloc (Nat.le_refl _) _) (Nat.le_refl _) _⟩
    have hlen : ((zcells cap).toArray.toList.take 0 ++ (bvs l ++ (zcells cap).toArray.toList.drop (0 + n))).length = cap := by
      simp [zcells, bvs_length, hl]; omega
    have := Own.of_row (U := U) (base := w.heap.size) (l := l) (setRow_heap (w.alloc (.cells (zcells cap).toArray U)) w.heap.size (zcells cap).toArray ((zcells cap).toArray.toList.take 0 ++ (bvs l ++ (zcells cap).toArray.toList.drop (0 + n))).toArray U (0, 0) (heap_alloc_new w _)) (Nat.le_refl _) (by omega) hm hlen (by simp [← hl, ← bvs_length])
    rw [hl] at this
    exact this

/-- Behind an append: what was there ahead of the call stays. -/
theorem below_app {U : TypeId} {w0 w w' : World} {base : Nat} {v : Value} {l : List UInt8} (h : Below base w0 w) (hown : Own U w base v l) (hg : w.grownBy w' v.ownBlock) (hb : base ≤ w.heap.size) : Below base w0 w' :=
  h.grown hg hb fun k hk => (hown.lt k hk).1

/-- A slice of bytes that came in, as the row's frame opens it, reads as bytes. -/
theorem rd_of_row {w : World} {a : Option Addr} {len cap : Nat} {zs : List Int}
    (h : (a = none ∧ len = 0 ∧ cap = 0 ∧ zs = []) ∨ ∃ x, a = some x ∧ len ≤ cap ∧ cap ≤ maxLen ∧ zs.length = cap ∧ (∀ i, i < zs.length → w.cell? (x.add i) = some (.int .u8 (zs.getD i 0))) ∧ ∀ n ∈ zs, (Lit.int .u8 n).wf = true) :
    ∃ l, Rd w a len l ∧ len ≤ cap ∧ cap ≤ maxLen := by
  rcases h with ⟨rfl, rfl, rfl, _⟩ | ⟨x, rfl, hl, hm, hz, hc, hw⟩
  · exact ⟨[], Rd.nil, Nat.le_refl _, by simp [maxLen]⟩
  · refine ⟨(zs.take len).map fun n => UInt8.ofNat n.toNat, ⟨by simp; omega, fun hp => ?_⟩, hl, hm⟩
    obtain ⟨b, off, spot⟩ := x
    have h0 := hc 0 (by omega)
    have hspot : spot = none := by simpa [Addr.add] using World.cell?_spot h0
    subst hspot
    have hlt : b < w.heap.size := World.block_lt_of_cell? w _ h0
    refine ⟨b, off, rfl, by simpa [Addr.add] using hlt, fun j y hy => ?_⟩
    have hj : j < len := by
      rcases Nat.lt_or_ge j len with h | h
      · exact h
      · rw [List.getElem?_eq_none (by simp; omega)] at hy; cases hy
    have hjz : j < zs.length := by omega
    have := hc j hjz
    rw [add_plain] at this
    rw [this]
    simp only [List.getElem?_map, List.getElem?_take, if_pos hj, List.getElem?_eq_getElem hjz, Option.map_some, Option.some.injEq] at hy
    subst hy
    have hwf := hw zs[j] (List.getElem_mem hjz)
    have hb : 0 ≤ zs[j] ∧ zs[j] ≤ 255 := by simpa [Lit.wf, IntKind.min, IntKind.max, IntKind.signed, IntKind.bits] using hwf
    have : (List.getD zs j 0) = zs[j] := by simp [List.getD, List.getElem?_eq_getElem hjz]
    rw [this]
    congr 2
    simp
    omega
end Go.Proofs.Ytbfamijlaoopaaa
