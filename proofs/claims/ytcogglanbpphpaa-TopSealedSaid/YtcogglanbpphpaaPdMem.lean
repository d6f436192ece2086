/-
  A disk of sectors in memory: a pointer's struct, sectors in a row, what a sector had in a map; what calls leave alone. Plain lemmas, no condition of their own.
-/
import Derived.Test.YtcogglanbpphpaaBase
import Derived.Test.YtcogglanbpphpaaVals
import Derived.Deep.MidRow
import Derived.Maps.OwnSet
import Derived.Maps.Ext
import Derived.Lib.SlKeysI
namespace Go.Proofs.Ytcogglanbpphpaa
open Go.RowKit Go.Maps Go.ChangeMaps Go.MapKept Go.WideShapes

/-! ### What stays -/
/-- All but the blocks of X stays as it was. -/
structure Oth (X : Nat → Prop) (w w' : World) : Prop where
  os : w'.os = w.os
  tape : w'.tape = w.tape
  output : w'.output = w.output
  size : w.heap.size ≤ w'.heap.size
  block : ∀ k, k < w.heap.size → ¬ X k → w'.heap[k]? = w.heap[k]?
section
variable {X Y : Nat → Prop} {a b c w w' : World}
theorem Oth.refl (X : Nat → Prop) (w : World) : Oth X w w := ⟨rfl, rfl, rfl, Nat.le_refl _, fun _ _ _ => rfl⟩
theorem Oth.trans (h : Oth X a b) (k : Oth X b c) : Oth X a c :=
  ⟨k.os.trans h.os, k.tape.trans h.tape, k.output.trans h.output, Nat.le_trans h.size k.size, fun i hi hx => (k.block i (Nat.lt_of_lt_of_le hi h.size) hx).trans (h.block i hi hx)⟩
theorem Oth.mono (h : Oth X w w') (hXY : ∀ k, X k → Y k) : Oth Y w w' := ⟨h.os, h.tape, h.output, h.size, fun k hk hy => h.block k hk fun hx => hy (hXY k hx)⟩
theorem Oth.of_below (h : Below w.heap.size w w') (X : Nat → Prop) : Oth X w w' := ⟨h.os, h.tape, h.output, h.size, fun k hk _ => h.block k hk⟩
theorem Oth.of_grown {r : Nat} (h : w.grownBy w' (some r)) (hr : X r) : Oth X w w' := ⟨h.os, h.tape, h.output, h.size, fun k hk hx => h.block k hk (by simp; rintro rfl; exact hx hr)⟩
theorem Oth.alloc (h : Oth X w w') (o : Obj) : Oth X w (w'.alloc o) := h.trans (Oth.of_below ((Below.refl _ _).alloc (Nat.le_refl _) o) X)
theorem Oth.drew (h : Oth X w w') : Oth X w w'.drew := ⟨h.os, h.tape, h.output, h.size, h.block⟩
theorem Oth.set (h : Oth X w w') {g : Nat} (hg : X g) (j : Nat) (v : Value) : Oth X w (w'.setCell ⟨g, j, none⟩ v) := h.trans (Oth.of_grown (grown_set w' g j v) hg)
/-- Nothing of X lies below B. -/
theorem Oth.below (h : Oth X w w') {B : Nat} (hX : ∀ k, X k → B ≤ k) (hB : B ≤ w.heap.size) : Below B w w' :=
  ⟨h.os, h.tape, h.output, h.size, fun k hk => h.block k (Nat.lt_of_lt_of_le hk hB) fun hx => by have := hX k hx; omega⟩
end
theorem grown_setCells (g : Nat) : ∀ (vs : List Value) (o : Nat) (w : World), w.grownBy (w.setCells g o vs) (some g)
  | [], _, w => grown_refl w _
  | v :: r, o, w => grown_trans (grown_set w g o v) (grown_setCells g r (o + 1) _)

/-! ### A sector -/
def zs : List UInt8 := List.replicate 64 0
theorem zs_length : zs.length = 64 := by simp [zs]
def secv (x : List UInt8) : Value := .agg (bvs x).toArray
theorem secv_inj {x y : List UInt8} (h : secv x = secv y) : x = y := by
  have h1 : bvs x = bvs y := by simpa [secv] using h
  have := congrArg (fun l : List Value => l.map fun v => match v with | .int _ n => UInt8.ofNat n.toNat | _ => 0) h1
  simpa [bvs, bv, Function.comp_def] using this
/-- Bytes, and bytes 0 behind them up to 64. -/
def full (b : List UInt8) : List UInt8 := b ++ List.replicate (64 - b.length) 0
theorem full_length {b : List UInt8} (h : b.length ≤ 64) : (full b).length = 64 := by simp [full]; omega
theorem Try.infoSec : (Try.prog.info? 65).map (fun i => (i.zero, i.size, i.bytes)) = some (some (secv zs), 64, 64) := by kernel_rfl
theorem Try.sizeSec : (Try.prog.info? 65).map (·.size) = some 64 := by kernel_rfl
theorem zero_sec (w : World) : (zeroValue 65).run Try.prog w = .ok (secv zs) w := by
  obtain ⟨i0, hi, hz0, _, _⟩ := info_parts Try.infoSec
  simp [zeroValue, typeInfo, hi, hz0]
/-- A sector is read out of the middle of a block. -/
theorem load_sec {w : World} {b o : Nat} {x : List UInt8} (h : w.rangeAt b o (bvs x)) (hx : x.length = 64) :
    (Instr.loadAt 65 (.pointer (some ⟨b, o, none⟩))).run Try.prog w = .ok (secv x) w :=
  run_loadAt_mid w b o 65 (bvs x) _ h Try.underlying65 rfl (by rw [bvs_length, hx]; exact Try.sizeSec)
theorem store_sec {w : World} {b o : Nat} {x : List UInt8} (h : w.there b o 64) (hx : x.length = 64) :
    (Instr.storeAt 65 (.pointer (some ⟨b, o, none⟩)) (secv x)).run Try.prog w = .ok () (w.setCells b o (bvs x)) := by
  have := run_storeAt_mid (P := Try.prog) w b o 65 (bvs x).toArray (by rw [List.size_toArray, bvs_length, hx]; exact h) (by rw [List.size_toArray, bvs_length, hx]; exact Try.sizeSec) (all_oneCell_toArray (bvs_one x))
  simpa [secv] using this

/-! ### The map -/
def Rs (v : Value) : Option (DataW Value × List MemPlace) := some (.held v, [])
theorem keyedI : Keyed Try.prog 3 := int_keyed Try.underlying3
theorem wf_nat {k n : Nat} (hk : k < n) (hn : n ≤ 4096) : (Lit.int .i64 (k : Int)).wf = true := by
  simp [Lit.wf, IntKind.min, IntKind.max, IntKind.signed, IntKind.bits]
  omega
theorem key_nat {k n : Nat} (hk : k < n) (hn : n ≤ 4096) : keyOf Try.prog 3 (.int .i64 (k : Int)) = some (.int .i64 (k : Int)) := keyOf_int_mk Try.underlying3 (wf_nat hk hn)
theorem isKey_int (k : Int) : WideAt.IsKeyLit (.int .i64 k) := trivial

/-- Block r is a map of sectors by their places. -/
def HadAt (w : World) (r n : Nat) (had : Nat → Option (List UInt8)) : Prop :=
  ∃ D : DataW Value, w.ownsMap Try.prog 3 Rs r n D ∧ (∀ k : Nat, Maps.has D (.int .i64 (k : Int)) = (had k).isSome) ∧
    (∀ (k : Nat) (x : List UInt8), had k = some x → ∀ z, D.atKey (.int .i64 (k : Int)) z = .held (secv x)) ∧ (∀ k x, had k = some x → k < n ∧ x.length = 64) ∧
    ∀ x : Int, Maps.has D (.int .i64 x) = true → ∃ k : Nat, x = (k : Int)

/-- As many numbers as there are, if no number comes twice. -/
theorem nodup_len : ∀ (n : Nat) (l : List Int), l.Nodup → (∀ x ∈ l, 0 ≤ x ∧ x < (n : Int)) → l.length ≤ n
  | 0, l, _, h => by
    cases l with
    | nil => simp
    | cons a r => have := h a (by simp); omega
  | n + 1, l, hd, h => by
    have h1 := nodup_len n (l.filter fun x => decide (x ≠ (n : Int))) (hd.filter _) fun x hx => by
      obtain ⟨hx1, hx2⟩ := List.mem_filter.1 hx
      have := h x hx1
      simp at hx2
      omega
    have h2 : (l.filter fun x => ! decide (x ≠ (n : Int))).length ≤ 1 := by
      have hd2 := hd.filter fun x => ! decide (x ≠ (n : Int))
      have hm : ∀ x ∈ l.filter (fun x => ! decide (x ≠ (n : Int))), x = (n : Int) := fun x hx => by
        have := (List.mem_filter.1 hx).2
        simpa using this
      generalize l.filter (fun x => ! decide (x ≠ (n : Int))) = m at hd2 hm
      match m with
      | [] => simp
      | [_] => simp
      | a :: b :: r =>
        have e1 := hm a (by simp)
        have e2 := hm b (by simp)
        rw [e1, e2] at hd2
        simp at hd2
    have h3 : ∀ m : List Int, m.length = (m.filter fun x => decide (x ≠ (n : Int))).length + (m.filter fun x => ! decide (x ≠ (n : Int))).length := fun m => by
      induction m with
      | nil => rfl
      | cons a r ih => by_cases e : a = (n : Int) <;> simp [e] at ih ⊢ <;> omega
    have := h3 l
    omega
theorem keys_nodup {es : List (Lit × DataW Value)} (hp : es.Pairwise (fun p q => p.1 ≠ q.1)) (hk : ∀ p ∈ es, ∃ x, p.1 = .int .i64 x) : (intKeys (.map es)).Nodup := by
  show (es.map fun p => intOf p.1).Nodup
  refine List.pairwise_map.2 (hp.imp_of_mem fun {p q} hp' hq' hne e => hne ?_)
  obtain ⟨a, ha⟩ := hk p hp'
  obtain ⟨b, hb⟩ := hk q hq'
  rw [ha, hb] at e ⊢
  exact congrArg _ e
theorem mem_keys {es : List (Lit × DataW Value)} (hk : ∀ p ∈ es, ∃ x, p.1 = .int .i64 x) (x : Int) : x ∈ intKeys (.map es) ↔ has (.map es) (.int .i64 x) = true := by
  rw [has_eq, List.any_eq_true]
  show x ∈ es.map (fun p => intOf p.1) ↔ _
  rw [List.mem_map]
  constructor
  · rintro ⟨p, hp', rfl⟩
    obtain ⟨a, ha⟩ := hk p hp'
    exact ⟨p, hp', by rw [ha]; simp [Lit.sameKey, intOf]⟩
  · rintro ⟨p, hp', hs⟩
    obtain ⟨a, ha⟩ := hk p hp'
    rw [ha] at hs
    exact ⟨p, hp', by rw [ha]; simpa [Lit.sameKey, intOf] using hs⟩
theorem ownsMap_ints {w : World} {r m : Nat} {D : DataW Value} (h : w.ownsMap Try.prog 3 Rs r m D) : ∃ es, D = .map es ∧ es.Pairwise (fun p q => p.1 ≠ q.1) ∧ ∀ p ∈ es, ∃ x, p.1 = .int .i64 x := by
  obtain ⟨es, clock, _, F, _, rfl⟩ := h
  refine ⟨_, rfl, ((WideShapes.sorted_perm _).pairwise_iff (fun {_ _} hne => Ne.symm hne)).2 (Maps.fit_apart keyedI F), fun p hp => ?_⟩
  obtain ⟨v, hv⟩ := Maps.fit_keys F p (mem_sorted.1 hp)
  obtain ⟨x, _, hx, _⟩ := Maps.keyOf_i64 Try.underlying3 hv
  exact ⟨x, hx⟩
theorem ownsMap_tight {w : World} {r m : Nat} {D : DataW Value} (h : w.ownsMap Try.prog 3 Rs r m D) : w.ownsMap Try.prog 3 Rs r (Maps.size D) D := by
  obtain ⟨es, clock, hb, F, _, rfl⟩ := h
  exact ⟨es, clock, hb, F, by simp [Maps.size, length_sorted], rfl⟩

section
variable {w w' : World} {r n : Nat} {had : Nat → Option (List UInt8)}
theorem HadAt.keep (h : HadAt w r n had) (hk : w'.heap[r]? = w.heap[r]?) : HadAt w' r n had := by
  obtain ⟨D, ⟨es, clock, hb, F, hs, hD⟩, h1⟩ := h
  exact ⟨D, ⟨es, clock, hk.trans hb, F, hs, hD⟩, h1⟩
theorem HadAt.lt (h : HadAt w r n had) : r < w.heap.size := by
  obtain ⟨D, h, _⟩ := h
  exact h.lt
theorem HadAt.look (h : HadAt w r n had) (hn : n ≤ 4096) {k : Nat} (hk : k < n) (c : Bool) :
    (Instr.lookup 41 (.map (some r)) (.int .i64 (k : Int)) c).run Try.prog w = .ok (if c then .tuple #[secv ((had k).getD zs), .bool (had k).isSome] else secv ((had k).getD zs)) w := by
  obtain ⟨D, hown, hhas, hat, hlt, _⟩ := h
  have hv : ∀ (v : Value) (ps : List MemPlace), Rs v = some (D.atKey (.int .i64 (k : Int)) (.held (secv zs)), ps) → v = secv ((had k).getD zs) := fun v ps hv => by
    have e : DataW.held v = D.atKey (.int .i64 (k : Int)) (.held (secv zs)) := by
      have := Option.some.inj hv
      exact congrArg Prod.fst this
    cases hh : had k with
    | none =>
      have hf : Maps.has D (.int .i64 (k : Int)) = false := by rw [hhas, hh]; rfl
      have : D.atKey (.int .i64 (k : Int)) (.held (secv zs)) = .held (secv zs) := by
        obtain ⟨es, rfl, _⟩ := ownsMap_ints hown
        have hfind : es.find? (fun p => p.1.sameKey (.int .i64 (k : Int))) = none := by
          rw [List.find?_eq_none]
          intro p hp hs
          rw [has_eq] at hf
          have := List.any_eq_false.1 hf p hp
          exact this hs
        simp [DataW.atKey, hfind]
      rw [this] at e
      simpa using e
    | some x =>
      rw [hat k x hh] at e
      simpa using e
  cases c
  · obtain ⟨v, ps, hrun, hR⟩ := hown.lookup keyedI Try.underlying41 (zero_sec w) (zd := .held (secv zs)) (zp := []) rfl (key_nat hk hn)
    rw [hrun, hv v ps hR]
    rfl
  · obtain ⟨v, ps, hrun, hR⟩ := hown.look_ok keyedI Try.underlying41 (zero_sec w) (zd := .held (secv zs)) (zp := []) rfl (key_nat hk hn)
    rw [hrun, hv v ps hR, hhas]
    rfl
theorem HadAt.size (h : HadAt w r n had) : ∃ D : DataW Value, w.ownsMap Try.prog 3 Rs r n D ∧ Maps.size D ≤ n := by
  obtain ⟨D, hown, _⟩ := h
  exact ⟨D, hown, hown.size_le⟩
set_option maxRecDepth 20000 in
/-- A sector is kept. -/
theorem HadAt.put (h : HadAt w r n had) (hn : n ≤ 4096) {k : Nat} (hk : k < n) {x : List UInt8} (hx : x.length = 64) :
    ∃ w', (Instr.mapUpdate 41 (.map (some r)) (.int .i64 (k : Int)) (secv x)).run Try.prog w = .ok () w' ∧ HadAt w' r n (fun j => if j = k then some x else had j) ∧ w.grownBy w' (some r) := by
  obtain ⟨D, hown, hhas, hat, hlt, hkey⟩ := h
  obtain ⟨w', hrun, hown', hg⟩ := hown.update keyedI Try.underlying41 (by unfold maxLen; omega) (key_nat hk hn) (val := secv x) (d := .held (secv x)) (ps := []) rfl
  have hne : ∀ j : Nat, j ≠ k → (Lit.int .i64 (j : Int)) ≠ .int .i64 (k : Int) := fun j hj e => hj (by simp only [Lit.int.injEq, true_and] at e; omega)
  have hhas' : ∀ j : Nat, Maps.has (D.put (.int .i64 (k : Int)) (.held (secv x))) (.int .i64 (j : Int)) = (if j = k then some x else had j).isSome := fun j => by
    by_cases hj : j = k
    · subst hj
      rw [has_put_same hown.isMap (isKey_int _)]
      simp
    · rw [has_put_other (hne j hj), if_neg hj, hhas]
  have hlt' : ∀ j y, (if j = k then some x else had j) = some y → j < n ∧ y.length = 64 := fun j y hy => by
    split at hy
    · rename_i hj
      injection hy with hy
      subst hy
      exact ⟨hj ▸ hk, hx⟩
    · exact hlt j y hy
  have hkey' : ∀ z : Int, Maps.has (D.put (.int .i64 (k : Int)) (.held (secv x))) (.int .i64 z) = true → ∃ j : Nat, z = (j : Int) := fun z hz => by
    by_cases e : (Lit.int .i64 z) = .int .i64 (k : Int)
    · exact ⟨k, by simpa using e⟩
    · rw [has_put_other e] at hz
      exact hkey z hz
  refine ⟨w', hrun, ⟨_, (ownsMap_tight hown').mono ?_, hhas', fun j y hy z => ?_, hlt', hkey'⟩, hg⟩
  · obtain ⟨es, hD, hp, hi⟩ := ownsMap_ints hown'
    rw [hD]
    have := nodup_len n (intKeys (.map es)) (keys_nodup hp hi) fun y hy => by
      have h1 := (mem_keys hi y).1 hy
      rw [← hD] at h1
      obtain ⟨j, rfl⟩ := hkey' y h1
      rw [hhas'] at h1
      obtain ⟨v, hv⟩ := Option.isSome_iff_exists.1 h1
      have := (hlt' j v hv).1
      omega
    simpa [Maps.size, intKeys] using this
  · dsimp only at hy
    split at hy
    · rename_i hj
      injection hy with hy
      subst hy
      subst hj
      exact atKey_put_same hown.isMap (isKey_int _) _ _
    · rename_i hj
      rw [atKey_put_other (hne j hj)]
      exact hat j y hy z
/-- clear(m) -/
theorem HadAt.clear (h : HadAt w r n had) (ty : TypeId) :
    ∃ w', (Builtin.clear_ #[41] ty #[.map (some r)]).run Try.prog w = .ok (.tuple #[]) w' ∧ HadAt w' r n (fun _ => none) ∧ w.grownBy w' (some r) := by
  obtain ⟨D, ⟨es, clock, hb, F, hs, hD⟩, _⟩ := h
  refine ⟨ChangeMaps.setBlock w r (.map #[] clock), ?_, ⟨.map [], ⟨#[], clock, heap_setBlock_same hb _, ⟨by simp, stamped_empty clock, by simp⟩, by simp, rfl⟩, fun k => rfl, by simp, by simp, fun x hx => by simp [Maps.has] at hx⟩,
    ⟨rfl, rfl, rfl, by simp [ChangeMaps.setBlock], fun i _ hi => heap_setBlock_other hb _ (fun e => hi (by rw [e]))⟩⟩
  simp [Builtin.clear_, run_underlying Try.underlying41, MapKept.run_getObj_map hb, MapKept.run_setObj_map _ hb, Result.andThen, ChangeMaps.setBlock]
theorem hadAt_made (w : World) (n : Nat) : HadAt (w.alloc (.map #[] 0)) w.heap.size n (fun _ => none) :=
  ⟨.map [], (World.ownsMap_made w _ _ _).mono (Nat.zero_le _), fun k => rfl, by simp, by simp, fun x hx => by simp [Maps.has] at hx⟩
end

/-! ### The disk -/
/-- What a disk is: sectors, what dirty ones had, whether it has stopped, behind how many calls it stops (0: never). -/
structure Dk where
  now : Nat → List UInt8
  had : Nat → Option (List UInt8)
  down : Bool
  left : Nat
/-- The blocks of a disk. -/
def ds (p q r k : Nat) : Prop := k = p ∨ k = q ∨ k = r
def dcs (q r n : Nat) (S : Dk) : List Value := [.slice (some ⟨q, 0, none⟩) n n, .map (some r), .bool S.down, .int .i64 (S.left : Int)]
/-- A disk of n sectors: its struct in block p, its sectors in q, its map in r. -/
structure DAt (w : World) (p q r n : Nat) (S : Dk) : Prop where
  ptr : Whole w p 43 (dcs q r n S)
  sec : ∀ i, i < n → w.rangeAt q (i * 64) (bvs (S.now i))
  len : ∀ i, i < n → (S.now i).length = 64
  free : w.there q 0 (n * 64)
  qlt : q < w.heap.size
  had : HadAt w r n S.had
  hadn : ∀ k x, S.had k = some x → k < n ∧ x.length = 64
  pq : p ≠ q
  pr : p ≠ r
  qr : q ≠ r
  pos : 0 < n
  most : n ≤ 4096
  left : S.left ≤ 1000000
section
variable {w w' : World} {p q r n : Nat} {S : Dk}
theorem DAt.keep (h : DAt w p q r n S) (hs : w.heap.size ≤ w'.heap.size) (hk : ∀ k, ds p q r k → w'.heap[k]? = w.heap[k]?) : DAt w' p q r n S where
  ptr := h.ptr.keep (hk p (.inl rfl))
  sec i hi j v hv := (World.cell?_of_block (hk q (.inr (.inl rfl)))).trans (h.sec i hi j v hv)
  len := h.len
  free j hj := by
    have e : w'.heap[q]? = w.heap[q]? := hk q (.inr (.inl rfl))
    rw [World.cell?_of_block (a := ⟨q, 0 + j, none⟩) e, World.frozen?_of_block (a := ⟨q, 0 + j, none⟩) e]
    exact h.free j hj
  qlt := Nat.lt_of_lt_of_le h.qlt hs
  had := h.had.keep (hk r (.inr (.inr rfl)))
  hadn := h.hadn
  pq := h.pq
  pr := h.pr
  qr := h.qr
  pos := h.pos
  most := h.most
  left := h.left
theorem DAt.lt (h : DAt w p q r n S) {k : Nat} (hk : ds p q r k) : k < w.heap.size := by
  rcases hk with rfl | rfl | rfl
  · exact h.ptr.lt
  · exact h.qlt
  · exact h.had.lt
theorem DAt.oth {X : Nat → Prop} (h : DAt w p q r n S) (k : Oth X w w') (hX : ∀ j, ds p q r j → ¬ X j) : DAt w' p q r n S := h.keep k.size fun j hj => k.block j (h.lt hj) (hX j hj)
theorem DAt.below (h : DAt w p q r n S) (k : Below w.heap.size w w') : DAt w' p q r n S := h.keep k.size fun j hj => k.block j (h.lt hj)
theorem DAt.alloc (h : DAt w p q r n S) (o : Obj) : DAt (w.alloc o) p q r n S := h.below ((Below.refl _ _).alloc (Nat.le_refl _) o)
theorem DAt.drew (h : DAt w p q r n S) : DAt w.drew p q r n S := h.keep (Nat.le_refl _) fun _ _ => rfl
/-- One sector can be written. -/
theorem DAt.there (h : DAt w p q r n S) {i : Nat} (hi : i < n) : w.there q (i * 64) 64 := fun j hj => by
  have := h.free (i * 64 + j) (by omega)
  rw [Nat.zero_add] at this
  exact this
/-- The struct is written anew. -/
theorem DAt.setDown (h : DAt w p q r n S) (d : Bool) : DAt (w.setCell ⟨p, 2, none⟩ (.bool d)) p q r n { S with down := d } := by
  have hg := grown_set w p 2 (.bool d)
  exact { ptr := h.ptr.set 2 (.bool d), sec := fun i hi j v hv => (World.cell?_of_block (hg.block q h.qlt (by simpa using h.pq.symm))).trans (h.sec i hi j v hv), len := h.len,
          free := fun j hj => by
            have e := hg.block q h.qlt (by simpa using h.pq.symm)
            rw [World.cell?_of_block (a := ⟨q, 0 + j, none⟩) e, World.frozen?_of_block (a := ⟨q, 0 + j, none⟩) e]
            exact h.free j hj
          qlt := Nat.lt_of_lt_of_le h.qlt hg.size, had := h.had.keep (hg.block r h.had.lt (by simpa using h.pr.symm)), hadn := h.hadn, pq := h.pq, pr := h.pr, qr := h.qr, pos := h.pos, most := h.most, left := h.left }
theorem DAt.setLeft (h : DAt w p q r n S) (m : Nat) (hm : m ≤ 1000000) : DAt (w.setCell ⟨p, 3, none⟩ (.int .i64 (m : Int))) p q r n { S with left := m } := by
  have hg := grown_set w p 3 (.int .i64 (m : Int))
  exact { ptr := h.ptr.set 3 (.int .i64 (m : Int)), sec := fun i hi j v hv => (World.cell?_of_block (hg.block q h.qlt (by simpa using h.pq.symm))).trans (h.sec i hi j v hv), len := h.len,
          free := fun j hj => by
            have e := hg.block q h.qlt (by simpa using h.pq.symm)
            rw [World.cell?_of_block (a := ⟨q, 0 + j, none⟩) e, World.frozen?_of_block (a := ⟨q, 0 + j, none⟩) e]
            exact h.free j hj
          qlt := Nat.lt_of_lt_of_le h.qlt hg.size, had := h.had.keep (hg.block r h.had.lt (by simpa using h.pr.symm)), hadn := h.hadn, pq := h.pq, pr := h.pr, qr := h.qr, pos := h.pos, most := h.most, left := hm }
/-- A sector is written. -/
theorem DAt.setSec (h : DAt w p q r n S) {i : Nat} (hi : i < n) {x : List UInt8} (hx : x.length = 64) : DAt (w.setCells q (i * 64) (bvs x)) p q r n { S with now := fun j => if j = i then x else S.now j } := by
  have hg := grown_setCells q (bvs x) (i * 64) w
  have hl : (bvs x).length = 64 := by rw [bvs_length, hx]
  exact { ptr := h.ptr.keep (hg.block p h.ptr.lt (by simpa using h.pq))
          sec := fun j hj => by
            dsimp only
            by_cases e : j = i
            · subst e
              rw [if_pos rfl]
              exact World.rangeAt_setCells_same w q (j * 64) (bvs x) (by rw [hl]; exact h.there hi)
            · rw [if_neg e]
              exact World.rangeAt_setCells_apart (h.sec j hj) q (i * 64) (bvs x) (by rw [bvs_length, h.len j hj, hl]; omega)
          len := fun j hj => by
            dsimp only
            split
            · exact hx
            · exact h.len j hj
          free := World.there_setCells h.free q (i * 64) (bvs x)
          qlt := Nat.lt_of_lt_of_le h.qlt hg.size, had := h.had.keep (hg.block r h.had.lt (by simpa using h.qr.symm)), hadn := h.hadn, pq := h.pq, pr := h.pr, qr := h.qr, pos := h.pos, most := h.most, left := h.left }
/-- What sectors had turns. -/
theorem DAt.setHad (h : DAt w p q r n S) {had : Nat → Option (List UInt8)} (hg : w.grownBy w' (some r)) (hH : HadAt w' r n had) : DAt w' p q r n { S with had := had } :=
  { ptr := h.ptr.keep (hg.block p h.ptr.lt (by simpa using h.pr)), sec := fun i hi j v hv => (World.cell?_of_block (hg.block q h.qlt (by simpa using h.qr))).trans (h.sec i hi j v hv), len := h.len,
    free := fun j hj => by
      have e := hg.block q h.qlt (by simpa using h.qr)
      rw [World.cell?_of_block (a := ⟨q, 0 + j, none⟩) e, World.frozen?_of_block (a := ⟨q, 0 + j, none⟩) e]
      exact h.free j hj
    qlt := Nat.lt_of_lt_of_le h.qlt hg.size, had := hH, hadn := by obtain ⟨_, _, _, _, h4, _⟩ := hH; exact h4, pq := h.pq, pr := h.pr, qr := h.qr, pos := h.pos, most := h.most, left := h.left }
theorem DAt.c0 (h : DAt w p q r n S) : w.cell? ⟨p, 0, none⟩ = some (.slice (some ⟨q, 0, none⟩) n n) := by rw [h.ptr.cell 0]; rfl
theorem DAt.c1 (h : DAt w p q r n S) : w.cell? ⟨p, 1, none⟩ = some (.map (some r)) := by rw [h.ptr.cell 1]; rfl
theorem DAt.c2 (h : DAt w p q r n S) : w.cell? ⟨p, 2, none⟩ = some (.bool S.down) := by rw [h.ptr.cell 2]; rfl
theorem DAt.c3 (h : DAt w p q r n S) : w.cell? ⟨p, 3, none⟩ = some (.int .i64 (S.left : Int)) := by rw [h.ptr.cell 3]; rfl
end
end Go.Proofs.Ytcogglanbpphpaa
