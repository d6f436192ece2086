/-
  What more functions of the region do: blocks that are compared, whether one may be (the document's), may follow another one, is all taken: contracts, one a function.
  Which rows of free blocks are right, told block by block by a map of their words: plain mathematics, no program.
  Which words are free, and whether free blocks are right: contracts of freeWords and Check.
-/
import Derived.Test.YtlnmmklpccppmaaGreatDoorTg4
import Derived.Laws.StructEq
import Derived.Lib.Hide
namespace Go.Proofs.YtlnmmklpccppmaaGreatDoor
open Go.RowKit
/-- Two blocks are the same, or are not. -/
def sameB (x y : Blk) : Bool := x.1 == y.1 && x.2 == y.2
theorem sameB_iff (x y : Blk) : sameB x y = true ↔ x = y := by
  unfold sameB
  rw [Bool.and_eq_true, beq_iff_eq, beq_iff_eq]
  exact ⟨fun h => Prod.ext h.1 h.2, fun h => by rw [h]; exact ⟨rfl, rfl⟩⟩
theorem sameB_no {x y : Blk} (h : x ≠ y) : sameB x y = false := by
  rw [← Bool.not_eq_true, sameB_iff]
  exact h
theorem run_neq_blk (x o y p : Int) (W : World) : (binOp .neq 65 (.agg #[.int .i64 x, .int .i64 o]) (.agg #[.int .i64 y, .int .i64 p])).run Tryz.prog W = .ok (.bool (!sameB (x, o) (y, p))) W := by
  have u3 := Tryz.underlying3
  have a3 := Tryz.isAgg3
  have z3 := Tryz.sizeOf3
  have hS : Tryz.prog.underlying 65 = some (.struct (Tryz.prog.fieldsOf 65)) := by kernel_rfl
  have hp : Tryz.prog.stoodInHeld 65 = false := by kernel_rfl
  rw [run_neq_struct, show (10000 : Nat) = 9999 + 1 from rfl, run_equalIn_agg W 9999 65 _ _ hS hp]
  simp only [Program.fieldsOf, Tryz.underlying65]
  unfold sameB
  go_simp
  by_cases h1 : x = y <;> by_cases h2 : o = p <;> simp [h1, h2]
theorem noGuard : Tryz.prog.eqGuardType Tryz.prog.depth 65 = false := by kernel_rfl
/-- b may follow a. -/
def mayFol (a b : Blk) : Bool := decide (a.1 < b.1) && !sameB b (twin a)
set_option maxHeartbeats 1000000 in
theorem mayFollow_any (a b : Blk) (w : World) (ha : 0 ≤ a.2 ∧ a.2 ≤ 8) (ra : 0 ≤ a.1 ∧ a.1 ≤ 256) :
    Calls Tryz.prog 167 #[bval a, bval b] w (Says w (.bool (mayFol a b))) := by
  have S1 := fun W => twin_any a W ha ra
  obtain ⟨x, o⟩ := a
  obtain ⟨y, p⟩ := b
  unfold mayFol
  simp only
  obtain ⟨⟨u, v⟩, huv⟩ : ∃ c, c = twin (x, o) := ⟨_, rfl⟩
  rw [← huv] at S1 ⊢
  clear huv
  have q := run_neq_blk y p u v
  obtain ⟨r, hr⟩ : ∃ r, r = sameB (y, p) (u, v) := ⟨_, rfl⟩
  rw [← hr] at q ⊢
  clear hr
  have hm := noGuard
  unfold bval enc2 at S1 ⊢
  simp only at S1 ⊢
  have g1 : Grew w ((w.alloc (.cells #[.int .i64 x, .int .i64 o] 65)).alloc (.cells #[.int .i64 y, .int .i64 p] 65)) := ((Grew.refl w).alloc _).alloc _
  have B1 := (Box2.new w (x, o) 65).alloc (.cells #[.int .i64 y, .int .i64 p] 65)
  have B2 := Box2.new (w.alloc (.cells #[.int .i64 x, .int .i64 o] 65)) (y, p) 65
  simp only [World.size_alloc] at B2
  have mixed : Tryz.prog.follows .mixedOrders = true := by kernel_rfl
  by_cases h1 : x < y
  · have hd : decide (x < y) = true := decide_eq_true h1
    rw [hd, Bool.true_and]
    go_enter Tryz.func167, Tryz.ntmps167
    go_wp2_with fail
    generalize (w.alloc (.cells #[.int .i64 x, .int .i64 o] 65)).alloc (.cells #[.int .i64 y, .int .i64 p] 65) = w1 at g1 B1 B2 ⊢
    have c0 := B1.g0
    have c1 := B1.g1
    have d0 := B2.g0
    have d1 := B2.g1
    simp only at c0 c1 d0 d1
    clear B1 B2
    refine wp_region_quiet_grown mixed (by kernel_rfl) ?_
    repeat (go_big_quiet_step ((go_at_call 158; exact calls_grown_says (S1 _))))
    refine wpQuiet_nil ?_
    intro _ hw'
    obtain ⟨⟨nq, osq⟩, hw''⟩ := hw'
    subst hw''
    have g2 := g1.grow nq osq
    go_wp2
    go_ret
    exact ⟨rfl, g2⟩
  · have hd : decide (x < y) = false := decide_eq_false h1
    rw [hd, Bool.false_and]
    go_enter Tryz.func167, Tryz.ntmps167
    go_wp2_with fail
    generalize (w.alloc (.cells #[.int .i64 x, .int .i64 o] 65)).alloc (.cells #[.int .i64 y, .int .i64 p] 65) = w1 at g1 B1 B2 ⊢
    have c0 := B1.g0
    have c1 := B1.g1
    have d0 := B2.g0
    have d1 := B2.g1
    simp only at c0 c1 d0 d1
    clear B1 B2
    refine wp_region_quiet_grown mixed (by kernel_rfl) ?_
    repeat (go_big_quiet_step ((go_at_call 158; exact calls_grown_says (S1 _))))
    refine wpQuiet_nil ?_
    intro _ hw'
    obtain ⟨⟨nq, osq⟩, hw''⟩ := hw'
    subst hw''
    have g2 := g1.grow nq osq
    go_wp2
    go_ret
    exact ⟨rfl, g2⟩
/-- All of a block is taken, by the map of what is free. -/
def allTkn (l : List Bool) (b : Blk) : Bool := runL l b.1 (wordsI b.2) false == b.1
set_option maxHeartbeats 1000000 in
theorem allTaken_any (g h : Nat) (l : List Bool) (b : Blk) (w : World) (m : MapAt w g h l) (hT : Tab w) :
    Calls Tryz.prog 163 #[.pointer (some ⟨g, 0, none⟩), bval b] w (Says w (.bool (allTkn l b))) := by
  have S1 := fun W => words_any b.2 W
  obtain ⟨y, p⟩ := b
  unfold allTkn
  simp only at *
  obtain ⟨s, hs⟩ : ∃ s, s = wordsI p := ⟨_, rfl⟩
  rw [← hs] at S1 ⊢
  clear hs
  have g1 : Grew w (w.alloc (.cells #[.int .i64 y, .int .i64 p] 65)) := (Grew.refl w).alloc _
  have S2 := fun n os => run_any g h l y s false (Go.Sort.grow ((w.alloc (.cells #[.int .i64 y, .int .i64 p] 65)).drewN n) os) (m.below (g1.grow n os).below) (hT.below (g1.grow n os).below)
  obtain ⟨r, hr⟩ : ∃ r, r = runL l y s false := ⟨_, rfl⟩
  rw [← hr] at S2 ⊢
  clear hr m hT
  unfold bval enc2
  simp only
  have B1 := Box2.new w (y, p) 65
  have mixed : Tryz.prog.follows .mixedOrders = true := by kernel_rfl
  go_enter Tryz.func163, Tryz.ntmps163
  go_wp2_with fail
  generalize w.alloc (.cells #[.int .i64 y, .int .i64 p] 65) = w1 at g1 B1 S2 ⊢
  have c0 := B1.g0
  have c1 := B1.g1
  simp only at c0 c1
  clear B1
  refine wp_region_quiet_grown mixed (by kernel_rfl) ?_
  repeat (go_big_quiet_step (first | (go_at_call 117; exact calls_grown_same (S1 _)) | (go_at_call 186; exact calls_grown_same (S2 _ _))))
  refine wpQuiet_nil ?_
  intro _ hw'
  obtain ⟨⟨nq, osq⟩, hw''⟩ := hw'
  subst hw''
  have g2 := g1.grow nq osq
  go_wp2
  go_ret
  exact ⟨rfl, g2⟩
end Go.Proofs.YtlnmmklpccppmaaGreatDoor
namespace Go.Proofs.YtlnmmklpccppmaaGreatDoor
open Go.RowKit
theorem twin_twin {r : Int} {b : Blk} (hr : r ≤ 8) (h : May r b) : twin (twin b) = b := by
  obtain ⟨x, o⟩ := b
  obtain ⟨k0, k1, k2, k3, k4⟩ := h
  simp only at *
  unfold twin
  simp only
  rcases ords k0 (by omega) with h | h | h | h | h | h | h | h | h <;> subst h <;> simp only [sz0, sz1, sz2, sz3, sz4, sz5, sz6, sz7, sz8] at * <;> split <;> simp only [sz0, sz1, sz2, sz3, sz4, sz5, sz6, sz7, sz8] <;> split <;> simp <;> omega
/-- b may come behind the row fs. -/
def Comes (r : Int) (fs : List Blk) (b : Blk) : Prop := May r b ∧ (∀ a ∈ fs, ¬ Meets b a) ∧ ∀ a, fs.getLast? = some a → mayFol a b = true
theorem mayFol_iff (a b : Blk) : mayFol a b = true ↔ a.1 < b.1 ∧ b ≠ twin a := by
  unfold mayFol
  rw [Bool.and_eq_true, decide_eq_true_iff, Bool.not_eq_true']
  constructor
  · rintro ⟨h1, h2⟩
    exact ⟨h1, fun e => by rw [(sameB_iff _ _).2 e] at h2; cases h2⟩
  · rintro ⟨h1, h2⟩
    exact ⟨h1, sameB_no h2⟩
theorem last_mem {l : List Blk} {a : Blk} (h : l.getLast? = some a) : a ∈ l := List.mem_of_getLast? h
theorem rise_last : ∀ {l : List Blk} {a b : Blk}, l.Pairwise (fun a b => a.1 < b.1) → l.getLast? = some a → b ∈ l → b = a ∨ b.1 < a.1 := by
  intro l a b h hl hb
  obtain ⟨l', rfl⟩ := List.getLast?_eq_some_iff.1 hl
  rw [List.pairwise_append] at h
  rcases List.mem_append.1 hb with e | e
  · exact .inr (h.2.2 b e a (by simp))
  · exact .inl (by simpa using e)
theorem right_snoc {r : Int} {fs : List Blk} {b : Blk} (h : Right r fs) : Right r (fs ++ [b]) ↔ Comes r fs b := by
  have hr8 := h.1.2
  constructor
  · intro k
    have hb : b ∈ fs ++ [b] := by simp
    have hp := k.2.2
    rw [List.pairwise_append] at hp
    have hA : ∀ a ∈ fs, Ahd r a b := fun a ha => hp.2.2 a ha b (by simp)
    refine ⟨k.2.1 b hb, fun a ha => (hA a ha).2.1, fun a ha => ?_⟩
    have hm := last_mem ha
    have hAh := hA a hm
    refine (mayFol_iff a b).2 ⟨hAh.1, fun e => ?_⟩
    have hMa := h.may hm
    by_cases hlt : a.2 < r
    · exact hAh.2.2 ⟨by rw [e, twin_ord]; exact hlt, by rw [e]; exact twin_twin hr8 hMa⟩
    · have hb2 : b.2 = a.2 := by rw [e, twin_ord]
      have hMb := k.2.1 b hb
      have e1 : a.2 = r := by have := hMa.2.1; omega
      have := hMa.2.2.1
      have h3 := hMb.2.2.2.1
      rw [hb2, e1] at h3
      have := hAh.1
      omega
  · rintro ⟨h1, h2, h3⟩
    refine ⟨h.1, fun c hc => ?_, ?_⟩
    · rcases List.mem_append.1 hc with e | e
      · exact h.2.1 c e
      · rw [show c = b by simpa using e]; exact h1
    · rw [List.pairwise_append]
      refine ⟨h.2.2, List.pairwise_singleton _ _, fun a ha c hc => ?_⟩
      rw [show c = b by simpa using hc]
      obtain ⟨z, hz⟩ : ∃ z, fs.getLast? = some z := by
        cases e : fs.getLast? with
        | none => rw [List.getLast?_eq_none_iff] at e; subst e; cases ha
        | some z => exact ⟨z, rfl⟩
      obtain ⟨f1, f2⟩ := (mayFol_iff z b).1 (h3 z hz)
      have hza := rise_last h.rise hz ha
      have hlt : a.1 < b.1 := by
        rcases hza with e | e
        · rw [e]; exact f1
        · omega
      refine ⟨hlt, h2 a ha, ?_⟩
      rintro ⟨hb, ht⟩
      rcases hza with e | e
      · subst e
        exact f2 (by rw [← ht]; exact (twin_twin hr8 h1).symm)
      · have hMa := h.may ha
        have hsz : a.2 = b.2 := by rw [← ht, twin_ord]
        have hp := sz_pos b.2
        have ha1 : b.1 = a.1 + sz b.2 := by
          have := congrArg Prod.fst ht
          unfold twin at this
          split at this <;> simp only at this <;> omega
        have hzp := sz_pos z.2
        have hmz : Meets z a := ⟨by rw [hsz]; omega, by omega⟩
        have := h.apart (last_mem hz) ha hmz
        rw [this] at e
        omega
theorem right_prefix {r : Int} {l : List Blk} (h : Right r l) (k : Nat) : Right r (l.take k) := h.sub (List.take_sublist k l)
theorem right_nil {r : Int} (h : 3 ≤ r ∧ r ≤ 8) : Right r [] := ⟨h, (fun _ h => by cases h), List.Pairwise.nil⟩
/-- The map m tells the words of these blocks. -/
def Mapped (r : Int) (fs : List Blk) (m : List Bool) : Prop := (m.length : Int) = sz r ∧ ∀ x : Nat, x < m.length → (isOn m x = true ↔ Cov fs (x : Int))
theorem mapped_nil (r : Int) : Mapped r [] (List.replicate (sz r).toNat false) := by
  have := sz_pos r
  refine ⟨by simp; omega, fun x hx => ?_⟩
  constructor
  · intro h
    have e : isOn (List.replicate (sz r).toNat false) x = false := by
      unfold isOn
      rw [List.getD_eq_getElem?_getD, List.getElem?_replicate]
      split <;> rfl
    rw [e] at h
    cases h
  · rintro ⟨b, hb, _⟩; cases hb
theorem cov_snoc (fs : List Blk) (b : Blk) (x : Int) : Cov (fs ++ [b]) x ↔ Cov fs x ∨ InB b x := by
  unfold Cov
  constructor
  · rintro ⟨c, hc, hx⟩
    rcases List.mem_append.1 hc with e | e
    · exact .inl ⟨c, e, hx⟩
    · rw [show c = b by simpa using e] at hx; exact .inr hx
  · rintro (⟨c, hc, hx⟩ | hx)
    · exact ⟨c, List.mem_append_left _ hc, hx⟩
    · exact ⟨b, by simp, hx⟩
theorem Mapped.put {r : Int} {fs : List Blk} {m : List Bool} {b : Blk} (h : Mapped r fs m) (hb : May r b) : putV m b.1 (sz b.2) true = putL m b.1.toNat (sz b.2).toNat true ∧ putE m b.1 (sz b.2) = 0 ∧ Mapped r (fs ++ [b]) (putV m b.1 (sz b.2) true) := by
  obtain ⟨h1, h2⟩ := h
  obtain ⟨k0, k1, k2, k3, k4⟩ := hb
  have hp := sz_pos b.2
  have hm : mayPut m b.1 (sz b.2) = true := decide_eq_true ⟨k2, by omega, by omega⟩
  have e1 : putV m b.1 (sz b.2) true = putL m b.1.toNat (sz b.2).toNat true := by unfold putV; rw [hm, if_pos rfl]
  refine ⟨e1, by unfold putE; rw [hm]; rfl, ?_⟩
  rw [e1]
  refine ⟨by rw [putL_length]; exact h1, fun x hx => ?_⟩
  rw [putL_length] at hx
  rw [putL_isOn m _ _ _ hx, cov_snoc]
  by_cases hi : b.1.toNat ≤ x ∧ x < b.1.toNat + (sz b.2).toNat
  · rw [if_pos hi]
    exact ⟨fun _ => .inr ⟨by omega, by omega⟩, fun _ => rfl⟩
  · rw [if_neg hi, h2 x hx]
    exact ⟨fun h => .inl h, fun h => h.elim id fun h => absurd (⟨by have := h.1; omega, by have := h.2; omega⟩ : b.1.toNat ≤ x ∧ x < b.1.toNat + (sz b.2).toNat) hi⟩
/-- A run of bits at a place. -/
theorem runL_at {m : List Bool} {a n : Nat} {on : Bool} (hn : 1 ≤ n) : runL m (a : Int) (n : Int) on = (a : Int) ↔ runAt m a n on = true := by
  constructor
  · intro h
    by_cases hr : runAt m a n on = true
    · exact hr
    · exfalso
      unfold runL at h
      rw [if_neg (by omega)] at h
      split at h
      · rename_i i hi
        have := List.find?_some hi
        simp only [Bool.and_eq_true, decide_eq_true_iff, Int.toNat_natCast] at this
        have e : i = a := by omega
        subst e
        exact hr this.2
      · omega
  · intro h
    have hl := (runAt_iff.1 h).1
    exact runL_some (by omega) (by omega) (Int.le_refl _) (by rw [Int.toNat_natCast]; exact h) (fun j hj hja => by omega)
theorem Mapped.taken {r : Int} {fs : List Blk} {m : List Bool} {b : Blk} (hf : ∀ a ∈ fs, May r a) (h : Mapped r fs m) (hr : r ≤ 8) (hb : May r b) : allTkn m b = true ↔ ∀ a ∈ fs, ¬ Meets b a := by
  obtain ⟨h1, h2⟩ := h
  obtain ⟨k0, k1, k2, k3, k4⟩ := hb
  have hp := sz_pos b.2
  obtain ⟨x, o⟩ := b
  simp only at *
  obtain ⟨a, rfl⟩ := Int.eq_ofNat_of_zero_le k2
  obtain ⟨n, hn⟩ := Int.eq_ofNat_of_zero_le (Int.le_of_lt hp)
  unfold allTkn
  rw [wordsI_in k0 (by omega), hn, beq_iff_eq, runL_at (by omega), runAt_iff]
  constructor
  · rintro ⟨e1, e2⟩ c hc hm
    obtain ⟨q1, q2⟩ := hm
    have hcp := sz_pos c.2
    simp only at q1 q2
    have hMc := hf c hc
    -- a word in both
    obtain ⟨y, hy⟩ : ∃ y : Nat, (y : Int) = max (a : Int) c.1 := ⟨(max (a : Int) c.1).toNat, by omega⟩
    have hon := (h2 y (by omega)).2 ⟨c, hc, by omega, by omega⟩
    have := e2 (y - a) (by omega)
    rw [show a + (y - a) = y by omega, hon] at this
    cases this
  · intro h3
    refine ⟨by omega, fun k hk => ?_⟩
    cases hon : isOn m (a + k) with
    | false => rfl
    | true =>
      obtain ⟨c, hc, hx⟩ := (h2 (a + k) (by omega)).1 hon
      exact absurd (meets_of (a := ((a : Int), o)) ⟨by simp only; omega, by simp only [hn]; omega⟩ hx) (h3 c hc)
end Go.Proofs.YtlnmmklpccppmaaGreatDoor
namespace Go.Proofs.YtlnmmklpccppmaaGreatDoor
open Go.RowKit
/-- The map of the words of these blocks. -/
def MapOf (w : World) (r : Int) (l : List Blk) (e : Ending) (w' : World) : Prop :=
  ∃ g h m, e = .returned (.tuple #[.pointer (some ⟨g, 0, none⟩), .bool true]) ∧ MapAt w' g h m ∧ Mapped r l m ∧ w.heap.size ≤ g ∧ w.heap.size ≤ h ∧ Below w.heap.size w w'
/-- So far. -/
def FwRel (w : World) (r : Int) (l : List Blk) (g h : Nat) (i : Value) (wr : World) : Prop :=
  ∃ (k : Nat) (m : List Bool), i = .int .i64 (k : Int) ∧ k ≤ l.length ∧ Right r (l.take k) ∧ Mapped r (l.take k) m ∧ MapAt wr g h m ∧ Below w.heap.size w wr
def NoWords (w : World) (e : Ending) (w' : World) : Prop := e = .returned (.tuple #[.pointer none, .bool false]) ∧ Below w.heap.size w w'
theorem take_snocB {l : List Blk} {k : Nat} {x : Blk} (h : l[k]? = some x) : l.take (k + 1) = l.take k ++ [x] := by
  have hk : k < l.length := (List.getElem?_eq_some_iff.1 h).1
  rw [List.take_add_one, h]
  rfl
theorem last_take {l : List Blk} {k : Nat} {x : Blk} (h : l[k]? = some x) : (l.take (k + 1)).getLast? = some x := by
  rw [take_snocB h]; simp
set_option maxHeartbeats 400000 in
theorem freeWords_out (r : Int) (A : Option Addr) (n c : Nat) (w : World) (hr : ¬ (3 ≤ r ∧ r ≤ 8)) :
    Calls Tryz.prog 144 #[.int .i64 r, .slice A n c] w (NoWords w) := by
  have S1 := fun W => words_any r W
  obtain ⟨s, hs⟩ : ∃ s, s = wordsI r := ⟨_, rfl⟩
  have hs1 : 0 ≤ s ∧ s ≤ 256 := by
    rw [hs]
    unfold wordsI
    split
    · rename_i h; exact ⟨Int.le_of_lt (sz_pos r), sz_le256 h.1 h.2⟩
    · omega
  rw [← hs] at S1
  obtain ⟨k, rfl⟩ := Int.eq_ofNat_of_zero_le hs1.1
  have S2 := new_yes k w (by omega)
  have S3 := fun W => isRegion_any r W
  rw [decide_eq_false hr] at S3
  clear hs hs1 hr
  go_enter Tryz.func144, Tryz.ntmps144
  go_wp2_with (first | (go_at_call 117; refine (S1 _).mono ?_; rintro e w1 ⟨rfl, rfl⟩) | (go_at_call 166; refine S2.mono ?_; rintro e w1 ⟨g, h, rfl, m1, hg, hh, b1⟩) | (go_at_call 125; refine (S3 _).mono ?_; rintro e w2 ⟨rfl, rfl⟩))
  go_ret2
  exact ⟨rfl, b1⟩
set_option maxRecDepth 100000 in
set_option maxHeartbeats 4000000 in
theorem freeWords_in (r : Int) (A : Option Addr) (n c : Nat) (l : List Blk) (w : World) (hr : 3 ≤ r ∧ r ≤ 8) (h : RdS w A n l) (hn : n ≤ 1000) (hT : Tab w) :
    Calls Tryz.prog 144 #[.int .i64 r, .slice A n c] w fun e w' => (Right r l ∧ MapOf w r l e w') ∨ (¬ Right r l ∧ NoWords w e w') := by
  have hlen := h.len
  have S1 := fun W => words_any r W
  rw [wordsI_in (by omega) hr.2] at S1
  have hs0 := sz_pos r
  have hs1 := sz_le256 (o := r) (by omega) hr.2
  obtain ⟨k0, hk0⟩ := Int.eq_ofNat_of_zero_le (Int.le_of_lt hs0)
  have hmp := mapped_nil r
  rw [hk0, Int.toNat_natCast] at hmp
  rw [hk0] at S1
  have S2 := new_yes k0 w (by omega)
  have S3 := fun W => isRegion_any r W
  rw [decide_eq_true hr] at S3
  have HR := Lib.hid h
  have HT := Lib.hid hT
  clear h hT
  go_enter Tryz.func144, Tryz.ntmps144
  go_wp2_with (first | (go_at_call 117; refine (S1 _).mono ?_; rintro e w1 ⟨rfl, rfl⟩) | (go_at_call 166; refine S2.mono ?_; rintro e w1 ⟨g, h, rfl, m1, hg, hh, b1⟩) | (go_at_call 125; refine (S3 _).mono ?_; rintro e w2 ⟨rfl, rfl⟩))
  clear S1 S2 S3
  go_loopw [25] (FwRel w r l g h) (fun i _ => n - (intOf i).toNat)
  case atStart => exact ⟨0, _, rfl, Nat.zero_le _, right_nil hr, hmp, m1, b1⟩
  case round =>
    clear m1 b1 hmp hk0 hs0 hs1
    obtain ⟨k, m, rfl, hk, hR, hM, mA, bw⟩ := hrel
    by_cases hlt : k < n
    · obtain ⟨b, off, x, rfl, hbl, hx, hc0, hc1⟩ := HR.out.cell hlt
      have c0 := (bw.cell (p := ⟨b, off + k * 2, none⟩) hbl).trans hc0
      have c1 := (bw.cell (p := ⟨b, off + k * 2 + 1, none⟩) hbl).trans hc1
      have hsn := right_snoc (b := x) hR
      rw [← take_snocB hx] at hsn
      have hno : ¬ Comes r (l.take k) x → ¬ Right r l := fun hq hRl => hq (hsn.1 (right_prefix hRl _))
      have g1 := (Grew.refl wr).alloc (.cells #[.int .i64 x.1, .int .i64 x.2] 65)
      have B1 := Box2.new wr x 65
      have M1 := fun W => mayBe_any r x W (by omega)
      have M2 := fun (W : World) (G : Grew (wr.alloc (.cells #[.int .i64 x.1, .int .i64 x.2] 65)) W) => allTaken_any g h m x W (mA.below (g1.trans G).below) (HT.out.below (bw.trans ((g1.trans G).below.mono bw.size)))
      have hTr := bw.size
      by_cases hm : May r x
      · rw [decide_eq_true hm] at M1
        have htk := hM.taken hR.2.1 hr.2 hm
        cases ht : allTkn m x with
        | false =>
          have hn1 := Lib.hid (hno (fun q => by have := htk.2 q.2.1; rw [ht] at this; cases this))
          rw [ht] at M2
          obtain ⟨x0, x1⟩ := x
          unfold bval enc2 at M1 M2
          simp only at *
          clear hsn hno htk
          go_wp2_with (first | (go_at_call 162; refine (M1 _).mono ?_; rintro e w2 ⟨rfl, G2⟩; have e0 := (B1.below G2.below).c0; have e1 := (B1.below G2.below).c1) | (go_at_call 163; refine (M2 _ G2).mono ?_; rintro e w3 ⟨rfl, G3⟩))
          go_ret2
          exact .inr ⟨hn1.out, rfl, bw.trans (((g1.trans G2).trans G3).below.mono bw.size)⟩
        | true =>
          have hdis := htk.1 ht
          rw [ht] at M2
          have mixed : Tryz.prog.follows .mixedOrders = true := by kernel_rfl
          obtain ⟨p1, p2, p3⟩ := hM.put hm
          have P := fun (W : World) (G : Grew (wr.alloc (.cells #[.int .i64 x.1, .int .i64 x.2] 65)) W) => put_any g h m x.1 (sz x.2) true W (mA.below (g1.trans G).below) (by have := hm.2.2.2.1; have := sz_pos x.2; have := sz_le256 (o := r) (by omega) hr.2; omega)
          rw [p2] at P
          have W1 := fun W => words_any x.2 W
          rw [wordsI_in hm.1 (by have := hm.2.1; omega)] at W1
          have Hp := Lib.hid p3
          have Hs := Lib.hid hsn
          have Hno := Lib.hid hno
          have Hd := Lib.hid hdis
          have HM := Lib.hid hm
          have Hx := Lib.hid hx
          clear p1 p2 p3 hsn hno htk hdis hm hM
          obtain ⟨x0, x1⟩ := x
          unfold bval enc2 at M1 M2
          simp only at *
          go_wp2_with (first | (go_at_call 162; refine (M1 _).mono ?_; rintro e w2 ⟨rfl, G2⟩; have e0 := (B1.below G2.below).c0; have e1 := (B1.below G2.below).c1) | (go_at_call 163; refine (M2 _ G2).mono ?_; rintro e w3 ⟨rfl, G3⟩))
          have d0 : Box2 w3 wr.heap.size (x0, x1) := (B1.below G2.below).below G3.below
          have GG := g1.trans (G2.trans G3)
          have GH := G2.trans G3
          have bw3 := bw.trans (GG.below.mono bw.size)
          clear M1 M2 c0 c1 e0 e1 B1
          by_cases hk0 : k = 0
          · have hd : decide (0 < (k : Int)) = false := by simp; omega
            refine wp_region_quiet_grown mixed (by kernel_rfl) ?_
            repeat (go_big_quiet_step (fail))
            refine wpQuiet_nil ?_
            intro _ hw'
            obtain ⟨⟨nq, osq⟩, hw''⟩ := hw'
            subst hw''
            have G4 := (Grew.refl w3).grow nq osq
            generalize Go.Sort.grow (w3.drewN nq) osq = w4 at G4 ⊢
            have d4 := d0.below G4.below
            have e0 := d4.c0
            have e1 := d4.c1
            clear d0 d4 hd
            have hfol : ∀ a, (l.take k).getLast? = some a → mayFol a (x0, x1) = true := fun a ha => by rw [hk0] at ha; simp at ha
            go_wp2_with fail
            go_region_with (first | (go_at_call 117; refine (W1 _).mono ?_; rintro e w5 ⟨rfl, rfl⟩) | (go_at_call 168; refine (P _ (GH.trans G4).drew).mono ?_; rintro e w6 ⟨rfl, m6, g6⟩))
            all_goals
              go_wp2
              go_roundw
              case rel => exact ⟨k + 1, _, by go_num, by omega, Hs.out.2 ⟨HM.out, Hd.out, hfol⟩, by rw [take_snocB Hx.out]; exact Hp.out, m6, below_grown (bw3.trans (G4.drew.below.mono bw3.size)) g6 (Nat.le_trans bw3.size G4.drew.below.size) hh⟩
              case measure => simp [intOf]; omega
          · have hd : decide (0 < k) = true := by simp; omega
            obtain ⟨q, hq⟩ : ∃ q, q = k - 1 := ⟨_, rfl⟩
            have hkq := Lib.hid (show k = q + 1 by omega)
            have hq0 : IntKind.i64.wrap ((k : Int) - 1) = (q : Int) := by rw [IntKind.wrap_i64]; omega
            have hqn : q < n := by omega
            have hqi : (q : Int) < (n : Int) := by omega
            obtain ⟨b', off', y, hbo, _, hy, y0, y1⟩ := HR.out.cell hqn
            injection hbo with hbo
            injection hbo with hb1 hb2
            subst hb1
            subst hb2
            have hyt : y ∈ l.take k := by rw [hkq.out]; exact List.mem_of_getElem? (i := q) (by rw [List.getElem?_take, if_pos (by omega)]; exact hy)
            have hMy := hR.may hyt
            have hlast : (l.take k).getLast? = some y := by rw [hkq.out]; exact last_take hy
            have hsy := sz_pos y.2
            have hsr := sz_le256 (o := r) (by omega) hr.2
            have F1 := fun W => mayFollow_any y (x0, x1) W ⟨hMy.1, by have := hMy.2.1; omega⟩ ⟨hMy.2.2.1, by have := hMy.2.2.2.1; omega⟩
            have z0 := cell_grown (a := ⟨b, off + q * 2, none⟩) (Nat.lt_of_lt_of_le hbl bw3.size) ((bw3.cell (p := ⟨b, off + q * 2, none⟩) hbl).trans y0)
            have z1 := cell_grown (a := ⟨b, off + q * 2 + 1, none⟩) (Nat.lt_of_lt_of_le hbl bw3.size) ((bw3.cell (p := ⟨b, off + q * 2 + 1, none⟩) hbl).trans y1)
            have v0 := d0.g0
            have v1 := d0.g1
            simp only at v0 v1
            have hall := Lib.hid (fun hf : mayFol y (x0, x1) = true => show ∀ a, (l.take k).getLast? = some a → mayFol a (x0, x1) = true from fun a ha => by rw [hlast] at ha; injection ha with ha; rw [← ha]; exact hf)
            have hbad := Lib.hid (fun hf : mayFol y (x0, x1) = false => Hno.out fun qq => by have := qq.2.2 y hlast; rw [hf] at this; cases this)
            clear hq hyt hMy hlast hsy hsr y0 y1 hy hx hc0 hc1 hR
            obtain ⟨ya, yo⟩ := y
            unfold bval enc2 at F1
            simp only at *
            cases hf : mayFol (ya, yo) (x0, x1) with
            | false =>
              rw [hf] at F1
              have hb2 := Lib.hid (hbad.out hf)
              clear hall hbad hf
              refine wp_region_quiet_grown mixed (by kernel_rfl) ?_
              repeat (go_big_quiet_step ((go_at_call 167; exact calls_grown_says (F1 _))))
              refine wpQuiet_nil ?_
              intro _ hw'
              obtain ⟨⟨nq, osq⟩, hw''⟩ := hw'
              subst hw''
              have G4 := (Grew.refl w3).grow nq osq
              generalize Go.Sort.grow (w3.drewN nq) osq = w4 at G4 ⊢
              have d4 := d0.below G4.below
              have e0 := d4.c0
              have e1 := d4.c1
              clear d0 d4 hd z0 z1 v0 v1 F1 hq0
              go_wp2
              go_ret2
              exact .inr ⟨hb2.out, rfl, bw3.trans (G4.below.mono bw3.size)⟩
            | true =>
              rw [hf] at F1
              have hfol := Lib.hid (hall.out hf)
              clear hall hbad hf
              refine wp_region_quiet_grown mixed (by kernel_rfl) ?_
              repeat (go_big_quiet_step ((go_at_call 167; exact calls_grown_says (F1 _))))
              refine wpQuiet_nil ?_
              intro _ hw'
              obtain ⟨⟨nq, osq⟩, hw''⟩ := hw'
              subst hw''
              have G4 := (Grew.refl w3).grow nq osq
              generalize Go.Sort.grow (w3.drewN nq) osq = w4 at G4 ⊢
              have d4 := d0.below G4.below
              have e0 := d4.c0
              have e1 := d4.c1
              clear d0 d4 hd z0 z1 v0 v1 F1 hq0
              go_wp2_with fail
              go_region_with (first | (go_at_call 117; refine (W1 _).mono ?_; rintro e w5 ⟨rfl, rfl⟩) | (go_at_call 168; refine (P _ (GH.trans G4).drew).mono ?_; rintro e w6 ⟨rfl, m6, g6⟩))
              all_goals
                go_wp2
                go_roundw
                case rel => exact ⟨k + 1, _, by go_num, by omega, Hs.out.2 ⟨HM.out, Hd.out, hfol.out⟩, by rw [take_snocB Hx.out]; exact Hp.out, m6, below_grown (bw3.trans (G4.drew.below.mono bw3.size)) g6 (Nat.le_trans bw3.size G4.drew.below.size) hh⟩
                case measure => simp [intOf]; omega
      · rw [decide_eq_false hm] at M1
        have hn1 := Lib.hid (hno (fun q => hm q.1))
        obtain ⟨x0, x1⟩ := x
        unfold bval enc2 at M1 M2
        simp only at *
        clear hsn hno
        go_wp2_with (first | (go_at_call 162; refine (M1 _).mono ?_; rintro e w2 ⟨rfl, G2⟩; have e0 := (B1.below G2.below).c0; have e1 := (B1.below G2.below).c1) | (go_at_call 163; refine (M2 _ G2).mono ?_; rintro e w3 ⟨rfl, G3⟩))
        go_ret2
        exact .inr ⟨hn1.out, rfl, bw.trans ((g1.trans G2).below.mono bw.size)⟩
    · obtain rfl : k = n := by omega
      have hRl : Right r l := by rw [List.take_of_length_le (by omega)] at hR; exact hR
      have hMl : Mapped r l m := by rw [List.take_of_length_le (by omega)] at hM; exact hM
      go_wp2
      go_ret2
      exact .inl ⟨hRl, g, h, m, rfl, mA, hMl, hg, hh, bw⟩
end Go.Proofs.YtlnmmklpccppmaaGreatDoor
