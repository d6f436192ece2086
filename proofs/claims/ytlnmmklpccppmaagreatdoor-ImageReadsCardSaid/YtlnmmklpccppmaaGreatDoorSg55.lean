/-
  The document's reading, that goes on behind what is bad, and tells at the end that something was: plain mathematics, no program.
  The document's reader of bytes: contracts of its number and its int.
-/
import Derived.Test.YtlnmmklpccppmaaGreatDoorSg35
import Derived.Test.YtlnmmklpccppmaaGreatDoorSg34
import Derived.Test.YtlnmmklpccppmaaGreatDoorSg36
namespace Go.Proofs.YtlnmmklpccppmaaGreatDoor
open Go.RowKit
/-- What is left of the bytes, and whether something was bad. -/
abbrev InS := List UInt8 × Bool
/-- One thing is read; where none comes, that is bad, and 0. -/
def nx (p : Prs Int) (s : InS) : Int × InS := match p s.1 with
  | some q => (q.1, (q.2, s.2))
  | none => (0, (s.1, true))
/-- A reading that goes on behind what is bad, and one that stops there. -/
structure Goes {α : Type} (f : InS → α × InS) (p : Prs α) : Prop where
  ok : ∀ s : InS, (f s).2.2 = false → s.2 = false ∧ p s.1 = some ((f s).1, (f s).2.1)
  full : ∀ (l : List UInt8) (b : Bool) (x : α) (r : List UInt8), p l = some (x, r) → f (l, b) = (x, (r, b))
theorem nx_some {p : Prs Int} {l r : List UInt8} {v : Int} {b : Bool} (h : p l = some (v, r)) : nx p (l, b) = (v, (r, b)) := by unfold nx; simp only; rw [h]
theorem nx_none {p : Prs Int} {l : List UInt8} {b : Bool} (h : p l = none) : nx p (l, b) = (0, (l, true)) := by unfold nx; simp only; rw [h]
theorem goes_nx (p : Prs Int) : Goes (nx p) p where
  ok s h := by
    obtain ⟨l, b⟩ := s
    cases hq : p l with
    | none => rw [nx_none hq] at h; cases h
    | some q =>
      obtain ⟨v, r⟩ := q
      have e := nx_some (b := b) hq
      rw [e] at h ⊢
      exact ⟨h, rfl⟩
  full l b x r h := nx_some h
theorem nx_num (s : InS) : IsNum (nx pnum s).1 := by
  obtain ⟨l, b⟩ := s
  cases hq : pnum l with
  | none => rw [nx_none hq]; unfold IsNum; simp only; omega
  | some q => obtain ⟨v, r⟩ := q; rw [nx_some hq]; exact (pnum_codec.sound _ _ _ hq).1
/-- So many, one behind the other. -/
def rep {α : Type} (f : InS → α × InS) : Nat → InS → List α × InS
  | 0, s => ([], s)
  | k + 1, s => ((rep f k s).1 ++ [(f (rep f k s).2).1], (f (rep f k s).2).2)
theorem rep_len {α : Type} {f : InS → α × InS} (s : InS) : ∀ k, (rep f k s).1.length = k
  | 0 => rfl
  | k + 1 => by
    show ((rep f k s).1 ++ [_]).length = _
    rw [List.length_append, rep_len s k, List.length_singleton]
theorem rep_ok {α : Type} {f : InS → α × InS} {p : Prs α} (h : Goes f p) (s : InS) : ∀ k, (rep f k s).2.2 = false → s.2 = false ∧ prep p k s.1 = some ((rep f k s).1, (rep f k s).2.1)
  | 0, hb => ⟨hb, rfl⟩
  | k + 1, hb => by
    obtain ⟨h1, h2⟩ := h.ok _ hb
    obtain ⟨h3, h4⟩ := rep_ok h s k h1
    exact ⟨h3, prep_step h4 h2⟩
theorem rep_full {α : Type} {f : InS → α × InS} {p : Prs α} (h : Goes f p) (l : List UInt8) (b : Bool) : ∀ (k : Nat) (xs : List α) (r : List UInt8), prep p k l = some (xs, r) → rep f k (l, b) = (xs, (r, b))
  | 0, xs, r, hp => by
    injection hp with hp
    injection hp with e1 e2
    subst e1 e2
    rfl
  | k + 1, xs, r, hp => by
    rw [prep_snoc] at hp
    cases hq : prep p k l with
    | none => rw [hq] at hp; cases hp
    | some s =>
      obtain ⟨ys, m⟩ := s
      rw [hq, Option.bind_some] at hp
      simp only at hp
      cases hr : p m with
      | none => rw [hr] at hp; cases hp
      | some q =>
        obtain ⟨y, m2⟩ := q
        rw [hr, Option.bind_some] at hp
        injection hp with hp
        injection hp with e1 e2
        subst e1 e2
        have h1 := rep_full h l b k ys m hq
        show ((rep f k (l, b)).1 ++ [(f (rep f k (l, b)).2).1], (f (rep f k (l, b)).2).2) = _
        rw [h1]
        simp only
        rw [h.full m b y m2 hr]
/-- The first ones of what is read. -/
theorem prep_take {α : Type} {p : Prs α} : ∀ (n : Nat) {l : List UInt8} {xs : List α} {r : List UInt8}, prep p n l = some (xs, r) → ∀ k, k ≤ n → ∃ l', prep p k l = some (xs.take k, l') ∧ (k = n → l' = r)
  | 0, l, xs, r, h, k, hk => by
    obtain rfl : k = 0 := by omega
    injection h with h
    injection h with e1 e2
    exact ⟨l, by subst e1; rfl, fun _ => e2⟩
  | n + 1, l, xs, r, h, k, hk => by
    by_cases hkn : k = n + 1
    · subst hkn
      refine ⟨r, ?_, fun _ => rfl⟩
      rw [List.take_of_length_le (by rw [prep_len h]; exact Nat.le_refl _)]
      exact h
    · rw [prep_snoc] at h
      cases hq : prep p n l with
      | none => rw [hq] at h; cases h
      | some s =>
        obtain ⟨ys, m⟩ := s
        rw [hq, Option.bind_some] at h
        simp only at h
        cases hr : p m with
        | none => rw [hr] at h; cases h
        | some q =>
          rw [hr, Option.bind_some] at h
          injection h with h
          injection h with e1 _
          obtain ⟨l', h1, _⟩ := prep_take n hq k (by omega)
          refine ⟨l', ?_, fun e => absurd e hkn⟩
          rw [← e1, List.take_append_of_le_length (by rw [prep_len hq]; omega)]
          exact h1
/-- An object, as the document reads it. -/
def iobj2 (hd a w k : Int) (s : InS) : Ob × InS :=
  if needI w k < 0 then (⟨hd, (a, needI w k), [], []⟩, (s.1, true))
  else (⟨hd, (a, needI w k), (rep (nx pint) w.toNat s).1, (rep (nx pnum) k.toNat (rep (nx pint) w.toNat s).2).1⟩, (rep (nx pnum) k.toNat (rep (nx pint) w.toNat s).2).2)
def iobj (s : InS) : Ob × InS :=
  iobj2 (nx pnum s).1 (nx pnum (nx pnum s).2).1 (nx pnum (nx pnum (nx pnum s).2).2).1 (nx pnum (nx pnum (nx pnum (nx pnum s).2).2).2).1 (nx pnum (nx pnum (nx pnum (nx pnum s).2).2).2).2
theorem iobj2_no {hd a w k : Int} {s : InS} (h : needI w k < 0) : iobj2 hd a w k s = (⟨hd, (a, needI w k), [], []⟩, (s.1, true)) := if_pos h
theorem iobj2_yes {hd a w k : Int} {s : InS} (h : ¬ needI w k < 0) : iobj2 hd a w k s = (⟨hd, (a, needI w k), (rep (nx pint) w.toNat s).1, (rep (nx pnum) k.toNat (rep (nx pint) w.toNat s).2).1⟩, (rep (nx pnum) k.toNat (rep (nx pint) w.toNat s).2).2) := if_neg h
theorem goes_iobj : Goes iobj pobj where
  ok s h := by
    unfold iobj at h ⊢
    by_cases hn : needI (nx pnum (nx pnum (nx pnum s).2).2).1 (nx pnum (nx pnum (nx pnum (nx pnum s).2).2).2).1 < 0
    · rw [iobj2_no hn] at h
      cases h
    · rw [iobj2_yes hn] at h ⊢
      simp only at h ⊢
      obtain ⟨h1, q6⟩ := rep_ok (goes_nx pnum) _ _ h
      obtain ⟨h2, q5⟩ := rep_ok (goes_nx pint) _ _ h1
      obtain ⟨h3, q4⟩ := (goes_nx pnum).ok _ h2
      obtain ⟨h4, q3⟩ := (goes_nx pnum).ok _ h3
      obtain ⟨h5, q2⟩ := (goes_nx pnum).ok _ h4
      obtain ⟨h6, q1⟩ := (goes_nx pnum).ok _ h5
      have hi := needI_in (Int.not_lt.1 hn)
      refine ⟨h6, ?_⟩
      unfold pobj
      rw [q1, Option.bind_some]
      simp only
      rw [q2, Option.bind_some]
      simp only
      rw [q3, Option.bind_some]
      simp only
      rw [q4, Option.bind_some]
      simp only
      unfold pobj2
      rw [if_neg (by omega), q5, Option.bind_some]
      simp only
      rw [if_neg (by omega), q6]
      rfl
  full l b x r h := by
    obtain ⟨⟨h1, h2, h3, h4, h5, h6, h7⟩, e⟩ := pobj_codec.sound l x r h
    obtain ⟨hd, ⟨a, o⟩, ws, ls⟩ := x
    simp only at h1 h2 h3 h4 h5 h6 h7
    subst h3
    subst e
    unfold encO
    simp only [List.append_assoc]
    unfold iobj
    have n3 : IsNum (ws.length : Int) := ⟨by omega, by omega⟩
    have n4 : IsNum (ls.length : Int) := ⟨by omega, by omega⟩
    rw [nx_some (pnum_codec.full _ _ h1)]
    simp only
    rw [nx_some (pnum_codec.full _ _ h2)]
    simp only
    rw [nx_some (pnum_codec.full _ _ n3)]
    simp only
    rw [nx_some (pnum_codec.full _ _ n4)]
    simp only
    have hb := needI_bd ws.length ls.length
    rw [iobj2_yes (by
      unfold needI
      rw [if_pos ⟨by omega, by omega, by omega, by omega⟩]
      repeat (split; · omega)
      omega)]
    rw [Int.toNat_natCast, Int.toNat_natCast]
    rw [rep_full (goes_nx pint) _ b _ ws _ ((prep_codec pint_codec _).full ws _ ⟨rfl, h6⟩)]
    simp only
    rw [rep_full (goes_nx pnum) _ b _ ls _ ((prep_codec pnum_codec _).full ls _ ⟨rfl, h7⟩)]
/-- What is known of an object that is read, whatever was bad. -/
theorem rep_all {α : Type} {f : InS → α × InS} {Q : α → Prop} (h : ∀ s, Q (f s).1) (s : InS) : ∀ k, ∀ x ∈ (rep f k s).1, Q x
  | 0, x, hx => by cases hx
  | k + 1, x, hx => by
    rcases List.mem_append.1 (show x ∈ (rep f k s).1 ++ [(f (rep f k s).2).1] from hx) with e | e
    · exact rep_all h s k x e
    · rw [List.mem_singleton.1 e]; exact h _
/-- An object that is read: its handle and its place are numbers, its rows are short. -/
structure IObOk (x : Ob) : Prop where
  hd : IsNum x.hd
  at_ : IsNum x.bl.1
  lo : -1 ≤ x.bl.2
  hi : x.bl.2 ≤ 6
  ws : x.ws.length ≤ 32
  ls : x.ls.length ≤ 16
theorem iobj_ok (s : InS) : IObOk (iobj s).1 := by
  have m1 := nx_num s
  have m2 := nx_num (nx pnum s).2
  unfold iobj
  generalize nx pnum (nx pnum (nx pnum (nx pnum s).2).2).2 = d at *
  generalize nx pnum (nx pnum (nx pnum s).2).2 = c at *
  generalize nx pnum (nx pnum s).2 = b at *
  generalize nx pnum s = a at *
  have hb := needI_bd c.1 d.1
  by_cases hn : needI c.1 d.1 < 0
  · rw [iobj2_no hn]
    exact ⟨m1, m2, hb.1, hb.2, by simp, by simp⟩
  · rw [iobj2_yes hn]
    have hi := needI_in (Int.not_lt.1 hn)
    exact ⟨m1, m2, hb.1, hb.2, by simp only; rw [rep_len]; omega, by simp only; rw [rep_len]; omega⟩
/-- The parts of a heap's bytes. -/
theorem praw_parts {g : Int → Int → Bool} {b r : List UInt8} {R : Hp} (h : praw g b = some (R, r)) :
    ∃ l1 l2 l3 l4, pnum b = some (R.od, l1) ∧ pnum l1 = some (R.nx, l2) ∧ prep pnum 4 l2 = some (R.tp, l3) ∧ pnum l3 = some ((R.obs.length : Int), l4) ∧ prep pobj R.obs.length l4 = some (R.obs, r) := by
  unfold praw at h
  cases e1 : pnum b with
  | none => rw [e1] at h; cases h
  | some od =>
    rw [e1, Option.bind_some] at h
    cases e2 : pnum od.2 with
    | none => rw [e2] at h; cases h
    | some nx =>
      rw [e2, Option.bind_some] at h
      cases e3 : prep pnum 4 nx.2 with
      | none => rw [e3] at h; cases h
      | some tp =>
        rw [e3, Option.bind_some] at h
        cases e4 : pnum tp.2 with
        | none => rw [e4] at h; cases h
        | some n =>
          rw [e4, Option.bind_some] at h
          split at h
          · cases e5 : prep pobj n.1.toNat n.2 with
            | none => rw [e5] at h; cases h
            | some s =>
              rw [e5, Option.bind_some] at h
              injection h with h
              injection h with f1 f2
              subst f1 f2
              have d4 := (pnum_codec.sound _ _ _ e4).1
              have n5 : s.1.length = n.1.toNat := prep_len (vs := s.1) (r := s.2) e5
              have n6 : ((s.1.length : Nat) : Int) = n.1 := by rw [n5]; exact Int.toNat_of_nonneg d4.1
              refine ⟨od.2, nx.2, tp.2, n.2, rfl, e2, e3, ?_, ?_⟩
              · simp only; rw [n6]; exact e4
              · simp only; rw [n5]; exact e5
          · cases h
/-- The head of a heap's bytes, as the document reads it. -/
structure Head (b : List UInt8) (a0 a1 : Int × InS) (t : List Int × InS) (c : Int × InS) : Prop where
  h0 : a0 = nx pnum (b, false)
  h1 : a1 = nx pnum a0.2
  h2 : t = rep (nx pnum) 4 a1.2
  h3 : c = nx pnum t.2
section
variable {b : List UInt8} {a0 a1 : Int × InS} {t : List Int × InS} {c : Int × InS}
theorem Head.some_ (h : Head b a0 a1 t c) {k : Nat} {r : List UInt8} (hb : (rep iobj k c.2).2 = (r, false)) (hc : c.1 = (k : Int)) : praw (fun _ _ => true) b = some (⟨a0.1, (rep iobj k c.2).1, a1.1, t.1, []⟩, r) := by
  obtain ⟨h0, h1, h2, h3⟩ := h
  have g1 := congrArg Prod.snd hb
  have gr := congrArg Prod.fst hb
  simp only at g1 gr
  obtain ⟨g2, q5⟩ := rep_ok goes_iobj _ _ g1
  have q4 := (goes_nx pnum).ok t.2 (by rw [← h3]; exact g2)
  have q3 := rep_ok (goes_nx pnum) a1.2 4 (by rw [← h2]; exact q4.1)
  have q2 := (goes_nx pnum).ok a0.2 (by rw [← h1]; exact q3.1)
  have q1 := (goes_nx pnum).ok (b, false) (by rw [← h0]; exact q2.1)
  rw [← h0] at q1
  rw [← h1] at q2
  rw [← h2] at q3
  rw [← h3] at q4
  unfold praw
  rw [q1.2, Option.bind_some]
  simp only
  rw [q2.2, Option.bind_some]
  simp only
  rw [q3.2, Option.bind_some]
  simp only
  rw [q4.2, Option.bind_some]
  simp only [if_true]
  rw [hc, Int.toNat_natCast, q5, Option.bind_some, gr]
theorem Head.full (h : Head b a0 a1 t c) {H : Hp} (k : ImH H) (e : encH H = b) : a0.1 = H.od ∧ c.1 = (H.obs.length : Int) ∧ ∀ j, j ≤ H.obs.length → ∃ l', rep iobj j c.2 = (H.obs.take j, (l', false)) ∧ (j = H.obs.length → l' = []) := by
  obtain ⟨h0, h1, h2, h3⟩ := h
  have hp := k.reads (g := fun _ _ => true) rfl []
  rw [List.append_nil, e] at hp
  obtain ⟨l1, l2, l3, l4, p1, p2, p3, p4, p5⟩ := praw_parts hp
  simp only at p1 p2 p3 p4 p5
  rw [nx_some p1] at h0
  subst h0
  rw [nx_some p2] at h1
  subst h1
  rw [rep_full (goes_nx pnum) _ false _ _ _ p3] at h2
  subst h2
  rw [nx_some p4] at h3
  subst h3
  refine ⟨rfl, rfl, fun j hj => ?_⟩
  obtain ⟨l', q, hl⟩ := prep_take _ p5 j hj
  exact ⟨l', rep_full goes_iobj _ false _ _ _ q, hl⟩
/-- What is refused is none. -/
theorem Head.none_ (h : Head b a0 a1 t c) {k : Nat} (hk : (k : Int) ≤ c.1) (hE : ¬ ((k : Int) < c.1 ∧ k ≤ 256 ∧ (rep iobj k c.2).2.2 = false))
    (hR : (rep iobj k c.2).2.2 = true ∨ (rep iobj k c.2).2.1 ≠ [] ∨ ¬ (3 ≤ a0.1 ∧ a0.1 ≤ 8) ∨ c.1 ≠ (k : Int)) : GetsH b none := by
  intro H hH e
  obtain ⟨f0, f1, f2⟩ := h.full hH e
  have hl := hH.right.len
  have h8 := hH.right.fr.1
  have hz := sz_le256 (o := H.od) (by omega) h8.2
  obtain ⟨l', q, hq⟩ := f2 k (by omega)
  rw [q] at hE hR
  simp only [and_true] at hE hR
  have hkn : k = H.obs.length := by omega
  have hl' := hq hkn
  rcases hR with h | h | h | h
  · cases h
  · exact h hl'
  · rw [f0] at h; exact h h8
  · omega
end
end Go.Proofs.YtlnmmklpccppmaaGreatDoor
namespace Go.Proofs.YtlnmmklpccppmaaGreatDoor
open Go.RowKit
/-- Block g, made behind world w0, is the document's reader: what is left of the bytes, and whether something was bad. -/
def InR (w0 w : World) (g : Nat) (s : InS) : Prop := ∃ A n c, Whole w g 102 [.slice A n c, .bool s.2] ∧ Rd w0 A n s.1 ∧ Below w0.heap.size w0 w ∧ w0.heap.size ≤ g ∧ n ≤ c ∧ c ≤ maxLen
section
variable {w0 w w' : World} {g : Nat} {s : InS}
theorem InR.lt (h : InR w0 w g s) : g < w.heap.size := by
  obtain ⟨A, n, c, k, _⟩ := h
  exact k.lt
theorem InR.low (h : InR w0 w g s) : w0.heap.size ≤ g := by
  obtain ⟨A, n, c, k, _, _, h, _⟩ := h
  exact h
theorem InR.bel (h : InR w0 w g s) : Below w0.heap.size w0 w := by
  obtain ⟨A, n, c, k, _, h, _⟩ := h
  exact h
/-- Another block is written. -/
theorem InR.grown {r : Option Nat} (h : InR w0 w g s) (hg : w.grownBy w' r) (hne : some g ≠ r) (hr : ∀ k, r = some k → w0.heap.size ≤ k) : InR w0 w' g s := by
  obtain ⟨A, n, c, k, r1, b, h0, h1, h2⟩ := h
  exact ⟨A, n, c, k.keep (hg.block _ k.lt hne), r1, b.grown hg b.size hr, h0, h1, h2⟩
theorem InR.below (h : InR w0 w g s) (b : Below w.heap.size w w') : InR w0 w' g s := h.grown (grown_below b none) (by simp) (fun k e => by cases e)
/-- Something is bad. -/
theorem InR.spoil (h : InR w0 w g s) : (∃ u, w.cell? ⟨g, 1, none⟩ = some (.bool u)) ∧ w.frozen? ⟨g, 1, none⟩ = false ∧ InR w0 (w.setCell ⟨g, 1, none⟩ (.bool true)) g (s.1, true) := by
  obtain ⟨A, n, c, k, r1, b, h0, h1, h2⟩ := h
  exact ⟨⟨s.2, k.cell 1⟩, k.free 1, A, n, c, k.set 1 _, r1, below_grown b (grown_set w g 1 _) b.size h0, h0, h1, h2⟩
/-- What is left, and whether it was bad, as cells. -/
theorem InR.cells (h : InR w0 w g s) : ∃ A n c, w.cell? ⟨g, 0, none⟩ = some (.slice A n c) ∧ w.cell? ⟨g, 1, none⟩ = some (.bool s.2) ∧ s.1.length = n := by
  obtain ⟨A, n, c, k, r1, _⟩ := h
  exact ⟨A, n, c, k.cell 0, k.cell 1, r1.len⟩
end
/-- What a reading of a number does. -/
def Ins (w0 w : World) (g : Nat) (q : Int × InS) (e : Ending) (w' : World) : Prop := e = .returned (.int .i64 q.1) ∧ w.grownBy w' (some g) ∧ InR w0 w' g q.2
theorem pnum_len {l : List UInt8} {v : Int} {r : List UInt8} (h : pnum l = some (v, r)) : 4 ≤ l.length := by
  obtain ⟨_, e⟩ := pnum_codec.sound _ _ _ h
  rw [e, List.length_append, encN_length]
  omega
theorem pint_len {l : List UInt8} {v : Int} {r : List UInt8} (h : pint l = some (v, r)) : 8 ≤ l.length := by
  obtain ⟨_, e⟩ := pint_codec.sound _ _ _ h
  rw [e, List.length_append, encI_length]
  omega
set_option maxHeartbeats 1000000 in
theorem inNumber_any (g : Nat) (s : InS) (w0 w : World) (h : InR w0 w g s) :
    Calls Tryz.prog 56 #[.pointer (some ⟨g, 0, none⟩)] w (Ins w0 w g (nx pnum s)) := by
  obtain ⟨l, bad⟩ := s
  obtain ⟨A, n, c, hw, hr, hb, h0, hnc, hcm⟩ := h
  simp only at hw hr
  have S := refReadNumber_any A n c l w (hr.below hb)
  have c0 : w.cell? ⟨g, 0, none⟩ = some (.slice A n c) := hw.cell 0
  have HW := Lib.hid hw
  have HR := Lib.hid hr
  have HB := Lib.hid hb
  have H0 := Lib.hid h0
  have hlen := hr.len
  have Hnc := Lib.hid (And.intro hnc hcm)
  cases hp : pnum l with
  | some q =>
    obtain ⟨v, r⟩ := q
    obtain ⟨h1, h2, h3, h4, _⟩ := pnum_some hp
    have hl4 := pnum_len hp
    have hn4 : 4 ≤ n := by omega
    have Hp := Lib.hid h4
    have Hx := Lib.hid (nx_some (b := bad) hp)
    rw [h1, h2, h3] at S
    obtain ⟨A4, hsl, hrl⟩ := run_cut (P := Tryz.prog) Tryz.underlying29 Tryz.infoU8 A n c 4 hn4 hnc
    rw [show ((4 : Nat) : Int) = (4 : Int) from rfl] at hsl
    clear h1 h2 h3 h4 hp hlen hl4 hw hr hb h0 hcm
    go_enter Tryz.func56, Tryz.ntmps56
    go_wp2_with fail
    refine S.mono ?_
    rintro e w1 ⟨rfl, b1⟩
    have K1 := HW.out.below b1
    have d0 : w1.cell? ⟨g, 0, none⟩ = some (.slice A n c) := K1.cell 0
    have z0 := K1.free 0
    have gs := grown_set w1 g 0 (.slice A4 (n - 4) (c - 4))
    have B1 := HB.out.trans (b1.mono HB.out.size)
    have HF := Lib.hid (show w.grownBy (w1.setCell ⟨g, 0, none⟩ (.slice A4 (n - 4) (c - 4))) (some g) ∧ InR w0 (w1.setCell ⟨g, 0, none⟩ (.slice A4 (n - 4) (c - 4))) g (r, bad) from
      ⟨grown_trans (grown_below b1 _) gs, A4, n - 4, c - 4, K1.set 0 _, by simp only; rw [Hp.out]; exact hrl w0 l HR.out, below_grown B1 gs B1.size H0.out, H0.out, by have := Hnc.out; omega, by have := Hnc.out; omega⟩)
    clear S gs K1 b1 hrl c0 B1
    go_wp2
    go_ret
    rw [Hx.out]
    exact ⟨rfl, HF.out⟩
  | none =>
    obtain ⟨h1, h2, h3⟩ := pnum_none hp
    rw [h1, h2] at S
    have Hx := Lib.hid (nx_none (b := bad) hp)
    have h4 : ((rnum l).2.2 != 0) = true := by simp [h3]
    have h5 : ((rnum l).2.2 == 0) = false := by simp [h3]
    generalize (rnum l).2.2 = er at *
    clear h1 h2 h3 hp hlen hw hr hb h0 hnc hcm
    go_enter Tryz.func56, Tryz.ntmps56
    go_wp2_with fail
    refine S.mono ?_
    rintro e w1 ⟨rfl, b1⟩
    have K1 := HW.out.below b1
    have d1 : w1.cell? ⟨g, 1, none⟩ = some (.bool bad) := K1.cell 1
    have z1 := K1.free 1
    have gs := grown_set w1 g 1 (.bool true)
    have B1 := HB.out.trans (b1.mono HB.out.size)
    have HF := Lib.hid (show w.grownBy (w1.setCell ⟨g, 1, none⟩ (.bool true)) (some g) ∧ InR w0 (w1.setCell ⟨g, 1, none⟩ (.bool true)) g (l, true) from
      ⟨grown_trans (grown_below b1 _) gs, A, n, c, K1.set 1 _, HR.out, below_grown B1 gs B1.size H0.out, H0.out, Hnc.out⟩)
    clear S gs K1 b1 c0 B1
    go_wp2
    go_ret
    rw [Hx.out]
    exact ⟨rfl, HF.out⟩
set_option maxHeartbeats 1000000 in
theorem inInt_any (g : Nat) (s : InS) (w0 w : World) (h : InR w0 w g s) :
    Calls Tryz.prog 61 #[.pointer (some ⟨g, 0, none⟩)] w (Ins w0 w g (nx pint s)) := by
  obtain ⟨l, bad⟩ := s
  obtain ⟨A, n, c, hw, hr, hb, h0, hnc, hcm⟩ := h
  simp only at hw hr
  have S := refReadInt_any A n c l w (hr.below hb)
  have c0 : w.cell? ⟨g, 0, none⟩ = some (.slice A n c) := hw.cell 0
  have HW := Lib.hid hw
  have HR := Lib.hid hr
  have HB := Lib.hid hb
  have H0 := Lib.hid h0
  have hlen := hr.len
  have Hnc := Lib.hid (And.intro hnc hcm)
  cases hp : pint l with
  | some q =>
    obtain ⟨v, r⟩ := q
    obtain ⟨h1, h2, h3, h4, _⟩ := pint_some hp
    have hl4 := pint_len hp
    have hn4 : 8 ≤ n := by omega
    have Hp := Lib.hid h4
    have Hx := Lib.hid (nx_some (b := bad) hp)
    rw [h1, h2, h3] at S
    obtain ⟨A4, hsl, hrl⟩ := run_cut (P := Tryz.prog) Tryz.underlying29 Tryz.infoU8 A n c 8 hn4 hnc
    rw [show ((8 : Nat) : Int) = (8 : Int) from rfl] at hsl
    clear h1 h2 h3 h4 hp hlen hl4 hw hr hb h0 hcm
    go_enter Tryz.func61, Tryz.ntmps61
    go_wp2_with fail
    refine S.mono ?_
    rintro e w1 ⟨rfl, b1⟩
    have K1 := HW.out.below b1
    have d0 : w1.cell? ⟨g, 0, none⟩ = some (.slice A n c) := K1.cell 0
    have z0 := K1.free 0
    have gs := grown_set w1 g 0 (.slice A4 (n - 8) (c - 8))
    have B1 := HB.out.trans (b1.mono HB.out.size)
    have HF := Lib.hid (show w.grownBy (w1.setCell ⟨g, 0, none⟩ (.slice A4 (n - 8) (c - 8))) (some g) ∧ InR w0 (w1.setCell ⟨g, 0, none⟩ (.slice A4 (n - 8) (c - 8))) g (r, bad) from
      ⟨grown_trans (grown_below b1 _) gs, A4, n - 8, c - 8, K1.set 0 _, by simp only; rw [Hp.out]; exact hrl w0 l HR.out, below_grown B1 gs B1.size H0.out, H0.out, by have := Hnc.out; omega, by have := Hnc.out; omega⟩)
    clear S gs K1 b1 hrl c0 B1
    go_wp2
    go_ret
    rw [Hx.out]
    exact ⟨rfl, HF.out⟩
  | none =>
    obtain ⟨h1, h2, h3⟩ := pint_none hp
    rw [h1, h2] at S
    have Hx := Lib.hid (nx_none (b := bad) hp)
    have h4 : ((rint l).2.2 != 0) = true := by simp [h3]
    have h5 : ((rint l).2.2 == 0) = false := by simp [h3]
    generalize (rint l).2.2 = er at *
    clear h1 h2 h3 hp hlen hw hr hb h0 hnc hcm
    go_enter Tryz.func61, Tryz.ntmps61
    go_wp2_with fail
    refine S.mono ?_
    rintro e w1 ⟨rfl, b1⟩
    have K1 := HW.out.below b1
    have d1 : w1.cell? ⟨g, 1, none⟩ = some (.bool bad) := K1.cell 1
    have z1 := K1.free 1
    have gs := grown_set w1 g 1 (.bool true)
    have B1 := HB.out.trans (b1.mono HB.out.size)
    have HF := Lib.hid (show w.grownBy (w1.setCell ⟨g, 1, none⟩ (.bool true)) (some g) ∧ InR w0 (w1.setCell ⟨g, 1, none⟩ (.bool true)) g (l, true) from
      ⟨grown_trans (grown_below b1 _) gs, A, n, c, K1.set 1 _, HR.out, below_grown B1 gs B1.size H0.out, H0.out, Hnc.out⟩)
    clear S gs K1 b1 c0 B1
    go_wp2
    go_ret
    rw [Hx.out]
    exact ⟨rfl, HF.out⟩
end Go.Proofs.YtlnmmklpccppmaaGreatDoor
