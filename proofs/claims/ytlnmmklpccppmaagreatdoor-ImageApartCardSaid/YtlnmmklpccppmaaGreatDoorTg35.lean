/-
  The bytes of objects and of heaps: what is laid is read, and what is read was laid so. Plain mathematics, no program.
  What is free in a region is told by the objects, and found by going from place to place; the bytes of a heap tell the heap, the bytes of a state tell the state. Plain mathematics, no program.
-/
import Derived.Test.YtlnmmklpccppmaaGreatDoorTg34
import Derived.Test.YtlnmmklpccppmaaGreatDoorTg14
namespace Go.Proofs.YtlnmmklpccppmaaGreatDoor
open Go.RowKit
/-- An object's bytes; what may be laid so. -/
def encO (x : Ob) : List UInt8 := encN x.hd ++ (encN x.bl.1 ++ (encN (x.ws.length : Int) ++ (encN (x.ls.length : Int) ++ (x.ws.flatMap encI ++ x.ls.flatMap encN))))
def DomO (x : Ob) : Prop := IsNum x.hd ∧ IsNum x.bl.1 ∧ x.bl.2 = needI x.ws.length x.ls.length ∧ x.ws.length ≤ 32 ∧ x.ls.length ≤ 16 ∧ (∀ n ∈ x.ws, IsInt n) ∧ ∀ n ∈ x.ls, IsNum n
def pobj2 (hd a w k : Int) : Prs Ob := fun l =>
  if 32 < w then none else (prep pint w.toNat l).bind fun s => if 16 < k then none else (prep pnum k.toNat s.2).bind fun t => some (⟨hd, (a, needI w k), s.1, t.1⟩, t.2)
def pobj : Prs Ob := fun l =>
  (pnum l).bind fun hd => (pnum hd.2).bind fun a => (pnum a.2).bind fun w => (pnum w.2).bind fun k => pobj2 hd.1 a.1 w.1 k.1 k.2
theorem flat_length {α : Type} {enc : α → List UInt8} {m : Nat} (h : ∀ v, (enc v).length = m) : ∀ l : List α, (l.flatMap enc).length = m * l.length
  | [] => rfl
  | a :: t => by rw [List.flatMap_cons, List.length_append, h, flat_length h t, List.length_cons, Nat.mul_add, Nat.mul_one, Nat.add_comm]
theorem pobj_codec : Codec pobj encO DomO where
  full x r h := by
    obtain ⟨h1, h2, h3, h4, h5, h6, h7⟩ := h
    obtain ⟨hd, ⟨a, o⟩, ws, ls⟩ := x
    simp only at h1 h2 h3 h4 h5 h6 h7
    subst h3
    unfold pobj encO
    simp only [List.append_assoc]
    rw [pnum_codec.full _ _ h1, Option.bind_some]
    simp only
    rw [pnum_codec.full _ _ h2, Option.bind_some]
    simp only
    rw [pnum_codec.full _ _ (show IsNum (ws.length : Int) from ⟨by omega, by omega⟩), Option.bind_some]
    simp only
    rw [pnum_codec.full _ _ (show IsNum (ls.length : Int) from ⟨by omega, by omega⟩), Option.bind_some]
    simp only
    unfold pobj2
    rw [if_neg (by omega), Int.toNat_natCast, (prep_codec pint_codec _).full ws _ ⟨rfl, h6⟩, Option.bind_some]
    simp only
    rw [if_neg (by omega), Int.toNat_natCast, (prep_codec pnum_codec _).full ls _ ⟨rfl, h7⟩]
    rfl
  sound l x r h := by
    unfold pobj at h
    cases e1 : pnum l with
    | none => rw [e1] at h; cases h
    | some hd =>
      rw [e1, Option.bind_some] at h
      cases e2 : pnum hd.2 with
      | none => rw [e2] at h; cases h
      | some a =>
        rw [e2, Option.bind_some] at h
        cases e3 : pnum a.2 with
        | none => rw [e3] at h; cases h
        | some w =>
          rw [e3, Option.bind_some] at h
          cases e4 : pnum w.2 with
          | none => rw [e4] at h; cases h
          | some k =>
            rw [e4, Option.bind_some] at h
            unfold pobj2 at h
            split at h
            · cases h
            · rename_i hw
              cases e5 : prep pint w.1.toNat k.2 with
              | none => rw [e5] at h; cases h
              | some s =>
                rw [e5, Option.bind_some] at h
                split at h
                · cases h
                · rename_i hk
                  cases e6 : prep pnum k.1.toNat s.2 with
                  | none => rw [e6] at h; cases h
                  | some t =>
                    rw [e6, Option.bind_some] at h
                    injection h with h
                    injection h with f1 f2
                    subst f1 f2
                    obtain ⟨d1, q1⟩ := pnum_codec.sound _ _ _ e1
                    obtain ⟨d2, q2⟩ := pnum_codec.sound _ _ _ e2
                    obtain ⟨d3, q3⟩ := pnum_codec.sound _ _ _ e3
                    obtain ⟨d4, q4⟩ := pnum_codec.sound _ _ _ e4
                    obtain ⟨d5, q5⟩ := (prep_codec pint_codec _).sound _ _ _ e5
                    obtain ⟨d6, q6⟩ := (prep_codec pnum_codec _).sound _ _ _ e6
                    have n5 : (s.1.length : Int) = w.1 := by rw [d5.1]; exact Int.toNat_of_nonneg d3.1
                    have n6 : (t.1.length : Int) = k.1 := by rw [d6.1]; exact Int.toNat_of_nonneg d4.1
                    refine ⟨⟨d1, d2, ?_, ?_, ?_, d5.2, d6.2⟩, ?_⟩
                    · simp only; rw [n5, n6]
                    · simp only; omega
                    · simp only; omega
                    · unfold encO
                      simp only
                      rw [n5, n6, q1, q2, q3, q4, q5, q6]
                      simp only [List.append_assoc]
/-- A heap's bytes, without what is free. -/
def encH (h : Hp) : List UInt8 := encN h.od ++ (encN h.nx ++ (h.tp.flatMap encN ++ (encN (h.obs.length : Int) ++ h.obs.flatMap encO)))
def DomH (g : Int → Int → Bool) (h : Hp) : Prop := IsNum h.od ∧ IsNum h.nx ∧ (h.tp.length = 4 ∧ ∀ t ∈ h.tp, IsNum t) ∧ IsNum (h.obs.length : Int) ∧ g h.od h.obs.length = true ∧ (∀ x ∈ h.obs, DomO x) ∧ h.fr = []
def praw (g : Int → Int → Bool) : Prs Hp := fun l =>
  (pnum l).bind fun od => (pnum od.2).bind fun nx => (prep pnum 4 nx.2).bind fun tp => (pnum tp.2).bind fun n =>
    if g od.1 n.1 then (prep pobj n.1.toNat n.2).bind fun s => some (⟨od.1, s.1, nx.1, tp.1, []⟩, s.2) else none
theorem praw_codec (g : Int → Int → Bool) : Codec (praw g) encH (DomH g) where
  full x r h := by
    obtain ⟨h1, h2, h3, h4, h5, h6, h7⟩ := h
    obtain ⟨od, obs, nx, tp, fr⟩ := x
    simp only at h1 h2 h3 h4 h5 h6 h7
    subst h7
    unfold praw encH
    simp only [List.append_assoc]
    rw [pnum_codec.full _ _ h1, Option.bind_some]
    simp only
    rw [pnum_codec.full _ _ h2, Option.bind_some]
    simp only
    rw [(prep_codec pnum_codec 4).full _ _ h3, Option.bind_some]
    simp only
    rw [pnum_codec.full _ _ h4, Option.bind_some]
    simp only
    rw [if_pos h5, Int.toNat_natCast, (prep_codec pobj_codec _).full obs _ ⟨rfl, h6⟩]
    rfl
  sound l x r h := by
    unfold praw at h
    cases e1 : pnum l with
    | none => rw [e1] at h; cases h
    | some od =>
      rw [e1, Option.bind_some] at h
      cases e2 : pnum od.2 with
      | none => rw [e2] at h; cases h
      | some nx =>
        rw [e2, Option.bind_some] at h
        cases e3 : prep pnum 4 nx.2 with
        | none => rw [e3] at h; cases h
        | some tp =>
          rw [e3, Option.bind_some] at h
          cases e4 : pnum tp.2 with
          | none => rw [e4] at h; cases h
          | some n =>
            rw [e4, Option.bind_some] at h
            split at h
            · rename_i hg
              cases e5 : prep pobj n.1.toNat n.2 with
              | none => rw [e5] at h; cases h
              | some s =>
                rw [e5, Option.bind_some] at h
                injection h with h
                injection h with f1 f2
                subst f1 f2
                obtain ⟨d1, q1⟩ := pnum_codec.sound _ _ _ e1
                obtain ⟨d2, q2⟩ := pnum_codec.sound _ _ _ e2
                obtain ⟨d3, q3⟩ := (prep_codec pnum_codec 4).sound _ _ _ e3
                obtain ⟨d4, q4⟩ := pnum_codec.sound _ _ _ e4
                obtain ⟨d5, q5⟩ := (prep_codec pobj_codec _).sound _ _ _ e5
                have n5 : (s.1.length : Int) = n.1 := by rw [d5.1]; exact Int.toNat_of_nonneg d4.1
                refine ⟨⟨d1, d2, d3, ?_, ?_, d5.2, rfl⟩, ?_⟩
                · simp only; rw [n5]; exact d4
                · simp only; rw [n5]; exact hg
                · unfold encH
                  simp only
                  rw [n5, q1, q2, q3, q4, q5]
                  simp only [List.append_assoc]
            · cases h
end Go.Proofs.YtlnmmklpccppmaaGreatDoor
namespace Go.Proofs.YtlnmmklpccppmaaGreatDoor
open Go.RowKit
theorem mapped_apartI {r : Int} : ∀ (n : Nat) (fs : List Blk), fs.length = n → (∀ b ∈ fs, May r b) → fs.Pairwise (fun a b => ¬ Meets b a) → ∃ m, Mapped r fs m ∧ (countL m : Int) = sumL fs
  | 0, fs, hn, _, _ => by
    obtain rfl : fs = [] := List.eq_nil_of_length_eq_zero hn
    have hmp := mapped_nil r
    refine ⟨_, hmp, ?_⟩
    unfold countL
    rw [cnt_all _ false _ fun i hi => by
      cases e : isOn (List.replicate (sz r).toNat false) i with
      | false => rfl
      | true => obtain ⟨c, hc, _⟩ := (hmp.2 i hi).1 e; cases hc]
    simp [sumL]
  | n + 1, fs, hn, hM, hA => by
    obtain ⟨fs', b, rfl⟩ : ∃ f b, fs = f ++ [b] := ⟨fs.dropLast, fs.getLast (by intro e; rw [e] at hn; simp at hn), (List.dropLast_concat_getLast _).symm⟩
    have hn' : fs'.length = n := by simp at hn; exact hn
    obtain ⟨hA1, _, hA2⟩ := List.pairwise_append.1 hA
    obtain ⟨m, hm, hc⟩ := mapped_apartI n fs' hn' (fun c hc => hM c (List.mem_append_left _ hc)) hA1
    have hMb := hM b (by simp)
    have hb2 : ∀ c ∈ fs', ¬ Meets b c := fun c hc => hA2 c hc b (by simp)
    obtain ⟨p1, _, p3⟩ := hm.put hMb
    refine ⟨_, p3, ?_⟩
    obtain ⟨k0, k1, k2, k3, k4⟩ := hMb
    have hp := sz_pos b.2
    have hml := hm.1
    rw [sumL_snoc, p1]
    unfold countL
    rw [putL_length]
    have := cnt_put (f := isOn m) (g := isOn (putL m b.1.toNat (sz b.2).toNat true)) (a := b.1.toNat) (n := (sz b.2).toNat) (k := m.length - (b.1.toNat + (sz b.2).toNat)) (fun i hi hj => by
      cases e : isOn m i with
      | false => rfl
      | true =>
        obtain ⟨c, hc, hx⟩ := (hm.2 i (by omega)).1 e
        exact absurd (meets_of (show InB b (i : Int) from ⟨by omega, by omega⟩) hx) (hb2 c hc)) (fun i hi => putL_isOn _ _ _ _ (by omega))
    rw [show b.1.toNat + (sz b.2).toNat + (m.length - (b.1.toNat + (sz b.2).toNat)) = m.length by omega] at this
    unfold countL at hc
    rw [this]
    omega
/-- The blocks of objects, then the free ones: all of a region. -/
def allBI (H : Hp) : List Blk := H.obs.map Ob.bl ++ H.fr
theorem RightH.allI {H : Hp} (k : RightH H) : (∀ b ∈ allBI H, May H.od b) ∧ (allBI H).Pairwise (fun a b => ¬ Meets b a) ∧ sumL (allBI H) = sz H.od := by
  refine ⟨fun b hb => ?_, ?_, ?_⟩
  · rcases List.mem_append.1 hb with e | e
    · obtain ⟨x, hx, rfl⟩ := List.mem_map.1 e
      exact (k.ok x hx).2.2.2.1
    · exact k.fr.may e
  · have h := k.apart
    unfold blks at h
    rw [List.pairwise_append] at h
    unfold allBI
    rw [List.pairwise_append]
    exact ⟨h.2.1, h.1, fun a ha b hb e => h.2.2 b hb a ha ⟨e.2, e.1⟩⟩
  · have h := k.sum
    unfold blks at h
    rw [sumL_append] at h
    unfold allBI
    rw [sumL_append]
    omega
theorem cnt_full {f : Nat → Bool} : ∀ {n : Nat}, cnt f n = n → ∀ k, k < n → f k = true
  | 0, _, k, hk => absurd hk (Nat.not_lt_zero _)
  | n + 1, h, k, hk => by
    have h1 : cnt f (n + 1) = cnt f n + (f n).toNat := rfl
    have h2 := cnt_le f n
    have h3 : (f n).toNat ≤ 1 := by cases f n <;> simp
    by_cases hkn : k < n
    · exact cnt_full (n := n) (by omega) k hkn
    · obtain rfl : k = n := by omega
      cases e : f k with
      | true => rfl
      | false =>
        rw [e] at h1
        simp only [Bool.toNat_false, Nat.add_zero] at h1
        omega
theorem RightH.cov {H : Hp} (k : RightH H) {x : Int} (h0 : 0 ≤ x) (h1 : x < sz H.od) : Cov (allBI H) x := by
  obtain ⟨a1, a2, a3⟩ := k.allI
  obtain ⟨m, hm, hc⟩ := mapped_apartI _ _ rfl a1 a2
  have hl := hm.1
  have hf : cnt (isOn m) m.length = m.length := by unfold countL at hc; omega
  have h2 := (hm.2 x.toNat (by omega)).1 (cnt_full hf x.toNat (by omega))
  rwa [Int.toNat_of_nonneg h0] at h2
/-- What is free beside blocks of a region, that lie apart. -/
structure FreeOf (od : Int) (bs F : List Blk) : Prop where
  right : Right od F
  may : ∀ b ∈ bs, May od b
  apart : bs.Pairwise (fun a b => ¬ Meets b a)
  cov : ∀ x, Cov F x ↔ 0 ≤ x ∧ x < sz od ∧ ¬ Cov bs x
theorem May.words {r : Int} {b : Blk} (h : May r b) {x : Int} (hx : InB b x) : 0 ≤ x ∧ x < sz r := by
  have := h.2.2.1
  have := h.2.2.2.1
  unfold InB at hx
  omega
theorem RightH.freeOf {H : Hp} (k : RightH H) : FreeOf H.od (H.obs.map Ob.bl) H.fr where
  right := k.fr
  may b hb := by
    obtain ⟨x, hx, rfl⟩ := List.mem_map.1 hb
    exact (k.ok x hx).2.2.2.1
  apart := by
    have := k.apart
    unfold blks at this
    exact (List.pairwise_append.1 this).2.1
  cov x := by
    constructor
    · rintro ⟨b, hb, hx⟩
      obtain ⟨h0, h1⟩ := (k.fr.may hb).words hx
      refine ⟨h0, h1, fun ⟨c, hc, hcx⟩ => ?_⟩
      obtain ⟨y, hy, rfl⟩ := List.mem_map.1 hc
      exact k.cross hb hy (meets_of hcx hx)
    · rintro ⟨h0, h1, hn⟩
      obtain ⟨b, hb, hx⟩ := k.cov h0 h1
      rcases List.mem_append.1 hb with e | e
      · exact absurd ⟨b, e, hx⟩ hn
      · exact ⟨b, e, hx⟩
theorem FreeOf.uniq {od : Int} {bs F G : List Blk} (h : FreeOf od bs F) (k : FreeOf od bs G) : F = G := canon h.right k.right fun x => by rw [h.cov, k.cov]
theorem cov_perm {l m : List Blk} (h : l.Perm m) (x : Int) : Cov l x ↔ Cov m x := ⟨fun ⟨b, hb, hx⟩ => ⟨b, h.mem_iff.1 hb, hx⟩, fun ⟨b, hb, hx⟩ => ⟨b, h.mem_iff.2 hb, hx⟩⟩
theorem FreeOf.perm {od : Int} {bs cs F : List Blk} (h : FreeOf od bs F) (p : bs.Perm cs) : FreeOf od cs F where
  right := h.right
  may b hb := h.may b (p.mem_iff.2 hb)
  apart := p.pairwise h.apart fun q => meets_symm q
  cov x := by rw [h.cov, cov_perm p]
/-- The first k of the free blocks end ahead of a place, the others begin there or behind it. -/
structure Part (F : List Blk) (p : Int) (k : Nat) : Prop where
  le : k ≤ F.length
  front : ∀ b ∈ F.take k, b.1 + sz b.2 ≤ p
  back : ∀ b ∈ F.drop k, p ≤ b.1
theorem Part.start {r : Int} {F : List Blk} (h : Right r F) : Part F 0 0 := ⟨Nat.zero_le _, fun b hb => by simp at hb, fun b hb => (h.may (List.mem_of_mem_drop hb)).2.2.1⟩
theorem Part.at_ {F : List Blk} {p : Int} {k : Nat} (h : Part F p k) (hR : F.Pairwise (fun a b => a.1 < b.1)) (hc : Cov F p) : ∃ B, F[k]? = some B ∧ B.1 = p := by
  obtain ⟨B, hB, hx⟩ := hc
  have hB' := hB
  rw [← List.take_append_drop k F] at hB'
  rcases List.mem_append.1 hB' with e | e
  · have := h.front B e
    unfold InB at hx
    omega
  · have h1 := h.back B e
    have h2 : B.1 = p := by unfold InB at hx; omega
    have hk : k < F.length := by
      rcases Nat.lt_or_ge k F.length with q | q
      · exact q
      · rw [List.drop_eq_nil_of_le q] at e
        cases e
    refine ⟨F[k], List.getElem?_eq_getElem hk, ?_⟩
    have hd : F.drop k = F[k] :: F.drop (k + 1) := List.drop_eq_getElem_cons hk
    have hCk : p ≤ F[k].1 := h.back _ (by rw [hd]; exact List.mem_cons_self ..)
    rw [hd] at e
    rcases List.mem_cons.1 e with q | q
    · rw [← q]; exact h2
    · have hs : (F.drop k).Pairwise (fun a b => a.1 < b.1) := hR.sublist (List.drop_sublist ..)
      rw [hd, List.pairwise_cons] at hs
      have := hs.1 B q
      omega
theorem Part.step {r : Int} {F : List Blk} {p : Int} {k : Nat} (h : Part F p k) (hR : Right r F) {B : Blk} (hB : F[k]? = some B) (hp : B.1 = p) : Part F (p + sz B.2) (k + 1) ∧ F.take (k + 1) = F.take k ++ [B] := by
  have hk : k < F.length := (List.getElem?_eq_some_iff.1 hB).1
  have hBe : F[k] = B := (List.getElem?_eq_some_iff.1 hB).2
  have ht : F.take (k + 1) = F.take k ++ [B] := by rw [List.take_add_one, hB]; rfl
  have hz := sz_pos B.2
  refine ⟨⟨hk, fun b hb => ?_, fun b hb => ?_⟩, ht⟩
  · rw [ht] at hb
    rcases List.mem_append.1 hb with e | e
    · have := h.front b e
      omega
    · rw [List.mem_singleton.1 e]
      omega
  · have hs : (F.drop k).Pairwise (Ahd r) := hR.2.2.sublist (List.drop_sublist ..)
    rw [List.drop_eq_getElem_cons hk, hBe, List.pairwise_cons] at hs
    obtain ⟨a1, a2, _⟩ := hs.1 b hb
    rcases Int.lt_or_le b.1 (p + sz B.2) with q | q
    · refine absurd ⟨?_, ?_⟩ a2
      · omega
      · have := sz_pos b.2
        omega
    · exact q
theorem Part.skip {F : List Blk} {p q : Int} {k : Nat} (h : Part F p k) (hpq : p ≤ q) (hn : ∀ x, p ≤ x → x < q → ¬ Cov F x) : Part F q k :=
  ⟨h.le, fun b hb => by have := h.front b hb; omega, fun b hb => by
    have h1 := h.back b hb
    rcases Int.lt_or_le b.1 q with e | e
    · exact absurd ⟨b, List.mem_of_mem_drop hb, self_in b⟩ (hn b.1 h1 e)
    · exact e⟩
theorem Part.done {r : Int} {F : List Blk} {k : Nat} (hR : Right r F) (h : Part F (sz r) k) : F.take k = F := by
  refine List.take_of_length_le ?_
  rcases Nat.lt_or_ge k F.length with q | q
  · have h1 := h.back F[k] (by rw [List.drop_eq_getElem_cons q]; exact List.mem_cons_self ..)
    have h2 := (hR.may (List.getElem_mem q)).words (self_in F[k])
    omega
  · exact q
/-- No greater block, all of whose words are free, begins where a free one does. -/
theorem Right.greatest {r : Int} {F : List Blk} (h : Right r F) {B : Blk} (hB : B ∈ F) {o : Int} (h0 : 0 ≤ o) (hr : o ≤ r) (hm : B.1 % sz o = 0) (hc : ∀ x, B.1 ≤ x → x < B.1 + sz o → Cov F x) : o ≤ B.2 := by
  obtain ⟨b, hb, h1, h2⟩ := full h o.toNat (B.1, o) (by simp only; omega) hr hm fun x hx => hc x hx.1 hx.2
  have hp := sz_pos o
  have hpb := sz_pos B.2
  simp only at h1 h2
  have e : b = B := h.one hb hB (x := B.1) ⟨h1, by omega⟩ (self_in B)
  subst e
  have hr8 := h.1.2
  have hM := h.may hB
  exact sz_inj h0 (by omega) hM.1 (by have := hM.2.1; omega) (by omega)
/-- A heap that may be laid: it is right, it has four roots, its words are ints. -/
structure ImH (H : Hp) : Prop where
  right : RightH H
  tp : H.tp.length = 4
  ints : ∀ x ∈ H.obs, ∀ n ∈ x.ws, IsInt n
theorem RightH.lead {H : Hp} (k : RightH H) {t : Int} (h : Leads H t) : IsNum t ∧ t ≤ 1000000 := by
  have := k.nx
  unfold IsNum
  rcases h with e | ⟨x, hx, e⟩
  · omega
  · have := k.ok x hx
    have := this.1
    have := (k.ok x hx).2.1
    omega
theorem ImH.domO {H : Hp} (k : ImH H) {x : Ob} (hx : x ∈ H.obs) : DomO x := by
  obtain ⟨o1, o2, o3, o4, o5⟩ := k.right.ok x hx
  have hn := k.right.nx
  have h8 := k.right.fr.1
  have hw := o4.words (self_in x.bl)
  have hz := sz_le256 (o := H.od) (by omega) (by omega)
  have hin := needI_in (w := x.ws.length) (l := x.ls.length) (by rw [o3]; exact o4.1)
  refine ⟨⟨by omega, by omega⟩, ⟨by omega, by omega⟩, o3.symm, by omega, by omega, k.ints x hx, fun n hn => (k.right.lead (o5 n hn)).1⟩
theorem ImH.dom {H : Hp} (k : ImH H) {g : Int → Int → Bool} (hg : g H.od H.obs.length = true) : DomH g { H with fr := [] } := by
  have hn := k.right.nx
  have h8 := k.right.fr.1
  have hl := k.right.len
  exact ⟨⟨by simp only; omega, by simp only; omega⟩, ⟨by simp only; omega, by simp only; omega⟩, ⟨k.tp, fun t ht => (k.right.lead (k.right.tp t ht)).1⟩, ⟨by simp only; omega, by simp only; omega⟩, hg, fun x hx => k.domO hx, rfl⟩
theorem ImH.reads {H : Hp} (k : ImH H) {g : Int → Int → Bool} (hg : g H.od H.obs.length = true) (r : List UInt8) : praw g (encH H ++ r) = some ({ H with fr := [] }, r) := (praw_codec g).full { H with fr := [] } r (k.dom hg)
theorem raw_eq {H K : Hp} (k : RightH H) (l : RightH K) (e : ({ H with fr := [] } : Hp) = { K with fr := [] }) : H = K := by
  obtain ⟨od, obs, nx, tp, fr⟩ := H
  obtain ⟨od', obs', nx', tp', fr'⟩ := K
  simp only [Hp.mk.injEq] at e
  obtain ⟨rfl, rfl, rfl, rfl, _⟩ := e
  have := k.freeOf.uniq l.freeOf
  simp only at this
  subst this
  rfl
theorem ImH.inj {H K : Hp} (h : ImH H) (k : ImH K) (e : encH H = encH K) : H = K := by
  have h1 := h.reads (g := fun _ _ => true) rfl []
  rw [e, k.reads (g := fun _ _ => true) rfl []] at h1
  injection h1 with h1
  injection h1 with h1 _
  exact (raw_eq k.right h.right h1).symm
/-- What bytes are: a heap that may be, or none. -/
def GetsH (b : List UInt8) : Option Hp → Prop
  | some H => ImH H ∧ encH H = b
  | none => ∀ H, ImH H → encH H ≠ b
theorem GetsH.uniq {b : List UInt8} : ∀ {o o' : Option Hp}, GetsH b o → GetsH b o' → o = o'
  | some _, some _, h, k => congrArg some (h.1.inj k.1 (h.2.trans k.2.symm))
  | some H, none, h, k => absurd h.2 (k H h.1)
  | none, some H, h, k => absurd k.2 (h H k.1)
  | none, none, _, _ => rfl
theorem gets_some {g : Int → Int → Bool} {b : List UInt8} {R : Hp} {F : List Blk} (hp : praw g b = some (R, [])) (hr : RightH { R with fr := F }) : GetsH b (some { R with fr := F }) := by
  obtain ⟨d, e⟩ := (praw_codec g).sound _ _ _ hp
  rw [List.append_nil] at e
  exact ⟨⟨hr, d.2.2.1.1, fun x hx => (d.2.2.2.2.2.1 x hx).2.2.2.2.2.1⟩, e.symm⟩
theorem gets_none1 {g : Int → Int → Bool} {b : List UInt8} (hg : ∀ H, ImH H → g H.od H.obs.length = true) (hp : praw g b = none) : GetsH b none := by
  intro H k e
  have := k.reads (hg H k) []
  rw [List.append_nil, e, hp] at this
  cases this
theorem gets_none2 {g : Int → Int → Bool} {b r : List UInt8} {R : Hp} (hg : ∀ H, ImH H → g H.od H.obs.length = true) (hp : praw g b = some (R, r)) (hr : r ≠ []) : GetsH b none := by
  intro H k e
  have := k.reads (hg H k) []
  rw [List.append_nil, e, hp] at this
  injection this with this
  injection this with _ this
  exact hr this
theorem gets_none3 {g : Int → Int → Bool} {b r : List UInt8} {R : Hp} (hg : ∀ H, ImH H → g H.od H.obs.length = true) (hp : praw g b = some (R, r)) (hn : ∀ F, ¬ RightH { R with fr := F }) : GetsH b none := by
  intro H k e
  have := k.reads (hg H k) []
  rw [List.append_nil, e, hp] at this
  injection this with this
  injection this with this _
  refine hn H.fr ?_
  rw [this]
  exact k.right
/-- The bytes of a heap are few. -/
theorem encO_length (x : Ob) : (encO x).length = 16 + (8 * x.ws.length + 4 * x.ls.length) := by
  unfold encO
  simp only [List.length_append, encN_length, flat_length encI_length, flat_length encN_length]
  omega
theorem encOs_length {H : Hp} : ∀ l : List Ob, (∀ x ∈ l, ObOk H x) → ((l.flatMap encO).length : Int) ≤ 16 * sumL (l.map Ob.bl)
  | [], _ => by simp [sumL]
  | x :: t, h => by
    have ih := encOs_length t fun y hy => h y (List.mem_cons_of_mem _ hy)
    obtain ⟨_, _, o3, o4, _⟩ := h x (List.mem_cons_self ..)
    have h1 := needI_fits (w := x.ws.length) (l := x.ls.length) (by rw [o3]; exact o4.1)
    rw [o3] at h1
    rw [List.map_cons, sumL_cons, List.flatMap_cons, List.length_append, encO_length]
    omega
theorem ImH.size {H : Hp} (k : ImH H) : (encH H).length ≤ 65536 := by
  have h1 := encOs_length (H := H) H.obs k.right.ok
  have h2 := k.right.sum
  unfold blks at h2
  rw [sumL_append] at h2
  have h3 := sumL_ge H.fr
  have h4 := sz_le256 (o := H.od) (by have := k.right.fr.1; omega) k.right.fr.1.2
  have h5 := k.tp
  unfold encH
  simp only [List.length_append, encN_length, flat_length encN_length]
  omega
/-- A row: its client, its number, the code and the value of its result. -/
structure Rw where
  cl : Int
  sq : Int
  co : Int
  va : Int
theorem Rw.ext' {a b : Rw} (h1 : a.cl = b.cl) (h2 : a.sq = b.sq) (h3 : a.co = b.co) (h4 : a.va = b.va) : a = b := by
  cases a; cases b; simp only at *; subst h1 h2 h3 h4; rfl
instance : DecidableEq Rw := fun a b =>
  if h : a.cl = b.cl ∧ a.sq = b.sq ∧ a.co = b.co ∧ a.va = b.va then isTrue (Rw.ext' h.1 h.2.1 h.2.2.1 h.2.2.2) else isFalse fun e => h (by subst e; exact ⟨rfl, rfl, rfl, rfl⟩)
structure St where
  hp : Hp
  rs : List Rw
instance : DecidableEq St := fun a b =>
  if h : a.hp = b.hp ∧ a.rs = b.rs then isTrue (by cases a; cases b; simp only at h; obtain ⟨rfl, rfl⟩ := h; rfl) else isFalse fun e => h (by subst e; exact ⟨rfl, rfl⟩)
def MayR (r : Rw) : Prop := (1 ≤ r.cl ∧ r.cl ≤ 4) ∧ (1 ≤ r.sq ∧ r.sq ≤ 1000000) ∧ 0 ≤ r.co ∧ r.co ≤ 65535
instance (r : Rw) : Decidable (MayR r) := by unfold MayR; infer_instance
def RowsOk (l : List Rw) : Prop := (∀ r ∈ l, MayR r) ∧ l.Pairwise (fun a b => a.cl < b.cl)
instance (l : List Rw) : Decidable (RowsOk l) := by unfold RowsOk; infer_instance
def RightS (s : St) : Prop := RightH s.hp ∧ RowsOk s.rs
instance (s : St) : Decidable (RightS s) := by unfold RightS; infer_instance
theorem rows_len : ∀ (l : List Rw) (lo : Int), (∀ r ∈ l, lo < r.cl ∧ r.cl ≤ 4) → l.Pairwise (fun a b => a.cl < b.cl) → (l.length : Int) ≤ max 0 (4 - lo)
  | [], lo, _, _ => by simp; omega
  | a :: t, lo, h, hp => by
    rw [List.pairwise_cons] at hp
    have h1 := h a (List.mem_cons_self ..)
    have := rows_len t a.cl (fun r hr => ⟨hp.1 r hr, (h r (List.mem_cons_of_mem _ hr)).2⟩) hp.2
    rw [List.length_cons]
    omega
theorem RowsOk.len {l : List Rw} (h : RowsOk l) : l.length ≤ 4 := by
  have := rows_len l 0 (fun r hr => ⟨by have := (h.1 r hr).1.1; omega, (h.1 r hr).1.2⟩) h.2
  omega
def encR (r : Rw) : List UInt8 := encN r.cl ++ (encN r.sq ++ (encN r.co ++ encI r.va))
def DomR (r : Rw) : Prop := IsNum r.cl ∧ IsNum r.sq ∧ IsNum r.co ∧ IsInt r.va
def prow : Prs Rw := fun l => (pnum l).bind fun a => (pnum a.2).bind fun b => (pnum b.2).bind fun c => (pint c.2).bind fun d => some (⟨a.1, b.1, c.1, d.1⟩, d.2)
theorem prow_codec : Codec prow encR DomR where
  full x r h := by
    obtain ⟨h1, h2, h3, h4⟩ := h
    obtain ⟨a, b, c, d⟩ := x
    simp only at h1 h2 h3 h4
    unfold prow encR
    simp only [List.append_assoc]
    rw [pnum_codec.full _ _ h1, Option.bind_some]
    simp only
    rw [pnum_codec.full _ _ h2, Option.bind_some]
    simp only
    rw [pnum_codec.full _ _ h3, Option.bind_some]
    simp only
    rw [pint_codec.full _ _ h4]
    rfl
  sound l x r h := by
    unfold prow at h
    cases e1 : pnum l with
    | none => rw [e1] at h; cases h
    | some a =>
      rw [e1, Option.bind_some] at h
      cases e2 : pnum a.2 with
      | none => rw [e2] at h; cases h
      | some b =>
        rw [e2, Option.bind_some] at h
        cases e3 : pnum b.2 with
        | none => rw [e3] at h; cases h
        | some c =>
          rw [e3, Option.bind_some] at h
          cases e4 : pint c.2 with
          | none => rw [e4] at h; cases h
          | some d =>
            rw [e4, Option.bind_some] at h
            injection h with h
            injection h with f1 f2
            subst f1 f2
            obtain ⟨d1, q1⟩ := pnum_codec.sound _ _ _ e1
            obtain ⟨d2, q2⟩ := pnum_codec.sound _ _ _ e2
            obtain ⟨d3, q3⟩ := pnum_codec.sound _ _ _ e3
            obtain ⟨d4, q4⟩ := pint_codec.sound _ _ _ e4
            refine ⟨⟨d1, d2, d3, d4⟩, ?_⟩
            unfold encR
            simp only
            rw [q1, q2, q3, q4]
            simp only [List.append_assoc]
def encRs (l : List Rw) : List UInt8 := encN (l.length : Int) ++ l.flatMap encR
/-- Rows, no more than m of them. -/
def prows (m : Int) : Prs (List Rw) := fun l => (pnum l).bind fun n => if m < n.1 then none else prep prow n.1.toNat n.2
theorem prows_codec (m : Int) (hm : m ≤ 1000) : Codec (prows m) encRs (fun l => (l.length : Int) ≤ m ∧ ∀ r ∈ l, DomR r) where
  full x r h := by
    unfold prows encRs
    rw [List.append_assoc, pnum_codec.full _ _ (show IsNum (x.length : Int) from ⟨by omega, by omega⟩), Option.bind_some]
    simp only
    rw [if_neg (by omega), Int.toNat_natCast]
    exact (prep_codec prow_codec _).full x r ⟨rfl, h.2⟩
  sound l x r h := by
    unfold prows at h
    cases e1 : pnum l with
    | none => rw [e1] at h; cases h
    | some a =>
      rw [e1, Option.bind_some] at h
      split at h
      · cases h
      · rename_i hm
        obtain ⟨d1, q1⟩ := pnum_codec.sound _ _ _ e1
        obtain ⟨d2, q2⟩ := (prep_codec prow_codec _).sound _ _ _ h
        have n5 : (x.length : Int) = a.1 := by rw [d2.1]; exact Int.toNat_of_nonneg d1.1
        refine ⟨⟨by omega, d2.2⟩, ?_⟩
        unfold encRs
        rw [n5, q1, q2, List.append_assoc]
/-- The bytes of a state. -/
def encS (s : St) : List UInt8 := encN ((encH s.hp).length : Int) ++ (encH s.hp ++ encRs s.rs)
structure ImS (s : St) : Prop where
  hp : ImH s.hp
  rows : RowsOk s.rs
  ints : ∀ r ∈ s.rs, IsInt r.va
theorem ImS.right {s : St} (h : ImS s) : RightS s := ⟨h.hp.right, h.rows⟩
theorem ImS.domR {s : St} (h : ImS s) {r : Rw} (hr : r ∈ s.rs) : DomR r := by
  obtain ⟨⟨a1, a2⟩, ⟨b1, b2⟩, c1, c2⟩ := h.rows.1 r hr
  exact ⟨⟨by omega, by omega⟩, ⟨by omega, by omega⟩, ⟨by omega, by omega⟩, h.ints r hr⟩
theorem ImS.text {s : St} (h : ImS s) : rtext (encS s) = (encH s.hp, 4 + (encH s.hp).length, 0) := by
  unfold encS encN
  rw [Int.toNat_natCast]
  exact rtext_put _ h.hp.size _
theorem ImS.rest {s : St} : (encS s).drop (4 + (encH s.hp).length) = encRs s.rs := by
  unfold encS
  rw [← List.append_assoc]
  refine List.drop_left' ?_
  rw [List.length_append, encN_length]
theorem ImS.inj {s t : St} (h : ImS s) (k : ImS t) (e : encS s = encS t) : s = t := by
  have h1 := h.text
  rw [e, k.text] at h1
  injection h1 with h1 _
  have hh := k.hp.inj h.hp h1
  have h2 : encRs s.rs = encRs t.rs := by rw [← ImS.rest (s := s), ← ImS.rest (s := t), e, hh]
  have h3 := (prows_codec 4 (by omega)).full s.rs [] ⟨by have := h.rows.len; omega, fun r hr => h.domR hr⟩
  rw [h2, (prows_codec 4 (by omega)).full t.rs [] ⟨by have := k.rows.len; omega, fun r hr => k.domR hr⟩] at h3
  injection h3 with h3
  injection h3 with h3 _
  obtain ⟨a, b⟩ := s
  obtain ⟨c, d⟩ := t
  simp only at hh h3
  rw [hh, h3]
def GetsS (b : List UInt8) : Option St → Prop
  | some s => ImS s ∧ encS s = b
  | none => ∀ s, ImS s → encS s ≠ b
theorem GetsS.uniq {b : List UInt8} : ∀ {o o' : Option St}, GetsS b o → GetsS b o' → o = o'
  | some _, some _, h, k => congrArg some (h.1.inj k.1 (h.2.trans k.2.symm))
  | some H, none, h, k => absurd h.2 (k H h.1)
  | none, some H, h, k => absurd k.2 (h H k.1)
  | none, none, _, _ => rfl
/-- A state is read in three steps: a text, a heap that the text is, rows. -/
theorem getss_some {b t : List UInt8} {k : Nat} {H : Hp} {rs : List Rw} {m : Int} (hm : m ≤ 1000) (ht : rtext b = (t, k, 0)) (hh : GetsH t (some H)) (hr : prows m (b.drop k) = some (rs, [])) (ho : RowsOk rs) : GetsS b (some ⟨H, rs⟩) := by
  obtain ⟨s, e, _, e2, hl⟩ := rtext_one (l := b) (by rw [ht])
  rw [ht] at e
  injection e with e1 e
  injection e with e3 _
  subst e1 e3
  obtain ⟨d, q⟩ := (prows_codec m hm).sound _ _ _ hr
  refine ⟨⟨hh.1, ho, fun r hr => (d.2 r hr).2.2.2⟩, ?_⟩
  unfold encS encN
  simp only
  rw [hh.2, Int.toNat_natCast]
  rw [List.append_nil] at q
  rw [← q, ← List.append_assoc, e2, List.take_append_drop]
theorem getss_no_text {b : List UInt8} (ht : (rtext b).2.2 ≠ 0) : GetsS b none := by
  intro s hs e
  rw [← e, hs.text] at ht
  exact ht rfl
theorem getss_no_heap {b t : List UInt8} {k : Nat} {e0 : Int} (ht : rtext b = (t, k, e0)) (hh : GetsH t none) : GetsS b none := by
  intro s hs e
  rw [← e, hs.text] at ht
  injection ht with ht _
  exact hh s.hp hs.hp ht
theorem getss_no_rows {b t : List UInt8} {k : Nat} {e0 : Int} {m : Int} (h4 : 4 ≤ m) (hm : m ≤ 1000) (ht : rtext b = (t, k, e0)) (hr : ∀ rs, prows m (b.drop k) = some (rs, []) → ¬ RowsOk rs) : GetsS b none := by
  intro s hs e
  rw [← e, hs.text] at ht
  injection ht with _ ht
  injection ht with ht _
  refine hr s.rs ?_ hs.rows
  rw [← e, ← ht, ImS.rest]
  have := (prows_codec m hm).full s.rs [] ⟨by have := hs.rows.len; omega, fun r hr => hs.domR hr⟩
  rwa [List.append_nil] at this
end Go.Proofs.YtlnmmklpccppmaaGreatDoor
