/-
  What giving a block back leaves: plain mathematics, no program.
-/
import Derived.Test.YthiijnanfiddpaaDoorBudF
import Derived.Test.YthiijnanfiddpaaDoorBudR2
import Derived.Test.YthiijnanfiddpaaDoorBudTk
namespace Go.Proofs.YthiijnanfiddpaaDoor
open Go.RowKit

/-- l with b is m. -/
def Gave (r : Int) (l : List Blk) (b : Blk) (m : List Blk) : Prop := Right r m ∧ ∀ x, Cov m x ↔ Cov l x ∨ InB b x
theorem Gave.eq {r : Int} {l m m' : List Blk} {b : Blk} (h : Gave r l b m) (k : Gave r l b m') : m = m' := canon h.1 k.1 fun x => by rw [h.2, k.2]
/-- b may be in the region, and no word of it lies in one of these. -/
def Fits (r : Int) (l : List Blk) (b : Blk) : Prop := May r b ∧ ∀ a ∈ l, ¬ Meets b a
instance (r : Int) (l : List Blk) (b : Blk) : Decidable (Fits r l b) := by unfold Fits; infer_instance

/-- The block that b and its twin make. -/
def merged (b : Blk) : Blk := (min b.1 (twin b).1, b.2 + 1)
theorem twin_may {r : Int} {b : Blk} (hr : r ≤ 8) (h : May r b) (hb : b.2 < r) : May r (twin b) ∧ May r (merged b) ∧ (∀ x, InB (merged b) x ↔ InB b x ∨ InB (twin b) x) ∧ ¬ Meets b (twin b) := by
  obtain ⟨x, o⟩ := b
  obtain ⟨k0, k1, k2, k3, k4⟩ := h
  simp only at *
  have hle := sz_le (o := o + 1) (p := r) (by omega) (by omega) hr
  have hs := sz_succ k0
  -- the region's size is a multiple of twice the block's
  have hmul : sz r % sz (o + 1) = 0 := by
    rcases ords (o := o) k0 (by omega) with h | h | h | h | h | h | h | h | h <;> subst h <;> rcases ords (o := r) (by omega) hr with h | h | h | h | h | h | h | h | h <;> subst h <;>
      first | omega | (simp only [sz1, sz2, sz3, sz4, sz5, sz6, sz7, sz8]; decide)
  obtain ⟨R, hR⟩ : ∃ R, R = sz r := ⟨_, rfl⟩
  rw [← hR] at k3 hle hmul
  unfold May merged twin Meets InB
  simp only
  rw [← hR]
  rw [hs] at hmul hle ⊢
  rcases ords (o := o) k0 (by omega) with h | h | h | h | h | h | h | h | h <;> subst h <;> simp only [sz0, sz1, sz2, sz3, sz4, sz5, sz6, sz7, sz8] at * <;> split <;> simp only [sz0, sz1, sz2, sz3, sz4, sz5, sz6, sz7, sz8] <;>
    (refine ⟨⟨by omega, by omega, by omega, by omega, by omega⟩, ⟨by omega, by omega, by omega, by omega, by omega⟩, fun y => ?_, by omega⟩; omega)
theorem merged_ord (b : Blk) : (merged b).2 = b.2 + 1 := rfl

/-- The document's merging so far. -/
structure GvInv (r : Int) (l : List Blk) (b0 : Blk) (out : List Blk) (b : Blk) : Prop where
  right : Right r out
  fits : Fits r out b
  cov : ∀ x, (Cov out x ∨ InB b x) ↔ (Cov l x ∨ InB b0 x)
theorem GvInv.start {r : Int} {l : List Blk} {b : Blk} (h : Right r l) (hf : Fits r l b) : GvInv r l b l b := ⟨h, hf, fun _ => Iff.rfl⟩
theorem GvInv.step {r : Int} {l out : List Blk} {b0 b : Blk} (h : GvInv r l b0 out b) (hb : b.2 < r) (ht : twin b ∈ out) : GvInv r l b0 (woL out (twin b)) (merged b) := by
  obtain ⟨t1, t2, t3, t4⟩ := twin_may h.right.1.2 h.fits.1 hb
  refine ⟨h.right.sub List.filter_sublist, ⟨t2, fun a ha hm => ?_⟩, fun x => ?_⟩
  · obtain ⟨h1, h2⟩ := woL_mem.1 ha
    have hMa := h.right.may h1
    -- a word in both
    have hpa := sz_pos a.2
    have hpm := sz_pos (merged b).2
    obtain ⟨y, hy1, hy2⟩ : ∃ y, InB (merged b) y ∧ InB a y := ⟨max (merged b).1 a.1, by unfold InB; have := hm.1; have := hm.2; omega, by unfold InB; have := hm.1; have := hm.2; omega⟩
    rcases (t3 y).1 hy1 with e | e
    · exact h.fits.2 a h1 (meets_of e hy2)
    · exact h2 (h.right.one h1 ht hy2 e)
  · rw [← h.cov x, t3 x]
    constructor
    · rintro (⟨a, ha, hx⟩ | hx | hx)
      · exact .inl ⟨a, (woL_mem.1 ha).1, hx⟩
      · exact .inr hx
      · exact .inl ⟨_, ht, hx⟩
    · rintro (⟨a, ha, hx⟩ | hx)
      · by_cases e : a = twin b
        · subst e; exact .inr (.inr hx)
        · exact .inl ⟨a, woL_mem.2 ⟨ha, e⟩, hx⟩
      · exact .inr (.inl hx)
/-- A block that comes among right ones, none of which is its twin. -/
theorem right_ins {r : Int} {l m : List Blk} {b : Blk} (h : Right r l) (hf : Fits r l b) (ht : b.2 < r → twin b ∉ l) (hm : m.Pairwise (fun x y => x.1 < y.1)) (hmem : ∀ c, c ∈ m ↔ c = b ∨ c ∈ l) : Gave r l b m := by
  have hr8 := h.1.2
  refine ⟨right_of h.1 hm (fun c hc => ?_) (fun a ha c hc hne hmt => ?_) (fun a ha c hc hlt hcr htw => ?_), fun x => ?_⟩
  · rcases (hmem c).1 hc with e | e
    · rw [e]; exact hf.1
    · exact h.may e
  · rcases (hmem a).1 ha with e | e <;> rcases (hmem c).1 hc with f | f
    · exact hne (e.trans f.symm)
    · rw [e] at hmt; exact hf.2 c f hmt
    · rw [f] at hmt; exact hf.2 a e hmt.symm
    · exact hne (h.apart e f hmt)
  · rcases (hmem a).1 ha with e | e <;> rcases (hmem c).1 hc with f | f
    · rw [e, f] at hlt; omega
    · -- c's twin is b
      refine ht (by rw [← e, ← htw, twin_ord]; exact hcr) ?_
      rw [← e, ← htw, twin_twin hr8 (h.may f)]
      exact f
    · refine ht (by rw [← f]; exact hcr) ?_
      rw [← f, htw]
      exact e
    · exact h.notwin e f hcr htw
  · constructor
    · rintro ⟨c, hc, hx⟩
      rcases (hmem c).1 hc with e | e
      · rw [e] at hx; exact .inr hx
      · exact .inl ⟨c, e, hx⟩
    · rintro (⟨c, hc, hx⟩ | hx)
      · exact ⟨c, (hmem c).2 (.inr hc), hx⟩
      · exact ⟨b, (hmem b).2 (.inl rfl), hx⟩
theorem fits_ne {r : Int} {l : List Blk} {b : Blk} (hf : Fits r l b) : ∀ c ∈ l, c.1 ≠ b.1 := fun c hc e => hf.2 c hc (by
  have h1 := sz_pos c.2
  have h2 := sz_pos b.2
  exact ⟨by omega, by omega⟩)
theorem GvInv.done {r : Int} {l out : List Blk} {b0 b : Blk} (h : GvInv r l b0 out b) (ht : b.2 < r → twin b ∉ out) : Gave r l b0 (ins b out) := by
  obtain ⟨h1, h2⟩ := right_ins h.right h.fits ht (ins_rise h.right.rise (fits_ne h.fits)) (fun c => ins_mem)
  exact ⟨h1, fun x => by rw [h2, h.cov]⟩

/-- The program's merging so far: J is joined, H waits. -/
structure JnInv (r : Int) (l : List Blk) (b0 : Blk) (J H : List Blk) : Prop where
  reg : 3 ≤ r ∧ r ≤ 8
  may : ∀ c ∈ J ++ H, May r c
  apart : (J ++ H).Pairwise (fun a c => ¬ Meets a c)
  sorted : J.Pairwise Lq
  ahead : ∀ a ∈ J, ∀ c ∈ H, Lq a c
  notwin : ∀ a ∈ J, ∀ c ∈ J, c.2 < r → twin c ≠ a
  cov : ∀ x, Cov (J ++ H) x ↔ (Cov l x ∨ InB b0 x)
theorem perm_cov {l m : List Blk} (h : l.Perm m) (x : Int) : Cov l x ↔ Cov m x :=
  ⟨fun ⟨c, hc, hx⟩ => ⟨c, h.mem_iff.1 hc, hx⟩, fun ⟨c, hc, hx⟩ => ⟨c, h.mem_iff.2 hc, hx⟩⟩
theorem meets_symm : ∀ {a b : Blk}, ¬ Meets a b → ¬ Meets b a := fun h k => h k.symm
theorem perm_apart {l m : List Blk} (h : l.Perm m) (hl : l.Pairwise (fun a c => ¬ Meets a c)) : m.Pairwise (fun a c => ¬ Meets a c) := h.pairwise hl (fun h => meets_symm h)
theorem apart_mem {l : List Blk} (h : l.Pairwise (fun a c => ¬ Meets a c)) {a c : Blk} (ha : a ∈ l) (hc : c ∈ l) (hm : Meets a c) : a = c := by
  rcases pw_mem h ha hc with e | e | e
  · exact e
  · exact absurd hm e
  · exact absurd hm.symm e
theorem self_meets (b : Blk) : Meets b b := ⟨by have := sz_pos b.2; omega, by have := sz_pos b.2; omega⟩
theorem JnInv.start {r : Int} {l H : List Blk} {b : Blk} (h : Right r l) (hf : Fits r l b) (hp : H.Perm (l ++ [b])) : JnInv r l b [] H := by
  refine ⟨h.1, fun c hc => ?_, ?_, List.Pairwise.nil, (fun a ha => by cases ha), (fun a ha => by cases ha), fun x => ?_⟩
  · rcases List.mem_append.1 (hp.mem_iff.1 hc) with e | e
    · exact h.may e
    · rw [List.mem_singleton.1 e]; exact hf.1
  · refine perm_apart hp.symm ?_
    rw [List.pairwise_append]
    exact ⟨h.2.2.imp fun q => meets_symm q.2.1, List.pairwise_singleton _ _, fun a ha c hc => by rw [List.mem_singleton.1 hc]; exact meets_symm (hf.2 a ha)⟩
  · rw [List.nil_append, perm_cov hp, cov_snoc]
/-- What comes out is pushed. -/
theorem JnInv.push {r : Int} {l J H H' : List Blk} {b0 b : Blk} (h : JnInv r l b0 J H) (hp : (b :: H').Perm H) (hmin : ∀ c ∈ H', Lq b c) (hlast : ∀ z, J.getLast? = some z → z ≠ twin b) : JnInv r l b0 (J ++ [b]) H' := by
  have hperm : ((J ++ [b]) ++ H').Perm (J ++ H) := by
    rw [List.append_assoc]
    exact List.Perm.append_left J hp
  have hbH : b ∈ H := hp.mem_iff.1 (List.mem_cons_self ..)
  have hMb := h.may b (List.mem_append_right _ hbH)
  have key : ∀ a ∈ J, twin b ≠ a := fun a ha he => by
    obtain ⟨z, hz⟩ : ∃ z, J.getLast? = some z := by
      cases e : J.getLast? with
      | none => rw [List.getLast?_eq_none_iff] at e; subst e; cases ha
      | some z => exact ⟨z, rfl⟩
    have hzJ := last_mem hz
    have hab := h.ahead a ha b hbH
    have hzb := h.ahead z hzJ b hbH
    have haz : Lq a z := by
      obtain ⟨J', rfl⟩ := List.getLast?_eq_some_iff.1 hz
      have hs := h.sorted
      rw [List.pairwise_append] at hs
      rcases List.mem_append.1 ha with e | e
      · exact hs.2.2 a e z (by simp)
      · rw [List.mem_singleton.1 e]; exact Lq.refl _
    have hord : a.2 = b.2 := by rw [← he, twin_ord]
    have hp := sz_pos b.2
    have ha1 : a.1 + sz b.2 = b.1 := by
      have := congrArg Prod.fst he
      unfold twin at this
      unfold Lq at hab
      split at this <;> simp only at this <;> omega
    have hzo : z.2 = b.2 ∧ a.1 ≤ z.1 ∧ z.1 ≤ b.1 := by unfold Lq at haz hzb; omega
    have hzne : z.1 ≠ b.1 := fun e => by
      have hm : Meets z b := ⟨by omega, by rw [hzo.1]; omega⟩
      have hh := h.apart
      rw [List.pairwise_append] at hh
      exact hh.2.2 z hzJ b hbH hm
    have hza : z = a := by
      have hm : Meets z a := ⟨by rw [hord]; omega, by rw [hzo.1]; omega⟩
      exact apart_mem h.apart (List.mem_append_left _ hzJ) (List.mem_append_left _ ha) hm
    exact hlast z hz (hza.trans he.symm)
  refine ⟨h.reg, fun c hc => h.may c (hperm.mem_iff.1 hc), perm_apart hperm.symm h.apart, ?_, fun a ha c hc => ?_, fun a ha c hc hcr he => ?_, fun x => by rw [perm_cov hperm, h.cov]⟩
  · rw [List.pairwise_append]
    exact ⟨h.sorted, List.pairwise_singleton _ _, fun a ha c hc => by rw [List.mem_singleton.1 hc]; exact h.ahead a ha b hbH⟩
  · rcases List.mem_append.1 ha with e | e
    · exact h.ahead a e c (hp.mem_iff.1 (List.mem_cons_of_mem _ hc))
    · rw [List.mem_singleton.1 e]; exact hmin c hc
  · rcases List.mem_append.1 ha with e | e <;> rcases List.mem_append.1 hc with f | f
    · exact h.notwin a e c f hcr he
    · rw [List.mem_singleton.1 f] at he; exact key a e he
    · rw [List.mem_singleton.1 e] at he
      refine key c f ?_
      rw [← he, twin_twin h.reg.2 (h.may c (List.mem_append_left _ f))]
    · rw [List.mem_singleton.1 e, List.mem_singleton.1 f] at he
      have := congrArg Prod.fst he
      have hp := sz_pos b.2
      unfold twin at this
      split at this <;> simp only at this <;> omega
/-- Two make one, which waits. -/
theorem JnInv.merge {r : Int} {l J H H' H2 : List Blk} {b0 b z : Blk} (h : JnInv r l b0 (J ++ [z]) H) (hp : (b :: H').Perm H) (hmin : ∀ c ∈ H', Lq b c) (hz : z = twin b) (hp2 : H2.Perm (H' ++ [(z.1, b.2 + 1)])) : JnInv r l b0 J H2 ∧ (z.1, b.2 + 1) = merged b ∧ b.2 < r := by
  have hbH : b ∈ H := hp.mem_iff.1 (List.mem_cons_self ..)
  have hMb := h.may b (List.mem_append_right _ hbH)
  have hMz := h.may z (List.mem_append_left _ (by simp))
  have hzb := h.ahead z (by simp) b hbH
  have hps := sz_pos b.2
  have hbr : b.2 < r := by
    rcases Int.lt_or_le b.2 r with e | e
    · exact e
    · exfalso
      have h1 := hMb.2.1
      have e1 : b.2 = r := by omega
      have h2 := hMz.2.2.2.1
      have h3 := hMb.2.2.2.1
      have h4 := hMz.2.2.1
      have h5 := hMb.2.2.1
      rw [hz, twin_ord] at h2
      rw [hz] at h4
      unfold twin at h2 h4
      rw [e1] at h2 h3 h4 hps
      split at h2 <;> simp only at h2 h4 <;> simp_all <;> omega
  obtain ⟨t1, t2, t3, t4⟩ := twin_may h.reg.2 hMb hbr
  have hz1 : z.1 < b.1 := by
    have := congrArg Prod.fst hz
    have ho : z.2 = b.2 := by rw [hz, twin_ord]
    unfold twin at this
    unfold Lq at hzb
    split at this <;> simp only at this <;> omega
  have hmg : (z.1, b.2 + 1) = merged b := by
    unfold merged
    rw [← hz]
    exact Prod.ext (by simp only; omega) rfl
  have hall : (J ++ H2).Perm (J ++ (H' ++ [merged b])) := by rw [← hmg]; exact List.Perm.append_left J hp2
  have hold : ((J ++ [z]) ++ (b :: H')).Perm ((J ++ [z]) ++ H) := List.Perm.append_left _ hp
  have hap := perm_apart hold.symm h.apart
  have hmemJ : ∀ c ∈ J, c ∈ (J ++ [z]) ++ (b :: H') := fun c hc => by simp [hc]
  have hmemH : ∀ c ∈ H', c ∈ (J ++ [z]) ++ (b :: H') := fun c hc => by simp [hc]
  have hmz : z ∈ (J ++ [z]) ++ (b :: H') := by simp
  have hmb : b ∈ (J ++ [z]) ++ (b :: H') := by simp
  have hsub : (J ++ H').Sublist ((J ++ [z]) ++ (b :: H')) := by
    rw [List.append_assoc]
    exact List.Sublist.append_left (by exact (List.sublist_cons_self b H').trans (List.sublist_append_right [z] _)) J
  have hnm : ∀ c ∈ J ++ H', ¬ Meets c (merged b) := fun c hc hm => by
    have hp1 := sz_pos c.2
    have hp2' := sz_pos (merged b).2
    obtain ⟨y, hy1, hy2⟩ : ∃ y, InB (merged b) y ∧ InB c y := ⟨max (merged b).1 c.1, by unfold InB; have := hm.1; have := hm.2; omega, by unfold InB; have := hm.1; have := hm.2; omega⟩
    have hpw := hap
    rw [List.append_assoc, List.pairwise_append] at hpw
    obtain ⟨_, q2, q3⟩ := hpw
    rw [List.singleton_append, List.pairwise_cons, List.pairwise_cons] at q2
    rcases List.mem_append.1 hc with e | e
    · rcases (t3 y).1 hy1 with f | f
      · exact q3 c e b (by simp) (meets_of hy2 f)
      · exact q3 c e z (by simp) (meets_of hy2 (by rw [hz]; exact f))
    · rcases (t3 y).1 hy1 with f | f
      · exact q2.2.1 c e (meets_of f hy2)
      · exact q2.1 c (List.mem_cons_of_mem _ e) (meets_of (by rw [hz]; exact f) hy2)
  refine ⟨⟨h.reg, fun c hc => ?_, ?_, ?_, fun a ha c hc => ?_, fun a ha c hc => h.notwin a (List.mem_append_left _ ha) c (List.mem_append_left _ hc), fun x => ?_⟩, hmg, hbr⟩
  · have := hall.mem_iff.1 hc
    rw [← List.append_assoc] at this
    rcases List.mem_append.1 this with e | e
    · exact h.may c (hold.mem_iff.1 (hsub.mem e))
    · rw [List.mem_singleton.1 e]; exact t2
  · refine perm_apart hall.symm ?_
    rw [← List.append_assoc, List.pairwise_append]
    exact ⟨hap.sublist hsub, List.pairwise_singleton _ _, fun a ha c hc => by rw [List.mem_singleton.1 hc]; exact hnm a ha⟩
  · have := h.sorted
    rw [List.pairwise_append] at this
    exact this.1
  · have hJb : Lq a b := h.ahead a (List.mem_append_left _ ha) b hbH
    rcases List.mem_append.1 (hp2.mem_iff.1 hc) with e | e
    · exact hJb.trans (hmin c e)
    · rw [List.mem_singleton.1 e]
      unfold Lq at hJb ⊢
      simp only
      omega
  · rw [perm_cov hall, ← List.append_assoc, cov_snoc, t3, ← h.cov x, ← perm_cov hold x]
    constructor
    · rintro (⟨c, hc, hx⟩ | hx | hx)
      · exact ⟨c, hsub.mem hc, hx⟩
      · exact ⟨b, hmb, hx⟩
      · exact ⟨z, hmz, by rw [hz]; exact hx⟩
    · rintro ⟨c, hc, hx⟩
      rw [List.append_assoc] at hc
      rcases List.mem_append.1 hc with e | e
      · exact .inl ⟨c, List.mem_append_left _ e, hx⟩
      · rcases List.mem_append.1 e with e | e
        · rw [List.mem_singleton.1 e, hz] at hx; exact .inr (.inr hx)
        · rcases List.mem_cons.1 e with e | e
          · rw [e] at hx; exact .inr (.inl hx)
          · exact .inl ⟨c, List.mem_append_right _ e, hx⟩
theorem JnInv.done {r : Int} {l J m : List Blk} {b0 : Blk} (h : JnInv r l b0 J []) (hp : m.Perm J) (hm : m.Pairwise (fun x y => x.1 ≤ y.1)) : Gave r l b0 m := by
  have hap := h.apart
  rw [List.append_nil] at hap
  have hapm := perm_apart hp.symm hap
  refine ⟨right_of h.reg ?_ (fun c hc => h.may c (by rw [List.append_nil]; exact hp.mem_iff.1 hc)) (fun a ha c hc hne hmt => hne (apart_mem hap (hp.mem_iff.1 ha) (hp.mem_iff.1 hc) hmt)) (fun a ha c hc _ hcr => h.notwin a (hp.mem_iff.1 ha) c (hp.mem_iff.1 hc) hcr), fun x => ?_⟩
  · have hboth := hm.and hapm
    exact hboth.imp fun {a c} q => by
      rcases Int.lt_or_eq_of_le q.1 with e | e
      · exact e
      · exfalso
        refine q.2 ?_
        have h1 := sz_pos a.2
        have h2 := sz_pos c.2
        exact ⟨by omega, by omega⟩
  · rw [perm_cov hp, ← h.cov x, List.append_nil]
end Go.Proofs.YthiijnanfiddpaaDoor
