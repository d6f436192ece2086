/-
  Plain mathematics of a log of 64 sectors on a disk: what lies on it behind appends, flushes, a crash. No program, no condition.
-/
import Derived.Test.YtcogglanbpphpaaLgFc
import Derived.Test.YtcogglanbpphpaaPdCr
namespace Go.Proofs.Ytcogglanbpphpaa

theorem wrP_now (S : Dk) (a : Nat) (c : Nat → Ct) : ∀ (j k : Nat), (wrP S a c j).now k = if a ≤ k ∧ k < a + j then (c (k - a)).laid else S.now k
  | 0, k => by rw [if_neg (by omega)]; rfl
  | j + 1, k => by
    have ih := wrP_now S a c j k
    show (if k = a + j then (c j).laid else (wrP S a c j).now k) = _
    by_cases h : k = a + j
    · subst h
      rw [if_pos rfl, if_pos (by omega), Nat.add_sub_cancel_left]
    · rw [if_neg h, ih]
      by_cases h2 : a ≤ k ∧ k < a + j
      · rw [if_pos h2, if_pos (by omega)]
      · rw [if_neg h2, if_neg (by omega)]
theorem wrP_had (S : Dk) (a : Nat) (c : Nat → Ct) : ∀ (j k : Nat), (wrP S a c j).had k = if a ≤ k ∧ k < a + j then some ((S.had k).getD (S.now k)) else S.had k
  | 0, k => by rw [if_neg (by omega)]; rfl
  | j + 1, k => by
    have ih := wrP_had S a c j k
    show (if k = a + j then some (((wrP S a c j).had (a + j)).getD ((wrP S a c j).now (a + j))) else (wrP S a c j).had k) = _
    by_cases h : k = a + j
    · subst h
      rw [if_pos rfl, if_pos (by omega), wrP_had S a c j, wrP_now S a c j, if_neg (by omega), if_neg (by omega)]
    · rw [if_neg h, ih]
      by_cases h2 : a ≤ k ∧ k < a + j
      · rw [if_pos h2, if_pos (by omega)]
      · rw [if_neg h2, if_neg (by omega)]
/-- A piece's sector, or one with nothing. -/
def secOf : Option Ct → List UInt8
  | some c => c.laid
  | none => zs
def rt : Ct := rootC 0 64 1 1 0 0
theorem rt_ok : rt.Ok := rootC_ok (by omega) (by omega) (by omega) (by omega)
/-- A disk with a log of these texts, of which the first F sectors are safe. -/
structure DInv (T : List (List UInt8)) (F : Nat) (S : Dk) : Prop where
  goes : Goes S
  n0 : S.now 0 = rt.laid
  h0 : S.had 0 = none
  now : ∀ q, q < 63 → S.now (q + 1) = secOf (allp 1 1 T)[q]?
  safe : ∀ q, q < F → S.had (q + 1) = none
  had : ∀ q, q < 63 → S.had (q + 1) = none ∨ S.had (q + 1) = some zs
theorem newD_goes : Goes newD := ⟨rfl, rfl⟩
theorem dInv_new : DInv [] 0 (settleS newD 0 64 1 1 0 0) where
  goes := ((newD_goes.flush).set _ _).flush
  n0 := rfl
  h0 := rfl
  now q hq := by
    show (if q + 1 = 0 then (rootC 0 64 1 1 0 0).laid else zs) = zs
    rw [if_neg (by omega)]
  safe q hq := rfl
  had q hq := .inl rfl
theorem allp_snoc (ag : Nat) : ∀ (T : List (List UInt8)) (nu : Nat) (t : List UInt8), allp ag nu (T ++ [t]) = allp ag nu T ++ (List.range (np t.length)).map (pc ag (nu + T.length) t)
  | [], nu, t => by simp [allp]
  | u :: us, nu, t => by
    rw [List.cons_append, allp, allp, allp_snoc ag us (nu + 1) t, List.append_assoc, List.length_cons]
    rw [show nu + 1 + us.length = nu + (us.length + 1) by omega]
theorem off_snoc (T : List (List UInt8)) (t : List UInt8) : off (T ++ [t]) (T ++ [t]).length = off T T.length + np t.length := by
  unfold off
  rw [List.take_of_length_le (Nat.le_refl _), List.take_of_length_le (Nat.le_refl _)]
  simp
theorem off_pre (T : List (List UInt8)) (t : List UInt8) {m : Nat} (h : m ≤ T.length) : off (T ++ [t]) m = off T m := by
  unfold off
  rw [List.take_append_of_le_length h]
theorem DInv.append {T : List (List UInt8)} {F : Nat} {S : Dk} (h : DInv T F S) (hF : F ≤ off T T.length) (t : List UInt8) (_hU : off T T.length + np t.length ≤ 63) :
    DInv (T ++ [t]) F (wrP S (0 + 1 + off T T.length) (pc 1 (1 + T.length) t) (np t.length)) where
  goes := h.goes.wrP _ _ _
  n0 := by rw [wrP_now, if_neg (by omega)]; exact h.n0
  h0 := by rw [wrP_had, if_neg (by omega)]; exact h.h0
  now q hq := by
    rw [wrP_now, allp_snoc]
    have hl := allp_len 1 T 1
    by_cases hin : 0 + 1 + off T T.length ≤ q + 1 ∧ q + 1 < 0 + 1 + off T T.length + np t.length
    · rw [if_pos hin, List.getElem?_append_right (by omega), hl]
      have : q - off T T.length < np t.length := by omega
      rw [List.getElem?_map, List.getElem?_range this]
      show _ = (pc 1 (1 + T.length) t (q - off T T.length)).laid
      rw [show q + 1 - (0 + 1 + off T T.length) = q - off T T.length by omega]
    · rw [if_neg hin, h.now q hq]
      by_cases h2 : q < off T T.length
      · rw [List.getElem?_append_left (by omega)]
      · rw [List.getElem?_eq_none (by omega), List.getElem?_eq_none (by simp [hl]; omega)]
  safe q hq := by
    rw [wrP_had, if_neg (by omega)]
    exact h.safe q hq
  had q hq := by
    rw [wrP_had]
    by_cases hin : 0 + 1 + off T T.length ≤ q + 1 ∧ q + 1 < 0 + 1 + off T T.length + np t.length
    · rw [if_pos hin]
      right
      rcases h.had q hq with e | e
      · rw [e, h.now q hq, List.getElem?_eq_none (by rw [allp_len]; omega)]
        rfl
      · rw [e]
        rfl
    · rw [if_neg hin]
      exact h.had q hq
theorem DInv.flush {T : List (List UInt8)} {F : Nat} {S : Dk} (h : DInv T F S) (F' : Nat) : DInv T F' (flushS S) :=
  ⟨h.goes.flush, h.n0, rfl, h.now, fun _ _ => rfl, fun _ _ => .inl rfl⟩
/-- What a disk has behind a crash. -/
noncomputable def aftC (T : List (List UInt8)) (now : Nat → List UInt8) : Nat → Ct
  | 0 => rt
  | q + 1 => if now (q + 1) = zs then Ct.zero else ((allp 1 1 T)[q]?).getD Ct.zero
theorem laid_ne {c : Ct} (h : c.Ok) : c.laid ≠ zs := fun e => by
  have := h.notz
  rw [e, allz_zs] at this
  cases this
theorem allp_ok {T : List (List UInt8)} (hT : ∀ t ∈ T, t.length ≤ 1024) (hl : T.length ≤ 1000) {q : Nat} {c : Ct} (h : (allp 1 1 T)[q]? = some c) : c.Ok := by
  have := allp_isPc (ag := 1) (age := 1) (by omega) (by omega) (by omega) T 1 q c (by omega) (by omega) hT h
  have htx : c.tx.length ≤ 36 := by have := this.tx; omega
  refine ⟨by rw [this.kd]; omega, by rw [this.kd]; omega, by have := this.a2; omega, this.n2, ?_, by have := this.sz; omega, htx⟩
  have h1 := this.pl
  have h2 := this.sz
  unfold np at h1
  omega
structure Crashed (T : List (List UInt8)) (F : Nat) (now : Nat → List UInt8) : Prop where
  n0 : now 0 = rt.laid
  two : ∀ q, q < 63 → now (q + 1) = secOf (allp 1 1 T)[q]? ∨ now (q + 1) = zs
  safe : ∀ q, q < F → q < 63 → now (q + 1) = secOf (allp 1 1 T)[q]?
theorem DInv.crash {T : List (List UInt8)} {F : Nat} {S : Dk} (h : DInv T F S) (keep : List Bool) {ks : List Nat} (hk : Dirty S.had ks) : Crashed T F (crS S keep ks).now where
  n0 := (crN_clean hk _ _ h.h0).trans h.n0
  two q hq := by
    rcases crN_two keep S.had ks ks.length S.now (q + 1) with e | e
    · exact .inl (e.trans (h.now q hq))
    · rcases h.had q hq with e2 | e2
      · exact .inl ((crN_clean hk _ _ e2).trans (h.now q hq))
      · rw [e2] at e
        exact .inr e
  safe q hq hq2 := (crN_clean hk _ _ (h.safe q hq)).trans (h.now q hq2)
section
variable {T : List (List UInt8)} {F : Nat} {now : Nat → List UInt8}
theorem Crashed.sec (h : Crashed T F now) (hT : ∀ t ∈ T, t.length ≤ 1024) (hl : T.length ≤ 1000) {j : Nat} (hj : j < 64) : Sec (now (0 + j)) (aftC T now j) := by
  rw [Nat.zero_add]
  match j with
  | 0 => exact .inr ⟨rt_ok, h.n0⟩
  | q + 1 =>
    show Sec _ (if now (q + 1) = zs then Ct.zero else _)
    by_cases e : now (q + 1) = zs
    · rw [if_pos e]
      exact .inl ⟨e, rfl⟩
    · rw [if_neg e]
      rcases h.two q (by omega) with e2 | e2
      · cases hc : (allp 1 1 T)[q]? with
        | none =>
          rw [hc] at e2
          exact absurd e2 e
        | some c =>
          rw [hc] at e2
          exact .inr ⟨allp_ok hT hl hc, e2⟩
      · exact absurd e2 e
theorem Crashed.ring (h : Crashed T F now) (hT : ∀ t ∈ T, t.length ≤ 1024) (hpos : ∀ t ∈ T, 1 ≤ t.length) (hr : off T T.length < 63) : Ring (fun j => aftC T now (j + 1)) 63 1 1 T where
  room := hr
  has q hq := by
    show (if now (q + 1) = zs then Ct.zero else _) = Ct.zero ∨ _ = some (if now (q + 1) = zs then Ct.zero else _)
    by_cases e : now (q + 1) = zs
    · rw [if_pos e]
      exact .inl rfl
    · rw [if_neg e]
      rcases h.two q hq with e2 | e2
      · cases hc : (allp 1 1 T)[q]? with
        | none =>
          rw [hc] at e2
          exact absurd e2 e
        | some c => exact .inr rfl
      · exact absurd e2 e
  pos := hpos
  len := hT
/-- What is safe is all there. -/
theorem Crashed.full (h : Crashed T F now) (hT : ∀ t ∈ T, t.length ≤ 1024) (hl : T.length ≤ 1000) (hr : off T T.length < 63) {m f : Nat} (hf : f ≤ T.length) (hF : off T f ≤ F) (hm : m < f) : Full (fun j => aftC T now (j + 1)) T m := by
  intro t ht i hi
  have h1 := off_succ ht
  have h2 := off_mono T (show m + 1 ≤ f by omega)
  have h3 := off_mono T hf
  have hq : off T m + i < 63 := by omega
  have hc := allp_at 1 T 1 m i t ht hi
  have hn := h.safe (off T m + i) (by omega) hq
  rw [hc] at hn
  have hok := allp_ok hT hl hc
  have hne : now (off T m + i + 1) ≠ zs := by
    rw [hn]
    exact laid_ne hok
  show (if now (off T m + i + 1) = zs then Ct.zero else ((allp 1 1 T)[off T m + i]?).getD Ct.zero) ≠ Ct.zero
  rw [if_neg hne, hc]
  intro e
  have := congrArg Ct.kd e
  simp [pc, Ct.zero] at this
end
theorem crS_goes (S : Dk) (keep : List Bool) (ks : List Nat) : Goes (crS S keep ks) := ⟨rfl, rfl⟩
end Go.Proofs.Ytcogglanbpphpaa
