/-
  Package pdisk: place, did, remember, Size, Down, Flush, Stop: contracts at a disk.
-/
import Derived.Test.YtcogglanbpphpaaPdRun
import Derived.RegionTactic
import Derived.StillTailTactics
import Derived.Deep.RegionHeld
namespace Go.Proofs.Ytcogglanbpphpaa
open Go.RowKit Go.Maps

section
variable {w : World} {p q r n : Nat} {S : Dk}
set_option maxHeartbeats 1000000 in
theorem place_any (h : DAt w p q r n S) (a : Int) : Calls Try.prog 54 #[.pointer (some ⟨p, 0, none⟩), .int .i64 a] w fun e w' => e = .returned (.bool (decide (0 ≤ a ∧ a < (n : Int)))) ∧ w' = w := by
  have c0 := h.c0
  go_enter Try.func54, Try.ntmps54
  by_cases h1 : 0 ≤ a
  · go_wp2
    go_ret
    exact ⟨by simp [h1], rfl⟩
  · go_wp2
    go_ret
    exact ⟨by simp; omega, rfl⟩
set_option maxHeartbeats 1000000 in
theorem did_any (h : DAt w p q r n S) : Calls Try.prog 42 #[.pointer (some ⟨p, 0, none⟩)] w fun e w' => e = .returned (.tuple #[]) ∧ DAt w' p q r n (didS S) ∧ Oth (ds p q r) w w' := by
  have c3 := h.c3
  have f2 := h.ptr.free 2
  have f3 := h.ptr.free 3
  have c2 := h.c2
  have hl := h.left
  have Hh := Lib.hid h
  clear h
  obtain ⟨T, hT⟩ : ∃ T, T = didS S := ⟨_, rfl⟩
  rw [← hT]
  have HT := Lib.hid hT
  clear hT
  by_cases h1 : 0 < S.left
  · obtain ⟨m, hm⟩ : ∃ m, S.left = m + 1 := ⟨S.left - 1, by omega⟩
    have c3' := (Hh.out.setLeft m (by omega)).c3
    have e1 : T = { S with left := m, down := decide (m = 0) } := by
      rw [HT.out, didS, if_pos h1, hm]
      simp
    have hD := (Hh.out.setLeft m (by omega)).setDown (decide (m = 0))
    rw [← e1] at hD
    rw [hm] at c3 hl
    clear e1 hm h1
    have HD := Lib.hid hD
    clear hD
    go_enter Try.func42, Try.ntmps42
    go_wp2
    go_end0
    have e2 : ((m : Int) == 0) = decide (m = 0) := by
      rw [Bool.eq_iff_iff]
      simp
    rw [e2]
    refine ⟨rfl, HD.out, ((Oth.refl (ds p q r) w).set (.inl rfl) _ _).set (.inl rfl) _ _⟩
  · have e1 : T = S := by rw [HT.out, didS, if_neg h1]
    have HD := Lib.hid Hh.out
    rw [← e1] at HD
    clear e1
    go_enter Try.func42, Try.ntmps42
    go_wp2
    go_end0
    exact ⟨rfl, HD.out, Oth.refl _ _⟩
set_option maxRecDepth 20000 in
set_option maxHeartbeats 1000000 in
theorem remember_any (h : DAt w p q r n S) {k : Nat} (hk : k < n) : Calls Try.prog 55 #[.pointer (some ⟨p, 0, none⟩), .int .i64 (k : Int)] w fun e w' => e = .returned (.tuple #[]) ∧ DAt w' p q r n { S with had := remH S k } ∧ Oth (ds p q r) w w' := by
  obtain ⟨T, hT⟩ : ∃ T, T = { S with had := remH S k } := ⟨_, rfl⟩
  rw [← hT]
  have HT := Lib.hid hT
  clear hT
  have c1 := h.c1
  have k1 := h.had.look h.most hk true
  have c0 := h.c0
  have hz := zero_sec w
  cases hh : S.had k with
  | some x =>
    have hx := (h.hadn k x hh).2
    rw [hh] at k1
    simp only [if_true, Option.isSome_some, Option.getD_some] at k1
    have e1 : T = S := by
      rw [HT.out]
      have : remH S k = S.had := by
        funext j
        unfold remH
        split
        · rename_i e
          subst e
          rw [hh]
          rfl
        · rfl
      rw [this]
    have Hh := Lib.hid h
    clear h
    subst e1
    clear HT hh
    clear hz
    obtain ⟨o1, a1, -, -, hs⟩ := var_sec w
    obtain ⟨o2, s1, -⟩ := hs x hx
    clear hs
    generalize secv x = v at k1 s1
    go_enter Try.func55, Try.ntmps55
    go_wp2_with (first | (refine wpList_alloc_run a1 rfl rfl ?_) | (refine wpList_store_run s1 rfl _ _ rfl rfl rfl ?_))
    go_end0
    exact ⟨rfl, Hh.out.alloc _, (Oth.refl _ _).alloc _⟩
  | none => 
    rw [hh] at k1
    simp only [if_true, Option.isSome_none, Option.getD_none] at k1
    clear hz
    obtain ⟨o1, a1, -, -, hs⟩ := var_sec w
    obtain ⟨o2, s1, -⟩ := hs zs zs_length
    clear hs
    have Hh := Lib.hid h
    clear h
    generalize secv zs = v at k1 s1
    go_enter Try.func55, Try.ntmps55
    go_wp2_with (first | (refine wpList_alloc_run a1 rfl rfl ?_) | (refine wpList_store_run s1 rfl _ _ rfl rfl rfl ?_))
    clear a1 s1 k1 c0 c1
    have hD := Hh.out.alloc o2
    have hO : Oth (ds p q r) w (w.alloc o2) := (Oth.refl _ _).alloc _
    clear Hh
    generalize w.alloc o2 = W at hD hO
    have c0 := hD.drew.c0
    have c1 := hD.drew.c1
    have k2 := hD.drew.sec k hk
    have z2 : (bvs (S.now k)).length = 64 := by rw [bvs_length, hD.len k hk]
    have z3 := bvs_one (S.now k)
    obtain ⟨w2, u2, hH, hg⟩ := hD.drew.had.put hD.most hk (hD.len k hk)
    have hE := hD.drew.setHad hg hH
    have k3 := hE.sec k hk
    have d0 := hE.c0
    have d1 := hE.c1
    have e1 : { S with had := fun j => if j = k then some (S.now k) else S.had j } = T := by
      rw [HT.out]
      congr 1
      funext j
      unfold remH
      split
      · rename_i e
        rw [hh]
        rfl
      · rfl
    rw [e1] at hE
    have hP := hO.drew.trans (Oth.of_grown hg (.inr (.inr rfl)))
    clear e1 HT hH hg hO hh
    have hl : (k : Int) < (n : Int) := by omega
    clear hD
    have HE := Lib.hid hE
    have HP := Lib.hid hP
    clear hE hP
    have S1 := Lib.hid (And.intro k2 (And.intro c0 c1))
    have S2 := Lib.hid (And.intro k3 (And.intro d0 d1))
    clear k2 k3 c0 c1 d0 d1
    dsimp only at S2
    unfold secv at u2
    have ua := Try.underlying65
    have us := Try.sizeSec
    rw [← z2] at us
    generalize bvs (S.now k) = cs at S1 S2 u2 z2 z3 us
    go_region_held (fun w' => w'.rangeAt q (k * 64) cs ∧ w'.cell? ⟨p, 0, none⟩ = some (.slice (some ⟨q, 0, none⟩) n n) ∧ w'.cell? ⟨p, 1, none⟩ = some (.map (some r))) (first | exact S1.out | exact S2.out) (fail)
    all_goals (
      go_wp2
      go_end0
      exact ⟨rfl, HE.out, HP.out⟩)
set_option maxHeartbeats 1000000 in
theorem size_any (h : DAt w p q r n S) : Calls Try.prog 12 #[.pointer (some ⟨p, 0, none⟩)] w fun e w' => e = .returned (.int .i64 (n : Int)) ∧ w' = w := by
  have c0 := h.c0
  go_enter Try.func12, Try.ntmps12
  go_wp2
  go_ret
  exact ⟨rfl, rfl⟩
/-- What a call that tells a number leaves. -/
def Tld (w : World) (p q r n : Nat) (T : Dk) (er : Int) (e : Ending) (w' : World) : Prop := e = .returned (.int .i64 er) ∧ DAt w' p q r n T ∧ Oth (ds p q r) w w'
set_option maxRecDepth 20000 in
set_option maxHeartbeats 1000000 in
theorem flush_any (h : DAt w p q r n S) {T : Dk} {er : Int} (hT : T = flS S) (he : er = flE S) : Calls Try.prog 27 #[.pointer (some ⟨p, 0, none⟩)] w (Tld w p q r n T er) := by
  have c2 := h.c2
  have c1 := h.c1
  unfold flS at hT
  unfold flE at he
  cases hd : S.down with
  | true =>
    rw [hd] at c2 hT he
    simp only [if_true] at hT he
    subst hT he
    have HD := Lib.hid h
    clear h hd
    go_enter Try.func27, Try.ntmps27
    go_wp2
    go_ret
    exact ⟨rfl, HD.out, Oth.refl _ _⟩
  | false =>
    obtain ⟨w1, k1, hH, hg⟩ := h.had.clear 0
    have h1 := h.setHad hg hH
    have ho : Oth (ds p q r) w w1 := Oth.of_grown hg (.inr (.inr rfl))
    have hc := did_any h1
    rw [hd] at c2 hT he
    simp only [Bool.false_eq_true, if_false] at hT he
    rw [hd, ← hT] at hc
    subst he
    have HO := Lib.hid ho
    clear ho hg hH h1 h hd hT
    go_enter Try.func27, Try.ntmps27
    go_wp2_with (go_at_call 42; refine hc.mono ?_; rintro e w' ⟨rfl, hD, hO⟩)
    have HD := Lib.hid hD
    have HP := Lib.hid (HO.out.trans hO)
    clear hD hO
    go_wp2
    go_ret
    exact ⟨rfl, HD.out, HP.out⟩
end
end Go.Proofs.Ytcogglanbpphpaa
