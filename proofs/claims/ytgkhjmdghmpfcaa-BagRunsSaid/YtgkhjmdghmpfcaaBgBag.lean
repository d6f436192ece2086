/-
  A bag in memory; its row's add, at, drop: contracts.
-/
import Derived.Test.YtgkhjmdghmpfcaaBgDel
import Derived.Lib.MinMax
namespace Go.Proofs.Ytgkhjmdghmpfcaa
open Go.RowKit

/-- Rows of unlike elements lie apart. -/
theorem rows_apart {U U' : TypeId} {w : World} {b b' s s' n n' : Nat} {v v' : Value} {xs xs' : List Value} (h : w.ownsRow b U s v n xs) (h' : w.ownsRow b' U' s' v' n' xs') (hne : U ≠ U') {k : Nat} (hk : v.ownBlock = some k) : v'.ownBlock ≠ some k := by
  intro hk'
  obtain ⟨c1, h1⟩ := row_type h hk
  obtain ⟨c2, h2⟩ := row_type h' hk'
  rw [h1] at h2
  injection h2 with h2
  injection h2 with _ h3
  exact hne h3
theorem row_whole_apart {U t : TypeId} {w : World} {b s n p : Nat} {v : Value} {xs cs : List Value} (h : w.ownsRow b U s v n xs) (hp : Whole w p t cs) (hne : U ≠ t) : v.ownBlock ≠ some p := by
  intro hk
  obtain ⟨c1, h1⟩ := row_type h hk
  unfold Whole at hp
  rw [h1] at hp
  injection hp with hp
  injection hp with _ h3
  exact hne h3
theorem OwnE.oth {w w' : World} {base : Nat} {e : Value} {l : List En} {X : Nat → Prop} (h : OwnE w base e l) (hO : Oth X w w') (hX : ∀ k, e.ownBlock = some k → ¬ X k) : OwnE w' base e l := row_oth h hO hX
theorem OwnE.below {w w' : World} {base : Nat} {e : Value} {l : List En} (h : OwnE w base e l) (hb : Below w.heap.size w w') : OwnE w' base e l := row_below h hb
theorem OwnE.mono {w : World} {base base' : Nat} {e : Value} {l : List En} (h : OwnE w base e l) (hb : base' ≤ base) : OwnE w base' e l := row_mono h hb

/-- A bag in memory: its struct in block p, its messages in the row v, their entries in rows of their own. -/
structure BagAt (w : World) (p base room : Nat) (v : Value) (l : List (Ms × Value)) : Prop where
  ptr : Whole w p 61 [.int .i64 (room : Int), v]
  row : w.ownsRow base 47 23 v l.length (mcl l)
  ents : ∀ q ∈ l, OwnE w base q.2 q.1.es
  lo : 1 ≤ room
  hi : room ≤ 200
  len : l.length ≤ room
  small : ∀ q ∈ l, SmallM q.1
  bp : base ≤ p
/-- What a call of a bag writes: its struct, and its row's block. -/
def bX (p : Nat) (v : Value) : Nat → Prop := fun k => k = p ∨ v.ownBlock = some k
section
variable {w w' : World} {p base room : Nat} {v : Value} {l : List (Ms × Value)}
theorem BagAt.rd (h : BagAt w p base room v l) : ∃ A c, v = .slice A l.length c ∧ l.length ≤ c ∧ c ≤ maxLen ∧ RdM w A l.length l ∧ ∀ b off, A = some ⟨b, off, none⟩ → v.ownBlock = some b := by
  obtain ⟨A, c, e, h1, h2, r, hb⟩ := row_rd h.row
  exact ⟨A, c, e, h1, h2, ⟨rfl, r, fun q hq => (h.ents q hq).msg⟩, hb⟩
theorem BagAt.pv (h : BagAt w p base room v l) : v.ownBlock ≠ some p := row_whole_apart h.row h.ptr (by decide)
theorem BagAt.ep (h : BagAt w p base room v l) {q : Ms × Value} (hq : q ∈ l) {k : Nat} (hk : q.2.ownBlock = some k) : ¬ bX p v k := by
  rintro (e | e)
  · subst e
    exact row_whole_apart (h.ents q hq) h.ptr (by decide) hk
  · exact rows_apart h.row (h.ents q hq) (by decide) e hk
theorem BagAt.eX (h : BagAt w p base room v l) {b : Nat} {e : Value} {es : List En} (hq : OwnE w b e es) {k : Nat} (hk : e.ownBlock = some k) : ¬ bX p v k := by
  rintro (e' | e')
  · subst e'
    exact row_whole_apart hq h.ptr (by decide) hk
  · exact rows_apart h.row hq (by decide) e' hk
theorem BagAt.oth {X : Nat → Prop} (h : BagAt w p base room v l) (hO : Oth X w w') (hp : ¬ X p) (hv : ∀ k, v.ownBlock = some k → ¬ X k) (he : ∀ q ∈ l, ∀ k, q.2.ownBlock = some k → ¬ X k) : BagAt w' p base room v l :=
  ⟨h.ptr.keep (hO.block _ h.ptr.lt hp), row_oth h.row hO hv, fun q hq => (h.ents q hq).oth hO (he q hq), h.lo, h.hi, h.len, h.small, h.bp⟩
theorem BagAt.below (h : BagAt w p base room v l) (hb : Below w.heap.size w w') : BagAt w' p base room v l :=
  ⟨h.ptr.below hb, row_below h.row hb, fun q hq => (h.ents q hq).below hb, h.lo, h.hi, h.len, h.small, h.bp⟩
theorem BagAt.size (h : BagAt w p base room v l) : base ≤ w.heap.size := Nat.le_trans h.bp (Nat.le_of_lt h.ptr.lt)
end
/-- s[k:] of messages. -/
theorem run_cutM (A : Option Addr) {n c k : Nat} (hk : k ≤ n) (hc : n ≤ c) :
    ∃ A' : Option Addr, (∀ W : World, (Instr.slice 29 (.slice A n c) (some (.int .i64 (k : Int))) none none).run Try.prog W = .ok (.slice A' (n - k) (c - k)) W) ∧ (∀ (W : World) (l : List (Ms × Value)), RdM W A n l → RdM W A' (n - k) (l.drop k)) ∧
      (∀ b off, A' = some ⟨b, off, none⟩ → ∃ a, A = some a ∧ a.block = b) := by
  refine ⟨if c = k then A else A.map (·.add (k * 23)), fun W => ?_, fun W l hr => ?_, fun b off h => ?_⟩
  · have ht := Try.underlying29
    have he : Try.prog.elem 29 = 47 := by simp [Program.elem, ht]
    rw [run_slice_l W 29 A n c (by rw [he]; exact ht) .i64 (k : Int) (by omega) (by omega), he, Try.sizeOf47 W]
    simp only [Result.andThen, sliced, Int.toNat_natCast]
  · have := hr.cut (i := k) (j := n) hk (Nat.le_refl _) hc
    rw [List.take_of_length_le (by rw [List.length_drop, hr.len]; exact Nat.le_refl _)] at this
    exact this
  · split at h
    · exact ⟨_, h, rfl⟩
    · cases A with
      | none => cases h
      | some a =>
        refine ⟨a, rfl, ?_⟩
        simp only [Option.map_some, Option.some.injEq] at h
        have hb : (a.add (k * 23)).block = a.block := by unfold Addr.add; split <;> rfl
        rw [← hb, h]
/-- The first ones are taken out of a row of the call's own. -/
theorem delM_front {base k o : Nat} {v : Value} {l : List (Ms × Value)} {w : World} (hrow : w.ownsRow base 47 23 v k (mcl l)) (h1 : ∀ p ∈ l, p.2.oneCell' = true) (ho : o ≤ k) (hk : k ≤ 1000) :
    Calls Try.prog 34 #[v, .int .i64 0, .int .i64 (o : Int)] w
      fun e w' => ∃ v1, e = .returned v1 ∧ w'.ownsRow base 47 23 v1 (k - o) (mcl (l.drop o)) ∧ w.grownBy w' v.ownBlock ∧ v1.ownBlock = v.ownBlock := by
  by_cases h0 : o = 0
  · subst h0
    obtain ⟨A, c, rfl, hnc, -, -, -⟩ := row_rd hrow
    have hA : A = none → c = 0 := by
      rcases hrow.2 with ⟨e, _⟩ | ⟨g, cap, cur, e, _⟩
      · injection e with e1 e2 e3
        exact fun _ => e3
      · injection e with e1 e2 e3
        intro q
        rw [q] at e1
        cases e1
    refine (delM_none hA hnc).mono ?_
    rintro e w' ⟨rfl, rfl⟩
    exact ⟨_, rfl, hrow, grown_refl _ _, rfl⟩
  · obtain ⟨g, c, rfl⟩ : ∃ g c, v = .slice (some ⟨g, 0, none⟩) k c := by
      rcases hrow.2 with ⟨_, e⟩ | ⟨g, cap, cur, e, _⟩
      · omega
      · exact ⟨g, cap, e⟩
    have hd := delM_any (i := 0) (r := o) (t := k - o) hrow h1 (by omega) (by omega) hk
    simp only [Nat.zero_add, List.take_zero, List.nil_append] at hd
    refine hd.mono ?_
    rintro e w' ⟨rfl, h2, h3⟩
    exact ⟨_, rfl, h2, h3, rfl⟩
/-- What is left of a row and more, where there is room for so many. -/
theorem lastN_add {α : Type} {l ms : List α} {room : Nat} (hl : l.length ≤ room) : lastN room (l ++ ms) = l.drop (l.length + (ms.length - (ms.length - room)) - room) ++ ms.drop (ms.length - room) := by
  unfold lastN
  rw [List.length_append, List.drop_append]
  by_cases h : ms.length ≤ room
  · rw [show ms.length - room = 0 by omega, Nat.sub_zero, List.drop_zero, show l.length + ms.length - room - l.length = 0 by omega, List.drop_zero]
  · rw [List.drop_of_length_le (show l.length ≤ l.length + ms.length - room by omega), List.drop_of_length_le (show l.length ≤ l.length + (ms.length - (ms.length - room)) - room by omega)]
    congr 2
    omega
def AddPost (w : World) (p base room : Nat) (v : Value) (l ms : List (Ms × Value)) (w' : World) : Prop := ∃ v', BagAt w' p base room v' (lastN room (l ++ ms)) ∧ Oth (bX p v) w w' ∧ (v'.ownBlock = v.ownBlock ∨ ∃ k, v'.ownBlock = some k ∧ w.heap.size ≤ k)
set_option maxRecDepth 20000 in
set_option maxHeartbeats 2000000 in
theorem add_any {w : World} {p base room : Nat} {v : Value} {l ms : List (Ms × Value)} {A : Option Addr} {m c : Nat} (h : BagAt w p base room v l) (hm : RdM w A m ms) (hc : m ≤ c) (hme : ∀ q ∈ ms, OwnE w base q.2 q.1.es) (hms : ∀ q ∈ ms, SmallM q.1)
    (hap : ∀ a, A = some a → ¬ bX p v a.block) (hm3 : m ≤ 1000) :
    Calls Try.prog 29 #[.pointer (some ⟨p, 0, none⟩), .slice A m c] w fun e w' => e = .returned (.tuple #[]) ∧ AddPost w p base room v l ms w' := by
  obtain ⟨B, cb, hv, hbc, hbm, hrB, hbB⟩ := h.rd
  obtain ⟨k, hk⟩ : ∃ k, k = l.length := ⟨_, rfl⟩
  obtain ⟨d, hd⟩ : ∃ d, d = m - room := ⟨_, rfl⟩
  obtain ⟨m1, hm1⟩ : ∃ m1, m1 = m - d := ⟨_, rfl⟩
  obtain ⟨o, ho⟩ : ∃ o, o = k + m1 - room := ⟨_, rfl⟩
  obtain ⟨s, hs⟩ : ∃ s, s = k + m1 := ⟨_, rfl⟩
  have hkr : k ≤ room := by rw [hk]; exact h.len
  have hlo := h.lo
  have hhi := h.hi
  obtain ⟨A', hcut, hrd', hA'⟩ := run_cutM A (show d ≤ m by omega) hc
  rw [← hm1] at hcut hrd'
  have hms1 : ms.length = m := hm.len
  have hM := hrd' _ _ hm
  have c0 := h.ptr.cell 0
  have c1 := h.ptr.cell 1
  simp only [List.getElem?_cons_succ, List.getElem?_cons_zero] at c0 c1
  rw [hv] at c1
  have fm : max ((m : Int) - (room : Int)) 0 = (d : Int) := by omega
  have fs : (k : Int) + (m1 : Int) = (s : Int) := by omega
  have fo : max ((s : Int) - (room : Int)) 0 = (o : Int) := by omega
  rw [← hk] at c1
  have hrowW : ∀ W, Below w.heap.size w W → W.ownsRow base 47 23 (.slice B k cb) k (mcl l) := fun W hb => by
    rw [hk, ← hv]
    exact (h.below hb).row
  have HDel := Lib.hid (fun (W : World) (hb : Below w.heap.size w W) => delM_front (o := o) (hrowW W hb) (fun q hq => (h.ents q hq).msg.one) (by omega) (by omega))
  have Hh := Lib.hid h
  have HM := Lib.hid hM
  have HA := Lib.hid (show ∀ b off, A' = some ⟨b, off, none⟩ → ¬ bX p v b from fun b off e => by
    obtain ⟨a, ha, hb⟩ := hA' b off e
    rw [← hb]
    exact hap a ha)
  have Hme := Lib.hid hme
  have Hms := Lib.hid hms
  have HK := Lib.hid hk
  have HE := Lib.hid (show lastN room (l ++ ms) = l.drop o ++ ms.drop d by rw [lastN_add (by rw [← hk]; exact hkr), hms1, ho, hm1, hd, hk])
  have hoK := Lib.hid (show o ≤ k by omega)
  have HL := Lib.hid (show k - o + m1 ≤ room by omega)
  have hm1l := Lib.hid (show m1 ≤ 200 by omega)
  have hvb := Lib.hid (show v.ownBlock ≠ some p from h.pv)
  have hbs := Lib.hid h.size
  have hm0 : (0 : Int) ≤ (d : Int) := by omega
  have fw1 : IntKind.i64.wrap (s : Int) = (s : Int) := by rw [IntKind.wrap_i64]; omega
  have fw2 : IntKind.i64.wrap ((s : Int) - (room : Int)) = (s : Int) - (room : Int) := by rw [IntKind.wrap_i64]; omega


  have hd1 : (d : Int) ≤ (m : Int) := by omega
  have mixed : Try.prog.follows .mixedOrders = true := by kernel_rfl
  obtain ⟨cc, hcc⟩ : ∃ cc, cc = c - d := ⟨_, rfl⟩
  rw [← hcc] at hcut
  clear hrowW h hm hc hme hms hap hrB hbB hbm hA' hrd' hM hkr hms1 hk hd hm1 ho hs hcc
  go_enter Try.func29, Try.ntmps29
  go_upto_region 1 with (fail)
  go_quiet (fail)
  have HB0 := Lib.hid (below_drewN (Below.refl w.heap.size w) nq)
  have c1 := (Hh.out.below HB0.out).ptr.cell 1
  simp only [List.getElem?_cons_succ, List.getElem?_cons_zero] at c1
  rw [hv, ← HK.out] at c1
  generalize w.drewN nq = W at HB0 c1 ⊢
  clear fm fs fo fw1 fw2 hcut c0 mixed hm0 hd1 hm3 hlo hhi
  have HAP := Lib.hid (fun (w2 : World) (v1 : Value) (O1 : w2.ownsRow base 47 23 v1 (k - o) (mcl (l.drop o))) (g1 : W.grownBy w2 (Value.slice B k cb).ownBlock) => show ∃ v2 w3, (Builtin.append_ #[29, 29] 29 #[v1, .slice A' m1 cc]).run Try.prog w2 = .ok v2 w3 ∧ w3.ownsRow base 47 23 v2 (k - o + m1) (mcl (l.drop o) ++ mcl (ms.drop d)) ∧ w2.grownBy w3 v1.ownBlock ∧ (v2.ownBlock = v1.ownBlock ∨ v2.ownBlock = some w2.heap.size) from by
    have hO : Oth (bX p v) W w2 := ⟨g1.os, g1.tape, g1.output, g1.size, fun j hj hx => g1.block j hj fun e => hx (.inr (by rw [hv, ← HK.out]; exact e.symm))⟩
    have r2 := (HM.out.below HB0.out).rd.oth hO HA.out
    exact run_appC Try.underlying29 Try.infoMs rfl (by decide) (by decide) O1 cc r2 (HM.out.one) (by have := hoK.out; have := HL.out; have := hm1l.out; have := Hh.out.hi; omega) (Nat.le_trans hbs.out (Nat.le_trans HB0.out.size g1.size)))
  have HP := Lib.hid (fun (w2 w3 : World) (v1 : Value) (g1 : W.grownBy w2 (Value.slice B k cb).ownBlock) (e1 : v1.ownBlock = (Value.slice B k cb).ownBlock) (g3 : w2.grownBy w3 v1.ownBlock) => show Whole w3 p 61 [.int .i64 (room : Int), .slice B k cb] from by
    have hne : some p ≠ (Value.slice B k cb).ownBlock := fun e => hvb.out (by rw [hv, ← HK.out]; exact e.symm)
    have h0 := (Hh.out.below HB0.out).ptr
    rw [hv, ← HK.out] at h0
    have h2 := h0.keep (g1.block p h0.lt hne)
    exact h2.keep (g3.block p h2.lt (by rw [e1]; exact hne)))
  go_wp2_with (first | (go_at_call 34; refine (HDel.out W HB0.out).mono ?_; rintro e w2 ⟨v1, rfl, O1, g1, e1⟩; obtain ⟨v2, w3, hap, O3, g3, hb3⟩ := HAP.out _ _ O1 g1; have P3 := HP.out _ _ _ g1 e1 g3; obtain ⟨B2, c2, hv2, -, -, -, -⟩ := row_rd O3; obtain ⟨B1, cb1, hv1, -, -, -, -⟩ := row_rd O1; rw [hv1] at hap; rw [hv2] at hap; rw [hv1]; have d1 := P3.cell 1; have f1 := P3.free 1; simp only [List.getElem?_cons_succ, List.getElem?_cons_zero] at d1; have HO1 := Lib.hid O1; have HG1 := Lib.hid g1; have HE1 := Lib.hid e1; have HO3 := Lib.hid O3; have HG3 := Lib.hid g3; have HB3 := Lib.hid hb3; have HP3 := Lib.hid P3; have HV1 := Lib.hid hv1; have HV2 := Lib.hid hv2; clear O1 g1 e1 O3 g3 hb3 P3 hv1 hv2) | (at_builtin; refine wpList_append_run hap rfl _ _ rfl rfl rfl rfl ?_))
  go_end0
  have hvo : v.ownBlock = (Value.slice B k cb).ownBlock := by rw [hv, ← HK.out]
  have o2 : Oth (bX p v) W w2 := ⟨HG1.out.os, HG1.out.tape, HG1.out.output, HG1.out.size, fun j hj hx => HG1.out.block j hj fun e => hx (.inr (hvo.trans e.symm))⟩
  have o3 : Oth (bX p v) w2 w3 := ⟨HG3.out.os, HG3.out.tape, HG3.out.output, HG3.out.size, fun j hj hx => HG3.out.block j hj fun e => hx (.inr (by rw [hvo, ← HE1.out]; exact e.symm))⟩
  have o4 : Oth (bX p v) w (w3.setCell ⟨p, 1, none⟩ (.slice B2 (k - o + m1) c2)) := (((Oth.of_below HB0.out (bX p v)).trans o2).trans o3).set (.inl rfl) 1 _
  have hml : (ms.drop d).length = m1 := HM.out.len
  have hll : (l.drop o ++ ms.drop d).length = k - o + m1 := by rw [List.length_append, hml, List.length_drop, HK.out]
  have hrow4 : (w3.setCell ⟨p, 1, none⟩ (.slice B2 (k - o + m1) c2)).ownsRow base 47 23 (.slice B2 (k - o + m1) c2) (k - o + m1) (mcl (l.drop o) ++ mcl (ms.drop d)) := by
    have h3 := HO3.out
    rw [HV2.out] at h3
    exact row_keep h3 fun j hj => (grown_set w3 p 1 _).block j (World.ownsRow.lt h3 j hj).2 fun e => by
      injection e with e
      subst e
      exact row_whole_apart h3 HP3.out (by decide) hj
  have hL := HL.out
  refine ⟨rfl, .slice B2 (k - o + m1) c2, ?_, o4, ?_⟩
  · rw [HE.out]
    refine ⟨HP3.out.set 1 _, by rw [hll, mcl_append]; exact hrow4, fun q hq => ?_, Hh.out.lo, Hh.out.hi, by rw [hll]; exact hL, fun q hq => ?_, Hh.out.bp⟩
    · rcases List.mem_append.1 hq with h | h
      · have h' := List.mem_of_mem_drop h
        exact (Hh.out.ents q h').oth o4 fun k hk => Hh.out.ep h' hk
      · have h' := Hme.out q (List.mem_of_mem_drop h)
        exact h'.oth o4 fun k hk => Hh.out.eX h' hk
    · rcases List.mem_append.1 hq with h | h
      · exact Hh.out.small q (List.mem_of_mem_drop h)
      · exact Hms.out q (List.mem_of_mem_drop h)
  · rw [← HV2.out]
    rcases HB3.out with e | e
    · exact .inl (e.trans (HE1.out.trans hvo.symm))
    · exact .inr ⟨_, e, Nat.le_trans HB0.out.size HG1.out.size⟩
end Go.Proofs.Ytgkhjmdghmpfcaa
