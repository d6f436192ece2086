/-
  The place of an object, found by halves; whether a link may be a handle: contracts.
  The place of an object; whether a link may be a handle; whether all of a row may be: contracts.
  What an object needs; whether its block fits; whether the objects rise, each with a block of its order: contracts.
-/
import Derived.Test.YtlnmmklpccppmaaGreatDoorTg17
import Derived.Test.YtlnmmklpccppmaaGreatDoorTg14
import Derived.Test.YtlnmmklpccppmaaGreatDoorTg6
import Derived.Test.YtlnmmklpccppmaaGreatDoorTg16
namespace Go.Proofs.YtlnmmklpccppmaaGreatDoor
open Go.RowKit
/-- A place that was found, or none. -/
def Found (w : World) (l : List Ob) (g : Int) (n : Nat) (e : Ending) (w' : World) : Prop :=
  (∃ (p : Nat) (x : Ob), p < n ∧ findO l g = some (p, x) ∧ e = .returned (.tuple #[.int .i64 (p : Int), .bool true]) ∧ Grew w w') ∨
  (∃ k : Nat, findO l g = none ∧ e = .returned (.tuple #[.int .i64 (k : Int), .bool false]) ∧ Grew w w')
set_option maxHeartbeats 1000000 in
theorem findCmp_any (l : List Ob) (g : Int) (bo bh : Nat) (A : Option Addr) (n c k : Nat) (x : Ob) (w : World) (Wo : Whole w bo 22 [.slice A n c]) (Wh : Whole w bh 3 [.int .i64 g]) (hO : RdO w A n l) (hk : k < n) (hx : l[k]? = some x) :
    Calls Tryz.prog 161 #[.int .i64 (k : Int), .pointer (some ⟨bh, 0, none⟩), .pointer (some ⟨bo, 0, none⟩)] w (Says w (.int .i64 (Lib.compareInt g x.hd))) := by
  have S := fun W => (AnyG.cmp_Compare_int Tryz.cmpI g x.hd W).mono fun e w' (h : e = .returned (.int .i64 (Lib.compareInt g x.hd)) ∧ w' = W) => (⟨h.1, h.2.symm⟩ : e = .returned (.int .i64 (Lib.compareInt g x.hd)) ∧ W = w')
  change ∀ W, Calls Tryz.prog 116 _ _ _ at S
  obtain ⟨b, off, y, rfl, hb, hy, A1, n1, c1, B1, m1, d1, h0, _⟩ := hO.get hk
  rw [hx] at hy
  injection hy with hy
  subst hy
  have o0 := Wo.cell 0
  have o1 := Wh.cell 0
  simp only [List.getElem?_cons_zero] at o0 o1
  have hki : (k : Int) < (n : Int) := by omega
  have mixed := mixedP
  have o0' := cell_grown (a := ⟨bo, 0, none⟩) Wo.lt o0
  have o1' := cell_grown (a := ⟨bh, 0, none⟩) Wh.lt o1
  have z0 := cell_grown (a := ⟨b, off + k * 5, none⟩) hb h0
  generalize Lib.compareInt g x.hd = q at S ⊢
  clear hO Wo Wh hx
  go_enter Tryz.func161, Tryz.ntmps161
  go_wp2_with fail
  refine wp_region_quiet_grown mixed (by kernel_rfl) ?_
  repeat (go_big_quiet_step ((go_at_call 116; exact calls_grown_same (S _))))
  refine wpQuiet_nil ?_
  intro _ hw'
  obtain ⟨⟨nq, osq⟩, hw''⟩ := hw'
  subst hw''
  have G4 := (Grew.refl w).grow nq osq
  generalize Go.Sort.grow (w.drewN nq) osq = w4 at G4 ⊢
  go_wp2
  go_ret
  exact ⟨rfl, G4⟩
theorem cmp_gt {g y : Int} (h : y < g) : Lib.compareInt g y = 1 := by unfold Lib.compareInt; rw [if_neg (by omega), if_pos h]
theorem cmp_eq {g y : Int} (h : y = g) : Lib.compareInt g y = 0 := by unfold Lib.compareInt; rw [if_neg (by omega), if_neg (by omega)]
theorem cmp_lt {g y : Int} (h : g < y) : Lib.compareInt g y = -1 := by unfold Lib.compareInt; rw [if_pos h]
/-- Between two places. -/
def HalfRel (w : World) (l : List Ob) (g : Int) (i j : Value) (wr : World) : Prop :=
  ∃ a b : Nat, i = .int .i64 (a : Int) ∧ j = .int .i64 (b : Int) ∧ a ≤ b ∧ b ≤ l.length ∧ (∀ q x, q < a → l[q]? = some x → x.hd < g) ∧ (∀ q x, b ≤ q → l[q]? = some x → g ≤ x.hd) ∧ Grew w wr
theorem half_none {l : List Ob} {g : Int} {a : Nat} (h1 : ∀ q x, q < a → l[q]? = some x → x.hd < g) (h2 : ∀ q x, a ≤ q → l[q]? = some x → g < x.hd) : findO l g = none := by
  refine findO_none.2 fun x hx => ?_
  obtain ⟨j, hj, e⟩ := List.getElem_of_mem hx
  have hj' : l[j]? = some x := by rw [List.getElem?_eq_getElem hj, e]
  rcases Nat.lt_or_ge j a with q | q
  · have := h1 j x q hj'; omega
  · have := h2 j x q hj'; omega
theorem rise_at {l : List Ob} (hr : l.Pairwise (fun a b => a.hd < b.hd)) {i j : Nat} {x y : Ob} (hx : l[i]? = some x) (hy : l[j]? = some y) (h : i < j) : x.hd < y.hd := by
  obtain ⟨h1, rfl⟩ := List.getElem?_eq_some_iff.1 hx
  obtain ⟨h2, rfl⟩ := List.getElem?_eq_some_iff.1 hy
  exact List.pairwise_iff_getElem.1 hr i j h1 h2 h
set_option maxHeartbeats 2000000 in
theorem sortFind_any (l : List Ob) (g : Int) (bo bh : Nat) (A : Option Addr) (n c : Nat) (w : World) (Wo : Whole w bo 22 [.slice A n c]) (Wh : Whole w bh 3 [.int .i64 g]) (hO : RdO w A n l) (hn : n ≤ 1000) (hr : l.Pairwise (fun a b => a.hd < b.hd)) :
    Calls Tryz.prog 160 #[.int .i64 (n : Int), .func (.func 161) #[] #[.pointer (some ⟨bh, 0, none⟩), .pointer (some ⟨bo, 0, none⟩)]] w (Found w l g n) := by
  have S := fun (W : World) (gr : Grew w W) (k : Nat) (x : Ob) (hk : k < n) (hx : l[k]? = some x) => findCmp_any l g bo bh A n c k x W (Wo.below gr.below) (Wh.below gr.below) (hO.below gr.below) hk hx
  have hlen := hO.len
  have HR := Lib.hid hr
  have HS := Lib.hid S
  have HL := Lib.hid hlen
  clear Wo Wh hO hr S hlen
  go_enter Tryz.func160, Tryz.ntmps160
  go_wp2_with fail
  go_loopw [4, 6] (HalfRel w l g) (fun i j _ => (intOf j).toNat - (intOf i).toNat)
  case atStart => exact ⟨0, n, rfl, rfl, Nat.zero_le _, by rw [HL.out]; exact Nat.le_refl _, fun q x hq => absurd hq (Nat.not_lt_zero _), fun q x hq hx => by have := (List.getElem?_eq_some_iff.1 hx).1; rw [HL.out] at this; omega, Grew.refl _⟩
  case round =>
    obtain ⟨a, b, rfl, rfl, hab, hb, h1, h2, gr⟩ := hrel
    have H1 := Lib.hid h1
    have H2 := Lib.hid h2
    have hbn : b ≤ n := by have := HL.out; omega
    clear h1 h2 hb
    by_cases hlt : a < b
    · obtain ⟨m, hm⟩ : ∃ m, m = (a + b) / 2 := ⟨_, rfl⟩
      have hmi : ((a : Int) + (b : Int)) / 2 = (m : Int) := by omega
      have hma : a ≤ m := by omega
      have hmb : m < b := by omega
      obtain ⟨x, hx⟩ : ∃ x, l[m]? = some x := ⟨_, List.getElem?_eq_getElem (by have := HL.out; omega)⟩
      have S1 := HS.out wr gr m x (by omega) hx
      have Hx := Lib.hid hx
      clear hx hm
      by_cases hc : x.hd < g
      · rw [cmp_gt hc] at S1
        have Hn := Lib.hid (show ∀ q y, q < m + 1 → l[q]? = some y → y.hd < g from fun q y hq hy => by
          rcases Nat.lt_or_ge q m with e | e
          · have := rise_at HR.out hy Hx.out e; omega
          · obtain rfl : q = m := by omega
            rw [Hx.out] at hy; injection hy with hy; rw [← hy]; exact hc)
        clear hc
        go_wp2_with (go_at_call 161; refine S1.mono ?_; rintro e w2 ⟨rfl, g2⟩)
        go_roundw
        case rel => exact ⟨m + 1, b, by go_num, rfl, by omega, by have := HL.out; omega, Hn.out, H2.out, gr.trans g2⟩
        case measure => simp [intOf]; omega
      · obtain ⟨z, hz, hz0⟩ : ∃ z : Int, Lib.compareInt g x.hd = z ∧ z ≤ 0 := by
          by_cases he : x.hd = g
          · exact ⟨0, cmp_eq he, Int.le_refl _⟩
          · exact ⟨-1, cmp_lt (by omega), by omega⟩
        rw [hz] at S1
        have Hn := Lib.hid (show ∀ q y, m ≤ q → l[q]? = some y → g ≤ y.hd from fun q y hq hy => by
          rcases Nat.lt_or_ge m q with e | e
          · have := rise_at HR.out Hx.out hy e; omega
          · obtain rfl : q = m := by omega
            rw [Hx.out] at hy; injection hy with hy; rw [← hy]; omega)
        have hzd : decide (0 < z) = false := decide_eq_false (by omega)
        clear hc hz
        go_wp2_with (go_at_call 161; refine S1.mono ?_; rintro e w2 ⟨rfl, g2⟩)
        go_roundw
        case rel => exact ⟨a, m, rfl, by go_num, by omega, by have := HL.out; omega, H1.out, Hn.out, gr.trans g2⟩
        case measure => simp [intOf]; omega
    · obtain rfl : a = b := by omega
      by_cases han : a < n
      · obtain ⟨x, hx⟩ : ∃ x, l[a]? = some x := ⟨_, List.getElem?_eq_getElem (by have := HL.out; omega)⟩
        have S1 := HS.out wr gr a x han hx
        have hxg := H2.out a x (Nat.le_refl _) hx
        have Hx := Lib.hid hx
        clear hx
        by_cases he : x.hd = g
        · rw [cmp_eq he] at S1
          have Hf := Lib.hid (findO_some.2 ⟨Hx.out, he, fun j y hj hy => by have := H1.out j y hj hy; omega⟩)
          clear he hxg
          go_wp2_with (go_at_call 161; refine S1.mono ?_; rintro e w2 ⟨rfl, g2⟩)
          go_ret2
          exact .inl ⟨a, x, han, Hf.out, rfl, gr.trans g2⟩
        · rw [cmp_lt (by omega)] at S1
          have Hf := Lib.hid (half_none H1.out fun q y hq hy => by
            rcases Nat.lt_or_ge a q with e | e
            · have := rise_at HR.out Hx.out hy e; omega
            · obtain rfl : q = a := by omega
              rw [Hx.out] at hy; injection hy with hy; rw [← hy]; omega)
          clear he hxg
          go_wp2_with (go_at_call 161; refine S1.mono ?_; rintro e w2 ⟨rfl, g2⟩)
          go_ret2
          exact .inr ⟨a, Hf.out, rfl, gr.trans g2⟩
      · have Hf := Lib.hid (half_none (a := a) H1.out fun q y hq hy => by
          have := (List.getElem?_eq_some_iff.1 hy).1
          have := HL.out
          omega)
        go_wp2_with fail
        go_ret2
        exact .inr ⟨a, Hf.out, rfl, gr⟩
end Go.Proofs.YtlnmmklpccppmaaGreatDoor
namespace Go.Proofs.YtlnmmklpccppmaaGreatDoor
open Go.RowKit
set_option maxHeartbeats 1000000 in
theorem find_any (l : List Ob) (g : Int) (A : Option Addr) (n c : Nat) (w : World) (hO : RdO w A n l) (hn : n ≤ 1000) (hr : l.Pairwise (fun a b => a.hd < b.hd)) :
    Calls Tryz.prog 138 #[.slice A n c, .int .i64 g] w (Found w l g n) := by
  have g1 := (Grew.refl w).alloc (.cells #[.slice A n c] 22)
  have g2 := g1.alloc (.cells #[.int .i64 g] 3)
  have K1 := (Whole.new w #[.slice A n c] 22)
  have K2 := (Whole.new (w.alloc (.cells #[.slice A n c] 22)) #[.int .i64 g] 3)
  have hsz : (w.alloc (.cells #[.slice A n c] 22)).heap.size = w.heap.size + 1 := by simp
  rw [hsz] at K2
  have S := sortFind_any l g w.heap.size (w.heap.size + 1) A n c _ (K1.alloc (.cells #[.int .i64 g] 3)) K2 (hO.below g2.below) hn hr
  have G2 := Lib.hid g2
  clear K1 K2 hO hr g1 g2 hsz
  go_enter Tryz.func138, Tryz.ntmps138
  go_wp2_with (go_at_call 160; refine S.mono ?_; rintro e w2 (⟨p, x, hp, hf, rfl, g3⟩ | ⟨k, hf, rfl, g3⟩))
  · go_ret2
    exact .inl ⟨p, x, hp, hf, rfl, G2.out.trans g3⟩
  · go_ret2
    exact .inr ⟨k, hf, rfl, G2.out.trans g3⟩
/-- A link may be this. -/
def mayL (l : List Ob) (t : Int) : Bool := decide (t = 0) || (findO l t).isSome
theorem mayL_leads (h : Hp) (t : Int) : mayL h.obs t = decide (Leads h t) := by
  unfold mayL
  rw [Bool.eq_iff_iff, Bool.or_eq_true, decide_eq_true_iff, decide_eq_true_iff, leads_iff]
  cases findO h.obs t <;> simp
set_option maxHeartbeats 1000000 in
theorem mayLink_any (l : List Ob) (t : Int) (A : Option Addr) (n c : Nat) (w : World) (hO : RdO w A n l) (hn : n ≤ 1000) (hr : l.Pairwise (fun a b => a.hd < b.hd)) :
    Calls Tryz.prog 119 #[.slice A n c, .int .i64 t] w (Says w (.bool (mayL l t))) := by
  have S := find_any l t A n c w hO hn hr
  clear hO hr
  unfold mayL
  cases hf : findO l t with
  | some q =>
    have S2 : Calls Tryz.prog 138 #[.slice A n c, .int .i64 t] w fun e w' => ∃ k : Int, e = .returned (.tuple #[.int .i64 k, .bool true]) ∧ Grew w w' := S.mono fun e w' h => by
      rcases h with ⟨p, x, _, h1, h2, h3⟩ | ⟨k, h1, _⟩
      · exact ⟨p, h2, h3⟩
      · rw [hf] at h1; cases h1
    clear S hf
    go_enter Tryz.func119, Tryz.ntmps119
    go_wp2_with (go_at_call 138; refine S2.mono ?_; rintro e w2 ⟨k, rfl, g2⟩)
    go_ret
    exact ⟨by simp, g2⟩
  | none =>
    have S2 : Calls Tryz.prog 138 #[.slice A n c, .int .i64 t] w fun e w' => ∃ k : Int, e = .returned (.tuple #[.int .i64 k, .bool false]) ∧ Grew w w' := S.mono fun e w' h => by
      rcases h with ⟨p, x, _, h1, h2, h3⟩ | ⟨k, h1, h2, h3⟩
      · rw [hf] at h1; cases h1
      · exact ⟨k, h2, h3⟩
    clear S hf
    by_cases ht : t = 0
    · subst ht
      go_enter Tryz.func119, Tryz.ntmps119
      go_wp2_with (go_at_call 138; refine S2.mono ?_; rintro e w2 ⟨k, rfl, g2⟩)
      go_ret
      exact ⟨by simp, g2⟩
    · have ht0 : (t == 0) = false := by simp [ht]
      have Ht := Lib.hid ht
      clear ht
      go_enter Tryz.func119, Tryz.ntmps119
      go_wp2_with (go_at_call 138; refine S2.mono ?_; rintro e w2 ⟨k, rfl, g2⟩)
      go_ret
      exact ⟨by have := Ht.out; simp [this], g2⟩
set_option maxHeartbeats 1000000 in
theorem nowhere_any (bh : Nat) (H : Hp) (s : HSl) (t : Int) (w : World) (Wh : Whole w bh 26 (hcs H s)) (h : RdO w s.A s.n H.obs) (hn : s.n ≤ 1000) (hr : H.obs.Pairwise (fun a b => a.hd < b.hd)) :
    Calls Tryz.prog 118 #[.int .i64 t, .pointer (some ⟨bh, 0, none⟩)] w (Says w (.bool (!mayL H.obs t))) := by
  obtain ⟨A, n, c, F, m, d⟩ := s
  have S := mayLink_any H.obs t A n c w h hn hr
  have c1 := Wh.cell 1
  simp only [hcs, List.getElem?_cons_succ, List.getElem?_cons_zero] at c1
  generalize mayL H.obs t = q at S ⊢
  clear Wh h hr
  go_enter Tryz.func118, Tryz.ntmps118
  go_wp2_with (go_at_call 119; refine S.mono ?_; rintro e w2 ⟨rfl, g2⟩)
  go_ret
  exact ⟨rfl, g2⟩
/-- The first ones lead somewhere. -/
def LeadRel (w : World) (H : Hp) (l : List Int) (i : Value) (wr : World) : Prop := ∃ k : Nat, k ≤ l.length ∧ i = .int .i64 (k : Int) ∧ (∀ j t, j < k → l[j]? = some t → mayL H.obs t = true) ∧ Grew w wr
set_option maxHeartbeats 1000000 in
theorem indexLead_any (bh : Nat) (H : Hp) (s : HSl) (B : Option Addr) (q qc : Nat) (l : List Int) (w : World) (Wh : Whole w bh 26 (hcs H s)) (h : RdO w s.A s.n H.obs) (hn : s.n ≤ 1000) (hr : H.obs.Pairwise (fun a b => a.hd < b.hd)) (hl : RdI w B q l) (hq : q ≤ 10000) :
    Calls Tryz.prog 148 #[.slice B q qc, .func (.func 118) #[] #[.pointer (some ⟨bh, 0, none⟩)]] w
      fun e w' => (∃ k : Nat, (∃ t ∈ l, mayL H.obs t = false) ∧ e = .returned (.int .i64 (k : Int)) ∧ Grew w w') ∨ ((∀ t ∈ l, mayL H.obs t = true) ∧ e = .returned (.int .i64 (-1)) ∧ Grew w w') := by
  have S := Lib.hid fun (W : World) (gr : Grew w W) (t : Int) => nowhere_any bh H s t W (Wh.below gr.below) (h.below gr.below) hn hr
  have hlen := hl.len
  have HL := Lib.hid hlen
  have HR := Lib.hid hl
  clear Wh h hr hl hlen
  go_enter Tryz.func148, Tryz.ntmps148
  go_wp2_with fail
  go_loopw [8] (LeadRel w H l) (fun i _ => q - (intOf i).toNat)
  case atStart => exact ⟨0, Nat.zero_le _, rfl, fun j t hj => absurd hj (Nat.not_lt_zero _), Grew.refl _⟩
  case round =>
    obtain ⟨k, hk, rfl, hno, gr⟩ := hrel
    have Hno := Lib.hid hno
    have hkq : k ≤ q := by have := HL.out; omega
    clear hno hk
    by_cases hlt : k < q
    · obtain ⟨b, off, t, rfl, hb, ht, hc⟩ := HR.out.cell hlt
      have z0 := (gr.below.cell (p := ⟨b, off + k, none⟩) hb).trans hc
      have hki : (k : Int) < (q : Int) := by omega
      have Ht := Lib.hid ht
      have S1 := S.out wr gr t
      clear ht hc
      cases hm : mayL H.obs t with
      | true =>
        rw [hm] at S1
        have Hm := Lib.hid hm
        clear hm
        go_wp2_with (go_at_call 118; refine S1.mono ?_; rintro e w2 ⟨rfl, g2⟩)
        go_roundw
        case rel => exact ⟨k + 1, by have := HL.out; omega, by go_num, fun j y hj hy => by
          rcases Nat.lt_or_ge j k with e | e
          · exact Hno.out j y e hy
          · obtain rfl : j = k := by omega
            rw [Ht.out] at hy; injection hy with hy; rw [← hy]; exact Hm.out, gr.trans g2⟩
        case measure => simp [intOf]; omega
      | false =>
        rw [hm] at S1
        have Hm := Lib.hid hm
        clear hm
        go_wp2_with (go_at_call 118; refine S1.mono ?_; rintro e w2 ⟨rfl, g2⟩)
        go_ret
        exact .inl ⟨k, ⟨t, List.mem_of_getElem? Ht.out, Hm.out⟩, rfl, gr.trans g2⟩
    · obtain rfl : k = q := by omega
      have Hall := Lib.hid (show ∀ t ∈ l, mayL H.obs t = true from fun t ht => by
        obtain ⟨j, hj, e⟩ := List.getElem_of_mem ht
        exact Hno.out j t (by have := HL.out; omega) (by rw [List.getElem?_eq_getElem hj, e]))
      go_wp2_with fail
      go_ret
      exact .inr ⟨Hall.out, rfl, gr⟩
set_option maxHeartbeats 1000000 in
theorem containsLead_any (bh : Nat) (H : Hp) (s : HSl) (B : Option Addr) (q qc : Nat) (l : List Int) (w : World) (Wh : Whole w bh 26 (hcs H s)) (h : RdO w s.A s.n H.obs) (hn : s.n ≤ 1000) (hr : H.obs.Pairwise (fun a b => a.hd < b.hd)) (hl : RdI w B q l) (hq : q ≤ 10000) :
    Calls Tryz.prog 120 #[.slice B q qc, .func (.func 118) #[] #[.pointer (some ⟨bh, 0, none⟩)]] w
      (Says w (.bool (!decide (∀ t ∈ l, mayL H.obs t = true)))) := by
  have S := indexLead_any bh H s B q qc l w Wh h hn hr hl hq
  clear Wh h hr hl
  by_cases hd : ∀ t ∈ l, mayL H.obs t = true
  · rw [decide_eq_true hd]
    have S2 := S.mono fun e w' (h : _ ∨ _) => (h.elim (fun ⟨k, ⟨t, ht, hm⟩, _⟩ => by rw [hd t ht] at hm; cases hm) (fun h => h.2) : e = .returned (.int .i64 (-1)) ∧ Grew w w')
    clear S hd
    go_enter Tryz.func120, Tryz.ntmps120
    go_wp2_with (go_at_call 148; refine S2.mono ?_; rintro e w2 ⟨rfl, g2⟩)
    go_ret
    exact ⟨rfl, g2⟩
  · rw [decide_eq_false hd]
    have S2 := S.mono fun e w' (h : _ ∨ _) => (h.elim (fun ⟨k, _, h⟩ => ⟨k, h⟩) (fun h => absurd h.1 hd) : ∃ k : Nat, e = .returned (.int .i64 (k : Int)) ∧ Grew w w')
    clear S hd
    go_enter Tryz.func120, Tryz.ntmps120
    go_wp2_with (go_at_call 148; refine S2.mono ?_; rintro e w2 ⟨k, rfl, g2⟩)
    go_ret
    exact ⟨by first | rfl | simp, g2⟩
end Go.Proofs.YtlnmmklpccppmaaGreatDoor
namespace Go.Proofs.YtlnmmklpccppmaaGreatDoor
open Go.RowKit
set_option maxHeartbeats 1000000 in
theorem need_any (a b : Int) (w : World) : Calls Tryz.prog 129 #[.int .i64 a, .int .i64 b] w fun e w' => e = .returned (.int .i64 (needI a b)) ∧ w = w' := by
  by_cases h : 0 ≤ needI a b
  · obtain ⟨h1, h2, h3, h4⟩ := needI_in h
    have hN := (needI_bd a b).2
    have hlt := Lib.hid (fun o h0 ho => needI_lt (w := a) (l := b) (o := o) h h0 ho)
    generalize needI a b = N at h hN hlt ⊢
    go_enter Tryz.func129, Tryz.ntmps129
    go_wp2
    go_loop [5] (fun i => ∃ o : Int, 0 ≤ o ∧ o ≤ N ∧ i = .int .i64 o) (fun i => 7 - (intOf i).toNat)
    case atStart => exact ⟨0, Int.le_refl _, h, rfl⟩
    case round =>
      obtain ⟨o, h0, ho, rfl⟩ := hrel
      have S := fun W => (by have := words_any o W; rw [wordsI_in h0 (by omega)] at this; exact this : Calls Tryz.prog 117 #[.int .i64 o] W fun e w' => e = .returned (.int .i64 (sz o)) ∧ W = w')
      have hl := hlt.out o h0 ho
      have hz := sz_le256 (o := o) h0 (by omega)
      have hz0 := sz_pos o
      obtain ⟨z, hze⟩ : ∃ z, z = sz o := ⟨_, rfl⟩
      rw [← hze] at S hl hz hz0
      clear hze
      by_cases hon : o < N
      · have hc := hl.2 hon
        clear hl
        go_wp2_with (go_at_call 117; refine (S _).mono ?_; rintro e w1 ⟨rfl, rfl⟩)
        go_round
        case rel => exact ⟨o + 1, by omega, by omega, by go_num⟩
        case measure => simp [intOf]; omega
      · obtain rfl : o = N := by omega
        have hc : ¬ z < 1 + a + b := fun q => hon (hl.1 q)
        clear hl
        go_wp2_with (go_at_call 117; refine (S _).mono ?_; rintro e w1 ⟨rfl, rfl⟩)
        go_ret
        exact ⟨rfl, rfl⟩
  · have hn : needI a b = -1 := by have := (needI_bd a b).1; omega
    rw [hn]
    have hout : a < 0 ∨ 32 < a ∨ b < 0 ∨ 16 < b := by
      apply Classical.byContradiction
      intro q
      have : 0 ≤ needI a b := by
        unfold needI
        rw [if_pos (by omega)]
        repeat (split; · omega)
        omega
      exact h this
    clear hn h
    by_cases q1 : a < 0
    · go_enter Tryz.func129, Tryz.ntmps129
      go_wp2
      go_ret
      exact ⟨rfl, rfl⟩
    by_cases q2 : 32 < a
    · go_enter Tryz.func129, Tryz.ntmps129
      go_wp2
      go_ret
      exact ⟨rfl, rfl⟩
    by_cases q3 : b < 0
    · go_enter Tryz.func129, Tryz.ntmps129
      go_wp2
      go_ret
      exact ⟨rfl, rfl⟩
    have q4 : 16 < b := by omega
    go_enter Tryz.func129, Tryz.ntmps129
    go_wp2
    go_ret
    exact ⟨rfl, rfl⟩
theorem tmod_zero {a : Int} {o : Int} : a.tmod (sz o) = 0 ↔ a % sz o = 0 := ⟨fun h => Int.emod_eq_zero_of_dvd (Int.dvd_of_tmod_eq_zero h), fun h => Int.tmod_eq_zero_of_dvd (Int.dvd_of_emod_eq_zero h)⟩
set_option maxHeartbeats 2000000 in
theorem blockFits_any (x : Ob) (A B : Option Addr) (n c m d : Nat) (w : World) (hw : x.ws.length = n) (hl : x.ls.length = m) :
    Calls Tryz.prog 112 #[.agg #[.int .i64 x.hd, .int .i64 x.bl.1, .int .i64 x.bl.2, .slice A n c, .slice B m d]] w (Says w (.bool (decide (Shp x)))) := by
  have hb := needI_bd (n : Int) (m : Int)
  have S := fun W => need_any (n : Int) (m : Int) W
  have g1 := (Grew.refl w).alloc (.cells #[.int .i64 x.hd, .int .i64 x.bl.1, .int .i64 x.bl.2, .slice A n c, .slice B m d] 68)
  have K1 := (Whole.new w #[.int .i64 x.hd, .int .i64 x.bl.1, .int .i64 x.bl.2, .slice A n c, .slice B m d] 68)
  have hS : Shp x ↔ 0 ≤ needI n m ∧ x.bl.2 = needI n m ∧ x.bl.1 % sz (needI n m) = 0 := by
    unfold Shp
    rw [hw, hl]
    exact ⟨fun ⟨a, b, c⟩ => ⟨a, b, by rw [← b]; exact c⟩, fun ⟨a, b, c⟩ => ⟨a, b, by rw [b]; exact c⟩⟩
  obtain ⟨v, hv⟩ : ∃ v, v = decide (Shp x) := ⟨_, rfl⟩
  rw [← hv]
  have HV := Lib.hid hv
  have HS := Lib.hid hS
  clear hS hw hl hv
  obtain ⟨b1, hb1⟩ : ∃ b1, b1 = x.bl.1 := ⟨_, rfl⟩
  obtain ⟨b2, hb2⟩ : ∃ b2, b2 = x.bl.2 := ⟨_, rfl⟩
  obtain ⟨hd, hhd⟩ : ∃ hd, hd = x.hd := ⟨_, rfl⟩
  rw [← hb1, ← hb2, ← hhd] at g1 K1 ⊢
  have HS2 := Lib.hid (show v = decide (0 ≤ needI n m ∧ b2 = needI n m ∧ b1 % sz (needI n m) = 0) by rw [HV.out, hb1, hb2]; exact decide_eq_decide.2 HS.out)
  clear hb1 hb2 hhd HV HS
  generalize needI n m = N at S hb HS2 ⊢
  have hG := Lib.hid g1
  obtain ⟨W, hW⟩ : ∃ W, W = w.alloc (.cells #[.int .i64 hd, .int .i64 b1, .int .i64 b2, .slice A n c, .slice B m d] 68) := ⟨_, rfl⟩
  rw [← hW] at K1 hG
  have c1 := K1.cell 1
  have c2 := K1.cell 2
  have c3 := K1.cell 3
  have c4 := K1.cell 4
  simp only [List.getElem?_cons_succ, List.getElem?_cons_zero] at c1 c2 c3 c4
  have mixed := mixedP
  go_enter Tryz.func112, Tryz.ntmps112
  go_upto_region 2 with (go_at_call 129; refine (S _).mono ?_; rintro e w1 ⟨rfl, rfl⟩)
  rw [← hW]
  have z1 := cell_grown (a := ⟨w.heap.size, 1, none⟩) K1.lt c1
  have z2 := cell_grown (a := ⟨w.heap.size, 2, none⟩) K1.lt c2
  clear c1 c2 c3 c4 hW K1 S g1
  by_cases h0 : 0 ≤ N
  · have d0 : decide (0 ≤ N) = true := decide_eq_true h0
    have W1 := fun W => words_any N W
    rw [wordsI_in h0 (by omega)] at W1
    have hz := sz_pos N
    have hz2 := sz_le256 h0 (by omega)
    have Ht := Lib.hid (tmod_zero (a := b1) (o := N))
    generalize sz N = z at W1 hz hz2 Ht HS2 ⊢
    by_cases h1 : b2 = N
    · subst h1
      by_cases h2 : b1.tmod z = 0
      · have e2 : (b1.tmod z == 0) = true := by simp [h2]
        have e3 : decide (b1.tmod z = 0) = true := by simp [h2]
        have Hd := Lib.hid (show v = true from HS2.out.trans <| decide_eq_true ⟨h0, rfl, Ht.out.1 h2⟩)
        clear h2
        refine wp_region_quiet_grown mixed (by kernel_rfl) ?_
        repeat (go_big_quiet_step ((go_at_call 117; exact calls_grown_same (W1 _))))
        refine wpQuiet_nil ?_
        rintro _ ⟨⟨nq, osq⟩, rfl⟩
        go_wp2_with fail
        go_ret
        exact ⟨by rw [Hd.out]; first | rfl | (simp [*]; done), hG.out.grow nq osq⟩
      · have e2 : (b1.tmod z == 0) = false := by simp [h2]
        have e3 : decide (b1.tmod z = 0) = false := by simp [h2]
        have Hd := Lib.hid (show v = false from HS2.out.trans <| decide_eq_false fun q => h2 (Ht.out.2 q.2.2))
        clear h2
        refine wp_region_quiet_grown mixed (by kernel_rfl) ?_
        repeat (go_big_quiet_step ((go_at_call 117; exact calls_grown_same (W1 _))))
        refine wpQuiet_nil ?_
        rintro _ ⟨⟨nq, osq⟩, rfl⟩
        go_wp2_with fail
        go_ret
        exact ⟨by rw [Hd.out]; first | rfl | (simp [*]; done), hG.out.grow nq osq⟩
    · have e1 : (b2 == N) = false := by simp [h1]
      have e2 : decide (b2 = N) = false := by simp [h1]
      have Hd := Lib.hid (show v = false from HS2.out.trans <| decide_eq_false fun q => h1 q.2.1)
      clear h1
      refine wp_region_quiet_grown mixed (by kernel_rfl) ?_
      repeat (go_big_quiet_step ((go_at_call 117; exact calls_grown_same (W1 _))))
      refine wpQuiet_nil ?_
      rintro _ ⟨⟨nq, osq⟩, rfl⟩
      go_wp2_with fail
      go_ret
      exact ⟨by rw [Hd.out]; first | rfl | (simp [*]; done), hG.out.grow nq osq⟩
  · have d0 : decide (0 ≤ N) = false := decide_eq_false h0
    have Hd := Lib.hid (show v = false from HS2.out.trans <| decide_eq_false fun q => h0 q.1)
    refine wp_region_quiet_grown mixed (by kernel_rfl) ?_
    repeat (go_big_quiet_step (fail))
    refine wpQuiet_nil ?_
    rintro _ ⟨⟨nq, osq⟩, rfl⟩
    go_wp2_with fail
    go_ret
    exact ⟨by rw [Hd.out]; first | rfl | (simp [*]; done), hG.out.grow nq osq⟩
end Go.Proofs.YtlnmmklpccppmaaGreatDoor
