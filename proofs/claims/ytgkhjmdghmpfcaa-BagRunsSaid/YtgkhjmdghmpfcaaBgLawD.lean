/-
  BagTakes: the walk of the law.
-/
import Derived.Test.YtgkhjmdghmpfcaaBgLawC
namespace Go.Proofs.Ytgkhjmdghmpfcaa
open Go.RowKit

theorem real_split (l : List Ms) (k : Nat) : (real l).drop (real (l.take k)).length = real (l.drop k) := by
  have h : real l = real (l.take k) ++ real (l.drop k) := by
    unfold real
    rw [← List.filter_append, List.take_append_drop]
  rw [h, List.drop_left]
theorem names_drop (l : List (Ms × Value)) (k : Nat) : names (l.drop k) = (names l).drop k := by simp [names, List.map_drop]
theorem drop_step {α : Type} {l : List α} {k : Nat} {x : α} (h : l[k]? = some x) : l.drop k = x :: l.drop (k + 1) := by
  obtain ⟨hk, rfl⟩ := List.getElem?_eq_some_iff.1 h
  exact List.drop_eq_getElem_cons hk
def CntRel (W : World) (ms : List (Ms × Value)) (n i : Value) (wr : World) : Prop := ∃ k : Nat, k ≤ ms.length ∧ i = .int .i64 (k : Int) ∧ n = .int .i64 (((real ((names ms).take k)).length : Nat) : Int) ∧ wr = W
def TkRel (w : World) (p room g0 : Nat) (ms : List (Ms × Value)) (gone i : Value) (wr : World) : Prop :=
  ∃ (k r g : Nat) (v : Value) (lb : List (Ms × Value)), k ≤ ms.length ∧ i = .int .i64 (k : Int) ∧ gone = .int .i64 (g : Int) ∧ r = (real ((names ms).take k)).length ∧ g = g0 - r ∧ BagAt wr p w.heap.size room v lb ∧ names lb = (real (names ms)).drop (max r g0) ∧ Below w.heap.size w wr
set_option maxRecDepth 20000 in
set_option maxHeartbeats 4000000 in
theorem bagTakes_walk (most : Int) (A : Option Addr) (n c : Nat) (w : World) (hm : IsMs w A n) : Calls Try.prog 5 #[.int .i64 most, .slice A n c] w (Holds w) := by
  obtain ⟨ms, hr⟩ := hm
  have hrs := bop_slice w ⟨0, 0, A, n, c, ms⟩ hr
  have HL := large_any (c := 1) hrs
  have b0 : Below w.heap.size w (w.alloc (.cells (bcs ⟨0, 0, A, n, c, ms⟩).toArray 33)) := (Below.refl _ _).alloc (Nat.le_refl _) _
  have HB0 := Lib.hid b0
  have HR := Lib.hid hr
  clear hrs b0 hr
  unfold bcs at *
  simp only at *
  go_enter Try.func5, Try.ntmps5
  by_cases hmo : most < 1 ∨ 200 < most
  · have HMo := Lib.hid hmo
    by_cases h1 : most < 1
    · clear hmo
      go_wp2_with (go_at_call 8; refine HL.mono ?_; rintro x W1 ⟨q, rfl, hq, b1⟩; have HF := Lib.hid (HB0.out.trans (b1.mono HB0.out.size)); clear hq b1; cases q)
      all_goals
        go_ret
        exact ⟨rfl, HF.out⟩
    · have h2 : 200 < most := by omega
      clear hmo
      go_wp2_with (go_at_call 8; refine HL.mono ?_; rintro x W1 ⟨q, rfl, hq, b1⟩; have HF := Lib.hid (HB0.out.trans (b1.mono HB0.out.size)); clear hq b1; cases q)
      all_goals
        go_ret
        exact ⟨rfl, HF.out⟩
  · have h1 : ¬ (most < 1) := by omega
    have h2 : ¬ (200 < most) := by omega
    obtain ⟨room, rfl⟩ : ∃ room : Nat, most = (room : Int) := ⟨most.toNat, by omega⟩
    have hlo : 1 ≤ room := by omega
    have hhi : room ≤ 200 := by omega
    clear hmo
    go_upto_region 3 with (go_at_call 8; refine HL.mono ?_; rintro x W1 ⟨q, rfl, hq, b1⟩; have HF := Lib.hid (HB0.out.trans (b1.mono HB0.out.size)); have HQ := Lib.hid hq; clear hq b1; cases q)
    · have hS : SmallB [⟨0, 0, A, n, c, ms⟩] := by first | exact HQ.out rfl | exact HQ.out trivial
      have hsm : ∀ q ∈ ms, SmallM q.1 := (hS.2 _ (List.mem_singleton.2 rfl)).2
      have hn3 : n ≤ 300 := (hS.2 _ (List.mem_singleton.2 rfl)).1
      have Hsm := Lib.hid hsm
      clear HL HQ hS
      have hN := new_yes (base := w.heap.size) room W1 hlo hhi HF.out.size
      go_upto_region 6 with (first | (go_at_call 9; refine hN.mono ?_; rintro x W2 ⟨rfl, hb2, b2⟩; have HB2 := Lib.hid (HF.out.trans (b2.mono HF.out.size)); have Hb2 := Lib.hid hb2; clear b2 hb2) | (go_at_call 20; refine (put_any Hb2.out (HR.out.below HB2.out) (by omega) Hsm.out).mono ?_; rintro x W3 ⟨rfl, hp⟩; have HP := Lib.hid hp; clear hp))
      obtain ⟨p, hp⟩ : ∃ p, p = W1.heap.size := ⟨_, rfl⟩
      obtain ⟨os, v3, hos, hb3, hO3, -, -⟩ := HP.out
      rw [List.nil_append] at hb3
      rw [← hp] at hb3 hO3 ⊢
      have HB3 := Lib.hid (HB2.out.trans (hO3.below (B := w.heap.size) (by rw [hp]; exact Hb2.out.ge) HB2.out.size))
      have HR3 := Lib.hid (HR.out.below HB3.out)
      obtain ⟨g0, hg0⟩ : ∃ g0, g0 = os.length - room := ⟨_, rfl⟩
      have Hnames := Lib.hid (show names (lastN room os) = (real (names ms)).drop g0 by unfold lastN; rw [names_drop, hos, hg0])
      have hNl : (real (names ms)).length = os.length := by rw [← hos, names_len]
      have hNn : (real (names ms)).length ≤ n := by have := real_len (names ms); rw [names_len, HR.out.len] at this; exact this
      have Hb3 := Lib.hid hb3
      have HNN := Lib.hid HR.out.len
      clear HP hN Hb2 hos hO3 hb3 hsm hp HF HB0 HB2
      have Hg0 := Lib.hid hg0
      have HNl := Lib.hid hNl
      have HNn := Lib.hid hNn
      clear hg0 hNl hNn
      go_wp2
      go_loopw [7, 8] (CntRel W3 ms) (fun _ i _ => n - (Go.RowKit.intOf i).toNat)
      case atStart => exact ⟨0, Nat.zero_le _, rfl, by simp [real], rfl⟩
      case round =>
        obtain ⟨k, hk, rfl, rfl, rfl⟩ := hrel
        by_cases hlt : k < n
        · obtain ⟨b, off, ⟨m, e⟩, rfl, hbl, hx, hm, hc⟩ := HR3.out.get hlt
          have z0 : wr.cell? ⟨b, off + k * 23, none⟩ = some (.int .i64 m.k) := by have := hc 0 _ rfl; rwa [Nat.add_zero] at this
          have Hx := Lib.hid (names_get hx)
          have hki : (k : Int) < (n : Int) := by omega
          obtain ⟨r, hr⟩ : ∃ r, r = (real ((names ms).take k)).length := ⟨_, rfl⟩
          have hrn : r ≤ 300 := by
            have h1 := real_len ((names ms).take k)
            rw [← hr, List.length_take] at h1
            omega
          rw [← hr]
          have Hr := Lib.hid hr
          clear hx hm hc hbl hr hk
          by_cases hm0 : m.k = 0
          · have hne : (m.k != 0) = false := by simp [hm0]
            have hne2 : decide (m.k = 0) = true := by simp [hm0]
            have Hn := Lib.hid (show (real ((names ms).take (k + 1))).length = r by rw [take_snoc Hx.out, real_snoc_no hm0, Hr.out])
            clear hm0
            go_wp2
            go_roundw
            case rel => exact ⟨k + 1, by have := HNN.out; omega, by go_num, by rw [Hn.out], rfl⟩
            case measure => simp [Go.RowKit.intOf]; omega
          · have hne : (m.k != 0) = true := by simp [hm0]
            have hne2 : decide (m.k = 0) = false := by simp [hm0]
            have Hn := Lib.hid (show (real ((names ms).take (k + 1))).length = r + 1 by rw [take_snoc Hx.out, real_snoc_yes hm0, List.length_append, List.length_singleton, Hr.out])
            clear hm0
            go_wp2
            go_roundw
            case rel => exact ⟨k + 1, by have := HNN.out; omega, by go_num, by rw [Hn.out]; go_num, rfl⟩
            case measure => simp [Go.RowKit.intOf]; omega
        · obtain rfl : n = k := by have := HNN.out; omega
          have hNk : (real ((names ms).take n)).length = os.length := by rw [List.take_of_length_le (by rw [names_len]; have := HNN.out; omega)]; exact HNl.out
          rw [hNk]
          obtain ⟨N, hN⟩ : ∃ N, N = os.length := ⟨_, rfl⟩
          rw [← hN]
          have fmx : max 0 ((N : Int) - (room : Int)) = (g0 : Int) := by have := Hg0.out; omega
          have hNs : N ≤ 300 := by rw [hN, ← HNl.out]; have := HNn.out; omega
          have fw : IntKind.i64.wrap ((N : Int) - (room : Int)) = (N : Int) - (room : Int) := by rw [IntKind.wrap_i64]; omega
          have HNo := Lib.hid hN
          clear hNk hN hk
          go_wp2
          go_loopw [9, 10] (TkRel w p room g0 ms) (fun _ i _ => n - (Go.RowKit.intOf i).toNat)
          case atStart => exact ⟨0, 0, g0, v3, lastN room os, Nat.zero_le _, rfl, rfl, by simp [real], rfl, Hb3.out, by rw [Hnames.out, Nat.zero_max], HB3.out⟩
          case round =>
            obtain ⟨k, r, g, v, lb, hk, rfl, rfl, hr, hg, hbag, hnm, hb⟩ := hrel
            have Hr := Lib.hid hr
            have Hg := Lib.hid hg
            have Hbag := Lib.hid hbag
            have Hnm := Lib.hid hnm
            have HB := Lib.hid hb
            clear hr hg hbag hnm hb fmx fw
            by_cases hlt : k < n
            · have hW := HB.out
              obtain ⟨b, off, ⟨m, e⟩, rfl, hbl, hx, hm, hc⟩ := (HR.out.below HB.out).get hlt
              have z0 : wr.cell? ⟨b, off + k * 23, none⟩ = some (.int .i64 m.k) := by have := hc 0 _ rfl; rwa [Nat.add_zero] at this
              have Hx := Lib.hid (names_get hx)
              have Hxm := Lib.hid hx
              have Hbl := Lib.hid hbl
              have HM := Lib.hid hm
              have HC := Lib.hid hc
              have hki : (k : Int) < (n : Int) := by omega
              clear hx hm hc hbl hk hW
              by_cases hm0 : m.k = 0
              · have hne : (m.k == 0) = true := by simp [hm0]
                have hne2 : decide (m.k = 0) = true := by simp [hm0]
                have Hn := Lib.hid (show r = (real ((names ms).take (k + 1))).length by rw [take_snoc Hx.out, real_snoc_no hm0]; exact Hr.out)
                clear hm0
                go_wp2
                go_roundw
                case rel => exact ⟨k + 1, r, g, v, lb, by have := HNN.out; omega, by go_num, rfl, Hn.out, Hg.out, Hbag.out, Hnm.out, HB.out⟩
                case measure => simp [Go.RowKit.intOf]; omega
              · have hne : (m.k == 0) = false := by simp [hm0]
                have hne2 : decide (m.k = 0) = false := by simp [hm0]
                have Hn := Lib.hid (show r + 1 = (real ((names ms).take (k + 1))).length by rw [take_snoc Hx.out, real_snoc_yes hm0, List.length_append, List.length_singleton, Hr.out])
                have HM0 := Lib.hid hm0
                clear hm0
                by_cases hgp : 0 < g
                · obtain ⟨g', rfl⟩ : ∃ g', g = g' + 1 := ⟨g - 1, by omega⟩
                  have hgi : (0 : Int) < ((g' + 1 : Nat) : Int) := by omega
                  have hgs : ((g' + 1 : Nat) : Int) - 1 = (g' : Int) := by omega
                  have hgm : max (r + 1) g0 = max r g0 := by have := Hg.out; omega
                  have Hgm := Lib.hid hgm
                  have Hg' := Lib.hid (show g' = g0 - (r + 1) by have := Hg.out; omega)
                  have hg3 : g' ≤ 300 := by have := Hg.out; have := Hg0.out; have := HNl.out; have := HNn.out; omega
                  clear hgm hgp
                  go_wp2
                  go_roundw
                  case rel => exact ⟨k + 1, r + 1, g', v, lb, by have := HNN.out; omega, by go_num, by first | rfl | go_num, Hn.out, Hg'.out, Hbag.out, by rw [Hgm.out]; exact Hnm.out, HB.out⟩
                  case measure => simp [Go.RowKit.intOf]; omega
                · obtain rfl : g = 0 := by omega
                  have hr0 : max r g0 = r := by have := Hg.out; omega
                  have hsp := real_split (names ms) k
                  rw [← Hr.out, drop_step Hx.out] at hsp
                  have hnm2 : names lb = m :: real ((names ms).drop (k + 1)) := by
                    rw [Hnm.out, hr0, hsp]
                    simp [real, HM0.out]
                  obtain ⟨e2, lb', rfl, hlb'⟩ := names_cons hnm2
                  have Hlb := Lib.hid (show names lb' = (real (names ms)).drop (max (r + 1) g0) by
                    rw [hlb', show max (r + 1) g0 = r + 1 by omega, Hn.out, real_split])
                  have hT := take_yes Hbag.out (i := 0) (q := (m, e2)) rfl
                  have he2 : e2.oneCell' = true := (Hbag.out.ents (m, e2) (by simp)).msg.one
                  have hes : m.es.length ≤ 1000000 := by have := (Hsm.out (m, e) (List.mem_of_getElem? Hxm.out)).1; simp only at this; omega
                  have Hes := Lib.hid hes
                  have hgi : ¬ ((0 : Int) < ((0 : Nat) : Int)) := by omega
                  have hT' : Calls Try.prog 21 #[.pointer (some ⟨p, 0, none⟩), .int .i64 0] wr fun x w' => x = .returned (.tuple #[mval m e2, .int .i64 0]) ∧ DropPost wr p w.heap.size room v lb' w' := hT
                  clear hgp hr0 hsp hnm2 hlb' hT hes
                  go_upto_region 20 with (first | (go_at_call 21; refine hT'.mono ?_; rintro x W5 ⟨rfl, v5, hb5, hO5, hv5⟩; obtain ⟨W5', a5, n5, hst5⟩ := alloc_new W5; obtain ⟨W6, st5, n6⟩ := hst5 m e2 he2; have HN6 := Lib.hid n6; have HO5 := Lib.hid hO5; have Hb5 := Lib.hid hb5; clear n5 hst5 n6 hO5 hb5 hv5) | (refine wpList_alloc_run a5 rfl rfl ?_) | (refine wpList_store_run st5 rfl _ _ rfl rfl rfl ?_))
                  clear hT' a5 st5 he2 z0
                  have HB5 := Lib.hid (HB.out.trans (HO5.out.below (B := w.heap.size) Hbag.out.ge HB.out.size))
                  have HB6 := Lib.hid (HB5.out.trans (HN6.out.below.mono HB5.out.size))
                  obtain ⟨b', off', q', hA', -, hx', hm', hc'⟩ := (HR.out.below HB6.out).get hlt
                  injection hA' with hA'
                  injection hA' with hA1 hA2
                  subst hA1 hA2
                  obtain rfl : q' = (m, e) := by have := Hxm.out; rw [hx'] at this; injection this
                  have HY := Lib.hid (fun (W : World) (h : Below W6.heap.size W6 W) => MsgR.below hm' h)
                  have oX : OwnE W6 w.heap.size e2 m.es := ((Hbag.out.ents (m, e2) (by simp)).oth HO5.out fun k hk => Hbag.out.ep (q := (m, e2)) (by simp) hk).below HN6.out.below
                  have HX := Lib.hid (fun (W : World) (h : Below W6.heap.size W6 W) => MsgR.below (OwnE.msg (p := (m, e2)) oX) h)
                  have LX := Lib.hid (fun (W : World) (h : Below W6.heap.size W6 W) => load_box (HN6.out.whole.below h))
                  have hbl6 : b < W6.heap.size := Nat.lt_of_lt_of_le Hbl.out (Nat.le_trans HO5.out.size HN6.out.below.size)
                  have LY := Lib.hid (fun (W : World) (h : Below W6.heap.size W6 W) => load_ms (range_grown hc' (h.block b hbl6)))
                  have e1s : ∀ args w, (callFunc 17 args).run Try.prog w = .ok (.enter 17 args) w := enters_of Try.func17 (by kernel_rfl) rfl
                  have mixed : Try.prog.follows .mixedOrders = true := by kernel_rfl
                  have hes := Hes.out
                  refine wp_region_held (S := Below W6.heap.size W6) mixed ?_
                  have SS : Below W6.heap.size W6 W6.drew := (Below.refl _ _).drew
                  clear hx' hm' hc' oX hbl6
                  refine h_take (i := 0) (d := 81) (v := .int .i64 0) rfl rfl (by rfl) (by kernel_rfl) (by kernel_rfl) (by kernel_rfl) (fun _ _ _ h => h) SS (fun W h => rfl) ?_
                  simp only [List.setIfInBounds_toArray, List.set_cons_zero, List.set_cons_succ]
                  refine h_take (i := 1) (d := 82) (v := .bool false) rfl rfl (by rfl) (by kernel_rfl) (by kernel_rfl) (by kernel_rfl) (fun _ _ _ h => h) SS (fun W h => by simp only [execOp]; go_simp) ?_
                  simp only [List.setIfInBounds_toArray, List.set_cons_zero, List.set_cons_succ]
                  refine h_take (i := 2) (d := 83) (v := .bool false) rfl rfl (by rfl) (by kernel_rfl) (by kernel_rfl) (by kernel_rfl) (fun _ _ _ h => h) SS (fun W h => rfl) ?_
                  simp only [List.setIfInBounds_toArray, List.set_cons_zero, List.set_cons_succ]
                  refine h_take (i := 3) (d := 84) (v := mval m e2) rfl rfl (by rfl) (by kernel_rfl) (by kernel_rfl) (by kernel_rfl) (fun _ _ _ h => h) SS (fun W h => exec_load (x := .pointer (some ⟨W5.heap.size, 0, none⟩)) rfl (LX.out W h)) ?_
                  simp only [List.setIfInBounds_toArray, List.set_cons_zero, List.set_cons_succ]
                  refine h_take (i := 4) (d := 85) (v := .slice (some ⟨b, off, none⟩) n c) rfl rfl (by rfl) (by kernel_rfl) (by kernel_rfl) (by kernel_rfl) (fun _ _ _ h => h) SS (fun W h => rfl) ?_
                  simp only [List.setIfInBounds_toArray, List.set_cons_zero, List.set_cons_succ]
                  refine h_take (i := 5) (d := 86) (v := .int .i64 (k : Int)) rfl rfl (by rfl) (by kernel_rfl) (by kernel_rfl) (by kernel_rfl) (fun _ _ _ h => h) SS (fun W h => rfl) ?_
                  simp only [List.setIfInBounds_toArray, List.set_cons_zero, List.set_cons_succ]
                  refine h_take (i := 6) (d := 87) (v := .pointer (some ⟨b, off + k * 23, none⟩)) rfl rfl (by rfl) (by kernel_rfl) (by kernel_rfl) (by kernel_rfl) (fun _ _ _ h => h) SS (fun W h => by simp only [execOp]; go_simp) ?_
                  simp only [List.setIfInBounds_toArray, List.set_cons_zero, List.set_cons_succ]
                  refine h_take (i := 7) (d := 88) (v := mval m e) rfl rfl (by rfl) (by kernel_rfl) (by kernel_rfl) (by kernel_rfl) (fun _ _ _ h => h) SS (fun W h => exec_load (x := .pointer (some ⟨b, off + k * 23, none⟩)) rfl (LY.out W h)) ?_
                  simp only [List.setIfInBounds_toArray, List.set_cons_zero, List.set_cons_succ]
                  refine h_call (i := 8) (d := 89) (vs := #[mval m e2, mval m e]) e1s rfl (by rfl) (by kernel_rfl) rfl (same_any m m e2 e _ (HX.out _ SS) (HY.out _ SS) hes) ?_
                  rintro x W7 ⟨rfl, b7⟩
                  refine ⟨_, rfl, SS.trans (b7.mono SS.size), ?_⟩
                  simp only [List.setIfInBounds_toArray, List.set_cons_zero, List.set_cons_succ]
                  replace SS : Below W6.heap.size W6 W7 := SS.trans (b7.mono SS.size)
                  refine h_take (i := 9) (d := 90) (v := .bool false) rfl rfl (by rfl) (by kernel_rfl) (by kernel_rfl) (by kernel_rfl) (fun _ _ _ h => h) SS (fun W h => by simp only [execOp]; go_simp) ?_
                  simp only [List.setIfInBounds_toArray, List.set_cons_zero, List.set_cons_succ]
                  refine h_take (i := 10) (d := 91) (v := .bool false) rfl rfl (by rfl) (by kernel_rfl) (by kernel_rfl) (by kernel_rfl) (fun _ _ _ h => h) SS (fun W h => rfl) ?_
                  simp only [List.setIfInBounds_toArray, List.set_cons_zero, List.set_cons_succ]
                  refine wpAnyH_done (by kernel_rfl) ?_ _
                  have HB7 := Lib.hid (HB6.out.trans (SS.mono HB6.out.size))
                  have Hb7 := Lib.hid ((Hb5.out.below HN6.out.below).below SS)
                  have Hg' := Lib.hid (show 0 = g0 - (r + 1) by have := Hg.out; omega)
                  clear SS b7 LX LY HX HY e1s mixed hes
                  go_wp2
                  go_roundw
                  case rel => exact ⟨k + 1, r + 1, 0, v5, lb', by have := HNN.out; omega, by go_num, rfl, Hn.out, Hg'.out, Hb7.out, Hlb.out, HB7.out⟩
                  case measure => simp [Go.RowKit.intOf]; omega
            · obtain rfl : n = k := by have := HNN.out; omega
              have hrN : r = (real (names ms)).length := by rw [Hr.out, List.take_of_length_le (by rw [names_len]; have := HNN.out; omega)]
              have hlb : lb = [] := names_nil (by rw [Hnm.out, hrN]; exact List.drop_of_length_le (Nat.le_max_left _ _))
              subst hlb
              have hAw := awake_any wr
              have hLn := Lib.hid (fun (W : World) (h : Below wr.heap.size wr W) => len_any (Hbag.out.below h))
              clear hrN hk
              go_wp2_with (first | (go_at_call 10; refine hAw.mono ?_; rintro x W5 ⟨rfl, b5⟩; have HB5 := Lib.hid b5; clear b5) | (go_at_call 12; refine (hLn.out _ HB5.out).mono ?_; rintro x W7 ⟨rfl, rfl⟩))
              go_ret
              exact ⟨by simp, HB.out.trans (HB5.out.mono HB.out.size)⟩
    · go_ret
      exact ⟨rfl, HF.out⟩
end Go.Proofs.Ytgkhjmdghmpfcaa
