/-
  The statement's call: contract of a Double that goes.
-/
import Derived.Test.YtgkhjmdghmpfcaaBgCal1
namespace Go.Proofs.Ytgkhjmdghmpfcaa
open Go.RowKit
theorem MsgR.othX {X : Nat → Prop} {w w' : World} {p : Ms × Value} (h : MsgR w p) (hO : Oth X w w') (hX : ∀ k, p.2.ownBlock = some k → ¬ X k) : MsgR w' p := by
  obtain ⟨A, c, e, r⟩ := h
  refine ⟨A, c, e, r.oth hO fun b off hA => hX b ?_⟩
  rw [e, hA]
  rfl
theorem RdM.othX {X : Nat → Prop} {w w' : World} {A : Option Addr} {n : Nat} {l : List (Ms × Value)} (h : RdM w A n l) (hO : Oth X w w') (hA : ∀ b off, A = some ⟨b, off, none⟩ → ¬ X b) (hE : ∀ q ∈ l, ∀ k, q.2.ownBlock = some k → ¬ X k) : RdM w' A n l :=
  ⟨h.len, h.rd.oth hO hA, fun q hq => (h.ents q hq).othX hO (hE q hq)⟩
/- DRAFT, not built: its walk ran past 60 s (which operation holds it was not looked at; try go_upto_region with 'fail' region by region).
set_option maxRecDepth 20000 in
set_option maxHeartbeats 2000000 in
theorem call_dbl_yes {w : World} {p base room : Nat} {v : Value} {l0 d0 : List (Ms × Value)} (hb : BagAt w p base room v l0) {A : Option Addr} {n c k : Nat} {L : Value} {m : Ms} {e0 : Value} (hd : RdM w A n d0) (hnm : names d0 = names l0) (hln : n ≤ 100000) (hk : d0[k]? = some (m, e0))
    (hA : ∀ b off, A = some ⟨b, off, none⟩ → ¬ bX p v b) (hE : ∀ q ∈ d0, ∀ k, q.2.ownBlock = some k → ¬ bX p v k) (hsm : SmallM m) (W1 : World) (hW1 : w.alloc (.cells #[.int .i64 3, .int .i64 (k : Int), L] 33) = W1) :
    Calls Try.prog 11 #[.pointer (some ⟨p, 0, none⟩), .slice A n c, .agg #[.int .i64 3, .int .i64 (k : Int), L], .int .i64 (room : Int)] w fun e w' => ∃ W2 W3 r, e = .returned (.tuple #[r, .bool true]) ∧ AddsPost W1 p base room v l0 [m] W2 ∧ Below W2.heap.size W2 W3 ∧ RPPost W3 d0 [(m, e0)] room (.returned r) w' := by
  have hb1 : Below w.heap.size w W1 := by rw [← hW1]; exact (Below.refl _ _).alloc (Nat.le_refl _) _
  have hW : Whole W1 w.heap.size 33 [.int .i64 3, .int .i64 (k : Int), L] := by rw [← hW1]; exact whole_op w 3 k L
  have hq : ∃ q, l0[k]? = some q ∧ q.1 = m := by
    have h1 := names_get hk
    rw [hnm] at h1
    unfold names at h1
    rw [List.getElem?_map] at h1
    cases h : l0[k]? with
    | none => rw [h] at h1; cases h1
    | some q => rw [h] at h1; exact ⟨q, rfl, by simpa using h1⟩
  obtain ⟨q, hq, rfl⟩ := hq
  have hkn : k < n := by have := hd.len; have := (List.getElem?_eq_some_iff.1 hk).1; omega
  have hkn' : (k : Int) < (n : Int) := by omega
  have HD := dbl_yes (hb.below hb1) hq
  have hd1 := hd.below hb1
  have hpw := hb.ptr.lt
  have hrw : ∀ k, v.ownBlock = some k → k < w.heap.size := fun k h => (World.ownsRow.lt hb.row k h).2
  have HW := Lib.hid hW
  have HB1 := Lib.hid hb1
  have HR := Lib.hid (fun (W2 : World) (ho : Oth (bX p v) W1 W2) => hd1.othX ho hA hE)
  have HK := Lib.hid hk
  have k0 := hW.cell 0
  have k1 := hW.cell 1
  have HJ := Lib.hid (fun (W2 : World) (ho : Oth (bX p v) W1 W2) => (show W2.cell? ⟨w.heap.size, 1, none⟩ = some (.int .i64 (k : Int)) from by
    have h1 := ho.block w.heap.size hW.lt (by
      rintro (h | h)
      · omega
      · have := hrw _ h; omega)
    rw [World.cell?_of_block h1]
    exact hW.cell 1))
  simp only [List.getElem?_cons_succ, List.getElem?_cons_zero] at k0 k1
  clear hd hb hb1 hW hnm hk hd1 hA hE hpw hrw hq
  go_enter Try.func11, Try.ntmps11
  go_wp2_with (first | (go_at_call 22; refine HD.mono ?_; rintro e W2 ⟨rfl, hP⟩; have hO := hP; obtain ⟨_, _, _, _, ho, _, _⟩ := hO; have hd2 := HR.out W2 ho; obtain ⟨bA, off, x, hAe, hbl, hx, hm2, hc2⟩ := hd2.get hkn; have hxe : x = (q.1, e0) := Option.some.inj (hx.symm.trans HK.out); subst hxe; have ld2 := load_ms hc2; have j1 := HJ.out W2 ho; obtain ⟨W3, sl, n3, hr3⟩ := slice_new W2 q.1 hm2; have HP := Lib.hid hP; have HB3 := Lib.hid n3.below; have HPut := rput_any (most := room) (c := c) (c2 := 1) (hd2.below n3.below) hln hr3 (by omega) (fun z hz => by rw [List.mem_singleton.1 hz]; exact hsm); subst hAe; clear hP ho hx hm2 hc2 n3 hr3 hbl) | (refine wpList_load_run ld2 rfl _ rfl rfl ?_) | (refine wpList_slice1_run sl rfl _ rfl rfl ?_) | (go_at_call 24; refine HPut.mono ?_; rintro e W5 hp5; have HP5 := Lib.hid hp5; obtain ⟨A5, N5, c5, os5, rfl, -⟩ := hp5))
  all_goals trace_state
  all_goals sorry
-/
end Go.Proofs.Ytgkhjmdghmpfcaa
