/-
  The statements' example: it holds (awake).
-/
import Derived.Test.YtoookmkfaihbpaaPdCr
import Derived.Lib.SlBytesConst
namespace Go.Proofs.Ytoookmkfaihbpaa
open Go.RowKit Go.Maps

theorem wr_ok {n : Nat} {S : Dk} {k : Nat} {l : List UInt8} (hd : S.down = false) (hl : S.left = 0) (hk : k < n) (h : l.length ≤ 64) : wrS n S (k : Int) l = putS S k l ∧ wrE n S (k : Int) l = 0 := by
  have e : ∀ T : Dk, T.left = 0 → didS T = T := fun T hT => by simp [didS, hT]
  refine ⟨?_, ?_⟩
  · rw [wrS, if_pos ⟨hd, ⟨by omega, by omega⟩, h⟩, Int.toNat_natCast, e (putS S k l) hl]
  · rw [wrE, hd]
    simp only [Bool.false_eq_true, if_false]
    rw [if_neg (by omega), if_neg (by omega)]
theorem fl_ok {S : Dk} (hd : S.down = false) (hl : S.left = 0) : flS S = { S with had := fun _ => none } ∧ flE S = 0 := by
  simp [flS, flE, hd, didS, hl]
theorem dirty_two {had : Nat → Option (List UInt8)} {ks : List Nat} (h : Dirty had ks) (h1 : (had 1).isSome = true) (h3 : (had 3).isSome = true) (ho : ∀ k, k ≠ 1 → k ≠ 3 → had k = none) : ks = [1, 3] := by
  obtain ⟨hp, hm⟩ := h
  have hin : ∀ k, k ∈ ks ↔ k = 1 ∨ k = 3 := fun k => by
    rw [hm]
    constructor
    · intro hk
      by_cases e1 : k = 1
      · exact .inl e1
      · by_cases e3 : k = 3
        · exact .inr e3
        · rw [ho k e1 e3] at hk
          cases hk
    · rintro (rfl | rfl)
      · exact h1
      · exact h3
  refine List.Perm.eq_of_pairwise (le := fun a b : Nat => a < b) (fun a b _ _ h1 h2 => by omega) hp (by simp) ?_
  exact (List.perm_ext_iff_of_nodup (hp.imp fun {a b} h => by omega) (by simp)).2 fun k => by rw [hin]; simp
/-- What the example's crash leaves. -/
theorem aw_math {ks : List Nat} (h : Dirty (putS (putS { putS newD 1 [97] with had := fun _ => none } 1 [98]) 3 [99]).had ks) :
    (crS (putS (putS { putS newD 1 [97] with had := fun _ => none } 1 [98]) 3 [99]) [false, true] ks).now 1 = full [97] ∧ (crS (putS (putS { putS newD 1 [97] with had := fun _ => none } 1 [98]) 3 [99]) [false, true] ks).now 3 = full [99] := by
  have hk : ks = [1, 3] := dirty_two h (by simp [putS, remH]) (by simp [putS, remH]) fun k h1 h3 => by simp [putS, remH, h1, h3]
  subst hk
  constructor <;> simp [crS, crN, lost, List.range_succ, putS, remH]

section
variable {W : World} {p q r n : Nat} {S : Dk}
theorem write_lit (h : DAt W p q r n S) {k : Nat} (hk : k < n) (x : UInt8) (u : Value) (hu : u = bv x) (hd : S.down = false) (hl : S.left = 0) (a : Int) (ha : a = (k : Int)) :
    Calls Try.prog 12 #[.pointer (some ⟨p, 0, none⟩), .int .i64 a, .slice (some ⟨W.heap.size, 0, none⟩) 1 1] (W.alloc (.cells #[u] 5 (1, 2))) (fun e w' => e = .returned (.int .i64 0) ∧ DAt w' p q r n (putS S k [x]) ∧ Oth (ds p q r) W w') := by
  subst ha
  obtain ⟨e1, e2⟩ := wr_ok (l := [x]) hd hl hk (by simp)
  have hr : Rd (W.alloc (.cells #[u] 5 (1, 2))) (some ⟨W.heap.size, 0, none⟩) 1 [x] := Rd.mark (l := [x]) #[u] (1, 2) (by rw [hu]; rfl)
  refine (write_any (h.alloc _) (k : Int) hr (fun _ y hy hx => ?_) e1.symm e2.symm).mono fun e w' q => ⟨q.1, q.2.1, ((Oth.refl _ _).alloc _).trans q.2.2⟩
  injection hy with hy
  subst hy
  have := h.lt hx
  simp at this
/-- A sector that is there is read. -/
theorem read_ok (h : DAt W p q r n S) {k : Nat} (hk : k < n) (a : Int) (ha : a = (k : Int)) {x : UInt8} {y : List UInt8} (hx : S.now k = x :: y) :
    Calls Try.prog 17 #[.pointer (some ⟨p, 0, none⟩), .int .i64 a] W (fun e w' => ∃ g cap, e = .returned (.tuple #[.slice (some ⟨g, 0, none⟩) 64 cap, .int .i64 0]) ∧ W.heap.size ≤ g ∧ w'.cell? ⟨g, 0, none⟩ = some (.int .u8 (x.toNat : Int)) ∧ g < w'.heap.size ∧ Below W.heap.size W w') := by
  subst ha
  refine (read_any h (k : Int) rfl rfl).mono fun e w' q => ?_
  obtain ⟨v, rfl, ho, hb⟩ := q
  have hin : 0 ≤ (k : Int) ∧ (k : Int) < (n : Int) := ⟨by omega, by omega⟩
  rw [rdL, if_pos hin, Int.toNat_natCast] at ho
  have hl := h.len k hk
  obtain ⟨g, cap, rfl, hg, _, _⟩ := ho.form (by omega)
  rw [hl] at ho ⊢
  obtain ⟨z, hz, hc⟩ := ho.cell hl (j := 0) (by omega)
  rw [hx] at hz
  injection hz with hz
  rw [← hz] at hc
  exact ⟨g, cap, by rw [rdE, if_pos hin], hg, hc, World.block_lt_of_cell? w' _ hc, hb⟩
end
set_option maxRecDepth 20000 in
set_option maxHeartbeats 2000000 in
theorem awake_any (w : World) : Calls Try.prog 14 #[] w (Holds w) := by
  have n4 := new_any 4 w
  rw [show NewPost w 4 = fun e w' => ∃ p q r, e = .returned (.tuple #[.pointer (some ⟨p, 0, none⟩), .int .i64 0]) ∧ DAt w' p q r 4 newD ∧ (∀ k, ds p q r k → w.heap.size ≤ k) ∧ Below w.heap.size w w' from by
    funext e w'
    rw [NewPost, if_pos (by decide)]
    rfl] at n4
  have n0 : ∀ W, Calls Try.prog 9 #[.int .i64 0] W fun e w' => e = .returned (.tuple #[.pointer none, .int .i64 1]) ∧ Below W.heap.size W w' := fun W => (new_any 0 W).mono fun e w' h => by
    rw [NewPost, if_neg (by decide)] at h
    exact h
  have kc : ∀ (W : World) (u : Value) (n c : Nat), (convert 23 23 (.slice (some ⟨W.heap.size, 0, none⟩) n c)).run Try.prog (W.alloc (.cells #[u] 5)) = .ok (.slice (some ⟨W.heap.size, 0, none⟩) n c) (W.alloc (.cells #[u] 5 (1, 2))) :=
    fun W u n c => Lib.run_convert_bytes_const (P := Try.prog) W 23 5 #[u] n c Try.underlying23 Try.underlying5
  go_enter Try.func14, Try.ntmps14
  go_upto_region 5 with (first | (go_at_call 9; first | ((with_reducible refine n4.mono ?_); rintro e w1 ⟨p, q, r, rfl, hD, hge, hb⟩) | ((with_reducible refine (n0 _).mono ?_); rintro e w2 ⟨rfl, hb2⟩)))
  clear n4 n0
  have hO := Oth.of_below (hb.trans (hb2.mono hb.size)) (ds p q r)
  have hD := hD.below hb2
  have H0 := Lib.hid hO
  have HG := Lib.hid hge
  clear hb hb2 hO hge
  have c1 := write_lit hD (k := 1) (by omega) 97 (.int .u8 97) rfl rfl rfl 1 rfl
  go_upto_region 6 with (go_at_call 12; refine c1.mono ?_; rintro e w3 ⟨rfl, hD3, hO3⟩)
  have HO3 := Lib.hid (H0.out.trans hO3)
  clear c1 hD hO3 H0
  have c1 := flush_any hD3 (fl_ok rfl rfl).1.symm (fl_ok rfl rfl).2.symm
  go_upto_region 7 with (go_at_call 13; refine c1.mono ?_; rintro e w4 ⟨rfl, hD4, hO4⟩)
  have HO4 := Lib.hid (HO3.out.trans hO4)
  clear c1 hD3 hO4 HO3
  have c1 := write_lit hD4 (k := 1) (by omega) 98 (.int .u8 98) rfl rfl rfl 1 rfl
  go_upto_region 8 with (go_at_call 12; refine c1.mono ?_; rintro e w5 ⟨rfl, hD5, hO5⟩)
  have HO5 := Lib.hid (HO4.out.trans hO5)
  clear c1 hD4 hO5 HO4
  have c1 := write_lit hD5 (k := 3) (by omega) 99 (.int .u8 99) rfl rfl rfl 3 rfl
  go_upto_region 9 with (go_at_call 12; refine c1.mono ?_; rintro e w6 ⟨rfl, hD6, hO6⟩)
  have HO6 := Lib.hid (HO5.out.trans hO6)
  clear c1 hD5 hO6 HO5
  have hk := (Whole.new w6 #[.bool false, .bool true] 4).rd
  have c1 := crash_any (keep := [false, true]) (c := 2) (hD6.alloc (.cells #[.bool false, .bool true] 4)) hk (fun _ y hy hx => by
    injection hy with hy
    subst hy
    have := hD6.lt hx
    simp at this)
  go_upto_region 10 with (go_at_call 16; refine c1.mono ?_; rintro e w7 ⟨ks, hks, rfl, hD7, hO7⟩)
  have HO7 := Lib.hid ((HO6.out.alloc _).trans hO7)
  clear c1 hD6 hO7 HO6 hk
  obtain ⟨m1, m3⟩ := aw_math hks
  have c1 := read_ok hD7 (k := 1) (by omega) 1 rfl m1
  go_upto_region 11 with (go_at_call 17; refine c1.mono ?_; rintro e w8 ⟨g1, cp1, rfl, hg1, cell1, hlt1, hb8⟩)
  have hD8 := hD7.below hb8
  have hn1 : ∀ j, ds p q r j → g1 ≠ j := fun j hj e => by
    have := hD7.lt hj
    omega
  have HN1 := Lib.hid hn1
  have HO8 := Lib.hid (HO7.out.trans (Oth.of_below hb8 _))
  clear c1 hD7 hb8 HO7 hn1 m1 hg1
  have c1 := read_ok hD8 (k := 3) (by omega) 3 rfl m3
  go_upto_region 12 with (go_at_call 17; refine c1.mono ?_; rintro e w9 ⟨g3, cp3, rfl, hg3, cell3, hlt3, hb9⟩)
  have hD9 := hD8.below hb9
  have hn3 : ∀ j, ds p q r j → g3 ≠ j := fun j hj e => by
    have := hD8.lt hj
    omega
  have HN3 := Lib.hid hn3
  have HO9 := Lib.hid (HO8.out.trans (Oth.of_below hb9 _))
  have cell1' : w9.cell? ⟨g1, 0, none⟩ = some (.int .u8 97) := (hb9.cell (p := ⟨g1, 0, none⟩) hlt1).trans cell1
  have hlt1' : g1 < w9.heap.size := Nat.lt_of_lt_of_le hlt1 hb9.size
  clear c1 hD8 hb9 HO8 hn3 m3 hg3 cell1 hlt1 hks
  have c1 := write_any hD9 4 (A := none) (m := 0) (c := 0) (l := []) Rd.nil (fun _ y hy => by cases hy) (T := crS (putS (putS { putS newD 1 [97] with had := fun _ => none } 1 [98]) 3 [99]) [false, true] ks) (er := 71) rfl rfl
  have c2 := fun (W : World) (h : DAt W p q r 4 (crS (putS (putS { putS newD 1 [97] with had := fun _ => none } 1 [98]) 3 [99]) [false, true] ks)) => size_any h
  go_upto_region 13 with (go_at_call 12; refine c1.mono ?_; rintro e w10 ⟨rfl, hD10, hO10⟩)
  have cell1 : w10.cell? ⟨g1, 0, none⟩ = some (.int .u8 97) := by
    rw [← cell1']
    exact World.cell?_of_block (hO10.block g1 hlt1' fun hx => HN1.out g1 hx rfl)
  have cell3' : w10.cell? ⟨g3, 0, none⟩ = some (.int .u8 99) := by
    rw [World.cell?_of_block (w := w9) (w' := w10) (a := ⟨g3, 0, none⟩) (hO10.block g3 hlt3 fun hx => HN3.out g3 hx rfl)]
    exact cell3
  have hB : Below w.heap.size w w10 := (HO9.out.trans hO10).below HG.out (Nat.le_refl _)
  have HB := Lib.hid hB
  have c1 := c2 w10 hD10
  clear c2 hB hO10 HO9 cell1' cell3 hlt1' hlt3 HN1 HN3 HG hD10 hD9
  go_wp2_with (go_at_call 20; refine c1.mono ?_; rintro e w' ⟨rfl, rfl⟩)
  go_ret
  exact ⟨rfl, HB.out⟩
end Go.Proofs.Ytoookmkfaihbpaa
