/-
  Package pdisk: Write, Read, New: contracts at a disk.
-/
import Derived.Test.YtcogglanbpphpaaPdOps
import Derived.Deep.CutBlock
import Derived.Deep.DeepCutAuto
namespace Go.Proofs.Ytcogglanbpphpaa
open Go.RowKit Go.Maps

theorem full_nil : full [] = zs := rfl
theorem bvs_full (l : List UInt8) : bvs (full l) = bvs l ++ (bvs zs).drop l.length := by
  unfold full
  rw [bvs_append]
  congr 1
  have : bvs zs = List.replicate 64 (bv 0) := by simp [zs, bvs]
  rw [this, List.drop_replicate]
  simp [bvs]
/-- copy(s[:], b) into a new sector. -/
theorem copy_sec {W : World} {A : Option Addr} {m c : Nat} {l : List UInt8} (h : Rd W A m l) (hm : m ≤ 64) (ty : TypeId) :
    (Builtin.copy_ #[32, 32] ty #[.slice (some ⟨W.heap.size, 0, none⟩) 64 64, .slice A m c]).run Try.prog (W.alloc (sob zs)) = .ok (.int .i64 (m : Int)) (W.alloc (sob (full l))) := by
  have hl := h.len
  obtain ⟨i0, hi, hz0, hz1, hz2⟩ := info_parts Try.infoU8
  have hsz : (Try.prog.info? 5).map (·.size) = some 1 := by rw [hi]; simp [hz1]
  by_cases h0 : m = 0
  · subst h0
    obtain rfl : l = [] := List.eq_nil_of_length_eq_zero hl
    rw [full_nil]
    exact run_copy_none (P := Try.prog) _ 32 32 ty 5 _ _ 64 64 0 c Try.underlying32 hsz rfl
  · obtain ⟨b, off, rfl, hb, hcell⟩ := h.at_ (by omega)
    have hrun := run_copy_row (P := Try.prog) (W.alloc (sob zs)) 32 32 ty 5 W.heap.size 0 64 64 ⟨b, off, none⟩ m c (bvs zs).toArray 65 (bvs l) Try.underlying32 hsz (heap_alloc_new W _)
      (by rw [bvs_length, hl]; exact (Nat.min_eq_left hm).symm) (fun j v hj => by
        obtain ⟨x, hx, rfl⟩ := bvs_get hj
        rw [add_plain, World.cell?_alloc_lt W _ _ hb]
        exact hcell j x hx) (by rw [bvs_length, hl, List.size_toArray, bvs_length, zs_length]; omega) (bvs_one _)
    rw [hrun, bvs_length, hl]
    unfold sob
    rw [World.setRow_alloc_new, bvs_full, hl]
    simp [goInt]

section
variable {w : World} {p q r n : Nat} {S : Dk}
set_option maxRecDepth 20000 in
set_option maxHeartbeats 1000000 in
theorem write_any (h : DAt w p q r n S) (a : Int) {A : Option Addr} {m c : Nat} {l : List UInt8} (hl : Rd w A m l) (hA : 0 < m → ∀ x, A = some x → ¬ ds p q r x.block) {T : Dk} {er : Int} (hT : T = wrS n S a l) (he : er = wrE n S a l) :
    Calls Try.prog 40 #[.pointer (some ⟨p, 0, none⟩), .int .i64 a, .slice A m c] w (Tld w p q r n T er) := by
  have c2 := h.c2
  have hp := place_any h a
  have hlen := hl.len
  unfold wrS at hT
  unfold wrE at he
  rw [hlen] at hT he
  cases hd : S.down with
  | true =>
    rw [hd] at c2 hT he
    rw [if_neg (by simp)] at hT
    simp only [if_true] at he
    subst hT he
    have HD := Lib.hid h
    clear h hd hl hA hp hlen
    go_enter Try.func40, Try.ntmps40
    go_wp2
    go_ret
    exact ⟨rfl, HD.out, Oth.refl _ _⟩
  | false =>
    by_cases ha : 0 ≤ a ∧ a < (n : Int)
    · rw [show decide (0 ≤ a ∧ a < (n : Int)) = true from by simp [ha]] at hp
      rw [hd] at c2 he
      simp only [Bool.false_eq_true, if_false] at he
      rw [if_neg (by simp [ha])] at he
      by_cases hm : m ≤ 64
      · rw [if_neg (by omega)] at he
        rw [if_pos ⟨hd, ha, hm⟩] at hT
        obtain ⟨k, rfl⟩ : ∃ k : Nat, a = (k : Int) := ⟨a.toNat, by omega⟩
        rw [Int.toNat_natCast] at hT
        have hk : k < n := by omega
        have hr := remember_any h hk
        subst he
        have HT := Lib.hid hT
        have HL := Lib.hid hl
        have HA := Lib.hid hA
        have Hlen := Lib.hid hlen
        have Hd := Lib.hid hd
        clear hT hl hA hd ha hlen h
        go_enter Try.func40, Try.ntmps40
        go_upto_region 10 with (first | (go_at_call 54; refine hp.mono ?_; rintro e w' ⟨rfl, rfl⟩) | (go_at_call 55; refine hr.mono ?_; rintro e w1 ⟨rfl, hD, hO⟩))
        clear hp hr c2
        have hl1 : Rd w1 A m l := by
          refine ⟨HL.out.len, fun hn => ?_⟩
          obtain ⟨b, off, e, hb, hc⟩ := HL.out.at_ hn
          refine ⟨b, off, e, Nat.lt_of_lt_of_le hb hO.size, fun j x hx => ?_⟩
          rw [← hc j x hx]
          exact World.cell?_of_block (hO.block b hb (HA.out hn _ e))
        have a1 := alloc_sec w1
        have k1 := copy_sec (c := c) hl1 hm
        have hD2 := hD.alloc (sob (full l))
        have hO2 := hO.alloc (sob (full l))
        have hf : (full l).length = 64 := full_length (by rw [Hlen.out]; exact hm)
        have r1 : (w1.alloc (sob (full l))).rangeAt w1.heap.size 0 (bvs (full l)) := fun j v hv => by
          rw [Nat.zero_add]
          have := (Whole.new w1 (bvs (full l)).toArray 65).cell j
          exact this.trans hv
        have HG := Lib.hid hD.qlt
        clear hD hO hl1 HL HA
        generalize sob (full l) = o2 at k1 hD2 hO2 r1
        generalize sob zs = o1 at a1 k1
        go_upto_region 12 with (refine wpList_alloc_run a1 rfl rfl ?_)
        clear a1 k1
        generalize w1.heap.size = g at HG r1
        generalize w1.alloc o2 = W at hD2 hO2 r1
        have f2 : (bvs (full l)).length = 64 := by rw [bvs_length, hf]
        have f3 := bvs_one (full l)
        have t1 := hD2.there hk
        have hE := hD2.drew.setSec hk hf
        have t2 := hE.there hk
        have d0 := hE.c0
        have c0 := hD2.drew.c0
        have r2 := World.rangeAt_setCells_apart (w := W.drew) r1 q (k * 64) (bvs (full l)) (.inl (by have := HG.out; omega))
        have e1 : ({ now := fun j => if j = k then full l else S.now j, had := remH S k, down := S.down, left := S.left } : Dk) = putS S k l := rfl
        rw [e1] at hE
        have hc := did_any hE
        rw [← HT.out] at hc
        have hP := hO2.drew.trans (Oth.of_grown (grown_setCells q (bvs (full l)) (k * 64) W.drew) (.inr (.inl rfl)))
        have HP := Lib.hid hP
        have S1 := Lib.hid (And.intro (show W.drew.rangeAt g 0 (bvs (full l)) from r1) (And.intro (show W.drew.there q (k * 64) 64 from t1) c0))
        have S2 := Lib.hid (And.intro r2 (And.intro t2 d0))
        have ua := Try.underlying65
        have us := Try.sizeSec
        rw [← f2] at us
        clear e1 hE hP hO2 hD2 r1 r2 t1 t2 c0 d0 HT HG hf Hd
        generalize bvs (full l) = cs at S1 S2 hc HP f2 f3 us
        have hl : (k : Int) < (n : Int) := by omega
        go_region_held (fun w' => w'.rangeAt g 0 cs ∧ w'.there q (k * 64) 64 ∧ w'.cell? ⟨p, 0, none⟩ = some (.slice (some ⟨q, 0, none⟩) n n)) (first | exact S1.out | exact S2.out) (fail)
        all_goals (
          go_wp2_with (go_at_call 42; refine hc.mono ?_; rintro e w' ⟨rfl, hD, hO⟩)
          have HD := Lib.hid hD
          have HO := Lib.hid (HP.out.trans hO)
          clear hD hO
          go_wp2
          go_ret
          exact ⟨rfl, HD.out, HO.out⟩)
      · rw [if_pos (by omega)] at he
        rw [if_neg fun q => hm q.2.2] at hT
        subst hT he
        have HD := Lib.hid h
        clear h hd hl hA hlen ha
        go_enter Try.func40, Try.ntmps40
        go_wp2_with (go_at_call 54; refine hp.mono ?_; rintro e w' ⟨rfl, rfl⟩)
        go_ret
        exact ⟨rfl, HD.out, Oth.refl _ _⟩
    · rw [show decide (0 ≤ a ∧ a < (n : Int)) = false from by simp only [decide_eq_false_iff_not]; exact ha] at hp
      rw [hd] at c2 he
      simp only [Bool.false_eq_true, if_false] at he
      rw [if_pos ha] at he
      rw [if_neg fun q => ha q.2.1] at hT
      subst hT he
      have HD := Lib.hid h
      clear h hd hl hA hlen ha
      go_enter Try.func40, Try.ntmps40
      go_wp2_with (go_at_call 54; refine hp.mono ?_; rintro e w' ⟨rfl, rfl⟩)
      go_ret
      exact ⟨rfl, HD.out, Oth.refl _ _⟩
def rdL (n : Nat) (S : Dk) (a : Int) : List UInt8 := if 0 ≤ a ∧ a < (n : Int) then S.now a.toNat else []
def rdE (n : Nat) (a : Int) : Int := if 0 ≤ a ∧ a < (n : Int) then 0 else 71
/-- What Read hands back: bytes of its own. -/
def RdPost (w : World) (l : List UInt8) (er : Int) (e : Ending) (w' : World) : Prop :=
  ∃ v, e = .returned (.tuple #[v, .int .i64 er]) ∧ Own 65 w' w.heap.size v l ∧ Below w.heap.size w w'
set_option maxRecDepth 20000 in
set_option maxHeartbeats 1000000 in
theorem read_any (h : DAt w p q r n S) (a : Int) {l : List UInt8} {er : Int} (hl : l = rdL n S a) (he : er = rdE n a) :
    Calls Try.prog 51 #[.pointer (some ⟨p, 0, none⟩), .int .i64 a] w (RdPost w l er) := by
  have c0 := h.c0
  have hp := place_any h a
  unfold rdL at hl
  unfold rdE at he
  by_cases ha : 0 ≤ a ∧ a < (n : Int)
  · rw [show decide (0 ≤ a ∧ a < (n : Int)) = true from by simp [ha]] at hp
    rw [if_pos ha] at hl he
    obtain ⟨k, rfl⟩ : ∃ k : Nat, a = (k : Int) := ⟨a.toNat, by omega⟩
    rw [Int.toNat_natCast] at hl
    have hk : k < n := by omega
    have hx := h.len k hk
    have k1 := load_sec (h.sec k hk) hx
    rw [← hl] at hx k1
    have s1 := store_new w hx zs zs_length
    have a1 := alloc_sec w
    have ho : Own 65 (w.alloc (sob l)) w.heap.size (.slice (some ⟨w.heap.size, 0, none⟩) 64 64) l := by
      have := Own.of_row (U := 65) (w := w.alloc (sob l)) (base := w.heap.size) (l := l) (g := w.heap.size) (cap := 64) (cur := bvs l) (heap_alloc_new w _) (Nat.le_refl _) (by omega) (by simp [maxLen]) (by rw [bvs_length, hx]) (by rw [hx, List.take_of_length_le (by rw [bvs_length, hx]; omega)])
      rwa [hx] at this
    have hb : Below w.heap.size w (w.alloc (sob l)) := (Below.refl _ _).alloc (Nat.le_refl _) _
    subst he
    have HO := Lib.hid ho
    have HB := Lib.hid hb
    clear ho hb hl hx h ha
    have hlt : (k : Int) < (n : Int) := by omega
    generalize sob l = o2 at s1 HO HB
    generalize sob zs = o1 at a1 s1
    generalize secv l = v at k1 s1
    go_enter Try.func51, Try.ntmps51
    go_wp2_with (first | (go_at_call 54; refine hp.mono ?_; rintro e w' ⟨rfl, rfl⟩) | (refine wpList_alloc_run a1 rfl rfl ?_) | (refine wpList_load_run k1 rfl _ rfl rfl ?_) | (refine wpList_store_run s1 rfl _ _ rfl rfl rfl ?_))
    go_ret2
    exact ⟨_, rfl, HO.out, HB.out⟩
  · rw [show decide (0 ≤ a ∧ a < (n : Int)) = false from by simp only [decide_eq_false_iff_not]; exact ha] at hp
    rw [if_neg ha] at hl he
    subst hl he
    clear ha h
    go_enter Try.func51, Try.ntmps51
    go_wp2_with (go_at_call 54; refine hp.mono ?_; rintro e w' ⟨rfl, rfl⟩)
    go_ret2
    exact ⟨_, rfl, Own.nil, Below.refl _ _⟩
/-- A disk that nothing was done with. -/
def newD : Dk := ⟨fun _ => zs, fun _ => none, false, 0⟩
theorem made_zero (N : Nat) : madeCells (bvs zs).toArray N = (List.replicate N (bv 0)).toArray := by
  have hz0 : bvs zs = List.replicate 64 (bv 0) := by
    unfold zs bvs
    rw [List.map_replicate]
  have hz : (bvs zs).toArray = Array.replicate 64 (bv 0) := by
    rw [hz0]
    generalize 64 = m
    simp
  rw [hz]
  apply Array.ext
  · simp [size_madeCells]
  · intro i h1 h2
    have : i % 64 < 64 := Nat.mod_lt _ (by omega)
    simp [madeCells, this]
/-- The row of sectors of a new disk. -/
def sobs (n : Nat) : Obj := .cells (List.replicate (n * 64) (bv 0)).toArray 65
theorem make_secs {k : Nat} (hk : k ≤ 4096) (W : World) : (Instr.makeSlice 40 (.int .i64 (k : Int)) (.int .i64 (k : Int))).run Try.prog W = .ok (.slice (some ⟨W.heap.size, 0, none⟩) k k) (W.alloc (sobs k)) := by
  obtain ⟨i0, hi, hz0, hz1, hz2⟩ := info_parts Try.infoSec
  have h := run_make (P := Try.prog) W 40 65 i0 _ Try.underlying40 hi hz0 .i64 .i64 (k : Int) (k : Int) (by omega) (by omega) (by rw [hz2]; omega) (by omega)
  rw [h, Int.toNat_natCast, hz1]
  unfold sobs
  rw [← made_zero]
  rfl
theorem disk_new {q n : Nat} {W : World} (p r : Nat) (hq : Whole W q 65 (List.replicate (n * 64) (bv 0))) (hp : Whole W p 43 [.slice (some ⟨q, 0, none⟩) n n, .map (some r), .bool false, .int .i64 0])
    (hr : HadAt W r n fun _ => none) (pq : p ≠ q) (pr : p ≠ r) (qr : q ≠ r) (h0 : 0 < n) (h1 : n ≤ 4096) : DAt W p q r n newD where
  ptr := hp
  sec i hi j v hv := by
    rw [hq.cell]
    have hj : j < 64 := by
      have := (List.getElem?_eq_some_iff.1 hv).1
      simpa [bvs_length, newD, zs_length] using this
    have hv2 : v = bv 0 := by
      have : bvs (newD.now i) = List.replicate 64 (bv 0) := by simp [newD, zs, bvs]
      rw [this, List.getElem?_replicate, if_pos hj] at hv
      exact (Option.some.inj hv).symm
    rw [hv2, List.getElem?_replicate, if_pos (by omega)]
  len _ _ := zs_length
  free j hj := by
    rw [hq.cell, hq.free, List.getElem?_replicate, if_pos (by omega)]
    exact ⟨rfl, rfl⟩
  qlt := hq.lt
  had := hr
  hadn k x hx := by cases hx
  pq := pq
  pr := pr
  qr := qr
  pos := h0
  most := h1
  left := Nat.zero_le _
def NewPost (w : World) (a : Int) (e : Ending) (w' : World) : Prop :=
  if 1 ≤ a ∧ a ≤ 4096 then ∃ p q r, e = .returned (.tuple #[.pointer (some ⟨p, 0, none⟩), .int .i64 0]) ∧ DAt w' p q r a.toNat newD ∧ (∀ k, ds p q r k → w.heap.size ≤ k) ∧ Below w.heap.size w w'
  else e = .returned (.tuple #[.pointer none, .int .i64 1]) ∧ Below w.heap.size w w'
set_option maxRecDepth 20000 in
set_option maxHeartbeats 1000000 in
theorem newDisk_any (a : Int) (w : World) : Calls Try.prog 4 #[.int .i64 a] w (NewPost w a) := by
  by_cases h1 : a < 1
  · go_enter Try.func4, Try.ntmps4
    go_wp2
    go_ret2
    rw [NewPost, if_neg (by omega)]
    exact ⟨rfl, Below.refl _ _⟩
  · by_cases h2 : 4096 < a
    · go_enter Try.func4, Try.ntmps4
      go_wp2
      go_ret2
      rw [NewPost, if_neg (by omega)]
      exact ⟨rfl, Below.refl _ _⟩
    · obtain ⟨k, rfl⟩ : ∃ k : Nat, a = (k : Int) := ⟨a.toNat, by omega⟩
      have k1 := make_secs (k := k) (by omega)
      have hmm := @run_makeMap Try.prog
      obtain ⟨o, ho⟩ : ∃ o, o = sobs k := ⟨_, rfl⟩
      rw [← ho] at k1
      have HO := Lib.hid ho
      clear ho
      have g1 : ¬ ((k : Int) < 1) := h1
      have g2 : ¬ (4096 < (k : Int)) := h2
      go_enter Try.func4, Try.ntmps4
      go_wp2
      go_ret2
      have h1' := Whole.new w (List.replicate (k * 64) (bv 0)).toArray 65
      rw [NewPost, if_pos ⟨h1, h2⟩]
      refine ⟨w.heap.size + 1 + 1, w.heap.size, w.heap.size + 1, by simp, ?_, ?_, ?_⟩
      · rw [Int.toNat_natCast]
        rw [HO.out]
        unfold sobs
        have hw1 := h1'.alloc (.map #[] 0)
        have hm := hadAt_made (w.alloc (.cells (List.replicate (k * 64) (bv 0)).toArray 65)) k
        have e1 : (w.alloc (.cells (List.replicate (k * 64) (bv 0)).toArray 65)).heap.size = w.heap.size + 1 := by simp
        rw [e1] at hm
        refine disk_new (w.heap.size + 1 + 1) (w.heap.size + 1) ?_ ?_ ?_ (by omega) (by omega) (by omega) (by omega) (by omega)
        · exact hw1.alloc _
        · have := Whole.new ((w.alloc (.cells (List.replicate (k * 64) (bv 0)).toArray 65)).alloc (.map #[] 0)) #[.slice (some ⟨w.heap.size, 0, none⟩) k k, .map (some (w.heap.size + 1)), .bool false, .int .i64 0] 43
          have e2 : ((w.alloc (.cells (List.replicate (k * 64) (bv 0)).toArray 65)).alloc (.map #[] 0)).heap.size = w.heap.size + 1 + 1 := by simp
          rw [e2] at this
          simpa using this
        · exact hm.keep (Below.heap_alloc _ _ _ hm.lt)
      · rintro j (rfl | rfl | rfl) <;> omega
      · exact (((Below.refl _ _).alloc (Nat.le_refl _) _).alloc (by simp) _).alloc (by simp; omega) _
end
end Go.Proofs.Ytcogglanbpphpaa
