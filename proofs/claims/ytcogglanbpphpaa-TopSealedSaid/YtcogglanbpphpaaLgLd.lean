/-
  Package redo: a sector's bytes by what it has (laid), and back (readSector): contracts.
-/
import Derived.Test.YtcogglanbpphpaaLgBy
namespace Go.Proofs.Ytcogglanbpphpaa
open Go.RowKit

set_option maxHeartbeats 2000000 in
theorem laid_any {c : Ct} (h : c.Ok) (w : World) : Calls Try.prog 41 #[c.val] w (Gives w c.laid) := by
  have K1 := Whole.new w c.cs.toArray 57
  have B1 : Below w.heap.size w (w.alloc (.cells c.cs.toArray 57)) := (Below.refl _ _).alloc (Nat.le_refl _) _
  have hx1 : ∀ x ∈ c.hd, x ≤ 2147483647 := by
    intro x hx
    have := h.k2; have := h.ag; have := h.nu; have := h.pl; have := h.sz
    simp [Ct.hd] at hx
    omega
  have htx : c.tx.length ≤ 36 := h.tx
  have hsz0 : (ByteArray.mk c.tx.toArray).size = c.tx.length := by
    show c.tx.toArray.size = _
    simp
  have hfin : sealOf (pad 60 (nbs c.hd ++ be 4 (ByteArray.mk c.tx.toArray).size ++ (ByteArray.mk c.tx.toArray).data.toList)) = c.laid := by
    simp [Ct.laid, Ct.raw, hsz0]
  have hrl : (nbs c.hd ++ be 4 (ByteArray.mk c.tx.toArray).size ++ (ByteArray.mk c.tx.toArray).data.toList).length ≤ 60 := by
    simp [nbs_length, Ct.hd, be_length]
    omega
  have hsz : (ByteArray.mk c.tx.toArray).size ≤ 65536 := by
    omega
  have hnl : (nbs c.hd).length = 20 := by simp [nbs_length, Ct.hd]
  have HF := Lib.hid hfin
  have HR := Lib.hid hrl
  have HZ := Lib.hid hsz
  have HN := Lib.hid hnl
  have HX := Lib.hid hx1
  unfold Ct.val Ct.cs sv at *
  unfold Ct.hd at HX HF HR HN
  clear hfin hrl hsz hnl hx1 htx hsz0
  generalize c.kd = a at *
  generalize c.ag = b at *
  generalize c.nu = d at *
  generalize c.pl = f at *
  generalize c.sz = g at *
  generalize ByteArray.mk c.tx.toArray = s at *
  have K := Lib.hid K1
  have B := Lib.hid B1
  clear K1 B1
  clear h
  go_enter Try.func41, Try.ntmps41
  go_wp2_with fail
  have B2 := B.out.alloc (by simp) (.cells #[.int .i64 (a : Int), .int .i64 (b : Int), .int .i64 (d : Int), .int .i64 (f : Int), .int .i64 (g : Int)] 3)
  have K2 := K.out.alloc (.cells #[.int .i64 (a : Int), .int .i64 (b : Int), .int .i64 (d : Int), .int .i64 (f : Int), .int .i64 (g : Int)] 3)
  have R2 := (Whole.new (w.alloc (.cells #[.int .i64 (a : Int), .int .i64 (b : Int), .int .i64 (d : Int), .int .i64 (f : Int), .int .i64 (g : Int), .string s] 57)) #[.int .i64 (a : Int), .int .i64 (b : Int), .int .i64 (d : Int), .int .i64 (f : Int), .int .i64 (g : Int)] 3).rd
  rw [show (w.alloc (.cells #[.int .i64 (a : Int), .int .i64 (b : Int), .int .i64 (d : Int), .int .i64 (f : Int), .int .i64 (g : Int), .string s] 57)).heap.size = w.heap.size + 1 by simp] at R2
  generalize (w.alloc (.cells #[.int .i64 (a : Int), .int .i64 (b : Int), .int .i64 (d : Int), .int .i64 (f : Int), .int .i64 (g : Int), .string s] 57)).alloc (.cells #[.int .i64 (a : Int), .int .i64 (b : Int), .int .i64 (d : Int), .int .i64 (f : Int), .int .i64 (g : Int)] 3) = W at B2 K2 R2 ⊢
  refine (numbers_any (l := [a, b, d, f, g]) (A := some ⟨w.heap.size + 1, 0, none⟩) (n := 5) (c := 5) (by simpa [nts] using R2) (by omega) HX.out).mono ?_
  rintro e w1 ⟨v1, rfl, hown1, hb1⟩
  obtain ⟨A1, c1, rfl, hc1, hm1, hr1⟩ := hown1.shapeN HN.out
  have K3 := K2.below hb1
  have B3 := B2.trans (hb1.mono B2.size)
  have k0 := K3.cell 5
  simp only [List.getElem?_cons_succ, List.getElem?_cons_zero] at k0
  clear K2 R2 B2 hown1 hb1 K B HX
  have P1 := putText_yes A1 20 c1 _ s w1 hr1 (by omega) HZ.out
  have hmk := run_make_bytes (P := Try.prog) Try.underlying32 Try.infoU8 60 60 (by omega) (by omega)
  simp only [Int.cast_ofNat_Int] at hmk
  generalize nbs [a, b, d, f, g] ++ be 4 s.size ++ s.data.toList = L at HF HR P1
  obtain ⟨M, hM⟩ : ∃ M, L.length = M := ⟨_, rfl⟩
  rw [hM] at HR
  have HM := Lib.hid hM
  have hM60 := HR.out
  have HB3 := Lib.hid B3
  clear hM hr1 K3 B3 HN HZ
  go_wp2_with (first | (go_at_call 56; refine P1.mono ?_; rintro e w2 ⟨v2, rfl, hown2, hb2⟩; obtain ⟨A2, c2, rfl, hc2, hm2, hr2⟩ := hown2.shapeN HM.out; have kcp := fun ty => run_copy_pad (P := Try.prog) 32 32 ty 5 Try.underlying32 Try.infoU8 (c := c2) hr2 hM60) | (go_at_call 50; refine (need_yes _ _ _ _).mono ?_; rintro e w3 ⟨rfl, rfl⟩))
  have B4 := HB3.out.trans (hb2.mono HB3.out.size)
  have hp : (pad 60 L).length = 60 := pad_length (by rw [HM.out]; exact hM60)
  have R4 := Rd.lit (U := 5) (w := w3) (l := pad 60 L) (bvs (pad 60 L)).toArray rfl (by rw [hp]; simp [maxLen])
  rw [hp] at R4
  have B5 := B4.alloc B4.size (.cells (bvs (pad 60 L)).toArray 5)
  generalize w3.alloc (.cells (bvs (pad 60 L)).toArray 5) = W5 at R4 B5 ⊢
  refine (seal_any _ 60 60 _ W5 R4 (by omega)).mono ?_
  rintro e w6 ⟨v6, rfl, hown6, hb6⟩
  obtain ⟨A6, c6, rfl, hc6, hm6, hr6⟩ := hown6.shapeN (n := 64) (by rw [List.length_append, hp, be_length])
  have H6 := Lib.hid (And.intro (hown6.mono B5.size) (B5.trans (hb6.mono B5.size)))
  clear hown6 hb6 hr6 R4 B5 B4 hb2 hown2 hr2 kcp P1
  go_wp2
  go_ret
  refine ⟨_, rfl, ?_, H6.out.2⟩
  rw [← HF.out]
  exact H6.out.1
end Go.Proofs.Ytcogglanbpphpaa
