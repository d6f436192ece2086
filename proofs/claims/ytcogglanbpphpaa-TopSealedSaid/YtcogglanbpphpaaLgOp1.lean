/-
  Package redo: what Open does with the disk (its function literal): a contract over whatever load tells.
-/
import Derived.Test.YtcogglanbpphpaaLgCa
namespace Go.Proofs.Ytcogglanbpphpaa
open Go.RowKit

/-- What load leaves: texts, and a log of them. -/
def LdPost (ok : List (List UInt8) → Prop) (w : World) (g p fr se A F : Nat) (e : Ending) (w' : World) : Prop :=
  ∃ (T : List (List UInt8)) (vt vs : Value), ok T ∧ T.length ≤ 1000 ∧ e = .returned vt ∧ OwnV 9 w' w.heap.size vt (svs T) ∧ LAt w' g p fr se A F 0 vs ∧ OwnV 3 w' w.heap.size vs (nts (szs T T.length)) ∧ w.grownBy w' (some g)
/-- What Open's function leaves. -/
def Op1Post (ok : List (List UInt8) → Prop) (w : World) (g p q r n fr se A F xb : Nat) (S : Dk) (w' : World) : Prop :=
  ∃ (T : List (List UInt8)) (vt vs : Value), ok T ∧ T.length ≤ 1000 ∧ Whole w' xb 22 [vt] ∧ OwnV 9 w' w.heap.size vt (svs T) ∧ LAt w' g p fr se (A + 1) F 0 vs ∧ OwnV 3 w' w.heap.size vs (nts (szs T T.length)) ∧
    DAt w' p q r n (settleS S fr se (A + 1) F 0 T.length) ∧ Oth (fun k => k = g ∨ k = xb ∨ ds p q r k) w w'
theorem OwnV.oth {U : TypeId} {X : Nat → Prop} {w w' : World} {base : Nat} {v : Value} {l : List Value} (h : OwnV U w base v l) (ho : Oth X w w') (hX : ∀ k, X k → k < base) : OwnV U w' base v l :=
  h.keep fun k hk => ho.block k (h.lt k hk).2 (fun hx => by have := hX k hx; have := (h.lt k hk).1; omega)
theorem DAt.grownBy {w w' : World} {p q r n x : Nat} {S : Dk} (h : DAt w p q r n S) (hg : w.grownBy w' (some x)) (hx : ¬ ds p q r x) : DAt w' p q r n S := h.keep hg.size fun k hk => hg.block k (h.lt hk) (fun e => hx (by injection e with e; rw [← e]; exact hk))
theorem szs_all (T : List (List UInt8)) : (nts (szs T T.length)).length = T.length := by simp [nts, szs]
set_option maxRecDepth 20000 in
set_option maxHeartbeats 2000000 in
theorem open1_any {ok : List (List UInt8) → Prop} {w : World} {g p q r n fr se A F ag fi st lb xb : Nat} {v0 : Value} {S : Dk} (hb : Whole w lb 28 [.pointer (some ⟨g, 0, none⟩)]) (hx : Whole w xb 22 [v0]) (hL : LAt w g p fr se ag fi st (.slice none 0 0)) (hd : DAt w p q r n S) (hg : Goes S)
    (hld : Calls Try.prog 15 #[.pointer (some ⟨g, 0, none⟩)] w (LdPost ok w g p fr se A F)) (hgx : ¬ ds p q r g) (hxx : ¬ ds p q r xb) (hfr : fr < n) (hse : se ≤ 4096) (hA : A ≤ 1000000) (hF : F ≤ 1000000) :
    Calls Try.prog 14 #[.pointer (some ⟨lb, 0, none⟩), .pointer (some ⟨xb, 0, none⟩)] w fun e w' => e = .returned (.tuple #[]) ∧ Op1Post ok w g p q r n fr se A F xb S w' := by
  have b0 := hb.cell 0
  simp only [List.getElem?_cons_zero] at b0
  have hxg : xb ≠ g := hx.ne hL (by decide)
  have hlg : lb ≠ g := hb.ne hL (by decide)
  have hlx : lb ≠ xb := hb.ne hx (by decide)
  have hgl := hL.lt
  have hxl := hx.lt
  have HB := Lib.hid hb
  have HX := Lib.hid hx
  have HD := Lib.hid hd
  have HG := Lib.hid hg
  have HLD := Lib.hid hld
  have HGX := Lib.hid (And.intro hgx hxx)
  clear hb hx hL hd hg hld hgx hxx
  go_enter Try.func14, Try.ntmps14
  go_wp2_with fail
  refine HLD.out.mono ?_
  rintro e w1 ⟨T, vt, vs, hok, hTl, rfl, hT, hL1, hS, hgr⟩
  have hx1 := HX.out.grown hgr hxg
  have hb1 := HB.out.grown hgr hlg
  have hd1 := HD.out.grownBy hgr HGX.out.1
  have x0 := hx1.cell 0
  have f0 := hx1.free 0
  simp only [List.getElem?_cons_zero] at x0
  obtain ⟨At, ct, rfl⟩ := slice_own hT (n := T.length) (by rw [svs_length])
  obtain ⟨As, cs, rfl⟩ := slice_own hS (n := T.length) (szs_all T)
  -- the texts are stored
  have hs2 := grown_set w1 xb 0 (.slice At T.length ct)
  have hx2 : Whole (w1.setCell ⟨xb, 0, none⟩ (.slice At T.length ct)) xb 22 [.slice At T.length ct] := hx1.set 0 _
  have hb2 := hb1.grown hs2 hlx
  have hT2 := hT.grown hs2 (fun e => by have := (hT.lt xb e).1; omega)
  have hS2 := hS.grown hs2 (fun e => by have := (hS.lt xb e).1; omega)
  have hL2 : LAt (w1.setCell ⟨xb, 0, none⟩ (.slice At T.length ct)) g p fr se A F 0 (.slice As T.length cs) := hL1.keep (hs2.block g hL1.lt (by simpa using hxg.symm))
  have hd2 := hd1.grownBy hs2 HGX.out.2
  have b2 := hb2.cell 0
  have c3 := hL2.c3
  have f3 := hL2.free 3
  simp only [List.getElem?_cons_zero] at b2
  -- the age
  have hs3 := grown_set (w1.setCell ⟨xb, 0, none⟩ (.slice At T.length ct)) g 3 (.int .i64 ((A + 1 : Nat) : Int))
  have hx3 := hx2.grown hs3 hxg
  have hb3 := hb2.grown hs3 hlg
  have hT3 := hT2.grown hs3 (fun e => by have := (hT.lt g e).1; omega)
  have hS3 := hS2.grown hs3 (fun e => by have := (hS.lt g e).1; omega)
  have hL3 := hL2.set3 (A + 1)
  have hd3 := hd2.grownBy hs3 HGX.out.1
  have b3 := hb3.cell 0
  simp only [List.getElem?_cons_zero] at b3
  have ho3 : Oth (fun k => k = g ∨ k = xb ∨ ds p q r k) w ((w1.setCell ⟨xb, 0, none⟩ (.slice At T.length ct)).setCell ⟨g, 3, none⟩ (.int .i64 ((A + 1 : Nat) : Int))) :=
    ((Oth.of_grown hgr (.inl rfl)).trans (Oth.of_grown hs2 (.inr (.inl rfl)))).trans (Oth.of_grown hs3 (.inl rfl))
  have hst := settle_any hL3 hd3 HG.out HGX.out.1 hfr hse (by omega) (by omega) (by omega) (by omega)
  have hw3 : (((A + 1 : Nat)) : Int) = (A : Int) + 1 := by omega
  rw [hw3] at hx3 hT3 hS3 hL3 b3 ho3 hst
  have HST := Lib.hid hst
  have H3 := Lib.hid (And.intro hx3 (And.intro hT3 (And.intro hS3 (And.intro hL3 ho3))))
  have Hok := Lib.hid (And.intro hok hTl)
  clear hw3 hst hx3 hb3 hT3 hS3 hL3 hd3 ho3 hs3 hs2 hx2 hb2 hT2 hS2 hL2 hd2 hd1 hx1 hb1 hT hS hL1 hgr hok
  dsimp only
  go_wp2_with fail
  refine HST.out.mono ?_
  rintro e w5 ⟨rfl, hD5, hO5⟩
  obtain ⟨hx3, hT3, hS3, hL3, ho3⟩ := H3.out
  have hdx : ∀ k, ds p q r k → k < w.heap.size := fun k hk => HD.out.lt hk
  have HF := Lib.hid (And.intro (hx3.keep (hO5.block xb hx3.lt HGX.out.2)) (And.intro (hT3.oth hO5 hdx) (And.intro (hL3.oth hO5 HGX.out.1) (And.intro (hS3.oth hO5 hdx) (And.intro hD5 (ho3.trans (hO5.mono fun k hk => .inr (.inr hk))))))))
  clear hx3 hT3 hS3 hL3 ho3 hD5 hO5 HST
  dsimp only
  go_wp2
  go_end0
  exact ⟨rfl, T, _, _, Hok.out.1, Hok.out.2, HF.out.1, HF.out.2.1, HF.out.2.2.1, HF.out.2.2.2.1, HF.out.2.2.2.2.1, HF.out.2.2.2.2.2⟩
end Go.Proofs.Ytcogglanbpphpaa
