/-
  Package redo: Open, at a part of a disk that has not stopped: a contract over whatever load tells.
-/
import Derived.Test.YtcogglanbpphpaaLgOp1
import Derived.Shelf.Abstract
namespace Go.Proofs.Ytcogglanbpphpaa
open Go.RowKit

theorem results_tmp4 {fn : Func} {t u v x : Tmp} (h : fn.results = #[.tmp t, .tmp u, .tmp v, .tmp x]) (tmps : Array Value) (P : Program) (w : World) :
    (results fn tmps).run P w = .ok (.tuple #[tmps.getD t undef, tmps.getD u undef, tmps.getD v undef, tmps.getD x undef]) w := by
  simp [results, h]
def OpPost (ok : List (List UInt8) → Prop) (w : World) (p q r n fr se A F : Nat) (S : Dk) (e : Ending) (w' : World) : Prop :=
  ∃ (T : List (List UInt8)) (g : Nat) (vt vs : Value), ok T ∧ T.length ≤ 1000 ∧ e = .returned (.tuple #[.pointer (some ⟨g, 0, none⟩), .int .i64 (F : Int), vt, .int .i64 0]) ∧ w.heap.size ≤ g ∧ OwnV 9 w' w.heap.size vt (svs T) ∧
    LAt w' g p fr se (A + 1) F 0 vs ∧ OwnV 3 w' w.heap.size vs (nts (szs T T.length)) ∧ DAt w' p q r n (settleS S fr se (A + 1) F 0 T.length) ∧ Oth (ds p q r) w w'
set_option maxRecDepth 20000 in
set_option maxHeartbeats 2000000 in
theorem open_log {ok : List (List UInt8) → Prop} {w : World} {p q r n fr se A F : Nat} {S : Dk} (hd : DAt w p q r n S) (hg : Goes S) (h1 : 8 ≤ se) (h2 : se ≤ 1024) (h3 : fr + se ≤ n) (hA : A ≤ 1000000) (hF : F ≤ 1000000)
    (hld : ∀ W g, LAt W g p fr se 0 0 0 (.slice none 0 0) → DAt W p q r n S → Calls Try.prog 15 #[.pointer (some ⟨g, 0, none⟩)] W (LdPost ok W g p fr se A F)) :
    Calls Try.prog 5 #[.pointer (some ⟨p, 0, none⟩), .int .i64 (fr : Int), .int .i64 (se : Int)] w (OpPost ok w p q r n fr se A F S) := by
  have hsz := size_any hd
  have hn := hd.most
  have d1 : ¬ ((se : Int) < 8) := by omega
  have d2 : ¬ ((1024 : Int) < (se : Int)) := by omega
  have d3 : ¬ ((fr : Int) < 0) := by omega
  have d4 : ¬ ((n : Int) - (se : Int) < (fr : Int)) := by omega
  have HD := Lib.hid hd
  have HG := Lib.hid hg
  have HLD := Lib.hid hld
  have hmf : ∀ (fn : Fn) (first cap : Array Value) (w : World), (Instr.makeFunc fn first cap).run Try.prog w = .ok (.func fn first cap) w := fun _ _ _ _ => rfl
  clear hd hg hld
  go_enter Try.func5, Try.ntmps5
  go_wp2_with (go_at_call 12; refine hsz.mono ?_; rintro e w1 ⟨rfl, hw1⟩; subst hw1)
  have HN := Lib.hid hn
  clear hsz d1 d2 d3 d4 hmf hn
  have kL := Whole.new w1 #[.pointer (some ⟨p, 0, none⟩), .int .i64 (fr : Int), .int .i64 (se : Int), .int .i64 0, .int .i64 0, .int .i64 0, .slice none 0 0] 47
  have hd1 := HD.out.alloc (.cells #[.pointer (some ⟨p, 0, none⟩), .int .i64 (fr : Int), .int .i64 (se : Int), .int .i64 0, .int .i64 0, .int .i64 0, .slice none 0 0] 47)
  have hB1 : Below w1.heap.size w1 (w1.alloc (.cells #[.pointer (some ⟨p, 0, none⟩), .int .i64 (fr : Int), .int .i64 (se : Int), .int .i64 0, .int .i64 0, .int .i64 0, .slice none 0 0] 47)) := (Below.refl _ _).alloc (Nat.le_refl _) _
  have hs1 : (w1.alloc (.cells #[.pointer (some ⟨p, 0, none⟩), .int .i64 (fr : Int), .int .i64 (se : Int), .int .i64 0, .int .i64 0, .int .i64 0, .slice none 0 0] 47)).heap.size = w1.heap.size + 1 := by simp
  generalize w1.alloc (.cells #[.pointer (some ⟨p, 0, none⟩), .int .i64 (fr : Int), .int .i64 (se : Int), .int .i64 0, .int .i64 0, .int .i64 0, .slice none 0 0] 47) = W1 at kL hd1 hB1 hs1 ⊢
  have kB := Whole.new W1 #[.pointer (some ⟨w1.heap.size, 0, none⟩)] 28
  have kL := kL.alloc (.cells #[.pointer (some ⟨w1.heap.size, 0, none⟩)] 28)
  have hd2 := hd1.alloc (.cells #[.pointer (some ⟨w1.heap.size, 0, none⟩)] 28)
  have hB2 := hB1.alloc hB1.size (.cells #[.pointer (some ⟨w1.heap.size, 0, none⟩)] 28)
  have hs2 : (W1.alloc (.cells #[.pointer (some ⟨w1.heap.size, 0, none⟩)] 28)).heap.size = w1.heap.size + 1 + 1 := by simp [hs1]
  rw [hs1] at kB
  generalize W1.alloc (.cells #[.pointer (some ⟨w1.heap.size, 0, none⟩)] 28) = W2 at kL kB hd2 hB2 hs2 ⊢
  have kX := Whole.new W2 #[.slice none 0 0] 22
  have kB := kB.alloc (.cells #[.slice none 0 0] 22)
  have kL := kL.alloc (.cells #[.slice none 0 0] 22)
  have hd3 := hd2.alloc (.cells #[.slice none 0 0] 22)
  have hB3 := hB2.alloc hB2.size (.cells #[.slice none 0 0] 22)
  have hs3 : (W2.alloc (.cells #[.slice none 0 0] 22)).heap.size = w1.heap.size + 1 + 1 + 1 := by simp [hs2]
  rw [hs2] at kX
  generalize W2.alloc (.cells #[.slice none 0 0] 22) = W3 at kX kL kB hd3 hB3 hs3 ⊢
  have kE := Whole.new W3 #[.int .i64 0] 25
  have kX := kX.alloc (.cells #[.int .i64 0] 25)
  have kB := kB.alloc (.cells #[.int .i64 0] 25)
  have kL := kL.alloc (.cells #[.int .i64 0] 25)
  have hd4 := hd3.alloc (.cells #[.int .i64 0] 25)
  have hB4 := hB3.alloc hB3.size (.cells #[.int .i64 0] 25)
  have hs4 : (W3.alloc (.cells #[.int .i64 0] 25)).heap.size = w1.heap.size + 1 + 1 + 1 + 1 := by simp [hs3]
  have hdl : ∀ k, ds p q r k → k < w1.heap.size := fun k hk => HD.out.lt hk
  have hgx : ¬ ds p q r w1.heap.size := fun h => by have := hdl _ h; omega
  have hxx : ¬ ds p q r (w1.heap.size + 1 + 1) := fun h => by have := hdl _ h; omega
  have hc := open1_any (ok := ok) kB kX (show LAt _ w1.heap.size p fr se 0 0 0 (.slice none 0 0) from kL) hd4 HG.out (HLD.out _ _ (show LAt _ w1.heap.size p fr se 0 0 0 (.slice none 0 0) from kL) hd4) hgx hxx (by omega) (by omega) hA hF
  have hQ : ∀ w', Op1Post ok (W3.alloc (.cells #[.int .i64 0] 25)) w1.heap.size p q r n fr se A F (w1.heap.size + 1 + 1) S w' → Whole w' W3.heap.size 25 [.int .i64 0] := fun w' hq => by
    obtain ⟨_, _, _, _, _, _, _, _, _, _, ho⟩ := hq
    refine kE.keep (ho.block _ kE.lt fun h => ?_)
    rcases h with h | h | h
    · omega
    · omega
    · have := hdl _ h; omega
  have hca := caught_any (f := 14) (Go.Proofs.enters_of Try.func14 (by kernel_rfl) rfl) hc hQ
  have HCA := Lib.hid hca
  have HB4 := Lib.hid (And.intro hB4 (And.intro kB (And.intro hs4 hs3)))
  have Hdl := Lib.hid hdl
  clear hca hc hQ kE kX kB kL hd1 hd2 hd3 hd4 hB1 hB2 hB3 hB4 hs1 hs2 hs3 hs4 hgx hxx hdl
  refine HCA.out.mono ?_
  rintro e w5 ⟨rfl, w6, ⟨T, vt, vs, hok, hTl, hx6, hT6, hL6, hS6, hD6, hO6⟩, rfl⟩
  obtain ⟨hB4, kB, hs4, hs3⟩ := HB4.out
  have hdl := Hdl.out
  have hdl4 : ∀ k, (k = w1.heap.size ∨ k = w1.heap.size + 1 + 1 ∨ ds p q r k) → k < w1.heap.size + 1 + 1 + 1 := fun k hk => by
    rcases hk with h | h | h
    · omega
    · omega
    · have := hdl k h; omega
  have hb6 : Whole w6 (w1.heap.size + 1) 28 [.pointer (some ⟨w1.heap.size, 0, none⟩)] := kB.keep (hO6.block _ kB.lt fun h => by
    rcases h with h | h | h
    · omega
    · omega
    · have := hdl _ h; omega)
  have hgs := grown_set w6 W3.heap.size 0 (.int .i64 0)
  have hb7 := hb6.grown hgs (by omega)
  have hx7 := hx6.grown hgs (by omega)
  have hL7 := hL6.keep (hgs.block w1.heap.size hL6.lt (fun h => by injection h with h; omega))
  have hT7 := hT6.grown hgs (fun e => by have := (hT6.lt _ e).1; omega)
  have hS7 := hS6.grown hgs (fun e => by have := (hS6.lt _ e).1; omega)
  have hD7 := hD6.grownBy hgs (fun h => by have := hdl _ h; omega)
  obtain ⟨At, ct, rfl⟩ := slice_own hT7 (n := T.length) (by rw [svs_length])
  obtain ⟨As, cs, rfl⟩ := slice_own hS7 (n := T.length) (szs_all T)
  have hO7 : Oth (ds p q r) w1 (w6.setCell ⟨W3.heap.size, 0, none⟩ (.int .i64 0)).drew := by
    have a1 : Oth (fun k => w1.heap.size ≤ k ∨ ds p q r k) w1 (w6.setCell ⟨W3.heap.size, 0, none⟩ (.int .i64 0)) :=
      ((Oth.of_below hB4 _).trans (hO6.mono fun k hk => by
        rcases hk with h | h | h
        · exact .inl (by omega)
        · exact .inl (by omega)
        · exact .inr h)).trans (Oth.of_grown hgs (.inl (by omega)))
    exact ⟨a1.os, a1.tape, a1.output, a1.size, fun k hk hx => a1.block k hk (fun h => by
      rcases h with h | h
      · omega
      · exact hx h)⟩
  have HF := Lib.hid (And.intro hT7.drew (And.intro hL7.drew (And.intro hS7.drew (And.intro hD7.drew hO7))))
  have b0 : (w6.setCell ⟨W3.heap.size, 0, none⟩ (.int .i64 0)).drew.cell? ⟨w1.heap.size + 1, 0, none⟩ = some (.pointer (some ⟨w1.heap.size, 0, none⟩)) := hb7.cell 0
  have x0 : (w6.setCell ⟨W3.heap.size, 0, none⟩ (.int .i64 0)).drew.cell? ⟨w1.heap.size + 1 + 1, 0, none⟩ = some (.slice At T.length ct) := hx7.cell 0
  have c4 := hL7.drew.c4
  have Hok := Lib.hid (And.intro hok hTl)
  have Hs4 := Lib.hid hs4
  clear hO7 hD7 hS7 hT7 hL7 hx7 hb7 hgs hb6 hdl4 hdl hB4 kB hs4 hs3 hD6 hO6 hS6 hT6 hL6 hx6 hok HB4
  generalize w6.setCell ⟨W3.heap.size, 0, none⟩ (.int .i64 0) = W7 at b0 x0 c4 HF ⊢
  dsimp only
  go_wp2
  go_region
  all_goals (
    go_wp2
    refine bodyPost_ret (results_tmp4 rfl _ _ _) rfl ?_
    exact ⟨T, w1.heap.size, _, _, Hok.out.1, Hok.out.2, rfl, Nat.le_refl _, HF.out.1.mono (by have := Hs4.out; omega), HF.out.2.1, HF.out.2.2.1.mono (by have := Hs4.out; omega), HF.out.2.2.2.1, HF.out.2.2.2.2⟩)
end Go.Proofs.Ytcogglanbpphpaa
