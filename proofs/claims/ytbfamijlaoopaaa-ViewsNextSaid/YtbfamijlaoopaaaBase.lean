/-
  What every text of this seat says of calls: bytes of the call's own are handed back; a law holds.
-/
import Derived.Test.YtbfamijlaoopaaaBytes
import Derived.Test.YtbfamijlaoopaaaProg
import Derived.KernelRfl
import Derived.Lib.ByteType
import Derived.Lib.SlBytesConst
namespace Go.Proofs.Ytbfamijlaoopaaa
open Go.RowKit

theorem Try.infoU8 : (Try.prog.info? 5).map (fun i => (i.zero, i.size, i.bytes)) = some (some (.int .u8 0), 1, 1) := by kernel_rfl

/-- What a call hands back: bytes of its own. -/
def Gives (w : World) (l : List UInt8) (e : Ending) (w' : World) : Prop := ∃ v, e = .returned v ∧ Own 5 w' w.heap.size v l ∧ Below w.heap.size w w'
/-- .. and a number of an error. -/
def GivesE (w : World) (l : List UInt8) (er : Int) (e : Ending) (w' : World) : Prop := ∃ v, e = .returned (.tuple #[v, .int .i64 er]) ∧ Own 5 w' w.heap.size v l ∧ Below w.heap.size w w'
/-- A refusal: nothing, and a number of an error. -/
def Refused (w : World) (er : Int) (e : Ending) (w' : World) : Prop := e = .returned (.tuple #[.slice none 0 0, .int .i64 er]) ∧ Below w.heap.size w w'
/-- The law, or a part of it, says true, and what was there stays. -/
def Holds (w : World) (e : Ending) (w' : World) : Prop := e = .returned (.bool true) ∧ Below w.heap.size w w'
theorem holds_long (w : World) : Holds w (.returned (.bool true)) w := ⟨rfl, Below.refl _ _⟩

/-- Two rows of bytes as strings, one behind the other. -/
theorem str_append (l m : List UInt8) : (ByteArray.mk l.toArray ++ ByteArray.mk m.toArray) = ByteArray.mk (l ++ m).toArray := ByteArray.mk_append_mk l m

/-- Rows of bytes as strings: alike just when the rows are. -/
theorem str_eq (l m : List UInt8) : (ByteArray.mk l.toArray = ByteArray.mk m.toArray) ↔ l = m := by
  constructor
  · intro h
    have := congrArg (fun b : ByteArray => b.data.toList) h
    simpa using this
  · rintro rfl; rfl
/-- 'b == nil' at a slice. -/
theorem run_isnil {P : Program} (w : World) (t e : TypeId) (a : Option Addr) (n c : Nat) (ht : P.underlying t = some (.slice e)) :
    (binOp .eql t (.slice a n c) (.slice none 0 0)).run P w = .ok (.bool a.isNone) w := by
  have h : ∀ d : Nat, (Op.equalIn (d + 1) t (.slice a n c) (.slice none 0 0)).run P w = .ok a.isNone w := fun d => by
    cases a <;> simp [Op.equalIn, run_underlying ht]
  simp only [binOp]
  simp [Op.equal, Op.maxDepth, h 9999]
/-- b[k:] of a slice of bytes. -/
theorem run_cut {P : Program} {t U : TypeId} (ht : P.underlying t = some (.slice U)) (hinfo : (P.info? U).map (fun i => (i.zero, i.size, i.bytes)) = some (some (.int .u8 0), 1, 1)) (A : Option Addr) (n c k : Nat) (hk : k ≤ n) (hc : n ≤ c) :
    ∃ A' : Option Addr, (∀ W : World, (Instr.slice t (.slice A n c) (some (.int .i64 (k : Int))) none none).run P W = .ok (.slice A' (n - k) (c - k)) W) ∧ (∀ (W : World) (l : List UInt8), Rd W A n l → Rd W A' (n - k) (l.drop k)) := by
  refine ⟨if c = k then A else A.map (·.add k), fun W => ?_, fun W l hr => hr.cut hk hc⟩
  have he : P.elem t = U := by simp [Program.elem, ht]
  rw [run_slice_l W t A n c (by rw [he]; exact ht) .i64 (k : Int) (by omega) (by omega), he, Lib.byte_size hinfo W]
  simp only [Result.andThen, sliced, Int.toNat_natCast, Nat.mul_one]
theorem below_drewN {B : Nat} {a w : World} (h : Below B a w) (n : Nat) : Below B a (w.drewN n) := ⟨h.os, h.tape, h.output, h.size, h.block⟩
/-- The bytes of a constant string, which lie in a marked block. -/
theorem Rd.mark {U : TypeId} {w : World} {l : List UInt8} (cs : Array Value) (fr : Nat × Nat) (h : cs.toList = bvs l) : Rd (w.alloc (.cells cs U fr)) (some ⟨w.heap.size, 0, none⟩) l.length l :=
  ⟨rfl, fun _ => ⟨w.heap.size, 0, rfl, by simp, fun j x hx => by
    rw [Nat.zero_add, World.cell?_alloc_mark, ← Array.getElem?_toList, h]
    simp [bvs, bv, hx]⟩⟩
/-- A slice of the call's own that is not empty lies in a block of the call's own. -/
theorem Own.form {U : TypeId} {w : World} {base : Nat} {v : Value} {l : List UInt8} (h : Own U w base v l) (hl : 0 < l.length) : ∃ g cap, v = .slice (some ⟨g, 0, none⟩) l.length cap ∧ base ≤ g ∧ l.length ≤ cap ∧ cap ≤ maxLen := by
  rcases h.2 with ⟨_, h0⟩ | ⟨g, cap, cur, hv, hb, _, hc, hm, _⟩
  · omega
  · exact ⟨g, cap, hv, hb, hc, hm⟩
/-- A byte of it is stored. -/
theorem Own.set {U : TypeId} {w : World} {base g cap n : Nat} {l : List UInt8} (hn : l.length = n) (h : Own U w base (.slice (some ⟨g, 0, none⟩) n cap) l) (j : Nat) (x : UInt8) :
    Own U (w.setCell ⟨g, j, none⟩ (bv x)) base (.slice (some ⟨g, 0, none⟩) n cap) (l.set j x) := by
  unfold Own at h ⊢
  rw [List.length_set, hn]
  rw [hn] at h
  have := (World.ownsRow.stored h j (bv x)).1
  rw [bvs, List.map_set]
  exact this
theorem Own.free {U : TypeId} {w : World} {base g cap n : Nat} {l : List UInt8} (hn : l.length = n) (h : Own U w base (.slice (some ⟨g, 0, none⟩) n cap) l) (j : Nat) : w.frozen? ⟨g, j, none⟩ = false := by
  unfold Own at h
  rw [hn] at h
  exact World.ownsRow.frozenAt h j
theorem Own.cell {U : TypeId} {w : World} {base g cap n : Nat} {l : List UInt8} (hn : l.length = n) (h : Own U w base (.slice (some ⟨g, 0, none⟩) n cap) l) {j : Nat} (hj : j < n) : ∃ x, l[j]? = some x ∧ w.cell? ⟨g, j, none⟩ = some (.int .u8 (x.toNat : Int)) := by
  obtain ⟨A, c, hv, _, _, r⟩ := h.shapeN hn
  injection hv with e1 e2 e3
  obtain ⟨b, off, x, e, _, hx, hc⟩ := r.cell hj
  rw [← e1] at e
  simp only [Option.some.injEq, Addr.mk.injEq, and_true] at e
  obtain ⟨rfl, rfl⟩ := e
  exact ⟨x, hx, by rw [Nat.zero_add] at hc; exact hc⟩
end Go.Proofs.Ytbfamijlaoopaaa
