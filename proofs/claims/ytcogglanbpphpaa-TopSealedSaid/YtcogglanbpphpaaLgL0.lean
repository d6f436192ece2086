/-
  Words for the law of sealed records: strings that came in, bytes of a string, Open at a new disk and behind a crash. Plain lemmas and contracts.
-/
import Derived.Test.YtcogglanbpphpaaLgTm
import Derived.Test.YtcogglanbpphpaaLgAp
import Derived.Test.YtcogglanbpphpaaPdArg
import Derived.Lib.ConvBytes
import Derived.Laws.AppendOwn
namespace Go.Proofs.Ytcogglanbpphpaa
open Go.RowKit

/-- A string's bytes. -/
theorem lg_bytes (w : World) (s : ByteArray) (hs : s.size ≤ maxLen) : ∃ c w2, (convert 9 32 (.string s)).run Try.prog w = .ok (.slice (some ⟨w.heap.size, 0, none⟩) s.size c) w2 ∧ Rd w2 (some ⟨w.heap.size, 0, none⟩) s.size s.data.toList ∧ Below w.heap.size w w2 ∧ s.size ≤ c ∧ c ≤ maxLen := by
  refine ⟨_, _, Lib.run_convert_string_bytes w 9 32 5 s Try.underlying9 Try.underlying32 Try.underlying5, ⟨rfl, fun _ => ⟨w.heap.size, 0, rfl, by rw [Lib.bytesWorld_size]; omega, fun j x hx => ?_⟩⟩, ⟨?_, ?_, ?_, ?_, fun k hk => Lib.bytesWorld_at_old _ _ _ _ hk⟩, grownCap_ge _ _ _ _, grownCap_le_maxLen _ _ _ _ hs⟩
  · have hj : j < s.data.toList.length := (List.getElem?_eq_some_iff.1 hx).1
    rw [Nat.zero_add, Lib.bytesWorld_cell w 5 s j (by have h2 := hj; rw [Array.length_toList] at h2; exact h2)]
    simp [List.getD_eq_getElem?_getD, hx]
  · simp [Lib.bytesWorld, World.freeze, World.alloc, World.drew, -World.alloc_eq, -World.drew_eq]
  · simp [Lib.bytesWorld, World.freeze, World.alloc, World.drew, -World.alloc_eq, -World.drew_eq]
  · simp [Lib.bytesWorld, World.freeze, World.alloc, World.drew, -World.alloc_eq, -World.drew_eq]
  · rw [Lib.bytesWorld_size]; omega
/-- A slice of strings that came in. -/
theorem strs_rd {w : World} {a : Option Addr} {len cap : Nat} {zs : List ByteArray}
    (h : (a = none ∧ len = 0 ∧ cap = 0 ∧ zs = []) ∨ ∃ x, a = some x ∧ len ≤ cap ∧ cap ≤ maxLen ∧ zs.length = cap ∧ (∀ i, i < zs.length → w.cell? (x.add i) = some (.string (zs.getD i ByteArray.empty))) ∧ ∀ s ∈ zs, s.size ≤ maxLen) :
    RdV w a len ((zs.take len).map .string) ∧ ∀ s ∈ zs.take len, s.size ≤ maxLen := by
  rcases h with ⟨rfl, rfl, rfl, rfl⟩ | ⟨x, rfl, hl, hm, hz, hc, hs⟩
  · exact ⟨RdV.nil, by simp⟩
  · refine ⟨⟨by simp; omega, fun hp => ?_⟩, fun s h => hs s (List.mem_of_mem_take h)⟩
    obtain ⟨b, off, spot⟩ := x
    have h0 := hc 0 (by omega)
    have hspot : spot = none := by simpa [Addr.add] using World.cell?_spot h0
    subst hspot
    have hlt : b < w.heap.size := World.block_lt_of_cell? w _ h0
    refine ⟨b, off, rfl, by simpa [Addr.add] using hlt, fun j y hy => ?_⟩
    have hj : j < len := by
      have := (List.getElem?_eq_some_iff.1 hy).1
      simp at this
      omega
    have hjz : j < zs.length := by omega
    have := hc j hjz
    rw [add_plain] at this
    rw [this]
    simp only [List.getElem?_map, List.getElem?_take, if_pos hj, List.getElem?_eq_getElem hjz, Option.map_some, Option.some.injEq] at hy
    rw [← hy]
    simp [List.getD, List.getElem?_eq_getElem hjz]
set_option maxHeartbeats 1000000 in
/-- Open at a new disk. -/
theorem open_new {w : World} {p q r : Nat} (hd : DAt w p q r 64 newD) : Calls Try.prog 5 #[.pointer (some ⟨p, 0, none⟩), .int .i64 0, .int .i64 64] w (OpPost (fun T => T = []) w p q r 64 0 64 0 1 newD) :=
  open_log (fr := 0) (se := 64) (A := 0) (F := 1) hd newD_goes (by omega) (by omega) (by omega) (by omega) (by omega) fun W g hL hD =>
    (load_zero (n1 := 63) hL hD (by omega) rfl (by omega) (fun j hj => rfl)).mono fun e w' ⟨h1, h2, h3⟩ => ⟨[], _, _, rfl, by simp, h1, OwnV.nil, h2, OwnV.nil, h3⟩
/-- What Open tells behind a crash: some first ones, not less than what was safe. -/
def OkT (L : List (List UInt8)) (f : Nat) (T : List (List UInt8)) : Prop := ∃ m, f ≤ m ∧ m ≤ L.length ∧ T = L.take m
theorem szs_take (L : List (List UInt8)) {m : Nat} : szs L m = szs (L.take m) (L.take m).length := by
  unfold szs
  rw [List.take_of_length_le (Nat.le_refl (L.take m).length)]
set_option maxHeartbeats 1000000 in
theorem open_again {w : World} {p q r f F : Nat} {S : Dk} {L : List (List UInt8)} (hd : DAt w p q r 64 S) (hg : Goes S) (hc : Crashed L F S.now) (hT : ∀ t ∈ L, t.length ≤ 1024) (hpos : ∀ t ∈ L, 1 ≤ t.length) (hl : L.length ≤ 1000) (hr : off L L.length < 63) (hf : f ≤ L.length) (hF : off L f ≤ F) :
    Calls Try.prog 5 #[.pointer (some ⟨p, 0, none⟩), .int .i64 0, .int .i64 64] w (OpPost (OkT L f) w p q r 64 0 64 1 1 S) :=
  open_log (fr := 0) (se := 64) (A := 1) (F := 1) hd hg (by omega) (by omega) (by omega) (by omega) (by omega) fun W g hL hD =>
    (load_root (n1 := 63) (C := aftC L S.now) (age := 1) (first := 1) hL hD (by omega) rfl (by omega) (by omega) (fun j hj => hc.sec hT hl (by omega)) rfl (hc.ring hT hpos hr) (by omega) (by omega) (by omega) (by omega) hl).mono fun e w' ⟨m, vt, vs, h1, h2, h3, h4, h5, h6, h7⟩ => by
      have hfm : f ≤ m := by
        rcases Nat.lt_or_ge m f with h | h
        · exact absurd (hc.full hT hl hr hf hF h) (h7 (by omega))
        · exact h
      exact ⟨L.take m, vt, vs, ⟨m, hfm, h1, rfl⟩, by rw [List.length_take]; omega, h2, h3, h4, by rw [← szs_take L]; exact h5, h6⟩
end Go.Proofs.Ytcogglanbpphpaa
