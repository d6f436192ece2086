/-
  Package redo: Force: a contract at a disk that has not stopped.
-/
import Derived.Test.YtcogglanbpphpaaLgAp1
namespace Go.Proofs.Ytcogglanbpphpaa
open Go.RowKit

set_option maxHeartbeats 1000000 in
theorem force_log {w : World} {g p q r n fr se ag fi st : Nat} {z : Value} {S : Dk} (hL : LAt w g p fr se ag fi st z) (hd : DAt w p q r n S) (hg : Goes S) :
    Calls Try.prog 8 #[.pointer (some ⟨g, 0, none⟩)] w (Tld w p q r n (flushS S) 0) := by
  have kn := none_any hL
  have hf := flush_any hd (flS_flush hg).symm (flE_flush hg).symm
  have c0 := hL.c0
  clear hL hd hg
  go_enter Try.func8, Try.ntmps8
  go_wp2_with (first | (go_at_call 17; refine kn.mono ?_; rintro e w1 ⟨rfl, hw1⟩; subst hw1) | (go_at_call 27; refine hf.mono ?_; rintro e w1 ⟨rfl, hD, hO⟩; have HF := Lib.hid (And.intro hD hO); clear hD hO))
  go_ret
  exact ⟨rfl, HF.out.1, HF.out.2⟩
end Go.Proofs.Ytcogglanbpphpaa
