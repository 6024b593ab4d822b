/-
  The statement PatchApplies, by Safe's walk.
-/
import Derived.Test.YtjljklfahmjngaaPaSafe
import Derived.Test.YtjljklfahmjngaaPaApplies
namespace Go.Proofs.Ytjljklfahmjngaa
open Go Go.Proofs Go.RowKit Go.Shelf
theorem safe_ok : SafeOk := fun W ao m c L oo om oc outs h1 h2 h3 _ h5 h6 h7 => safe_any W ao m c L oo om oc outs h1 h2 h3 h5 h6 h7
theorem applies_any (w : World) (a0 : Option Addr) (N c0 : Nat) (xs : List Int) (h0 : BAt w a0 N xs) (h0n : a0 = none → N = 0 ∧ c0 = 0) (_hx : ∀ x ∈ xs, 0 ≤ x ∧ x ≤ 255) (b1 : Option Addr) (m c1 : Nat) (L : List Pt) (h1 : PcAt w b1 m L) (h2 : PnAt w L) (hm : m ≤ 9223372036854775807) (a2 : Option Addr) (om c2 : Nat) (outs : List Int) (h3 : LAt w a2 om outs) (h3i : ∀ x ∈ outs, I64 x) (_ho : om ≤ 9223372036854775807) :
    Calls Try.prog 3 #[.slice a0 N c0, .slice b1 m c1, .slice a2 om c2] w fun e w' => e = .returned (.bool true) ∧ Below w.heap.size w w' :=
  applies_of (Hid.mk safe_ok) w a0 N c0 xs h0 h0n b1 m c1 L h1 h2 hm a2 om c2 outs h3 h3i
end Go.Proofs.Ytjljklfahmjngaa
