/-
  The law DiceSums, walked. No conditions beyond those that each theorem bears.
-/
import Derived.Test.YtonmgbepkdlklaaSumsLawA
import Derived.Test.YtonmgbepkdlklaaSumsLawB
import Derived.Test.YtonmgbepkdlklaaSumsLawD
import Derived.Test.YtonmgbepkdlklaaSumsLawE
namespace Go.Proofs.Ytonmgbepkdlklaa
open Go.RowKit

theorem law3_any (a0 : Option Addr) (n0 c0 : Nat) (z0 : List Int) (a1 : Option Addr) (n1 c1 : Nat) (A : List Int) (a2 : Option Addr) (n2 c2 : Nat) (B : List Int) (w : World) (h0 : Rd w a0 n0 c0 z0) (h1 : Rd w a1 n1 c1 A) (h2 : Rd w a2 n2 c2 B) (r0 : n0 * 8 ≤ 140737488351232) (r1 : n1 * 8 ≤ 140737488351232) (r2 : n2 * 8 ≤ 140737488351232) :
    Calls Try.prog 3 #[.slice a0 n0 c0, .slice a1 n1 c1, .slice a2 n2 c2] w fun e w' => e = .returned (.bool true) ∧ Below w.heap.size w w' := by
  have hd : (wsB (n1 : Int) = true ∨ wsB (n2 : Int) = true) ∨ (wsB (n1 : Int) = false ∧ wsB (n2 : Int) = false) := by cases wsB (n1 : Int) <;> cases wsB (n2 : Int) <;> simp
  rcases may_cases z0 with ⟨hm, -⟩ | ⟨hm, hl, ha⟩
  · rcases hd with hd | ⟨hd1, hd2⟩
    · exact law3_nn a0 n0 c0 z0 a1 n1 c1 A a2 n2 c2 B w h0 h1 h2 r0 r1 r2 hm hd
    · exact law3_ny a0 n0 c0 z0 a1 n1 c1 A a2 n2 c2 B w h0 h1 h2 r0 r1 r2 hm hd1 hd2
  · obtain ⟨ds, hz, hdd⟩ := nat_list z0 ha
    rw [h0.len] at hl
    rcases hd with hd | ⟨hd1, hd2⟩
    · exact law3_yn a0 n0 c0 z0 a1 n1 c1 A a2 n2 c2 B w h0 h1 h2 r0 r1 r2 ds hz hm hl.1 hl.2 hdd hd
    · exact law3_yy a0 n0 c0 z0 a1 n1 c1 A a2 n2 c2 B w h0 h1 h2 r0 r1 r2 ds hz hm hl.1 hl.2 hdd hd1 hd2

end Go.Proofs.Ytonmgbepkdlklaa
