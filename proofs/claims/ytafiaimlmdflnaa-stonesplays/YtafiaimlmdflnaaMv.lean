/-
  A move in a play. No conditions beyond those that each theorem bears.
-/
import Derived.Test.YtafiaimlmdflnaaSn
namespace Go.Proofs.Ytafiaimlmdflnaa
open Go.RowKit Go.Shelf Go.Maps Go.WideMaps

attribute [local irreducible] D4 spr rgs rgsU lib goneU gone clr grp pz pt pE pad kof stn

set_option maxRecDepth 100000 in
set_option maxHeartbeats 8000000 in
theorem move_any (g b W H N : Nat) (s : PS) (x : Int) (w : World) (hW : 1 ≤ W ∧ W ≤ 10) (hH : 1 ≤ H ∧ H ≤ 10) (hN : W * H = N) (hm : s.m ≤ 1000) (hP : PlayAt w g b W H N s) :
    Calls Try.prog 44 #[.pointer (some ⟨g, 0, none⟩), .int .i64 x] w fun e w' => e = .returned (.int .i64 ((mvd W H s x).2 : Nat)) ∧ PlayAt w' g b W H N (mvd W H s x).1 ∧ Keeps (fun k => k = g ∨ k = b) w w' := by
  have HPA := hide hP
  have HST := hide (stone_any g b W H N s x w hW hH hN hm hP)
  obtain ⟨⟨cb, bc, hPy, hBw, hcg, hcb⟩, hSt, hbg, hmay, ht, hu, hq⟩ := hP
  obtain ⟨-, -, c5, c6, -⟩ := hPy.cells
  obtain ⟨R, hR⟩ : ∃ R, mvd W H s x = R := ⟨_, rfl⟩
  rw [hR]
  unfold mvd at hR
  by_cases h2 : s.q = 2
  · rw [if_pos h2] at hR
    have HR := hide hR
    rw [h2] at c6
    clear hR h2 hPy hBw hSt hmay HST c5
    go_enter Try.func44, Try.ntmps44
    go_wp2_with fail
    go_ret
    rw [← HR.out]
    exact ⟨rfl, HPA.out, Keeps.refl _ _⟩
  · rw [if_neg h2] at hR
    have hq2 : ((s.q : Int) == 2) = false := by simpa using (show ¬ (s.q : Int) = 2 by omega)
    by_cases hx : x = -1
    · rw [if_pos hx] at hR
      have HR := hide hR
      subst hx
      obtain ⟨qq, hqq⟩ : ∃ qq, s.q + 1 = qq := ⟨_, rfl⟩
      obtain ⟨mm, hmm⟩ : ∃ mm, s.m + 1 = mm := ⟨_, rfl⟩
      have hqi : (s.q : Int) + 1 = (qq : Int) := by omega
      have hmi : (s.m : Int) + 1 = (mm : Int) := by omega
      have HQQ := hide hqq
      have HMM := hide hmm
      have K1 := hPy.setQ (qq : Int)
      have kk1 := Keeps.set1 w g 6 (.int .i64 (qq : Int))
      have K2 := K1.setM (mm : Int)
      have kk2 := kk1.after (Keeps.set1 (w.setCell ⟨g, 6, none⟩ (.int .i64 (qq : Int))) g 5 (.int .i64 (mm : Int))) (fun i _ e => e)
      have f6 := hPy.frozen 6
      have f5 := K1.frozen 5
      obtain ⟨-, -, d5, -, -⟩ := K1.cells
      have HS2 := hide (hSt.kept kk2 hbg)
      have HB2 := hide (hBw.keeps kk2 hcg)
      have HK2 := hide K2
      have HKK := hide kk2
      have HMY := hide hmay
      clear hR hPy hBw hSt hmay HST K1 kk1 K2 kk2 hqq hmm HPA
      go_enter Try.func44, Try.ntmps44
      go_upto_region 5 with fail
      clear c5 c6 f6 hqi hq2
      generalize w.setCell ⟨g, 6, none⟩ (.int .i64 (qq : Int)) = w1 at *
      go_wp2_with fail
      go_ret
      rw [← HR.out]
      obtain rfl := HQQ.out
      obtain rfl := HMM.out
      refine ⟨rfl, ⟨⟨cb, bc, HK2.out, HB2.out, hcg, hcb⟩, HS2.out.mono (Nat.le_succ _), hbg, HMY.out, ?_, ?_, ?_⟩, HKK.out.mono (fun k _ e => .inl e)⟩
      · show s.t ≤ 100 * (s.m + 1)
        omega
      · show s.u ≤ 100 * (s.m + 1)
        omega
      · show s.q + 1 ≤ 2
        omega
    · rw [if_neg hx] at hR
      have HR := hide hR
      have hxb : (x == -1) = false := by simpa using hx
      clear hR hPy hBw hSt hmay c5 h2
      go_enter Try.func44, Try.ntmps44
      go_wp2_with fail
      refine HST.out.mono ?_
      rintro e w1 ⟨rfl, h1, h3⟩
      rw [HR.out] at h1 ⊢
      go_wp2_with fail
      go_ret
      exact ⟨rfl, h1, h3⟩

end Go.Proofs.Ytafiaimlmdflnaa
