/-
  The places of a set, one by one, and their numbers on a board: what each and numbers hand out. No conditions beyond those that each theorem bears.
-/
import Derived.Test.YtnbaangnpoblfaaDoorHr
import Derived.Test.YtnbaangnpoblfaaDoorBw
namespace Go.Proofs.YtnbaangnpoblfaaDoor
open Go.RowKit Go.Shelf

/-- What 'each' hands out for a bit. -/
def EaG (i : Nat) (args : Array Value) (_ : World) : Prop := args = #[.int .u64 (2 ^ i : Nat)]

/-- What it has captured. -/
def EaR (bp M : Nat) (W : World) : Prop := W.cell? ⟨bp, 0, none⟩ = some (.int .u64 (M : Nat))

theorem each_any (M : Nat) (w : World) : Calls Tryd.prog 64 #[.int .u64 (M : Nat)] w fun e w' => e = .returned (.func (.func 83) #[] #[.pointer (some ⟨w.heap.size, 0, none⟩)]) ∧ w' = w.alloc (.cells #[.int .u64 (M : Nat)] 58) := by
  go_enter Tryd.func64, Tryd.ntmps64
  go_wp2
  go_ret
  exact ⟨rfl, rfl⟩

theorem low_facts {r k q : Nat} (hr : r < 2 ^ 64) (e : r = 2 ^ k * (2 * q + 1)) : bits BinOp.and IntKind.u64 (r : Int) (IntKind.u64.wrap (-(r : Int))) = ((2 ^ k : Nat) : Int) ∧ bits BinOp.and IntKind.u64 (r : Int) (IntKind.u64.wrap ((r : Int) - 1)) = ((r &&& (r - 1) : Nat) : Int) ∧ k < 64 := by
  have hp : 0 < r := by rw [e]; exact Nat.mul_pos (Nat.two_pow_pos k) (by omega)
  have ha := bit_alone k q (e ▸ hr)
  rw [← e] at ha
  have hr' := hr
  rw [p64] at hr'
  refine ⟨?_, ?_, low_lt k q (e ▸ hr)⟩
  · have w1 : IntKind.u64.wrap (-(r : Int)) = ((2 ^ 64 - r : Nat) : Int) := by rw [IntKind.wrap_u64]; omega
    rw [w1, u64_and_nat r (2 ^ 64 - r) hr' (by omega), ha]
  · have w1 : IntKind.u64.wrap ((r : Int) - 1) = ((r - 1 : Nat) : Int) := by rw [IntKind.wrap_u64]; omega
    rw [w1, u64_and_nat r (r - 1) hr' (by omega)]

attribute [local irreducible] bln From
attribute [local go_sem] Oper.semAt_some wide_fn wide_fn0 wide_depth

set_option maxRecDepth 100000 in
set_option maxHeartbeats 4000000 in
theorem each1_seq (bp M : Nat) (hM : M < 2 ^ 64) :
    SeqQ Tryd.prog 83 #[.pointer (some ⟨bp, 0, none⟩)] EaG (bln M 64) (EaR bp M) (fun k => k = bp) 0 := by
  intro l X J Jx W hR hX hJ hJx hY h0
  have HR := hide hR
  have HY := hide hY
  have HX := hide hX
  have HJ0 := hide h0
  have HRK : Hid (∀ A B, EaR bp M A → Keeps X A B → EaR bp M B) := hide (fun A B hA hk => hk.cell hA (fun hx => (hX bp hx).1 rfl))
  have cp : W.cell? ⟨bp, 0, none⟩ = some (.int .u64 (M : Nat)) := hR
  clear hR hY hX h0 hJ hJx
  refine callsIn_of_wp Tryd.func83 rfl trivial ?_ rfl
  simp only [Tryd.ntmps83, List.size_toArray, List.length_cons, List.length_nil, Nat.reduceAdd, Nat.reduceSub, Array.replicate_succ, Array.replicate_zero, List.push_toArray, List.append_toArray, List.nil_append, List.cons_append]
  refine wpIn_wide.2 ?_
  go_wp2_with fail
  clear cp
  have HM := hide hM
  clear hM
  go_loopw [3] (fun v wr => ∃ r lo : Nat, v = .int .u64 r ∧ lo ≤ 64 ∧ Hid (r < 2 ^ 64) ∧ Hid (From M r lo) ∧ Hid (J (bln M lo) wr) ∧ Hid (EaR bp M wr) ∧ Hid (W.heap.size ≤ wr.heap.size)) (fun v _ => (intOf v).toNat)
  case atStart => exact ⟨M, 0, rfl, by omega, HM, hide (from_zero M), hide (by rw [bln_zero]; exact HJ0.out), HR, hide (Nat.le_refl _)⟩
  case round =>
    obtain ⟨r, lo, rfl, hlo, hrb, hF, hJr, hRr, hSz⟩ := hrel
    clear HJ0 HR
    by_cases hr : r = 0
    · subst hr
      have HE : Hid (J (bln M 64) wr) := hide (by rw [← bln_end hF.out hlo]; exact hJr.out)
      have hz : (((0 : Nat) : Int) != 0) = false := by rfl
      clear hJr hF
      go_wp2_with fail
      refine bodyPost_end (results_none rfl _ _ _) rfl ?_
      exact ⟨⟨_, rfl⟩, hRr.out, .inl HE.out⟩
    · have hz : ((r : Int) != 0) = true := u64_ne hr
      obtain ⟨k, q, hk⟩ := low_split r hr
      obtain ⟨e1, e2, hk64⟩ := low_facts hrb.out hk
      have HST := hide (from_step M r lo k q hF.out hk)
      have HB := hide (bln_step hF.out hk)
      have HPP : Hid ((bln M lo ++ [k]) <+: bln M 64) := hide (by rw [← HB.out]; exact bln_pre (by omega))
      obtain ⟨d, hd⟩ : ∃ d, r &&& (r - 1) = d := ⟨_, rfl⟩
      rw [hd] at e2 HST
      have HDL : Hid (d < r) := hide (by rw [← hd]; have := Nat.and_le_right (n := r) (m := r - 1); omega)
      obtain ⟨K2, hK2⟩ : ∃ K2, (2 ^ k : Nat) = K2 := ⟨_, rfl⟩
      rw [hK2] at e1
      obtain ⟨fn, tmps, assign, body, hy, hRR⟩ := YieldAt.anyD (m' := 0) (HY.out (bln M lo) k #[.int .u64 (K2 : Nat)] wr hJr.out HPP.out (by rw [← hK2]; rfl) (by have := hSz.out; omega))
      clear hd hK2 hk
      refine (wpIn_wide (n := 1)).1 ?_
      gi_wp2
      refine hRR.mono ?_
      rintro e W3 ⟨h3, hk3⟩
      have HR3 := hide (HRK.out _ _ hRr.out hk3)
      have HS3 : Hid (W.heap.size ≤ W3.heap.size) := hide (Nat.le_trans hSz.out hk3.size)
      clear hy hRR hRr hJr hk3 hSz
      rcases h3 with ⟨rfl, hJ3⟩ | ⟨rfl, hJ3⟩
      · have HJ3 := hide hJ3
        clear hJ3
        gi_wp2
        refine ⟨⟨d, k + 1, rfl, by omega, hide (Nat.lt_trans HDL.out hrb.out), hide HST.out.2.2.2, hide (by rw [HB.out]; exact HJ3.out), HR3, HS3⟩, ?_⟩
        simp only [intOf, Int.toNat_natCast]
        exact HDL.out
      · have HJ3 := hide hJ3
        clear hJ3
        gi_wp2
        refine bodyPost_ret (results_none rfl _ _ _) rfl ?_
        exact ⟨⟨_, rfl⟩, HR3.out, .inr HJ3.out⟩

end Go.Proofs.YtnbaangnpoblfaaDoor
