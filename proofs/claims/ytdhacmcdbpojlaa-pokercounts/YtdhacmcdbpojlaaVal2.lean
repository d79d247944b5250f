/-
  What poker.classByLine answers. No conditions beyond those that each theorem bears.
-/
import Derived.Test.YtdhacmcdbpojlaaVal1
namespace Go.Proofs.Ytdhacmcdbpojlaa
open Go.RowKit Go.Shelf

theorem below4 (w : World) (o1 o2 o3 o4 : Obj) : Below w.heap.size w ((((w.alloc o1).alloc o2).alloc o3).alloc o4) :=
  ((((Below.refl _ w).alloc (Nat.le_refl _) _).alloc (by simp) _).alloc (by simp; omega) _).alloc (by simp; omega) _

set_option maxRecDepth 100000 in
set_option maxHeartbeats 1600000 in
theorem byLine_any (a b c d e s0 s1 s2 s3 s4 : Nat) (ha : a < 52) (hb : b < 52) (hc : c < 52) (hd : d < 52) (he : e < 52) (h0 : s0 < 1000) (h1 : s1 < 1000) (h4 : s4 < 1000) (w : World) :
    Calls Try.prog 42 #[arrN a b c d e, arrN s0 s1 s2 s3 s4] w fun r w' => r = .returned (.int .i64 (byLine (flN a b c d e) (topS s0 s1 s4))) ∧ Below w.heap.size w w' := by
  obtain ⟨fl, hfl⟩ : ∃ fl, flN a b c d e = fl := ⟨_, rfl⟩
  obtain ⟨t, ht⟩ : ∃ t, topS s0 s1 s4 = t := ⟨_, rfl⟩
  have F := flush_any a b c d e ha hb hc hd he
  have T := top_any s0 s1 s2 s3 s4 h0 h1 h4
  rw [hfl] at F ⊢
  rw [ht] at T ⊢
  unfold arrN at F T ⊢
  have HF := hide F
  have HT := hide T
  clear F T hfl ht
  cases fl with
  | true =>
    by_cases hp : 0 < t
    · have hp' : (0 : Int) < (t : Int) := by omega
      go_enter Try.func42, Try.ntmps42
      go_wp2
      go_region_with (first | (go_at_call 43; refine (HT.out _).mono ?_; rintro e w' ⟨rfl, rfl⟩) | (go_at_call 50; refine (HF.out _).mono ?_; rintro e w' ⟨rfl, rfl⟩))
      all_goals go_wp2
      all_goals go_ret
      all_goals refine ⟨?_, by first | exact below4 _ _ _ _ _ | exact (below4 _ _ _ _ _).drew | exact (below4 _ _ _ _ _).drew.drew⟩
      all_goals simp [byLine, hp]
    · obtain rfl : t = 0 := by omega
      go_enter Try.func42, Try.ntmps42
      go_wp2
      go_region_with (first | (go_at_call 43; refine (HT.out _).mono ?_; rintro e w' ⟨rfl, rfl⟩) | (go_at_call 50; refine (HF.out _).mono ?_; rintro e w' ⟨rfl, rfl⟩))
      all_goals go_wp2
      all_goals go_ret
      all_goals refine ⟨?_, by first | exact below4 _ _ _ _ _ | exact (below4 _ _ _ _ _).drew | exact (below4 _ _ _ _ _).drew.drew⟩
      all_goals simp [byLine]
  | false =>
    by_cases hp : 0 < t
    · have hp' : (0 : Int) < (t : Int) := by omega
      go_enter Try.func42, Try.ntmps42
      go_wp2
      go_region_with (first | (go_at_call 43; refine (HT.out _).mono ?_; rintro e w' ⟨rfl, rfl⟩) | (go_at_call 50; refine (HF.out _).mono ?_; rintro e w' ⟨rfl, rfl⟩))
      all_goals go_wp2
      all_goals go_ret
      all_goals refine ⟨?_, by first | exact below4 _ _ _ _ _ | exact (below4 _ _ _ _ _).drew | exact (below4 _ _ _ _ _).drew.drew⟩
      all_goals simp [byLine, hp]
    · obtain rfl : t = 0 := by omega
      go_enter Try.func42, Try.ntmps42
      go_wp2
      go_region_with (first | (go_at_call 43; refine (HT.out _).mono ?_; rintro e w' ⟨rfl, rfl⟩) | (go_at_call 50; refine (HF.out _).mono ?_; rintro e w' ⟨rfl, rfl⟩))
      all_goals go_wp2
      all_goals go_ret
      all_goals refine ⟨?_, by first | exact below4 _ _ _ _ _ | exact (below4 _ _ _ _ _).drew | exact (below4 _ _ _ _ _).drew.drew⟩
      all_goals simp [byLine]

end Go.Proofs.Ytdhacmcdbpojlaa
