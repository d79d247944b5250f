/-
  Count: how many boards are reached in just so many moves. No conditions beyond those that each theorem bears.
-/
import Derived.Test.YticalbpohhpjaaaDoorCn
namespace Go.Proofs.YticalbpohhpjaaaDoor
open Go.RowKit

theorem nxt_nil {W H : Nat} {A : List (List Int × Int)} : nxt W H A [] = (A, []) := rfl

theorem rgs_nil {W H N k : Nat} (h : (rgs W H N k).2 = []) : ∀ d, (rgs W H N (k + d)).2 = []
  | 0 => h
  | d + 1 => by
    have ih := rgs_nil h d
    show (nxt W H (rgs W H N (k + d)).1 (rgs W H N (k + d)).2).2 = []
    rw [ih, nxt_nil]

/-- Behind so many rings there is none. -/
structure Ends (W H N M : Nat) : Prop where
  none : (rgs W H N M).2 = []
  some : ∀ k, k < M → (rgs W H N k).2 ≠ []
  len : ∀ k, k < M → (rgs W H N k).2.length ≤ 1000

theorem Ends.all {W H N M : Nat} (h : Ends W H N M) (k : Nat) : (rgs W H N k).2.length ≤ 1000 := by
  by_cases hk : k < M
  · exact h.len k hk
  · have := rgs_nil h.none (k - M)
    rw [show M + (k - M) = k by omega] at this
    rw [this]; simp

theorem CnI.keeps {W H N steps fb sb nb k : Nat} {X : Nat → Prop} {w w' : World} (h : CnI W H N steps fb sb nb k w) (hk : Keeps X w w') (h1 : ¬ X fb) (h2 : ¬ X sb) (h3 : ¬ X nb) : CnI W H N steps fb sb nb k w' :=
  ⟨(hk.block _ (Array.getElem?_eq_some_iff.1 h.far).1 h1).trans h.far, (hk.block _ (Array.getElem?_eq_some_iff.1 h.st).1 h2).trans h.st, (hk.block _ (Array.getElem?_eq_some_iff.1 h.n).1 h3).trans h.n⟩

theorem CnI.below {W H N steps fb sb nb k : Nat} {w w' : World} (h : CnI W H N steps fb sb nb k w) (hk : Below w.heap.size w w') : CnI W H N steps fb sb nb k w' :=
  h.keeps (X := fun _ => False) (Keeps.of_all hk) (fun h => h) (fun h => h) (fun h => h)

set_option maxRecDepth 100000 in
set_option maxHeartbeats 8000000 in
theorem Count_yes (W H N M steps : Nat) (w : World) (hT : Tab w) (hE : Ends W H N M) (hu : 2 ≤ W ∧ W ≤ 5) (hh : 2 ≤ H ∧ H ≤ 5) (hN : W * H = N) (hN6 : N ≤ 6) (hs : steps ≤ 40) :
    Calls Tryd.prog 20 #[.int .i64 W, .int .i64 H, .int .i64 steps] w fun e w' => e = .returned (.tuple #[.int .i64 (rlen W H N steps : Nat), .int .i64 0]) ∧ Below w.heap.size w w' := by
  have hb4 := len_bd hu hh hN
  have hW : decide (2 ≤ (W : Int) ∧ (W : Int) ≤ 5) = true := decide_eq_true (by omega)
  have hH : decide (2 ≤ (H : Int) ∧ (H : Int) ≤ 5) = true := decide_eq_true (by omega)
  have hS : decide (N ≤ 6) = true := decide_eq_true hN6
  obtain ⟨w1, hw1⟩ : ∃ w1, w.alloc (.cells #[.int .i64 (steps : Int)] 3) = w1 := ⟨_, rfl⟩
  have b1 : Below w.heap.size w w1 := by rw [← hw1]; exact (Below.refl _ w).alloc (Nat.le_refl _) _
  have s1 : w1.heap[w.heap.size]? = some (.cells #[.int .i64 (steps : Int)] 3 (0, 0)) := by rw [← hw1]; exact heap_alloc_new w _
  have hz1 : w1.heap.size = w.heap.size + 1 := by rw [← hw1]; simp
  obtain ⟨c1, -⟩ := one_cell s1
  have HS1 := hide s1
  have HB1 := hide b1
  have HT1 := hide (hT.mono b1)
  have HZ1 := hide hz1
  clear hT s1 b1 hz1
  go_enter Tryd.func20, Tryd.ntmps20
  go_upto_region 1 with fail
  clear hw1
  go_wp2_with fail
  refine (isSide_any W _).mono ?_
  rintro e wx ⟨rfl, hwx⟩
  subst wx
  rw [hW]
  go_wp2_with fail
  refine (isSide_any H _).mono ?_
  rintro e wx ⟨rfl, hwx⟩
  subst wx
  rw [hH]
  go_wp2_with fail
  refine (isSmall_any W H N _ hN hb4.2).mono ?_
  rintro e wx ⟨rfl, hwx⟩
  subst wx
  rw [hS]
  clear hW hH hS
  go_upto_region 6 with fail
  obtain ⟨w2, hw2⟩ : ∃ w2, (w1.alloc (.cells #[.int .i64 0] 3)).alloc (.cells #[.int .i64 0] 3) = w2 := ⟨_, rfl⟩
  rw [hw2]
  have b2 : Below w1.heap.size w1 w2 := by rw [← hw2]; exact ((Below.refl _ w1).alloc (Nat.le_refl _) _).alloc (by simp) _
  have n2 : w2.heap[w1.heap.size]? = some (.cells #[.int .i64 0] 3 (0, 0)) := by
    rw [← hw2, Below.heap_alloc (w1.alloc (.cells #[.int .i64 0] 3)) _ w1.heap.size (by simp)]
    exact heap_alloc_new w1 _
  have f2 : w2.heap[w1.heap.size + 1]? = some (.cells #[.int .i64 0] 3 (0, 0)) := by
    rw [← hw2]
    have := heap_alloc_new (w1.alloc (.cells #[.int .i64 0] 3)) (.cells #[.int .i64 0] 3)
    rw [World.size_alloc] at this
    exact this
  have s2 : w2.heap[w.heap.size]? = some (.cells #[.int .i64 (steps : Int)] 3 (0, 0)) := (b2.block _ (by have := HZ1.out; omega)).trans HS1.out
  have hz2 : w1.heap.size + 1 < w2.heap.size := by rw [← hw2]; simp
  have hzz := HZ1.out
  have HB2 : Hid (Below w.heap.size w w2) := hide (HB1.out.trans (b2.mono HB1.out.size))
  have HT2 := hide (HT1.out.mono b2)
  generalize hnbe : w1.heap.size = nb at *
  obtain ⟨sb, hsb⟩ : ∃ sb, w.heap.size = sb := ⟨_, rfl⟩
  have HSB := hide hsb
  rw [hsb] at s2 hzz ⊢
  have hd1 : nb + 1 ≠ sb := by omega
  have hd2 : nb + 1 ≠ nb := by omega
  have hd3 : sb ≠ nb := by omega
  have HI2 : Hid (CnI W H N steps (nb + 1) sb nb 0 w2) := hide ⟨f2, s2, by rw [n2, if_neg (by omega)]; rfl⟩
  have HSW : Hid (w.heap.size ≤ nb) := hide (by rw [hsb]; omega)
  clear hw2 b2 n2 f2 s2 HB1 HT1 HS1 HZ1 c1 hsb hnbe hzz
  go_wp2_with fail
  refine (trayAtHome_any W H N w2 hu hh hN).mono ?_
  rintro e w3 ⟨cb, cc, rfl, bw, hcb, b3⟩
  have HI3 := hide (HI2.out.below b3)
  have HB3 := hide (HB2.out.trans (b3.mono HB2.out.size))
  have HT3 := hide (HT2.out.mono b3)
  have HW3 := hide bw
  have hsz3 : nb + 1 < w3.heap.size := by have := b3.size; omega
  clear HI2 HB2 HT2 b3 bw
  obtain ⟨K, hKe⟩ : ∃ K, K = min steps M := ⟨_, rfl⟩
  have HRG := hide (rings_any W H N cb cc 46 K #[.pointer (some ⟨nb + 1, 0, none⟩), .pointer (some ⟨sb, 0, none⟩), .pointer (some ⟨nb, 0, none⟩)] (fun k => decide (k + 1 ≤ steps)) (CnI W H N steps (nb + 1) sb nb) (CnF (nb + 1) nb) w3 HT3.out HW3.out hu hh hN hN6 HI3.out
    (fun k W1 h i hi => by rcases hi with rfl | rfl; exact ⟨_, h.far⟩; exact ⟨_, h.n⟩)
    (fun i hi => by rcases hi with rfl | rfl <;> omega)
    (fun k W1 W2 h hb => h.below hb)
    (fun k W1 W2 mb A h hM hk => h.keeps hk (one_notMap hM ⟨_, h.far⟩) (one_notMap hM ⟨_, h.st⟩) (one_notMap hM ⟨_, h.n⟩))
    (fun k hk => ⟨hE.some k (by omega), decide_eq_true (by omega)⟩)
    (by
      rcases Nat.lt_or_ge steps M with h | h
      · exact .inr (decide_eq_false (by omega))
      · exact .inl (by rw [hKe, Nat.min_eq_right h]; exact hE.none))
    (fun k _ => hE.all k)
    (enters_of Tryd.func46 (by kernel_rfl) rfl)
    (fun k W1 v hk hne hI hv => by
      obtain ⟨a, c, rfl, -, -, -⟩ := hv.form
      exact (count1_any W H N steps (nb + 1) sb nb k a c W1 hI hd1 hd2 hd3 (by omega) (hE.all k)).mono fun e W2 ⟨h1, h2, h3⟩ => ⟨h1, h2, h3.mono (fun i _ h => .inl h)⟩))
  have HFIN : Hid (∀ w', endI W H N (CnI W H N steps (nb + 1) sb nb) K w' → w'.heap[nb]? = some (.cells #[.int .i64 ((rlen W H N steps : Nat) : Int)] 3 (0, 0))) := hide (fun w' h => by
    unfold endI at h
    split at h
    next hR =>
      have h4 := h.n
      rw [if_neg (by omega)] at h4
      have h5 : rlen W H N steps = 0 := by
        have := rgs_nil hR (steps - K)
        rw [show K + (steps - K) = steps by omega] at this
        unfold rlen
        rw [this]; rfl
      rw [h4, h5]
    next hR =>
      have hKs : K = steps := by
        rcases Nat.lt_or_ge steps M with h' | h'
        · omega
        · exact absurd (by rw [hKe, Nat.min_eq_right h']; exact hE.none) hR
      have h4 := h.n
      rw [if_pos (by omega)] at h4
      exact h4)
  clear hE hKe HI3 HT3 HW3
  go_wp2_with fail
  refine HRG.out.mono ?_
  rintro e w4 ⟨mb, rfl, -, hend, hk4⟩
  have n4 := HFIN.out w4 hend
  obtain ⟨cn, -⟩ := one_cell n4
  have HB4 : Hid (Below w.heap.size w w4) := hide (HB3.out.trans ((hk4.mono (Y := fun i => w.heap.size ≤ i) (fun i _ h => by
    have := HSW.out
    have := HB3.out.size
    rcases h with (h | h) | h <;> omega)).below HB3.out.size (fun i hi e => by omega)))
  clear hk4 hend n4 HRG HFIN
  generalize hL : rlen W H N steps = L at *
  have HL := hide hL
  clear hL
  go_wp2_with fail
  go_ret2
  exact ⟨by rw [HL.out]; rfl, HB4.out⟩

end Go.Proofs.YticalbpohhpjaaaDoor
