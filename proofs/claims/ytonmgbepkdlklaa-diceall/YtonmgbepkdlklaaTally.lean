/-
  dice.tally: how often each answer is given. No conditions beyond those that each theorem bears.
-/
import Derived.Test.YtonmgbepkdlklaaThrow
import Derived.Test.YtonmgbepkdlklaaWays
import Derived.Laws.EntriesVeiled
namespace Go.Proofs.Ytonmgbepkdlklaa
open Go.RowKit

/-- How often each answer from the least on is given. -/
def tl (F : List Nat → Int) (least : Int) (M : Nat) (ds : List Nat) : List Nat := (List.range M).map (fun p => cntT ds (fun t => hit F least p t))

theorem tl_length (F : List Nat → Int) (least : Int) (M : Nat) (ds : List Nat) : (tl F least M ds).length = M := by simp [tl]

theorem tl_get (F : List Nat → Int) (least : Int) (M : Nat) (ds : List Nat) (p : Nat) (h : p < M) : (tl F least M ds).getD p 0 = cntT ds (fun t => hit F least p t) := by
  simp [tl, List.getD, h]

set_option maxRecDepth 100000 in
set_option maxHeartbeats 8000000 in
theorem tally_any (da : Option Addr) (dc M ag : Nat) (ab : Array Value) (least most : Int) (ds : List Nat) (n : Nat) (hn : ds.length = n) (hn0 : 0 < n) (hn1000 : n ≤ 1000) (F : List Nat → Int) (w : World)
    (eg : ∀ args w, (callFunc ag args).run Try.prog w = .ok (.enter ag args) w) (R0 : Rd w da n dc (toI ds)) (hmost : most - least + 1 = M) (hl1 : -1000000000 ≤ least) (hl2 : least ≤ 1000000000) (hM : M ≤ 1000000)
    (hA : ∀ W L SB, Below w.heap.size w W → w.heap.size ≤ SB → Blk W SB L → L.length = n → Ok ds n L → Calls Try.prog ag (#[.slice (some ⟨SB, 0, none⟩) n n] ++ ab) W fun e W' => e = .returned (.int .i64 (F L)) ∧ Below W.heap.size W W')
    (hF : ∀ L, L.length = n → Ok ds n L → least ≤ F L ∧ F L < least + M) (hd1000 : ∀ i, ds.getD i 0 ≤ 1000) (hprod : prod ds ≤ 1000000000) :
    Calls Try.prog 27 #[.func (.func ag) #[] ab, .int .i64 least, .int .i64 most, .slice da n dc] w fun e w' => ∃ b, e = .returned (.slice (some ⟨b, 0, none⟩) M M) ∧ Blk w' b (tl F least M ds) ∧ w.heap.size ≤ b ∧ Below w.heap.size w w' := by
  obtain ⟨i0, hi, hz0, hz1, hz2⟩ := info_parts Try.info3
  have hcm := R0.max
  have hcn := R0.cap
  unfold maxLen at hcm
  have hM1 : most - least + 1 = (M : Int) := hmost
  have hmo1 : most ≤ 2000000000 := by omega
  have hmo2 : -2000000000 ≤ most := by omega
  have hmm : M ≤ maxLen := by unfold maxLen; omega
  have hby : i0.bytes * M ≤ 281474976710656 := by rw [hz2]; omega
  have HR0 := hide R0
  have HA := hide hA
  have HF := hide hF
  have HD := hide hd1000
  have HP := hide hprod
  have HN := hide hn
  clear R0 hA hF hd1000 hprod hn hmost
  go_enter Try.func27, Try.ntmps27
  go_wp2_with (at_make; refine wpList_make_full _ rfl _ _ 22 rfl w.heap.size 3 i0 (.int .i64 0) 1 Try.underlying22 hi hz0 hz1 _ _ _ _ M rfl rfl (by omega) (by omega) hby hmm (by simp; omega) ?_)
  intro w1 hown hgrow
  have B0 : Below w.heap.size w (((w.alloc (.cells #[.func (.func ag) #[] ab] 44)).alloc (.cells #[.int .i64 least] 3)).alloc (.cells #[.slice da n dc] 22)) := (((Below.refl _ _).alloc (Nat.le_refl _) _).alloc (by simp) _).alloc (by simp; omega) _
  have c0 : w1.cell? ⟨w.heap.size, 0, none⟩ = some (.func (.func ag) #[] ab) := hgrow.cell (by go_simp) (by simp)
  have c1 : w1.cell? ⟨w.heap.size + 1, 0, none⟩ = some (.int .i64 least) := hgrow.cell (by go_simp) (by simp)
  have c2 : w1.cell? ⟨w.heap.size + 1 + 1, 0, none⟩ = some (.slice da n dc) := hgrow.cell (by go_simp) (by simp)
  have HB1 := hide (B0.grown hgrow (by simp; omega) (fun k hk => by simp at hk))
  rw [made_ints] at hown
  have HT1 := hide (Blk.of_own hown)
  have hs1 : w.heap.size + 3 < w1.heap.size := HT1.out.lt
  clear B0 hgrow hown
  obtain ⟨P, hP⟩ : ∃ P, w.heap.size = P := ⟨_, rfl⟩
  rw [hP] at c0 c1 c2 HT1 hs1
  obtain ⟨Q, hQ⟩ : ∃ Q, w1.heap.size = Q := ⟨_, rfl⟩
  have hnn : (n : Int) ≥ 0 := by omega
  have hmm2 : n ≤ maxLen := by unfold maxLen; omega
  have hby2 : i0.bytes * n ≤ 281474976710656 := by rw [hz2]; omega
  rw [hQ] at hs1
  simp only [hP]
  have o2 := fun o => old_cell o c2
  go_wp2_with (at_make; refine wpList_make_full _ rfl _ _ 22 rfl w.heap.size 3 i0 (.int .i64 0) 1 Try.underlying22 hi hz0 hz1 _ _ _ _ n rfl rfl (by omega) (by omega) hby2 hmm2 (by simp; omega) ?_)
  intro w2 hown hgrow
  have B2 : Below w1.heap.size w1 (w1.alloc (.cells #[.slice (some ⟨P + 1 + 1 + 1, 0, none⟩) M M] 22)) := (Below.refl _ _).alloc (Nat.le_refl _) _
  have B3 : Below w1.heap.size w1 w2 := B2.grown hgrow (by simp) (fun k hk => by simp at hk)
  have d0 := (B3.cell (p := ⟨P, 0, none⟩) (by show P < w1.heap.size; omega)).trans c0
  have d1 := (B3.cell (p := ⟨P + 1, 0, none⟩) (by show P + 1 < w1.heap.size; omega)).trans c1
  have d2 := (B3.cell (p := ⟨P + 1 + 1, 0, none⟩) (by show P + 1 + 1 < w1.heap.size; omega)).trans c2
  have d3 : w2.cell? ⟨Q, 0, none⟩ = some (.slice (some ⟨P + 1 + 1 + 1, 0, none⟩) M M) := hgrow.cell (by rw [← hQ]; go_simp) (by simp)
  rw [made_ints] at hown
  have HT2 := hide (HT1.out.below B3 (by omega))
  have HS2 := hide (Blk.of_own hown)
  have HB2 := hide (HB1.out.trans (B3.mono (by omega)))
  have hs2 : Q + 1 < w2.heap.size := HS2.out.lt
  clear B2 B3 hgrow hown c0 c1 c2 o2 HT1 HB1
  obtain ⟨R, hR⟩ : ∃ R, w2.heap.size = R := ⟨_, rfl⟩
  rw [hR] at hs2
  clear hQ
  go_wp2_with fail
  generalize hw3 : (w2.alloc (Obj.cells #[Value.slice (some ⟨Q + 1, 0, none⟩) n n] 22)).alloc (.cells #[.func (.func 40) #[] #[.pointer (some ⟨P + 1 + 1, 0, none⟩), .pointer (some ⟨Q, 0, none⟩), .pointer (some ⟨P, 0, none⟩), .pointer (some ⟨R, 0, none⟩), .pointer (some ⟨P + 1, 0, none⟩), .pointer (some ⟨R + 1, 0, none⟩)]] 49) = w3
  have B4 : Below w2.heap.size w2 w3 := by rw [← hw3]; exact ((Below.refl _ _).alloc (Nat.le_refl _) _).alloc (by simp) _
  have g0 : w3.cell? ⟨P, 0, none⟩ = _ := (B4.cell (by show P < w2.heap.size; omega)).trans d0
  have g1 : w3.cell? ⟨P + 1, 0, none⟩ = _ := (B4.cell (by show P + 1 < w2.heap.size; omega)).trans d1
  have g2 : w3.cell? ⟨P + 1 + 1, 0, none⟩ = _ := (B4.cell (by show P + 1 + 1 < w2.heap.size; omega)).trans d2
  have g3 : w3.cell? ⟨Q, 0, none⟩ = _ := (B4.cell (by show Q < w2.heap.size; omega)).trans d3
  have g4 : w3.cell? ⟨R, 0, none⟩ = some (.slice (some ⟨Q + 1, 0, none⟩) n n) := by rw [← hw3]; refine old_cell _ ?_; rw [← hR]; exact new_cell _ _ _
  have g5 : w3.cell? ⟨R + 1, 0, none⟩ = some (.func (.func 40) #[] #[.pointer (some ⟨P + 1 + 1, 0, none⟩), .pointer (some ⟨Q, 0, none⟩), .pointer (some ⟨P, 0, none⟩), .pointer (some ⟨R, 0, none⟩), .pointer (some ⟨P + 1, 0, none⟩), .pointer (some ⟨R + 1, 0, none⟩)]) := by
    have h1 := new_cell (w2.alloc (Obj.cells #[Value.slice (some ⟨Q + 1, 0, none⟩) n n] 22)) (.func (.func 40) #[] #[.pointer (some ⟨P + 1 + 1, 0, none⟩), .pointer (some ⟨Q, 0, none⟩), .pointer (some ⟨P, 0, none⟩), .pointer (some ⟨R, 0, none⟩), .pointer (some ⟨P + 1, 0, none⟩), .pointer (some ⟨R + 1, 0, none⟩)]) 49
    rw [hw3, show (w2.alloc (Obj.cells #[Value.slice (some ⟨Q + 1, 0, none⟩) n n] 22)).heap.size = R + 1 by simp [hR]] at h1
    exact h1
  have HT3 := hide (HT2.out.below B4 (by omega))
  have HS3 := hide (HS2.out.below B4 (by omega))
  have HB3 := hide (HB2.out.trans (B4.mono (by omega)))
  clear d0 d1 d2 d3 hw3 B4 HT2 HS2 HB2
  have hK : ∀ W, Keeps (fun k => k = P + 1 + 1 + 1 ∨ k = Q + 1) w3 W → Below w.heap.size w W := fun W hk => HB3.out.trans (hk.below HB3.out.size (fun k h => by rw [hP] at h; omega))
  have E3 : Env w3 (P + 1 + 1) Q P R (P + 1) (R + 1) (P + 1 + 1 + 1) (Q + 1) da dc n M ag ab least := ⟨g2, g3, g0, g4, g1, g5⟩
  have hdab : ∀ b off, da = some ⟨b, off, none⟩ → b < P := fun b off e => by
    obtain ⟨b', off', e', hc⟩ := HR0.out.cells hn0
    rw [e] at e'
    simp only [Option.some.injEq, Addr.mk.injEq] at e'
    obtain ⟨rfl, rfl, _⟩ := e'
    have := World.block_lt_of_cell? w _ (hc 0 hn0)
    rw [← hP]
    exact this
  have HK := hide hK
  have HDA := hide hdab
  clear hK hdab
  refine (throw_any (P + 1 + 1) Q P R (P + 1) (R + 1) (P + 1 + 1 + 1) (Q + 1) da dc M ag ab least ds n HN.out hn1000 F w3 eg E3 (HR0.out.mono HB3.out)
    (fun b hb => by simp only [List.mem_cons, List.not_mem_nil, or_false] at hb; rcases hb with rfl | rfl | rfl | rfl | rfl | rfl <;> omega)
    (fun b off e => by have := HDA.out b off e; omega) (by omega)
    (fun W L hk hL hl hO => HA.out W L (Q + 1) (HK.out W hk) (by omega) hL hl hO) HF.out (by omega) HD.out n 0 (by omega) w3 (List.replicate M 0) (List.replicate n 0) (Keeps.refl _ _) HT3.out (by simp) HS3.out (by simp) (fun j hj => by omega)
    (fun p => by rw [rep0, List.drop_zero, Nat.zero_add]; exact HP.out)).mono ?_
  rintro e w4 ⟨rfl, hk4, T4, L4, hT4, hTl4, hL4, hLl4, -, hTe4⟩
  have g6 := hk4.cell g3 (by show ¬ (Q = _ ∨ Q = _); omega)
  have HT4 := hide hT4
  have HTF : Hid (T4 = tl F least M ds) := hide (ext_getD (by rw [hTl4, tl_length]) (fun j hj => by
    rw [hTl4] at hj
    rw [hTe4 j hj, rep0, tl_get _ _ _ _ _ hj, Nat.zero_add, List.drop_zero, List.take_zero]
    rfl))
  have HB4 := hide (HK.out w4 hk4)
  clear hk4 hT4 hTl4 hL4 hLl4 hTe4 g0 g1 g2 g3 g4 g5 E3
  go_wp2_with fail
  go_ret
  rw [HTF.out] at HT4
  exact ⟨_, rfl, HT4.out, by omega, HB4.out⟩

end Go.Proofs.Ytonmgbepkdlklaa
