/-
  The numbers of the places of a set, as numbers hands them out. No conditions beyond those that each theorem bears.
-/
import Derived.Test.YtkmghlmniahgbaaDoorEa
namespace Go.Proofs.YtkmghlmniahgbaaDoor
open Go.RowKit Go.Shelf

theorem new_cell (W : World) (v : Value) (t : TypeId) : (W.alloc (.cells #[v] t)).cell? ⟨W.heap.size, 0, none⟩ = some v := by
  have h := heap_alloc_new W (.cells #[v] t)
  unfold World.cell?
  simp only [h]
  rfl

theorem old_cell {W : World} {a : Addr} {v : Value} (o : Obj) (h : W.cell? a = some v) : (W.alloc o).cell? a = some v := cell_kept h (World.grownBy_alloc W o none) (fun r e => by cases e)

/-- What 'numbers' hands out for a bit. -/
def NuG (Wd : Nat) (i : Nat) (args : Array Value) (_ : World) : Prop := args = #[.int .i64 (num Wd i : Nat)]

/-- What it has captured, and the table that it reads. -/
structure NuR (bp bw M Wd : Nat) (W : World) : Prop where
  p : EaR bp M W
  w : W.cell? ⟨bw, 0, none⟩ = some (.int .i64 (Wd : Nat))
  t : TzT W

def NuT (bp bw : Nat) (k : Nat) : Prop := k = bp ∨ k = bw ∨ k = 1

theorem NuR.keeps {bp bw M Wd : Nat} {X : Nat → Prop} {A B : World} (h : NuR bp bw M Wd A) (hk : Keeps X A B) (hX : ∀ k, X k → ¬ NuT bp bw k) : NuR bp bw M Wd B :=
  ⟨hk.cell h.p (fun e => hX _ e (Or.inl rfl)), hk.cell h.w (fun e => hX _ e (Or.inr (Or.inl rfl))), h.t.keeps hk (fun e => hX _ e (Or.inr (Or.inr rfl)))⟩

theorem NuR.lt {bp bw M Wd : Nat} {A : World} (h : NuR bp bw M Wd A) : ∀ k, NuT bp bw k → k < A.heap.size := by
  rintro k (rfl | rfl | rfl)
  · exact World.block_lt_of_cell? A _ h.p
  · exact World.block_lt_of_cell? A _ h.w
  · exact h.t.lt

attribute [local irreducible] bln num
attribute [local go_sem] Oper.semAt_some wide_fn wide_fn0 wide_depth

set_option maxRecDepth 100000 in
set_option maxHeartbeats 4000000 in
theorem numbers1_seq (bp bw M Wd : Nat) (hM : M < 2 ^ 64) (hWd : Wd ≤ 10) :
    SeqQ Tryd.prog 49 #[.pointer (some ⟨bp, 0, none⟩), .pointer (some ⟨bw, 0, none⟩)] (NuG Wd) (bln M 64) (NuR bp bw M Wd) (NuT bp bw) 4 := by
  intro l X J Jx W hR hX hJ hJx hY h0
  have HR := hide hR
  have HLT := hide hR.lt
  have cp : W.cell? ⟨bp, 0, none⟩ = some (.int .u64 (M : Nat)) := hR.p
  have HFI := hide (fun k hk W1 h1 => first_any k Wd hk hWd W1 h1)
  have HM := hide hM
  have HX := hide hX
  have HJ := hide hJ
  have HJX := hide hJx
  have HY := hide hY
  have HJ0 := hide h0
  clear hR hX hJ hJx hY h0 hM
  refine callsIn_of_wp_marks Tryd.func49 rfl trivial ?_ rfl
  simp only [Tryd.ntmps49, List.size_toArray, List.length_cons, List.length_nil, Nat.reduceAdd, Nat.reduceSub, Array.replicate_succ, Array.replicate_zero, List.push_toArray, List.append_toArray, List.nil_append, List.cons_append]
  refine wpIn_wide.2 ?_
  replace cp := old_cell (Obj.cells #[Value.func (Fn.yield l) #[] #[]] 51) cp
  go_wp2_with fail
  refine (each_any M _).mono ?_
  rintro e w1 ⟨rfl, hw1⟩
  clear cp
  obtain ⟨w2, hw2⟩ : ∃ w2, ((W.alloc (Obj.cells #[Value.func (Fn.yield l) #[] #[]] 51)).alloc (.cells #[.int .u64 (M : Nat)] 53)) = w2 := ⟨_, rfl⟩
  rw [hw2] at hw1
  have B2 : Below W.heap.size W w2 := by rw [← hw2]; exact ((Below.refl _ W).alloc (Nat.le_refl _) _).alloc (by simp) _
  have s2 : w2.heap.size = W.heap.size + 2 := by rw [← hw2]; simp
  have cy : w2.cell? ⟨W.heap.size, 0, none⟩ = some (.func (.yield l) #[] #[]) := by rw [← hw2]; exact old_cell _ (new_cell W _ 51)
  have ce : EaR (W.heap.size + 1) M w2 := by
    rw [← hw2]
    have := new_cell (W.alloc (Obj.cells #[Value.func (Fn.yield l) #[] #[]] 51)) (.int .u64 (M : Nat)) 53
    rw [World.size_alloc] at this
    exact this
  have R2 : NuR bp bw M Wd w2 := HR.out.keeps (X := fun _ => False) (Keeps.of_all B2) (fun _ e => e.elim)
  have J2 := HJ.out _ _ _ HJ0.out (Keeps.of_all B2)
  clear hw2
  subst w1
  go_wp2_with fail
  refine (wpIn_wide (n := 1)).1 (wp_range_q (gf := 58) (lb := #[.pointer (some ⟨W.heap.size + 1, 0, none⟩)]) (G := EaG) (xs := bln M 64) (R := EaR (W.heap.size + 1) M) (T := fun k => k = W.heap.size + 1) (c := 0) (by simp [Act.eval]) (enters_of Tryd.func58 (by kernel_rfl) rfl)
    (each1_seq (W.heap.size + 1) M HM.out) (fun k hk => by omega) (fun A B hA hk => hk.cell hA (fun e => e rfl)) ce X (fun k hk => ⟨fun e => (HX.out k hk).2 (by omega), fun e => (HX.out k hk).2 (by omega)⟩) ?_
    (fun pre W' => J pre W' ∧ W'.cell? ⟨W.heap.size, 0, none⟩ = some (.func (.yield l) #[] #[]) ∧ NuR bp bw M Wd W') (fun d W' => d = .ret ∧ Jx W' ∧ NuR bp bw M Wd W') ?_ ?_ ⟨J2, cy, R2⟩ ?_ ?_ ?_)
  · rintro x args W' hG
    rw [hG]; rfl
  · rintro s A B ⟨h1, h2, h3⟩ hb
    exact ⟨HJ.out _ _ _ h1 (hb.mono (fun k _ e => by omega)), hb.cell h2 (fun e => by dsimp only at e; omega), h3.keeps hb (fun k e ht => by have := HLT.out k ht; omega)⟩
  · rintro d A B ⟨h1, h2, h3⟩ hb
    exact ⟨h1, HJX.out _ _ h2 (hb.mono (fun k _ e => by omega)), h3.keeps hb (fun k e ht => by have := HLT.out k ht; omega)⟩
  · rintro l2 pre x args W3 hl2 ⟨rec, hrec⟩ ⟨hJ3, hy3, hR3⟩ hpre hG hsz3
    have hx64 : x < 64 := (mem_bln.1 (hpre.subset (by simp))).1
    obtain rfl : args = #[.int .u64 (2 ^ x : Nat)] := hG
    obtain ⟨K2, hK2⟩ : ∃ K2, (2 ^ x : Nat) = K2 := ⟨_, rfl⟩
    have HC := hide (HFI.out x hx64)
    rw [hK2] at HC ⊢
    have HN : Hid (x / 8 * Wd + x % 8 = num Wd x) := hide (by rw [num])
    rw [HN.out] at HC
    have HPR := hide hpre
    have HJ3 := hide hJ3
    have HY3 := hide hy3
    have HR3 := hide hR3
    have HS3 : Hid (W.heap.size + 4 ≤ W3.heap.size) := hide (by omega)
    have hl3 : l2 = W.heap.size + 3 := by omega
    clear hJ3 hy3 hR3 hpre hsz3 hrec hK2 hl2 HN
    gi_wp2
    refine ⟨Keeps.refl _ _, ?_⟩
    intro W4 hk4
    have HK4 := hide hk4
    have HJ4 := hide (HJ.out _ _ _ HJ3.out (hk4.mono (fun k _ e => by omega)))
    have HR4 : Hid (NuR bp bw M Wd W4) := hide (HR3.out.keeps hk4 (fun k e ht => by have := HLT.out k ht; omega))
    have HY4 : Hid (W4.cell? ⟨W.heap.size, 0, none⟩ = some (.func (.yield l) #[] #[])) := hide (hk4.cell HY3.out (fun e => by simp at e; omega))
    have HS4 : Hid (W.heap.size + 4 ≤ W4.heap.size) := hide (Nat.le_trans HS3.out hk4.size)
    clear hk4 HJ3 HR3 HY3 HS3
    gi_wp2
    refine AnyR.region (S := fun W5 => W5.cell? ⟨W.heap.size, 0, none⟩ = some (.func (.yield l) #[] #[]) ∧ NuR bp bw M Wd W5) (by kernel_rfl) ?_
    change AnyR _ _ _ _ _ _ _ _ _ _ (World.drew _)
    have SW : W4.drew.cell? ⟨W.heap.size, 0, none⟩ = some (.func (.yield l) #[] #[]) ∧ NuR bp bw M Wd W4.drew := ⟨HY4.out, HR4.out.keeps (X := fun _ => False) (Keeps.refl _ W4).drew (fun _ e => e.elim)⟩
    refine AnyR.take (by kernel_rfl) (i := 0) (v := .func (.yield l) #[] #[]) rfl (by kernel_rfl) (by kernel_rfl) (by kernel_rfl) (fun _ _ _ h => h) (Or.inl ⟨by rfl, ?_⟩) SW ?_
    · intro W5 hW5
      have x0 := hW5.1
      go_simp <;> first | done | rfl | (rw [IntKind.wrap_i64]; omega) | omega
    go_simp
    refine AnyR.take (by kernel_rfl) (i := 1) (v := .int .u64 (K2 : Nat)) rfl (by kernel_rfl) (by kernel_rfl) (by kernel_rfl) (fun _ _ _ h => h) (Or.inl ⟨by rfl, ?_⟩) SW ?_
    · intro W5 hW5
      go_simp <;> first | done | rfl | (rw [IntKind.wrap_i64]; omega) | omega
    go_simp
    refine AnyR.take (by kernel_rfl) (i := 2) (v := .int .i64 (Wd : Nat)) rfl (by kernel_rfl) (by kernel_rfl) (by kernel_rfl) (fun _ _ _ h => h) (Or.inl ⟨by rfl, ?_⟩) SW ?_
    · intro W5 hW5
      have x0 := hW5.2.w
      go_simp <;> first | done | rfl | (rw [IntKind.wrap_i64]; omega) | omega
    go_simp
    refine AnyR.one (i := 3) (by kernel_rfl) rfl (by rfl) ?_
    intro K1 hK1
    refine AnyR.plain (fun c e => by cases e) ?_
    go_simp
    refine (HC.out _ SW.2.t).mono ?_
    rintro e w5 ⟨rfl, hw5⟩
    subst w5
    refine hK1.out _ _ SW (fun SW => ?_)
    clear hK1 K1
    go_simp
    refine AnyR.one (i := 4) (by kernel_rfl) rfl (by rfl) ?_
    intro K1 hK1
    refine AnyR.yields rfl rfl rfl (HY.out pre x _ W4.drew (HJ.out _ _ _ HJ4.out (Keeps.refl _ W4).drew) HPR.out rfl HS4.out) ?_
    rintro e w6 ⟨hcase, hk6⟩
    have S6 : w6.cell? ⟨W.heap.size, 0, none⟩ = some (.func (.yield l) #[] #[]) ∧ NuR bp bw M Wd w6 := ⟨hk6.cell SW.1 (fun e => (HX.out _ e).2 (by simp)), SW.2.keeps hk6 (fun k e => (HX.out k e).1)⟩
    have HK6 : Hid (Keeps X W4 w6) := hide ((Keeps.refl X W4).drew.trans hk6)
    rcases hcase with ⟨rfl, hJ6⟩ | ⟨rfl, hJ6⟩
    · refine ⟨_, rfl, hK1.out _ _ S6 (fun SW => ?_)⟩
      clear hK1 K1
      go_simp
      refine AnyR.take (by kernel_rfl) (i := 5) (v := .bool false) rfl (by kernel_rfl) (by kernel_rfl) (by kernel_rfl) (fun _ _ _ h => h) (Or.inl ⟨by rfl, ?_⟩) SW ?_
      · intro W5 hW5
        go_simp <;> first | done | rfl | (rw [IntKind.wrap_i64]; omega) | omega
      go_simp
      refine AnyR.done (by kernel_rfl) ?_ _
      have HJ6 := hide hJ6
      have HS6 := hide S6
      clear hJ6 S6 SW hk6
      gi_wp2
      exact ⟨HK6.out, HJ6.out, HS6.out.1, HS6.out.2⟩
    · refine ⟨_, rfl, hK1.out _ _ S6 (fun SW => ?_)⟩
      clear hK1 K1
      go_simp
      refine AnyR.take (by kernel_rfl) (i := 5) (v := .bool true) rfl (by kernel_rfl) (by kernel_rfl) (by kernel_rfl) (fun _ _ _ h => h) (Or.inl ⟨by rfl, ?_⟩) SW ?_
      · intro W5 hW5
        go_simp <;> first | done | rfl | (rw [IntKind.wrap_i64]; omega) | omega
      go_simp
      refine AnyR.done (by kernel_rfl) ?_ _
      have HJ6 := hide hJ6
      have HS6 := hide S6
      clear hJ6 S6 SW hk6
      gi_wp2
      exact ⟨HK6.out, rfl, HJ6.out, HS6.out.2⟩
  · rintro D W3 hD ⟨hJ3, _, hR3⟩ _ hK
    go_wp2
    refine ⟨by simp, .inl ⟨_, _, rfl, run_takeDeferred hK, ?_⟩⟩
    refine ⟨_, results_none rfl _ _ _, ⟨_, rfl⟩, hR3.keeps (X := fun k => k = D) (Keeps.put (X := fun k => k = D) (Keeps.refl _ W3) rfl _) (fun k e ht => by have := HLT.out k ht; omega), .inl (HJ.out _ _ _ hJ3 (Keeps.put (Keeps.refl _ W3) (by omega) _))⟩
  · rintro d D W3 hD ⟨rfl, hJ3, hR3⟩ _ hK
    refine wpIn_wide.2 ?_
    go_wp2
    refine ⟨by simp, .inl ⟨_, _, rfl, run_takeDeferred hK, ?_⟩⟩
    refine ⟨_, results_none rfl _ _ _, ⟨_, rfl⟩, hR3.keeps (X := fun k => k = D) (Keeps.put (X := fun k => k = D) (Keeps.refl _ W3) rfl _) (fun k e ht => by have := HLT.out k ht; omega), .inr (HJX.out _ _ hJ3 (Keeps.put (Keeps.refl _ W3) (by omega) _))⟩

end Go.Proofs.YtkmghlmniahgbaaDoor
