/-
  The document's memory tells the mean of a side, and keeps it. No conditions beyond those that each theorem bears.
-/
import Derived.Test.YtmboikpcbkiepaaKAdd
import Derived.Deep.RegionHeld3
namespace Go.Proofs.Ytmboikpcbkiepaa
open Go.RowKit Go.Maps

def sumN (m : List Nat) : Nat → Nat
  | 0 => 0
  | i + 1 => sumN m i + m.getD i 0

set_option maxRecDepth 100000 in
theorem sum_tab : (Ms.all fun m => decide ((sumN m 6 = 0) = (pip m = 0)) && (List.range 7).all fun i => Nat.ble (sumN m i) 3) = true := by decide +kernel

theorem sum_facts {m : List Nat} (hm : m ∈ Ms) : (sumN m 6 = 0 ↔ pip m = 0) ∧ ∀ i, i ≤ 6 → sumN m i ≤ 3 := by
  have h := List.all_eq_true.1 sum_tab m hm
  rw [Bool.and_eq_true, decide_eq_true_eq, List.all_eq_true] at h
  exact ⟨by rw [h.1], fun i hi => Nat.le_of_ble_eq_true (h.2 i (List.mem_range.2 (by omega)))⟩

theorem acc_le {B : Nat} {ps m : List Nat} {p : Nat} (hm : m ∈ Ms) (hp : 1 ≤ p ∧ p ≤ 6) (hB : ∀ z, z ∈ Ms → rfL ps z ≤ B) : ∀ i, i ≤ 6 → ∀ y, acc ps m p i = some y → y ≤ B := by
  intro i
  induction i with
  | zero => intro _ y h; cases h
  | succ i ih =>
    intro hi y h
    rw [acc] at h
    by_cases hc : can m p i = true
    · have hz := hB _ (can_next hm hp (by omega) hc).1
      rw [if_pos hc] at h
      cases ha : acc ps m p i with
      | none => rw [ha] at h; simp only [Option.some.injEq] at h; omega
      | some b => rw [ha] at h; simp only [Option.some.injEq] at h; have := ih (by omega) b ha; omega
    · rw [if_neg hc] at h
      exact ih (by omega) y h

theorem rfL_le : ∀ (ps : List Nat), (∀ p, p ∈ ps → 1 ≤ p ∧ p ≤ 6) → ∀ m, m ∈ Ms → rfL ps m ≤ 304679870005248
  | [], _, m, hm => by rw [rfL]; exact v7_le hm
  | p :: ps, hp, m, hm => by
    by_cases h0 : pip m = 0
    · rw [rfL, if_pos (by rw [h0]; rfl)]; exact Nat.zero_le _
    · have hpp := hp p (by simp)
      have h1 := rfL_cons hm (by omega) hpp ps (Nat.le_refl 6) (by have := (far_facts hm).2; omega)
      cases ha : acc ps m p 6 with
      | none => rw [ha] at h1; simp only [ov] at h1; omega
      | some y =>
        have := acc_le hm hpp (rfL_le ps (fun q hq => hp q (by simp [hq]))) 6 (Nat.le_refl _) y ha
        rw [ha] at h1; simp only [ov] at h1; omega

theorem rf1_le {m : List Nat} (hm : m ∈ Ms) {x y : Nat} (hx : 1 ≤ x ∧ x ≤ 6) (hy : 1 ≤ y ∧ y ≤ 6) : rf1 m x y ≤ 304679870005248 := by
  have l2 : ∀ a b : Nat, (1 ≤ a ∧ a ≤ 6) → (1 ≤ b ∧ b ≤ 6) → rfL [a, b] m ≤ 304679870005248 := fun a b ha hb => rfL_le _ (fun p hp => by
    simp only [List.mem_cons, List.not_mem_nil, or_false] at hp
    rcases hp with rfl | rfl <;> assumption) m hm
  rw [rf1]
  split
  · exact rfL_le _ (fun p hp => by
      simp only [List.mem_cons, List.not_mem_nil, or_false, or_self] at hp
      rw [hp]; exact hx) m hm
  · exact Nat.le_trans (Nat.min_le_left _ _) (l2 x y hx hy)

theorem rfRow_le {m : List Nat} (hm : m ∈ Ms) {x : Nat} (hx : 1 ≤ x ∧ x ≤ 6) : ∀ k, k ≤ 6 → rfRow m x k ≤ k * 304679870005248
  | 0, _ => Nat.zero_le _
  | k + 1, hk => by
    rw [rfRow]
    have h1 := rfRow_le hm hx k (by omega)
    have h2 := rf1_le hm hx (y := k + 1) ⟨by omega, by omega⟩
    omega

theorem rfSum_le {m : List Nat} (hm : m ∈ Ms) : ∀ k, k ≤ 6 → rfSum m k ≤ k * 1828079220031488
  | 0, _ => Nat.zero_le _
  | k + 1, hk => by
    rw [rfSum]
    have h1 := rfSum_le hm k (by omega)
    have h2 := rfRow_le hm (x := k + 1) ⟨by omega, by omega⟩ 6 (Nat.le_refl _)
    omega

theorem v7_sum {m : List Nat} (hm : m ∈ Ms) (h0 : 0 < pip m) : v7 m = 78364164096 + rfSum m 6 / 36 := by
  have h := List.all_eq_true.1 rf_tab m hm
  rw [if_neg (fun e => by have := Nat.eq_of_beq_eq_true e; omega), Bool.and_eq_true] at h
  exact Nat.eq_of_beq_eq_true h.1

theorem v7_zero {m : List Nat} (hm : m ∈ Ms) (h0 : pip m = 0) : v7 m = 0 := by
  unfold v7
  rw [vl_zero hm h0]

theorem Post.wider {P kb : Nat} {w w' : World} {F : Nat → Prop} {Ml : List (List Nat)} (h : Post P kb w F Ml w') : Post (P + 1) kb w F Ml w' := by
  obtain ⟨F', Ml', h1, h2, h3, h4⟩ := h
  exact ⟨F', Ml', h1, h2, h3, fun z hz => by rcases h4 z hz with h | h; exact Or.inl h; exact Or.inr (by omega)⟩

theorem Post.of_below {P kb : Nat} {w w' : World} {F : Nat → Prop} {Ml : List (List Nat)} (h : Ks w kb F Ml) (hb : Below w.heap.size w w') : Post P kb w F Ml w' :=
  ⟨F, Ml, h.below hb (Nat.le_refl _), Keeps.of_all hb, fun _ _ h => h, fun _ h => Or.inl h⟩

/-- The search behind whatever was called before. -/
theorem least_post {P kb q : Nat} (hLe : LeOk P kb q) (hq : 0 < q ∧ q ≤ 4) {m : List Nat} (hm : m ∈ Ms) (hp0 : 0 < pip m) (hpe : pip m ≤ P) {w wr : World} {F : Nat → Prop} {Ml : List (List Nat)} (hPo : Post P kb w F Ml wr) {g c : Nat} (hg : ¬ F g) (hgl : g < w.heap.size) (hR : Rd w (some ⟨g, 0, none⟩) 6 c (cs m)) (ps : List Nat) (hps : ps.length = q) (hpr : ∀ p, p ∈ ps → 1 ≤ p ∧ p ≤ 6) :
    Calls Try.prog 64 #[.pointer (some ⟨kb, 0, none⟩), .slice (some ⟨g, 0, none⟩) (6 : Nat) c, .slice (some ⟨wr.heap.size, 0, none⟩) q q] (wr.alloc (.cells (ivs (cs ps)).toArray 3)) fun e w' => e = .returned (.int .i64 (rfL ps m : Nat)) ∧ Post P kb w F Ml w' := by
  obtain ⟨F1, Ml1, hK1, hk1, hs1, he1⟩ := hPo
  have B4 : Below wr.heap.size wr (wr.alloc (.cells (ivs (cs ps)).toArray 3)) := (Below.refl _ wr).alloc (Nat.le_refl _) _
  have hRb : Rd (wr.alloc (.cells (ivs (cs ps)).toArray 3)) (some ⟨wr.heap.size, 0, none⟩) q q (cs ps) := Rd.of_blk (Blk.new wr 3 (cs ps) _ rfl) (by rw [cs, List.length_map, hps]) (by unfold maxLen; omega)
  refine (hLe ps hps hpr m hm (Or.inr ⟨hp0, hpe, hq.1⟩) _ F1 Ml1 (hK1.below B4 (Nat.le_refl _)) g c (fun e => hg (hs1 g hgl e)) ((hR.block (hk1.block g hgl hg)).mono B4) wr.heap.size 0 q (fun e => by have := hK1.2 _ e; omega) (by simp) hRb).mono ?_
  rintro e w9 ⟨rfl, hp9⟩
  exact ⟨rfl, Post.trans (hk1.alloc _) hs1 he1 hp9⟩

theorem rf1_same {m : List Nat} (x : Nat) : rf1 m x x = rfL [x, x, x, x] m := by
  rw [rf1, if_pos (Nat.beq_refl x)]

theorem rf1_two {m : List Nat} {x y : Nat} (h : x ≠ y) : rf1 m x y = min (rfL [x, y] m) (rfL [y, x] m) := by
  rw [rf1, if_neg (fun e => h (Nat.eq_of_beq_eq_true e))]

theorem rfRow_step {m : List Nat} {x y : Nat} (h : 1 ≤ y) : rfRow m x (y + 1 - 1) = rfRow m x (y - 1) + rf1 m x y := by
  obtain ⟨k, rfl⟩ : ∃ k, y = k + 1 := ⟨y - 1, by omega⟩
  rw [Nat.add_sub_cancel, rfRow, Nat.add_sub_cancel]

theorem rfSum_step {m : List Nat} {x : Nat} (h : 1 ≤ x) : rfSum m (x + 1 - 1) = rfSum m (x - 1) + rfRow m x 6 := by
  obtain ⟨k, rfl⟩ : ∃ k, x = k + 1 := ⟨x - 1, by omega⟩
  rw [Nat.add_sub_cancel, rfSum, Nat.add_sub_cancel]

theorem cs_inj : ∀ {a b : List Nat}, cs a = cs b → a = b
  | [], [], _ => rfl
  | [], _ :: _, h => by cases h
  | _ :: _, [], h => by cases h
  | x :: a, y :: b, h => by
    simp only [cs, List.map_cons, List.cons.injEq] at h
    rw [cs_inj (a := a) (b := b) h.2, show x = y by omega]

attribute [local irreducible] vl lst sd6 endsL sumS rowS one9 endsX fl rA rB pip Ms v7 dv fin rfL acc far can nxt rf1 rfRow rfSum sumN

theorem sumN_succ (m : List Nat) (i : Nat) : sumN m (i + 1) = sumN m i + m.getD i 0 := by rw [sumN]
theorem sumN_zero (m : List Nat) : sumN m 0 = 0 := by rw [sumN]
theorem rfSum_zero (m : List Nat) : rfSum m (1 - 1) = 0 := by rw [Nat.sub_self, rfSum]
theorem rfRow_zero (m : List Nat) (x : Nat) : rfRow m x (1 - 1) = 0 := by rw [Nat.sub_self, rfRow]

set_option maxRecDepth 100000 in
set_option maxHeartbeats 4000000 in
theorem of_succ (P kb : Nat) (hOf : OfOk P kb) (h2 : LeOk P kb 2) (h4 : LeOk P kb 4) : OfOk (P + 1) kb := by
  intro m hm hpm w F Ml hK g c hg hR
  by_cases hlt : pip m < P
  · exact (hOf m hm hlt w F Ml hK g c hg hR).mono (fun _ _ h => ⟨h.1, h.2.wider⟩)
  have HPE : Hid (pip m = P) := hide (by omega)
  have hcm := hR.max
  have hcn := hR.cap
  unfold maxLen at hcm
  have hgl := World.block_lt_of_cell? _ _ (hR.at6 (i := 0) (by omega))
  have HR := hide hR
  have HG := hide hg
  have HK := hide hK
  have HM := hide hm
  obtain ⟨⟨mv, vv, sl, hKn⟩, hKl⟩ := hK
  obtain ⟨ma, mc, rfl, hma1, hma2, hma3⟩ := own_some hKn.men
  obtain ⟨va, vc, rfl, hva1, hva2, hva3⟩ := own_some hKn.means
  have hfew := hKn.few
  have HKN := hide (fun W (hB : Below w.heap.size w W) => hKn.kept (Keeps.of_below hB) (fun i hi => by have := hKl i hi; omega))
  have HSF := hide (sum_facts hm)
  have HC4 := hide (fun (wr : World) (hPo : Post P kb w F Ml wr) (h0 : 0 < pip m) (x : Nat) (hx : 1 ≤ x ∧ x ≤ 6) => least_post h4 (by omega) hm h0 (by omega) hPo hg hgl hR [x, x, x, x] rfl (fun p hp => by
    simp only [List.mem_cons, List.not_mem_nil, or_false, or_self] at hp
    rw [hp]; exact hx))
  have HC2 := hide (fun (wr : World) (hPo : Post P kb w F Ml wr) (h0 : 0 < pip m) (x y : Nat) (hx : 1 ≤ x ∧ x ≤ 6) (hy : 1 ≤ y ∧ y ≤ 6) => least_post h2 (by omega) hm h0 (by omega) hPo hg hgl hR [x, y] rfl (fun p hp => by
    simp only [List.mem_cons, List.not_mem_nil, or_false] at hp
    rcases hp with rfl | rfl <;> assumption))
  obtain ⟨N, hN⟩ : ∃ N, Ml.length = N := ⟨_, rfl⟩
  rw [hN] at hma1 hva1 hfew HKN
  have HN := hide hN
  have HX3 := hide (fun i (hi : i < 6) => (row_facts hm).2.2.2 _ (getD_mem (zs := cs m) (k := i) (by rw [cs, List.length_map, (row_facts hm).2.1]; exact hi)))
  unfold maxLen at hma2 hva2
  have HMA3 := hide hma3
  have HVA3 := hide hva3
  clear hOf h2 h4 hR hpm hlt hm hg hKn hKl hN hma3 hva3
  go_enter Try.func49, Try.ntmps49
  go_wp2_with fail
  go_loopw [5, 6] (fun u v wr => ∃ i : Nat, u = .int .i64 (sumN m i : Nat) ∧ v = .int .i64 i ∧ i ≤ 6 ∧ w = wr) (fun _ v _ => 6 - (intOf v).toNat)
  case atStart => exact ⟨0, by rw [sumN_zero]; rfl, rfl, by omega, rfl⟩
  case round =>
    obtain ⟨i, rfl, rfl, hi6, rfl⟩ := hrel
    by_cases hi : i < 6
    · have hi' : (i : Int) < 6 := by omega
      have hc := HR.out.at6 hi
      have HFS := hide (sumN_succ m i)
      have hs1 := HSF.out.2 i (by omega)
      have hs2 := HSF.out.2 (i + 1) (by omega)
      rw [HFS.out] at hs2
      generalize m.getD i 0 = x at *
      generalize sumN m i = s at *
      go_wp2_with fail
      exact ⟨⟨i + 1, by rw [HFS.out]; rfl, by congr 1, by omega, trivial⟩, by simp [intOf]; omega⟩
    · have hi' : ¬ (i : Int) < 6 := by omega
      have hie : i = 6 := by omega
      subst hie
      rw [show ((6 : Nat) : Int) = (6 : Int) from rfl]
      by_cases hz : sumN m 6 = 0
      · have HV : Hid (v7 m = 0) := hide (v7_zero HM.out (HSF.out.1.1 hz))
        rw [hz]
        go_wp2_with fail
        go_ret
        exact ⟨by rw [HV.out]; rfl, Post.refl HK.out⟩
      · have HP0 : Hid (0 < pip m) := hide (by have : ¬ pip m = 0 := fun e => hz (HSF.out.1.2 e); omega)
        have hsb := HSF.out.2 6 (by omega)
        have hz' : ¬ ((sumN m 6 : Nat) : Int) = 0 := by omega
        clear HSF
        generalize sumN m 6 = s6 at *
        go_wp2_with fail
        clear hz hz'
        go_loopw [7] (fun v wr => ∃ j : Nat, v = .int .i64 j ∧ j ≤ N ∧ Hid (∀ i, i < j → Ml.getD i [] ≠ m) ∧ Hid (Below w.heap.size w wr)) (fun v _ => N - (intOf v).toNat)
        case atStart => exact ⟨0, rfl, by omega, hide (fun i hi => absurd hi (by omega)), hide (Below.refl _ _)⟩
        case round =>
          obtain ⟨j, rfl, hjN, hno, hB⟩ := hrel
          by_cases hj : j < N
          · have hj' : (j : Int) < (N : Int) := by omega
            have hKj := HKN.out wr hB.out
            have kc := (kb_facts hKj.both).1
            obtain ⟨gj, cj, r1, r2, r3, r4, _⟩ := hKj.rows j (by rw [HN.out]; exact hj)
            have hcj := r2.max
            unfold maxLen at hcj
            obtain ⟨gm, rfl⟩ : ∃ gm, ma = some ⟨gm, 0, none⟩ := by
              rcases hKj.men.2 with ⟨_, e0⟩ | ⟨g', cap, cur, e, _⟩
              · have := HN.out; omega
              · simp only [Value.slice.injEq] at e; exact ⟨g', e.1⟩
            have cm : wr.cell? ⟨gm, j, none⟩ = some (.slice (some ⟨gj, 0, none⟩) 6 cj) := by
              have := hKj.men.cells (g := gm) (by rfl) j _ r1
              rwa [Addr.add_lit, Nat.zero_add] at this
            have HSAME := hide (sameInts_any (some ⟨gj, 0, none⟩) (some ⟨g, 0, none⟩) 6 cj 6 c _ _ wr r2 (HR.out.mono hB.out))
            clear r1 r2 hKj
            go_wp2_with fail
            refine HSAME.out.mono ?_
            rintro e w2 ⟨rfl, hw⟩
            have B2 : Below w.heap.size w w2 := by obtain ⟨q, rfl⟩ := hw; exact hB.out.trans (drewN_below _ _ _)
            clear hw HSAME
            by_cases hs : cs (Ml.getD j []) = cs m
            · have HEQ := hide (cs_inj hs)
              rw [show decide (cs (Ml.getD j []) = cs m) = true from by rw [hs]; simp]
              clear hs
              have hK2 := HKN.out w2 B2
              have kv := (kb_facts hK2.both).2.1
              obtain ⟨gv, rfl⟩ : ∃ gv, va = some ⟨gv, 0, none⟩ := by
                rcases hK2.means.2 with ⟨_, e0⟩ | ⟨g', cap, cur, e, _⟩
                · have := HN.out; omega
                · simp only [Value.slice.injEq] at e; exact ⟨g', e.1⟩
              have hVm := v7_le HM.out
              have cv : w2.cell? ⟨gv, j, none⟩ = some (.int .i64 (v7 m : Nat)) := by
                have hjl : j < Ml.length := by rw [HN.out]; exact hj
                have := hK2.means.cells (g := gv) (by rfl) j (.int .i64 (v7 m : Nat)) (by
                  rw [← HEQ.out]
                  simp [List.getD, hjl])
                rwa [Addr.add_lit, Nat.zero_add] at this
              have HPO := hide (Post.of_below (P := P + 1) HK.out B2)
              clear hK2 B2
              go_wp2_with fail
              go_ret
              exact ⟨by rfl, HPO.out⟩
            · rw [show decide (cs (Ml.getD j []) = cs m) = false from decide_eq_false hs]
              have HNO : Hid (∀ i, i < j + 1 → Ml.getD i [] ≠ m) := hide (fun i hi => by
                by_cases e : i = j
                · subst e; exact fun h => hs (by rw [h])
                · exact hno.out i (by omega))
              have HB2 := hide B2
              clear hs B2
              go_wp2_with fail
              exact ⟨⟨j + 1, by congr 1, by omega, HNO, HB2⟩, by simp [intOf]; omega⟩
          · have hj' : ¬ (j : Int) < (N : Int) := by omega
            have kc := (kb_facts (HKN.out wr hB.out).both).1
            have HNM : Hid (m ∉ Ml) := hide (fun e => by
              obtain ⟨i, hi, e⟩ := List.getElem_of_mem e
              exact hno.out i (by have := HN.out; omega) (by simp [List.getD, hi, e]))
            have HPO : Hid (Post P kb w F Ml wr) := hide (Post.of_below HK.out hB.out)
            have HSB := hide (fun k (hk : k ≤ 6) => Nat.le_trans (rfSum_le HM.out k hk) (Nat.mul_le_mul_right 1828079220031488 hk))
            have HRB := hide (fun x (hx : 1 ≤ x ∧ x ≤ 6) k (hk : k ≤ 6) => Nat.le_trans (rfRow_le HM.out hx k hk) (Nat.mul_le_mul_right 304679870005248 hk))
            have HLB := hide (fun ps h => rfL_le ps h m HM.out)
            clear hno
            go_wp2_with fail
            clear kc hj hj'
            go_loopw [8, 9] (fun u v wr => ∃ x S : Nat, u = .int .i64 S ∧ v = .int .i64 x ∧ 1 ≤ x ∧ x ≤ 7 ∧ Hid (S = rfSum m (x - 1)) ∧ S ≤ 10968475320188928 ∧ Hid (Post P kb w F Ml wr)) (fun _ v _ => 7 - (intOf v).toNat)
            case atStart => exact ⟨1, 0, rfl, rfl, by omega, by omega, hide (rfSum_zero m).symm, by omega, HPO⟩
            case round =>
              obtain ⟨x, S, rfl, rfl, hx1, hx7, hS, hSb, hPo⟩ := hrel
              clear HPO hB
              by_cases hx6 : x ≤ 6
              · have hx' : (x : Int) ≤ 6 := by omega
                go_wp2_with fail
                go_loopw [8, 10] (fun u v wr => ∃ y T : Nat, u = .int .i64 T ∧ v = .int .i64 y ∧ 1 ≤ y ∧ y ≤ 7 ∧ Hid (T = S + rfRow m x (y - 1)) ∧ T ≤ 12796554540220416 ∧ Hid (Post P kb w F Ml wr)) (fun _ v _ => 7 - (intOf v).toNat)
                case atStart => exact ⟨1, S, rfl, rfl, by omega, by omega, hide (by rw [rfRow_zero]; rfl), by omega, hPo⟩
                case round =>
                  obtain ⟨y, T, rfl, rfl, hy1, hy7, hT, hTb, hPi⟩ := hrel
                  clear hPo
                  by_cases hy6 : y ≤ 6
                  · have hy' : (y : Int) ≤ 6 := by omega
                    have HST := hide (rfRow_step (m := m) (x := x) hy1)
                    have HTB : Hid (S + rfRow m x (y + 1 - 1) ≤ 12796554540220416) := hide (by have := HRB.out x ⟨hx1, hx6⟩ (y + 1 - 1) (by omega); omega)
                    by_cases hxy : x = y
                    · subst hxy
                      have HC : Hid (Calls Try.prog 64 #[.pointer (some ⟨kb, 0, none⟩), .slice (some ⟨g, 0, none⟩) (6 : Nat) c, .slice (some ⟨wr.heap.size, 0, none⟩) 4 4] (wr.alloc (.cells #[.int .i64 x, .int .i64 x, .int .i64 x, .int .i64 x] 3)) fun e w' => e = .returned (.int .i64 (rfL [x, x, x, x] m : Nat)) ∧ Post P kb w F Ml w') := HC4.out wr hPi.out HP0.out x ⟨hx1, hx6⟩
                      have hrb := HLB.out [x, x, x, x] (fun p hp => by
                        simp only [List.mem_cons, List.not_mem_nil, or_false, or_self] at hp
                        rw [hp]; exact ⟨hx1, hx6⟩)
                      have HRE := hide (rf1_same (m := m) x)
                      generalize rfL [x, x, x, x] m = r at *
                      go_wp2_with fail
                      refine HC.out.mono ?_
                      rintro e w9 ⟨rfl, hp9⟩
                      have HP9 := hide hp9
                      clear hp9 HC
                      go_wp2_with fail
                      refine ⟨⟨x + 1, T + r, by congr 1, by congr 1, by omega, by omega, hide ?_, ?_, HP9⟩, by simp [intOf]; omega⟩
                      · rw [HST.out, HRE.out, hT.out]; omega
                      · have := HTB.out; rw [HST.out, HRE.out] at this; have := hT.out; omega
                    · have hxy' : ¬ (x : Int) = (y : Int) := by omega
                      have HC : Hid (Calls Try.prog 64 #[.pointer (some ⟨kb, 0, none⟩), .slice (some ⟨g, 0, none⟩) (6 : Nat) c, .slice (some ⟨wr.heap.size, 0, none⟩) 2 2] (wr.alloc (.cells #[.int .i64 x, .int .i64 y] 3)) fun e w' => e = .returned (.int .i64 (rfL [x, y] m : Nat)) ∧ Post P kb w F Ml w') := HC2.out wr hPi.out HP0.out x y ⟨hx1, hx6⟩ ⟨hy1, hy6⟩
                      have HCC : Hid (∀ w9, Post P kb w F Ml w9 → Calls Try.prog 64 #[.pointer (some ⟨kb, 0, none⟩), .slice (some ⟨g, 0, none⟩) (6 : Nat) c, .slice (some ⟨w9.heap.size, 0, none⟩) 2 2] (w9.alloc (.cells #[.int .i64 y, .int .i64 x] 3)) fun e w' => e = .returned (.int .i64 (rfL [y, x] m : Nat)) ∧ Post P kb w F Ml w') := hide (fun w9 h9 => HC2.out w9 h9 HP0.out y x ⟨hy1, hy6⟩ ⟨hx1, hx6⟩)
                      have hrb1 := HLB.out [x, y] (fun p hp => by
                        simp only [List.mem_cons, List.not_mem_nil, or_false] at hp
                        rcases hp with rfl | rfl <;> constructor <;> assumption)
                      have hrb2 := HLB.out [y, x] (fun p hp => by
                        simp only [List.mem_cons, List.not_mem_nil, or_false] at hp
                        rcases hp with rfl | rfl <;> constructor <;> assumption)
                      have HRE := hide (rf1_two (m := m) hxy)
                      generalize rfL [x, y] m = r1 at *
                      generalize rfL [y, x] m = r2 at *
                      clear hxy
                      go_wp2_with fail
                      refine HC.out.mono ?_
                      rintro e w9 ⟨rfl, hp9⟩
                      have HC9 := hide (HCC.out w9 hp9)
                      clear hp9 HC HCC
                      go_wp2_with fail
                      refine HC9.out.mono ?_
                      rintro e w10 ⟨rfl, hp10⟩
                      have HP10 := hide hp10
                      clear hp10 HC9
                      by_cases hlt : r2 < r1
                      · have hlt' : (r2 : Int) < (r1 : Int) := by omega
                        go_wp2_with fail
                        refine ⟨⟨y + 1, T + r2, by congr 1, by congr 1, by omega, by omega, hide ?_, ?_, HP10⟩, by simp [intOf]; omega⟩
                        · rw [HST.out, HRE.out, hT.out]; omega
                        · have := HTB.out; rw [HST.out, HRE.out] at this; have := hT.out; omega
                      · have hlt' : ¬ (r2 : Int) < (r1 : Int) := by omega
                        go_wp2_with fail
                        refine ⟨⟨y + 1, T + r1, by congr 1, by congr 1, by omega, by omega, hide ?_, ?_, HP10⟩, by simp [intOf]; omega⟩
                        · rw [HST.out, HRE.out, hT.out]; omega
                        · have := HTB.out; rw [HST.out, HRE.out] at this; have := hT.out; omega
                  · have hy' : ¬ (y : Int) ≤ 6 := by omega
                    have hye : y = 7 := by omega
                    subst hye
                    have HSS := hide (rfSum_step (m := m) hx1)
                    have HSX := HSB.out (x + 1 - 1) (by omega)
                    go_wp2_with fail
                    refine ⟨⟨x + 1, T, rfl, by congr 1, by omega, by omega, hide ?_, ?_, hPi⟩, by simp [intOf]; omega⟩
                    · rw [HSS.out, hT.out, hS.out]
                    · rw [HSS.out] at HSX; rw [hT.out, hS.out]; exact HSX
              · have hx' : ¬ (x : Int) ≤ 6 := by omega
                have hxe : x = 7 := by omega
                subst hxe
                rw [show ((7 : Nat) : Int) = (7 : Int) from rfl]
                obtain ⟨F1, Ml1, ⟨⟨mv1, vv1, sl1, hKn1⟩, hKl1⟩, hk1, hs1, he1⟩ := hPo.out
                have HNM1 : Hid (m ∉ Ml1) := hide (fun e => by
                  rcases he1 m e with e | e
                  · exact HNM.out e
                  · have := HPE.out; omega)
                have HRc : Hid (Rd (World.drew wr) (some ⟨g, 0, none⟩) 6 c (cs m)) := hide ((HR.out.block (hk1.block g hgl HG.out)).drew)
                have HPK := hide (And.intro hk1 (And.intro hs1 he1))
                obtain ⟨ma1, mc1, rfl, hm1, hm2, _⟩ := own_some hKn1.men
                obtain ⟨va1, vc1, rfl, hv1, hv2, _⟩ := own_some hKn1.means
                have hfew1 := hKn1.few
                obtain ⟨N1, hN1⟩ : ∃ N1, Ml1.length = N1 := ⟨_, rfl⟩
                rw [hN1] at hm1 hv1 hfew1 hKn1
                have HN1 := hide hN1
                have HKn := hide hKn1
                have HKl := hide hKl1
                have HKB := hide (kb_facts (hKn1.kept (Keeps.of_below ((Below.refl wr.heap.size wr).drew)) (fun i hi => by have := hKl1 i hi; omega)).both)
                unfold maxLen at hm2 hv2
                obtain ⟨D, hD⟩ : ∃ D, S / 36 = D := ⟨_, rfl⟩
                have hq1 : Int.tdiv (S : Int) 36 = (D : Int) := by rw [Int.tdiv_eq_ediv_of_nonneg (by omega)]; omega
                have hq2 : (S : Int) / 36 = (D : Int) := by omega
                obtain ⟨V, hVd⟩ : ∃ V, 78364164096 + D = V := ⟨_, rfl⟩
                have hV2 : (78364164096 : Int) + (D : Int) = (V : Int) := by omega
                have HVE : Hid (v7 m = V) := hide (by rw [v7_sum HM.out HP0.out, ← hS.out, hD, hVd])
                have hVb : V ≤ 1000000000000000 := by omega
                clear hD hVd hKn1 hKl1 hk1 hs1 he1 hN1 hPo hS HC2 HC4 HKN HK
                go_wp2_with fail
                refine wp_region_held (S := fun _ => True) (by kernel_rfl) ?_
                change wpAnyH _ _ _ _ _ _ _ _ (World.drew _)
                refine wpAnyH_take (i := 0) (v := .pointer (some ⟨kb, 0, none⟩)) rfl (by kernel_rfl) (by kernel_rfl) (by kernel_rfl) (fun _ _ _ h => h) (Or.inl ⟨by rfl, ?_⟩) trivial ?_
                · intro W _
                  go_simp <;> first | done | rfl | (rw [IntKind.wrap_i64]; omega) | (intro hh; exfalso; omega) | (refine Eq.trans ?_ rfl; omega)
                go_simp
                refine wpAnyH_take (i := 1) (v := .pointer (some ⟨kb, 0, none⟩)) rfl (by kernel_rfl) (by kernel_rfl) (by kernel_rfl) (fun _ _ _ h => h) (Or.inl ⟨by rfl, ?_⟩) trivial ?_
                · intro W _
                  go_simp <;> first | done | rfl | (rw [IntKind.wrap_i64]; omega) | (intro hh; exfalso; omega) | (refine Eq.trans ?_ rfl; omega)
                go_simp
                refine wpAnyH_take (i := 2) (v := .pointer (some ⟨kb, 0, none⟩)) rfl (by kernel_rfl) (by kernel_rfl) (by kernel_rfl) (fun _ _ _ h => h) (Or.inl ⟨by rfl, ?_⟩) trivial ?_
                · intro W _
                  go_simp <;> first | done | rfl | (rw [IntKind.wrap_i64]; omega) | (intro hh; exfalso; omega) | (refine Eq.trans ?_ rfl; omega)
                go_simp
                refine wpAnyH_take (i := 3) (v := .pointer (some ⟨kb, 0, none⟩)) rfl (by kernel_rfl) (by kernel_rfl) (by kernel_rfl) (fun _ _ _ h => h) (Or.inl ⟨by rfl, ?_⟩) trivial ?_
                · intro W _
                  go_simp <;> first | done | rfl | (rw [IntKind.wrap_i64]; omega) | (intro hh; exfalso; omega) | (refine Eq.trans ?_ rfl; omega)
                go_simp
                refine wpAnyH_take (i := 5) (v := .slice (some ⟨g, 0, none⟩) 6 c) rfl (by kernel_rfl) (by kernel_rfl) (by kernel_rfl) (fun _ _ _ h => h) (Or.inl ⟨by rfl, ?_⟩) trivial ?_
                · intro W _
                  go_simp <;> first | done | rfl | (rw [IntKind.wrap_i64]; omega) | (intro hh; exfalso; omega) | (refine Eq.trans ?_ rfl; omega)
                go_simp
                refine wpAnyH_ready (rs := [4, 6]) (by kernel_rfl) (by simp) ?_
                refine AllReadyH.cons rfl (fun K1 hK1 => ?_) ?_
                · have c98 := HKB.out.1
                  go_simp
                  refine hK1.out _ _ trivial (fun _ => ?_)
                  clear hK1 K1
                  go_simp
                  clear c98
                  refine wpAnyH_ready (rs := [6]) (by kernel_rfl) (by simp) ?_
                  refine AllReadyH.cons rfl (fun K1 hK1 => ?_) AllReadyH.nil
                  go_simp
                  refine (ints_own (some ⟨g, 0, none⟩) 6 c (cs m) _ HRc.out (by omega)).mono ?_
                  rintro e W1 ⟨a1, c1, rfl, hown, hb1⟩
                  obtain ⟨g1, rfl, hg1, hg1l⟩ : ∃ g2, a1 = some ⟨g2, 0, none⟩ ∧ wr.heap.size ≤ g2 ∧ g2 < W1.heap.size := by
                    rcases hown.2 with ⟨_, h0⟩ | ⟨g2, cap, cur, e, h1, h2, _⟩
                    · omega
                    · simp only [Value.slice.injEq] at e
                      exact ⟨g2, e.1, h1, (Array.getElem?_eq_some_iff.1 h2).1⟩
                  have HB1 : Hid (Below wr.heap.size wr W1) := hide (((Below.refl wr.heap.size wr).drew).trans hb1)
                  have HR1 := hide (Rd.of_own hown)
                  have HKB1 := hide (kb_facts (HKn.out.kept (Keeps.of_below HB1.out) (fun i hi => by have := HKl.out i hi; omega)).both)
                  clear hown hb1 HRc HKB
                  have HKB := HKB1
                  clear HKB1
                  refine hK1.out _ _ trivial (fun _ => ?_)
                  clear hK1 K1
                  go_simp
                  refine wpAnyH_ready (rs := [7]) (by kernel_rfl) (by simp) ?_
                  refine AllReadyH.cons rfl (fun K1 hK1 => ?_) AllReadyH.nil
                  go_simp
                  refine hK1.out _ _ trivial (fun _ => ?_)
                  clear hK1 K1
                  go_simp
                  have HKB1 := hide (kb_facts (HKn.out.kept (Keeps.of_below (HB1.out.alloc HB1.out.size (.cells #[.slice (some ⟨g1, 0, none⟩) 6 c1] 22))) (fun i hi => by have := HKl.out i hi; omega)).both)
                  clear HKB
                  have HKB := HKB1
                  clear HKB1
                  refine wpAnyH_ready (rs := [8]) (by kernel_rfl) (by simp) ?_
                  refine AllReadyH.cons rfl (fun K1 hK1 => ?_) AllReadyH.nil
                  rw [if_pos (by rfl)]
                  have O2 := HKn.out.way2 HKl.out (HB1.out.alloc HB1.out.size (.cells #[.slice (some ⟨g1, 0, none⟩) 6 c1] 22))
                  rw [HN1.out] at O2
                  refine wp_append_rows _ _ _ rfl 0 (.slice ma1 N1 mc1) N1 sl1 rfl O2 ⟨W1.heap.size, 0, none⟩ 1 (.slice (some ⟨g1, 0, none⟩) 6 c1) rfl (cell_one_new _ _ _ 0 _ rfl) rfl (by omega) (Nat.zero_le _) ?_
                  intro v3 w3 O3 G3 P3
                  clear O2
                  obtain ⟨a3, c3, rfl, _, _, _⟩ := own_some O3
                  have WY := HKn.out.way5 (v' := .slice a3 (N1 + 1 : Nat) c3) (HB1.out.alloc HB1.out.size (.cells #[.slice (some ⟨g1, 0, none⟩) 6 c1] 22)) G3 (.cells #[.int .i64 (V : Nat)] 3)
                  rw [HN1.out] at WY
                  have HK3 := hide (kb_facts WY.1)
                  have HK4 := hide (kb_facts WY.2.1)
                  have HO5 := hide WY.2.2
                  have HO3 := hide O3
                  have HG3 := hide G3
                  have HP3 := hide P3
                  clear WY O3 G3 P3 HKB
                  refine hK1.out _ _ trivial (fun _ => ?_)
                  clear hK1 K1
                  go_simp
                  refine wpAnyH_take (i := 9) (v := .pointer (some ⟨kb, 0, none⟩)) rfl (by kernel_rfl) (by kernel_rfl) (by kernel_rfl) (fun _ _ _ h => h) (Or.inl ⟨by rfl, ?_⟩) trivial ?_
                  · intro W _
                    go_simp <;> first | done | rfl | (rw [IntKind.wrap_i64]; omega) | (intro hh; exfalso; omega) | (refine Eq.trans ?_ rfl; omega)
                  go_simp
                  refine wpAnyH_take (i := 10) (v := .pointer (some ⟨kb, 0, none⟩)) rfl (by kernel_rfl) (by kernel_rfl) (by kernel_rfl) (fun _ _ _ h => h) (Or.inl ⟨by rfl, ?_⟩) trivial ?_
                  · intro W _
                    go_simp <;> first | done | rfl | (rw [IntKind.wrap_i64]; omega) | (intro hh; exfalso; omega) | (refine Eq.trans ?_ rfl; omega)
                  go_simp
                  refine wpAnyH_ready (rs := [11]) (by kernel_rfl) (by simp) ?_
                  refine AllReadyH.cons rfl (fun K1 hK1 => ?_) AllReadyH.nil
                  have c11 := HK3.out.1
                  have f11 := HK3.out.2.2.1
                  go_simp
                  refine hK1.out _ _ trivial (fun _ => ?_)
                  clear hK1 K1
                  go_simp
                  clear c11 f11
                  refine wpAnyH_done (by kernel_rfl) ?_ _
                  have c109 := HK4.out.2.1
                  have hRV : Rd (World.alloc (World.setCell w3 ⟨kb, 0, none⟩ (.slice a3 (N1 + 1 : Nat) c3)) (.cells #[.int .i64 (V : Nat)] 3)) (some ⟨(World.setCell w3 ⟨kb, 0, none⟩ (.slice a3 (N1 + 1 : Nat) c3)).heap.size, 0, none⟩) 1 1 [((V : Nat) : Int)] := Rd.of_blk (Blk.new _ 3 [((V : Nat) : Int)] _ rfl) rfl (by decide)
                  have hO5 := HO5.out
                  rw [size_setCell] at hRV
                  go_wp2_with (at_builtin; refine wpList_append_new _ rfl _ _ rfl 0 _ N1 (Ml1.map fun m => (v7 m : Int)) rfl hO5 ⟨w3.heap.size, 0, none⟩ 1 [((V : Nat) : Int)] rfl hRV (by omega) (Nat.zero_le _) ?_)
                  intro v6 w6 O6 G6 P6
                  clear c109 hRV hO5
                  obtain ⟨a6, c6, rfl, _, _, _⟩ := own_some O6
                  have W6 := kb_facts (HKn.out.way6 (HB1.out.alloc HB1.out.size (.cells #[.slice (some ⟨g1, 0, none⟩) 6 c1] 22)) HG3.out G6)
                  have c6' := W6.2.1
                  have f6' := W6.2.2.2
                  have hAdd := Kn.add (v' := .slice a3 (N1 + 1 : Nat) c3) (v'' := .slice a6 (N1 + 1 : Nat) c6) HKn.out m HM.out HNM1.out HB1.out HR1.out hg1 hg1l _ HG3.out (by rw [HN1.out]; exact HO3.out) HP3.out _ G6 (by rw [HN1.out, HVE.out, List.map_append, List.map_map]; exact O6) (by rw [World.size_alloc, size_setCell]; exact P6)
                  have HAD := hide (post_add (P := P) HPK.out.1 HPK.out.2.1 HPK.out.2.2 HPE.out HKl.out (by rw [size_setCell]; exact Nat.le_refl _) hAdd.1 hAdd.2)
                  clear O6 G6 P6 W6 hAdd
                  go_wp2_with fail
                  go_ret
                  exact ⟨by rw [HVE.out]; rfl, HAD.out⟩
                refine AllReadyH.cons rfl (fun K1 hK1 => ?_) AllReadyH.nil
                go_simp
                refine (ints_own (some ⟨g, 0, none⟩) 6 c (cs m) _ HRc.out (by omega)).mono ?_
                rintro e W1 ⟨a1, c1, rfl, hown, hb1⟩
                obtain ⟨g1, rfl, hg1, hg1l⟩ : ∃ g2, a1 = some ⟨g2, 0, none⟩ ∧ wr.heap.size ≤ g2 ∧ g2 < W1.heap.size := by
                  rcases hown.2 with ⟨_, h0⟩ | ⟨g2, cap, cur, e, h1, h2, _⟩
                  · omega
                  · simp only [Value.slice.injEq] at e
                    exact ⟨g2, e.1, h1, (Array.getElem?_eq_some_iff.1 h2).1⟩
                have HB1 : Hid (Below wr.heap.size wr W1) := hide (((Below.refl wr.heap.size wr).drew).trans hb1)
                have HR1 := hide (Rd.of_own hown)
                have HKB1 := hide (kb_facts (HKn.out.kept (Keeps.of_below HB1.out) (fun i hi => by have := HKl.out i hi; omega)).both)
                clear hown hb1 HRc HKB
                have HKB := HKB1
                clear HKB1
                refine hK1.out _ _ trivial (fun _ => ?_)
                clear hK1 K1
                go_simp
                refine wpAnyH_ready (rs := [4, 7]) (by kernel_rfl) (by simp) ?_
                refine AllReadyH.cons rfl (fun K1 hK1 => ?_) ?_
                · have c98 := HKB.out.1
                  go_simp
                  refine hK1.out _ _ trivial (fun _ => ?_)
                  clear hK1 K1
                  go_simp
                  clear c98
                  refine wpAnyH_ready (rs := [7]) (by kernel_rfl) (by simp) ?_
                  refine AllReadyH.cons rfl (fun K1 hK1 => ?_) AllReadyH.nil
                  go_simp
                  refine hK1.out _ _ trivial (fun _ => ?_)
                  clear hK1 K1
                  go_simp
                  have HKB1 := hide (kb_facts (HKn.out.kept (Keeps.of_below (HB1.out.alloc HB1.out.size (.cells #[.slice (some ⟨g1, 0, none⟩) 6 c1] 22))) (fun i hi => by have := HKl.out i hi; omega)).both)
                  clear HKB
                  have HKB := HKB1
                  clear HKB1
                  refine wpAnyH_ready (rs := [8]) (by kernel_rfl) (by simp) ?_
                  refine AllReadyH.cons rfl (fun K1 hK1 => ?_) AllReadyH.nil
                  rw [if_pos (by rfl)]
                  have O2 := HKn.out.way2 HKl.out (HB1.out.alloc HB1.out.size (.cells #[.slice (some ⟨g1, 0, none⟩) 6 c1] 22))
                  rw [HN1.out] at O2
                  refine wp_append_rows _ _ _ rfl 0 (.slice ma1 N1 mc1) N1 sl1 rfl O2 ⟨W1.heap.size, 0, none⟩ 1 (.slice (some ⟨g1, 0, none⟩) 6 c1) rfl (cell_one_new _ _ _ 0 _ rfl) rfl (by omega) (Nat.zero_le _) ?_
                  intro v3 w3 O3 G3 P3
                  clear O2
                  obtain ⟨a3, c3, rfl, _, _, _⟩ := own_some O3
                  have WY := HKn.out.way5 (v' := .slice a3 (N1 + 1 : Nat) c3) (HB1.out.alloc HB1.out.size (.cells #[.slice (some ⟨g1, 0, none⟩) 6 c1] 22)) G3 (.cells #[.int .i64 (V : Nat)] 3)
                  rw [HN1.out] at WY
                  have HK3 := hide (kb_facts WY.1)
                  have HK4 := hide (kb_facts WY.2.1)
                  have HO5 := hide WY.2.2
                  have HO3 := hide O3
                  have HG3 := hide G3
                  have HP3 := hide P3
                  clear WY O3 G3 P3 HKB
                  refine hK1.out _ _ trivial (fun _ => ?_)
                  clear hK1 K1
                  go_simp
                  refine wpAnyH_take (i := 9) (v := .pointer (some ⟨kb, 0, none⟩)) rfl (by kernel_rfl) (by kernel_rfl) (by kernel_rfl) (fun _ _ _ h => h) (Or.inl ⟨by rfl, ?_⟩) trivial ?_
                  · intro W _
                    go_simp <;> first | done | rfl | (rw [IntKind.wrap_i64]; omega) | (intro hh; exfalso; omega) | (refine Eq.trans ?_ rfl; omega)
                  go_simp
                  refine wpAnyH_take (i := 10) (v := .pointer (some ⟨kb, 0, none⟩)) rfl (by kernel_rfl) (by kernel_rfl) (by kernel_rfl) (fun _ _ _ h => h) (Or.inl ⟨by rfl, ?_⟩) trivial ?_
                  · intro W _
                    go_simp <;> first | done | rfl | (rw [IntKind.wrap_i64]; omega) | (intro hh; exfalso; omega) | (refine Eq.trans ?_ rfl; omega)
                  go_simp
                  refine wpAnyH_ready (rs := [11]) (by kernel_rfl) (by simp) ?_
                  refine AllReadyH.cons rfl (fun K1 hK1 => ?_) AllReadyH.nil
                  have c11 := HK3.out.1
                  have f11 := HK3.out.2.2.1
                  go_simp
                  refine hK1.out _ _ trivial (fun _ => ?_)
                  clear hK1 K1
                  go_simp
                  clear c11 f11
                  refine wpAnyH_done (by kernel_rfl) ?_ _
                  have c109 := HK4.out.2.1
                  have hRV : Rd (World.alloc (World.setCell w3 ⟨kb, 0, none⟩ (.slice a3 (N1 + 1 : Nat) c3)) (.cells #[.int .i64 (V : Nat)] 3)) (some ⟨(World.setCell w3 ⟨kb, 0, none⟩ (.slice a3 (N1 + 1 : Nat) c3)).heap.size, 0, none⟩) 1 1 [((V : Nat) : Int)] := Rd.of_blk (Blk.new _ 3 [((V : Nat) : Int)] _ rfl) rfl (by decide)
                  have hO5 := HO5.out
                  rw [size_setCell] at hRV
                  go_wp2_with (at_builtin; refine wpList_append_new _ rfl _ _ rfl 0 _ N1 (Ml1.map fun m => (v7 m : Int)) rfl hO5 ⟨w3.heap.size, 0, none⟩ 1 [((V : Nat) : Int)] rfl hRV (by omega) (Nat.zero_le _) ?_)
                  intro v6 w6 O6 G6 P6
                  clear c109 hRV hO5
                  obtain ⟨a6, c6, rfl, _, _, _⟩ := own_some O6
                  have W6 := kb_facts (HKn.out.way6 (HB1.out.alloc HB1.out.size (.cells #[.slice (some ⟨g1, 0, none⟩) 6 c1] 22)) HG3.out G6)
                  have c6' := W6.2.1
                  have f6' := W6.2.2.2
                  have hAdd := Kn.add (v' := .slice a3 (N1 + 1 : Nat) c3) (v'' := .slice a6 (N1 + 1 : Nat) c6) HKn.out m HM.out HNM1.out HB1.out HR1.out hg1 hg1l _ HG3.out (by rw [HN1.out]; exact HO3.out) HP3.out _ G6 (by rw [HN1.out, HVE.out, List.map_append, List.map_map]; exact O6) (by rw [World.size_alloc, size_setCell]; exact P6)
                  have HAD := hide (post_add (P := P) HPK.out.1 HPK.out.2.1 HPK.out.2.2 HPE.out HKl.out (by rw [size_setCell]; exact Nat.le_refl _) hAdd.1 hAdd.2)
                  clear O6 G6 P6 W6 hAdd
                  go_wp2_with fail
                  go_ret
                  exact ⟨by rw [HVE.out]; rfl, HAD.out⟩
                refine AllReadyH.cons rfl (fun K1 hK1 => ?_) AllReadyH.nil
                go_simp
                refine hK1.out _ _ trivial (fun _ => ?_)
                clear hK1 K1
                go_simp
                have HKB1 := hide (kb_facts (HKn.out.kept (Keeps.of_below (HB1.out.alloc HB1.out.size (.cells #[.slice (some ⟨g1, 0, none⟩) 6 c1] 22))) (fun i hi => by have := HKl.out i hi; omega)).both)
                clear HKB
                have HKB := HKB1
                clear HKB1
                refine wpAnyH_ready (rs := [4]) (by kernel_rfl) (by simp) ?_
                refine AllReadyH.cons rfl (fun K1 hK1 => ?_) AllReadyH.nil
                have c98 := HKB.out.1
                go_simp
                refine hK1.out _ _ trivial (fun _ => ?_)
                clear hK1 K1
                go_simp
                clear c98
                refine wpAnyH_ready (rs := [8]) (by kernel_rfl) (by simp) ?_
                refine AllReadyH.cons rfl (fun K1 hK1 => ?_) AllReadyH.nil
                rw [if_pos (by rfl)]
                have O2 := HKn.out.way2 HKl.out (HB1.out.alloc HB1.out.size (.cells #[.slice (some ⟨g1, 0, none⟩) 6 c1] 22))
                rw [HN1.out] at O2
                refine wp_append_rows _ _ _ rfl 0 (.slice ma1 N1 mc1) N1 sl1 rfl O2 ⟨W1.heap.size, 0, none⟩ 1 (.slice (some ⟨g1, 0, none⟩) 6 c1) rfl (cell_one_new _ _ _ 0 _ rfl) rfl (by omega) (Nat.zero_le _) ?_
                intro v3 w3 O3 G3 P3
                clear O2
                obtain ⟨a3, c3, rfl, _, _, _⟩ := own_some O3
                have WY := HKn.out.way5 (v' := .slice a3 (N1 + 1 : Nat) c3) (HB1.out.alloc HB1.out.size (.cells #[.slice (some ⟨g1, 0, none⟩) 6 c1] 22)) G3 (.cells #[.int .i64 (V : Nat)] 3)
                rw [HN1.out] at WY
                have HK3 := hide (kb_facts WY.1)
                have HK4 := hide (kb_facts WY.2.1)
                have HO5 := hide WY.2.2
                have HO3 := hide O3
                have HG3 := hide G3
                have HP3 := hide P3
                clear WY O3 G3 P3 HKB
                refine hK1.out _ _ trivial (fun _ => ?_)
                clear hK1 K1
                go_simp
                refine wpAnyH_take (i := 9) (v := .pointer (some ⟨kb, 0, none⟩)) rfl (by kernel_rfl) (by kernel_rfl) (by kernel_rfl) (fun _ _ _ h => h) (Or.inl ⟨by rfl, ?_⟩) trivial ?_
                · intro W _
                  go_simp <;> first | done | rfl | (rw [IntKind.wrap_i64]; omega) | (intro hh; exfalso; omega) | (refine Eq.trans ?_ rfl; omega)
                go_simp
                refine wpAnyH_take (i := 10) (v := .pointer (some ⟨kb, 0, none⟩)) rfl (by kernel_rfl) (by kernel_rfl) (by kernel_rfl) (fun _ _ _ h => h) (Or.inl ⟨by rfl, ?_⟩) trivial ?_
                · intro W _
                  go_simp <;> first | done | rfl | (rw [IntKind.wrap_i64]; omega) | (intro hh; exfalso; omega) | (refine Eq.trans ?_ rfl; omega)
                go_simp
                refine wpAnyH_ready (rs := [11]) (by kernel_rfl) (by simp) ?_
                refine AllReadyH.cons rfl (fun K1 hK1 => ?_) AllReadyH.nil
                have c11 := HK3.out.1
                have f11 := HK3.out.2.2.1
                go_simp
                refine hK1.out _ _ trivial (fun _ => ?_)
                clear hK1 K1
                go_simp
                clear c11 f11
                refine wpAnyH_done (by kernel_rfl) ?_ _
                have c109 := HK4.out.2.1
                have hRV : Rd (World.alloc (World.setCell w3 ⟨kb, 0, none⟩ (.slice a3 (N1 + 1 : Nat) c3)) (.cells #[.int .i64 (V : Nat)] 3)) (some ⟨(World.setCell w3 ⟨kb, 0, none⟩ (.slice a3 (N1 + 1 : Nat) c3)).heap.size, 0, none⟩) 1 1 [((V : Nat) : Int)] := Rd.of_blk (Blk.new _ 3 [((V : Nat) : Int)] _ rfl) rfl (by decide)
                have hO5 := HO5.out
                rw [size_setCell] at hRV
                go_wp2_with (at_builtin; refine wpList_append_new _ rfl _ _ rfl 0 _ N1 (Ml1.map fun m => (v7 m : Int)) rfl hO5 ⟨w3.heap.size, 0, none⟩ 1 [((V : Nat) : Int)] rfl hRV (by omega) (Nat.zero_le _) ?_)
                intro v6 w6 O6 G6 P6
                clear c109 hRV hO5
                obtain ⟨a6, c6, rfl, _, _, _⟩ := own_some O6
                have W6 := kb_facts (HKn.out.way6 (HB1.out.alloc HB1.out.size (.cells #[.slice (some ⟨g1, 0, none⟩) 6 c1] 22)) HG3.out G6)
                have c6' := W6.2.1
                have f6' := W6.2.2.2
                have hAdd := Kn.add (v' := .slice a3 (N1 + 1 : Nat) c3) (v'' := .slice a6 (N1 + 1 : Nat) c6) HKn.out m HM.out HNM1.out HB1.out HR1.out hg1 hg1l _ HG3.out (by rw [HN1.out]; exact HO3.out) HP3.out _ G6 (by rw [HN1.out, HVE.out, List.map_append, List.map_map]; exact O6) (by rw [World.size_alloc, size_setCell]; exact P6)
                have HAD := hide (post_add (P := P) HPK.out.1 HPK.out.2.1 HPK.out.2.2 HPE.out HKl.out (by rw [size_setCell]; exact Nat.le_refl _) hAdd.1 hAdd.2)
                clear O6 G6 P6 W6 hAdd
                go_wp2_with fail
                go_ret
                exact ⟨by rw [HVE.out]; rfl, HAD.out⟩

end Go.Proofs.Ytmboikpcbkiepaa
