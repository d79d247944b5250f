/-
  The liberties of a group, rising. No conditions beyond those that each theorem bears.
-/
import Derived.Test.YtafiaimlmdflnaaBe
import Derived.Test.YtafiaimlmdflnaaCm
import Derived.Shelf.Slices.In.SortNone
namespace Go.Proofs.Ytafiaimlmdflnaa
open Go.RowKit Go.Shelf

theorem sort_none (p : Option Addr) (cap : Nat) (w : World) : Calls Try.prog 52 #[.slice p 0 cap] w fun e w' => e = .returned (.tuple #[]) ∧ w' = w := Any.slices_Sort_int_none Try.lays189 p cap w

/-- A row of the call's own, stripped of doubles that stand side by side. -/
theorem compact_own {w : World} {base n cap : Nat} {ad : Addr} {zs : List Int} (h : w.ownsRow base 3 1 (.slice (some ad) n cap) n (zs.map (Value.int .i64))) (hn : n ≤ 1000000) :
    Calls Try.prog 53 #[.slice (some ad) n cap] w fun e w' => e = .returned (.slice (some ad) (Go.Lib.compact zs).length cap) ∧ Rd w' (some ad) (Go.Lib.compact zs).length cap (Go.Lib.compact zs) ∧ w.grownBy w' (Value.slice (some ad) n cap).ownBlock := by
  have hl : zs.length = n := by simpa using h.1
  rcases h.2 with ⟨hv, _⟩ | ⟨g, cap', cur, hv, hb, hg, hnc, hcm, hcs, ht⟩
  · cases hv
  · simp only [Value.slice.injEq, Option.some.injEq] at hv
    obtain ⟨rfl, -, rfl⟩ := hv
    have hH : Go.Sort.Holds (Value.int .i64) w g 0 zs.toArray := holds_of_blockI hg (by rw [hl]; simpa using ht)
    have hc := Try.slices_Compact_int g 0 cap zs w hH (by omega) (by omega)
    rw [hl] at hc
    refine hc.mono ?_
    rintro e w' ⟨rfl, q, rfl⟩
    have hle : (Go.Lib.compact zs).length ≤ zs.length := by
      unfold Go.Lib.compact Go.Lib.compactUpTo
      rw [List.length_map]
      exact Nat.le_trans (List.length_filter_le _ _) (by simp)
    have hgr : ∀ W : World, Go.Sort.grow W #[] = W := fun W => by simp [Go.Sort.grow]
    refine ⟨rfl, ?_, ?_⟩
    · have h1 := ownsRow_sortedI (n := q) (os := #[]) (ts := Go.Lib.compact zs ++ List.replicate (n - (Go.Lib.compact zs).length) 0) (ss := zs) (by simp; omega) hb hg (by omega) hcm hcs
      rw [hl, hgr] at h1
      have h2 := (Rd.of_own h1).upto (k := (Go.Lib.compact zs).length) (by omega)
      rwa [List.take_append_of_le_length (Nat.le_refl _), List.take_of_length_le (Nat.le_refl _)] at h2
    · have h3 := grownBy_sortedI (w := w) (g := g) (n := q) (os := #[]) (Go.Lib.compact zs ++ List.replicate (n - (Go.Lib.compact zs).length) 0).toArray
      rw [hgr] at h3
      exact h3

/-- The liberties of places. -/
noncomputable def lib (W H : Nat) (Z : List Int) (G : List Nat) : List Nat := pls (W * H) (fun q => Z.getD q 0 = 0 ∧ ∃ p ∈ G, q ∈ nb4 W H p)

theorem lib_len (W H : Nat) (Z : List Int) (G : List Nat) : (lib W H Z G).length ≤ W * H := pls_len _ _

/-- Of such neighbours the empty ones. -/
def frs (Z : List Int) (s : List Nat) : List Nat := s.filter fun q => decide (Z.getD q 0 = 0)

theorem frs_snoc_yes {Z : List Int} {s : List Nat} {q : Nat} (h : Z.getD q 0 = 0) : frs Z (s ++ [q]) = frs Z s ++ [q] := by
  unfold frs
  rw [List.filter_append]
  have : List.filter (fun q => decide (Z.getD q 0 = 0)) [q] = [q] := by rw [List.filter_cons, if_pos (by simpa using h)]; rfl
  rw [this]
theorem frs_snoc_no {Z : List Int} {s : List Nat} {q : Nat} (h : ¬ Z.getD q 0 = 0) : frs Z (s ++ [q]) = frs Z s := by
  unfold frs
  rw [List.filter_append]
  have : List.filter (fun q => decide (Z.getD q 0 = 0)) [q] = [] := by rw [List.filter_cons, if_neg (by simpa using h)]; rfl
  rw [this, List.append_nil]

theorem nb4_len (W H p : Nat) : (nb4 W H p).length ≤ 4 := by
  have h : ∀ k, (nbk W H D4 p k).length ≤ 1 := fun k => by unfold nbk; split <;> simp
  have h2 : ∀ k, (nbu W H D4 p k).length ≤ k := by
    intro k
    induction k with
    | zero => simp [nbu]
    | succ k ih => rw [nbu_succ, List.length_append]; have := h k; omega
  exact h2 4

theorem flat_len (W H : Nat) (P : List Nat) : (P.flatMap (nb4 W H)).length ≤ 4 * P.length := by
  induction P with
  | nil => simp
  | cons a P ih => rw [List.flatMap_cons, List.length_append, List.length_cons]; have := nb4_len W H a; omega

theorem frs_lib (W H : Nat) (Z : List Int) (G : List Nat) : Go.Lib.compact ((toI (frs Z (G.flatMap (nb4 W H)))).mergeSort fun x y => decide (x ≤ y)) = toI (lib W H Z G) := by
  refine compact_pls fun q => ?_
  unfold frs
  rw [List.mem_filter, List.mem_flatMap]
  constructor
  · rintro ⟨⟨p, h1, h2⟩, h3⟩
    exact ⟨nb4_lt h2, of_decide_eq_true h3, p, h1, h2⟩
  · rintro ⟨_, h3, p, h1, h2⟩
    exact ⟨⟨p, h1, h2⟩, decide_eq_true h3⟩

/-- What the search of liberties holds: b2: the board; b5: the list's cell. -/
structure LbI (b2 b5 base W H cb co N bc : Nat) (Z : List Int) (O : Nat → Prop) (s : List Nat) (V : World) : Prop where
  bd : Hb V b2 W H (some ⟨cb, co, none⟩) N bc
  rd : Rd V (some ⟨cb, co, none⟩) N bc Z
  row : ∃ v, (∀ k, O k ↔ k = b5 ∨ v.ownBlock = some k) ∧ Vb V b5 22 [v] ∧ V.ownsRow base 3 1 v (frs Z s).length ((toI (frs Z s)).map (Value.int .i64)) ∧ v.ownBlock ≠ some b5

theorem LbI.keeps {b2 b5 base W H cb co N bc : Nat} {Z : List Int} {O : Nat → Prop} {s : List Nat} {X : Nat → Prop} {V V' : World} (h : LbI b2 b5 base W H cb co N bc Z O s V) (hk : Keeps X V V') (h2 : ¬ X b2) (hc : ¬ X cb) (hO : ∀ k, O k → ¬ X k) : LbI b2 b5 base W H cb co N bc Z O s V' := by
  obtain ⟨v, r1, r2, r3, r4⟩ := h.row
  refine ⟨h.bd.keeps hk h2, h.rd.keeps hk (fun b off e => ?_), v, r1, r2.keeps hk (hO b5 ((r1 b5).2 (.inl rfl))), own_blk r3 (fun g hg => hk.block g (r3.lt g hg).2 (hO g ((r1 g).2 (.inr hg)))), r4⟩
  simp only [Option.some.injEq, Addr.mk.injEq] at e
  rw [← e.1]
  exact hc

attribute [local irreducible] D4 nb4 frs lib
attribute [local go_sem] Oper.semAt_some wide_fn wide_fn0 wide_depth

set_option maxRecDepth 100000 in
set_option maxHeartbeats 8000000 in
theorem liberties_any (W H N bc cb co : Nat) (Z : List Int) (pa : Option Addr) (pc : Nat) (G : List Nat) (w : World) (hW : 1 ≤ W ∧ W ≤ 10) (hH : 1 ≤ H ∧ H ≤ 10) (hN : W * H = N) (hG : ∀ x ∈ G, x < W * H) (hGl : G.length ≤ 100) (hG0 : 0 < G.length) (hR : Rd w (some ⟨cb, co, none⟩) N bc Z) (hP : Rd w pa G.length pc (toI G)) :
    Calls Try.prog 33 #[.agg (gdA W H (some ⟨cb, co, none⟩) N bc), .slice pa G.length pc] w fun e w' => ∃ a c, e = .returned (.slice a (lib W H Z G).length c) ∧ Rd w' a (lib W H Z G).length c (toI (lib W H Z G)) ∧ Below w.heap.size w w' := by
  have hN1 : 0 < N := by rw [← hN]; exact Nat.mul_pos (by omega) (by omega)
  have hN100 : N ≤ 100 := by rw [← hN]; exact Nat.mul_le_mul hW.2 hH.2
  have HCB := hide (hR.blt hN1)
  have HNN := hide hN
  have hcap := hR.cap
  have hmx : bc ≤ 9223372036854775807 := by have := hR.max; unfold maxLen at this; omega
  have HFL := hide (frs_lib W H Z G)
  have HFB : Hid (∀ s, s <+: G.flatMap (nb4 W H) → (frs Z s).length ≤ 400) := hide (fun s hs => by
    have h1 := hs.length_le
    have h2 := flat_len W H G
    have h3 : (frs Z s).length ≤ s.length := by rw [frs]; exact List.length_filter_le _ _
    omega)
  obtain ⟨w1, hw1⟩ : ∃ w1, (w.alloc (.cells (gdA W H (some ⟨cb, co, none⟩) N bc) 54)).alloc (.cells #[.slice none 0 0] 22) = w1 := ⟨_, rfl⟩
  have B1 : Below w.heap.size w w1 := by rw [← hw1]; exact ((Below.refl _ _).alloc (Nat.le_refl _) _).alloc (by simp) _
  have s1 : w1.heap.size = w.heap.size + 2 := by rw [← hw1]; simp
  have b1 : Hb w1 w.heap.size W H (some ⟨cb, co, none⟩) N bc := by rw [← hw1]; exact (Hb.new w W H _ N bc).old _
  have v1 : Vb w1 (w.heap.size + 1) 22 [.slice none 0 0] := by
    rw [← hw1]
    have := Vb.new (w.alloc (.cells (gdA W H (some ⟨cb, co, none⟩) N bc) 54)) 22 [.slice none 0 0]
    rwa [World.size_alloc] at this
  have HB1 := hide B1
  have HR1 := hide (hR.mono B1)
  have HP1 := hide (hP.mono B1)
  have HPB : Hid (∀ k, (∃ off, pa = some ⟨k, off, none⟩) → k < w.heap.size) := hide (by rintro k ⟨off, rfl⟩; exact hP.blt hG0)
  have HV1 := hide v1
  have HS1 := hide s1
  have HBD := hide b1
  clear B1 v1 hR hP s1
  refine (callsIn_wide (n := 3)).1 ?_
  refine callsIn_of_wp_marks Try.func33 rfl trivial ?_ rfl
  simp only [Try.ntmps33, List.size_toArray, List.length_cons, List.length_nil, Nat.reduceAdd, Nat.reduceSub, Array.replicate_succ, Array.replicate_zero, List.push_toArray, List.append_toArray, List.nil_append, List.cons_append]
  refine wpIn_wide.2 ?_
  obtain ⟨gl, hgl⟩ : ∃ gl, G.length = gl := ⟨_, rfl⟩
  rw [hgl] at hGl hG0 HP1 ⊢
  have HGL := hide hgl
  go_upto_region 2 with fail
  clear hw1 hgl
  go_wp2_with (first | (refine wpList_load_hb rfl (.tmp 2) rfl w.heap.size rfl b1 ?_) | fail)
  refine (beside_any W H _ N bc pa gl pc _).mono ?_
  rintro e w5 ⟨rfl, hw5⟩
  have B5 : Below w1.heap.size w1 w5 := by rw [hw5]; exact ((Below.refl _ _).alloc (Nat.le_refl _) _).alloc (by simp) _
  have s5 : w5.heap.size = w1.heap.size + 2 := by rw [hw5]; simp
  have HBE : Hid (BeR (w1.heap.size + 1) w1.heap.size W H cb co N bc pa gl pc G w5) := hide (by rw [hw5]; exact BeR.new W H cb co N bc pa gl pc G w1 HP1.out)
  have HI5 : Hid (LbI w.heap.size (w.heap.size + 1) w5.heap.size W H cb co N bc Z (fun k => k = w.heap.size + 1) [] w5) := hide ⟨HBD.out.below B5 HBD.out.lt, HR1.out.mono B5, .slice none 0 0, fun k => ⟨fun e => .inl e, fun e => by rcases e with e | e; exact e; simp [Value.ownBlock] at e⟩, HV1.out.mono B5, by rw [show frs Z [] = [] by simp [frs]]; exact World.ownsRow_nil _ _ _ _, by simp [Value.ownBlock]⟩
  have HB5 := hide B5
  have HS5 := hide s5
  clear hw5 B5 s5 b1
  go_wp2_with fail
  have HLT : Hid (∀ k, BeT (w1.heap.size + 1) w1.heap.size pa k → k < w5.heap.size ∧ k ≠ w.heap.size ∧ k ≠ w.heap.size + 1) := hide (by
    have z1 := HS1.out
    have z2 := HS5.out
    rintro k (h | h | h)
    · omega
    · omega
    · have := HPB.out k h; omega)
  refine (wpIn_wide (n := 1)).1 (wp_range_o (gf := 75) (lb := #[.pointer (some ⟨w1.heap.size + 1, 0, none⟩), .pointer (some ⟨w1.heap.size, 0, none⟩)]) (G := NbG) (xs := G.flatMap (nb4 W H)) (R := BeR (w1.heap.size + 1) w1.heap.size W H cb co N bc pa gl pc G) (T := BeT (w1.heap.size + 1) w1.heap.size pa) (by simp [Act.eval]) (enters_of Try.func75 (by kernel_rfl) rfl)
    (beside1_o (w1.heap.size + 1) w1.heap.size W H cb co N bc pa gl pc G hW hH hG hGl hG0) (fun k hk => (HLT.out k hk).1) (fun A hA => HBE.out.keeps (X := fun _ => False) (Keeps.of_all hA) (fun _ _ h => h)) (fun x args W' hG => by rw [hG]; rfl)
    (fun O s W' => LbI w.heap.size (w.heap.size + 1) w5.heap.size W H cb co N bc Z O s W') (fun d O W' => False) (fun k => k = w.heap.size + 1) ?hC HI5.out ?round ?done (fun _ _ _ _ _ h => h.elim))
  case hC =>
    intro d
    have z1 := HS1.out
    have z2 := HS5.out
    have z3 := HCB.out
    refine ⟨?_, (fun _ _ h => h.elim), ?_, (fun _ _ _ h => h.elim)⟩
    · rintro O s A h k hk
      obtain ⟨v, r1, r2, r3, r4⟩ := h.row
      rcases (r1 k).1 hk with rfl | e
      · exact ⟨r2.lt, fun e => (HLT.out _ e).2.2 rfl⟩
      · exact ⟨(r3.lt k e).2, fun e2 => by have := (HLT.out k e2).1; have := (r3.lt k e).1; omega⟩
    · rintro O s A B h hk
      exact h.keeps hk (fun e => by omega) (fun e => by omega) (fun k hk' e => e.2 hk')
  case round =>
    rintro l2 O s y args W6 hl2 ⟨rec, hrec⟩ hI6 hOl _ _ hpre hGx hsz6
    obtain rfl : args = #[.int .i64 y] := hGx
    have hyN : y < N := by
      have := hpre.subset (show y ∈ s ++ [y] by simp)
      obtain ⟨p, _, h2⟩ := List.mem_flatMap.1 this
      rw [← HNN.out]
      exact nb4_lt h2
    have HFS := hide (HFB.out (s ++ [y]) hpre)
    have HFS0 := hide (HFB.out s ((List.prefix_append s [y]).trans hpre))
    have HI6 := hide hI6
    have HOL := hide hOl
    have HSZ6 := hide hsz6
    clear hI6 hpre hrec hOl hsz6
    gi_wp2
    refine ⟨Below.refl _ _, ?_⟩
    intro W7 hk7
    have z1 := HS1.out
    have z2 := HS5.out
    have z3 := HCB.out
    have I7 := HI6.out.keeps hk7 (fun e => by omega) (fun e => by omega) (fun k hk' e => HOL.out (e ▸ hk'))
    have HS7 : Hid (w5.heap.size + 2 ≤ W7.heap.size) := hide (Nat.le_trans HSZ6.out hk7.size)
    have HI7 := hide I7
    obtain ⟨-, -, g2⟩ := I7.bd.cells
    have cz := (I7.rd.cell hyN).2
    clear HI6 hk7 z1 z2 z3 I7
    obtain ⟨z, hz⟩ : ∃ z, Z.getD y 0 = z := ⟨_, rfl⟩
    rw [hz] at cz
    by_cases h0 : z = 0
    · subst h0
      have HF : Hid (frs Z (s ++ [y]) = frs Z s ++ [y]) := hide (frs_snoc_yes hz)
      clear hz
      obtain ⟨v, r1, r2, r3, r4⟩ := HI7.out.row
      have c5 := r2.cell (i := 0) rfl
      have f5 := r2.frozen 0
      have O5a := r3.alloc (.cells #[.int .i64 y] 3)
      have N5a := one_rd W7 y
      have c5a := old_cell (.cells #[.int .i64 y] 3) c5
      have HR1' := hide r1
      have HR2' := hide r2
      have HR3' := hide r3
      have HR4' := hide r4
      have hfl : (frs Z s).length ≤ 400 := HFS0.out
      obtain ⟨fl, hfle⟩ : ∃ fl, (frs Z s).length = fl := ⟨_, rfl⟩
      rw [hfle] at O5a hfl
      have HFLE := hide hfle
      have hbase : w5.heap.size ≤ (W7.alloc (.cells #[.int .i64 y] 3)).heap.size := by have := HS7.out; simp; omega
      clear r1 r2 r3 r4 hfle
      gi_wp2_with (gi_at_builtin; refine wpListIn_append_i _ rfl _ _ rfl w5.heap.size _ fl _ rfl O5a ⟨W7.heap.size, 0, none⟩ 1 1 [(y : Int)] rfl N5a (by omega) (by omega) hbase ?_)
      intro v' W8 hO8 hg8 hpl8
      obtain ⟨g8, c8v, rfl, hgb8⟩ := own_some hO8 (by omega)
      obtain ⟨v', hv'⟩ : ∃ v', Value.slice (some ⟨g8, 0, none⟩) (fl + 1) c8v = v' := ⟨_, rfl⟩
      rw [hv'] at hO8 hpl8
      have k78 : Keeps (fun k => v.ownBlock = some k) W7 W8 := ((Keeps.refl _ W7).alloc (.cells #[.int .i64 y] 3)).trans (keeps_grown hg8)
      have V8 := HR2'.out.keeps k78 HR4'.out
      have hne8 : v'.ownBlock ≠ some (w.heap.size + 1) := fun e => by
        have h1 := (hO8.lt _ e).1
        have := HS1.out
        have := HS5.out
        omega
      have c8 := V8.cell (i := 0) rfl
      have f8 := V8.frozen 0
      have kk9 : Keeps (fun k => k = w.heap.size + 1) W8 (W8.setCell ⟨w.heap.size + 1, 0, none⟩ v') := Keeps.set1 _ _ _ _
      have HK9 : Hid (Keeps O W7 (W8.setCell ⟨w.heap.size + 1, 0, none⟩ v')) := hide (by
        refine Keeps.trans (k78.mono (fun k _ e => (HR1'.out k).2 (.inr e))) ?_
        exact kk9.mono (fun k _ e => (HR1'.out k).2 (.inl e)))
      have HM9 : Hid (∀ k, k < W7.heap.size → (k = w.heap.size + 1 ∨ v'.ownBlock = some k) → O k) := hide (fun k hk e => by
        rcases e with e | e
        · exact (HR1'.out k).2 (.inl e)
        · rcases hpl8 k e with h | h
          · exact (HR1'.out k).2 (.inr h)
          · first | omega | (simp at h; omega))
      have HI9 : Hid (LbI w.heap.size (w.heap.size + 1) w5.heap.size W H cb co N bc Z (fun k => k = w.heap.size + 1 ∨ v'.ownBlock = some k) (s ++ [y]) (W8.setCell ⟨w.heap.size + 1, 0, none⟩ v')) := hide (by
        have z1 := HS1.out
        have z2 := HS5.out
        have z3 := HCB.out
        have hz : ∀ k, k < w5.heap.size → k ≠ w.heap.size + 1 → ¬ O k := fun k h1 h2 h => by
          rcases (HR1'.out k).1 h with h | h
          · exact h2 h
          · have := (HR3'.out.lt k h).1; omega
        refine ⟨HI7.out.bd.keeps HK9.out (hz _ (by omega) (by omega)), HI7.out.rd.keeps HK9.out (fun b off e => ?_), v', fun k => Iff.rfl, V8.set 0 v', ?_, hne8⟩
        · simp only [Option.some.injEq, Addr.mk.injEq] at e
          rw [← e.1]
          exact hz _ (by omega) (by omega)
        · rw [HF.out, List.length_append, List.length_singleton, HFLE.out, toI_snoc]
          rw [List.map_append]
          exact own_blk hO8 (fun g hg => kk9.block g (hO8.lt g hg).2 (fun e => hne8 (e ▸ hg))))
      clear hO8 hg8 hpl8 k78 V8 kk9 O5a N5a c5 c5a f5 hne8 hgb8
      subst hv'
      gi_wp2_with fail
      exact ⟨HK9.out, _, HM9.out, HI9.out⟩
    · have HF : Hid (frs Z (s ++ [y]) = frs Z s) := hide (frs_snoc_no (by rw [hz]; exact h0))
      clear hz
      gi_wp2
      refine ⟨Keeps.refl _ _, O, fun _ _ h => h, HI7.out.bd, HI7.out.rd, ?_⟩
      obtain ⟨v, r1, r2, r3, r4⟩ := HI7.out.row
      exact ⟨v, r1, r2, by rw [HF.out]; exact r3, r4⟩
  case done =>
    rintro D O W6 hD hI6 hk6 hm6 hKD
    obtain ⟨v, r1, r2, r3, r4⟩ := hI6.row
    have z1 := HS1.out
    have z2 := HS5.out
    have c6 := r2.cell (i := 0) rfl
    have hfb := HFB.out _ (List.prefix_refl _)
    have HB6 : Hid (Below w.heap.size w W6) := hide (by
      refine HB1.out.trans ?_
      refine (HB5.out.mono (by omega)).trans ?_
      exact hk6.below (by omega) (fun k hk e => by omega))
    have HMK : Hid (Marks w.heap.size W6 [{ target := .collected D, args := #[] }]) := hide ⟨[D], rfl, by simp, (fun E hE => by rw [List.mem_singleton.1 hE]; exact hKD), (fun E hE => by rw [List.mem_singleton.1 hE]; omega)⟩
    have HR2' := hide r2
    have HR3' := hide r3
    have HR4' := hide r4
    have HDW : Hid (w.heap.size + 2 ≤ w5.heap.size) := hide (by omega)
    clear hD z1 z2
    generalize frs Z (G.flatMap (nb4 W H)) = F at *
    have HLL := hide (congrArg List.length HFL.out)
    clear hI6 hk6 hm6 r1 r2 r3 r4 hKD
    by_cases h0 : F.length = 0
    · obtain rfl : F = [] := List.eq_nil_of_length_eq_zero h0
      have hL0 : lib W H Z G = [] := by
        have := HFL.out
        rw [show toI [] = [] from rfl, List.mergeSort_nil] at this
        refine toI_inj ?_
        rw [← this]
        rfl
      obtain ⟨a, c, rfl⟩ := slice_form HR3'.out
      go_wp2_with fail
      refine (sort_none a c _).mono ?_
      rintro e W7 ⟨rfl, hW7⟩
      subst W7
      go_wp2_with fail
      refine (Try.slices_Compact_int_empty a c _).mono ?_
      rintro e W7 ⟨rfl, hW7⟩
      subst W7
      go_wp2_with fail
      refine leaves_marks HMK.out (fun w9 hk9 => ?_)
      refine ⟨_, results_tmp rfl _ _ _, a, c, by rw [hL0]; rfl, ?_, HB6.out.trans (hk9.below HB6.out.size (fun q hq e => by omega))⟩
      have hrd := Rd.of_own HR3'.out
      rw [hL0]
      exact ⟨rfl, hrd.cap, hrd.max, hrd.nil, fun h => absurd h (by simp)⟩
    · obtain ⟨g, c, rfl, hgb⟩ := own_some HR3'.out (by omega)
      have HSO := hide (sort_own HR3'.out (by omega))
      go_wp2_with fail
      refine HSO.out.mono ?_
      rintro e W7 ⟨rfl, hO7, hg7⟩
      have k7 : Keeps (fun k => k = g) W6 W7 := (keeps_grown hg7).mono (fun q _ e => by simp only [Value.ownBlock, Option.some.injEq] at e; exact e.symm)
      have hgne : g ≠ w.heap.size + 1 := fun e => HR4'.out (by rw [e]; rfl)
      have hglt := HR3'.out.lt g rfl
      have c7 := (HR2'.out.keeps k7 (fun e => hgne e.symm)).cell (i := 0) rfl
      have HCO := hide (compact_own hO7 (by omega))
      rw [HFL.out, toI_len] at HCO
      obtain ⟨cur, hcur⟩ := own_block HR3'.out rfl
      have HM7 := hide (HMK.out.keeps k7 (fun D hD e => by subst e; rw [hD] at hcur; simp at hcur))
      have HB7 : Hid (Below w.heap.size w W7) := hide (HB6.out.trans (k7.below HB6.out.size (fun q hq e => by have := HDW.out; omega)))
      obtain ⟨cur7, hcur7⟩ := own_block hO7 rfl
      clear hg7 c6 HSO k7
      go_wp2_with fail
      refine HCO.out.mono ?_
      rintro e W8 ⟨rfl, hR8, hg8⟩
      have k8 : Keeps (fun k => k = g) W7 W8 := (keeps_grown hg8).mono (fun q _ e => by simp only [Value.ownBlock, Option.some.injEq] at e; exact e.symm)
      have HM8 := hide (HM7.out.keeps k8 (fun D hD e => by subst e; rw [hD] at hcur7; simp at hcur7))
      have HB8 : Hid (Below w.heap.size w W8) := hide (HB7.out.trans (k8.below HB7.out.size (fun q hq e => by have := HDW.out; omega)))
      have HR8 := hide hR8
      clear hR8 hg8 c7 HCO k8
      go_wp2_with fail
      refine leaves_marks HM8.out (fun w9 hk9 => ?_)
      refine ⟨_, results_tmp rfl _ _ _, some ⟨g, 0, none⟩, c, rfl, ?_, HB8.out.trans (hk9.below HB8.out.size (fun q hq e => by omega))⟩
      refine HR8.out.keepsN hk9 (fun hn b off e => ?_)
      simp only [Option.some.injEq, Addr.mk.injEq] at e
      rw [← e.1]
      rintro ⟨_, hd⟩
      have hc8 := (HR8.out.cell hn).2
      simp [World.cell?, hd] at hc8

end Go.Proofs.Ytafiaimlmdflnaa
