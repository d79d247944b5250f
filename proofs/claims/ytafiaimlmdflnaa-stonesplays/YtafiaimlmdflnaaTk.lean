/-
  The regions of a board of stones; the groups of a player that have no liberties are taken away. No conditions beyond those that each theorem bears.
-/
import Derived.Test.YtafiaimlmdflnaaTk0
namespace Go.Proofs.Ytafiaimlmdflnaa
open Go.RowKit Go.Shelf

theorem clr_nil (Z : List Int) : clr Z [] = Z := rfl

attribute [local irreducible] D4 spr rgs rgsU lib goneU clr gone

set_option maxRecDepth 100000 in
set_option maxHeartbeats 8000000 in
theorem regions_any (f : Nat) (lb : Array Value) (W H N bc cb co : Nat) (w : World) : Calls Try.prog 61 #[.agg (gdA W H (some ⟨cb, co, none⟩) N bc), .func (.func f) #[] lb] w fun e w' => ∃ gb db, e = .returned (.func (.func 100) #[] #[.pointer (some ⟨gb, 0, none⟩), .pointer (some ⟨gb + 1, 0, none⟩), .pointer (some ⟨gb + 2, 0, none⟩)]) ∧ RgR gb (gb + 1) (gb + 2) db W H (some ⟨cb, co, none⟩) N bc f lb w'.heap.size w' ∧ w.heap.size ≤ gb ∧ w.heap.size ≤ db ∧ Below w.heap.size w w' := by
  obtain ⟨w1, hw1⟩ : ∃ w1, w.alloc (.cells (gdA W H (some ⟨cb, co, none⟩) N bc) 54) = w1 := ⟨_, rfl⟩
  have B1 : Below w.heap.size w w1 := by rw [← hw1]; exact (Below.refl _ _).alloc (Nat.le_refl _) _
  have H1 : Hb w1 w.heap.size W H (some ⟨cb, co, none⟩) N bc := by rw [← hw1]; exact Hb.new w W H _ N bc
  have HGR : Hid (∀ W4, Below w1.heap.size w1 W4 → W4.rangeAt w.heap.size 0 [.int .i64 W, .int .i64 H, .slice (some ⟨cb, co, none⟩) N bc]) := hide (fun W4 hb => (H1.below hb H1.lt).range)
  have HB1 := hide B1
  clear B1 H1
  go_enter Try.func61, Try.ntmps61
  go_upto_region 1 with fail
  clear hw1
  refine wp_calm ?_
  refine wp_region_held (S := fun W4 => Below w1.heap.size w1 W4) (by kernel_rfl) ?_
  change wpAnyH _ _ _ _ _ _ _ _ (World.drew _)
  have SW : Below w1.heap.size w1 w1.drew := (Below.refl _ w1).drew
  refine wpAnyH_take (i := 0) (v := .pointer (some ⟨w.heap.size, 0, none⟩)) rfl (by kernel_rfl) (by kernel_rfl) (by kernel_rfl) (fun _ _ _ h => h) (Or.inl ⟨by rfl, ?_⟩) SW ?_
  · intro W4 hW4
    go_simp <;> first | done | rfl | (rw [IntKind.wrap_i64]; omega) | omega
  go_simp
  refine wpAnyH_take (i := 1) (v := .agg (gdA W H (some ⟨cb, co, none⟩) N bc)) rfl (by kernel_rfl) (by kernel_rfl) (by kernel_rfl) (fun _ _ _ h => h) (yieldsIf_load_mid (by rfl) 24 _ rfl w.heap.size 0 (by rfl) [.int .i64 W, .int .i64 H, .slice (some ⟨cb, co, none⟩) N bc] _ (fun W4 hW4 => HGR.out W4 hW4) Try.underlying24 rfl size24) SW ?_
  go_simp
  refine wpAnyH_take (i := 2) (v := .func (.func f) #[] lb) rfl (by kernel_rfl) (by kernel_rfl) (by kernel_rfl) (fun _ _ _ h => h) (Or.inl ⟨by rfl, ?_⟩) SW ?_
  · intro W4 hW4
    go_simp <;> first | done | rfl | (rw [IntKind.wrap_i64]; omega) | omega
  go_simp
  refine wpAnyH_ready (rs := [3]) (by kernel_rfl) (by simp) ?_
  refine AllReadyH.cons rfl (fun K1 hK1 => ?_) AllReadyH.nil
  go_simp
  refine (around_any _).mono ?_
  rintro e w2 ⟨rfl, hw2⟩
  have B2 : Below w1.heap.size w1 w2 := by rw [hw2]; exact SW.alloc (by simp) _
  have D2 : Blk w2 w1.heap.size 37 D4 := by rw [hw2]; exact Blk.new w1.drew 37 D4 _ rfl
  have s2 : w2.heap.size = w1.heap.size + 1 := by rw [hw2]; simp
  refine hK1.out _ _ B2 (fun SW => ?_)
  clear hw2 hK1 K1
  refine wpAnyH_ready (rs := [4]) (by kernel_rfl) (by simp) ?_
  refine AllReadyH.cons rfl (fun K1 hK1 => ?_) AllReadyH.nil
  go_simp
  refine (Regions_any W H _ N bc w1.heap.size f lb _ rfl _).mono ?_
  rintro e w3 ⟨rfl, hw3⟩
  have B3 : Below w1.heap.size w1 w3 := by rw [hw3]; exact ((SW.alloc (by omega) _).alloc (by simp; omega) _).alloc (by simp; omega) _
  have R3 := hide (RgR.new W H (some ⟨cb, co, none⟩) N bc w1.heap.size f lb w3.heap.size w2 D2 (by rw [hw3]; simp))
  rw [← hw3, s2] at R3
  refine hK1.out _ _ B3 (fun SW => ?_)
  clear hw3 hK1 K1
  go_simp
  refine wpAnyH_take (i := 5) (v := .func (.func 100) #[] #[.pointer (some ⟨w1.heap.size + 1, 0, none⟩), .pointer (some ⟨w1.heap.size + 1 + 1, 0, none⟩), .pointer (some ⟨w1.heap.size + 1 + 2, 0, none⟩)]) rfl (by kernel_rfl) (by kernel_rfl) (by kernel_rfl) (fun _ _ _ h => h) (Or.inl ⟨by rfl, ?_⟩) SW ?_
  · intro W4 hW4
    go_simp <;> first | done | rfl | (rw [IntKind.wrap_i64]; omega) | omega
  go_simp
  refine wpAnyH_done (by kernel_rfl) ?_ _
  go_wp2_with fail
  go_ret
  have := HB1.out.size
  exact ⟨w1.heap.size + 1, w1.heap.size, rfl, R3.out, by omega, by omega, HB1.out.trans (B3.mono HB1.out.size)⟩

/-- A board's signs in a row that may be written to. -/
def Bw (V : World) (cb N bc : Nat) (Z : List Int) : Prop := V.ownsRow 0 3 1 (.slice (some ⟨cb, 0, none⟩) N bc) N (Z.map (Value.int .i64))

theorem Bw.rd {V : World} {cb N bc : Nat} {Z : List Int} (h : Bw V cb N bc Z) : Rd V (some ⟨cb, 0, none⟩) N bc Z := Rd.of_own h
theorem Bw.keeps {V V' : World} {X : Nat → Prop} {cb N bc : Nat} {Z : List Int} (h : Bw V cb N bc Z) (hk : Keeps X V V') (hX : ¬ X cb) : Bw V' cb N bc Z :=
  own_blk h (fun g hg => by
    simp only [Value.ownBlock, Option.some.injEq] at hg
    subst hg
    exact hk.block _ (h.lt _ rfl).2 hX)
theorem Bw.mono {V V' : World} {cb N bc : Nat} {Z : List Int} (h : Bw V cb N bc Z) (hb : Below V.heap.size V V') : Bw V' cb N bc Z := h.keeps (X := fun _ => False) (Keeps.of_all hb) (fun h => h)
theorem Bw.lt {V : World} {cb N bc : Nat} {Z : List Int} (h : Bw V cb N bc Z) : cb < V.heap.size := (World.ownsRow.lt h cb rfl).2
theorem Bw.set {V : World} {cb N bc : Nat} {Z : List Int} (h : Bw V cb N bc Z) (j : Nat) (x : Int) : Bw (V.setCell ⟨cb, j, none⟩ (.int .i64 x)) cb N bc (Z.set j x) := by
  have := (World.ownsRow.stored h j (.int .i64 x)).1
  unfold Bw
  rw [List.map_set]
  exact this
theorem Bw.frozen {V : World} {cb N bc : Nat} {Z : List Int} (h : Bw V cb N bc Z) (j : Nat) : V.frozen? ⟨cb, j, none⟩ = false := World.ownsRow.frozenAt h j

/-- What is held while groups are taken away: b2: the board; b5: how many; hb, sb: what the question has captured. -/
structure TkI (b2 b5 hb sb W H cb N bc : Nat) (v : Int) (Z : List Int) (w0 : World) (s : List (List Nat)) (V : World) : Prop where
  bd : Hb V b2 W H (some ⟨cb, 0, none⟩) N bc
  hb : Hb V hb W H (some ⟨cb, 0, none⟩) N bc
  sb : V.cell? ⟨sb, 0, none⟩ = some (.int .i64 v)
  no : Blk V b5 3 [((goneU W H Z s).length : Int)]
  bw : Bw V cb N bc (clr Z (goneU W H Z s))
  kp : Keeps (fun k => k = cb ∨ k = b5) w0 V

theorem TkI.keeps {b2 b5 hb sb W H cb N bc : Nat} {v : Int} {Z : List Int} {w0 : World} {s : List (List Nat)} {X : Nat → Prop} {V V' : World} (h : TkI b2 b5 hb sb W H cb N bc v Z w0 s V) (hk : Keeps X V V') (h1 : ¬ X b2) (h2 : ¬ X b5) (h3 : ¬ X hb) (h4 : ¬ X sb) (h5 : ¬ X cb) (h6 : ∀ k, k < w0.heap.size → ¬ X k) : TkI b2 b5 hb sb W H cb N bc v Z w0 s V' :=
  ⟨h.bd.keeps hk h1, h.hb.keeps hk h3, hk.cell h.sb h4, h.no.keeps hk h2, h.bw.keeps hk h5, h.kp.after hk (fun i hi e => absurd e (h6 i hi))⟩

attribute [local go_sem] Oper.semAt_some wide_fn wide_fn0 wide_depth

set_option maxRecDepth 100000 in
set_option maxHeartbeats 16000000 in
theorem take_any (W H N bc cb : Nat) (v : Int) (Z : List Int) (w : World) (hW : 1 ≤ W ∧ W ≤ 10) (hH : 1 ≤ H ∧ H ≤ 10) (hN : W * H = N) (hB : Bw w cb N bc Z) :
    Calls Try.prog 56 #[.agg (gdA W H (some ⟨cb, 0, none⟩) N bc), .int .i64 v] w fun e w' => e = .returned (.int .i64 ((gone W H Z v).length : Nat)) ∧ Bw w' cb N bc (clr Z (gone W H Z v)) ∧ Keeps (fun k => k = cb) w w' := by
  have hN100 : N ≤ 100 := by rw [← hN]; exact Nat.mul_le_mul hW.2 hH.2
  have hN1 : 0 < N := by rw [← hN]; exact Nat.mul_pos (by omega) (by omega)
  have HZL : Hid (Z.length = N) := hide hB.rd.len
  have HCB := hide hB.lt
  have HGN : Hid (gone W H Z v = goneU W H Z (rgs N (nb4 W H) fun q => Z.getD q 0 = v)) := hide (by rw [gone, hN])
  have hcap := hB.rd.cap
  have hmx : bc ≤ 9223372036854775807 := by have := hB.rd.max; unfold maxLen at this; omega
  obtain ⟨w1, hw1⟩ : ∃ w1, (w.alloc (.cells (gdA W H (some ⟨cb, 0, none⟩) N bc) 54)).alloc (.cells #[.int .i64 0] 3) = w1 := ⟨_, rfl⟩
  have B1 : Below w.heap.size w w1 := by rw [← hw1]; exact ((Below.refl _ _).alloc (Nat.le_refl _) _).alloc (by simp) _
  have s1 : w1.heap.size = w.heap.size + 2 := by rw [← hw1]; simp
  have H1 : Hb w1 w.heap.size W H (some ⟨cb, 0, none⟩) N bc := by rw [← hw1]; exact (Hb.new w W H _ N bc).old _
  have C1 : Blk w1 (w.heap.size + 1) 3 [0] := by
    rw [← hw1]
    have := Blk.new (w.alloc (.cells (gdA W H (some ⟨cb, 0, none⟩) N bc) 54)) 3 [0] _ rfl
    rwa [World.size_alloc] at this
  have HGR : Hid (∀ W4, Below w1.heap.size w1 W4 → W4.rangeAt w.heap.size 0 [.int .i64 W, .int .i64 H, .slice (some ⟨cb, 0, none⟩) N bc]) := hide (fun W4 hb => (H1.below hb H1.lt).range)
  have HB1 := hide B1
  have HS1 := hide s1
  have HH1 := hide H1
  have HC1 := hide C1
  have HBW1 := hide (hB.mono B1)
  have HW1 := hide hw1
  clear B1 s1 H1 C1 hB hw1
  refine (callsIn_wide (n := 3)).1 ?_
  refine callsIn_of_wp_marks Try.func56 rfl trivial ?_ rfl
  simp only [Try.ntmps56, List.size_toArray, List.length_cons, List.length_nil, Nat.reduceAdd, Nat.reduceSub, Array.replicate_succ, Array.replicate_zero, List.push_toArray, List.append_toArray, List.nil_append, List.cons_append]
  refine wpIn_wide.2 ?_
  go_upto_region 2 with fail
  rw [HW1.out]
  clear HW1
  refine wp_calm ?_
  refine wp_region_held (S := fun W4 => Below w1.heap.size w1 W4) (by kernel_rfl) ?_
  change wpAnyH _ _ _ _ _ _ _ _ (World.drew _)
  have SW : Below w1.heap.size w1 w1.drew := (Below.refl _ w1).drew
  refine wpAnyH_take (i := 0) (v := .agg (gdA W H (some ⟨cb, 0, none⟩) N bc)) rfl (by kernel_rfl) (by kernel_rfl) (by kernel_rfl) (fun _ _ _ h => h) (yieldsIf_load_mid (by rfl) 54 _ rfl w.heap.size 0 (by rfl) [.int .i64 W, .int .i64 H, .slice (some ⟨cb, 0, none⟩) N bc] _ (fun W4 hW4 => HGR.out W4 hW4) Try.underlying54 rfl size54) SW ?_
  go_simp
  refine wpAnyH_take (i := 1) (v := .agg (gdA W H (some ⟨cb, 0, none⟩) N bc)) rfl (by kernel_rfl) (by kernel_rfl) (by kernel_rfl) (fun _ _ _ h => h) (yieldsIf_load_mid (by rfl) 54 _ rfl w.heap.size 0 (by rfl) [.int .i64 W, .int .i64 H, .slice (some ⟨cb, 0, none⟩) N bc] _ (fun W4 hW4 => HGR.out W4 hW4) Try.underlying54 rfl size54) SW ?_
  go_simp
  refine wpAnyH_take (i := 2) (v := .int .i64 v) rfl (by kernel_rfl) (by kernel_rfl) (by kernel_rfl) (fun _ _ _ h => h) (Or.inl ⟨by rfl, ?_⟩) SW ?_
  · intro W4 hW4
    go_simp <;> first | done | rfl | (rw [IntKind.wrap_i64]; omega) | omega
  go_simp
  refine wpAnyH_ready (rs := [3]) (by kernel_rfl) (by simp) ?_
  refine AllReadyH.cons rfl (fun K1 hK1 => ?_) AllReadyH.nil
  go_simp
  refine (has_any W H _ N bc v _).mono ?_
  rintro e w2 ⟨rfl, hw2⟩
  have B2 : Below w1.heap.size w1 w2 := by rw [hw2]; exact (SW.alloc (by simp) _).alloc (by simp) _
  have R2 := hide (HsR.new W H cb 0 N bc v Z w1.drew (HBW1.out.mono SW).rd)
  rw [← hw2] at R2
  have s2 : Hid (w2.heap.size = w1.heap.size + 2) := hide (by rw [hw2]; simp)
  refine hK1.out _ _ B2 (fun SW => ?_)
  clear hw2 hK1 K1
  refine wpAnyH_ready (rs := [4]) (by kernel_rfl) (by simp) ?_
  refine AllReadyH.cons rfl (fun K1 hK1 => ?_) AllReadyH.nil
  go_simp
  refine (regions_any 74 _ W H N bc cb 0 _).mono ?_
  rintro e w5 ⟨gb, db, rfl, hR5, hgb, hdb, hb5⟩
  have B5 : Below w1.heap.size w1 w5 := SW.trans (hb5.mono SW.size)
  have HR5 := hide hR5
  have HGB : Hid (w2.heap.size ≤ gb ∧ w2.heap.size ≤ db) := hide ⟨hgb, hdb⟩
  have HR2 := hide (R2.out.mono hb5)
  refine hK1.out _ _ B5 (fun SW => ?_)
  have HB5 := hide B5
  clear hK1 K1 hR5 hgb hdb hb5 R2 B5
  refine wpAnyH_done (by kernel_rfl) ?_ _
  go_wp2_with fail
  have z1 := HS1.out
  have z2 := s2.out
  have z3 := HGB.out
  have z4 := HR5.out.lt
  have z5 := HCB.out
  have z6 := HB1.out.size
  have I5 : TkI w.heap.size (w.heap.size + 1) w1.heap.size (w1.heap.size + 1) W H cb N bc v Z w5 [] w5 :=
    ⟨HH1.out.below HB5.out HH1.out.lt, HR2.out.b, HR2.out.s, by rw [goneU_nil]; exact HC1.out.below HB5.out HC1.out.lt, by rw [goneU_nil, clr_nil]; exact HBW1.out.mono HB5.out, Keeps.refl _ _⟩
  have HZ : Hid (w.heap.size + 4 ≤ w5.heap.size ∧ w1.heap.size + 2 ≤ w5.heap.size ∧ cb < w.heap.size ∧ w1.heap.size = w.heap.size + 2) := hide (by have := z4 gb (.inl rfl); omega)
  have HT : Hid (∀ k, RgT gb (gb + 1) (gb + 2) db k → w1.heap.size + 2 ≤ k ∧ k < w5.heap.size) := hide (fun k hk => ⟨by unfold RgT at hk; omega, z4 k hk⟩)
  clear z1 z2 z3 z4 z5 z6
  refine (wpIn_wide (n := 1)).1 (wp_range_m (gf := 100) (lb := #[.pointer (some ⟨gb, 0, none⟩), .pointer (some ⟨gb + 1, 0, none⟩), .pointer (some ⟨gb + 2, 0, none⟩)]) (G := GgG w5.heap.size) (xs := rgs N (nb4 W H) fun q => Z.getD q 0 = v) (R := RgR gb (gb + 1) (gb + 2) db W H (some ⟨cb, 0, none⟩) N bc 74 #[.pointer (some ⟨w1.heap.size, 0, none⟩), .pointer (some ⟨w1.heap.size + 1, 0, none⟩)] w5.heap.size) (T := RgT gb (gb + 1) (gb + 2) db) (c := 1) (M := RgM 74 #[.pointer (some ⟨w1.heap.size, 0, none⟩), .pointer (some ⟨w1.heap.size + 1, 0, none⟩)] N fun q => Z.getD q 0 = v) (by simp [Act.eval]) (enters_of Try.func100 (by kernel_rfl) rfl)
    (regions1_seq gb (gb + 1) (gb + 2) db W H _ N bc 74 _ w5.heap.size _ hW hH hN (enters_of Try.func74 (by kernel_rfl) rfl)) (fun k hk => (HT.out k hk).2) (fun A B hA hk => hA.keeps hk (fun k hk h => h hk)) HR5.out (fun k => k = cb ∨ k = w.heap.size + 1 ∨ w5.heap.size + 3 ≤ k) ?hX (fun x args W' hG => by obtain ⟨a, c, rfl, _⟩ := hG; rfl)
    (fun s V => TkI w.heap.size (w.heap.size + 1) w1.heap.size (w1.heap.size + 1) W H cb N bc v Z w5 s V ∧ s <+: rgs N (nb4 W H) fun q => Z.getD q 0 = v) (fun _ _ => False) ?hI (fun _ _ _ h _ => h) ?hM ⟨I5, List.nil_prefix⟩ ?round ?done (fun _ _ _ _ h => h.elim))
  case hX =>
    intro k hk
    have z := HZ.out
    refine ⟨fun ht => by have := HT.out k ht; omega, fun e => by omega⟩
  case hI =>
    rintro s A B ⟨h1, h2⟩ hk
    have z := HZ.out
    exact ⟨h1.keeps hk (fun e => by omega) (fun e => by omega) (fun e => by omega) (fun e => by omega) (fun e => by omega) (fun k hk e => by omega), h2⟩
  case hM =>
    rintro s A ⟨h1, h2⟩ q V hq hns hb
    have h3 := has1_any w1.heap.size (w1.heap.size + 1) W H cb 0 N bc v (clr Z (goneU W H Z s)) q V hq ((HsR.mk h1.hb h1.sb h1.bw.rd).mono hb)
    rw [clr_getD _ _ _ (fun q hq => by rw [HZL.out]; exact (pre_mem h2 (goneU_sub hq)).1), if_neg (fun h => hns (goneU_sub h))] at h3
    exact h3
  case round =>
    rintro l2 s L args W6 hl2 hrec ⟨hI6, hs6⟩ hpre hG hsz6
    obtain ⟨ga, gc, rfl, hIr⟩ := hG
    have hLm : L ∈ rgs N (nb4 W H) fun q => Z.getD q 0 = v := hpre.subset (by simp)
    obtain ⟨r1, r2, r3⟩ := reg_ne hLm
    have HLB : Hid (lib W H (clr Z (goneU W H Z s)) L = lib W H Z L) := hide (lib_later (by rw [hN]; exact HZL.out) (by rw [hN]; exact hpre))
    have HGL : Hid ((goneU W H Z (s ++ [L])).length ≤ 100) := hide (Nat.le_trans (goneU_len (v := v) (by rw [hN]; exact hpre)) (by rw [hN]; exact hN100))
    have HPRE := hide hpre
    have HL2 : Hid (∀ x ∈ L, x < N) := hide (fun x hx => (r2 x hx).1)
    have hL100 : L.length ≤ 100 := Nat.le_trans r3 hN100
    have hgblk : ∀ b off, ga = some ⟨b, off, none⟩ → b ≠ l2 ∧ w5.heap.size ≤ b := by
      intro b off e
      obtain ⟨h1, cur, h2⟩ := hIr.ty b off e
      refine ⟨fun e2 => ?_, h1⟩
      subst e2
      obtain ⟨rc, hrc⟩ := hrec
      rw [hrc] at h2
      simp at h2
    have HGK := hide hgblk
    have HI6 := hide hI6
    have HIR := hide hIr.rd
    have HSZ6 := hide hsz6
    have HLL := hide hl2
    clear hI6 hs6 hpre hIr hrec hLm r2 r3 hl2 hsz6 hgblk
    gi_wp2
    refine ⟨Keeps.refl _ _, ?_⟩
    intro W7 hk7
    have z := HZ.out
    have zl := HLL.out
    have zs := HSZ6.out
    have I7 := HI6.out.keeps hk7 (fun e => by omega) (fun e => by omega) (fun e => by omega) (fun e => by omega) (fun e => by omega) (fun k hk e => by omega)
    have HR7 := hide (HIR.out.keeps hk7 (fun b off e => (HGK.out b off e).1))
    have HC := hide (liberties_any W H N bc cb 0 (clr Z (goneU W H Z s)) ga gc L W7 hW hH hN (fun x hx => by rw [hN]; exact HL2.out x hx) hL100 r1 I7.bw.rd HR7.out)
    rw [HLB.out] at HC
    have hb7 := I7.bd
    have HI7 := hide I7
    have HS7 : Hid (w5.heap.size + 3 ≤ W7.heap.size) := hide (Nat.le_trans HSZ6.out hk7.size)
    obtain ⟨gl, hgl⟩ : ∃ gl, L.length = gl := ⟨_, rfl⟩
    rw [hgl] at HC HR7 hL100 r1 ⊢
    have HGLE := hide hgl
    have hlb : (lib W H Z L).length ≤ 100 := by have := lib_len W H Z L; rw [hN] at this; omega
    obtain ⟨ll, hll⟩ : ∃ ll, (lib W H Z L).length = ll := ⟨_, rfl⟩
    rw [hll] at HC hlb
    have HLE := hide hll
    clear hgl hll hk7 HI6 HIR z zl zs I7
    gi_wp2_with (first | (refine roundIn_load_hb rfl (.tmp 2) rfl w.heap.size rfl hb7 ?_) | fail)
    refine (CallsIn.inRound l2 (callsIn_wide.2 HC.out)).mono ?_
    rintro e W8 ⟨la, lc, rfl, hRl, hb8⟩
    have HI8 := hide (HI7.out.keeps (X := fun _ => False) (Keeps.of_all hb8) (fun h => h) (fun h => h) (fun h => h) (fun h => h) (fun h => h) (fun _ _ h => h))
    have HR8 := hide (HR7.out.mono hb8)
    have HK8 : Hid (Keeps (fun k => k = cb ∨ k = w.heap.size + 1 ∨ w5.heap.size + 3 ≤ k) W7 W8) := hide (Keeps.of_all hb8)
    have hlc : ll ≤ lc := hRl.cap
    clear hRl hb8 HC hb7 HI7 HR7
    by_cases hl0 : ll = 0
    · subst hl0
      have HGY : Hid (goneU W H Z (s ++ [L]) = goneU W H Z s ++ L) := hide (goneU_yes HLE.out)
      have hgc : gl ≤ gc := HR8.out.cap
      have hgm : gc ≤ 9223372036854775807 := by have := HR8.out.max; unfold maxLen at this; omega
      gi_wp2_with fail
      gi_loopw [22] (fun vv wr => ∃ i : Nat, vv = .int .i64 i ∧ i ≤ gl ∧ Hid (Bw wr cb N bc (clr Z (goneU W H Z s ++ L.take i))) ∧ Hid (Keeps (fun k => k = cb) W8 wr)) (fun vv _ => gl - (intOf vv).toNat)
      case atStart => exact ⟨0, rfl, by omega, hide (by rw [List.take_zero, List.append_nil]; exact HI8.out.bw), hide (Keeps.refl _ _)⟩
      case round =>
        obtain ⟨i, rfl, hil, hVq, hKq⟩ := hrel
        have z := HZ.out
        by_cases hi : i < gl
        · have hi' : (i : Int) < (gl : Int) := by omega
          have hRq := HR8.out.keeps hKq.out (fun b off e => by have := (HGK.out b off e).2; omega)
          obtain ⟨gb2, go2, rfl, hcell⟩ := hRq.cells (by omega)
          have hci := hcell i hi
          rw [toI_getD (by rw [HGLE.out]; exact hi)] at hci
          have hx : L.getD i 0 < N := HL2.out _ (getD_memN (by rw [HGLE.out]; exact hi))
          have HTK : Hid (L.take (i + 1) = L.take i ++ [L.getD i 0]) := hide (by
            have hh : i < L.length := by rw [HGLE.out]; exact hi
            rw [List.take_succ_eq_append_getElem hh]
            simp [List.getD, hh])
          obtain ⟨x, hxx⟩ : ∃ x, L.getD i 0 = x := ⟨_, rfl⟩
          rw [hxx] at hci hx HTK
          obtain ⟨-, -, g2⟩ := (HI8.out.bd.keeps hKq.out (by omega)).cells
          have cx := (hVq.out.rd.cell hx).2
          have fx := hVq.out.frozen x
          have hx' : (x : Int) < (N : Int) := by omega
          have HV3 : Hid (Bw (wr.setCell ⟨cb, x, none⟩ (.int .i64 0)) cb N bc (clr Z (goneU W H Z s ++ L.take (i + 1)))) := hide (by
            rw [HTK.out, ← List.append_assoc, clr_snoc]
            exact hVq.out.set x 0)
          have HK3 : Hid (Keeps (fun k => k = cb) W8 (wr.setCell ⟨cb, x, none⟩ (.int .i64 0))) := hide (hKq.out.trans (Keeps.set1 _ _ _ _))
          rw [Nat.zero_add] at cx
          clear hcell hRq hxx hVq hKq z
          gi_wp2_with fail
          exact ⟨⟨i + 1, rfl, by omega, HV3, HK3⟩, by simp only [intOf]; omega⟩
        · obtain rfl : i = gl := by omega
          have HV4 : Hid (Bw wr cb N bc (clr Z (goneU W H Z s ++ L))) := hide (by
            have := hVq.out
            rw [List.take_of_length_le (by rw [HGLE.out]; exact Nat.le_refl _)] at this
            exact this)
          have no4 := HI8.out.no.keeps hKq.out (by omega)
          have c4 := no4.cell (i := 0) (by simp)
          have f4 := no4.frozen 0
          have hgs : (goneU W H Z s).length + i ≤ 100 := by
            have := HGL.out
            rw [HGY.out, List.length_append, HGLE.out] at this
            exact this
          obtain ⟨gs, hgse⟩ : ∃ gs, (goneU W H Z s).length = gs := ⟨_, rfl⟩
          have c4' : wr.cell? ⟨w.heap.size + 1, 0, none⟩ = some (.int .i64 gs) := by rw [c4, ← hgse]; rfl
          rw [hgse] at hgs
          have HNO : Hid (Blk (wr.setCell ⟨w.heap.size + 1, 0, none⟩ (.int .i64 ((gs : Int) + (i : Int)))) (w.heap.size + 1) 3 [((goneU W H Z (s ++ [L])).length : Int)]) := hide (by
            have := no4.set 0 ((gs : Int) + (i : Int))
            rw [HGY.out, List.length_append, HGLE.out, hgse]
            simpa using this)
          have kk : Keeps (fun k => k = w.heap.size + 1) wr (wr.setCell ⟨w.heap.size + 1, 0, none⟩ (.int .i64 ((gs : Int) + (i : Int)))) := Keeps.set1 _ _ _ _
          have k84 : Keeps (fun k => k = cb ∨ k = w.heap.size + 1) W8 (wr.setCell ⟨w.heap.size + 1, 0, none⟩ (.int .i64 ((gs : Int) + (i : Int)))) := (hKq.out.mono (fun _ _ e => .inl e)).trans (kk.mono (fun _ _ e => .inr e))
          have HI9 : Hid (TkI w.heap.size (w.heap.size + 1) w1.heap.size (w1.heap.size + 1) W H cb N bc v Z w5 (s ++ [L]) (wr.setCell ⟨w.heap.size + 1, 0, none⟩ (.int .i64 ((gs : Int) + (i : Int))))) := hide
            ⟨HI8.out.bd.keeps k84 (fun e => by omega), HI8.out.hb.keeps k84 (fun e => by omega), k84.cell HI8.out.sb (fun e => by dsimp only at e; omega), HNO.out, by rw [HGY.out]; exact HV4.out.keeps kk (by omega), HI8.out.kp.trans k84⟩
          have HK9 : Hid (Keeps (fun k => k = cb ∨ k = w.heap.size + 1 ∨ w5.heap.size + 3 ≤ k) W7 (wr.setCell ⟨w.heap.size + 1, 0, none⟩ (.int .i64 ((gs : Int) + (i : Int))))) := hide (HK8.out.trans (k84.mono (fun k _ e => by omega)))
          clear c4 no4 kk k84 hVq hKq HNO hgse z
          gi_wp2_with fail
          exact ⟨HK9.out, HI9.out, HPRE.out⟩
    · have HGN2 : Hid (goneU W H Z (s ++ [L]) = goneU W H Z s) := hide (goneU_no (by rw [HLE.out]; exact hl0))
      have hlp : 0 < ll := by omega
      have hlp' : (0 : Int) < (ll : Int) := by omega
      gi_wp2_with fail
      refine ⟨HK8.out, ⟨HI8.out.bd, HI8.out.hb, HI8.out.sb, ?_, ?_, HI8.out.kp⟩, HPRE.out⟩
      · rw [HGN2.out]; exact HI8.out.no
      · rw [HGN2.out]; exact HI8.out.bw
  case done =>
    rintro D W6 hD ⟨hI6, _⟩ hR6 hKD
    have z := HZ.out
    have c6 := hI6.no.cell (i := 0) (by simp)
    have HMK : Hid (Marks w.heap.size W6 [{ target := .collected D, args := #[] }]) := hide ⟨[D], rfl, by simp, (fun E hE => by rw [List.mem_singleton.1 hE]; exact hKD), (fun E hE => by rw [List.mem_singleton.1 hE]; omega)⟩
    have HB6 := hide hI6.bw
    have HK6 : Hid (Keeps (fun k => k = cb) w W6) := hide (by
      have k1 : Keeps (fun k => k = cb) w w5 := (Keeps.of_all HB1.out).trans (Keeps.mono (Keeps.of_all HB5.out) (fun _ _ e => e))
      exact k1.after hI6.kp (fun i hi e => by omega))
    have HCE : Hid (W6.cell? ⟨w.heap.size + 1, 0, none⟩ = some (.int .i64 ((gone W H Z v).length : Nat))) := hide (by rw [c6, HGN.out]; rfl)
    rw [← HGN.out] at HB6
    have hgl : (gone W H Z v).length ≤ 100 := by
      rw [HGN.out]
      exact Nat.le_trans (goneU_len (v := v) (by rw [hN]; exact List.prefix_refl _)) (by rw [hN]; exact hN100)
    have c7 := HCE.out
    clear hI6 hR6 hD hKD z c6 HCE
    go_wp2_with fail
    refine leaves_marks HMK.out (fun w9 hk9 => ?_)
    have z := HZ.out
    refine ⟨_, results_tmp rfl _ _ _, rfl, HB6.out.keeps hk9 (fun e => by have := e.1; omega), HK6.out.after hk9 (fun i hi e => by have := e.1; omega)⟩

end Go.Proofs.Ytafiaimlmdflnaa
