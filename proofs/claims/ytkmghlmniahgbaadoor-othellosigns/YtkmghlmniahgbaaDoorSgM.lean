/-
  Mirrored boards have mirrored places; a move turns one at least; two rows compared. No conditions beyond those that each theorem bears.
-/
import Derived.Test.YtkmghlmniahgbaaDoorSm
import Derived.Test.YtkmghlmniahgbaaDoorOc
namespace Go.Proofs.YtkmghlmniahgbaaDoor
open Go.RowKit

/-- The mirrored place. -/
def mir (W i : Nat) : Nat := i / W * W + (W - 1 - i % W)

def mirL (W : Nat) (Z : List Int) : List Int := (List.range Z.length).map fun i => Z.getD (mir W i) 0

theorem mir_mod {W i : Nat} (hW : 0 < W) : mir W i % W = W - 1 - i % W ∧ mir W i / W = i / W := by
  have := Nat.mod_lt i hW
  exact place_of (W := W) (y := i / W) (x := W - 1 - i % W) (by omega)

theorem mir_mir {W i : Nat} (hW : 0 < W) : mir W (mir W i) = i := by
  obtain ⟨h1, h2⟩ := mir_mod (i := i) hW
  have h3 := Nat.mod_lt i hW
  have h4 := Nat.div_add_mod i W
  unfold mir at h1 h2 ⊢
  rw [h1, h2]
  rw [Nat.mul_comm] at h4
  omega

theorem mir_lt {W H i : Nat} (hW : 0 < W) (hi : i < W * H) : mir W i < W * H := by
  have h1 : i / W < H := Nat.div_lt_of_lt_mul hi
  have h2 : (i / W + 1) * W ≤ H * W := Nat.mul_le_mul_right _ h1
  rw [Nat.succ_mul] at h2
  have h3 := Nat.mod_lt i hW
  unfold mir
  rw [Nat.mul_comm W H]
  omega

theorem mir_row (W y c : Nat) (hc : c < W) : mir W (y * W + c) = y * W + (W - 1 - c) := by
  obtain ⟨h1, h2⟩ := place_of (W := W) (y := y) hc
  unfold mir
  rw [h1, h2]

theorem mirL_len (W : Nat) (Z : List Int) : (mirL W Z).length = Z.length := by simp [mirL]

theorem mirL_getD {W i : Nat} {Z : List Int} (hi : i < Z.length) : (mirL W Z).getD i 0 = Z.getD (mir W i) 0 := by
  simp [mirL, List.getD, hi]

theorem cl_mir {W H : Nat} {Z : List Int} (hl : Z.length = W * H) (x y : Int) : cl W H (mirL W Z) x y = cl W H Z ((W : Int) - 1 - x) y := by
  unfold cl
  by_cases hb : onB W H x y = true
  · have hb2 : onB W H ((W : Int) - 1 - x) y = true := by rw [onB_iff] at hb ⊢; omega
    rw [if_pos hb, if_pos hb2]
    rw [onB_iff] at hb
    obtain ⟨a, rfl⟩ := Int.eq_ofNat_of_zero_le hb.1
    obtain ⟨b, rfl⟩ := Int.eq_ofNat_of_zero_le hb.2.2.1
    have ha : a < W := by omega
    have hbH : b < H := by omega
    have e1 : ((b : Int) * W + (a : Int)).toNat = b * W + a := by rw [← Int.natCast_mul, ← Int.natCast_add, Int.toNat_natCast]
    have e2 : ((b : Int) * W + ((W : Int) - 1 - (a : Int))).toNat = b * W + (W - 1 - a) := by
      rw [show (W : Int) - 1 - (a : Int) = ((W - 1 - a : Nat) : Int) by omega, ← Int.natCast_mul, ← Int.natCast_add, Int.toNat_natCast]
    have h3 : (b + 1) * W ≤ H * W := Nat.mul_le_mul_right _ hbH
    rw [Nat.succ_mul] at h3
    rw [e1, e2, mirL_getD (by rw [hl, Nat.mul_comm W H]; omega), mir_row W b a ha]
  · have hb2 : ¬ onB W H ((W : Int) - 1 - x) y = true := by rw [onB_iff] at hb ⊢; omega
    rw [if_neg hb, if_neg hb2]

theorem opp_mir {c c' : Int → Int → Int} {o dx dy : Int} {w : Int} (h : ∀ x y, c' x y = c (w - x) y) : ∀ (k : Nat) (x y : Int), opp c' o dx dy k x y = opp c o (-dx) dy k (w - x) y
  | 0, x, y => by unfold opp; rfl
  | k + 1, x, y => by
    unfold opp
    rw [h, opp_mir h k, show w - (x + dx) = w - x + -dx by omega]

theorem fl_mir {c c' : Int → Int → Int} {who dx dy w : Int} (h : ∀ x y, c' x y = c (w - x) y) (x y : Int) : fl c' who dx dy x y = fl c who (-dx) dy (w - x) y := by
  unfold fl
  dsimp only
  rw [opp_mir h, h, show w - (x + dx) = w - x + -dx by omega]
  generalize opp c (3 - who) (-dx) dy 8 (w - x + -dx) (y + dy) = n
  rw [show w - (x + ((n + 1 : Nat) : Int) * dx) = w - x + ((n + 1 : Nat) : Int) * -dx by rw [Int.mul_neg]; omega]

def mdir (d : Nat) : Nat := [1, 0, 2, 3, 5, 4, 7, 6].getD d 0
theorem mdir_is : ∀ d, d < 8 → mdir d < 8 ∧ dxs (mdir d) = - dxs d ∧ dys (mdir d) = dys d := by decide

theorem lg_mir1 {c c' : Int → Int → Int} {who w : Int} (h : ∀ x y, c' x y = c (w - x) y) (x y : Int) (hl : lg c' who x y = true) : lg c who (w - x) y = true := by
  rw [lg_iff] at hl ⊢
  obtain ⟨h1, d, hd, h2⟩ := hl
  obtain ⟨e1, e2, e3⟩ := mdir_is d hd
  refine ⟨by rw [← h]; exact h1, mdir d, e1, ?_⟩
  rw [e2, e3, ← fl_mir h]
  exact h2

theorem sps_iff {W H : Nat} {Z : List Int} {m p : Nat} : p ∈ sps W H Z m ↔ p < W * H ∧ lg (cl W H Z) (m : Int) ((p % W : Nat) : Int) ((p / W : Nat) : Int) = true := by
  unfold sps
  rw [List.mem_filter, List.mem_range]

theorem sps_mir {W H : Nat} {Z : List Int} {m p : Nat} (hW : 0 < W) (hl : Z.length = W * H) : p ∈ sps W H Z m → mir W p ∈ sps W H (mirL W Z) m := by
  rw [sps_iff, sps_iff]
  rintro ⟨hp, h⟩
  refine ⟨mir_lt hW hp, ?_⟩
  obtain ⟨e1, e2⟩ := mir_mod (i := p) hW
  have hlt : p % W < W := Nat.mod_lt _ hW
  have h' : ∀ x y, cl W H Z x y = cl W H (mirL W Z) ((W : Int) - 1 - x) y := fun x y => by rw [cl_mir hl]; congr 1; omega
  have := lg_mir1 h' _ _ h
  rw [e1, e2, show ((W - 1 - p % W : Nat) : Int) = (W : Int) - 1 - ((p % W : Nat) : Int) by omega]
  exact this

theorem mirL_mirL {W H : Nat} {Z : List Int} (hW : 0 < W) (hl : Z.length = W * H) : mirL W (mirL W Z) = Z := by
  apply List.ext_getElem
  · rw [mirL_len, mirL_len]
  · intro i h1 h2
    have h3 := mirL_getD (W := W) (Z := mirL W Z) (i := i) (by rw [mirL_len]; exact h2)
    have h4 := mirL_getD (W := W) (Z := Z) (i := mir W i) (by rw [hl]; exact mir_lt hW (by rw [← hl]; exact h2))
    rw [h4, mir_mir hW] at h3
    simpa [List.getD, h1, h2] using h3

theorem len_le_of : ∀ (l k : List Nat), l.Nodup → (∀ x, x ∈ l → x ∈ k) → l.length ≤ k.length
  | [], k, _, _ => by simp
  | a :: l, k, hn, h => by
    rw [List.nodup_cons] at hn
    have ha : a ∈ k := h a (by simp)
    have ih := len_le_of l (k.erase a) hn.2 (fun x hx => (List.mem_erase_of_ne (show x ≠ a from fun e => hn.1 (by rw [← e]; exact hx))).2 (h x (by simp [hx])))
    rw [List.length_erase_of_mem ha] at ih
    have := List.length_pos_of_mem ha
    rw [List.length_cons]
    omega

theorem sps_nd (W H : Nat) (Z : List Int) (m : Nat) : (sps W H Z m).Nodup := by
  unfold sps
  exact List.Nodup.sublist List.filter_sublist List.nodup_range

theorem mir_inj {W i j : Nat} (hW : 0 < W) (h : mir W i = mir W j) : i = j := by rw [← mir_mir (i := i) hW, h, mir_mir hW]

theorem sps_mlen1 {W H : Nat} {Z : List Int} {m : Nat} (hW : 0 < W) (hl : Z.length = W * H) : (sps W H Z m).length ≤ (sps W H (mirL W Z) m).length := by
  have h1 : ((sps W H Z m).map (mir W)).Nodup := List.Pairwise.map _ (fun a b hab e => hab (mir_inj hW e)) (sps_nd W H Z m)
  have := len_le_of _ (sps W H (mirL W Z) m) h1 (fun x hx => by
    obtain ⟨p, hp, rfl⟩ := List.mem_map.1 hx
    exact sps_mir hW hl hp)
  rwa [List.length_map] at this

theorem sps_mlen {W H : Nat} {Z : List Int} {m : Nat} (hW : 0 < W) (hl : Z.length = W * H) : (sps W H (mirL W Z) m).length = (sps W H Z m).length := by
  have h1 := sps_mlen1 (m := m) hW hl
  have h2 := sps_mlen1 (m := m) (Z := mirL W Z) hW (by rw [mirL_len]; exact hl)
  rw [mirL_mirL hW hl] at h2
  omega

theorem mirL_og {gW gH n : Nat} {zs : List Int} (b : Og gW gH n zs) : Og gW gH n (mirL gW zs) := by
  have hW : 0 < gW := by have := b.wd; omega
  refine ⟨b.wd, b.ht, b.we, b.he, b.mul, by rw [mirL_len]; exact b.len, ?_⟩
  intro z hz
  unfold mirL at hz
  obtain ⟨i, hi, rfl⟩ := List.mem_map.1 hz
  rw [List.mem_range, b.len, ← b.mul] at hi
  have h1 := mir_lt hW hi
  rw [b.mul, ← b.len] at h1
  refine b.z _ ?_
  simp [List.getD, h1]

/-- What a move does at each place. -/
theorem pz_facts {gW gH n : Nat} {zs : List Int} {m p : Nat} (b : Og gW gH n zs) (hm : m = 1 ∨ m = 2) (hin : p ∈ sps gW gH zs m) :
    (pz gW gH zs m p).getD p 0 = (m : Int) ∧ zs.getD p 0 = 0 ∧ (∀ k, k < n → k ≠ p → (pz gW gH zs m p).getD k 0 ≠ zs.getD k 0 → zs.getD k 0 = 3 - (m : Int) ∧ (pz gW gH zs m p).getD k 0 = (m : Int)) ∧ ∃ k, k < n ∧ k ≠ p ∧ (pz gW gH zs m p).getD k 0 ≠ zs.getD k 0 := by
  have hW : 0 < gW := by have := b.wd; omega
  obtain ⟨hp, hl⟩ := sps_iff.1 hin
  have hpb := cl_at (zs := zs) hW hp
  have h8 := on8_of b.wd.2 b.ht.2 hpb.2
  have hc := cl_onC b.wd.2 b.ht.2 zs
  have hm' : (m : Int) = 1 ∨ (m : Int) = 2 := by omega
  obtain ⟨h0, d, hd, hf⟩ := lg_iff.1 hl
  rw [hpb.1] at h0
  have hoth : ∀ k, k < gW * gH → tn (cl gW gH zs) (m : Int) ((p % gW : Nat) : Int) ((p / gW : Nat) : Int) ((k % gW : Nat) : Int) ((k / gW : Nat) : Int) = true → zs.getD k 0 = 3 - (m : Int) := fun k hk ht => by
    have := tn_other hc hm' h8 ht
    rwa [(cl_at (zs := zs) hW hk).1] at this
  refine ⟨by rw [pz_at hp, if_pos (Or.inl rfl)], h0, fun k hk hne hd => ?_, ?_⟩
  · have hk' : k < gW * gH := by rw [b.mul]; exact hk
    rw [pz_at hk'] at hd ⊢
    split at hd
    · rename_i e
      rw [if_pos e]
      exact ⟨hoth k hk' (e.resolve_left hne), rfl⟩
    · exact absurd rfl hd
  · have ht : tn (cl gW gH zs) (m : Int) ((p % gW : Nat) : Int) ((p / gW : Nat) : Int) (((p % gW : Nat) : Int) + ((1 : Nat) : Int) * dxs d) (((p / gW : Nat) : Int) + ((1 : Nat) : Int) * dys d) = true := (tn_iff hc hm' h8).2 ⟨d, hd, 1, by omega, hf, rfl, rfl⟩
    have ho := tn_other hc hm' h8 ht
    have hb := cl_on (v := 3 - (m : Int)) (by omega) ho
    obtain ⟨u, hu⟩ : ∃ u, ((p % gW : Nat) : Int) + ((1 : Nat) : Int) * dxs d = u := ⟨_, rfl⟩
    obtain ⟨v, hv⟩ : ∃ v, ((p / gW : Nat) : Int) + ((1 : Nat) : Int) * dys d = v := ⟨_, rfl⟩
    rw [hu, hv] at ht ho hb
    rw [onB_iff] at hb
    obtain ⟨i, rfl⟩ := Int.eq_ofNat_of_zero_le hb.1
    obtain ⟨j, rfl⟩ := Int.eq_ofNat_of_zero_le hb.2.2.1
    have hi : i < gW := by omega
    have hj : j < gH := by omega
    have e1 : (j * gW + i) % gW = i := by rw [Nat.mul_comm, Nat.mul_add_mod, Nat.mod_eq_of_lt hi]
    have e2 : (j * gW + i) / gW = j := by rw [Nat.mul_comm, Nat.mul_add_div hW, Nat.div_eq_of_lt hi, Nat.add_zero]
    have hk : j * gW + i < gW * gH := by
      have h3 : (j + 1) * gW ≤ gH * gW := Nat.mul_le_mul_right _ hj
      rw [Nat.succ_mul, Nat.mul_comm gH gW] at h3
      omega
    have hk2 : zs.getD (j * gW + i) 0 = 3 - (m : Int) := hoth _ hk (by rw [e1, e2]; exact ht)
    refine ⟨j * gW + i, by rw [← b.mul]; exact hk, fun e => ?_, ?_⟩
    · rw [e, h0] at hk2; omega
    · rw [pz_at hk, if_pos (Or.inr (by rw [e1, e2]; exact ht)), hk2]; omega

set_option maxHeartbeats 400000 in
theorem keepSame_any (a b : Option Addr) (n c m d : Nat) (xs ys : List Int) (w : World) (hx : Rd w a n c xs) (hy : Rd w b m d ys) :
    Calls Tryd.prog 25 #[.slice a n c, .slice b m d] w fun e w' => e = .returned (.bool (decide (xs = ys))) ∧ ∃ k, w' = w.drewN k := by
  have hmx := hx.max
  have hcx := hx.cap
  have hmy := hy.max
  have hcy := hy.cap
  unfold maxLen at hmx hmy
  by_cases hnm : n = m
  · subst hnm
    have hne : ((n : Int) != (n : Int)) = false := by simp
    by_cases h0 : n = 0
    · subst h0
      have ex : xs = [] := List.eq_nil_of_length_eq_zero hx.len
      have ey : ys = [] := List.eq_nil_of_length_eq_zero hy.len
      subst ex ey
      go_enter Tryd.func25, Tryd.ntmps25
      go_wp2
      refine wp_loop_rounds 1 ?_
      rw [rounds_succ]
      go_wp2
      go_ret
      exact ⟨rfl, 0, rfl⟩
    · obtain ⟨b1, o1, rfl, hc1⟩ := hx.cells (by omega)
      obtain ⟨b2, o2, rfl, hc2⟩ := hy.cells (by omega)
      have lx : Hid (xs.length = n) := hx.len
      have ly : Hid (ys.length = n) := hy.len
      clear hx hy
      go_enter Tryd.func25, Tryd.ntmps25
      go_wp2
      go_loopw [5] (fun i wr => ∃ k q : Nat, k ≤ n ∧ i = .int .i64 k ∧ wr = w.drewN q ∧ Hid (xs.take k = ys.take k)) (fun i _ => n - (intOf i).toNat)
      case atStart => exact ⟨0, 0, by omega, rfl, rfl, by simp [Hid]⟩
      case round =>
        obtain ⟨k, q, hk, rfl, rfl, hq⟩ := hrel
        by_cases hlt : k < n
        · have e1 := hc1 k hlt
          have e2 := hc2 k hlt
          clear hc1 hc2
          have hlt' : (k : Int) < (n : Int) := by omega
          have hs := take_succ_eq xs ys k (by rw [lx.out]; exact hlt) (by rw [ly.out]; exact hlt)
          have HS := hide hs
          clear hs
          by_cases hv : xs.getD k 0 = ys.getD k 0
          · have hb : (xs[k]?.getD 0 != ys[k]?.getD 0) = false := by simpa using hv
            have HV := hide hv
            clear hv
            go_wp2
            go_quiet (fail)
            go_wp2
            go_roundw
            case rel => exact ⟨k + 1, _, by omega, by go_num, rfl, HS.out.2 ⟨hq.out, HV.out⟩⟩
            case measure => simp [intOf]; omega
          · have hb : (xs[k]?.getD 0 != ys[k]?.getD 0) = true := by simpa using hv
            go_wp2
            go_quiet (fail)
            go_wp2
            go_ret
            exact ⟨ret_bool (by symm; rw [decide_eq_false_iff_not]; rintro rfl; exact hv rfl), _, World.drewN_drewN _ _ _⟩
        · have hlt' : ¬ (k : Int) < (n : Int) := by omega
          obtain rfl : k = n := by omega
          go_wp2
          go_ret
          refine ⟨ret_bool ?_, _, rfl⟩
          symm
          rw [decide_eq_true_iff]
          have h1 := hq.out
          rw [List.take_of_length_le (by rw [lx.out]; exact Nat.le_refl _), List.take_of_length_le (by rw [ly.out]; exact Nat.le_refl _)] at h1
          exact h1
  · have hne : ((n : Int) != (m : Int)) = true := by rw [bne_iff_ne]; omega
    go_enter Tryd.func25, Tryd.ntmps25
    go_wp2
    go_ret
    exact ⟨ret_bool (by symm; rw [decide_eq_false_iff_not]; rintro rfl; exact hnm (hx.len.symm.trans hy.len)), 0, rfl⟩


end Go.Proofs.YtkmghlmniahgbaaDoor
