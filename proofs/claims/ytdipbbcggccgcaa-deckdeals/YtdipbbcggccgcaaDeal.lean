/-
  What package deck's Deal answers, for every list, hands and each. No conditions beyond those that each theorem bears.
-/
import Derived.Test.YtdipbbcggccgcaaRiff
import Derived.BigRegion
namespace Go.Proofs.Ytdipbbcggccgcaa
open Go.RowKit

theorem Try.info30 : (Try.prog.info? 30).map (fun i => (i.zero, i.size, i.bytes)) = some (some (.slice none 0 0), 1, 24) := by kernel_rfl

/-- Hand j's cards. -/
def handOf (zs : List Int) (H E j : Nat) : List Int := (List.range E).map (fun t => zs.getD (t * H + j) 0)

theorem handOf_length (zs : List Int) (H E j : Nat) : (handOf zs H E j).length = E := by simp [handOf]

theorem handOf_get (zs : List Int) (H E j t : Nat) (ht : t < E) : (handOf zs H E j).getD t 0 = zs.getD (t * H + j) 0 := by simp [handOf, List.getD, ht]

theorem eq_handOf (zs : List Int) (H E j : Nat) (L : List Int) (hl : L.length = E) (h : ∀ t, t < E → L.getD t 0 = zs.getD (t * H + j) 0) : L = handOf zs H E j := by
  apply List.ext_getElem (by rw [hl, handOf_length])
  intro t h1 h2
  have := h t (by omega)
  rw [← handOf_get zs H E j t (by omega)] at this
  simpa [List.getD, h1, h2] using this

set_option maxHeartbeats 400000 in
theorem Deal_size (a : Option Addr) (n c : Nat) (H E : Int) (w : World) (h : 104 < n ∨ H < 1 ∨ 10 < H ∨ E < 0) :
    Calls Try.prog 20 #[.slice a n c, .int .i64 H, .int .i64 E] w fun e w' => e = .returned (.tuple #[.slice none 0 0, .slice none 0 0, .int .i64 2]) ∧ w' = w := by
  by_cases h1 : 104 < n
  · go_enter Try.func20, Try.ntmps20
    go_wp2
    go_ret3
    exact ⟨rfl, rfl⟩
  · by_cases h2 : H < 1
    · go_enter Try.func20, Try.ntmps20
      go_wp2
      go_ret3
      exact ⟨rfl, rfl⟩
    · by_cases h3 : 10 < H
      · go_enter Try.func20, Try.ntmps20
        go_wp2
        go_ret3
        exact ⟨rfl, rfl⟩
      · have h4 : E < 0 := by omega
        go_enter Try.func20, Try.ntmps20
        go_wp2
        go_ret3
        exact ⟨rfl, rfl⟩

set_option maxHeartbeats 400000 in
theorem Deal_count (a : Option Addr) (n c H E : Nat) (w : World) (hn : n ≤ 104) (h1 : 1 ≤ H) (h2 : H ≤ 10) (h : n / H < E) :
    Calls Try.prog 20 #[.slice a n c, .int .i64 H, .int .i64 E] w fun e w' => e = .returned (.tuple #[.slice none 0 0, .slice none 0 0, .int .i64 11]) ∧ w' = w := by
  have hq : (n : Int) / (H : Int) = ((n / H : Nat) : Int) := by simp
  have hle : n / H ≤ n := Nat.div_le_self _ _
  have h' : ((n / H : Nat) : Int) < (E : Int) := by omega
  generalize n / H = D at *
  go_enter Try.func20, Try.ntmps20
  go_wp2
  go_ret3
  exact ⟨rfl, rfl⟩

theorem Rd.grown {w w' : World} {a : Option Addr} {n c : Nat} {zs : List Int} {row : Option Nat} (h : Rd w a n c zs) (hg : w.grownBy w' row) (hne : 0 < n → ∀ x, a = some x → some x.block ≠ row) : Rd w' a n c zs := by
  refine ⟨h.len, h.cap, h.max, h.nil, fun hn => ?_⟩
  obtain ⟨b, off, rfl, hc⟩ := h.cells hn
  exact ⟨b, off, rfl, fun i hi => hg.cell (hc i hi) (hne hn ⟨b, off, none⟩ rfl)⟩

/-- The hands that have been dealt: k of them whole. -/
structure Dealt (w wr : World) (B H E k : Nat) (zs : List Int) (vs : List Value) : Prop where
  own : wr.ownsRow B 30 1 (.slice (some ⟨B, 0, none⟩) H H) H vs
  hands : ∀ j, j < k → ∃ g, B < g ∧ vs[j]? = some (.slice (some ⟨g, 0, none⟩) E E) ∧ Rd wr (some ⟨g, 0, none⟩) E E (handOf zs H E j)
  bel : Below B w wr

theorem own30_cell {wr : World} {base g n : Nat} {vs : List Value} (h : wr.ownsRow base 30 1 (.slice (some ⟨g, 0, none⟩) n n) n vs) (p : Nat) (hp : p < n) :
    (∃ v, vs[p]? = some v ∧ wr.cell? ⟨g, p, none⟩ = some v) ∧ wr.frozen? ⟨g, p, none⟩ = false := by
  refine ⟨?_, h.frozenAt p⟩
  have hl : vs.length = n := by simpa using h.1
  have hv : vs[p]? = some (vs[p]'(by omega)) := by simp [hl, hp]
  exact ⟨_, hv, by rw [h.cellAt p (by omega), hv]⟩

theorem deal_step (zs L : List Int) (H E k t : Nat) (hL : L.length = E) (ht : t < E) (HL : ∀ s, s < t → L.getD s 0 = zs.getD (s * H + k) 0) :
    ∀ s, s < t + 1 → (L.set t (zs.getD (t * H + k) 0)).getD s 0 = zs.getD (s * H + k) 0 := by
  intro s hs
  rw [getD_set _ _ _ _ (by omega)]
  by_cases h : s = t
  · subst h; rw [if_pos rfl]
  · rw [if_neg h]; exact HL s (by omega)

theorem grown_set {w w' : World} {g : Nat} (h : w.grownBy w' (some g)) (t : Nat) (x : Int) : w.grownBy (w'.setCell ⟨g, t, none⟩ (.int .i64 x)) (some g) :=
  ⟨h.os, h.tape, h.output, by simpa [World.setCell] using h.size, fun k hk hne => by
    rw [Below.heap_setCell _ _ _ _ (fun e => hne (by rw [e]))]
    exact h.block k hk hne⟩

theorem grown_drew {w w' : World} {g : Option Nat} (h : w.grownBy w' g) : w.grownBy w'.drew g := ⟨h.os, h.tape, h.output, h.size, h.block⟩

theorem dealt_step {w wo w2 ws : World} {H E k : Nat} {zs : List Int} {vs : List Value} {L : List Int} (hD : Dealt w wo w.heap.size H E k zs vs) (hlo : w.heap.size < wo.heap.size) (hk : k < H) (hG : wo.grownBy w2 none)
    (hown : ws.ownsRow wo.heap.size 3 1 (.slice (some ⟨wo.heap.size, 0, none⟩) E E) E (L.map (Value.int .i64)))
    (hg : (w2.setCell ⟨w.heap.size, k, none⟩ (.slice (some ⟨wo.heap.size, 0, none⟩) E E)).grownBy ws (some wo.heap.size)) (hL : L = handOf zs H E k) :
    Dealt w ws w.heap.size H E (k + 1) zs (vs.set k (.slice (some ⟨wo.heap.size, 0, none⟩) E E)) := by
  have o2 := hD.own.kept hG (.inr (by simp [Value.ownBlock]))
  have o3 := o2.stored k (.slice (some ⟨wo.heap.size, 0, none⟩) E E)
  have hl : vs.length = H := by simpa using hD.own.1
  have hwo := hG.size
  refine ⟨o3.1.kept hg (.inr (by simp [Value.ownBlock]; omega)), fun j hj => ?_, ((hD.bel.grown hG (by omega) (by simp)).setCell (Nat.le_refl _) _).grown hg (by simp; omega) (fun j hj => by simp at hj; omega)⟩
  by_cases hjk : j = k
  · subst hjk
    exact ⟨wo.heap.size, hlo, by simp [hl, hk], by rw [← hL]; exact Rd.of_own hown⟩
  · obtain ⟨g, hg1, hg2, hg3⟩ := hD.hands j (by omega)
    refine ⟨g, hg1, by rw [List.getElem?_set_ne (fun e => hjk e.symm)]; exact hg2, ?_⟩
    refine ((hg3.grown hG (fun _ x hx => by simp)).grown o3.2 (fun _ x hx => ?_)).grown hg (fun hn x hx => ?_)
    · obtain rfl := Option.some.inj hx
      simp; omega
    · obtain rfl := Option.some.inj hx
      have := World.block_lt_of_cell? wo _ ((hg3.cell (i := 0) hn).2)
      simp at this ⊢
      omega

theorem Dealt.mono {w wr w' : World} {B H E k : Nat} {zs : List Int} {vs : List Value} (h : Dealt w wr B H E k zs vs) (hb : Below wr.heap.size wr w') : Dealt w w' B H E k zs vs := by
  have hB : B < wr.heap.size := (h.own.lt B rfl).2
  refine ⟨h.own.kept (row := none) ⟨hb.os, hb.tape, hb.output, hb.size, fun k hk _ => hb.block k hk⟩ (.inr (by simp [Value.ownBlock])), fun j hj => ?_, h.bel.trans (hb.mono (by omega))⟩
  obtain ⟨g, h1, h2, h3⟩ := h.hands j hj
  exact ⟨g, h1, h2, h3.mono hb⟩

set_option maxHeartbeats 1000000 in
theorem Deal_yes (a : Option Addr) (n c H E : Nat) (zs : List Int) (w : World) (h : Rd w a n c zs) (hn : n ≤ 104) (h1 : 1 ≤ H) (h2 : H ≤ 10) (hE : E ≤ n / H) :
    Calls Try.prog 20 #[.slice a n c, .int .i64 H, .int .i64 E] w fun e w' => ∃ B vs a' c', e = .returned (.tuple #[.slice (some ⟨B, 0, none⟩) H H, .slice a' (n - H * E) c', .int .i64 0]) ∧
      Dealt w w' B H E H zs vs ∧ Rd w' a' (n - H * E) c' (zs.drop (H * E)) ∧ Below w.heap.size w w' := by
  have hq : (n : Int) / (H : Int) = ((n / H : Nat) : Int) := by simp
  have hle : n / H ≤ n := Nat.div_le_self _ _
  have hHE : H * E ≤ n := Nat.le_trans (Nat.mul_le_mul_left H hE) (Nat.mul_div_le n H)
  have hcm := h.max
  have hcn := h.cap
  unfold maxLen at hcm
  have hq2 : ¬ ((n / H : Nat) : Int) < (E : Int) := by omega
  have hEn : E ≤ 104 := by omega
  generalize n / H = D at *
  obtain ⟨i30, hi30, hy0, hy1, hy2⟩ := info_parts Try.info30
  obtain ⟨i0, hi, hz0, hz1, hz2⟩ := info_parts Try.info3
  have hmH : H ≤ maxLen := by unfold maxLen; omega
  have hbH : i30.bytes * H ≤ 281474976710656 := by rw [hy2]; omega
  have hmE : E ≤ maxLen := by unfold maxLen; omega
  have hbE : i0.bytes * E ≤ 281474976710656 := by rw [hz2]; omega
  have HH := hide h
  clear h
  go_enter Try.func20, Try.ntmps20
  go_wp2_with (at_make; refine wpList_make_full w rfl _ _ 41 rfl w.heap.size 30 i30 (.slice none 0 0) 1 Try.underlying41 hi30 hy0 hy1 _ _ _ _ H rfl rfl (by omega) (by omega) hbH hmH (Nat.le_refl _) ?_)
  intro w1 hown hgrow
  have hb1 : Below w.heap.size w w1 := (Below.refl _ _).grown hgrow (Nat.le_refl _) (fun k hk => by simp at hk)
  clear hgrow
  go_wp2_with fail
  go_loopw [36] (fun i wr => ∃ (k : Nat) (vs : List Value), k ≤ H ∧ i = .int .i64 k ∧ Dealt w wr w.heap.size H E k zs vs) (fun i _ => H - (intOf i).toNat)
  case atStart => exact ⟨0, _, by omega, rfl, ⟨hown, fun j hj => absurd hj (by omega), hb1⟩⟩
  case round =>
    clear hown hb1
    obtain ⟨k, vs, hk, rfl, hD⟩ := hrel
    by_cases hlt : k < H
    · obtain ⟨⟨v, hv, c1⟩, f1⟩ := own30_cell hD.own k hlt
      have HD := hide hD
      clear hD
      have HLO := hide (World.block_lt_of_cell? wr _ c1)
      go_wp2_with (at_make; refine wpList_make_full wr rfl _ _ 30 rfl wr.heap.size 3 i0 (.int .i64 0) 1 Try.underlying30 hi hz0 hz1 _ _ _ _ E rfl rfl (by omega) (by omega) hbE hmE (Nat.le_refl _) ?_)
      intro w2 hown2 hgrow2
      have c2 : w2.cell? ⟨w.heap.size, k, none⟩ = some v := hgrow2.cell c1 (by simp)
      have f2 : w2.frozen? ⟨w.heap.size, k, none⟩ = false := by
        rw [World.frozen?_of_block (w := wr) (hgrow2.block _ (World.block_lt_of_cell? wr _ c1) (by simp))]; exact f1
      rw [made_ints] at hown2
      have HO2 := hide hown2
      have HG2 := hide hgrow2
      clear hown2 hgrow2 c1 f1
      go_wp2_with fail
      obtain ⟨wo, hwo⟩ : ∃ wo : World, wo = wr := ⟨_, rfl⟩
      subst wr
      have hlo : w.heap.size < wo.heap.size := HLO.out
      go_loopw [45] (fun i ws => ∃ (t : Nat) (L : List Int), t ≤ E ∧ i = .int .i64 t ∧ ws.ownsRow wo.heap.size 3 1 (.slice (some ⟨wo.heap.size, 0, none⟩) E E) E (L.map (Value.int .i64)) ∧ (w2.setCell ⟨w.heap.size, k, none⟩ (.slice (some ⟨wo.heap.size, 0, none⟩) E E)).grownBy ws (some wo.heap.size) ∧ Hid (∀ s, s < t → L.getD s 0 = zs.getD (s * H + k) 0)) (fun i _ => E - (intOf i).toNat)
      case atStart => exact ⟨0, _, by omega, rfl, ownsRow_setCell_below HO2.out hlo _, World.grownBy.refl _ _, fun s hs => absurd hs (by omega)⟩
      case round =>
        obtain ⟨t, L, ht, rfl, hown, hg, HL⟩ := hrel
        have hLl : Hid (L.length = E) := hide (by simpa using hown.1)
        have hbel : Below w.heap.size w wr := ((HD.out.bel.grown HG2.out (by omega) (by simp)).setCell (Nat.le_refl _) _).grown hg (by have := HG2.out.size; simp; omega) (fun j hj => by simp at hj; omega)
        by_cases htl : t < E
        · have hidx : t * H + k < n := by
            have e1 : (t + 1) * H ≤ E * H := Nat.mul_le_mul_right H htl
            rw [Nat.succ_mul] at e1
            rw [Nat.mul_comm E H] at e1
            omega
          obtain ⟨bb, off, ha, hc⟩ := HH.out.cells (by omega)
          subst ha
          have hbl : bb < w.heap.size := World.block_lt_of_cell? w _ (hc 0 (by omega))
          have r1 := hc (t * H + k) hidx
          rw [← hbel.cell (p := ⟨bb, off + (t * H + k), none⟩) hbl] at r1
          have hTH : (t : Int) * (H : Int) = ((t * H : Nat) : Int) := by simp
          have cD : wr.cell? ⟨w.heap.size, k, none⟩ = some (.slice (some ⟨wo.heap.size, 0, none⟩) E E) := hg.cell (World.cell?_setCell_same _ _ _ c2) (by simp; omega)
          obtain ⟨c3, f3⟩ := own_cell hown t htl
          have HO3 := hide (own_set hown t (zs.getD (t * H + k) 0))
          have HG3 := hide (grown_set hg t (zs.getD (t * H + k) 0))
          have HS := hide (deal_step zs L H E k t hLl.out htl HL.out)
          have hne1 : ¬ bb = wo.heap.size := by omega
          have hne2 : ¬ w.heap.size = wo.heap.size := by omega
          have hne3 : ¬ bb = w.heap.size := by omega
          have hth0 : ((t * H : Nat) : Int) ≤ 104 := by omega
          clear hc hown hg hbel c2 f2
          generalize t * H = Q at *
          go_wp2_with fail
          go_region
          go_wp2_with fail
          go_roundw
          case rel => exact ⟨t + 1, _, by omega, by go_num, HO3.out, grown_drew HG3.out, HS.out⟩
          case measure => simp [intOf]; omega
        · have hte : t = E := by omega
          subst t
          have hlt2 : ¬ (E : Int) < (E : Int) := by omega
          have HDn := hide (dealt_step HD.out hlo hlt HG2.out hown hg (eq_handOf zs H E k L hLl.out HL.out))
          clear hown hg hbel
          go_wp2_with fail
          go_roundw
          case rel => exact ⟨k + 1, _, by omega, by go_num, HDn.out⟩
          case measure => simp [intOf]; omega
    · have hke : k = H := by omega
      subst k
      have hlt2 : ¬ (H : Int) < (H : Int) := by omega
      have hP : (H : Int) * (E : Int) = ((H * E : Nat) : Int) := by simp
      have HR := hide ((HH.out.mono hD.bel).from hHE)
      have HDD := hide hD
      have hsz := hD.bel.size
      clear hD
      generalize hPe : H * E = P at *
      have HPe := hide hPe
      clear hPe
      go_wp2_with (at_builtin; refine wpList_append_rd wr rfl _ _ rfl wr.heap.size (.slice none 0 0) 0 [] rfl (World.ownsRow_nil _ _ _ _) _ (n - P) (c - P) (zs.drop P) rfl HR.out (by omega) (Nat.le_refl _) ?_)
      all_goals
        intro v' w' hO hG
        have hex : ∃ a' c', v' = .slice a' (n - P) c' := by
          rcases hO.2 with ⟨hv, h0⟩ | ⟨g, cap, cur, hv, _⟩
          · exact ⟨none, 0, by rw [hv]; simp; omega⟩
          · exact ⟨_, _, hv⟩
        obtain ⟨a', c', hv'⟩ := hex
        rw [hv'] at hO
        rw [hv', ← List.map_drop] at *
        have hR' := hide (Rd.of_own hO)
        have HG := hide hG
        clear hO hG hv'
        go_wp2_with fail
        go_ret3
        obtain rfl := HPe.out
        have hB' : Below wr.heap.size wr w' := (Below.refl _ _).grown HG.out (Nat.le_refl _) (by simp [Value.ownBlock])
        exact ⟨_, _, _, _, rfl, HDD.out.mono hB', hR'.out, HDD.out.bel.trans (hB'.mono hsz)⟩

end Go.Proofs.Ytdipbbcggccgcaa
