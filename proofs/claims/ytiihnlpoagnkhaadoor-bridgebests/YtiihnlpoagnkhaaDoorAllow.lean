/-
  What bridge.allowed and the reference's PlayMay answer. No conditions beyond those that each theorem bears.
-/
import Derived.Test.YtiihnlpoagnkhaaDoorWin
import Derived.Test.YtiihnlpoagnkhaaDoorShelf
namespace Go.Proofs.YtiihnlpoagnkhaaDoor
open Go.RowKit Go.Shelf

def encN (x : Nat) : Value := .int .i64 (x : Int)
/-- A card of another suit than the one that was led. -/
def offP (led x : Nat) : Bool := decide (x % 4 ≠ led % 4)

set_option maxHeartbeats 400000 in
theorem off_call (B led x : Nat) (W : World) (hc : W.cell? ⟨B, 0, none⟩ = some (.int .i64 (led : Nat))) :
    Calls Tryd.prog 37 #[encN x, .pointer (some ⟨B, 0, none⟩)] W fun e w' => e = .returned (.bool (offP led x)) ∧ w' = W := by
  unfold encN offP
  have tx := tm4 x
  have ty := tm4 led
  by_cases h : x % 4 = led % 4
  · have HD : Hid (decide (x % 4 ≠ led % 4) = false) := hide (by simp [h])
    rw [← h] at ty
    obtain ⟨m, hm⟩ : ∃ m, x % 4 = m := ⟨_, rfl⟩
    rw [hm] at tx ty
    have e1 : (x : Int) % 4 = (m : Int) := by omega
    have e2 : (led : Int) % 4 = (m : Int) := by omega
    have b : ((m : Int) != (m : Int)) = false := by simp
    clear h hm
    go_enter Tryd.func37, Tryd.ntmps37
    go_wp2
    go_ret
    exact ⟨ret_b (by rw [HD.out]), rfl⟩
  · have HD : Hid (decide (x % 4 ≠ led % 4) = true) := hide (by simp [h])
    obtain ⟨m, hm⟩ : ∃ m, x % 4 = m := ⟨_, rfl⟩
    obtain ⟨k, hk⟩ : ∃ k, led % 4 = k := ⟨_, rfl⟩
    rw [hm, hk] at h
    rw [hm] at tx
    rw [hk] at ty
    have e1 : (x : Int) % 4 = (m : Int) := by omega
    have e2 : (led : Int) % 4 = (k : Int) := by omega
    have b : ((m : Int) != (k : Int)) = true := by simp; omega
    clear h hm hk
    go_enter Tryd.func37, Tryd.ntmps37
    go_wp2
    go_ret
    exact ⟨ret_b (by rw [HD.out]), rfl⟩

theorem off_gives (B led x : Nat) (W : World) (hc : W.cell? ⟨B, 0, none⟩ = some (.int .i64 (led : Nat))) : FnGives Tryd.prog 37 #[.pointer (some ⟨B, 0, none⟩)] #[encN x] (.bool (offP led x)) W := by
  show Calls Tryd.prog 37 #[encN x, .pointer (some ⟨B, 0, none⟩)] W _
  exact (off_call B led x W hc).mono fun _ _ ⟨he, hw⟩ => ⟨he, 0, hw⟩

/-- The cards of a hand that may be put down. -/
def followL (L : List Nat) (led : Nat) : List Nat := L.filter (fun x => !offP led x)

theorem mem_follow (L : List Nat) (led x : Nat) : x ∈ followL L led ↔ x ∈ L ∧ x % 4 = led % 4 := by
  simp [followL, offP]

open Go.Sort in
theorem delete_any (g cap : Nat) (L : List Nat) (B led : Nat) (w : World) (hcells : ∀ j, j < L.length → w.cell? ⟨g, j, none⟩ = some (encN (L.getD j 0)) ∧ w.frozen? ⟨g, j, none⟩ = false) (hB : B < w.heap.size) (hne : B ≠ g)
    (hc : w.cell? ⟨B, 0, none⟩ = some (.int .i64 (led : Nat))) (hl : L.length ≤ 9223372036854775807) (hcap : L.length ≤ cap) (base : Nat) (hbase : base ≤ g) :
    Calls Tryd.prog 38 #[.slice (some ⟨g, 0, none⟩) L.length cap, .func (.func 37) #[] #[.pointer (some ⟨B, 0, none⟩)]] w fun e w' => e = .returned (.slice (some ⟨g, 0, none⟩) (followL L led).length cap) ∧
      (∀ j, j < (followL L led).length → w'.cell? ⟨g, j, none⟩ = some (.int .i64 ((followL L led).getD j 0 : Nat))) ∧ Below base w w' := by
  have hH : Holds encN w g 0 L.toArray := by
    intro j hj
    have hj' : j < L.length := by simpa using hj
    rw [Nat.zero_add]
    refine ⟨?_, (hcells j hj').2⟩
    rw [(hcells j hj').1]
    simp [List.getD, hj']
  have hp : PredAt Tryd.prog 37 #[.pointer (some ⟨B, 0, none⟩)] encN (offP led) w := fun W x hb => off_gives B led x W ((hb.cell (p := ⟨B, 0, none⟩) hB).trans hc)
  have hpo : PredOver Tryd.prog 37 #[.pointer (some ⟨B, 0, none⟩)] encN (offP led) g 0 L.toArray.size w := fun n os dk x _ => off_gives B led x _ (by
    unfold sortWorld
    rw [cell?_grow _ _ _ (by show B < (putRow _ _ _ _ _).heap.size; rw [size_putRow]; exact hB), cell?_putRow_other _ _ g 0 _ _ (Or.inl hne)]
    exact hc)
  have h := Tryd.slices_DeleteFunc encN (fun _ => rfl) (offP led) 37 #[.pointer (some ⟨B, 0, none⟩)] (enters_of Tryd.func37 (by kernel_rfl) rfl) 0 Tryd.zeroValue3 g 0 cap L.toArray w hp hpo hH (by simpa using hl) (by simpa using hcap)
  simp only [List.size_toArray] at h
  refine h.mono ?_
  rintro e w' ⟨rfl, q, rfl⟩
  have hfl : (followL L led).length ≤ L.length := List.length_filter_le _ _
  refine ⟨rfl, fun j hj => ?_, ?_⟩
  · have := cell?_putRow encN (Sort.ahead w q) g 0 L.toArray ((L.filter fun x => !offP led x) ++ List.replicate (L.length - (L.filter fun x => !offP led x).length) 0).toArray (holds_ahead _ _ _ _ _ _ hH) (by simp; exact Nat.add_sub_cancel' hfl) j (by simp; have : (List.filter (fun x => !offP led x) L).length = (followL L led).length := rfl; omega)
    rw [Nat.zero_add] at this
    rw [this]
    have hj2 : j < (List.filter (fun x => !offP led x) L).length := hj
    simp [encN, followL, List.getD, List.getElem?_append_left hj2, hj2]
  · refine ⟨rfl, rfl, rfl, by simp, fun k hk => ?_⟩
    have hne' : ¬ g = k := by omega
    simp [putRow, mapBlock, Sort.ahead, Array.getElem?_modify, hne']

/-- What may be put down of a hand. -/
def allowL (L : List Nat) (led : Int) : List Nat := if led = -1 then L else if followL L led.toNat = [] then L else followL L led.toNat

set_option maxRecDepth 100000 in
set_option maxHeartbeats 2000000 in
theorem allowed_any (a : Option Addr) (n c : Nat) (L : List Nat) (led : Int) (hl1 : -1 ≤ led) (h0 : 0 < n) (hr : n * 8 ≤ 140737488351232) (w : World) (h : Rd w a n c (toI L)) :
    Calls Tryd.prog 32 #[.slice a n c, .int .i64 led] w fun e w' => ∃ a' c', e = .returned (.slice a' (allowL L led).length c') ∧ Rd w' a' (allowL L led).length c' (toI (allowL L led)) ∧ Below w.heap.size w w' ∧ (a' = a ∨ ∃ g, a' = some ⟨g, 0, none⟩ ∧ w.heap.size ≤ g) := by
  have hLl : L.length = n := by have := h.len; rwa [toI_length] at this
  have hcm := h.max
  have hcn := h.cap
  have HB0 : Hid (Below w.heap.size w (w.alloc (.cells #[.int .i64 led] 3))) := hide ((Below.refl _ _).alloc (Nat.le_refl _) _)
  by_cases hm1 : led = -1
  · subst hm1
    have HA : Hid (allowL L (-1) = L) := hide (by simp [allowL])
    have HH := hide (h.mono HB0.out)
    have HL := hide hLl
    clear h hLl
    go_enter Tryd.func32, Tryd.ntmps32
    go_wp2
    go_ret
    refine ⟨a, c, ?_, ?_, HB0.out, Or.inl rfl⟩
    · rw [HA.out, HL.out]; rfl
    · rw [HA.out, HL.out]; exact HH.out
  · obtain ⟨ld, rfl⟩ : ∃ ld : Nat, led = ld := ⟨led.toNat, by omega⟩
    have bm : ((ld : Int) == -1) = false := by simp
    have HA : Hid (allowL L (ld : Int) = if followL L ld = [] then L else followL L ld) := hide (by simp [allowL, hm1])
    have HH := hide h
    have HL := hide hLl
    obtain ⟨b, off, rfl, hc⟩ := h.cells h0
    have CL := hide (fun W (hW : Rd W (some ⟨b, off, none⟩) n c (toI L)) => Tryd.slices_Clone_int b off n c (toI L) W (by rw [hW.len]; exact Nat.le_refl _) (by omega) (fun j hj => by
      obtain ⟨b', off', he, hc'⟩ := hW.cells h0
      simp only [Option.some.injEq, Addr.mk.injEq] at he
      obtain ⟨rfl, rfl, _⟩ := he
      exact hc' j (by rw [← hW.len]; exact hj)))
    clear hc hLl h hm1
    go_enter Tryd.func32, Tryd.ntmps32
    go_wp2_with fail
    refine (CL.out _ (HH.out.mono HB0.out)).mono ?_
    rintro e w1 ⟨v1, rfl, hown, hnn, hB1⟩
    have hl : (toI L).take n = toI L := List.take_of_length_le (by rw [toI_length, HL.out]; exact Nat.le_refl _)
    rw [hl] at hown
    rcases hown.2 with ⟨hv, h00⟩ | ⟨g, cap, cur, hv, hb, hg, hnc, hcm1, hcs, ht⟩
    · omega
    subst hv
    have hs0 : w.heap.size < w1.heap.size := by have := hB1.size; rw [World.size_alloc] at this; omega
    have hgb : w.heap.size < g := by rw [World.size_alloc] at hb; omega
    have hcl : ∀ j, j < L.length → w1.cell? ⟨g, j, none⟩ = some (encN (L.getD j 0)) ∧ w1.frozen? ⟨g, j, none⟩ = false := by
      intro j hj
      refine ⟨?_, by simp [World.frozen?, hg]⟩
      rw [hown.cellAt j (by rw [← HL.out]; omega)]
      simp [encN, toI, List.getD, hj]
    have hld : w1.cell? ⟨w.heap.size, 0, none⟩ = some (.int .i64 (ld : Nat)) := by rw [hB1.cell (by simp [World.size_alloc])]; go_simp
    have DE := hide (delete_any g cap L w.heap.size ld w1 hcl hs0 (by omega) hld (by have := HL.out; omega) (by rw [HL.out]; exact hnc) w.heap.size (by omega))
    rw [HL.out] at DE
    have HB2 := hide (HB0.out.trans (hB1.mono HB0.out.size))
    clear hB1 hown hnn hcl hg hcs ht hl hld
    go_wp2_with fail
    refine DE.out.mono ?_
    rintro e w2 ⟨rfl, hcell, hB3⟩
    have HB3 := hide (HB2.out.trans (hB3.mono (Nat.le_refl _)))
    have HC := hide hcell
    clear hB3 hcell
    by_cases hem : followL L ld = []
    · rw [if_pos hem] at HA
      have hlen0 : (followL L ld).length = 0 := by rw [hem]; rfl
      rw [hlen0]
      have HH2 := hide (HH.out.mono HB3.out)
      clear hlen0 HC
      go_wp2
      go_ret
      refine ⟨some ⟨b, off, none⟩, c, ?_, ?_, HB3.out, Or.inl rfl⟩
      · rw [HA.out, HL.out]; rfl
      · rw [HA.out, HL.out]; exact HH2.out
    · rw [if_neg hem] at HA
      have hlen1 : (followL L ld).length ≠ 0 := fun e => hem (List.eq_nil_of_length_eq_zero e)
      have hfl : (followL L ld).length ≤ n := by rw [← HL.out]; exact List.length_filter_le _ _
      have HR : Hid (Rd w2 (some ⟨g, 0, none⟩) (followL L ld).length cap (toI (followL L ld))) := hide ⟨toI_length _, by omega, hcm1, (fun h => by simp at h), fun _ => ⟨g, 0, rfl, fun i hi => by rw [Nat.zero_add, HC.out i hi, toI_getD]⟩⟩
      obtain ⟨m, hm⟩ : ∃ m, (followL L ld).length = m := ⟨_, rfl⟩
      have HM := hide hm
      rw [hm] at hlen1 HR ⊢
      have bm0 : ((m : Int) == 0) = false := by simp; omega
      clear hm hem HC
      go_wp2
      go_ret
      refine ⟨some ⟨g, 0, none⟩, cap, ?_, ?_, HB3.out, Or.inr ⟨g, rfl, by omega⟩⟩
      · rw [HA.out, HM.out]; rfl
      · rw [HA.out, HM.out]; exact HR.out

/-- Has the hand a card of that suit? -/
def hasB (L : List Nat) (led : Nat) : Bool := L.any (fun x => x % 4 == led % 4)

theorem hasB_iff (L : List Nat) (led : Nat) : hasB L led = true ↔ ∃ x ∈ L, x % 4 = led % 4 := by
  simp [hasB]

theorem hasB_take (L : List Nat) (led k : Nat) (hk : k < L.length) : hasB (L.take (k + 1)) led = (hasB (L.take k) led || (L.getD k 0 % 4 == led % 4)) := by
  rw [List.take_succ_eq_append_getElem hk]
  simp only [hasB, List.any_append, List.any_cons, List.any_nil, Bool.or_false, List.getD, List.getElem?_eq_getElem hk, Option.getD_some]

set_option maxHeartbeats 2000000 in
theorem PlayMay_any (a : Option Addr) (n c : Nat) (L : List Nat) (led : Int) (card : Nat) (w : World) (h : Rd w a n c (toI L)) :
    Calls Tryd.prog 20 #[.slice a n c, .int .i64 led, .int .i64 card] w fun e w' => e = .returned (.bool (decide (led < 0) || (!hasB L led.toNat || decide (card % 4 = led.toNat % 4)))) ∧ w' = w := by
  have hLl : L.length = n := by have := h.len; rwa [toI_length] at this
  have hcm := h.max
  have hcn := h.cap
  unfold maxLen at hcm
  generalize hB : (decide (led < 0) || (!hasB L led.toNat || decide (card % 4 = led.toNat % 4))) = B
  by_cases h0 : led < 0
  · obtain rfl : B = true := by rw [← hB]; simp [h0]
    clear hB
    go_enter Tryd.func20, Tryd.ntmps20
    go_wp2
    go_ret
    exact ⟨rfl, rfl⟩
  · obtain ⟨ld, rfl⟩ : ∃ ld : Nat, led = ld := ⟨led.toNat, by omega⟩
    rw [decide_eq_false h0, Bool.false_or, show ((ld : Int)).toNat = ld by omega] at hB
    have HH := hide h
    have HL := hide hLl
    have HBB := hide hB
    have tl := tm4 ld
    have tc := tm4 card
    obtain ⟨y, hy⟩ : ∃ y, ld % 4 = y := ⟨_, rfl⟩
    obtain ⟨z, hz⟩ : ∃ z, card % 4 = z := ⟨_, rfl⟩
    have ey : (ld : Int) % 4 = (y : Int) := by omega
    have ez : (card : Int) % 4 = (z : Int) := by omega
    rw [hy] at tl
    rw [hz] at tc
    have HY := hide hy
    have HZ := hide hz
    clear h hLl hB hy hz
    go_enter Tryd.func20, Tryd.ntmps20
    go_wp2
    go_loop [7, 8] (fun x i => ∃ k : Nat, k ≤ n ∧ i = .int .i64 k ∧ x = .bool (hasB (L.take k) ld)) (fun _ i => n - (intOf i).toNat)
    case atStart => exact ⟨0, by omega, rfl, rfl⟩
    case round =>
      obtain ⟨k, hk, rfl, rfl⟩ := hrel
      by_cases hlt : k < n
      · have hlt' : (k : Int) < (n : Int) := by omega
        obtain ⟨b, off, ha, hc⟩ := HH.out.cells (by omega)
        subst ha
        have r1 := hc k hlt
        rw [toI_getD] at r1
        have HS := hide (hasB_take L ld k (by rw [HL.out]; exact hlt))
        clear hc
        obtain ⟨x, hx⟩ : ∃ x, L.getD k 0 = x := ⟨_, rfl⟩
        rw [hx] at r1 HS
        rw [HY.out] at HS
        have tx := tm4 x
        obtain ⟨v, hv⟩ : ∃ v, x % 4 = v := ⟨_, rfl⟩
        have ev : (x : Int) % 4 = (v : Int) := by omega
        rw [hv] at tx HS
        clear hv hx
        cases hp : hasB (L.take k) ld with
        | true =>
          rw [hp] at HS
          go_wp2
          go_round
          case rel => exact ⟨k + 1, by omega, by go_num, by rw [HS.out]; rfl⟩
          case measure => simp [intOf]; omega
        | false =>
          rw [hp] at HS
          by_cases hvy : v = y
          · subst hvy
            go_wp2
            go_round
            case rel => exact ⟨k + 1, by omega, by go_num, by rw [HS.out]; simp⟩
            case measure => simp [intOf]; omega
          · have bv : ((v : Int) == (y : Int)) = false := by simp; omega
            go_wp2
            go_round
            case rel => exact ⟨k + 1, by omega, by go_num, by rw [HS.out]; simp [hvy]⟩
            case measure => simp [intOf]; omega
      · obtain rfl : k = n := by omega
        have hlt' : ¬ (k : Int) < (k : Int) := by omega
        have hta : L.take k = L := List.take_of_length_le (by rw [HL.out]; exact Nat.le_refl _)
        rw [hta]
        have hBB := HBB.out
        rw [HY.out, HZ.out] at hBB
        have HB2 := hide hBB
        clear hBB hta
        cases hp : hasB L ld with
        | true =>
          rw [hp] at HB2
          by_cases hzy : z = y
          · subst hzy
            have HF : Hid (B = true) := hide (by rw [← HB2.out]; simp)
            go_wp2
            go_ret
            exact ⟨by rw [HF.out]; rfl, rfl⟩
          · have bz : ((z : Int) == (y : Int)) = false := by simp; omega
            have HF : Hid (B = false) := hide (by rw [← HB2.out]; simp [hzy])
            go_wp2
            go_ret
            exact ⟨by rw [HF.out]; rfl, rfl⟩
        | false =>
          rw [hp] at HB2
          have HF : Hid (B = true) := hide (by rw [← HB2.out]; simp)
          go_wp2
          go_ret
          exact ⟨by rw [HF.out]; rfl, rfl⟩

end Go.Proofs.YtiihnlpoagnkhaaDoor
