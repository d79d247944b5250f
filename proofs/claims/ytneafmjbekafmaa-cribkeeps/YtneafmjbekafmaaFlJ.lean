/-
  What crib.flush and crib.rightJack answer. No conditions beyond those that each theorem bears.
-/
import Derived.Test.YtneafmjbekafmaaCardP
import Derived.Test.YtneafmjbekafmaaFif
import Derived.Test.YtneafmjbekafmaaShelf
namespace Go.Proofs.Ytneafmjbekafmaa
open Go.RowKit Go.Shelf

/-- A card as a value. -/
def encC (x : Nat) : Value := .int .i64 ((x % 52 : Nat) : Int)

def otherP (s x : Nat) : Bool := decide (¬ x % 52 % 4 = s % 4)
def jackP (s x : Nat) : Bool := decide (rkC (x % 52) = 10 ∧ x % 52 % 4 = s % 4)

set_option maxHeartbeats 400000 in
theorem other_call (B b off c s x : Nat) (W : World) (hs : s < 52) (hB : W.cell? ⟨B, 0, none⟩ = some (.slice (some ⟨b, off, none⟩) 4 c)) (h0 : W.cell? ⟨b, off, none⟩ = some (.int .i64 s)) :
    Calls Try.prog 53 #[encC x, .pointer (some ⟨B, 0, none⟩)] W fun e w' => e = .returned (.bool (otherP s x)) ∧ w' = W := by
  unfold encC otherP
  have hx : x % 52 < 52 := Nat.mod_lt _ (by omega)
  generalize x % 52 = y at *
  by_cases h : y % 4 = s % 4
  · have h' : (y : Int) % 4 = (s : Int) % 4 := by omega
    have HD : Hid (decide (¬ y % 4 = s % 4) = false) := by show _ = _; simp [h]
    clear h
    go_enter Try.func53, Try.ntmps53
    go_wp2
    go_ret
    exact ⟨ret_bool (by rw [HD.out]), rfl⟩
  · have h' : ((y : Int) % 4 != (s : Int) % 4) = true := by simp; omega
    have HD : Hid (decide (¬ y % 4 = s % 4) = true) := by show _ = _; simp [h]
    clear h
    go_enter Try.func53, Try.ntmps53
    go_wp2
    go_ret
    exact ⟨ret_bool (by rw [HD.out]), rfl⟩

set_option maxHeartbeats 400000 in
theorem jack_call (B s x : Nat) (W : World) (hs : s < 52) (hB : W.cell? ⟨B, 0, none⟩ = some (.int .i64 s)) :
    Calls Try.prog 55 #[encC x, .pointer (some ⟨B, 0, none⟩)] W fun e w' => e = .returned (.bool (jackP s x)) ∧ w' = W := by
  unfold encC jackP
  have hx : x % 52 < 52 := Nat.mod_lt _ (by omega)
  generalize x % 52 = y at *
  have RK := hide (rankOf_any y hx)
  obtain ⟨r, hr⟩ : ∃ r, rkC y = r := ⟨_, rfl⟩
  rw [hr] at RK ⊢
  clear hr
  by_cases hj : r = 10
  · subst hj
    by_cases h : y % 4 = s % 4
    · have h' : (y : Int) % 4 = (s : Int) % 4 := by omega
      have HD : Hid (decide (10 = 10 ∧ y % 4 = s % 4) = true) := by show _ = _; simp [h]
      clear h
      go_enter Try.func55, Try.ntmps55
      go_wp2_with fail
      refine (RK.out _).mono ?_
      rintro e w1 ⟨rfl, hw⟩
      subst w1
      go_wp2
      go_ret
      exact ⟨ret_bool (by rw [HD.out]), rfl⟩
    · have h' : ((y : Int) % 4 == (s : Int) % 4) = false := by simp; omega
      have HD : Hid (decide (10 = 10 ∧ y % 4 = s % 4) = false) := by show _ = _; simp [h]
      clear h
      go_enter Try.func55, Try.ntmps55
      go_wp2_with fail
      refine (RK.out _).mono ?_
      rintro e w1 ⟨rfl, hw⟩
      subst w1
      go_wp2
      go_ret
      exact ⟨ret_bool (by rw [HD.out]), rfl⟩
  · have hj' : ((r : Int) == 10) = false := by simp; omega
    have HD : Hid (decide (r = 10 ∧ y % 4 = s % 4) = false) := by show _ = _; simp [hj]
    clear hj
    go_enter Try.func55, Try.ntmps55
    go_wp2_with fail
    refine (RK.out _).mono ?_
    rintro e w1 ⟨rfl, hw⟩
    subst w1
    go_wp2
    go_ret
    exact ⟨ret_bool (by rw [HD.out]), rfl⟩

theorem hand_any4 (a : Option Addr) (c : Nat) (L : List Nat) (h4 : L.length = 4) (hlt : ∀ x ∈ L, x < 52) (w : World) (h : Rd w a 4 c (toI L)) :
    ∃ b off, a = some ⟨b, off, none⟩ ∧ ∀ j, j < L.length → w.cell? ⟨b, off + j, none⟩ = some (encC L[j]!) := by
  obtain ⟨b, off, rfl, hc⟩ := h.cells (by omega)
  refine ⟨b, off, rfl, fun j hj => ?_⟩
  have h1 := hc j (by omega)
  rw [toI_getD] at h1
  have hm := hlt _ (mem_getD L j hj)
  have e : L[j]! = L.getD j 0 := by simp [List.getD, hj]
  rw [h1, encC, e, Nat.mod_eq_of_lt hm]

def flN (L : List Nat) (start : Nat) (crib : Bool) : Nat :=
  if L.any (otherP (L.getD 0 0)) then 0 else if otherP (L.getD 0 0) start then (if crib then 0 else 4) else 5

set_option maxHeartbeats 1000000 in
theorem flush_any (a : Option Addr) (c : Nat) (L : List Nat) (h4 : L.length = 4) (hlt : ∀ x ∈ L, x < 52) (s : Nat) (hs : s < 52) (crib : Bool) (w : World) (h : Rd w a 4 c (toI L)) :
    Calls Try.prog 46 #[.slice a 4 c, .int .i64 s, .bool crib] w fun e w' => e = .returned (.int .i64 (flN L s crib)) ∧ Below w.heap.size w w' := by
  have hmx := h.max
  have hcp := h.cap
  unfold maxLen at hmx
  obtain ⟨b, off, rfl, hc⟩ := hand_any4 a c L h4 hlt w h
  have hx0 := hlt _ (mem_getD L 0 (by omega))
  have c0 : w.cell? ⟨b, off, none⟩ = some (.int .i64 (L.getD 0 0 : Nat)) := by
    have := hc 0 (by omega)
    have e : L[0]! = L.getD 0 0 := by simp [List.getD, show 0 < L.length by omega]
    rw [Nat.add_zero, encC, e, Nat.mod_eq_of_lt hx0] at this
    exact this
  obtain ⟨w1, hw1⟩ : ∃ w1, w.alloc (Obj.cells #[.slice (some ⟨b, off, none⟩) 4 c] 22) = w1 := ⟨_, rfl⟩
  have n1 : w1.cell? ⟨w.heap.size, 0, none⟩ = some (.slice (some ⟨b, off, none⟩) 4 c) := by rw [← hw1]; exact new_cell _ _ _
  have o1 : ∀ p v, w.cell? p = some v → w1.cell? p = some v := by intro p v hv; rw [← hw1]; exact old_cell _ hv
  have B1 : Below w.heap.size w w1 := by rw [← hw1]; exact (Below.refl _ w).alloc (Nat.le_refl _) _
  have OC := hide (fun x W (hb : Below w1.heap.size w1 W) => other_call w.heap.size b off c (L.getD 0 0) x W hx0 ((hb.cell (p := ⟨w.heap.size, 0, none⟩) (World.block_lt_of_cell? _ _ n1)).trans n1) ((hb.cell (p := ⟨b, off, none⟩) (World.block_lt_of_cell? _ _ (o1 _ _ c0))).trans (o1 _ _ c0)))
  have CF := hide (Try.slices_ContainsFunc encC (otherP (L.getD 0 0)) 53 #[.pointer (some ⟨w.heap.size, 0, none⟩)] (enters_of Try.func53 (by kernel_rfl) rfl) b off 4 c L w1 (fun W x hb => (OC.out x W hb).mono fun e w' ⟨he, hw⟩ => ⟨he, 0, hw⟩) (by omega) (by omega) (fun j hj => o1 _ _ (hc j hj)))
  rw [List.take_of_length_le (by omega)] at CF
  have HB1 := hide B1
  have OS := hide (fun W (hb : Below w1.heap.size w1 W) => (OC.out s W hb))
  have es : encC s = .int .i64 s := by rw [encC, Nat.mod_eq_of_lt hs]
  have HF : Hid (flN L s crib = if L.any (otherP (L.getD 0 0)) then 0 else if otherP (L.getD 0 0) s then (if crib then 0 else 4) else 5) := rfl
  rw [es] at OS
  clear hc c0 o1 OC h B1 es hx0
  generalize L.any (otherP (L.getD 0 0)) = A at *
  generalize otherP (L.getD 0 0) s = D at *
  cases A with
  | true =>
    go_enter Try.func46, Try.ntmps46
    go_wp2_with fail
    refine CF.out.mono ?_
    rintro e w2 ⟨rfl, q, hw2⟩
    subst hw2
    go_wp2
    go_ret
    exact ⟨ret_intN (by rw [HF.out]; rfl), HB1.out.trans (drewN_below _ _ _)⟩
  | false =>
    cases D with
    | false =>
      go_enter Try.func46, Try.ntmps46
      go_wp2_with fail
      refine CF.out.mono ?_
      rintro e w2 ⟨rfl, q, hw2⟩
      subst hw2
      go_wp2_with fail
      refine (OS.out _ (drewN_below _ _ _)).mono ?_
      rintro e w2 ⟨rfl, hw2⟩
      subst w2
      go_wp2
      go_ret
      exact ⟨ret_intN (by rw [HF.out]; rfl), HB1.out.trans (drewN_below _ _ _)⟩
    | true =>
      cases crib with
      | false =>
        go_enter Try.func46, Try.ntmps46
        go_wp2_with fail
        refine CF.out.mono ?_
        rintro e w2 ⟨rfl, q, hw2⟩
        subst hw2
        go_wp2_with fail
        refine (OS.out _ (drewN_below _ _ _)).mono ?_
        rintro e w2 ⟨rfl, hw2⟩
        subst w2
        go_wp2
        go_ret
        exact ⟨ret_intN (by rw [HF.out]; rfl), HB1.out.trans (drewN_below _ _ _)⟩
      | true =>
        go_enter Try.func46, Try.ntmps46
        go_wp2_with fail
        refine CF.out.mono ?_
        rintro e w2 ⟨rfl, q, hw2⟩
        subst hw2
        go_wp2_with fail
        refine (OS.out _ (drewN_below _ _ _)).mono ?_
        rintro e w2 ⟨rfl, hw2⟩
        subst w2
        go_wp2
        go_ret
        exact ⟨ret_intN (by rw [HF.out]; rfl), HB1.out.trans (drewN_below _ _ _)⟩

def jkN (L : List Nat) (start : Nat) : Nat := if L.any (jackP start) then 1 else 0

set_option maxHeartbeats 1000000 in
theorem jack_any (a : Option Addr) (c : Nat) (L : List Nat) (h4 : L.length = 4) (hlt : ∀ x ∈ L, x < 52) (s : Nat) (hs : s < 52) (w : World) (h : Rd w a 4 c (toI L)) :
    Calls Try.prog 47 #[.slice a 4 c, .int .i64 s] w fun e w' => e = .returned (.int .i64 (jkN L s)) ∧ Below w.heap.size w w' := by
  have hmx := h.max
  have hcp := h.cap
  unfold maxLen at hmx
  obtain ⟨b, off, rfl, hc⟩ := hand_any4 a c L h4 hlt w h
  obtain ⟨w1, hw1⟩ : ∃ w1, w.alloc (Obj.cells #[.int .i64 s] 3) = w1 := ⟨_, rfl⟩
  have n1 : w1.cell? ⟨w.heap.size, 0, none⟩ = some (.int .i64 s) := by rw [← hw1]; exact new_cell _ _ _
  have o1 : ∀ p v, w.cell? p = some v → w1.cell? p = some v := by intro p v hv; rw [← hw1]; exact old_cell _ hv
  have B1 : Below w.heap.size w w1 := by rw [← hw1]; exact (Below.refl _ w).alloc (Nat.le_refl _) _
  have CF := hide (Try.slices_ContainsFunc encC (jackP s) 55 #[.pointer (some ⟨w.heap.size, 0, none⟩)] (enters_of Try.func55 (by kernel_rfl) rfl) b off 4 c L w1 (fun W x hb => (jack_call w.heap.size s x W hs ((hb.cell (p := ⟨w.heap.size, 0, none⟩) (World.block_lt_of_cell? _ _ n1)).trans n1)).mono fun e w' ⟨he, hw⟩ => ⟨he, 0, hw⟩) (by omega) (by omega) (fun j hj => o1 _ _ (hc j hj)))
  rw [List.take_of_length_le (by omega)] at CF
  have HB1 := hide B1
  have HF : Hid (jkN L s = if L.any (jackP s) then 1 else 0) := rfl
  clear hc o1 h B1 n1
  generalize L.any (jackP s) = A at *
  cases A with
  | true =>
    go_enter Try.func47, Try.ntmps47
    go_wp2_with fail
    refine CF.out.mono ?_
    rintro e w2 ⟨rfl, q, hw2⟩
    subst hw2
    go_wp2
    go_ret
    exact ⟨ret_intN (by rw [HF.out]; rfl), HB1.out.trans (drewN_below _ _ _)⟩
  | false =>
    go_enter Try.func47, Try.ntmps47
    go_wp2_with fail
    refine CF.out.mono ?_
    rintro e w2 ⟨rfl, q, hw2⟩
    subst hw2
    go_wp2
    go_ret
    exact ⟨ret_intN (by rw [HF.out]; rfl), HB1.out.trans (drewN_below _ _ _)⟩

end Go.Proofs.Ytneafmjbekafmaa
