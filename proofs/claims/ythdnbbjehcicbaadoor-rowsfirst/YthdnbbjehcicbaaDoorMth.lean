/-
  Rows of k on a board, as numbers: what the program counts from each place, and what the document marks from each beginning, is the same. No conditions beyond those that each theorem bears.
-/
import Derived.Test.YthdnbbjehcicbaaDoorBase
namespace Go.Proofs.YthdnbbjehcicbaaDoor

/-- Is it on the board? -/
def onB (W H : Nat) (x y : Int) : Bool := decide (0 ≤ x) && decide (x < (W : Int)) && decide (0 ≤ y) && decide (y < (H : Int))

theorem onB_iff {W H : Nat} {x y : Int} : onB W H x y = true ↔ 0 ≤ x ∧ x < W ∧ 0 ≤ y ∧ y < H := by
  simp only [onB, Bool.and_eq_true, decide_eq_true_eq, and_assoc]

/-- The sign at a place; beyond the border: -1. -/
def cl (W H : Nat) (zs : List Int) (x y : Int) : Int := if onB W H x y = true then zs.getD (y * W + x).toNat 0 else -1

/-- A step that leaves every board some time. -/
def Dir (dx dy : Int) : Prop := (dx = 1 ∨ dx = -1 ∨ dx = 0) ∧ (dy = 1 ∨ dy = -1 ∨ dy = 0) ∧ (dx ≠ 0 ∨ dy ≠ 0)

theorem Dir.neg {dx dy : Int} (h : Dir dx dy) : Dir (-dx) (-dy) := by
  obtain ⟨h1, h2, h3⟩ := h
  refine ⟨?_, ?_, ?_⟩
  · rcases h1 with rfl | rfl | rfl <;> simp
  · rcases h2 with rfl | rfl | rfl <;> simp
  · omega

/-- How many steps there may be before the border. -/
def meas (W H : Nat) (dx dy x y : Int) : Nat := if dx = 1 then ((W : Int) - x).toNat else if dx = -1 then (x + 1).toNat else if dy = 1 then ((H : Int) - y).toNat else (y + 1).toNat

def lineF (W H : Nat) (dx dy : Int) : Nat → Int → Int → List Nat
  | 0, _, _ => []
  | f + 1, x, y => if onB W H x y = true then (y * W + x).toNat :: lineF W H dx dy f (x + dx) (y + dy) else []

/-- The places from one on, step by step to the border. -/
def line (W H : Nat) (dx dy x y : Int) : List Nat := lineF W H dx dy (meas W H dx dy x y) x y

theorem meas_step {W H : Nat} {dx dy x y : Int} (hd : Dir dx dy) (h : onB W H x y = true) : meas W H dx dy x y = meas W H dx dy (x + dx) (y + dy) + 1 := by
  rw [onB_iff] at h
  obtain ⟨h1, h2, h3⟩ := hd
  unfold meas
  rcases h1 with rfl | rfl | rfl
  · simp; omega
  · simp; omega
  · rcases h2 with rfl | rfl | rfl
    · simp; omega
    · simp; omega
    · simp at h3

theorem line_on {W H : Nat} {dx dy x y : Int} (hd : Dir dx dy) (h : onB W H x y = true) : line W H dx dy x y = (y * W + x).toNat :: line W H dx dy (x + dx) (y + dy) := by
  unfold line
  rw [meas_step hd h, lineF, if_pos h]

theorem line_off {W H : Nat} {dx dy x y : Int} (h : onB W H x y = false) : line W H dx dy x y = [] := by
  unfold line
  cases meas W H dx dy x y with
  | zero => rfl
  | succ f => rw [lineF, if_neg (by rw [h]; simp)]

theorem lineF_len {W H : Nat} {dx dy : Int} : ∀ (f : Nat) (x y : Int), (lineF W H dx dy f x y).length ≤ f
  | 0, _, _ => Nat.le_refl _
  | f + 1, x, y => by
    rw [lineF]
    split
    · have := lineF_len (W := W) (H := H) (dx := dx) (dy := dy) f (x + dx) (y + dy); simp; omega
    · simp

theorem line_len {W H : Nat} {dx dy x y : Int} (hd : Dir dx dy) (hx : -1 ≤ x ∧ x ≤ W) (hy : -1 ≤ y ∧ y ≤ H) (hW : W ≤ 10) (hH : H ≤ 10) : (line W H dx dy x y).length ≤ 11 := by
  refine Nat.le_trans (lineF_len _ _ _) ?_
  unfold meas
  obtain ⟨h1, h2, h3⟩ := hd
  split
  · omega
  · split
    · omega
    · split <;> omega

theorem line_lt {W H : Nat} {dx dy : Int} : ∀ (f : Nat) (x y : Int) (q : Nat), q ∈ lineF W H dx dy f x y → q < W * H
  | 0, _, _, _, h => by cases h
  | f + 1, x, y, q, h => by
    rw [lineF] at h
    split at h
    · rename_i hb
      rcases List.mem_cons.1 h with e | e
      · rw [onB_iff] at hb
        obtain ⟨a, rfl⟩ := Int.eq_ofNat_of_zero_le hb.1
        obtain ⟨b, rfl⟩ := Int.eq_ofNat_of_zero_le hb.2.2.1
        have h1 : a < W := by omega
        have h2 : b + 1 ≤ H := by omega
        have h3 : (b + 1) * W ≤ H * W := Nat.mul_le_mul_right W h2
        have h4 : ((b : Int) * W + a).toNat = b * W + a := by
          rw [← Int.natCast_mul, ← Int.natCast_add, Int.toNat_natCast]
        rw [e, h4]
        rw [Nat.add_mul, Nat.one_mul] at h3
        rw [Nat.mul_comm W H]
        omega
      · exact line_lt f _ _ q e
    · cases h

/-- Alike from one place on. -/
theorem run_spec {W H : Nat} {zs : List Int} {dx dy v : Int} (hd : Dir dx dy) (hv : 0 ≤ v) : ∀ (t : Nat) (x y : Int), t ≤ ((line W H dx dy x y).takeWhile fun o => zs.getD o 0 == v).length ↔ ∀ j : Nat, j < t → cl W H zs (x + j * dx) (y + j * dy) = v := by
  intro t
  induction t with
  | zero => intro x y; exact ⟨fun _ j hj => absurd hj (by omega), fun _ => Nat.zero_le _⟩
  | succ t ih =>
    intro x y
    have split0 : (∀ j : Nat, j < t + 1 → cl W H zs (x + j * dx) (y + j * dy) = v) ↔ (cl W H zs x y = v ∧ ∀ j : Nat, j < t → cl W H zs (x + dx + j * dx) (y + dy + j * dy) = v) := by
      constructor
      · intro h
        refine ⟨by have := h 0 (by omega); simpa using this, fun j hj => ?_⟩
        have := h (j + 1) (by omega)
        rw [Int.natCast_add, Int.add_mul, Int.add_mul] at this
        simp only [Int.natCast_one, Int.one_mul] at this
        rw [show x + dx + j * dx = x + (j * dx + dx) by omega, show y + dy + j * dy = y + (j * dy + dy) by omega]
        exact this
      · rintro ⟨h0, h1⟩ j hj
        cases j with
        | zero => simpa using h0
        | succ j =>
          have := h1 j (by omega)
          rw [Int.natCast_add, Int.add_mul, Int.add_mul]
          simp only [Int.natCast_one, Int.one_mul]
          rw [show x + (j * dx + dx) = x + dx + j * dx by omega, show y + (j * dy + dy) = y + dy + j * dy by omega]
          exact this
    rw [split0]
    by_cases hb : onB W H x y = true
    · rw [line_on hd hb, List.takeWhile_cons]
      have hc : cl W H zs x y = zs.getD (y * W + x).toNat 0 := by unfold cl; rw [if_pos hb]
      rw [hc]
      by_cases he : zs.getD (y * W + x).toNat 0 = v
      · rw [if_pos (by rw [he]; simp), List.length_cons, ← ih (x + dx) (y + dy)]
        constructor
        · intro h; exact ⟨he, by omega⟩
        · intro h; have := h.2; omega
      · rw [if_neg (by simpa using he)]
        constructor
        · intro h; simp at h
        · intro h; exact absurd h.1 he
    · have hb' : onB W H x y = false := by simpa using hb
      rw [line_off hb']
      have hc : cl W H zs x y = -1 := by unfold cl; rw [if_neg hb]
      constructor
      · intro h; simp at h
      · intro h; have := h.1; rw [hc] at this; omega

/-- How many beside a place are like it. -/
def al (W H : Nat) (zs : List Int) (p : Nat) (dx dy : Int) : Nat := ((line W H dx dy ((p % W : Nat) + dx) ((p / W : Nat) + dy)).takeWhile fun o => zs.getD o 0 == zs.getD p 0).length

theorem al_spec {W H : Nat} {zs : List Int} {p : Nat} {dx dy : Int} (hd : Dir dx dy) (hv : 0 ≤ zs.getD p 0) (t : Nat) : t ≤ al W H zs p dx dy ↔ ∀ j : Nat, 1 ≤ j → j ≤ t → cl W H zs ((p % W : Nat) + j * dx) ((p / W : Nat) + j * dy) = zs.getD p 0 := by
  unfold al
  rw [run_spec hd hv]
  constructor
  · intro h j h1 h2
    have := h (j - 1) (by omega)
    obtain ⟨i, rfl⟩ : ∃ i, j = i + 1 := ⟨j - 1, by omega⟩
    rw [Nat.add_sub_cancel] at this
    rw [Int.natCast_add, Int.add_mul, Int.add_mul]
    simp only [Int.natCast_one, Int.one_mul]
    rw [show ((p % W : Nat) : Int) + (i * dx + dx) = (p % W : Nat) + dx + i * dx by omega, show ((p / W : Nat) : Int) + (i * dy + dy) = (p / W : Nat) + dy + i * dy by omega]
    exact this
  · intro h j hj
    have := h (j + 1) (by omega) (by omega)
    rw [Int.natCast_add, Int.add_mul, Int.add_mul] at this
    simp only [Int.natCast_one, Int.one_mul] at this
    rw [show ((p % W : Nat) : Int) + dx + j * dx = (p % W : Nat) + (j * dx + dx) by omega, show ((p / W : Nat) : Int) + dy + j * dy = (p / W : Nat) + (j * dy + dy) by omega]
    exact this

def dirs : List (Int × Int) := [(1, 0), (0, 1), (1, 1), (-1, 1)]

theorem dirs_dir {d : Int × Int} (h : d ∈ dirs) : Dir d.1 d.2 := by
  simp only [dirs, List.mem_cons, List.not_mem_nil, or_false] at h
  rcases h with rfl | rfl | rfl | rfl <;> simp [Dir]

/-- Does the sign of a place stand in a row of k? -/
def inR (W H : Nat) (zs : List Int) (p k : Nat) : Bool := dirs.any fun d => decide (k ≤ 1 + al W H zs p d.1 d.2 + al W H zs p (-d.1) (-d.2))

/-- k in a row, told from where it begins. -/
def Row (W H : Nat) (zs : List Int) (x y dx dy : Int) (k : Nat) (v : Int) : Prop := ∀ j : Nat, j < k → cl W H zs (x + j * dx) (y + j * dy) = v

theorem row_at {W H : Nat} {zs : List Int} {p k : Nat} {dx dy : Int} (hd : Dir dx dy) (hv : 0 ≤ zs.getD p 0) (hk : 1 ≤ k) (hp : cl W H zs (p % W : Nat) (p / W : Nat) = zs.getD p 0) :
    k ≤ 1 + al W H zs p dx dy + al W H zs p (-dx) (-dy) ↔ ∃ i, i < k ∧ Row W H zs ((p % W : Nat) - i * dx) ((p / W : Nat) - i * dy) dx dy k (zs.getD p 0) := by
  have e1 := al_spec (W := W) (H := H) hd hv
  have e2 := al_spec (W := W) (H := H) hd.neg hv
  constructor
  · intro h
    refine ⟨min (k - 1) (al W H zs p (-dx) (-dy)), by omega, fun j hj => ?_⟩
    obtain ⟨i, hi⟩ : ∃ i, min (k - 1) (al W H zs p (-dx) (-dy)) = i := ⟨_, rfl⟩
    rw [hi]
    by_cases hji : i ≤ j
    · rcases Nat.eq_or_lt_of_le hji with rfl | hlt
      · rw [show ((p % W : Nat) : Int) - i * dx + i * dx = (p % W : Nat) by omega, show ((p / W : Nat) : Int) - i * dy + i * dy = (p / W : Nat) by omega]
        exact hp
      · have := (e1 (j - i)).1 (by omega) (j - i) (by omega) (Nat.le_refl _)
        rw [show ((j - i : Nat) : Int) = (j : Int) - i by omega, Int.sub_mul, Int.sub_mul] at this
        rw [show ((p % W : Nat) : Int) - i * dx + j * dx = (p % W : Nat) + (j * dx - i * dx) by omega, show ((p / W : Nat) : Int) - i * dy + j * dy = (p / W : Nat) + (j * dy - i * dy) by omega]
        exact this
    · have := (e2 (i - j)).1 (by omega) (i - j) (by omega) (Nat.le_refl _)
      rw [show ((i - j : Nat) : Int) = (i : Int) - j by omega, Int.mul_neg, Int.mul_neg, Int.sub_mul, Int.sub_mul] at this
      rw [show ((p % W : Nat) : Int) - i * dx + j * dx = (p % W : Nat) + -(i * dx - j * dx) by omega, show ((p / W : Nat) : Int) - i * dy + j * dy = (p / W : Nat) + -(i * dy - j * dy) by omega]
      exact this
  · rintro ⟨i, hi, hr⟩
    have a1 : k - 1 - i ≤ al W H zs p dx dy := by
      rw [e1]
      intro j h1 h2
      have := hr (i + j) (by omega)
      rw [Int.natCast_add, Int.add_mul, Int.add_mul] at this
      rw [show ((p % W : Nat) : Int) + j * dx = (p % W : Nat) - i * dx + (i * dx + j * dx) by omega, show ((p / W : Nat) : Int) + j * dy = (p / W : Nat) - i * dy + (i * dy + j * dy) by omega]
      exact this
    have a2 : i ≤ al W H zs p (-dx) (-dy) := by
      rw [e2]
      intro j h1 h2
      have := hr (i - j) (by omega)
      rw [show ((i - j : Nat) : Int) = (i : Int) - j by omega, Int.sub_mul, Int.sub_mul] at this
      rw [Int.mul_neg, Int.mul_neg]
      rw [show ((p % W : Nat) : Int) + -(j * dx) = (p % W : Nat) - i * dx + (i * dx - j * dx) by omega, show ((p / W : Nat) : Int) + -(j * dy) = (p / W : Nat) - i * dy + (i * dy - j * dy) by omega]
      exact this
    omega

/-- Told the other way round. -/
theorem row_back {W H : Nat} {zs : List Int} {x y dx dy v : Int} {k : Nat} (hk : 1 ≤ k) (h : Row W H zs x y dx dy k v) : Row W H zs (x + (k - 1 : Nat) * dx) (y + (k - 1 : Nat) * dy) (-dx) (-dy) k v := by
  intro j hj
  have := h (k - 1 - j) (by omega)
  rw [show ((k - 1 - j : Nat) : Int) = ((k - 1 : Nat) : Int) - j by omega, Int.sub_mul, Int.sub_mul] at this
  rw [Int.mul_neg, Int.mul_neg]
  rw [show x + ((k - 1 : Nat) : Int) * dx + -(j * dx) = x + (((k - 1 : Nat) : Int) * dx - j * dx) by omega, show y + ((k - 1 : Nat) : Int) * dy + -(j * dy) = y + (((k - 1 : Nat) : Int) * dy - j * dy) by omega]
  exact this

theorem cl_on {W H : Nat} {zs : List Int} {x y v : Int} (hv : 0 ≤ v) (h : cl W H zs x y = v) : onB W H x y = true := by
  unfold cl at h
  by_cases hb : onB W H x y = true
  · exact hb
  · rw [if_neg hb] at h; omega

theorem place_of {W : Nat} {x y : Nat} (hx : x < W) : (y * W + x) % W = x ∧ (y * W + x) / W = y := by
  constructor
  · rw [Nat.mul_comm, Nat.mul_add_mod, Nat.mod_eq_of_lt hx]
  · rw [Nat.mul_comm, Nat.mul_add_div (by omega), Nat.div_eq_of_lt hx, Nat.add_zero]

theorem cl_at {W H : Nat} {zs : List Int} {p : Nat} (hW : 0 < W) (hp : p < W * H) : cl W H zs (p % W : Nat) (p / W : Nat) = zs.getD p 0 ∧ onB W H (p % W : Nat) (p / W : Nat) = true := by
  have h1 : p % W < W := Nat.mod_lt _ hW
  have h2 : p / W < H := Nat.div_lt_of_lt_mul hp
  have hb : onB W H (p % W : Nat) (p / W : Nat) = true := by rw [onB_iff]; exact ⟨Int.natCast_nonneg _, Int.ofNat_lt.2 h1, Int.natCast_nonneg _, Int.ofNat_lt.2 h2⟩
  refine ⟨?_, hb⟩
  unfold cl
  rw [if_pos hb, ← Int.natCast_mul, ← Int.natCast_add, Int.toNat_natCast, Nat.mul_comm, Nat.div_add_mod]

/-- The document's four ways. -/
def rdx (d : Nat) : Int := [1, 0, 1, 1].getD d 0
def rdy (d : Nat) : Int := [0, 1, 1, -1].getD d 0

theorem rd_dir {d : Nat} (h : d < 4) : Dir (rdx d) (rdy d) := by
  rcases (show d = 0 ∨ d = 1 ∨ d = 2 ∨ d = 3 by omega) with rfl | rfl | rfl | rfl <;> simp [Dir, rdx, rdy]

instance (W H : Nat) (zs : List Int) (x y dx dy : Int) (k : Nat) (v : Int) : Decidable (Row W H zs x y dx dy k v) := by unfold Row; infer_instance

/-- Whose row of k begins here? -/
def rf (W H : Nat) (zs : List Int) (k x y d : Nat) : Int := if Row W H zs x y (rdx d) (rdy d) k (zs.getD (y * W + x) 0) then zs.getD (y * W + x) 0 else 0

def mark1 (W H : Nat) (zs : List Int) (k x y d : Nat) : List Nat := if 0 < rf W H zs k x y d then (List.range k).map (fun i : Nat => (((y : Int) + rdy d * i) * W + x + rdx d * i).toNat) else []

def marks (W H : Nat) (zs : List Int) (k : Nat) : List Nat := (List.range H).flatMap fun y => (List.range W).flatMap fun x => (List.range 4).flatMap fun d => mark1 W H zs k x y d
def whos (W H : Nat) (zs : List Int) (k : Nat) : List Int := (List.range H).flatMap fun y => (List.range W).flatMap fun x => (List.range 4).map fun d => rf W H zs k x y d

theorem mem_marks {W H : Nat} {zs : List Int} {k q : Nat} : q ∈ marks W H zs k ↔ ∃ x y d i : Nat, x < W ∧ y < H ∧ d < 4 ∧ i < k ∧ 0 < rf W H zs k x y d ∧ q = (((y : Int) + rdy d * i) * W + x + rdx d * i).toNat := by
  simp only [marks, mark1, List.mem_flatMap, List.mem_range]
  constructor
  · rintro ⟨y, hy, x, hx, d, hd, h⟩
    split at h
    · rename_i hr
      obtain ⟨i, hi, rfl⟩ := List.mem_map.1 h
      exact ⟨x, y, d, i, hx, hy, hd, List.mem_range.1 hi, hr, rfl⟩
    · cases h
  · rintro ⟨x, y, d, i, hx, hy, hd, hi, hr, rfl⟩
    exact ⟨y, hy, x, hx, d, hd, by rw [if_pos hr]; exact List.mem_map.2 ⟨i, List.mem_range.2 hi, rfl⟩⟩

theorem mem_whos {W H : Nat} {zs : List Int} {k : Nat} {v : Int} : v ∈ whos W H zs k ↔ ∃ x y d : Nat, x < W ∧ y < H ∧ d < 4 ∧ rf W H zs k x y d = v := by
  simp only [whos, List.mem_flatMap, List.mem_range, List.mem_map]
  constructor
  · rintro ⟨y, hy, x, hx, d, hd, h⟩; exact ⟨x, y, d, hx, hy, hd, h⟩
  · rintro ⟨x, y, d, hx, hy, hd, h⟩; exact ⟨y, hy, x, hx, d, hd, h⟩

theorem rf_row {W H : Nat} {zs : List Int} {k x y d : Nat} {v : Int} (hv : 0 < v) (h : rf W H zs k x y d = v) : Row W H zs x y (rdx d) (rdy d) k v := by
  unfold rf at h
  split at h
  · rename_i hr; rw [h] at hr; exact hr
  · omega

/-- In a row, told by what the program asks: by what the document asks. -/
theorem inR_iff {W H : Nat} {zs : List Int} {p k : Nat} (hW : 0 < W) (hp : p < W * H) (hk : 1 ≤ k) (hv : 0 < zs.getD p 0) :
    inR W H zs p k = true ↔ ∃ x y d i : Nat, x < W ∧ y < H ∧ d < 4 ∧ i < k ∧ rf W H zs k x y d = zs.getD p 0 ∧ p = (((y : Int) + rdy d * i) * W + x + rdx d * i).toNat := by
  have hc := (cl_at (zs := zs) hW hp).1
  have key : ∀ dx dy : Int, Dir dx dy → (k ≤ 1 + al W H zs p dx dy + al W H zs p (-dx) (-dy) ↔ ∃ i, i < k ∧ Row W H zs ((p % W : Nat) - i * dx) ((p / W : Nat) - i * dy) dx dy k (zs.getD p 0)) := fun dx dy hd => row_at hd (by omega) hk hc
  -- a row through p in a way of the document's
  have doc : ∀ d, d < 4 → ((∃ i, i < k ∧ Row W H zs ((p % W : Nat) - i * rdx d) ((p / W : Nat) - i * rdy d) (rdx d) (rdy d) k (zs.getD p 0)) ↔ ∃ x y i : Nat, x < W ∧ y < H ∧ i < k ∧ rf W H zs k x y d = zs.getD p 0 ∧ p = (((y : Int) + rdy d * i) * W + x + rdx d * i).toNat) := by
    intro d hd
    constructor
    · rintro ⟨i, hi, hr⟩
      have h0 := hr 0 (by omega)
      rw [Int.natCast_zero, Int.zero_mul, Int.zero_mul, Int.add_zero, Int.add_zero] at h0
      have hb := cl_on (by omega) h0
      have hb' := hb
      rw [onB_iff] at hb
      obtain ⟨x, hx⟩ := Int.eq_ofNat_of_zero_le hb.1
      obtain ⟨y, hy⟩ := Int.eq_ofNat_of_zero_le hb.2.2.1
      rw [hx, hy] at hr h0 hb hb'
      refine ⟨x, y, i, by omega, by omega, hi, ?_, ?_⟩
      · have e0 : zs.getD (y * W + x) 0 = zs.getD p 0 := by
          unfold cl at h0
          rw [if_pos hb', ← Int.natCast_mul, ← Int.natCast_add, Int.toNat_natCast] at h0
          exact h0
        unfold rf
        rw [e0, if_pos hr]
      · have ex : ((p % W : Nat) : Int) = x + rdx d * i := by rw [Int.mul_comm (rdx d)]; omega
        have ey : ((p / W : Nat) : Int) = y + rdy d * i := by rw [Int.mul_comm (rdy d)]; omega
        rw [Int.add_assoc, ← ex, ← ey, ← Int.natCast_mul, ← Int.natCast_add, Int.toNat_natCast, Nat.mul_comm, Nat.div_add_mod]
    · rintro ⟨x, y, i, hx, hy, hi, hrf, hpe⟩
      have hr := rf_row hv hrf
      have hri := hr i hi
      have hb := cl_on (by omega) hri
      rw [onB_iff] at hb
      obtain ⟨a, ha⟩ := Int.eq_ofNat_of_zero_le hb.1
      obtain ⟨b, hb2⟩ := Int.eq_ofNat_of_zero_le hb.2.2.1
      have epl : p = b * W + a := by
        rw [hpe, Int.mul_comm (rdx d), Int.mul_comm (rdy d), Int.add_assoc, ha, hb2, ← Int.natCast_mul, ← Int.natCast_add, Int.toNat_natCast]
      have hpm := place_of (W := W) (x := a) (y := b) (by omega)
      rw [← epl] at hpm
      refine ⟨i, hi, ?_⟩
      rw [hpm.1, hpm.2, show (a : Int) - i * rdx d = x by omega, show (b : Int) - i * rdy d = y by omega]
      exact hr
  have back : ∀ dx dy : Int, (∃ i, i < k ∧ Row W H zs ((p % W : Nat) - i * dx) ((p / W : Nat) - i * dy) dx dy k (zs.getD p 0)) → ∃ i, i < k ∧ Row W H zs ((p % W : Nat) - i * (-dx)) ((p / W : Nat) - i * (-dy)) (-dx) (-dy) k (zs.getD p 0) := by
    rintro dx dy ⟨i, hi, hr⟩
    refine ⟨k - 1 - i, by omega, ?_⟩
    have := row_back hk hr
    rw [show ((p % W : Nat) : Int) - ((k - 1 - i : Nat) : Int) * -dx = (p % W : Nat) - i * dx + (k - 1 : Nat) * dx by
      rw [show ((k - 1 - i : Nat) : Int) = ((k - 1 : Nat) : Int) - i by omega, Int.mul_neg, Int.sub_mul]; omega]
    rw [show ((p / W : Nat) : Int) - ((k - 1 - i : Nat) : Int) * -dy = (p / W : Nat) - i * dy + (k - 1 : Nat) * dy by
      rw [show ((k - 1 - i : Nat) : Int) = ((k - 1 : Nat) : Int) - i by omega, Int.mul_neg, Int.sub_mul]; omega]
    exact this
  have k0 := (key (rdx 0) (rdy 0) (rd_dir (by omega))).trans (doc 0 (by omega))
  have k1 := (key (rdx 1) (rdy 1) (rd_dir (by omega))).trans (doc 1 (by omega))
  have k2 := (key (rdx 2) (rdy 2) (rd_dir (by omega))).trans (doc 2 (by omega))
  have k3 : k ≤ 1 + al W H zs p (-1) 1 + al W H zs p (- -1) (-1) ↔ _ := (show k ≤ 1 + al W H zs p (-1) 1 + al W H zs p (- -1) (-1) ↔ k ≤ 1 + al W H zs p (rdx 3) (rdy 3) + al W H zs p (-rdx 3) (-rdy 3) by
    rw [show rdx 3 = 1 from rfl, show rdy 3 = -1 from rfl, show (- -1 : Int) = 1 from rfl]; omega).trans ((key (rdx 3) (rdy 3) (rd_dir (by omega))).trans (doc 3 (by omega)))
  unfold inR dirs
  simp only [List.any_cons, List.any_nil, Bool.or_false, Bool.or_eq_true, decide_eq_true_eq]
  constructor
  · rintro (h | h | h | h)
    · obtain ⟨x, y, i, h1, h2, h3, h4, h5⟩ := k0.1 h; exact ⟨x, y, 0, i, h1, h2, by omega, h3, h4, h5⟩
    · obtain ⟨x, y, i, h1, h2, h3, h4, h5⟩ := k1.1 h; exact ⟨x, y, 1, i, h1, h2, by omega, h3, h4, h5⟩
    · obtain ⟨x, y, i, h1, h2, h3, h4, h5⟩ := k2.1 h; exact ⟨x, y, 2, i, h1, h2, by omega, h3, h4, h5⟩
    · obtain ⟨x, y, i, h1, h2, h3, h4, h5⟩ := k3.1 h; exact ⟨x, y, 3, i, h1, h2, by omega, h3, h4, h5⟩
  · rintro ⟨x, y, d, i, h1, h2, hd, h3, h4, h5⟩
    rcases (show d = 0 ∨ d = 1 ∨ d = 2 ∨ d = 3 by omega) with rfl | rfl | rfl | rfl
    · exact Or.inl (k0.2 ⟨x, y, i, h1, h2, h3, h4, h5⟩)
    · exact Or.inr (Or.inl (k1.2 ⟨x, y, i, h1, h2, h3, h4, h5⟩))
    · exact Or.inr (Or.inr (Or.inl (k2.2 ⟨x, y, i, h1, h2, h3, h4, h5⟩)))
    · exact Or.inr (Or.inr (Or.inr (k3.2 ⟨x, y, i, h1, h2, h3, h4, h5⟩)))

end Go.Proofs.YthdnbbjehcicbaaDoor
