/-
  Plain mathematics of dice: sums over numbers, ways of a sum, throws one by one, the greatest of some. No conditions beyond those that each theorem bears.
-/
import Derived.WalkKit
namespace Go.Proofs.Ytonmgbepkdlklaa

def sumTo (g : Nat → Nat) : Nat → Nat
  | 0 => 0
  | k + 1 => sumTo g k + g k

theorem sumTo_congr {g h : Nat → Nat} (n : Nat) (e : ∀ x, x < n → g x = h x) : sumTo g n = sumTo h n := by
  induction n with
  | zero => rfl
  | succ n ih => rw [sumTo, sumTo, ih (fun x hx => e x (by omega)), e n (by omega)]

theorem sumTo_add (g h : Nat → Nat) (n : Nat) : sumTo (fun x => g x + h x) n = sumTo g n + sumTo h n := by
  induction n with
  | zero => rfl
  | succ n ih => rw [sumTo, sumTo, sumTo, ih]; omega

theorem sumTo_zero (n : Nat) : sumTo (fun _ => 0) n = 0 := by
  induction n with
  | zero => rfl
  | succ n ih => rw [sumTo, ih]

theorem sumTo_eq_zero {g : Nat → Nat} (n : Nat) (e : ∀ x, x < n → g x = 0) : sumTo g n = 0 := by
  rw [sumTo_congr n e, sumTo_zero]

theorem sumTo_const (c n : Nat) : sumTo (fun _ => c) n = n * c := by
  induction n with
  | zero => simp [sumTo]
  | succ n ih => rw [sumTo, ih, Nat.succ_mul]

theorem sumTo_swap (g : Nat → Nat → Nat) (n m : Nat) : sumTo (fun x => sumTo (fun y => g x y) m) n = sumTo (fun y => sumTo (fun x => g x y) n) m := by
  induction n with
  | zero => simp [sumTo, sumTo_zero]
  | succ n ih =>
    rw [sumTo, ih, ← sumTo_add]
    rfl

theorem sumTo_first (g : Nat → Nat) (n : Nat) : sumTo g (n + 1) = g 0 + sumTo (fun x => g (x + 1)) n := by
  induction n with
  | zero => simp [sumTo]
  | succ n ih => rw [sumTo, ih, sumTo]; omega

theorem sumTo_rev (g : Nat → Nat) (n : Nat) : sumTo g n = sumTo (fun x => g (n - 1 - x)) n := by
  induction n with
  | zero => rfl
  | succ n ih =>
    rw [sumTo, ih, sumTo_first]
    simp only [Nat.add_sub_cancel, Nat.sub_zero]
    rw [Nat.add_comm]
    congr 1
    refine sumTo_congr n fun x hx => ?_
    congr 1
    omega

theorem sumTo_le {g : Nat → Nat} (B n : Nat) (e : ∀ x, x < n → g x ≤ B) : sumTo g n ≤ n * B := by
  induction n with
  | zero => simp [sumTo]
  | succ n ih => rw [sumTo, Nat.succ_mul]; have := ih (fun x hx => e x (by omega)); have := e n (by omega); omega

theorem sumTo_mono {g : Nat → Nat} {n m : Nat} (h : n ≤ m) : sumTo g n ≤ sumTo g m := by
  induction m with
  | zero => have : n = 0 := by omega
            subst this; exact Nat.le_refl _
  | succ m ih =>
    by_cases e : n = m + 1
    · subst e; exact Nat.le_refl _
    · rw [sumTo]; have := ih (by omega); omega

theorem sumTo_split (g : Nat → Nat) (n m : Nat) : sumTo g (n + m) = sumTo g n + sumTo (fun x => g (n + x)) m := by
  induction m with
  | zero => rfl
  | succ m ih => rw [← Nat.add_assoc, sumTo, ih, sumTo]; omega

theorem sumTo_mul (g : Nat → Nat) (s n : Nat) : sumTo g (s * n) = sumTo (fun q => sumTo (fun d => g (s * q + d)) s) n := by
  induction n with
  | zero => simp [sumTo]
  | succ n ih => rw [Nat.mul_succ, sumTo_split, ih, sumTo]

/-- The product. -/
def prod : List Nat → Nat
  | [] => 1
  | d :: ds => d * prod ds

theorem prod_pow (n s : Nat) : prod (List.replicate n s) = s ^ n := by
  induction n with
  | zero => rfl
  | succ n ih => rw [List.replicate_succ, prod, ih, Nat.pow_succ, Nat.mul_comm]

theorem prod_append (a b : List Nat) : prod (a ++ b) = prod a * prod b := by
  induction a with
  | nil => simp [prod]
  | cons d a ih => rw [List.cons_append, prod, ih, prod, Nat.mul_assoc]

theorem prod_reverse (a : List Nat) : prod a.reverse = prod a := by
  induction a with
  | nil => rfl
  | cons d a ih => rw [List.reverse_cons, prod_append, ih, prod, prod, prod, Nat.mul_one, Nat.mul_comm]

theorem prod_le (a : List Nat) (B : Nat) (h : ∀ d ∈ a, d ≤ B) : prod a ≤ B ^ a.length := by
  induction a with
  | nil => simp [prod]
  | cons d a ih =>
    rw [prod, List.length_cons, Nat.pow_succ, Nat.mul_comm (B ^ _)]
    exact Nat.mul_le_mul (h d (by simp)) (ih (fun x hx => h x (by simp [hx])))

/-- In how many ways dice show the sum s. -/
def cs : List Nat → Int → Nat
  | [], s => if s = 0 then 1 else 0
  | d :: ds, s => sumTo (fun x => cs ds (s - x - 1)) d

theorem cs_le (ds : List Nat) : ∀ s, cs ds s ≤ prod ds := by
  induction ds with
  | nil => intro s; rw [cs, prod]; split <;> omega
  | cons d ds ih => intro s; rw [cs, prod]; exact sumTo_le _ _ (fun x _ => ih _)

theorem cs_low (ds : List Nat) : ∀ s : Int, s < (ds.length : Int) → cs ds s = 0 := by
  induction ds with
  | nil => intro s h; rw [cs, if_neg]; simp at h; omega
  | cons d ds ih => intro s h; rw [cs]; refine sumTo_eq_zero _ fun x _ => ih _ ?_; simp at h; omega

theorem cs_high (ds : List Nat) : ∀ s : Int, (ds.sum : Int) < s → cs ds s = 0 := by
  induction ds with
  | nil => intro s h; rw [cs, if_neg]; simp at h; omega
  | cons d ds ih => intro s h; rw [cs]; refine sumTo_eq_zero _ fun x hx => ih _ ?_; simp at h; omega

theorem cs_pal (ds : List Nat) : ∀ s : Int, cs ds ((ds.sum : Int) + ds.length - s) = cs ds s := by
  induction ds with
  | nil =>
    intro s
    by_cases h : s = 0
    · subst h; rfl
    · rw [cs, cs, if_neg (by simp; omega), if_neg h]
  | cons d ds ih =>
    intro s
    rw [cs, cs, sumTo_rev]
    refine sumTo_congr _ fun x hx => ?_
    rw [← ih (s - x - 1)]
    congr 1
    simp only [List.sum_cons, List.length_cons]
    omega

theorem cs_total (ds : List Nat) : ∀ M : Nat, ds.sum < M → sumTo (fun s => cs ds (s : Int)) M = prod ds := by
  induction ds with
  | nil =>
    intro M hM
    obtain ⟨m, rfl⟩ : ∃ m, M = m + 1 := ⟨M - 1, by simp at hM; omega⟩
    rw [sumTo_first, sumTo_eq_zero m (fun x _ => by rw [cs, if_neg (by omega)])]
    simp [cs, prod]
  | cons d ds ih =>
    intro M hM
    simp only [List.sum_cons] at hM
    have e1 : sumTo (fun s => cs (d :: ds) (s : Int)) M = sumTo (fun x => sumTo (fun s : Nat => cs ds ((s : Int) - x - 1)) M) d := by
      rw [← sumTo_swap]; rfl
    rw [e1, prod, ← sumTo_const (prod ds) d]
    refine sumTo_congr _ fun x hx => ?_
    obtain ⟨m, rfl⟩ : ∃ m, M = (x + 1) + m := ⟨M - (x + 1), by omega⟩
    rw [sumTo_split, sumTo_eq_zero (x + 1) (fun y hy => cs_low _ _ (by omega)), Nat.zero_add, ← ih m (by omega)]
    refine sumTo_congr _ fun y _ => ?_
    congr 1
    omega

/-- Throws of dice, one by one: g of each, added up. -/
def cntT : List Nat → (List Nat → Nat) → Nat
  | [], g => g []
  | d :: ds, g => sumTo (fun x => cntT ds (fun t => g ((x + 1) :: t))) d

theorem cntT_congr (ds : List Nat) : ∀ {g h : List Nat → Nat}, (∀ t, t.length = ds.length → (∀ i, i < ds.length → 1 ≤ t.getD i 0 ∧ t.getD i 0 ≤ ds.getD i 0) → g t = h t) → cntT ds g = cntT ds h := by
  induction ds with
  | nil => intro g h e; exact e [] rfl (fun i hi => by simp at hi)
  | cons d ds ih =>
    intro g h e
    rw [cntT, cntT]
    refine sumTo_congr _ fun x hx => ih fun t ht hr => e _ (by simp [ht]) fun i hi => ?_
    cases i with
    | zero => simp [List.getD]; omega
    | succ i => have := hr i (by simpa using hi); simpa [List.getD] using this

theorem cntT_one (ds : List Nat) : cntT ds (fun _ => 1) = prod ds := by
  induction ds with
  | nil => rfl
  | cons d ds ih => rw [cntT, prod, ih, sumTo_const]

theorem cntT_le (ds : List Nat) : ∀ (g : List Nat → Nat), (∀ t, g t ≤ 1) → cntT ds g ≤ prod ds := by
  induction ds with
  | nil => intro g h; exact h []
  | cons d ds ih => intro g h; rw [cntT, prod]; exact sumTo_le _ _ (fun x _ => ih _ (fun t => h _))

theorem cntT_cs (ds : List Nat) : ∀ s : Int, cntT ds (fun t => if ((t.sum : Nat) : Int) = s then 1 else 0) = cs ds s := by
  induction ds with
  | nil =>
    intro s
    rw [cntT, cs]
    by_cases h : s = 0
    · subst h; rfl
    · rw [if_neg h, if_neg (by simp; omega)]
  | cons d ds ih =>
    intro s
    rw [cntT, cs]
    refine sumTo_congr _ fun x hx => ?_
    rw [← ih]
    refine cntT_congr ds fun t _ _ => ?_
    simp only [List.sum_cons]
    by_cases h : ((t.sum : Nat) : Int) = s - x - 1
    · rw [if_pos h]; exact if_pos (by omega)
    · rw [if_neg h]; exact if_neg (by omega)

/-- What w shows as n dice of s sides. -/
def digs (s : Nat) : Nat → Nat → List Nat
  | 0, _ => []
  | n + 1, w => (w % s + 1) :: digs s n (w / s)

theorem digs_length (s n : Nat) : ∀ w, (digs s n w).length = n := by
  induction n with
  | zero => intro w; rfl
  | succ n ih => intro w; rw [digs, List.length_cons, ih]

theorem digs_bound (s n : Nat) (hs : 0 < s) : ∀ w, ∀ x ∈ digs s n w, 1 ≤ x ∧ x ≤ s := by
  induction n with
  | zero => intro w x hx; simp [digs] at hx
  | succ n ih =>
    intro w x hx
    rw [digs, List.mem_cons] at hx
    rcases hx with rfl | hx
    · have := Nat.mod_lt w hs; omega
    · exact ih _ _ hx

theorem digs_all (s : Nat) (hs : 0 < s) : ∀ (n : Nat) (g : List Nat → Nat), sumTo (fun w => g (digs s n w)) (s ^ n) = cntT (List.replicate n s) g := by
  intro n
  induction n with
  | zero => intro g; simp [sumTo, digs, cntT]
  | succ n ih =>
    intro g
    rw [Nat.pow_succ, Nat.mul_comm, sumTo_mul, sumTo_swap, List.replicate_succ, cntT]
    refine sumTo_congr _ fun d hd => ?_
    rw [← ih]
    refine sumTo_congr _ fun q _ => ?_
    rw [digs, show (s * q + d) % s = d by rw [Nat.mul_add_mod]; exact Nat.mod_eq_of_lt hd, show (s * q + d) / s = q by rw [Nat.mul_add_div hs, Nat.div_eq_of_lt hd]; rfl]

/-- The greatest k of what is shown, by how often each number is. -/
def gr (c : Nat → Nat) : Nat → Nat → Nat
  | 0, _ => 0
  | s + 1, k => min (c (s + 1)) k * (s + 1) + gr c s (k - min (c (s + 1)) k)

theorem gr_zero (c : Nat → Nat) (s : Nat) : gr c s 0 = 0 := by
  induction s with
  | zero => rfl
  | succ s ih => rw [gr, Nat.min_zero, Nat.zero_mul, Nat.zero_add]; exact ih

theorem gr_congr {c c' : Nat → Nat} (s : Nat) : (∀ x, 1 ≤ x → x ≤ s → c x = c' x) → ∀ k, gr c s k = gr c' s k := by
  induction s with
  | zero => intro _ k; rfl
  | succ s ih => intro h k; rw [gr, gr, h (s + 1) (by omega) (by omega), ih (fun x h1 h2 => h x h1 (by omega))]

theorem sorted_split (s : Nat) (L : List Nat) (hs : L.Pairwise (· ≤ ·)) (hb : ∀ x ∈ L, x ≤ s + 1) : ∃ L1 c, L = L1 ++ List.replicate c (s + 1) ∧ (∀ x ∈ L1, x ≤ s) ∧ L1.Pairwise (· ≤ ·) := by
  induction L with
  | nil => exact ⟨[], 0, rfl, fun x hx => by simp at hx, List.Pairwise.nil⟩
  | cons a L ih =>
    obtain ⟨h1, h2⟩ := List.pairwise_cons.1 hs
    obtain ⟨L1, c, e, hL, hp⟩ := ih h2 (fun x hx => hb x (by simp [hx]))
    by_cases ha : a ≤ s
    · refine ⟨a :: L1, c, by rw [e]; rfl, fun x hx => ?_, List.pairwise_cons.2 ⟨fun x hx => h1 x (by rw [e]; simp [hx]), hp⟩⟩
      rcases List.mem_cons.1 hx with rfl | hx
      · exact ha
      · exact hL x hx
    · have ea : a = s + 1 := by have := hb a (by simp); omega
      subst ea
      refine ⟨[], c + 1, ?_, fun x hx => by simp at hx, List.Pairwise.nil⟩
      cases L1 with
      | nil => rw [e]; rfl
      | cons y L1 =>
        have := h1 y (by rw [e]; simp)
        have := hL y (by simp)
        omega

theorem sum_replicate (n x : Nat) : (List.replicate n x).sum = n * x := by
  induction n with
  | zero => simp
  | succ n ih => rw [List.replicate_succ, List.sum_cons, ih, Nat.succ_mul]; omega

theorem gr_sorted (s : Nat) : ∀ (L : List Nat) (k : Nat), L.Pairwise (· ≤ ·) → (∀ x ∈ L, 1 ≤ x ∧ x ≤ s) → k ≤ L.length → gr (fun x => L.count x) s k = (L.drop (L.length - k)).sum := by
  induction s with
  | zero =>
    intro L k _ hb hk
    cases L with
    | nil => simp [gr]
    | cons a L => have := hb a (by simp); omega
  | succ s ih =>
    intro L k hs hb hk
    obtain ⟨L1, c, rfl, hL, hp⟩ := sorted_split s L hs (fun x hx => (hb x hx).2)
    have hc : (L1 ++ List.replicate c (s + 1)).count (s + 1) = c := by
      rw [List.count_append, List.count_replicate_self, List.count_eq_zero.2 (fun h => by have := hL _ h; omega), Nat.zero_add]
    have hg : ∀ k, gr (fun x => (L1 ++ List.replicate c (s + 1)).count x) s k = gr (fun x => L1.count x) s k := gr_congr s fun x h1 h2 => by
      show List.count x _ = _
      rw [List.count_append, List.count_replicate, if_neg (by simp; omega), Nat.add_zero]
    rw [gr, hc, hg]
    simp only [List.length_append, List.length_replicate] at hk ⊢
    by_cases hkc : k ≤ c
    · rw [Nat.min_eq_right hkc, Nat.sub_self, gr_zero, Nat.add_zero, List.drop_append, List.drop_eq_nil_of_le (by omega), List.nil_append, List.drop_replicate, sum_replicate]
      congr 1
      omega
    · rw [Nat.min_eq_left (by omega), ih L1 (k - c) hp (fun x hx => ⟨(hb x (by simp [hx])).1, hL x hx⟩) (by omega), List.drop_append, List.sum_append]
      rw [show L1.length + c - k - L1.length = 0 by omega, List.drop_zero, sum_replicate, Nat.add_comm, show L1.length - (k - c) = L1.length + c - k by omega]

/-- How many are to be added of throws that go on. -/
def exS (s : Nat) : List Nat → Nat
  | [] => 0
  | x :: t => if x < s then x else x + exS s t

end Go.Proofs.Ytonmgbepkdlklaa
