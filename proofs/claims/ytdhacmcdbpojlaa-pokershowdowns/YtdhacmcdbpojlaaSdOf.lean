/-
  What the document's ShowdownOf answers. No conditions beyond those that each theorem bears.
-/
import Derived.Test.YtdhacmcdbpojlaaFl
import Derived.Test.YtdhacmcdbpojlaaFaces2
import Derived.OrdersHeld
import Derived.Deep.RegionHeld3
namespace Go.Proofs.Ytdhacmcdbpojlaa
open Go.RowKit Go.Shelf

/-- What may fill a board. -/
def pairsF (R : List Nat) : Nat → List (List Nat)
  | 0 => []
  | i + 1 => pairsF R i ++ (List.range i).map (fun k => [R.getD i 0, R.getD k 0])
def fillsF (m : Nat) (R : List Nat) : List (List Nat) := if m = 5 then [[]] else if m = 4 then R.map (fun x => [x]) else pairsF R R.length
def bvR (L : List Nat) : Int := (bestG ((comb 5 (List.range 7)).map (pick L))).1
def winF (A E D : List Nat) (Fs : List (List Nat)) : Nat := (Fs.filter (fun F => decide (bvR (E ++ (D ++ F)) < bvR (A ++ (D ++ F))))).length
def tieF (A E D : List Nat) (Fs : List (List Nat)) : Nat := (Fs.filter (fun F => decide (bvR (A ++ (D ++ F)) = bvR (E ++ (D ++ F))))).length

theorem results3 {fn : Func} {t u v : Tmp} (h : fn.results = #[.tmp t, .tmp u, .tmp v]) (tmps : Array Value) (w : World) :
    (results fn tmps).run Try.prog w = .ok (.tuple #[tmps.getD t undef, tmps.getD u undef, tmps.getD v undef]) w := by
  simp [results, h]

theorem toI_ap (L M : List Nat) : toI (L ++ M) = toI L ++ toI M := by simp [toI]

theorem own_base3 {w : World} {base base' n : Nat} {v : Value} {xs : List Value} (h : w.ownsRow base 3 1 v n xs) (hb : base' ≤ base) : w.ownsRow base' 3 1 v n xs := by
  refine ⟨h.1, ?_⟩
  rcases h.2 with h0 | ⟨g, cap, cur, h1, h2, h3, h4, h5, h6, h7⟩
  · exact .inl h0
  · exact .inr ⟨g, cap, cur, h1, by omega, h3, h4, h5, h6, h7⟩

theorem fl_cell {w : World} {base n c : Nat} {a : Option Addr} {xs : List Value} (h : w.ownsRow base 22 1 (.slice a n c) n xs) (hn : 0 < n) (j : Nat) (u : Value) (hu : xs[j]? = some u) : ∃ g, a = some ⟨g, 0, none⟩ ∧ w.cell? ⟨g, j, none⟩ = some u := by
  rcases h.2 with ⟨_, h0⟩ | ⟨g, cap, cur, hv, _⟩
  · omega
  · simp only [Value.slice.injEq] at hv
    refine ⟨g, hv.1, ?_⟩
    have := h.cells (g := g) (by rw [hv.1]; rfl) j u hu
    rw [Addr.add_lit, Nat.zero_add] at this
    exact this

theorem lit1 (W : World) (x : Nat) : ((W.alloc (Obj.cells #[.int .i64 (x : Int)] 3)).alloc (Obj.cells #[.slice (some ⟨W.heap.size, 0, none⟩) 1 1] 22)).cell? ⟨W.heap.size + 1, 0, none⟩ = some (.slice (some ⟨W.heap.size, 0, none⟩) 1 1) ∧
    Rd ((W.alloc (Obj.cells #[.int .i64 (x : Int)] 3)).alloc (Obj.cells #[.slice (some ⟨W.heap.size, 0, none⟩) 1 1] 22)) (some ⟨W.heap.size, 0, none⟩) 1 1 (toI [x]) ∧
    (∀ b off, some (⟨W.heap.size, 0, none⟩ : Addr) = some ⟨b, off, none⟩ → ∃ cur, ((W.alloc (Obj.cells #[.int .i64 (x : Int)] 3)).alloc (Obj.cells #[.slice (some ⟨W.heap.size, 0, none⟩) 1 1] 22)).heap[b]? = some (.cells cur 3 (0, 0))) := by
  refine ⟨by go_simp, (one_rd W x).mono ((Below.refl _ _).alloc (Nat.le_refl _) _), ?_⟩
  intro b off e
  simp only [Option.some.injEq, Addr.mk.injEq, and_true] at e
  obtain ⟨rfl, _⟩ := e
  exact ⟨_, (heap_alloc_old _ _ (by simp)).trans (heap_alloc_new W _)⟩

theorem lit2 (W : World) (x y : Nat) : ((W.alloc (Obj.cells #[.int .i64 (x : Int), .int .i64 (y : Int)] 3)).alloc (Obj.cells #[.slice (some ⟨W.heap.size, 0, none⟩) 2 2] 22)).drew.cell? ⟨W.heap.size + 1, 0, none⟩ = some (.slice (some ⟨W.heap.size, 0, none⟩) 2 2) ∧
    Rd ((W.alloc (Obj.cells #[.int .i64 (x : Int), .int .i64 (y : Int)] 3)).alloc (Obj.cells #[.slice (some ⟨W.heap.size, 0, none⟩) 2 2] 22)).drew (some ⟨W.heap.size, 0, none⟩) 2 2 (toI [x, y]) ∧
    (∀ b off, some (⟨W.heap.size, 0, none⟩ : Addr) = some ⟨b, off, none⟩ → ∃ cur, ((W.alloc (Obj.cells #[.int .i64 (x : Int), .int .i64 (y : Int)] 3)).alloc (Obj.cells #[.slice (some ⟨W.heap.size, 0, none⟩) 2 2] 22)).drew.heap[b]? = some (.cells cur 3 (0, 0))) := by
  have hh : ((W.alloc (Obj.cells #[.int .i64 (x : Int), .int .i64 (y : Int)] 3)).alloc (Obj.cells #[.slice (some ⟨W.heap.size, 0, none⟩) 2 2] 22)).heap[W.heap.size]? = some (.cells #[.int .i64 (x : Int), .int .i64 (y : Int)] 3 (0, 0)) := (heap_alloc_old _ _ (by simp)).trans (heap_alloc_new W _)
  refine ⟨by go_simp, ⟨rfl, Nat.le_refl _, by unfold maxLen; omega, (fun h => by simp at h), fun _ => ⟨W.heap.size, 0, rfl, fun i hi => ?_⟩⟩, ?_⟩
  · rcases (by omega : i = 0 ∨ i = 1) with rfl | rfl <;> go_simp <;> rfl
  · intro b off e
    simp only [Option.some.injEq, Addr.mk.injEq, and_true] at e
    obtain ⟨rfl, _⟩ := e
    exact ⟨_, hh⟩

theorem pairs_len (R : List Nat) : ∀ n, 2 * (pairsF R n).length + n = n * n
  | 0 => rfl
  | n + 1 => by
    have h := pairs_len R n
    have e : (n + 1) * (n + 1) = n * n + n + (n + 1) := by rw [Nat.succ_mul, Nat.mul_succ]
    rw [pairsF, List.length_append, List.length_map, List.length_range, e]
    omega
theorem small_pairs {m n : Nat} (h : 2 * m + n = n * n) (hn : n ≤ 52) : m ≤ 1326 := by
  have h2 : n * (n - 1) ≤ 52 * 51 := Nat.mul_le_mul hn (by omega)
  rw [Nat.mul_sub, Nat.mul_one] at h2
  omega
theorem pairs_mem (R : List Nat) : ∀ n F, F ∈ pairsF R n → ∃ i k, i < n ∧ k < i ∧ F = [R.getD i 0, R.getD k 0]
  | 0, F, h => by simp [pairsF] at h
  | n + 1, F, h => by
    rw [pairsF, List.mem_append] at h
    rcases h with h | h
    · obtain ⟨i, k, h1, h2, h3⟩ := pairs_mem R n F h
      exact ⟨i, k, by omega, h2, h3⟩
    · obtain ⟨k, hk, rfl⟩ := List.mem_map.1 h
      exact ⟨n, k, by omega, List.mem_range.1 hk, rfl⟩

theorem take_next (FS : List (List Nat)) (j : Nat) (hj : j < FS.length) : FS.take (j + 1) = FS.take j ++ [FS.getD j []] := by
  rw [List.take_add_one]
  simp [List.getD, hj]
theorem winF_succ (A E D : List Nat) (FS : List (List Nat)) (j : Nat) (hj : j < FS.length) : winF A E D (FS.take (j + 1)) = winF A E D (FS.take j) + (if bvR (E ++ (D ++ FS.getD j [])) < bvR (A ++ (D ++ FS.getD j [])) then 1 else 0) := by
  unfold winF
  rw [take_next FS j hj, List.filter_append, List.length_append]
  by_cases h : bvR (E ++ (D ++ FS.getD j [])) < bvR (A ++ (D ++ FS.getD j [])) <;> simp only [h, List.filter_cons, List.filter_nil, decide_true, decide_false, if_true, if_false, Bool.false_eq_true, List.length_cons, List.length_nil]
theorem tieF_succ (A E D : List Nat) (FS : List (List Nat)) (j : Nat) (hj : j < FS.length) : tieF A E D (FS.take (j + 1)) = tieF A E D (FS.take j) + (if bvR (A ++ (D ++ FS.getD j [])) = bvR (E ++ (D ++ FS.getD j [])) then 1 else 0) := by
  unfold tieF
  rw [take_next FS j hj, List.filter_append, List.length_append]
  by_cases h : bvR (A ++ (D ++ FS.getD j [])) = bvR (E ++ (D ++ FS.getD j [])) <;> simp only [h, List.filter_cons, List.filter_nil, decide_true, decide_false, if_true, if_false, Bool.false_eq_true, List.length_cons, List.length_nil]
theorem winF_le (A E D : List Nat) (FS : List (List Nat)) (j : Nat) : winF A E D (FS.take j) ≤ j := Nat.le_trans (List.length_filter_le _ _) (by rw [List.length_take]; omega)
theorem tieF_le (A E D : List Nat) (FS : List (List Nat)) (j : Nat) : tieF A E D (FS.take j) ≤ j := Nat.le_trans (List.length_filter_le _ _) (by rw [List.length_take]; omega)

theorem best_at (L : List Nat) (h : Cards 7 L) (x : Option Addr) (c : Nat) (w : World) (hR : Rd w x 7 c (toI L)) :
    Calls Try.prog 13 #[.slice x 7 c] w fun e w' => ∃ ad m cc, e = .returned (.tuple #[.int .i64 (bvR L), .slice ad m cc]) ∧ Below w.heap.size w w' := by
  have hz : ∀ i, L.getD i 0 < 52 := by
    intro i
    by_cases hi : i < L.length
    · have : L.getD i 0 = L[i] := by simp [List.getD, hi]
      rw [this]; exact h.lt _ (List.getElem_mem hi)
    · simp [List.getD, hi]
  refine (BestFive_any x 7 c L (by omega) (by omega) hz h.nd w hR).mono ?_
  rintro e w' ⟨ad, m, cc, rfl, _, hB⟩
  exact ⟨ad, m, cc, rfl, hB⟩

theorem cards_app {A E D F : List Nat} (hA : A.length = 2) (hD : D.length + F.length = 5) (hlt : ∀ x ∈ A ++ E ++ D, x < 52) (hnd : (A ++ E ++ D).Nodup) (hF : F.Nodup) (hm : ∀ x ∈ F, x ∈ othK (toI (A ++ E ++ D)) 52) : Cards 7 (A ++ (D ++ F)) := by
  have hm' : ∀ x ∈ F, x < 52 ∧ x ∉ A ++ E ++ D := by
    intro x hx
    have h := hm x hx
    simp only [othK, List.mem_filter, List.mem_range, Bool.not_eq_true', Bool.eq_false_iff, Ne, List.contains_iff_mem] at h
    exact ⟨h.1, fun hin => h.2 (List.mem_map.2 ⟨x, hin, rfl⟩)⟩
  refine ⟨by simp only [List.length_append]; omega, ?_, ?_⟩
  · rw [List.nodup_append] at hnd ⊢
    obtain ⟨h1, h2, h3⟩ := hnd
    rw [List.nodup_append] at h1
    refine ⟨h1.1, ?_, ?_⟩
    · rw [List.nodup_append]
      exact ⟨h2, hF, fun x hx y hy e => (hm' y hy).2 (by rw [← e]; exact List.mem_append.2 (.inr hx))⟩
    · intro x hx y hy e
      rcases List.mem_append.1 hy with hy | hy
      · exact h3 x (List.mem_append.2 (.inl hx)) y hy e
      · exact (hm' y hy).2 (by rw [← e]; exact List.mem_append.2 (.inl (List.mem_append.2 (.inl hx))))
  · intro x hx
    rcases List.mem_append.1 hx with hx | hx
    · exact hlt x (List.mem_append.2 (.inl (List.mem_append.2 (.inl hx))))
    · rcases List.mem_append.1 hx with hx | hx
      · exact hlt x (List.mem_append.2 (.inr hx))
      · exact (hm' x hx).1

theorem swap3 {A E D : List Nat} (hlt : ∀ x ∈ A ++ E ++ D, x < 52) (hnd : (A ++ E ++ D).Nodup) : (∀ x ∈ E ++ A ++ D, x < 52) ∧ (E ++ A ++ D).Nodup ∧ othK (toI (E ++ A ++ D)) 52 = othK (toI (A ++ E ++ D)) 52 := by
  have hp : (A ++ E ++ D).Perm (E ++ A ++ D) := List.Perm.append_right D List.perm_append_comm
  refine ⟨fun x hx => hlt x (hp.mem_iff.2 hx), hp.nodup_iff.1 hnd, ?_⟩
  unfold othK
  apply List.filter_congr
  intro c _
  congr 1
  rw [Bool.eq_iff_iff, List.contains_iff_mem, List.contains_iff_mem]
  unfold toI
  exact (hp.map _).mem_iff.symm

theorem fills_ok5 {A E D : List Nat} (hA : A.length = 2) (hE : E.length = 2) (hD : D.length = 5) (hlt : ∀ x ∈ A ++ E ++ D, x < 52) (hnd : (A ++ E ++ D).Nodup) : ∀ F ∈ fillsF 5 (othK (toI (A ++ E ++ D)) 52), F.length = 0 ∧ Cards 7 (A ++ (D ++ F)) ∧ Cards 7 (E ++ (D ++ F)) := by
  intro F hF
  obtain rfl : F = [] := by simpa [fillsF] using hF
  obtain ⟨hlt', hnd', ho⟩ := swap3 hlt hnd
  exact ⟨rfl, cards_app hA (by simp [hD]) hlt hnd (by simp) (by simp), cards_app hE (by simp [hD]) hlt' hnd' (by simp) (by simp)⟩
theorem fills_ok4 {A E D : List Nat} (hA : A.length = 2) (hE : E.length = 2) (hD : D.length = 4) (hlt : ∀ x ∈ A ++ E ++ D, x < 52) (hnd : (A ++ E ++ D).Nodup) : ∀ F ∈ fillsF 4 (othK (toI (A ++ E ++ D)) 52), F.length = 1 ∧ Cards 7 (A ++ (D ++ F)) ∧ Cards 7 (E ++ (D ++ F)) := by
  intro F hF
  obtain ⟨x, hx, rfl⟩ : ∃ x, x ∈ othK (toI (A ++ E ++ D)) 52 ∧ [x] = F := by simpa [fillsF] using hF
  obtain ⟨hlt', hnd', ho⟩ := swap3 hlt hnd
  exact ⟨rfl, cards_app hA (by simp [hD]) hlt hnd (by simp) (by simpa using hx), cards_app hE (by simp [hD]) hlt' hnd' (by simp) (by rw [ho]; simpa using hx)⟩
theorem fills_len4 (R : List Nat) (h : R.length ≤ 52) : (fillsF 4 R).length ≤ 1326 := by
  simp only [fillsF, Nat.reduceEqDiff, if_false, if_true, List.length_map]
  omega
theorem fills_ok3 {A E D : List Nat} (hA : A.length = 2) (hE : E.length = 2) (hD : D.length = 3) (hlt : ∀ x ∈ A ++ E ++ D, x < 52) (hnd : (A ++ E ++ D).Nodup) : ∀ F ∈ fillsF 3 (othK (toI (A ++ E ++ D)) 52), F.length = 2 ∧ Cards 7 (A ++ (D ++ F)) ∧ Cards 7 (E ++ (D ++ F)) := by
  intro F hF
  obtain ⟨hlt', hnd', ho⟩ := swap3 hlt hnd
  have hRn : (othK (toI (A ++ E ++ D)) 52).Nodup := List.Nodup.sublist List.filter_sublist List.nodup_range
  obtain ⟨R, hR⟩ : ∃ R, othK (toI (A ++ E ++ D)) 52 = R := ⟨_, rfl⟩
  rw [hR] at hF hRn
  obtain ⟨i, k, h1, h2, rfl⟩ := pairs_mem R R.length F hF
  have ei : R.getD i 0 = R[i] := by simp [List.getD, h1]
  have ek : R.getD k 0 = R[k] := by simp [List.getD, (by omega : k < R.length)]
  rw [ei, ek]
  have hne : R[i] ≠ R[k] := fun e => by
    have := (List.getElem_inj hRn).1 e
    omega
  have hm : ∀ x ∈ [R[i], R[k]], x ∈ R := by
    intro x hx
    simp only [List.mem_cons, List.not_mem_nil, or_false] at hx
    rcases hx with rfl | rfl <;> exact List.getElem_mem _
  have hn2 : [R[i], R[k]].Nodup := by simp [hne]
  exact ⟨rfl, cards_app hA (by simp [hD]) hlt hnd hn2 (by rw [hR]; exact hm), cards_app hE (by simp [hD]) hlt' hnd' hn2 (by rw [ho, hR]; exact hm)⟩
theorem fills_len3 (R : List Nat) (h : R.length ≤ 52) : (fillsF 3 R).length ≤ 1326 := by
  show (pairsF R R.length).length ≤ 1326
  exact small_pairs (pairs_len R R.length) h
theorem fills_len5 (R : List Nat) (_h : R.length ≤ 52) : (fillsF 5 R).length ≤ 1326 := by simp [fillsF]

set_option maxRecDepth 100000 in
set_option maxHeartbeats 8000000 in
theorem SdOf5 (aA aE aD : Option Addr) (cA cE cD : Nat) (A E D : List Nat) (hA : A.length = 2) (hE : E.length = 2) (hD : D.length = 5) (hlt0 : ∀ x ∈ A ++ E ++ D, x < 52) (hnd0 : (A ++ E ++ D).Nodup)
    (w : World) (RA : Rd w aA 2 cA (toI A)) (RE : Rd w aE 2 cE (toI E)) (RD : Rd w aD 5 cD (toI D)) :
    Calls Try.prog 18 #[.slice aA 2 cA, .slice aE 2 cE, .slice aD 5 cD] w fun e w' => e = .returned (.tuple #[.int .i64 (winF A E D (fillsF 5 (othK (toI (A ++ E ++ D)) 52)) : Nat), .int .i64 (tieF A E D (fillsF 5 (othK (toI (A ++ E ++ D)) 52)) : Nat), .int .i64 ((fillsF 5 (othK (toI (A ++ E ++ D)) 52)).length : Nat)]) ∧ Below w.heap.size w w' := by
  have HA := hide RA
  have HE := hide RE
  have HD := hide RD
  clear RA RE RD
  have HKN : Hid (∀ c : Int, c ∈ toI (A ++ E ++ D) ↔ c ∈ toI A ∨ c ∈ toI E ∨ c ∈ toI D) := hide (fun c => by simp only [toI, List.map_append, List.mem_append, or_assoc])
  obtain ⟨KN, hKN⟩ : ∃ K, toI (A ++ E ++ D) = K := ⟨_, rfl⟩
  have HRE : Hid (othK KN 52 = othK (toI (A ++ E ++ D)) 52) := hide (by rw [hKN])
  rw [hKN] at HKN ⊢
  have HKE := hide hKN
  clear hKN
  go_enter Try.func18, Try.ntmps18
  go_wp2
  go_loopw [9, 10] (fun s v wr => ∃ (k : Nat), v = .int .i64 k ∧ k ≤ 52 ∧ (∃ ad cc, s = .slice ad (othK KN k).length cc) ∧ Hid (wr.ownsRow w.heap.size 3 1 s (othK KN k).length ((toI (othK KN k)).map (Value.int .i64))) ∧ Hid (Below w.heap.size w wr)) (fun _ v _ => 52 - (intOf v).toNat)
  case atStart => exact ⟨0, rfl, by omega, ⟨_, _, rfl⟩, World.ownsRow_nil _ _ _ _, Below.refl _ _⟩
  case round =>
    obtain ⟨k, rfl, hk, ⟨ad, cc, rfl⟩, hO, hB⟩ := hrel
    by_cases hlt : k < 52
    · have hlt' : (k : Int) < 52 := by omega
      have hs := othK_succ KN k
      have hl := othK_len KN k
      have AT1 := hide (at_any aA 2 cA (toI A) (k : Int) wr (HA.out.mono hB.out))
      have AT2 := hide (at_any aE 2 cE (toI E) (k : Int) wr (HE.out.mono hB.out))
      have AT3 := hide (at_any aD 5 cD (toI D) (k : Int) wr (HD.out.mono hB.out))
      obtain ⟨L, hL⟩ : ∃ L, othK KN k = L := ⟨_, rfl⟩
      rw [hL] at hs hl hO ⊢
      by_cases c1 : (k : Int) ∈ toI A
      · have hc : KN.contains (k : Int) = true := by rw [List.contains_iff_mem]; exact (HKN.out _).2 (.inl c1)
        rw [hc, if_pos rfl, List.append_nil] at hs
        have HS := hide hs
        clear hs hc hL
        go_wp2_with fail
        refine AT1.out.mono ?_
        rintro e w1 ⟨r1, rfl, hr, hw⟩
        subst w1
        have hr1 : ¬ r1 < 0 := by have := hr.2 c1; omega
        have dr1 : decide (r1 < 0) = false := by simp; omega
        clear hr
        go_wp2
        go_roundw
        case rel => exact ⟨k + 1, by go_num, by omega, ⟨ad, cc, by rw [HS.out]⟩, by rw [HS.out]; exact hO.out, hB.out⟩
        case measure => simp [intOf]; omega
      by_cases c2 : (k : Int) ∈ toI E
      · have hc : KN.contains (k : Int) = true := by rw [List.contains_iff_mem]; exact (HKN.out _).2 (.inr (.inl c2))
        rw [hc, if_pos rfl, List.append_nil] at hs
        have HS := hide hs
        clear hs hc hL
        go_wp2_with fail
        refine AT1.out.mono ?_
        rintro e w1 ⟨r1, rfl, hr, hw⟩
        subst w1
        have hr1 : r1 < 0 := by have := mt hr.1 c1; omega
        have dr1 : decide (r1 < 0) = true := by simp; omega
        clear hr
        go_wp2_with fail
        refine AT2.out.mono ?_
        rintro e w1 ⟨r2, rfl, hr, hw⟩
        subst w1
        have hr2 : ¬ r2 < 0 := by have := hr.2 c2; omega
        have dr2 : decide (r2 < 0) = false := by simp; omega
        clear hr
        go_wp2
        go_roundw
        case rel => exact ⟨k + 1, by go_num, by omega, ⟨ad, cc, by rw [HS.out]⟩, by rw [HS.out]; exact hO.out, hB.out⟩
        case measure => simp [intOf]; omega
      by_cases c3 : (k : Int) ∈ toI D
      · have hc : KN.contains (k : Int) = true := by rw [List.contains_iff_mem]; exact (HKN.out _).2 (.inr (.inr c3))
        rw [hc, if_pos rfl, List.append_nil] at hs
        have HS := hide hs
        clear hs hc hL
        go_wp2_with fail
        refine AT1.out.mono ?_
        rintro e w1 ⟨r1, rfl, hr, hw⟩
        subst w1
        have hr1 : r1 < 0 := by have := mt hr.1 c1; omega
        have dr1 : decide (r1 < 0) = true := by simp; omega
        clear hr
        go_wp2_with fail
        refine AT2.out.mono ?_
        rintro e w1 ⟨r2, rfl, hr, hw⟩
        subst w1
        have hr2 : r2 < 0 := by have := mt hr.1 c2; omega
        have dr2 : decide (r2 < 0) = true := by simp; omega
        clear hr
        go_wp2_with fail
        refine AT3.out.mono ?_
        rintro e w1 ⟨r3, rfl, hr, hw⟩
        subst w1
        have hr3 : ¬ r3 < 0 := by have := hr.2 c3; omega
        have dr3 : decide (r3 < 0) = false := by simp; omega
        clear hr
        go_wp2
        go_roundw
        case rel => exact ⟨k + 1, by go_num, by omega, ⟨ad, cc, by rw [HS.out]⟩, by rw [HS.out]; exact hO.out, hB.out⟩
        case measure => simp [intOf]; omega
      have hc : KN.contains (k : Int) = false := by
        rw [Bool.eq_false_iff, Ne, List.contains_iff_mem]
        exact fun hm => ((HKN.out _).1 hm).elim c1 (fun h => h.elim c2 c3)
      rw [hc, if_neg (by simp)] at hs
      have HS := hide hs
      clear hs hc hL
      go_wp2_with fail
      refine AT1.out.mono ?_
      rintro e w1 ⟨r1, rfl, hr, hw⟩
      subst w1
      have hr1 : r1 < 0 := by have := mt hr.1 c1; omega
      have dr1 : decide (r1 < 0) = true := by simp; omega
      clear hr
      go_wp2_with fail
      refine AT2.out.mono ?_
      rintro e w1 ⟨r2, rfl, hr, hw⟩
      subst w1
      have hr2 : r2 < 0 := by have := mt hr.1 c2; omega
      have dr2 : decide (r2 < 0) = true := by simp; omega
      clear hr
      go_wp2_with fail
      refine AT3.out.mono ?_
      rintro e w1 ⟨r3, rfl, hr, hw⟩
      subst w1
      have hr3 : r3 < 0 := by have := mt hr.1 c3; omega
      have dr3 : decide (r3 < 0) = true := by simp; omega
      clear hr
      go_wp2_with (at_builtin; refine wpList_append_rd _ rfl (.tmp 43) (.tmp 45) rfl w.heap.size _ L.length (toI L) rfl (hO.out.alloc _) _ 1 1 [(k : Int)] rfl (one_rd _ _) (by omega) (by have := hB.out.size; simp; omega) ?_)
      intro v' w' hO' hG'
      obtain ⟨a', c', hv'⟩ := form_slice hO'
      rw [hv'] at hO' ⊢
      have hb0 : Below w.heap.size w (wr.alloc (.cells #[.int .i64 (k : Int)] 3)) := hB.out.alloc hB.out.size _
      have HB' := hide (hb0.grown hG' hb0.size (fun j hj => (hO.out.lt j hj).1))
      have HO' := hide hO'
      clear hO' hG' hb0 hv'
      go_wp2_with fail
      go_roundw
      case rel =>
        refine ⟨k + 1, by go_num, by omega, ⟨a', c', by rw [HS.out]; simp⟩, ?_, HB'.out⟩
        rw [HS.out]
        have := HO'.out
        simp only [toI, List.map_append, List.map_cons, List.map_nil, List.length_append, List.length_cons, List.length_nil, Nat.zero_add] at this ⊢
        exact this
      case measure => simp [intOf]; omega
    · obtain rfl : k = 52 := by omega
      obtain ⟨W1, hW1⟩ : ∃ W, W = wr := ⟨_, rfl⟩
      subst hW1
      obtain ⟨R, hR⟩ : ∃ R, othK KN 52 = R := ⟨_, rfl⟩
      rw [hR] at hO ⊢
      have hRl : R.length ≤ 52 := by rw [← hR]; exact othK_len _ _
      have HRR := hide (Rd.of_own hO.out)
      rw [HRE.out] at hR
      have HREQ := hide hR
      have HB1 := hide hB.out
      clear hO hB hR hlt hk
      rw [show (((52 : Nat)) : Int) = (52 : Int) from rfl]
      go_wp2_with (at_builtin; refine wpList_append_fl _ rfl (.tmp 51) (.tmp 52) rfl W1.heap.size _ [] rfl (Fl.nil _ _) W1.heap.size [] none 0 rfl (by go_simp) (Rd.of_nil _) (fun _ _ h => by cases h) (by simp) (by simp) ?_)
      intro v' w' hFl fa fc hv' hG hbk
      rw [hv'] at hFl ⊢
      have HFL : Hid (Fl W1.heap.size w' (.slice fa 1 fc) [[]]) := hide hFl
      have HB2 := hide (((Below.refl _ W1).alloc (Nat.le_refl _) _).grown hG (by simp) (fun k hk => by simp [Value.ownBlock] at hk))
      obtain ⟨W2, hW2⟩ : ∃ W, W = w' := ⟨_, rfl⟩
      subst hW2
      clear hFl hG hbk hv'
      obtain ⟨FS, hFS⟩ : ∃ FS, FS = [([] : List Nat)] := ⟨_, rfl⟩
      have hl1 : 1 = FS.length := by rw [hFS]; rfl
      rw [← hFS] at HFL
      have HFE : Hid (fillsF 5 R = FS) := hide hFS.symm
      have HN := hide hl1.symm
      clear hFS hl1
      have HFS : Hid (∀ F ∈ FS, F.length = 0 ∧ Cards 7 (A ++ (D ++ F)) ∧ Cards 7 (E ++ (D ++ F))) := hide (by rw [← HFE.out, ← HREQ.out]; exact fills_ok5 hA hE hD hlt0 hnd0)
      have hnf : 1 ≤ 1326 := by rw [← HN.out, ← HFE.out]; exact fills_len5 R hRl
      obtain ⟨vs, hvs, hfv⟩ := HFL.out
      rw [HN.out] at hvs
      have HVS := hide hvs
      have HFV := hide hfv
      have hB02 := HB1.out.trans (HB2.out.mono HB1.out.size)
      have HA2 : Hid (∀ W, Below W2.heap.size W2 W → Rd W aA 2 cA (toI A)) := hide (fun W hW => (HA.out.mono hB02).mono hW)
      have HE2 : Hid (∀ W, Below W2.heap.size W2 W → Rd W aE 2 cE (toI E)) := hide (fun W hW => (HE.out.mono hB02).mono hW)
      have HD2 : Hid (∀ W, Below W2.heap.size W2 W → Rd W aD 5 cD (toI D)) := hide (fun W hW => (HD.out.mono hB02).mono hW)
      have HB02 := hide hB02
      clear hvs hfv hB02 HFL
      go_wp2
      go_loopw [15, 16, 17] (fun v15 v16 v17 wr => ∃ (j : Nat), v17 = .int .i64 j ∧ j ≤ 1 ∧ v15 = .int .i64 (winF A E D (FS.take j) : Nat) ∧ v16 = .int .i64 (tieF A E D (FS.take j) : Nat) ∧ Hid (Below W2.heap.size W2 wr)) (fun _ _ v _ => 1 - (intOf v).toNat)
      case atStart => exact ⟨0, rfl, by omega, rfl, rfl, Below.refl _ _⟩
      case round =>
        obtain ⟨j, rfl, hj, rfl, rfl, hB⟩ := hrel
        by_cases hjl : j < 1
        · have hjl' : (j : Int) < (1 : Int) := by omega
          have hjF : j < FS.length := by rw [HN.out]; exact hjl
          have hsW := winF_succ A E D FS j hjF
          have hsT := tieF_succ A E D FS j hjF
          have hlW := winF_le A E D FS j
          have hlT := tieF_le A E D FS j
          obtain ⟨fj, cj, e1, e2, e3⟩ := HFV.out j hjF
          have hFm : FS.getD j [] ∈ FS := by
            rw [show FS.getD j [] = FS[j] by simp [List.getD, hjF]]
            exact List.getElem_mem hjF
          obtain ⟨F, hF⟩ : ∃ F, FS.getD j [] = F := ⟨_, rfl⟩
          rw [hF] at e1 e2 hFm hsW hsT
          obtain ⟨hfl, CA, CE⟩ := HFS.out F hFm
          rw [hfl] at e1 e2
          obtain ⟨nw, hnw⟩ : ∃ n, winF A E D (FS.take j) = n := ⟨_, rfl⟩
          obtain ⟨nt, hnt⟩ : ∃ n, tieF A E D (FS.take j) = n := ⟨_, rfl⟩
          rw [hnw] at hsW hlW ⊢
          rw [hnt] at hsT hlT ⊢
          have BF1 := hide (best_at (A ++ (D ++ F)) CA)
          have BF2 := hide (best_at (E ++ (D ++ F)) CE)
          obtain ⟨xx, hxx⟩ : ∃ x, bvR (A ++ (D ++ F)) = x := ⟨_, rfl⟩
          obtain ⟨yy, hyy⟩ : ∃ x, bvR (E ++ (D ++ F)) = x := ⟨_, rfl⟩
          rw [hxx] at BF1 hsW hsT
          rw [hyy] at BF2 hsW hsT
          have HSW := hide hsW
          have HST := hide hsT
          obtain ⟨g, hfa, hcell⟩ := fl_cell HVS.out (by omega) j _ e1
          subst hfa
          have HFC : Hid (∀ W, Below W2.heap.size W2 W → W.cell? ⟨g, j, none⟩ = some (.slice fj 0 cj)) := hide (fun W hW => (hW.cell (p := ⟨g, j, none⟩) (World.block_lt_of_cell? W2 _ hcell)).trans hcell)
          have HE2R := hide e2
          clear e1 e2 e3 hFm hfl CA CE hnw hnt hxx hyy hsW hsT hF hcell hjF
          go_wp2_with fail
          refine wp_region_held (S := fun W => Below W2.heap.size W2 W) (by kernel_rfl) ?_
          change wpAnyH _ _ _ _ _ _ _ _ (World.drew _)
          have SW : Below W2.heap.size W2 wr.drew := hB.out.drew
          refine wpAnyH_take (i := 0) (v := .slice aD 5 cD) rfl (by kernel_rfl) (by kernel_rfl) (by kernel_rfl) (fun _ _ _ h => h) (Or.inl ⟨by rfl, ?_⟩) SW ?_
          · intro W hW
            clear hW
            go_simp
          go_simp
          refine wpAnyH_take (i := 2) (v := .slice (some ⟨g, 0, none⟩) 1 fc) rfl (by kernel_rfl) (by kernel_rfl) (by kernel_rfl) (fun _ _ _ h => h) (Or.inl ⟨by rfl, ?_⟩) SW ?_
          · intro W hW
            clear hW
            go_simp
          go_simp
          refine wpAnyH_take (i := 3) (v := .int .i64 j) rfl (by kernel_rfl) (by kernel_rfl) (by kernel_rfl) (fun _ _ _ h => h) (Or.inl ⟨by rfl, ?_⟩) SW ?_
          · intro W hW
            clear hW
            go_simp
          go_simp
          refine wpAnyH_take (i := 4) (v := .pointer (some ⟨g, j, none⟩)) rfl (by kernel_rfl) (by kernel_rfl) (by kernel_rfl) (fun _ _ _ h => h) (Or.inl ⟨by rfl, ?_⟩) SW ?_
          · intro W hW
            clear hW
            go_simp
          go_simp
          refine wpAnyH_take (i := 5) (v := .slice fj 0 cj) rfl (by kernel_rfl) (by kernel_rfl) (by kernel_rfl) (fun _ _ _ h => h) (Or.inl ⟨by rfl, ?_⟩) SW ?_
          · intro W hW
            have x0 := HFC.out W hW
            clear hW
            go_simp
          go_simp
          refine wpAnyH_ready (rs := [1]) (by kernel_rfl) (by simp) ?_
          refine AllReadyH.cons rfl (fun K1 hK1 => ?_) AllReadyH.nil
          go_simp
          refine (intsR_own aD 5 cD (toI D) _ (HD2.out _ SW) (by omega)).mono ?_
          rintro e w5 ⟨a5, c5, rfl, hO5, hB5⟩
          have SWn := SW.trans (hB5.mono SW.size)
          have OW5 := hide (own_base3 hO5 SW.size)
          refine hK1.out _ _ SWn (fun _ => ?_)
          clear hK1 K1 hO5 hB5 SW
          have SW := SWn
          clear SWn
          go_simp
          refine wpAnyH_ready (rs := [6]) (by kernel_rfl) (by simp) ?_
          refine AllReadyH.cons rfl (fun K1 hK1 => ?_) AllReadyH.nil
          rw [if_pos (by rfl)]
          refine wp_append_rd _ (.tmp 102) (.tmp 106) rfl W2.heap.size _ 5 (toI D) rfl OW5.out fj 0 cj (toI F) rfl (HE2R.out.mono SW) (by omega) SW.size ?_
          intro vn w6 hOn hGn
          obtain ⟨h6, k6, hvn⟩ := form_slice hOn
          rw [hvn] at hOn ⊢
          have SWn : Below W2.heap.size W2 w6 := SW.grown hGn SW.size (fun q hq => (OW5.out.lt q hq).1)
          have R6 : Rd w6 h6 5 k6 (toI (D ++ F)) := by rw [toI_ap]; exact Rd.of_own hOn
          have HR6 := hide R6
          refine hK1.out _ _ SWn (fun _ => ?_)
          clear hK1 K1 hOn hGn hvn SW OW5 R6
          have SW := SWn
          clear SWn
          go_simp
          refine wpAnyH_take (i := 7) (v := .slice h6 5 k6) rfl (by kernel_rfl) (by kernel_rfl) (by kernel_rfl) (fun _ _ _ h => h) (Or.inl ⟨by rfl, ?_⟩) SW ?_
          · intro W hW
            clear hW
            go_simp
          go_simp
          refine wpAnyH_done (by kernel_rfl) ?_ _
          have HB6 := hide SW
          clear SW hB
          go_wp2_with fail
          refine (intsR_own aA 2 cA (toI A) w6 (HA2.out _ HB6.out) (by omega)).mono ?_
          rintro e w7 ⟨a7, c7, rfl, hO7, hB7⟩
          have HO7 := hide hO7
          have HB7 := hide hB7
          clear hO7 hB7
          go_wp2_with (at_builtin; refine wpList_append_rd _ rfl (.tmp 110) (.tmp 111) rfl w6.heap.size _ 2 (toI A) rfl HO7.out h6 5 k6 (toI (D ++ F)) rfl (HR6.out.mono HB7.out) (by omega) HB7.out.size ?_)
          intro v8 w8 hO8 hG8
          obtain ⟨h8, k8, hv8⟩ := form_slice hO8
          rw [hv8] at hO8 ⊢
          have hB8 : Below w6.heap.size w6 w8 := HB7.out.grown hG8 HB7.out.size (fun q hq => (HO7.out.lt q hq).1)
          have R8 : Rd w8 h8 7 k8 (toI (A ++ (D ++ F))) := by rw [toI_ap]; exact Rd.of_own (by rw [List.map_append]; exact hO8)
          have HR8 := hide R8
          have HB8 := hide hB8
          clear hO8 hG8 hv8 R8 hB8 HO7 HB7
          go_wp2_with fail
          refine (BF1.out h8 k8 w8 HR8.out).mono ?_
          rintro e w9 ⟨b9, m9, c9, rfl, hB9⟩
          have HB9 := hide (HB8.out.trans (hB9.mono HB8.out.size))
          clear hB9 HB8 HR8
          have HB69 := hide (HB6.out.trans (HB9.out.mono HB6.out.size))
          have HR69 := hide (HR6.out.mono HB9.out)
          clear HB9 HB6 HR6
          go_wp2_with fail
          refine (intsR_own aE 2 cE (toI E) w9 (HE2.out _ HB69.out) (by omega)).mono ?_
          rintro e v7 ⟨a7, c7, rfl, hO7, hB7⟩
          have HO7 := hide hO7
          have HB7 := hide hB7
          clear hO7 hB7
          go_wp2_with (at_builtin; refine wpList_append_rd _ rfl (.tmp 118) (.tmp 119) rfl w9.heap.size _ 2 (toI E) rfl HO7.out h6 5 k6 (toI (D ++ F)) rfl (HR69.out.mono HB7.out) (by omega) HB7.out.size ?_)
          intro v8 w10 hO8 hG8
          obtain ⟨h8, k8, hv8⟩ := form_slice hO8
          rw [hv8] at hO8 ⊢
          have hB8 : Below w9.heap.size w9 w10 := HB7.out.grown hG8 HB7.out.size (fun q hq => (HO7.out.lt q hq).1)
          have R8 : Rd w10 h8 7 k8 (toI (E ++ (D ++ F))) := by rw [toI_ap]; exact Rd.of_own (by rw [List.map_append]; exact hO8)
          have HR8 := hide R8
          have HB8 := hide hB8
          clear hO8 hG8 hv8 R8 hB8 HO7 HB7
          go_wp2_with fail
          refine (BF2.out h8 k8 w10 HR8.out).mono ?_
          rintro e w11 ⟨b9, m9, c9, rfl, hB9⟩
          have HB9 := hide (HB8.out.trans (hB9.mono HB8.out.size))
          clear hB9 HB8 HR8
          have HBZ := hide (HB69.out.trans (HB9.out.mono HB69.out.size))
          clear HB9 HB69 HR69 BF1 BF2
          by_cases hgt : yy < xx
          · have h1 : Hid (winF A E D (FS.take (j + 1)) = nw + 1) := hide (by rw [HSW.out, if_pos hgt])
            have h2 : Hid (tieF A E D (FS.take (j + 1)) = nt) := hide (by rw [HST.out, if_neg (by omega)]; rfl)
            have bne : (xx == yy) = false := by simp; omega
            clear HSW HST
            go_wp2
            go_roundw
            case rel => exact ⟨j + 1, by go_num, by omega, by rw [h1.out]; go_num, by rw [h2.out], HBZ.out⟩
            case measure => simp [intOf]; omega
          · have h1 : Hid (winF A E D (FS.take (j + 1)) = nw) := hide (by rw [HSW.out, if_neg hgt]; rfl)
            by_cases heq : xx = yy
            · have h2 : Hid (tieF A E D (FS.take (j + 1)) = nt + 1) := hide (by rw [HST.out, if_pos heq])
              subst heq
              clear HSW HST
              go_wp2
              go_roundw
              case rel => exact ⟨j + 1, by go_num, by omega, by rw [h1.out], by rw [h2.out]; go_num, HBZ.out⟩
              case measure => simp [intOf]; omega
            · have h2 : Hid (tieF A E D (FS.take (j + 1)) = nt) := hide (by rw [HST.out, if_neg heq]; rfl)
              have bne : (xx == yy) = false := by simpa using heq
              clear HSW HST
              go_wp2
              go_roundw
              case rel => exact ⟨j + 1, by go_num, by omega, by rw [h1.out], by rw [h2.out], HBZ.out⟩
              case measure => simp [intOf]; omega
        · obtain rfl : 1 = j := by omega
          go_wp2
          refine bodyPost_ret (results3 rfl _ _) rfl ?_
          refine ⟨?_, ?_⟩
          · have ht : FS.take 1 = FS := by rw [← HN.out]; exact List.take_length
            rw [ht, HRE.out, HREQ.out, HFE.out, HN.out]; rfl
          · exact HB02.out.trans (hB.out.mono HB02.out.size)

set_option maxRecDepth 100000 in
set_option maxHeartbeats 8000000 in
theorem SdOf4 (aA aE aD : Option Addr) (cA cE cD : Nat) (A E D : List Nat) (hA : A.length = 2) (hE : E.length = 2) (hD : D.length = 4) (hlt0 : ∀ x ∈ A ++ E ++ D, x < 52) (hnd0 : (A ++ E ++ D).Nodup)
    (w : World) (RA : Rd w aA 2 cA (toI A)) (RE : Rd w aE 2 cE (toI E)) (RD : Rd w aD 4 cD (toI D)) :
    Calls Try.prog 18 #[.slice aA 2 cA, .slice aE 2 cE, .slice aD 4 cD] w fun e w' => e = .returned (.tuple #[.int .i64 (winF A E D (fillsF 4 (othK (toI (A ++ E ++ D)) 52)) : Nat), .int .i64 (tieF A E D (fillsF 4 (othK (toI (A ++ E ++ D)) 52)) : Nat), .int .i64 ((fillsF 4 (othK (toI (A ++ E ++ D)) 52)).length : Nat)]) ∧ Below w.heap.size w w' := by
  have HA := hide RA
  have HE := hide RE
  have HD := hide RD
  clear RA RE RD
  have HKN : Hid (∀ c : Int, c ∈ toI (A ++ E ++ D) ↔ c ∈ toI A ∨ c ∈ toI E ∨ c ∈ toI D) := hide (fun c => by simp only [toI, List.map_append, List.mem_append, or_assoc])
  obtain ⟨KN, hKN⟩ : ∃ K, toI (A ++ E ++ D) = K := ⟨_, rfl⟩
  have HRE : Hid (othK KN 52 = othK (toI (A ++ E ++ D)) 52) := hide (by rw [hKN])
  rw [hKN] at HKN ⊢
  have HKE := hide hKN
  clear hKN
  go_enter Try.func18, Try.ntmps18
  go_wp2
  go_loopw [9, 10] (fun s v wr => ∃ (k : Nat), v = .int .i64 k ∧ k ≤ 52 ∧ (∃ ad cc, s = .slice ad (othK KN k).length cc) ∧ Hid (wr.ownsRow w.heap.size 3 1 s (othK KN k).length ((toI (othK KN k)).map (Value.int .i64))) ∧ Hid (Below w.heap.size w wr)) (fun _ v _ => 52 - (intOf v).toNat)
  case atStart => exact ⟨0, rfl, by omega, ⟨_, _, rfl⟩, World.ownsRow_nil _ _ _ _, Below.refl _ _⟩
  case round =>
    obtain ⟨k, rfl, hk, ⟨ad, cc, rfl⟩, hO, hB⟩ := hrel
    by_cases hlt : k < 52
    · have hlt' : (k : Int) < 52 := by omega
      have hs := othK_succ KN k
      have hl := othK_len KN k
      have AT1 := hide (at_any aA 2 cA (toI A) (k : Int) wr (HA.out.mono hB.out))
      have AT2 := hide (at_any aE 2 cE (toI E) (k : Int) wr (HE.out.mono hB.out))
      have AT3 := hide (at_any aD 4 cD (toI D) (k : Int) wr (HD.out.mono hB.out))
      obtain ⟨L, hL⟩ : ∃ L, othK KN k = L := ⟨_, rfl⟩
      rw [hL] at hs hl hO ⊢
      by_cases c1 : (k : Int) ∈ toI A
      · have hc : KN.contains (k : Int) = true := by rw [List.contains_iff_mem]; exact (HKN.out _).2 (.inl c1)
        rw [hc, if_pos rfl, List.append_nil] at hs
        have HS := hide hs
        clear hs hc hL
        go_wp2_with fail
        refine AT1.out.mono ?_
        rintro e w1 ⟨r1, rfl, hr, hw⟩
        subst w1
        have hr1 : ¬ r1 < 0 := by have := hr.2 c1; omega
        have dr1 : decide (r1 < 0) = false := by simp; omega
        clear hr
        go_wp2
        go_roundw
        case rel => exact ⟨k + 1, by go_num, by omega, ⟨ad, cc, by rw [HS.out]⟩, by rw [HS.out]; exact hO.out, hB.out⟩
        case measure => simp [intOf]; omega
      by_cases c2 : (k : Int) ∈ toI E
      · have hc : KN.contains (k : Int) = true := by rw [List.contains_iff_mem]; exact (HKN.out _).2 (.inr (.inl c2))
        rw [hc, if_pos rfl, List.append_nil] at hs
        have HS := hide hs
        clear hs hc hL
        go_wp2_with fail
        refine AT1.out.mono ?_
        rintro e w1 ⟨r1, rfl, hr, hw⟩
        subst w1
        have hr1 : r1 < 0 := by have := mt hr.1 c1; omega
        have dr1 : decide (r1 < 0) = true := by simp; omega
        clear hr
        go_wp2_with fail
        refine AT2.out.mono ?_
        rintro e w1 ⟨r2, rfl, hr, hw⟩
        subst w1
        have hr2 : ¬ r2 < 0 := by have := hr.2 c2; omega
        have dr2 : decide (r2 < 0) = false := by simp; omega
        clear hr
        go_wp2
        go_roundw
        case rel => exact ⟨k + 1, by go_num, by omega, ⟨ad, cc, by rw [HS.out]⟩, by rw [HS.out]; exact hO.out, hB.out⟩
        case measure => simp [intOf]; omega
      by_cases c3 : (k : Int) ∈ toI D
      · have hc : KN.contains (k : Int) = true := by rw [List.contains_iff_mem]; exact (HKN.out _).2 (.inr (.inr c3))
        rw [hc, if_pos rfl, List.append_nil] at hs
        have HS := hide hs
        clear hs hc hL
        go_wp2_with fail
        refine AT1.out.mono ?_
        rintro e w1 ⟨r1, rfl, hr, hw⟩
        subst w1
        have hr1 : r1 < 0 := by have := mt hr.1 c1; omega
        have dr1 : decide (r1 < 0) = true := by simp; omega
        clear hr
        go_wp2_with fail
        refine AT2.out.mono ?_
        rintro e w1 ⟨r2, rfl, hr, hw⟩
        subst w1
        have hr2 : r2 < 0 := by have := mt hr.1 c2; omega
        have dr2 : decide (r2 < 0) = true := by simp; omega
        clear hr
        go_wp2_with fail
        refine AT3.out.mono ?_
        rintro e w1 ⟨r3, rfl, hr, hw⟩
        subst w1
        have hr3 : ¬ r3 < 0 := by have := hr.2 c3; omega
        have dr3 : decide (r3 < 0) = false := by simp; omega
        clear hr
        go_wp2
        go_roundw
        case rel => exact ⟨k + 1, by go_num, by omega, ⟨ad, cc, by rw [HS.out]⟩, by rw [HS.out]; exact hO.out, hB.out⟩
        case measure => simp [intOf]; omega
      have hc : KN.contains (k : Int) = false := by
        rw [Bool.eq_false_iff, Ne, List.contains_iff_mem]
        exact fun hm => ((HKN.out _).1 hm).elim c1 (fun h => h.elim c2 c3)
      rw [hc, if_neg (by simp)] at hs
      have HS := hide hs
      clear hs hc hL
      go_wp2_with fail
      refine AT1.out.mono ?_
      rintro e w1 ⟨r1, rfl, hr, hw⟩
      subst w1
      have hr1 : r1 < 0 := by have := mt hr.1 c1; omega
      have dr1 : decide (r1 < 0) = true := by simp; omega
      clear hr
      go_wp2_with fail
      refine AT2.out.mono ?_
      rintro e w1 ⟨r2, rfl, hr, hw⟩
      subst w1
      have hr2 : r2 < 0 := by have := mt hr.1 c2; omega
      have dr2 : decide (r2 < 0) = true := by simp; omega
      clear hr
      go_wp2_with fail
      refine AT3.out.mono ?_
      rintro e w1 ⟨r3, rfl, hr, hw⟩
      subst w1
      have hr3 : r3 < 0 := by have := mt hr.1 c3; omega
      have dr3 : decide (r3 < 0) = true := by simp; omega
      clear hr
      go_wp2_with (at_builtin; refine wpList_append_rd _ rfl (.tmp 43) (.tmp 45) rfl w.heap.size _ L.length (toI L) rfl (hO.out.alloc _) _ 1 1 [(k : Int)] rfl (one_rd _ _) (by omega) (by have := hB.out.size; simp; omega) ?_)
      intro v' w' hO' hG'
      obtain ⟨a', c', hv'⟩ := form_slice hO'
      rw [hv'] at hO' ⊢
      have hb0 : Below w.heap.size w (wr.alloc (.cells #[.int .i64 (k : Int)] 3)) := hB.out.alloc hB.out.size _
      have HB' := hide (hb0.grown hG' hb0.size (fun j hj => (hO.out.lt j hj).1))
      have HO' := hide hO'
      clear hO' hG' hb0 hv'
      go_wp2_with fail
      go_roundw
      case rel =>
        refine ⟨k + 1, by go_num, by omega, ⟨a', c', by rw [HS.out]; simp⟩, ?_, HB'.out⟩
        rw [HS.out]
        have := HO'.out
        simp only [toI, List.map_append, List.map_cons, List.map_nil, List.length_append, List.length_cons, List.length_nil, Nat.zero_add] at this ⊢
        exact this
      case measure => simp [intOf]; omega
    · obtain rfl : k = 52 := by omega
      obtain ⟨W1, hW1⟩ : ∃ W, W = wr := ⟨_, rfl⟩
      subst hW1
      obtain ⟨R, hR⟩ : ∃ R, othK KN 52 = R := ⟨_, rfl⟩
      rw [hR] at hO ⊢
      have hRl : R.length ≤ 52 := by rw [← hR]; exact othK_len _ _
      have HRR := hide (Rd.of_own hO.out)
      rw [HRE.out] at hR
      have HREQ := hide hR
      have HB1 := hide hB.out
      clear hO hB hR hlt hk
      rw [show (((52 : Nat)) : Int) = (52 : Int) from rfl]
      go_wp2
      go_loopw [11, 12] (fun v11 v12 wr => ∃ (k : Nat), v12 = .int .i64 k ∧ k ≤ R.length ∧ (∃ a c, v11 = .slice a k c) ∧ Hid (Fl W1.heap.size wr v11 ((R.take k).map (fun x => [x]))) ∧ Hid (Below W1.heap.size W1 wr)) (fun _ v _ => R.length - (intOf v).toNat)
      case atStart => exact ⟨0, rfl, by omega, ⟨_, _, rfl⟩, Fl.nil _ _, Below.refl _ _⟩
      case round =>
        obtain ⟨k, rfl, hk, ⟨fa, fc, rfl⟩, hF, hB⟩ := hrel
        by_cases hkl : k < R.length
        · have hkl' : (k : Int) < (R.length : Int) := by omega
          have hRW := HRR.out.mono hB.out
          obtain ⟨rb, ro, hrb, hcb⟩ := hRW.cells (by omega)
          subst hrb
          have hc := hcb k hkl
          rw [toI_getD] at hc
          have hst : (R.take (k + 1)).map (fun x => [x]) = (R.take k).map (fun x => [x]) ++ [[R.getD k 0]] := by
            rw [List.take_add_one, List.map_append]
            simp only [List.getElem?_eq_getElem hkl, List.getD, Option.getD_some, Option.toList_some, List.map_cons, List.map_nil]
          obtain ⟨x, hx⟩ : ∃ x, R.getD k 0 = x := ⟨_, rfl⟩
          rw [hx] at hc hst
          have hlk : ((R.take k).map (fun x => [x])).length = k := by simp; omega
          obtain ⟨FK, hFK⟩ : ∃ FK, (R.take k).map (fun x => [x]) = FK := ⟨_, rfl⟩
          rw [hFK] at hst hlk hF
          have HST := hide hst
          have HLK := hide hlk
          have hBA : Below wr.heap.size wr ((wr.alloc (Obj.cells #[.int .i64 (x : Int)] 3)).alloc (Obj.cells #[.slice (some ⟨wr.heap.size, 0, none⟩) 1 1] 22)) := ((Below.refl _ wr).alloc (Nat.le_refl _) _).alloc (by simp) _
          have HFB := hide (hF.out.below hBA)
          have HBA := hide (hB.out.trans (hBA.mono hB.out.size))
          clear hst hlk hFK hcb hRW hx hF hBA
          go_wp2_with (at_builtin; refine wpList_append_fl _ rfl (.tmp 62) (.tmp 68) rfl W1.heap.size _ FK rfl HFB.out (wr.heap.size + 1) [x] (some ⟨wr.heap.size, 0, none⟩) 1 rfl (lit1 wr x).1 (lit1 wr x).2.1 (lit1 wr x).2.2 (by rw [HLK.out]; omega) HBA.out.size ?_)
          intro v' w' hFl fa' fc' hv' hG hbk
          rw [hv'] at hFl ⊢
          have HFL' := hide hFl
          have HB' := hide (HBA.out.grown hG HBA.out.size hbk)
          clear hFl hG hbk hv'
          go_wp2_with fail
          go_roundw
          case rel =>
            exact ⟨k + 1, by go_num, by omega, ⟨fa', fc', by rw [HLK.out]⟩, by rw [HST.out]; exact HFL'.out, HB'.out⟩
          case measure => simp [intOf]; omega
        · obtain rfl : k = R.length := by omega
          obtain ⟨W2, hW2⟩ : ∃ W, W = wr := ⟨_, rfl⟩
          subst hW2
          rw [List.take_length] at hF
          have HB2 := hide hB.out
          obtain ⟨FS, hFS⟩ : ∃ FS, R.map (fun x => [x]) = FS := ⟨_, rfl⟩
          rw [hFS] at hF
          have HFL := hide hF.out
          have HN : Hid (FS.length = R.length) := hide (by rw [← hFS]; simp)
          have HFE : Hid (fillsF 4 R = FS) := hide (by rw [← hFS]; rfl)
          clear hF hFS hB hkl hk
          have HFS : Hid (∀ F ∈ FS, F.length = 1 ∧ Cards 7 (A ++ (D ++ F)) ∧ Cards 7 (E ++ (D ++ F))) := hide (by rw [← HFE.out, ← HREQ.out]; exact fills_ok4 hA hE hD hlt0 hnd0)
          have hnf : R.length ≤ 1326 := by rw [← HN.out, ← HFE.out]; exact fills_len4 R hRl
          obtain ⟨vs, hvs, hfv⟩ := HFL.out
          rw [HN.out] at hvs
          have HVS := hide hvs
          have HFV := hide hfv
          have hB02 := HB1.out.trans (HB2.out.mono HB1.out.size)
          have HA2 : Hid (∀ W, Below W2.heap.size W2 W → Rd W aA 2 cA (toI A)) := hide (fun W hW => (HA.out.mono hB02).mono hW)
          have HE2 : Hid (∀ W, Below W2.heap.size W2 W → Rd W aE 2 cE (toI E)) := hide (fun W hW => (HE.out.mono hB02).mono hW)
          have HD2 : Hid (∀ W, Below W2.heap.size W2 W → Rd W aD 4 cD (toI D)) := hide (fun W hW => (HD.out.mono hB02).mono hW)
          have HB02 := hide hB02
          clear hvs hfv hB02 HFL
          go_wp2
          go_loopw [15, 16, 17] (fun v15 v16 v17 wr => ∃ (j : Nat), v17 = .int .i64 j ∧ j ≤ R.length ∧ v15 = .int .i64 (winF A E D (FS.take j) : Nat) ∧ v16 = .int .i64 (tieF A E D (FS.take j) : Nat) ∧ Hid (Below W2.heap.size W2 wr)) (fun _ _ v _ => R.length - (intOf v).toNat)
          case atStart => exact ⟨0, rfl, by omega, rfl, rfl, Below.refl _ _⟩
          case round =>
            obtain ⟨j, rfl, hj, rfl, rfl, hB⟩ := hrel
            by_cases hjl : j < R.length
            · have hjl' : (j : Int) < (R.length : Int) := by omega
              have hjF : j < FS.length := by rw [HN.out]; exact hjl
              have hsW := winF_succ A E D FS j hjF
              have hsT := tieF_succ A E D FS j hjF
              have hlW := winF_le A E D FS j
              have hlT := tieF_le A E D FS j
              obtain ⟨fj, cj, e1, e2, e3⟩ := HFV.out j hjF
              have hFm : FS.getD j [] ∈ FS := by
                rw [show FS.getD j [] = FS[j] by simp [List.getD, hjF]]
                exact List.getElem_mem hjF
              obtain ⟨F, hF⟩ : ∃ F, FS.getD j [] = F := ⟨_, rfl⟩
              rw [hF] at e1 e2 hFm hsW hsT
              obtain ⟨hfl, CA, CE⟩ := HFS.out F hFm
              rw [hfl] at e1 e2
              obtain ⟨nw, hnw⟩ : ∃ n, winF A E D (FS.take j) = n := ⟨_, rfl⟩
              obtain ⟨nt, hnt⟩ : ∃ n, tieF A E D (FS.take j) = n := ⟨_, rfl⟩
              rw [hnw] at hsW hlW ⊢
              rw [hnt] at hsT hlT ⊢
              have BF1 := hide (best_at (A ++ (D ++ F)) CA)
              have BF2 := hide (best_at (E ++ (D ++ F)) CE)
              obtain ⟨xx, hxx⟩ : ∃ x, bvR (A ++ (D ++ F)) = x := ⟨_, rfl⟩
              obtain ⟨yy, hyy⟩ : ∃ x, bvR (E ++ (D ++ F)) = x := ⟨_, rfl⟩
              rw [hxx] at BF1 hsW hsT
              rw [hyy] at BF2 hsW hsT
              have HSW := hide hsW
              have HST := hide hsT
              obtain ⟨g, hfa, hcell⟩ := fl_cell HVS.out (by omega) j _ e1
              subst hfa
              have HFC : Hid (∀ W, Below W2.heap.size W2 W → W.cell? ⟨g, j, none⟩ = some (.slice fj 1 cj)) := hide (fun W hW => (hW.cell (p := ⟨g, j, none⟩) (World.block_lt_of_cell? W2 _ hcell)).trans hcell)
              have HE2R := hide e2
              clear e1 e2 e3 hFm hfl CA CE hnw hnt hxx hyy hsW hsT hF hcell hjF
              go_wp2_with fail
              refine wp_region_held (S := fun W => Below W2.heap.size W2 W) (by kernel_rfl) ?_
              change wpAnyH _ _ _ _ _ _ _ _ (World.drew _)
              have SW : Below W2.heap.size W2 wr.drew := hB.out.drew
              refine wpAnyH_take (i := 0) (v := .slice aD 4 cD) rfl (by kernel_rfl) (by kernel_rfl) (by kernel_rfl) (fun _ _ _ h => h) (Or.inl ⟨by rfl, ?_⟩) SW ?_
              · intro W hW
                clear hW
                go_simp
              go_simp
              refine wpAnyH_take (i := 2) (v := .slice (some ⟨g, 0, none⟩) R.length fc) rfl (by kernel_rfl) (by kernel_rfl) (by kernel_rfl) (fun _ _ _ h => h) (Or.inl ⟨by rfl, ?_⟩) SW ?_
              · intro W hW
                clear hW
                go_simp
              go_simp
              refine wpAnyH_take (i := 3) (v := .int .i64 j) rfl (by kernel_rfl) (by kernel_rfl) (by kernel_rfl) (fun _ _ _ h => h) (Or.inl ⟨by rfl, ?_⟩) SW ?_
              · intro W hW
                clear hW
                go_simp
              go_simp
              refine wpAnyH_take (i := 4) (v := .pointer (some ⟨g, j, none⟩)) rfl (by kernel_rfl) (by kernel_rfl) (by kernel_rfl) (fun _ _ _ h => h) (Or.inl ⟨by rfl, ?_⟩) SW ?_
              · intro W hW
                clear hW
                go_simp
              go_simp
              refine wpAnyH_take (i := 5) (v := .slice fj 1 cj) rfl (by kernel_rfl) (by kernel_rfl) (by kernel_rfl) (fun _ _ _ h => h) (Or.inl ⟨by rfl, ?_⟩) SW ?_
              · intro W hW
                have x0 := HFC.out W hW
                clear hW
                go_simp
              go_simp
              refine wpAnyH_ready (rs := [1]) (by kernel_rfl) (by simp) ?_
              refine AllReadyH.cons rfl (fun K1 hK1 => ?_) AllReadyH.nil
              go_simp
              refine (intsR_own aD 4 cD (toI D) _ (HD2.out _ SW) (by omega)).mono ?_
              rintro e w5 ⟨a5, c5, rfl, hO5, hB5⟩
              have SWn := SW.trans (hB5.mono SW.size)
              have OW5 := hide (own_base3 hO5 SW.size)
              refine hK1.out _ _ SWn (fun _ => ?_)
              clear hK1 K1 hO5 hB5 SW
              have SW := SWn
              clear SWn
              go_simp
              refine wpAnyH_ready (rs := [6]) (by kernel_rfl) (by simp) ?_
              refine AllReadyH.cons rfl (fun K1 hK1 => ?_) AllReadyH.nil
              rw [if_pos (by rfl)]
              refine wp_append_rd _ (.tmp 102) (.tmp 106) rfl W2.heap.size _ 4 (toI D) rfl OW5.out fj 1 cj (toI F) rfl (HE2R.out.mono SW) (by omega) SW.size ?_
              intro vn w6 hOn hGn
              obtain ⟨h6, k6, hvn⟩ := form_slice hOn
              rw [hvn] at hOn ⊢
              have SWn : Below W2.heap.size W2 w6 := SW.grown hGn SW.size (fun q hq => (OW5.out.lt q hq).1)
              have R6 : Rd w6 h6 5 k6 (toI (D ++ F)) := by rw [toI_ap]; exact Rd.of_own hOn
              have HR6 := hide R6
              refine hK1.out _ _ SWn (fun _ => ?_)
              clear hK1 K1 hOn hGn hvn SW OW5 R6
              have SW := SWn
              clear SWn
              go_simp
              refine wpAnyH_take (i := 7) (v := .slice h6 5 k6) rfl (by kernel_rfl) (by kernel_rfl) (by kernel_rfl) (fun _ _ _ h => h) (Or.inl ⟨by rfl, ?_⟩) SW ?_
              · intro W hW
                clear hW
                go_simp
              go_simp
              refine wpAnyH_done (by kernel_rfl) ?_ _
              have HB6 := hide SW
              clear SW hB
              go_wp2_with fail
              refine (intsR_own aA 2 cA (toI A) w6 (HA2.out _ HB6.out) (by omega)).mono ?_
              rintro e w7 ⟨a7, c7, rfl, hO7, hB7⟩
              have HO7 := hide hO7
              have HB7 := hide hB7
              clear hO7 hB7
              go_wp2_with (at_builtin; refine wpList_append_rd _ rfl (.tmp 110) (.tmp 111) rfl w6.heap.size _ 2 (toI A) rfl HO7.out h6 5 k6 (toI (D ++ F)) rfl (HR6.out.mono HB7.out) (by omega) HB7.out.size ?_)
              intro v8 w8 hO8 hG8
              obtain ⟨h8, k8, hv8⟩ := form_slice hO8
              rw [hv8] at hO8 ⊢
              have hB8 : Below w6.heap.size w6 w8 := HB7.out.grown hG8 HB7.out.size (fun q hq => (HO7.out.lt q hq).1)
              have R8 : Rd w8 h8 7 k8 (toI (A ++ (D ++ F))) := by rw [toI_ap]; exact Rd.of_own (by rw [List.map_append]; exact hO8)
              have HR8 := hide R8
              have HB8 := hide hB8
              clear hO8 hG8 hv8 R8 hB8 HO7 HB7
              go_wp2_with fail
              refine (BF1.out h8 k8 w8 HR8.out).mono ?_
              rintro e w9 ⟨b9, m9, c9, rfl, hB9⟩
              have HB9 := hide (HB8.out.trans (hB9.mono HB8.out.size))
              clear hB9 HB8 HR8
              have HB69 := hide (HB6.out.trans (HB9.out.mono HB6.out.size))
              have HR69 := hide (HR6.out.mono HB9.out)
              clear HB9 HB6 HR6
              go_wp2_with fail
              refine (intsR_own aE 2 cE (toI E) w9 (HE2.out _ HB69.out) (by omega)).mono ?_
              rintro e v7 ⟨a7, c7, rfl, hO7, hB7⟩
              have HO7 := hide hO7
              have HB7 := hide hB7
              clear hO7 hB7
              go_wp2_with (at_builtin; refine wpList_append_rd _ rfl (.tmp 118) (.tmp 119) rfl w9.heap.size _ 2 (toI E) rfl HO7.out h6 5 k6 (toI (D ++ F)) rfl (HR69.out.mono HB7.out) (by omega) HB7.out.size ?_)
              intro v8 w10 hO8 hG8
              obtain ⟨h8, k8, hv8⟩ := form_slice hO8
              rw [hv8] at hO8 ⊢
              have hB8 : Below w9.heap.size w9 w10 := HB7.out.grown hG8 HB7.out.size (fun q hq => (HO7.out.lt q hq).1)
              have R8 : Rd w10 h8 7 k8 (toI (E ++ (D ++ F))) := by rw [toI_ap]; exact Rd.of_own (by rw [List.map_append]; exact hO8)
              have HR8 := hide R8
              have HB8 := hide hB8
              clear hO8 hG8 hv8 R8 hB8 HO7 HB7
              go_wp2_with fail
              refine (BF2.out h8 k8 w10 HR8.out).mono ?_
              rintro e w11 ⟨b9, m9, c9, rfl, hB9⟩
              have HB9 := hide (HB8.out.trans (hB9.mono HB8.out.size))
              clear hB9 HB8 HR8
              have HBZ := hide (HB69.out.trans (HB9.out.mono HB69.out.size))
              clear HB9 HB69 HR69 BF1 BF2
              by_cases hgt : yy < xx
              · have h1 : Hid (winF A E D (FS.take (j + 1)) = nw + 1) := hide (by rw [HSW.out, if_pos hgt])
                have h2 : Hid (tieF A E D (FS.take (j + 1)) = nt) := hide (by rw [HST.out, if_neg (by omega)]; rfl)
                have bne : (xx == yy) = false := by simp; omega
                clear HSW HST
                go_wp2
                go_roundw
                case rel => exact ⟨j + 1, by go_num, by omega, by rw [h1.out]; go_num, by rw [h2.out], HBZ.out⟩
                case measure => simp [intOf]; omega
              · have h1 : Hid (winF A E D (FS.take (j + 1)) = nw) := hide (by rw [HSW.out, if_neg hgt]; rfl)
                by_cases heq : xx = yy
                · have h2 : Hid (tieF A E D (FS.take (j + 1)) = nt + 1) := hide (by rw [HST.out, if_pos heq])
                  subst heq
                  clear HSW HST
                  go_wp2
                  go_roundw
                  case rel => exact ⟨j + 1, by go_num, by omega, by rw [h1.out], by rw [h2.out]; go_num, HBZ.out⟩
                  case measure => simp [intOf]; omega
                · have h2 : Hid (tieF A E D (FS.take (j + 1)) = nt) := hide (by rw [HST.out, if_neg heq]; rfl)
                  have bne : (xx == yy) = false := by simpa using heq
                  clear HSW HST
                  go_wp2
                  go_roundw
                  case rel => exact ⟨j + 1, by go_num, by omega, by rw [h1.out], by rw [h2.out], HBZ.out⟩
                  case measure => simp [intOf]; omega
            · obtain rfl : R.length = j := by omega
              go_wp2
              refine bodyPost_ret (results3 rfl _ _) rfl ?_
              refine ⟨?_, ?_⟩
              · have ht : FS.take R.length = FS := by rw [← HN.out]; exact List.take_length
                rw [ht, HRE.out, HREQ.out, HFE.out, HN.out]; rfl
              · exact HB02.out.trans (hB.out.mono HB02.out.size)

set_option maxRecDepth 100000 in
set_option maxHeartbeats 8000000 in
theorem SdOf3 (aA aE aD : Option Addr) (cA cE cD : Nat) (A E D : List Nat) (hA : A.length = 2) (hE : E.length = 2) (hD : D.length = 3) (hlt0 : ∀ x ∈ A ++ E ++ D, x < 52) (hnd0 : (A ++ E ++ D).Nodup)
    (w : World) (RA : Rd w aA 2 cA (toI A)) (RE : Rd w aE 2 cE (toI E)) (RD : Rd w aD 3 cD (toI D)) :
    Calls Try.prog 18 #[.slice aA 2 cA, .slice aE 2 cE, .slice aD 3 cD] w fun e w' => e = .returned (.tuple #[.int .i64 (winF A E D (fillsF 3 (othK (toI (A ++ E ++ D)) 52)) : Nat), .int .i64 (tieF A E D (fillsF 3 (othK (toI (A ++ E ++ D)) 52)) : Nat), .int .i64 ((fillsF 3 (othK (toI (A ++ E ++ D)) 52)).length : Nat)]) ∧ Below w.heap.size w w' := by
  have HA := hide RA
  have HE := hide RE
  have HD := hide RD
  clear RA RE RD
  have HKN : Hid (∀ c : Int, c ∈ toI (A ++ E ++ D) ↔ c ∈ toI A ∨ c ∈ toI E ∨ c ∈ toI D) := hide (fun c => by simp only [toI, List.map_append, List.mem_append, or_assoc])
  obtain ⟨KN, hKN⟩ : ∃ K, toI (A ++ E ++ D) = K := ⟨_, rfl⟩
  have HRE : Hid (othK KN 52 = othK (toI (A ++ E ++ D)) 52) := hide (by rw [hKN])
  rw [hKN] at HKN ⊢
  have HKE := hide hKN
  clear hKN
  go_enter Try.func18, Try.ntmps18
  go_wp2
  go_loopw [9, 10] (fun s v wr => ∃ (k : Nat), v = .int .i64 k ∧ k ≤ 52 ∧ (∃ ad cc, s = .slice ad (othK KN k).length cc) ∧ Hid (wr.ownsRow w.heap.size 3 1 s (othK KN k).length ((toI (othK KN k)).map (Value.int .i64))) ∧ Hid (Below w.heap.size w wr)) (fun _ v _ => 52 - (intOf v).toNat)
  case atStart => exact ⟨0, rfl, by omega, ⟨_, _, rfl⟩, World.ownsRow_nil _ _ _ _, Below.refl _ _⟩
  case round =>
    obtain ⟨k, rfl, hk, ⟨ad, cc, rfl⟩, hO, hB⟩ := hrel
    by_cases hlt : k < 52
    · have hlt' : (k : Int) < 52 := by omega
      have hs := othK_succ KN k
      have hl := othK_len KN k
      have AT1 := hide (at_any aA 2 cA (toI A) (k : Int) wr (HA.out.mono hB.out))
      have AT2 := hide (at_any aE 2 cE (toI E) (k : Int) wr (HE.out.mono hB.out))
      have AT3 := hide (at_any aD 3 cD (toI D) (k : Int) wr (HD.out.mono hB.out))
      obtain ⟨L, hL⟩ : ∃ L, othK KN k = L := ⟨_, rfl⟩
      rw [hL] at hs hl hO ⊢
      by_cases c1 : (k : Int) ∈ toI A
      · have hc : KN.contains (k : Int) = true := by rw [List.contains_iff_mem]; exact (HKN.out _).2 (.inl c1)
        rw [hc, if_pos rfl, List.append_nil] at hs
        have HS := hide hs
        clear hs hc hL
        go_wp2_with fail
        refine AT1.out.mono ?_
        rintro e w1 ⟨r1, rfl, hr, hw⟩
        subst w1
        have hr1 : ¬ r1 < 0 := by have := hr.2 c1; omega
        have dr1 : decide (r1 < 0) = false := by simp; omega
        clear hr
        go_wp2
        go_roundw
        case rel => exact ⟨k + 1, by go_num, by omega, ⟨ad, cc, by rw [HS.out]⟩, by rw [HS.out]; exact hO.out, hB.out⟩
        case measure => simp [intOf]; omega
      by_cases c2 : (k : Int) ∈ toI E
      · have hc : KN.contains (k : Int) = true := by rw [List.contains_iff_mem]; exact (HKN.out _).2 (.inr (.inl c2))
        rw [hc, if_pos rfl, List.append_nil] at hs
        have HS := hide hs
        clear hs hc hL
        go_wp2_with fail
        refine AT1.out.mono ?_
        rintro e w1 ⟨r1, rfl, hr, hw⟩
        subst w1
        have hr1 : r1 < 0 := by have := mt hr.1 c1; omega
        have dr1 : decide (r1 < 0) = true := by simp; omega
        clear hr
        go_wp2_with fail
        refine AT2.out.mono ?_
        rintro e w1 ⟨r2, rfl, hr, hw⟩
        subst w1
        have hr2 : ¬ r2 < 0 := by have := hr.2 c2; omega
        have dr2 : decide (r2 < 0) = false := by simp; omega
        clear hr
        go_wp2
        go_roundw
        case rel => exact ⟨k + 1, by go_num, by omega, ⟨ad, cc, by rw [HS.out]⟩, by rw [HS.out]; exact hO.out, hB.out⟩
        case measure => simp [intOf]; omega
      by_cases c3 : (k : Int) ∈ toI D
      · have hc : KN.contains (k : Int) = true := by rw [List.contains_iff_mem]; exact (HKN.out _).2 (.inr (.inr c3))
        rw [hc, if_pos rfl, List.append_nil] at hs
        have HS := hide hs
        clear hs hc hL
        go_wp2_with fail
        refine AT1.out.mono ?_
        rintro e w1 ⟨r1, rfl, hr, hw⟩
        subst w1
        have hr1 : r1 < 0 := by have := mt hr.1 c1; omega
        have dr1 : decide (r1 < 0) = true := by simp; omega
        clear hr
        go_wp2_with fail
        refine AT2.out.mono ?_
        rintro e w1 ⟨r2, rfl, hr, hw⟩
        subst w1
        have hr2 : r2 < 0 := by have := mt hr.1 c2; omega
        have dr2 : decide (r2 < 0) = true := by simp; omega
        clear hr
        go_wp2_with fail
        refine AT3.out.mono ?_
        rintro e w1 ⟨r3, rfl, hr, hw⟩
        subst w1
        have hr3 : ¬ r3 < 0 := by have := hr.2 c3; omega
        have dr3 : decide (r3 < 0) = false := by simp; omega
        clear hr
        go_wp2
        go_roundw
        case rel => exact ⟨k + 1, by go_num, by omega, ⟨ad, cc, by rw [HS.out]⟩, by rw [HS.out]; exact hO.out, hB.out⟩
        case measure => simp [intOf]; omega
      have hc : KN.contains (k : Int) = false := by
        rw [Bool.eq_false_iff, Ne, List.contains_iff_mem]
        exact fun hm => ((HKN.out _).1 hm).elim c1 (fun h => h.elim c2 c3)
      rw [hc, if_neg (by simp)] at hs
      have HS := hide hs
      clear hs hc hL
      go_wp2_with fail
      refine AT1.out.mono ?_
      rintro e w1 ⟨r1, rfl, hr, hw⟩
      subst w1
      have hr1 : r1 < 0 := by have := mt hr.1 c1; omega
      have dr1 : decide (r1 < 0) = true := by simp; omega
      clear hr
      go_wp2_with fail
      refine AT2.out.mono ?_
      rintro e w1 ⟨r2, rfl, hr, hw⟩
      subst w1
      have hr2 : r2 < 0 := by have := mt hr.1 c2; omega
      have dr2 : decide (r2 < 0) = true := by simp; omega
      clear hr
      go_wp2_with fail
      refine AT3.out.mono ?_
      rintro e w1 ⟨r3, rfl, hr, hw⟩
      subst w1
      have hr3 : r3 < 0 := by have := mt hr.1 c3; omega
      have dr3 : decide (r3 < 0) = true := by simp; omega
      clear hr
      go_wp2_with (at_builtin; refine wpList_append_rd _ rfl (.tmp 43) (.tmp 45) rfl w.heap.size _ L.length (toI L) rfl (hO.out.alloc _) _ 1 1 [(k : Int)] rfl (one_rd _ _) (by omega) (by have := hB.out.size; simp; omega) ?_)
      intro v' w' hO' hG'
      obtain ⟨a', c', hv'⟩ := form_slice hO'
      rw [hv'] at hO' ⊢
      have hb0 : Below w.heap.size w (wr.alloc (.cells #[.int .i64 (k : Int)] 3)) := hB.out.alloc hB.out.size _
      have HB' := hide (hb0.grown hG' hb0.size (fun j hj => (hO.out.lt j hj).1))
      have HO' := hide hO'
      clear hO' hG' hb0 hv'
      go_wp2_with fail
      go_roundw
      case rel =>
        refine ⟨k + 1, by go_num, by omega, ⟨a', c', by rw [HS.out]; simp⟩, ?_, HB'.out⟩
        rw [HS.out]
        have := HO'.out
        simp only [toI, List.map_append, List.map_cons, List.map_nil, List.length_append, List.length_cons, List.length_nil, Nat.zero_add] at this ⊢
        exact this
      case measure => simp [intOf]; omega
    · obtain rfl : k = 52 := by omega
      obtain ⟨W1, hW1⟩ : ∃ W, W = wr := ⟨_, rfl⟩
      subst hW1
      obtain ⟨R, hR⟩ : ∃ R, othK KN 52 = R := ⟨_, rfl⟩
      rw [hR] at hO ⊢
      have hRl : R.length ≤ 52 := by rw [← hR]; exact othK_len _ _
      have HRR := hide (Rd.of_own hO.out)
      rw [HRE.out] at hR
      have HREQ := hide hR
      have HB1 := hide hB.out
      clear hO hB hR hlt hk
      rw [show (((52 : Nat)) : Int) = (52 : Int) from rfl]
      go_wp2
      go_loopw [11, 13] (fun v11 v13 wr => ∃ (i : Nat), v13 = .int .i64 i ∧ i ≤ R.length ∧ (∃ a c, v11 = .slice a (pairsF R i).length c) ∧ Hid (Fl W1.heap.size wr v11 (pairsF R i)) ∧ Hid (Below W1.heap.size W1 wr)) (fun _ v _ => R.length - (intOf v).toNat)
      case atStart => exact ⟨0, rfl, by omega, ⟨_, _, rfl⟩, Fl.nil _ _, Below.refl _ _⟩
      case round =>
        obtain ⟨i, rfl, hi, ⟨fa, fc, rfl⟩, hF, hB⟩ := hrel
        by_cases hil : i < R.length
        · have hil' : (i : Int) < (R.length : Int) := by omega
          obtain ⟨NI, hNI⟩ : ∃ N, (pairsF R i).length = N := ⟨_, rfl⟩
          have hle := pairs_len R i
          rw [hNI] at hle hF ⊢
          have hN1 : NI ≤ 1326 := small_pairs hle (by omega)
          have HNI := hide hNI
          have HF0 := hide hF.out
          have HB0 := hide hB.out
          obtain ⟨W3, hW3⟩ : ∃ W, W = wr := ⟨_, rfl⟩
          subst hW3
          clear hNI hF hB hle
          go_wp2
          go_loopw [11, 14] (fun v11 v14 wr => ∃ (k : Nat), v14 = .int .i64 k ∧ k ≤ i ∧ (∃ a c, v11 = .slice a (NI + k) c) ∧ Hid (Fl W1.heap.size wr v11 (pairsF R i ++ (List.range k).map (fun q => [R.getD i 0, R.getD q 0]))) ∧ Hid (Below W1.heap.size W1 wr)) (fun _ v _ => i - (intOf v).toNat)
          case atStart => exact ⟨0, rfl, by omega, ⟨_, _, rfl⟩, by rw [List.range_zero, List.map_nil, List.append_nil]; exact HF0.out, HB0.out⟩
          case round =>
            obtain ⟨k, rfl, hk, ⟨fa, fc, rfl⟩, HF, HB⟩ := hrel
            by_cases hki : k < i
            · have hki' : (k : Int) < (i : Int) := by omega
              have hkR' : (k : Int) < (R.length : Int) := by omega
              have hst : pairsF R i ++ (List.range (k + 1)).map (fun q => [R.getD i 0, R.getD q 0]) = (pairsF R i ++ (List.range k).map (fun q => [R.getD i 0, R.getD q 0])) ++ [[R.getD i 0, R.getD k 0]] := by
                rw [List.range_succ, List.map_append, List.append_assoc]; rfl
              have hlk : (pairsF R i ++ (List.range k).map (fun q => [R.getD i 0, R.getD q 0])).length = NI + k := by
                rw [List.length_append, HNI.out, List.length_map, List.length_range]
              obtain ⟨rb, ro, hrb, hcb⟩ := HRR.out.cells (by omega)
              subst hrb
              have hc1 := hcb i hil
              have hc2 := hcb k (by omega)
              rw [toI_getD] at hc1 hc2
              obtain ⟨x, hx⟩ : ∃ x, R.getD i 0 = x := ⟨_, rfl⟩
              obtain ⟨y, hy⟩ : ∃ x, R.getD k 0 = x := ⟨_, rfl⟩
              have HCX : Hid (∀ W, Below W1.heap.size W1 W → W.cell? ⟨rb, ro + i, none⟩ = some (.int .i64 x) ∧ W.cell? ⟨rb, ro + k, none⟩ = some (.int .i64 y)) := hide (fun W hW => by
                rw [← hx, ← hy]
                exact ⟨(hW.cell (p := ⟨rb, ro + i, none⟩) (World.block_lt_of_cell? W1 _ hc1)).trans hc1, (hW.cell (p := ⟨rb, ro + k, none⟩) (World.block_lt_of_cell? W1 _ hc2)).trans hc2⟩)
              rw [hx, hy] at hst
              have HST := hide hst
              rw [hx] at hlk HF
              obtain ⟨FK, hFK⟩ : ∃ FK, pairsF R i ++ (List.range k).map (fun q => [x, R.getD q 0]) = FK := ⟨_, rfl⟩
              rw [hFK] at HF HST hlk
              have HX := hide hx
              obtain ⟨nk, hnk⟩ : ∃ n, NI + k = n := ⟨_, rfl⟩
              rw [hnk] at hlk HF ⊢
              have HLK := hide hlk
              have HLK2 := hide hnk
              have hnk2 : nk ≤ 2000 := by omega
              clear hst hlk hFK hcb hc1 hc2 hx hy hnk
              go_wp2_with fail
              refine wp_region_held (S := fun W => Below W1.heap.size W1 W) (by kernel_rfl) ?_
              change wpAnyH _ _ _ _ _ _ _ _ (World.drew _)
              have SW : Below W1.heap.size W1 wr.drew := HB.out.drew
              refine wpAnyH_take (i := 0) (v := .slice fa nk fc) rfl (by kernel_rfl) (by kernel_rfl) (by kernel_rfl) (fun _ _ _ h => h) (Or.inl ⟨by rfl, ?_⟩) SW ?_
              · intro W hW
                clear hW
                go_simp
              go_simp
              refine wpAnyH_take (i := 1) (v := .slice (some ⟨rb, ro, none⟩) R.length cc) rfl (by kernel_rfl) (by kernel_rfl) (by kernel_rfl) (fun _ _ _ h => h) (Or.inl ⟨by rfl, ?_⟩) SW ?_
              · intro W hW
                clear hW
                go_simp
              go_simp
              refine wpAnyH_take (i := 2) (v := .int .i64 i) rfl (by kernel_rfl) (by kernel_rfl) (by kernel_rfl) (fun _ _ _ h => h) (Or.inl ⟨by rfl, ?_⟩) SW ?_
              · intro W hW
                clear hW
                go_simp
              go_simp
              refine wpAnyH_take (i := 3) (v := .pointer (some ⟨rb, ro + i, none⟩)) rfl (by kernel_rfl) (by kernel_rfl) (by kernel_rfl) (fun _ _ _ h => h) (Or.inl ⟨by rfl, ?_⟩) SW ?_
              · intro W hW
                clear hW
                go_simp
              go_simp
              refine wpAnyH_take (i := 4) (v := .int .i64 x) rfl (by kernel_rfl) (by kernel_rfl) (by kernel_rfl) (fun _ _ _ h => h) (Or.inl ⟨by rfl, ?_⟩) SW ?_
              · intro W hW
                have x0 := (HCX.out W hW).1
                clear hW
                go_simp
              go_simp
              refine wpAnyH_take (i := 5) (v := .slice (some ⟨rb, ro, none⟩) R.length cc) rfl (by kernel_rfl) (by kernel_rfl) (by kernel_rfl) (fun _ _ _ h => h) (Or.inl ⟨by rfl, ?_⟩) SW ?_
              · intro W hW
                clear hW
                go_simp
              go_simp
              refine wpAnyH_take (i := 6) (v := .int .i64 k) rfl (by kernel_rfl) (by kernel_rfl) (by kernel_rfl) (fun _ _ _ h => h) (Or.inl ⟨by rfl, ?_⟩) SW ?_
              · intro W hW
                clear hW
                go_simp
              go_simp
              refine wpAnyH_take (i := 7) (v := .pointer (some ⟨rb, ro + k, none⟩)) rfl (by kernel_rfl) (by kernel_rfl) (by kernel_rfl) (fun _ _ _ h => h) (Or.inl ⟨by rfl, ?_⟩) SW ?_
              · intro W hW
                clear hW
                go_simp
              go_simp
              refine wpAnyH_take (i := 8) (v := .int .i64 y) rfl (by kernel_rfl) (by kernel_rfl) (by kernel_rfl) (fun _ _ _ h => h) (Or.inl ⟨by rfl, ?_⟩) SW ?_
              · intro W hW
                have x0 := (HCX.out W hW).2
                clear hW
                go_simp
              go_simp
              refine wpAnyH_ready (rs := [9]) (by kernel_rfl) (by simp) ?_
              refine AllReadyH.cons rfl (fun K1 hK1 => ?_) AllReadyH.nil
              go_simp
              have SWn : Below W1.heap.size W1 (wr.alloc (Obj.cells #[Value.int IntKind.i64 x, Value.int IntKind.i64 y] 3)).drew := (HB.out.alloc HB.out.size _).drew
              refine hK1.out _ _ SWn (fun _ => ?_)
              clear hK1 K1 SW
              have SW := SWn
              clear SWn
              go_simp
              refine wpAnyH_ready (rs := [10]) (by kernel_rfl) (by simp) ?_
              refine AllReadyH.cons rfl (fun K1 hK1 => ?_) AllReadyH.nil
              go_simp
              have SWn : Below W1.heap.size W1 ((wr.alloc (Obj.cells #[Value.int IntKind.i64 x, Value.int IntKind.i64 y] 3)).alloc (Obj.cells #[Value.slice (some ⟨wr.heap.size, 0, none⟩) 2 2] 22)).drew := ((HB.out.alloc HB.out.size _).alloc (by have := HB.out.size; simp; omega) _).drew
              refine hK1.out _ _ SWn (fun _ => ?_)
              clear hK1 K1 SW
              have SW := SWn
              clear SWn
              go_simp
              have LT := hide (lit2 wr x y)
              have HFB := hide (HF.out.below (((Below.refl _ wr).alloc (Nat.le_refl _) (Obj.cells #[Value.int IntKind.i64 x, Value.int IntKind.i64 y] 3)).alloc (by simp) (Obj.cells #[Value.slice (some ⟨wr.heap.size, 0, none⟩) 2 2] 22)).drew)
              obtain ⟨U, hU⟩ : ∃ U, ((wr.alloc (Obj.cells #[Value.int IntKind.i64 x, Value.int IntKind.i64 y] 3)).alloc (Obj.cells #[Value.slice (some ⟨wr.heap.size, 0, none⟩) 2 2] 22)).drew = U := ⟨_, rfl⟩
              rw [hU] at LT HFB SW ⊢
              clear hU
              refine wpAnyH_ready (rs := [11]) (by kernel_rfl) (by simp) ?_
              refine AllReadyH.cons rfl (fun K1 hK1 => ?_) AllReadyH.nil
              rw [if_pos (by rfl)]
              refine wp_append_fl _ (.tmp 83) (.tmp 93) rfl W1.heap.size _ FK rfl HFB.out (wr.heap.size + 1) [x, y] (some ⟨wr.heap.size, 0, none⟩) 2 rfl LT.out.1 LT.out.2.1 LT.out.2.2 (by rw [HLK.out]; omega) SW.size ?_
              intro v' w' hFl hex hG hbk
              obtain ⟨fa', fc', hv'⟩ := hex
              rw [hv'] at hFl ⊢
              rw [HLK.out] at hFl ⊢
              have HFL' := hide hFl
              have SWn : Below W1.heap.size W1 w' := SW.grown hG SW.size hbk
              refine hK1.out _ _ SWn (fun _ => ?_)
              clear hK1 K1 SW hFl hG hbk hv'
              have SW := SWn
              clear SWn
              go_simp
              refine wpAnyH_take (i := 12) (v := .slice fa' (nk + 1) fc') rfl (by kernel_rfl) (by kernel_rfl) (by kernel_rfl) (fun _ _ _ h => h) (Or.inl ⟨by rfl, ?_⟩) SW ?_
              · intro W hW
                clear hW
                go_simp
              go_simp
              refine wpAnyH_done (by kernel_rfl) ?_ _
              have HB' := hide SW
              clear SW
              go_wp2_with fail
              go_roundw
              case rel =>
                exact ⟨k + 1, by go_num, by omega, ⟨fa', fc', by rw [← HLK2.out]; simp; omega⟩, by rw [HX.out, HST.out]; exact HFL'.out, HB'.out⟩
              case measure => simp [intOf]; omega
            · obtain rfl : k = i := by omega
              go_wp2
              go_roundw
              case rel =>
                refine ⟨k + 1, by go_num, by omega, ⟨fa, fc, ?_⟩, ?_, HB.out⟩
                · rw [show (pairsF R (k + 1)).length = NI + k by rw [pairsF, List.length_append, HNI.out, List.length_map, List.length_range]]
                · exact HF.out
              case measure => simp [intOf]; omega
        · obtain rfl : i = R.length := by omega
          obtain ⟨W2, hW2⟩ : ∃ W, W = wr := ⟨_, rfl⟩
          subst hW2
          have HB2 := hide hB.out
          obtain ⟨FS, hFS⟩ : ∃ FS, pairsF R R.length = FS := ⟨_, rfl⟩
          rw [hFS] at hF ⊢
          have HFE : Hid (fillsF 3 R = FS) := hide (by rw [← hFS]; rfl)
          have HFL := hide hF.out
          obtain ⟨N, hN⟩ : ∃ N, FS.length = N := ⟨_, rfl⟩
          rw [hN] at HFL ⊢
          have HN := hide hN
          clear hF hFS hB hil hi hN
          have HFS : Hid (∀ F ∈ FS, F.length = 2 ∧ Cards 7 (A ++ (D ++ F)) ∧ Cards 7 (E ++ (D ++ F))) := hide (by rw [← HFE.out, ← HREQ.out]; exact fills_ok3 hA hE hD hlt0 hnd0)
          have hnf : N ≤ 1326 := by rw [← HN.out, ← HFE.out]; exact fills_len3 R hRl
          obtain ⟨vs, hvs, hfv⟩ := HFL.out
          rw [HN.out] at hvs
          have HVS := hide hvs
          have HFV := hide hfv
          have hB02 := HB1.out.trans (HB2.out.mono HB1.out.size)
          have HA2 : Hid (∀ W, Below W2.heap.size W2 W → Rd W aA 2 cA (toI A)) := hide (fun W hW => (HA.out.mono hB02).mono hW)
          have HE2 : Hid (∀ W, Below W2.heap.size W2 W → Rd W aE 2 cE (toI E)) := hide (fun W hW => (HE.out.mono hB02).mono hW)
          have HD2 : Hid (∀ W, Below W2.heap.size W2 W → Rd W aD 3 cD (toI D)) := hide (fun W hW => (HD.out.mono hB02).mono hW)
          have HB02 := hide hB02
          clear hvs hfv hB02 HFL
          go_wp2
          go_loopw [15, 16, 17] (fun v15 v16 v17 wr => ∃ (j : Nat), v17 = .int .i64 j ∧ j ≤ N ∧ v15 = .int .i64 (winF A E D (FS.take j) : Nat) ∧ v16 = .int .i64 (tieF A E D (FS.take j) : Nat) ∧ Hid (Below W2.heap.size W2 wr)) (fun _ _ v _ => N - (intOf v).toNat)
          case atStart => exact ⟨0, rfl, by omega, rfl, rfl, Below.refl _ _⟩
          case round =>
            obtain ⟨j, rfl, hj, rfl, rfl, hB⟩ := hrel
            by_cases hjl : j < N
            · have hjl' : (j : Int) < (N : Int) := by omega
              have hjF : j < FS.length := by rw [HN.out]; exact hjl
              have hsW := winF_succ A E D FS j hjF
              have hsT := tieF_succ A E D FS j hjF
              have hlW := winF_le A E D FS j
              have hlT := tieF_le A E D FS j
              obtain ⟨fj, cj, e1, e2, e3⟩ := HFV.out j hjF
              have hFm : FS.getD j [] ∈ FS := by
                rw [show FS.getD j [] = FS[j] by simp [List.getD, hjF]]
                exact List.getElem_mem hjF
              obtain ⟨F, hF⟩ : ∃ F, FS.getD j [] = F := ⟨_, rfl⟩
              rw [hF] at e1 e2 hFm hsW hsT
              obtain ⟨hfl, CA, CE⟩ := HFS.out F hFm
              rw [hfl] at e1 e2
              obtain ⟨nw, hnw⟩ : ∃ n, winF A E D (FS.take j) = n := ⟨_, rfl⟩
              obtain ⟨nt, hnt⟩ : ∃ n, tieF A E D (FS.take j) = n := ⟨_, rfl⟩
              rw [hnw] at hsW hlW ⊢
              rw [hnt] at hsT hlT ⊢
              have BF1 := hide (best_at (A ++ (D ++ F)) CA)
              have BF2 := hide (best_at (E ++ (D ++ F)) CE)
              obtain ⟨xx, hxx⟩ : ∃ x, bvR (A ++ (D ++ F)) = x := ⟨_, rfl⟩
              obtain ⟨yy, hyy⟩ : ∃ x, bvR (E ++ (D ++ F)) = x := ⟨_, rfl⟩
              rw [hxx] at BF1 hsW hsT
              rw [hyy] at BF2 hsW hsT
              have HSW := hide hsW
              have HST := hide hsT
              obtain ⟨g, hfa, hcell⟩ := fl_cell HVS.out (by omega) j _ e1
              subst hfa
              have HFC : Hid (∀ W, Below W2.heap.size W2 W → W.cell? ⟨g, j, none⟩ = some (.slice fj 2 cj)) := hide (fun W hW => (hW.cell (p := ⟨g, j, none⟩) (World.block_lt_of_cell? W2 _ hcell)).trans hcell)
              have HE2R := hide e2
              clear e1 e2 e3 hFm hfl CA CE hnw hnt hxx hyy hsW hsT hF hcell hjF
              go_wp2_with fail
              refine wp_region_held (S := fun W => Below W2.heap.size W2 W) (by kernel_rfl) ?_
              change wpAnyH _ _ _ _ _ _ _ _ (World.drew _)
              have SW : Below W2.heap.size W2 wr.drew := hB.out.drew
              refine wpAnyH_take (i := 0) (v := .slice aD 3 cD) rfl (by kernel_rfl) (by kernel_rfl) (by kernel_rfl) (fun _ _ _ h => h) (Or.inl ⟨by rfl, ?_⟩) SW ?_
              · intro W hW
                clear hW
                go_simp
              go_simp
              refine wpAnyH_take (i := 2) (v := .slice (some ⟨g, 0, none⟩) N fc) rfl (by kernel_rfl) (by kernel_rfl) (by kernel_rfl) (fun _ _ _ h => h) (Or.inl ⟨by rfl, ?_⟩) SW ?_
              · intro W hW
                clear hW
                go_simp
              go_simp
              refine wpAnyH_take (i := 3) (v := .int .i64 j) rfl (by kernel_rfl) (by kernel_rfl) (by kernel_rfl) (fun _ _ _ h => h) (Or.inl ⟨by rfl, ?_⟩) SW ?_
              · intro W hW
                clear hW
                go_simp
              go_simp
              refine wpAnyH_take (i := 4) (v := .pointer (some ⟨g, j, none⟩)) rfl (by kernel_rfl) (by kernel_rfl) (by kernel_rfl) (fun _ _ _ h => h) (Or.inl ⟨by rfl, ?_⟩) SW ?_
              · intro W hW
                clear hW
                go_simp
              go_simp
              refine wpAnyH_take (i := 5) (v := .slice fj 2 cj) rfl (by kernel_rfl) (by kernel_rfl) (by kernel_rfl) (fun _ _ _ h => h) (Or.inl ⟨by rfl, ?_⟩) SW ?_
              · intro W hW
                have x0 := HFC.out W hW
                clear hW
                go_simp
              go_simp
              refine wpAnyH_ready (rs := [1]) (by kernel_rfl) (by simp) ?_
              refine AllReadyH.cons rfl (fun K1 hK1 => ?_) AllReadyH.nil
              go_simp
              refine (intsR_own aD 3 cD (toI D) _ (HD2.out _ SW) (by omega)).mono ?_
              rintro e w5 ⟨a5, c5, rfl, hO5, hB5⟩
              have SWn := SW.trans (hB5.mono SW.size)
              have OW5 := hide (own_base3 hO5 SW.size)
              refine hK1.out _ _ SWn (fun _ => ?_)
              clear hK1 K1 hO5 hB5 SW
              have SW := SWn
              clear SWn
              go_simp
              refine wpAnyH_ready (rs := [6]) (by kernel_rfl) (by simp) ?_
              refine AllReadyH.cons rfl (fun K1 hK1 => ?_) AllReadyH.nil
              rw [if_pos (by rfl)]
              refine wp_append_rd _ (.tmp 102) (.tmp 106) rfl W2.heap.size _ 3 (toI D) rfl OW5.out fj 2 cj (toI F) rfl (HE2R.out.mono SW) (by omega) SW.size ?_
              intro vn w6 hOn hGn
              obtain ⟨h6, k6, hvn⟩ := form_slice hOn
              rw [hvn] at hOn ⊢
              have SWn : Below W2.heap.size W2 w6 := SW.grown hGn SW.size (fun q hq => (OW5.out.lt q hq).1)
              have R6 : Rd w6 h6 5 k6 (toI (D ++ F)) := by rw [toI_ap]; exact Rd.of_own hOn
              have HR6 := hide R6
              refine hK1.out _ _ SWn (fun _ => ?_)
              clear hK1 K1 hOn hGn hvn SW OW5 R6
              have SW := SWn
              clear SWn
              go_simp
              refine wpAnyH_take (i := 7) (v := .slice h6 5 k6) rfl (by kernel_rfl) (by kernel_rfl) (by kernel_rfl) (fun _ _ _ h => h) (Or.inl ⟨by rfl, ?_⟩) SW ?_
              · intro W hW
                clear hW
                go_simp
              go_simp
              refine wpAnyH_done (by kernel_rfl) ?_ _
              have HB6 := hide SW
              clear SW hB
              go_wp2_with fail
              refine (intsR_own aA 2 cA (toI A) w6 (HA2.out _ HB6.out) (by omega)).mono ?_
              rintro e w7 ⟨a7, c7, rfl, hO7, hB7⟩
              have HO7 := hide hO7
              have HB7 := hide hB7
              clear hO7 hB7
              go_wp2_with (at_builtin; refine wpList_append_rd _ rfl (.tmp 110) (.tmp 111) rfl w6.heap.size _ 2 (toI A) rfl HO7.out h6 5 k6 (toI (D ++ F)) rfl (HR6.out.mono HB7.out) (by omega) HB7.out.size ?_)
              intro v8 w8 hO8 hG8
              obtain ⟨h8, k8, hv8⟩ := form_slice hO8
              rw [hv8] at hO8 ⊢
              have hB8 : Below w6.heap.size w6 w8 := HB7.out.grown hG8 HB7.out.size (fun q hq => (HO7.out.lt q hq).1)
              have R8 : Rd w8 h8 7 k8 (toI (A ++ (D ++ F))) := by rw [toI_ap]; exact Rd.of_own (by rw [List.map_append]; exact hO8)
              have HR8 := hide R8
              have HB8 := hide hB8
              clear hO8 hG8 hv8 R8 hB8 HO7 HB7
              go_wp2_with fail
              refine (BF1.out h8 k8 w8 HR8.out).mono ?_
              rintro e w9 ⟨b9, m9, c9, rfl, hB9⟩
              have HB9 := hide (HB8.out.trans (hB9.mono HB8.out.size))
              clear hB9 HB8 HR8
              have HB69 := hide (HB6.out.trans (HB9.out.mono HB6.out.size))
              have HR69 := hide (HR6.out.mono HB9.out)
              clear HB9 HB6 HR6
              go_wp2_with fail
              refine (intsR_own aE 2 cE (toI E) w9 (HE2.out _ HB69.out) (by omega)).mono ?_
              rintro e v7 ⟨a7, c7, rfl, hO7, hB7⟩
              have HO7 := hide hO7
              have HB7 := hide hB7
              clear hO7 hB7
              go_wp2_with (at_builtin; refine wpList_append_rd _ rfl (.tmp 118) (.tmp 119) rfl w9.heap.size _ 2 (toI E) rfl HO7.out h6 5 k6 (toI (D ++ F)) rfl (HR69.out.mono HB7.out) (by omega) HB7.out.size ?_)
              intro v8 w10 hO8 hG8
              obtain ⟨h8, k8, hv8⟩ := form_slice hO8
              rw [hv8] at hO8 ⊢
              have hB8 : Below w9.heap.size w9 w10 := HB7.out.grown hG8 HB7.out.size (fun q hq => (HO7.out.lt q hq).1)
              have R8 : Rd w10 h8 7 k8 (toI (E ++ (D ++ F))) := by rw [toI_ap]; exact Rd.of_own (by rw [List.map_append]; exact hO8)
              have HR8 := hide R8
              have HB8 := hide hB8
              clear hO8 hG8 hv8 R8 hB8 HO7 HB7
              go_wp2_with fail
              refine (BF2.out h8 k8 w10 HR8.out).mono ?_
              rintro e w11 ⟨b9, m9, c9, rfl, hB9⟩
              have HB9 := hide (HB8.out.trans (hB9.mono HB8.out.size))
              clear hB9 HB8 HR8
              have HBZ := hide (HB69.out.trans (HB9.out.mono HB69.out.size))
              clear HB9 HB69 HR69 BF1 BF2
              by_cases hgt : yy < xx
              · have h1 : Hid (winF A E D (FS.take (j + 1)) = nw + 1) := hide (by rw [HSW.out, if_pos hgt])
                have h2 : Hid (tieF A E D (FS.take (j + 1)) = nt) := hide (by rw [HST.out, if_neg (by omega)]; rfl)
                have bne : (xx == yy) = false := by simp; omega
                clear HSW HST
                go_wp2
                go_roundw
                case rel => exact ⟨j + 1, by go_num, by omega, by rw [h1.out]; go_num, by rw [h2.out], HBZ.out⟩
                case measure => simp [intOf]; omega
              · have h1 : Hid (winF A E D (FS.take (j + 1)) = nw) := hide (by rw [HSW.out, if_neg hgt]; rfl)
                by_cases heq : xx = yy
                · have h2 : Hid (tieF A E D (FS.take (j + 1)) = nt + 1) := hide (by rw [HST.out, if_pos heq])
                  subst heq
                  clear HSW HST
                  go_wp2
                  go_roundw
                  case rel => exact ⟨j + 1, by go_num, by omega, by rw [h1.out], by rw [h2.out]; go_num, HBZ.out⟩
                  case measure => simp [intOf]; omega
                · have h2 : Hid (tieF A E D (FS.take (j + 1)) = nt) := hide (by rw [HST.out, if_neg heq]; rfl)
                  have bne : (xx == yy) = false := by simpa using heq
                  clear HSW HST
                  go_wp2
                  go_roundw
                  case rel => exact ⟨j + 1, by go_num, by omega, by rw [h1.out], by rw [h2.out], HBZ.out⟩
                  case measure => simp [intOf]; omega
            · obtain rfl : N = j := by omega
              go_wp2
              refine bodyPost_ret (results3 rfl _ _) rfl ?_
              refine ⟨?_, ?_⟩
              · have ht : FS.take N = FS := by rw [← HN.out]; exact List.take_length
                rw [ht, HRE.out, HREQ.out, HFE.out, HN.out]; rfl
              · exact HB02.out.trans (hB.out.mono HB02.out.size)

end Go.Proofs.Ytdhacmcdbpojlaa
