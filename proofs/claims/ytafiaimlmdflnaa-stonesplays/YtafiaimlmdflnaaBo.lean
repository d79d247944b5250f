/-
  Whether places have a neighbour of a kind. No conditions beyond those that each theorem bears.
-/
import Derived.Test.YtafiaimlmdflnaaLb
namespace Go.Proofs.Ytafiaimlmdflnaa
open Go.RowKit Go.Shelf

theorem results_b1 {fn : Func} {t : Tmp} (h : fn.results = #[.cell t 4]) (tmps : Array Value) (w : World) (b : Nat) (hb : tmps.getD t undef = .pointer (some ⟨b, 0, none⟩)) {v : Bool} (hv : w.cell? ⟨b, 0, none⟩ = some (.bool v)) :
    (results fn tmps).run Try.prog w = .ok (.bool v) w := by
  have hb' : tmps[t]?.getD undef = .pointer (some ⟨b, 0, none⟩) := by simpa using hb
  simp [results, h, hb', asAddr, loadVar, hv, go_sem]

attribute [local irreducible] D4 nb4
attribute [local go_sem] Oper.semAt_some wide_fn wide_fn0 wide_depth

/-- What is held while neighbours are asked: b6: the answer; b5: the question. -/
structure BoI (b5 b6 : Nat) (fv : Value) (k : Nat → Prop) (w : World) (O : Nat → Prop) (s : List Nat) (V : World) : Prop where
  o : ∀ j, O j ↔ j = b6
  q : V.cell? ⟨b5, 0, none⟩ = some fv
  a : Vb V b6 4 [.bool false]
  no : ∀ x ∈ s, ¬ k x
  bl : Below w.heap.size w V

set_option maxRecDepth 100000 in
set_option maxHeartbeats 8000000 in
theorem borders_any (W H N bc cb co f : Nat) (lb : Array Value) (pa : Option Addr) (pc : Nat) (G : List Nat) (k : Nat → Prop) [DecidablePred k] (w : World) (hW : 1 ≤ W ∧ W ≤ 10) (hH : 1 ≤ H ∧ H ≤ 10) (hN : W * H = N) (hG : ∀ x ∈ G, x < W * H) (hGl : G.length ≤ 100) (hG0 : 0 < G.length) (hP : Rd w pa G.length pc (toI G)) (hQ : MayQ f lb N k (fun _ => True) w) :
    Calls Try.prog 69 #[.agg (gdA W H (some ⟨cb, co, none⟩) N bc), .slice pa G.length pc, .func (.func f) #[] lb] w fun e w' => e = .returned (.bool (decide (∃ x ∈ G.flatMap (nb4 W H), k x))) ∧ Below w.heap.size w w' := by
  have HCA := hide (fun q V hq hb => hQ.ca q V hq trivial hb)
  have hen := hQ.en
  have HNN := hide hN
  obtain ⟨w1, hw1⟩ : ∃ w1, ((w.alloc (.cells (gdA W H (some ⟨cb, co, none⟩) N bc) 54)).alloc (.cells #[.func (.func f) #[] lb] 74)).alloc (.cells #[.bool false] 4) = w1 := ⟨_, rfl⟩
  have B1 : Below w.heap.size w w1 := by rw [← hw1]; exact (((Below.refl _ _).alloc (Nat.le_refl _) _).alloc (by simp) _).alloc (by simp; omega) _
  have s1 : w1.heap.size = w.heap.size + 3 := by rw [← hw1]; simp
  have b1 : Hb w1 w.heap.size W H (some ⟨cb, co, none⟩) N bc := by rw [← hw1]; exact ((Hb.new w W H _ N bc).old _).old _
  have q1 : w1.cell? ⟨w.heap.size + 1, 0, none⟩ = some (.func (.func f) #[] lb) := by
    rw [← hw1]
    have := new_cell (w.alloc (.cells (gdA W H (some ⟨cb, co, none⟩) N bc) 54)) (.func (.func f) #[] lb) 74
    rw [World.size_alloc] at this
    exact old_cell _ this
  have v1 : Vb w1 (w.heap.size + 2) 4 [.bool false] := by
    rw [← hw1]
    have := Vb.new ((w.alloc (.cells (gdA W H (some ⟨cb, co, none⟩) N bc) 54)).alloc (.cells #[.func (.func f) #[] lb] 74)) 4 [.bool false]
    rwa [World.size_alloc, World.size_alloc] at this
  have HB1 := hide B1
  have HP1 := hide (hP.mono B1)
  have HPB : Hid (∀ j, (∃ off, pa = some ⟨j, off, none⟩) → j < w.heap.size) := hide (by rintro j ⟨off, rfl⟩; exact hP.blt hG0)
  have HS1 := hide s1
  have HQ1 := hide q1
  have HV1 := hide v1
  clear B1 s1 q1 v1 hP hQ
  refine (callsIn_wide (n := 3)).1 ?_
  refine callsIn_of_wp_marks Try.func69 rfl trivial ?_ rfl
  simp only [Try.ntmps69, List.size_toArray, List.length_cons, List.length_nil, Nat.reduceAdd, Nat.reduceSub, Array.replicate_succ, Array.replicate_zero, List.push_toArray, List.append_toArray, List.nil_append, List.cons_append]
  refine wpIn_wide.2 ?_
  obtain ⟨gl, hgl⟩ : ∃ gl, G.length = gl := ⟨_, rfl⟩
  rw [hgl] at hGl hG0 HP1 ⊢
  have HGL := hide hgl
  go_upto_region 1 with fail
  clear hw1 hgl
  go_wp2_with (first | (refine wpList_load_hb rfl (.tmp 3) rfl w.heap.size rfl b1 ?_) | fail)
  refine (beside_any W H _ N bc pa gl pc _).mono ?_
  rintro e w5 ⟨rfl, hw5⟩
  have B5 : Below w1.heap.size w1 w5 := by rw [hw5]; exact ((Below.refl _ _).alloc (Nat.le_refl _) _).alloc (by simp) _
  have s5 : w5.heap.size = w1.heap.size + 2 := by rw [hw5]; simp
  have HBE : Hid (BeR (w1.heap.size + 1) w1.heap.size W H cb co N bc pa gl pc G w5) := hide (by rw [hw5]; exact BeR.new W H cb co N bc pa gl pc G w1 HP1.out)
  have HI5 : Hid (BoI (w.heap.size + 1) (w.heap.size + 2) (.func (.func f) #[] lb) k w (fun j => j = w.heap.size + 2) [] w5) := hide ⟨fun j => Iff.rfl, (B5.cell (p := ⟨w.heap.size + 1, 0, none⟩) (by have := HS1.out; show w.heap.size + 1 < _; omega)).trans HQ1.out, HV1.out.mono B5, (fun x hx => by cases hx), HB1.out.trans (B5.mono HB1.out.size)⟩
  have HS5 := hide s5
  clear hw5 B5 s5 b1
  go_wp2_with fail
  have HLT : Hid (∀ j, BeT (w1.heap.size + 1) w1.heap.size pa j → j < w5.heap.size ∧ j ≠ w.heap.size + 2) := hide (by
    have z1 := HS1.out
    have z2 := HS5.out
    rintro j (h | h | h)
    · omega
    · omega
    · have := HPB.out j h; omega)
  refine (wpIn_wide (n := 1)).1 (wp_range_o (gf := 75) (lb := #[.pointer (some ⟨w1.heap.size + 1, 0, none⟩), .pointer (some ⟨w1.heap.size, 0, none⟩)]) (G := NbG) (xs := G.flatMap (nb4 W H)) (R := BeR (w1.heap.size + 1) w1.heap.size W H cb co N bc pa gl pc G) (T := BeT (w1.heap.size + 1) w1.heap.size pa) (by simp [Act.eval]) (enters_of Try.func75 (by kernel_rfl) rfl)
    (beside1_o (w1.heap.size + 1) w1.heap.size W H cb co N bc pa gl pc G hW hH hG hGl hG0) (fun j hj => (HLT.out j hj).1) (fun A hA => HBE.out.keeps (X := fun _ => False) (Keeps.of_all hA) (fun _ _ h => h)) (fun x args W' hG => by rw [hG]; rfl)
    (fun O s W' => BoI (w.heap.size + 1) (w.heap.size + 2) (.func (.func f) #[] lb) k w O s W') (fun d O W' => d = .ret ∧ (∀ j, O j ↔ j = w.heap.size + 2) ∧ Vb W' (w.heap.size + 2) 4 [.bool true] ∧ (∃ x ∈ G.flatMap (nb4 W H), k x) ∧ Below w.heap.size w W') (fun j => j = w.heap.size + 2) ?hC HI5.out ?round ?done ?stop)
  case hC =>
    intro d
    have z1 := HS1.out
    have z2 := HS5.out
    refine ⟨?_, ?_, ?_, ?_⟩
    · rintro O s A h j hj
      obtain rfl := (h.o j).1 hj
      exact ⟨h.a.lt, fun e => (HLT.out _ e).2 rfl⟩
    · rintro O A ⟨_, h1, h2, _, _⟩ j hj
      obtain rfl := (h1 j).1 hj
      exact ⟨h2.lt, fun e => (HLT.out _ e).2 rfl⟩
    · rintro O s A B h hk
      exact ⟨h.o, hk.cell h.q (fun e => by have := e.1; dsimp only at this; omega), h.a.keeps hk (fun e => by omega), h.no, h.bl.trans (hk.below h.bl.size (fun j hj e => by omega))⟩
    · rintro O A B ⟨h0, h1, h2, h3, h4⟩ hk
      exact ⟨h0, h1, h2.keeps hk (fun e => by omega), h3, h4.trans (hk.below h4.size (fun j hj e => by omega))⟩
  case round =>
    rintro l2 O s y args W6 hl2 ⟨rec, hrec⟩ hI6 hOl _ _ hpre hGx hsz6
    obtain rfl : args = #[.int .i64 y] := hGx
    have hym : y ∈ G.flatMap (nb4 W H) := hpre.subset (show y ∈ s ++ [y] by simp)
    have hyN : y < N := by
      obtain ⟨p, _, h2⟩ := List.mem_flatMap.1 hym
      rw [← HNN.out]
      exact nb4_lt h2
    have HYM := hide hym
    have HI6 := hide hI6
    have HOL := hide hOl
    have HSZ6 := hide hsz6
    clear hI6 hpre hrec hOl hsz6 hym
    gi_wp2
    refine ⟨Below.refl _ _, ?_⟩
    intro W7 hk7
    have z1 := HS1.out
    have z2 := HS5.out
    have z3 := HSZ6.out
    have I7 : BoI (w.heap.size + 1) (w.heap.size + 2) (.func (.func f) #[] lb) k w O s W7 := ⟨HI6.out.o, hk7.cell HI6.out.q (fun e => by dsimp only at e; omega), HI6.out.a.keeps hk7 (fun e => by omega), HI6.out.no, HI6.out.bl.trans (hk7.below HI6.out.bl.size (fun j hj e => by omega))⟩
    have HI7 := hide I7
    have cq := I7.q
    have HC := hide (HCA.out y W7 hyN I7.bl)
    clear HI6 hk7 z1 z2 z3 I7
    gi_wp2
    refine (CallsIn.inRound l2 (callsIn_wide.2 HC.out)).mono ?_
    rintro e W8 ⟨rfl, hb8⟩
    have HK8 : Hid (Keeps O W7 W8) := hide (Keeps.of_all hb8)
    have I8 : BoI (w.heap.size + 1) (w.heap.size + 2) (.func (.func f) #[] lb) k w O s W8 := ⟨HI7.out.o, (hb8.cell (p := ⟨w.heap.size + 1, 0, none⟩) (World.block_lt_of_cell? W7 _ HI7.out.q)).trans HI7.out.q, HI7.out.a.mono hb8, HI7.out.no, HI7.out.bl.trans (hb8.mono HI7.out.bl.size)⟩
    have HI8 := hide I8
    clear hb8 cq HC HI7
    by_cases hk : k y
    · rw [decide_eq_true hk]
      have ca := I8.a.cell (i := 0) rfl
      have fa := I8.a.frozen 0
      have HV9 : Hid (Vb (W8.setCell ⟨w.heap.size + 2, 0, none⟩ (.bool true)) (w.heap.size + 2) 4 [.bool true]) := hide (I8.a.set 0 (.bool true))
      have kk : Keeps (fun j => j = w.heap.size + 2) W8 (W8.setCell ⟨w.heap.size + 2, 0, none⟩ (.bool true)) := Keeps.set1 _ _ _ _
      have HK9 : Hid (Keeps O W7 (W8.setCell ⟨w.heap.size + 2, 0, none⟩ (.bool true))) := hide (HK8.out.trans (kk.mono (fun j _ e => (HI8.out.o j).2 e)))
      have HB9 : Hid (Below w.heap.size w (W8.setCell ⟨w.heap.size + 2, 0, none⟩ (.bool true))) := hide (I8.bl.trans (kk.below I8.bl.size (fun j hj e => by omega)))
      clear I8 kk
      gi_wp2
      exact ⟨HK9.out, O, fun _ _ h => h, rfl, HI8.out.o, HV9.out, ⟨y, HYM.out, hk⟩, HB9.out⟩
    · rw [decide_eq_false hk]
      clear I8
      gi_wp2
      refine ⟨HK8.out, O, fun _ _ h => h, HI8.out.o, HI8.out.q, HI8.out.a, fun x hx => ?_, HI8.out.bl⟩
      rcases List.mem_append.1 hx with h | h
      · exact HI8.out.no x h
      · rw [List.mem_singleton.1 h]; exact hk
  case done =>
    rintro D O W6 hD hI6 hk6 hm6 hKD
    have z1 := HS1.out
    have z2 := HS5.out
    have ca := hI6.a.cell (i := 0) rfl
    have fa := hI6.a.frozen 0
    have HD : Hid (decide (∃ x ∈ G.flatMap (nb4 W H), k x) = false) := hide (decide_eq_false (fun ⟨x, h1, h2⟩ => hI6.no x h1 h2))
    have HV9 : Hid (Vb (W6.setCell ⟨w.heap.size + 2, 0, none⟩ (.bool false)) (w.heap.size + 2) 4 [.bool false]) := hide (hI6.a.set 0 (.bool false))
    have kk : Keeps (fun j => j = w.heap.size + 2) W6 (W6.setCell ⟨w.heap.size + 2, 0, none⟩ (.bool false)) := Keeps.set1 _ _ _ _
    have HB9 : Hid (Below w.heap.size w (W6.setCell ⟨w.heap.size + 2, 0, none⟩ (.bool false))) := hide (hI6.bl.trans (kk.below hI6.bl.size (fun j hj e => by omega)))
    have HMK : Hid (Marks (w.heap.size + 3) (W6.setCell ⟨w.heap.size + 2, 0, none⟩ (.bool false)) [{ target := .collected D, args := #[] }]) := hide ⟨[D], rfl, by simp, (fun E hE => by rw [List.mem_singleton.1 hE]; exact (kk.block D (Array.getElem?_eq_some_iff.1 hKD).1 (fun e => by omega)).trans hKD), (fun E hE => by rw [List.mem_singleton.1 hE]; omega)⟩
    clear hI6 hk6 hm6 hKD hD z1 z2 kk
    go_wp2_with fail
    refine leaves_marks HMK.out (fun w9 hk9 => ?_)
    exact ⟨_, results_b1 rfl _ _ (w.heap.size + 2) rfl ((HV9.out.keeps hk9 (fun e => by have := e.1; omega)).cell (i := 0) rfl), by rw [HD.out], HB9.out.trans (hk9.below HB9.out.size (fun q hq e => by have := e.1; omega))⟩
  case stop =>
    rintro d D O W6 hD ⟨rfl, h1, h2, h3, h4⟩ hk6 hm6 hKD
    have z1 := HS1.out
    have z2 := HS5.out
    have HD : Hid (decide (∃ x ∈ G.flatMap (nb4 W H), k x) = true) := hide (decide_eq_true h3)
    have HV9 := hide h2
    have HB9 := hide h4
    have HMK : Hid (Marks (w.heap.size + 3) W6 [{ target := .collected D, args := #[] }]) := hide ⟨[D], rfl, by simp, (fun E hE => by rw [List.mem_singleton.1 hE]; exact hKD), (fun E hE => by rw [List.mem_singleton.1 hE]; omega)⟩
    clear hk6 hm6 hKD hD z1 z2 h1 h2 h3 h4
    refine wpIn_wide.2 ?_
    go_wp2
    refine leaves_marks HMK.out (fun w9 hk9 => ?_)
    exact ⟨_, results_b1 rfl _ _ (w.heap.size + 2) rfl ((HV9.out.keeps hk9 (fun e => by have := e.1; omega)).cell (i := 0) rfl), by rw [HD.out], HB9.out.trans (hk9.below HB9.out.size (fun q hq e => by have := e.1; omega))⟩

end Go.Proofs.Ytafiaimlmdflnaa
