/-
  Draughts: steps counted by sets, without being gone one by one; the count of one move. No conditions beyond those that each theorem bears.
  Draughts: how many ways there are: choices, walked; the count at every depth. No conditions beyond those that each theorem bears.
  Draughts: the count at every depth; the face Count, walked. No conditions beyond those that each theorem bears.
-/
import Derived.Test.YtnbaangnpoblfaaDoorDk0
namespace Go.Proofs.YtnbaangnpoblfaaDoor
open Go.RowKit Go.Shelf

theorem nb_inj : ∀ d, d < 4 → ∀ p, p < 33 → ∀ q, q < 33 → nb d p ≠ 0 → nb d p = nb d q → p = q := by decide +kernel

/-- Can the piece at a place step in a direction? -/
def cst (Z : List Int) (d p : Nat) : Bool := decide (fwd (Z.getD p 0) d = true ∧ nb d p ≠ 0 ∧ Z.getD (nb d p) 0 = 0)

theorem stN_len (Z : List Int) (p : Nat) : (stN Z p).length = (if cst Z 0 p = true then 1 else 0) + (if cst Z 1 p = true then 1 else 0) + (if cst Z 2 p = true then 1 else 0) + (if cst Z 3 p = true then 1 else 0) := by
  have e : ∀ d, stpN Z p d = if cst Z d p = true then some ([p, nb d p], []) else none := by
    intro d
    unfold stpN cst
    simp only [decide_eq_true_eq]
  unfold stN
  simp only [List.filterMap_cons, List.filterMap_nil, e]
  by_cases h0 : cst Z 0 p = true <;> by_cases h1 : cst Z 1 p = true <;> by_cases h2 : cst Z 2 p = true <;> by_cases h3 : cst Z 3 p = true <;> simp [h0, h1, h2, h3]

theorem flat_st (Z : List Int) : ∀ L : List Nat, (L.flatMap (stN Z)).length = (L.filter (cst Z 0)).length + (L.filter (cst Z 1)).length + (L.filter (cst Z 2)).length + (L.filter (cst Z 3)).length := by
  intro L
  induction L with
  | nil => rfl
  | cons p L ih =>
    rw [List.flatMap_cons, List.length_append, ih, stN_len]
    simp only [List.filter_cons]
    by_cases h0 : cst Z 0 p = true <;> by_cases h1 : cst Z 1 p = true <;> by_cases h2 : cst Z 2 p = true <;> by_cases h3 : cst Z 3 p = true <;> simp [h0, h1, h2, h3] <;> omega

theorem bln_nodup (m n : Nat) : (bln m n).Nodup := List.Pairwise.filter _ List.nodup_range

theorem goe_tb {Z : List Int} {t : Nat} (h : Mb Z t) {p d : Nat} (h1 : 1 ≤ p) (h2 : p ≤ 32) : ((sn Z t).goe d).testBit (bitn p) = true ↔ p ∈ plc Z t ∧ fwd (Z.getD p 0) d = true := by
  constructor
  · intro hb
    have ho := goe_sub (sn Z t) d (bitn p) hb
    have hp : p ∈ plc Z t := by
      rw [own_bit h1 h2] at ho
      rw [plc, List.mem_filter, List.mem_range]
      exact ⟨by omega, by simp [h1, ho]⟩
    refine ⟨hp, ?_⟩
    have hg := goe_bit h (d := d) hp
    by_cases hf : fwd (Z.getD p 0) d = true
    · exact hf
    · rw [if_neg hf] at hg
      have := congrArg (fun x => x.testBit (bitn p)) hg
      simp only [Nat.testBit_and, tb_e2, hb, decide_true, Bool.and_true, Nat.zero_testBit] at this
      cases this
  · rintro ⟨hp, hf⟩
    have hg := goe_bit h (d := d) hp
    rw [if_pos hf] at hg
    have := congrArg (fun x => x.testBit (bitn p)) hg
    simp only [Nat.testBit_and, tb_e2, decide_true, Bool.and_true] at this
    exact this

/-- STEPS IN ONE DIRECTION ARE AS MANY AS THE BITS. -/
theorem bits_steps {Z : List Int} {t : Nat} (h : Mb Z t) {d : Nat} (hd : d < 4) : (bln (stp d ((sn Z t).goe d) &&& (sn Z t).emp) 64).length = ((plc Z t).filter (cst Z d)).length := by
  have ht : t = 1 ∨ t = 2 := by have := h.tt; omega
  have hb : BOk (sn Z t) := sn_ok h
  have hA : Sub ((sn Z t).goe d) ALL := goe_all hb d
  have hnd : (((plc Z t).filter (cst Z d)).map fun p => bitn (nb d p)).Nodup := by
    have hpl : (plc Z t).Nodup := List.Pairwise.filter _ List.nodup_range
    have hfl : ((plc Z t).filter (cst Z d)).Nodup := List.Pairwise.filter _ hpl
    rw [List.nodup_iff_pairwise_ne, List.pairwise_map]
    refine List.Pairwise.imp_of_mem ?_ hfl
    intro p q hp hq hne he
    rw [List.mem_filter] at hp hq
    obtain ⟨p2, p1, -⟩ := mem_plc.1 hp.1
    obtain ⟨q2, q1, -⟩ := mem_plc.1 hq.1
    have cp := of_decide_eq_true hp.2
    have cq := of_decide_eq_true hq.2
    have := bitn_inj (by omega) (by omega) he
    exact hne (nb_inj d hd p (by omega) q (by omega) cp.2.1 this)
  have hperm : (bln (stp d ((sn Z t).goe d) &&& (sn Z t).emp) 64).Perm (((plc Z t).filter (cst Z d)).map fun p => bitn (nb d p)) := by
    refine (List.perm_ext_iff_of_nodup (bln_nodup _ _) hnd).2 fun i => ?_
    rw [mem_bln, List.mem_map, Nat.testBit_and, Bool.and_eq_true]
    constructor
    · rintro ⟨hi, hs, he⟩
      have hAi := Sub.stp d _ i hs
      have hi36 : i < 36 := by
        by_cases hh : i < 36
        · exact hh
        · have := (Sub.refl ALL).lt
          have := Nat.testBit_lt_two_pow (x := ALL) (i := i) (Nat.lt_of_lt_of_le this (Nat.pow_le_pow_right (by omega) (by omega)))
          rw [this] at hAi; cases hAi
      obtain ⟨q, q2, q1, rfl⟩ := all_bitn i hi36 hAi
      obtain ⟨p, p1, p2, hg, hn⟩ := (stp_mem hd hA q1).1 hs
      obtain ⟨hp, hf⟩ := (goe_tb h p1 p2).1 hg
      refine ⟨p, List.mem_filter.2 ⟨hp, decide_eq_true ⟨hf, by omega, ?_⟩⟩, by rw [hn]⟩
      rw [hn]
      rw [emp_bit ht q1 q2] at he
      exact of_decide_eq_true he
    · rintro ⟨p, hp, rfl⟩
      rw [List.mem_filter] at hp
      obtain ⟨p2, p1, -⟩ := mem_plc.1 hp.1
      obtain ⟨hf, hn, hz⟩ := of_decide_eq_true hp.2
      have hn2 := nb_le (p := p) hd (by omega)
      refine ⟨Nat.lt_of_lt_of_le (bitn_lt hn2) (by omega), (stp_mem hd hA (by omega)).2 ⟨p, p1, by omega, (goe_tb h p1 (by omega)).2 ⟨hp.1, hf⟩, rfl⟩, ?_⟩
      rw [emp_bit ht (by omega) hn2]
      exact decide_eq_true hz
  have := hperm.length_eq
  rwa [List.length_map] at this

theorem steps_len {Z : List Int} {t : Nat} (h : Mb Z t) (hj : jmsN Z t = false) : (bln (stp 0 ((sn Z t).goe 0) &&& (sn Z t).emp) 64).length + (bln (stp 1 ((sn Z t).goe 1) &&& (sn Z t).emp) 64).length + (bln (stp 2 ((sn Z t).goe 2) &&& (sn Z t).emp) 64).length + (bln (stp 3 ((sn Z t).goe 3) &&& (sn Z t).emp) 64).length = (wyN Z t).length := by
  rw [bits_steps h (by omega), bits_steps h (by omega), bits_steps h (by omega), bits_steps h (by omega), ← flat_st]
  have e : way1N Z t = stN Z := by
    funext p
    unfold way1N
    rw [hj]
    rfl
  unfold wyN
  rw [e]

/-- One move: the count is how many there are. -/
theorem cnt_one (Z : List Int) (t : Nat) : cntR 1 Z t = ((wyN Z t).length : Nat) := by
  have hl := wyN_len Z t
  have key : ∀ (L : List (List Nat × List Nat)) (k : Nat), k + L.length ≤ 553648128 → L.foldl (fun s y => IntKind.i64.wrap (s + cntR 0 (doR Z y.1) (3 - t))) (k : Int) = ((k + L.length : Nat) : Int) := by
    intro L
    induction L with
    | nil => intro k _; simp
    | cons y L ih =>
      intro k hk
      rw [List.length_cons] at hk
      have e : IntKind.i64.wrap ((k : Int) + cntR 0 (doR Z y.1) (3 - t)) = ((k + 1 : Nat) : Int) := by
        rw [show cntR 0 (doR Z y.1) (3 - t) = 1 from rfl, IntKind.wrap_i64]; omega
      rw [List.foldl_cons, e, ih (k + 1) (by omega), List.length_cons]
      congr 1; omega
  have := key (wyN Z t) 0 (by omega)
  simpa [cntR] using this

end Go.Proofs.YtnbaangnpoblfaaDoor

namespace Go.Proofs.YtnbaangnpoblfaaDoor
open Go.RowKit Go.Shelf

/-- Steps in the first directions. -/
def sD (b : Bm) (j : Nat) : Nat := ((List.range j).map fun d => (bln (stp d (b.goe d) &&& b.emp) 64).length).sum
theorem sD_zero (b : Bm) : sD b 0 = 0 := rfl
theorem sD_succ (b : Bm) (j : Nat) : sD b (j + 1) = sD b j + (bln (stp j (b.goe j) &&& b.emp) 64).length := by
  unfold sD
  rw [List.range_succ, List.map_append, List.sum_append]; simp
theorem sD_le (b : Bm) (j : Nat) : sD b j ≤ 64 * j := by
  induction j with
  | zero => simp [sD]
  | succ j ih => rw [sD_succ]; have := bln_len (stp j (b.goe j) &&& b.emp) 64; omega
theorem sD_four {Z : List Int} {t : Nat} (h : Mb Z t) (hj : jmsN Z t = false) : sD (sn Z t) 4 = (wyN Z t).length := by
  rw [← steps_len h hj, sD_succ, sD_succ, sD_succ, sD_succ, sD_zero, Nat.zero_add]

theorem wp_calm2 {P : Program} {c : Code} {Q : Exit → Act → World → Prop} {a : Act} {w : World} (h : c.wp P (Exit.then (fun a w => Q .normal a w) (fun _ _ _ => False)) a w) : c.wp P Q a w := wp_mono h (fun e _ _ h => by cases e <;> first | exact h | exact h.elim)

attribute [local irreducible] stp shi Bm.goe Bm.emp sD bln wyN sn wyL bdL mkO
attribute [local go_sem] run_dir wide_fn wide_fn0 wide_depth Oper.semAt_some

set_option maxRecDepth 100000 in
set_option maxHeartbeats 16000000 in
theorem choices_any (Z : List Int) (t : Nat) (hM : Mb Z (t : Nat)) (w : World) (hD : DTab w) :
    Calls Tryd.prog 73 #[.agg (bdL (sn Z t)).toArray] w fun e w' => e = .returned (.int .i64 ((wyN Z t).length : Nat)) ∧ Below w.heap.size w w' := by
  have hb := sn_ok hM
  have HJS := hide (jms_sn hM)
  have HSF := hide (fun hj => sD_four hM hj)
  have HSQ := hide (fun bb => waysN_o hM bb)
  have HBL : Hid ((bdL (sn Z t)).length = 4) := hide (by unfold bdL; rfl)
  have HJU := hide (fun w hT => jumps_any (sn Z t) hb w hT)
  have HGO := hide (fun d (hd : d < 4) W => goers_any (sn Z t) hb d hd W)
  have HST := hide (fun d p (hd : d < 4) (hp : Sub p ALL) W => step_any d p hd hp W)
  have HEM := hide (fun W => empty_any (sn Z t) hb W)
  have HCT := hide count_any
  have HGA := hide (goe_all hb)
  have HEA := hide (emp_all (sn Z t))
  have HSS := hide (sD_succ (sn Z t))
  have HSZ := hide (sD_zero (sn Z t))
  have HSL := hide (sD_le (sn Z t))
  have HWL := hide (wyN_len Z t)
  obtain ⟨w1, hw1⟩ : ∃ w1, w.alloc (.cells (bdL (sn Z t)).toArray 60) = w1 := ⟨_, rfl⟩
  have HB1 : Hid (Below w.heap.size w w1) := hide (by rw [← hw1]; exact (Below.refl _ _).alloc (Nat.le_refl _) _)
  have V1 : Vb w1 w.heap.size 60 (bdL (sn Z t)) := by rw [← hw1]; exact Vb.new _ _ _
  have HD1 := hide (hD.mono HB1.out)
  obtain ⟨w2, hw2⟩ : ∃ w2, w1.alloc (.cells #[.int .i64 0] 3) = w2 := ⟨_, rfl⟩
  have B12 : Below w1.heap.size w1 w2 := by rw [← hw2]; exact (Below.refl _ _).alloc (Nat.le_refl _) _
  have N2 : Vb w2 w1.heap.size 3 [.int .i64 0] := by rw [← hw2]; exact Vb.new _ _ _
  have n0 := N2.cell (i := 0) rfl
  have fn0 := N2.frozen 0
  obtain ⟨w3, hw3⟩ : ∃ w3, w2.setCell ⟨w1.heap.size, 0, none⟩ (.int .i64 0) = w3 := ⟨_, rfl⟩
  have N3 : Vb w3 w1.heap.size 3 [.int .i64 0] := by rw [← hw3]; exact N2.set 0 _
  have B13 : Below w1.heap.size w1 w3 := by rw [← hw3]; exact B12.setCell (p := ⟨w1.heap.size, 0, none⟩) (Nat.le_refl _) _
  have V3 : Vb w3 w.heap.size 60 (bdL (sn Z t)) := V1.mono B13
  have HB3 : Hid (Below w.heap.size w w3) := hide (HB1.out.trans (B13.mono HB1.out.size))
  have HN3 := hide N3
  have HD3 := hide (HD1.out.mono B13)
  have HV3 := hide V3
  have HLT : Hid (w.heap.size < w1.heap.size ∧ w1.heap.size < w3.heap.size ∧ 0 < w1.heap.size) := hide ⟨V1.lt, N3.lt, HD1.out.lt⟩
  have HWE : Hid (w1.heap.size = w.heap.size + 1) := hide (by rw [← hw1]; simp)
  clear B13 N3 HD1 hM hD hb V1 B12 N2
  refine (callsIn_wide (n := 3)).1 ?_
  refine callsIn_of_wp_marks Tryd.func73 rfl trivial ?_ rfl
  simp only [Tryd.ntmps73, List.size_toArray, List.length_cons, List.length_nil, Nat.reduceAdd, Nat.reduceSub, Array.replicate_succ, Array.replicate_zero, List.push_toArray, List.append_toArray, List.nil_append, List.cons_append]
  refine wpIn_wide.2 ?_
  go_upto_region 1 with fail
  clear hw1
  go_upto_region 2 with fail
  clear hw2 hw3 n0 fn0
  go_wp2_with (refine wpList_load_bd rfl (.tmp 1) rfl w.heap.size rfl V3 ?_)
  refine (HJU.out _ HD3.out).mono ?_
  rintro e w4 ⟨rfl, hb4⟩
  have HB4 := hide (HB3.out.trans (hb4.mono HB3.out.size))
  have HN4 := hide (HN3.out.mono hb4)
  have HD4 := hide (HD3.out.mono hb4)
  have V4 := HV3.out.mono hb4
  have HV4 := hide V4
  have HS4 : Hid (w3.heap.size ≤ w4.heap.size) := hide hb4.size
  clear hb4 V3 HB3 HN3 HD3 HV3
  obtain ⟨nb0, hnb⟩ : ∃ nb0, w1.heap.size = nb0 := ⟨_, rfl⟩
  rw [hnb] at HN4 HLT ⊢
  rw [HJS.out]
  clear hnb HJU
  cases hj : jmsN Z t with
  | true =>
    clear HSF HGO HST HEM HCT HGA HEA HSS HSZ HSL
    go_wp2_with (refine wpList_load_bd rfl (.tmp 1) rfl w.heap.size rfl V4 ?_)
    refine (ways_any (sn Z t) _).mono ?_
    rintro e w5 ⟨rfl, hw5⟩
    have B5 : Below w4.heap.size w4 w5 := by rw [hw5]; exact (Below.refl _ _).alloc (Nat.le_refl _) _
    have HVB : Hid (Vb w5 w4.heap.size 60 (bdL (sn Z t))) := hide (by rw [hw5]; exact Vb.new _ _ _)
    have HS5 : Hid (w5.heap.size = w4.heap.size + 1) := hide (by rw [hw5]; simp)
    have HB5 := hide (HB4.out.trans (B5.mono HB4.out.size))
    have HN5 := hide (HN4.out.mono B5)
    have HD5 := hide (HD4.out.mono B5)
    clear hw5 B5 V4 HB4 HN4 HD4 HV4
    go_wp2_with fail
    refine (wpIn_wide (n := 1)).1 (wp_range_o (gf := 60) (lb := #[.pointer (some ⟨w4.heap.size, 0, none⟩)]) (G := WyN) (xs := wyN Z t) (R := WaR w4.heap.size (sn Z t)) (T := WaT w4.heap.size) (by simp [Act.eval]) (enters_of Tryd.func60 (by kernel_rfl) rfl)
      (HSQ.out w4.heap.size) (fun k hk => ?hT) (fun A hA => ⟨HD5.out.mono hA, HVB.out.mono hA⟩) (fun y args W' hG => by rw [hG]; rfl)
      (fun O s W' => (∀ k, O k → k = nb0) ∧ O nb0 ∧ Keeps (fun k => k = nb0 ∨ w5.heap.size ≤ k) w5 W' ∧ Vb W' nb0 3 [.int .i64 (s.length : Nat)])
      (fun _ _ _ => False) (fun k => k = nb0) ?hC ?h0 ?round ?done (fun _ _ _ _ _ h => h.elim))
    case hT =>
      have := HS5.out
      have := HD5.out.lt
      rcases hk with rfl | rfl <;> omega
    case h0 => exact ⟨fun k hk => hk, rfl, Keeps.refl _ _, HN5.out⟩
    case hC =>
      intro d
      have z1 := HLT.out
      have z2 := HS5.out
      have z3 := HS4.out
      refine ⟨?_, ?_, ?_, ?_⟩
      · rintro O s A ⟨h1, _, h3, h4⟩ k hk
        obtain rfl := h1 k hk
        exact ⟨h4.lt, fun e => by rcases e with e | e <;> omega⟩
      · rintro O A h; exact h.elim
      · rintro O s A B ⟨h1, h2, h3, h4⟩ hk
        exact ⟨h1, h2, h3.trans (hk.mono (fun k _ e => Or.inr e.1)), h4.keeps hk (fun e => e.2 h2)⟩
      · rintro O A B h; exact h.elim
    case round =>
      rintro l2 O s y args W1 hl2 hrec ⟨h1, h2, h3, h4⟩ hOl _ hOm hpre hG hsz
      obtain rfl : args = #[.agg (wyL (y.1.map e2) (mkO y.2)).toArray] := hG
      have hsl : s.length ≤ 553648128 := by
        have h5 := hpre.length_le
        rw [List.length_append, List.length_singleton] at h5
        have := HWL.out
        omega
      have HLN : Hid ((s ++ [y]).length = s.length + 1) := hide (by simp)
      have HH := hide (And.intro h1 (And.intro h2 (And.intro h3 h4)))
      have HL2 : Hid (l2 = w5.heap.size + 1 ∧ w5.heap.size + 2 ≤ W1.heap.size) := hide ⟨hl2, hsz⟩
      clear h1 h2 h3 h4 hOl hl2 hsz hrec hpre hOm
      generalize (wyL (y.1.map e2) (mkO y.2)).toArray = WA
      gi_wp2
      refine ⟨Below.refl _ _, ?_⟩
      intro W3 hk3
      obtain ⟨h1, h2, h3, h4⟩ := HH.out
      have z := HL2.out
      have z1 := HLT.out
      have z2 := HS5.out
      have z3 := HS4.out
      have K53 : Keeps (fun k => k = nb0 ∨ w5.heap.size ≤ k) w5 W3 := h3.trans (hk3.mono (fun k _ e => by omega))
      have N3 : Vb W3 nb0 3 [.int .i64 (s.length : Nat)] := h4.keeps hk3 (by omega)
      obtain ⟨sl, hsle⟩ : ∃ sl, s.length = sl := ⟨_, rfl⟩
      rw [hsle] at N3 hsl HLN
      have nc := N3.cell (i := 0) rfl
      have nf := N3.frozen 0
      have HNS : Hid (Vb (W3.setCell ⟨nb0, 0, none⟩ (.int .i64 ((sl : Int) + 1))) nb0 3 [.int .i64 ((sl : Int) + 1)]) := hide (N3.set 0 _)
      have HKS : Hid (Keeps (fun k => k = nb0) W3 (W3.setCell ⟨nb0, 0, none⟩ (.int .i64 ((sl : Int) + 1)))) := hide (Keeps.set1 W3 nb0 0 _)
      have HO1 := hide h1
      have HO2 := hide h2
      have HK53 := hide K53
      clear h1 h2 h3 h4 HH z z1 z2 z3 K53 hk3 N3 hsle
      gi_wp2
      refine ⟨HKS.out.mono (fun k _ e => e ▸ HO2.out), O, fun k _ h => h, HO1.out, HO2.out, HK53.out.trans (HKS.out.mono (fun k _ e => Or.inl e)), ?_⟩
      rw [HLN.out]
      exact HNS.out
    case done =>
      rintro D O W6 hD ⟨h1, h2, h3, h4⟩ hk6 hm6 hK
      subst hD
      have zl := HLT.out
      have c6 := h4.cell (i := 0) rfl
      have HBF : Hid (Below w.heap.size w (W6.putObj w5.heap.size (.deferred none))) := hide (HB5.out.trans (((h3.mono (Y := fun k => w.heap.size ≤ k) (fun k _ e => by have := HB5.out.size; omega)).trans ((Keeps.put (X := fun k => k = w5.heap.size) (Keeps.refl _ W6) (l := w5.heap.size) rfl (.deferred none)).mono (fun k _ e => by have := HB5.out.size; omega))).below HB5.out.size (fun k hk e => by omega)))
      clear h1 h2 h3 h4 hk6 hm6
      go_wp2_with fail
      refine ⟨by simp, .inl ⟨_, _, rfl, run_takeDeferred hK, ?_⟩⟩
      exact ⟨_, by simp [results], rfl, HBF.out⟩
  | false =>
    have HRES : Hid (sD (sn Z t) 4 = (wyN Z t).length) := hide (HSF.out hj)
    have HR0 := HD4.out
    clear HSF HSQ HWL hj
    go_wp2_with (refine wpList_load_mid rfl 105 _ rfl 0 0 rfl dirV _ HR0 Tryd.underlying105 rfl size105 ?_)
    clear HR0 V4
    have HN0 : Hid (Vb w4 nb0 3 [.int .i64 (sD (sn Z t) 0 : Nat)]) := hide (by rw [HSZ.out]; exact HN4.out)
    clear HN4
    go_loopw [15] (fun v wr => ∃ j : Nat, v = .int .i64 j ∧ j ≤ 4 ∧ Hid (Vb wr nb0 3 [.int .i64 (sD (sn Z t) j : Nat)]) ∧ Hid (Keeps (fun k => k = nb0) w4 wr)) (fun v _ => 4 - (intOf v).toNat)
    case atStart => exact ⟨0, rfl, by omega, HN0, hide (Keeps.refl _ _)⟩
    case round =>
      obtain ⟨j, rfl, hj, hN, hK⟩ := hrel
      clear HN0
      by_cases hj4 : j < 4
      · have hj4' : (j : Int) < 4 := by omega
        have HNR := hide hN.out
        have HZB : Hid (¬ w.heap.size = nb0) := hide (by have := HLT.out; omega)
        have HVR : Hid (Vb wr w.heap.size 60 (bdL (sn Z t))) := hide (HV4.out.keeps hK.out HZB.out)
        obtain ⟨g, hg⟩ : ∃ g, (sn Z t).goe j = g := ⟨_, rfl⟩
        have HG := hide (hg ▸ HGO.out j hj4)
        have HGS : Hid (Sub g ALL) := hide (hg ▸ HGA.out j)
        obtain ⟨s, hs⟩ : ∃ s, stp j g = s := ⟨_, rfl⟩
        have HS1 := hide (hs ▸ HST.out j g hj4 HGS.out)
        have hsS : Sub s ALL := hs ▸ Sub.stp j g
        have ea := and_nat hsS.lt64 HEA.out.lt64
        have HSJ := hide (HSS.out j)
        have hsl := HSL.out j
        obtain ⟨q, hq⟩ : ∃ q, s &&& (sn Z t).emp = q := ⟨_, rfl⟩
        have hq64 : q < 2 ^ 64 := by rw [← hq]; exact (Sub.and_left hsS).lt64
        have HC1 := hide (HCT.out q hq64)
        have hbl := bln_len q 64
        rw [hg, hs, hq] at HSJ
        rw [hq] at ea
        obtain ⟨lq, hlq⟩ : ∃ lq, (bln q 64).length = lq := ⟨_, rfl⟩
        rw [hlq] at HC1 hbl HSJ
        obtain ⟨m, hm⟩ : ∃ m, sD (sn Z t) j = m := ⟨_, rfl⟩
        rw [hm] at HSJ HNR hsl
        clear hg hs hsS hq hq64 hlq hm hN
        go_upto_region 9 with fail
        refine wp_calm2 ?_
        refine wp_region_held (S := fun W4 => Keeps (fun k => k = nb0) wr W4) (by kernel_rfl) ?_
        change wpAnyH _ _ _ _ _ _ _ _ (World.drew _)
        have SW : Keeps (fun k => k = nb0) wr wr.drew := (Keeps.refl _ wr).drew
        have BD : Below wr.heap.size wr wr.drew := drewN_below _ _ 1
        generalize wr.drew = wd at *
        have nd := (HNR.out.mono BD).cell (i := 0) rfl
        have BC : Below wd.heap.size wd wd := Below.refl _ _
        refine wpAnyH_take (i := 1) (v := .agg (bdL (sn Z t)).toArray) rfl (by kernel_rfl) (by kernel_rfl) (by kernel_rfl) (fun _ _ _ h => h) (yieldsIf_load_mid (by rfl) 60 _ rfl w.heap.size 0 (by rfl) (bdL (sn Z t)) _ (fun W hW => (HVR.out.keeps hW HZB.out).range) Tryd.underlying60 rfl (by rw [HBL.out]; exact size60)) SW ?_
        go_simp
        refine wpAnyH_take (i := 2) (v := .int .i64 (shi j)) rfl (by kernel_rfl) (by kernel_rfl) (by kernel_rfl) (fun _ _ _ h => h) (Or.inl ⟨by rfl, ?_⟩) SW ?_
        · intro W4 hW4
          go_simp <;> first | done | rfl | (rw [IntKind.wrap_i64]; omega) | omega
        go_simp
        refine wpAnyH_take (i := 4) (v := .int .i64 (shi j)) rfl (by kernel_rfl) (by kernel_rfl) (by kernel_rfl) (fun _ _ _ h => h) (Or.inl ⟨by rfl, ?_⟩) SW ?_
        · intro W4 hW4
          go_simp <;> first | done | rfl | (rw [IntKind.wrap_i64]; omega) | omega
        go_simp
        refine wpAnyH_take (i := 6) (v := .agg (bdL (sn Z t)).toArray) rfl (by kernel_rfl) (by kernel_rfl) (by kernel_rfl) (fun _ _ _ h => h) (yieldsIf_load_mid (by rfl) 60 _ rfl w.heap.size 0 (by rfl) (bdL (sn Z t)) _ (fun W hW => (HVR.out.keeps hW HZB.out).range) Tryd.underlying60 rfl (by rw [HBL.out]; exact size60)) SW ?_
        go_simp
        refine wpAnyH_ready (rs := [0, 3]) (by kernel_rfl) (by simp) ?_
        refine AllReadyH.cons rfl (fun K1 hK1 => ?_) (AllReadyH.cons rfl (fun K1 hK1 => ?_) AllReadyH.nil)
        · have nc1 := (BC.cell (p := ⟨nb0, 0, none⟩) (World.block_lt_of_cell? wd _ nd)).trans nd
          go_simp
          refine hK1.out _ _ SW (fun SW => ?_)
          clear hK1 K1 nc1
          go_simp
          refine wpAnyH_ready (rs := [3]) (by kernel_rfl) (by simp) ?_
          refine AllReadyH.cons rfl (fun K1 hK1 => ?_) AllReadyH.nil
          · go_simp
            refine (HG.out _).mono ?_
            rintro r v2 ⟨rfl, hb2⟩
            have BC2 := BC.trans (hb2.mono BC.size)
            refine hK1.out _ _ (SW.trans (Keeps.of_all hb2)) (fun SW => ?_)
            clear hK1 K1 hb2
            go_simp
            refine wpAnyH_ready (rs := [5]) (by kernel_rfl) (by simp) ?_
            refine AllReadyH.cons rfl (fun K1 hK1 => ?_) AllReadyH.nil
            · go_simp
              refine (HS1.out _).mono ?_
              rintro r v3 ⟨rfl, hw3⟩
              subst v3
              refine hK1.out _ _ SW (fun SW => ?_)
              clear hK1 K1
              go_simp
              refine wpAnyH_ready (rs := [7]) (by kernel_rfl) (by simp) ?_
              refine AllReadyH.cons rfl (fun K1 hK1 => ?_) AllReadyH.nil
              · go_simp
                refine (HEM.out _).mono ?_
                rintro r v4 ⟨rfl, hb4⟩
                have BC4 := BC2.trans (hb4.mono BC2.size)
                refine hK1.out _ _ (SW.trans (Keeps.of_all hb4)) (fun SW => ?_)
                clear hK1 K1 hb4
                go_simp
                refine wpAnyH_take (i := 8) (v := .int .u64 (q : Nat)) rfl (by kernel_rfl) (by kernel_rfl) (by kernel_rfl) (fun _ _ _ h => h) (Or.inl ⟨by rfl, ?_⟩) SW ?_
                · intro W4 hW4
                  have x0 := ea
                  go_simp <;> first | done | rfl | (rw [IntKind.wrap_i64]; omega) | omega
                go_simp
                refine wpAnyH_ready (rs := [9]) (by kernel_rfl) (by simp) ?_
                refine AllReadyH.cons rfl (fun K1 hK1 => ?_) AllReadyH.nil
                · go_simp
                  refine (HC1.out _).mono ?_
                  rintro r v5 ⟨rfl, hw5⟩
                  subst v5
                  refine hK1.out _ _ SW (fun SW => ?_)
                  clear hK1 K1
                  go_simp
                  refine wpAnyH_take (i := 10) (v := .int .i64 ((m : Int) + (lq : Int))) rfl (by kernel_rfl) (by kernel_rfl) (by kernel_rfl) (fun _ _ _ h => h) (Or.inl ⟨by rfl, ?_⟩) SW ?_
                  · intro W4 hW4
                    go_simp <;> first | done | rfl | (rw [IntKind.wrap_i64]; omega) | omega
                  go_simp
                  have ncF := (BC4.cell (p := ⟨nb0, 0, none⟩) (World.block_lt_of_cell? wd _ nd)).trans nd
                  have NF : Vb v4 nb0 3 [.int .i64 (m : Nat)] := (HNR.out.mono BD).mono BC4
                  have ffF := NF.frozen 0
                  have HNS : Hid (Vb (v4.setCell ⟨nb0, 0, none⟩ (.int .i64 ((m : Int) + (lq : Int)))) nb0 3 [.int .i64 ((m : Int) + (lq : Int))]) := hide (NF.set 0 _)
                  have HKS : Hid (Keeps (fun k => k = nb0) v4 (v4.setCell ⟨nb0, 0, none⟩ (.int .i64 ((m : Int) + (lq : Int))))) := hide (Keeps.set1 v4 nb0 0 _)
                  clear NF
                  refine wpAnyH_ready (rs := [11]) (by kernel_rfl) (by simp) ?_
                  refine AllReadyH.cons rfl (fun K1 hK1 => ?_) AllReadyH.nil
                  go_simp
                  refine hK1.out _ _ (SW.trans HKS.out) (fun SW => ?_)
                  clear hK1 K1 ncF ffF
                  generalize v4.setCell ⟨nb0, 0, none⟩ (.int .i64 ((m : Int) + (lq : Int))) = we at *
                  go_simp
                  refine wpAnyH_done (by kernel_rfl) ?_ _
                  have HKE := hide SW
                  clear SW
                  go_wp2_with fail
                  exact ⟨⟨j + 1, by go_num, by omega, hide (by rw [HSJ.out, Int.natCast_add]; exact HNS.out), hide (hK.out.trans HKE.out)⟩, by simp [intOf]; omega⟩
        · go_simp
          refine (HG.out _).mono ?_
          rintro r v6 ⟨rfl, hb6⟩
          have BC6 := BC.trans (hb6.mono BC.size)
          refine hK1.out _ _ (SW.trans (Keeps.of_all hb6)) (fun SW => ?_)
          clear hK1 K1 hb6
          go_simp
          refine wpAnyH_ready (rs := [0, 5]) (by kernel_rfl) (by simp) ?_
          refine AllReadyH.cons rfl (fun K1 hK1 => ?_) (AllReadyH.cons rfl (fun K1 hK1 => ?_) AllReadyH.nil)
          · have nc7 := (BC6.cell (p := ⟨nb0, 0, none⟩) (World.block_lt_of_cell? wd _ nd)).trans nd
            go_simp
            refine hK1.out _ _ SW (fun SW => ?_)
            clear hK1 K1 nc7
            go_simp
            refine wpAnyH_ready (rs := [5]) (by kernel_rfl) (by simp) ?_
            refine AllReadyH.cons rfl (fun K1 hK1 => ?_) AllReadyH.nil
            · go_simp
              refine (HS1.out _).mono ?_
              rintro r v8 ⟨rfl, hw8⟩
              subst v8
              refine hK1.out _ _ SW (fun SW => ?_)
              clear hK1 K1
              go_simp
              refine wpAnyH_ready (rs := [7]) (by kernel_rfl) (by simp) ?_
              refine AllReadyH.cons rfl (fun K1 hK1 => ?_) AllReadyH.nil
              · go_simp
                refine (HEM.out _).mono ?_
                rintro r v9 ⟨rfl, hb9⟩
                have BC9 := BC6.trans (hb9.mono BC6.size)
                refine hK1.out _ _ (SW.trans (Keeps.of_all hb9)) (fun SW => ?_)
                clear hK1 K1 hb9
                go_simp
                refine wpAnyH_take (i := 8) (v := .int .u64 (q : Nat)) rfl (by kernel_rfl) (by kernel_rfl) (by kernel_rfl) (fun _ _ _ h => h) (Or.inl ⟨by rfl, ?_⟩) SW ?_
                · intro W4 hW4
                  have x0 := ea
                  go_simp <;> first | done | rfl | (rw [IntKind.wrap_i64]; omega) | omega
                go_simp
                refine wpAnyH_ready (rs := [9]) (by kernel_rfl) (by simp) ?_
                refine AllReadyH.cons rfl (fun K1 hK1 => ?_) AllReadyH.nil
                · go_simp
                  refine (HC1.out _).mono ?_
                  rintro r v10 ⟨rfl, hw10⟩
                  subst v10
                  refine hK1.out _ _ SW (fun SW => ?_)
                  clear hK1 K1
                  go_simp
                  refine wpAnyH_take (i := 10) (v := .int .i64 ((m : Int) + (lq : Int))) rfl (by kernel_rfl) (by kernel_rfl) (by kernel_rfl) (fun _ _ _ h => h) (Or.inl ⟨by rfl, ?_⟩) SW ?_
                  · intro W4 hW4
                    go_simp <;> first | done | rfl | (rw [IntKind.wrap_i64]; omega) | omega
                  go_simp
                  have ncF := (BC9.cell (p := ⟨nb0, 0, none⟩) (World.block_lt_of_cell? wd _ nd)).trans nd
                  have NF : Vb v9 nb0 3 [.int .i64 (m : Nat)] := (HNR.out.mono BD).mono BC9
                  have ffF := NF.frozen 0
                  have HNS : Hid (Vb (v9.setCell ⟨nb0, 0, none⟩ (.int .i64 ((m : Int) + (lq : Int)))) nb0 3 [.int .i64 ((m : Int) + (lq : Int))]) := hide (NF.set 0 _)
                  have HKS : Hid (Keeps (fun k => k = nb0) v9 (v9.setCell ⟨nb0, 0, none⟩ (.int .i64 ((m : Int) + (lq : Int))))) := hide (Keeps.set1 v9 nb0 0 _)
                  clear NF
                  refine wpAnyH_ready (rs := [11]) (by kernel_rfl) (by simp) ?_
                  refine AllReadyH.cons rfl (fun K1 hK1 => ?_) AllReadyH.nil
                  go_simp
                  refine hK1.out _ _ (SW.trans HKS.out) (fun SW => ?_)
                  clear hK1 K1 ncF ffF
                  generalize v9.setCell ⟨nb0, 0, none⟩ (.int .i64 ((m : Int) + (lq : Int))) = we at *
                  go_simp
                  refine wpAnyH_done (by kernel_rfl) ?_ _
                  have HKE := hide SW
                  clear SW
                  go_wp2_with fail
                  exact ⟨⟨j + 1, by go_num, by omega, hide (by rw [HSJ.out, Int.natCast_add]; exact HNS.out), hide (hK.out.trans HKE.out)⟩, by simp [intOf]; omega⟩
          · go_simp
            refine (HS1.out _).mono ?_
            rintro r v11 ⟨rfl, hw11⟩
            subst v11
            refine hK1.out _ _ SW (fun SW => ?_)
            clear hK1 K1
            go_simp
            refine wpAnyH_ready (rs := [0, 7]) (by kernel_rfl) (by simp) ?_
            refine AllReadyH.cons rfl (fun K1 hK1 => ?_) (AllReadyH.cons rfl (fun K1 hK1 => ?_) AllReadyH.nil)
            · have nc12 := (BC6.cell (p := ⟨nb0, 0, none⟩) (World.block_lt_of_cell? wd _ nd)).trans nd
              go_simp
              refine hK1.out _ _ SW (fun SW => ?_)
              clear hK1 K1 nc12
              go_simp
              refine wpAnyH_ready (rs := [7]) (by kernel_rfl) (by simp) ?_
              refine AllReadyH.cons rfl (fun K1 hK1 => ?_) AllReadyH.nil
              · go_simp
                refine (HEM.out _).mono ?_
                rintro r v13 ⟨rfl, hb13⟩
                have BC13 := BC6.trans (hb13.mono BC6.size)
                refine hK1.out _ _ (SW.trans (Keeps.of_all hb13)) (fun SW => ?_)
                clear hK1 K1 hb13
                go_simp
                refine wpAnyH_take (i := 8) (v := .int .u64 (q : Nat)) rfl (by kernel_rfl) (by kernel_rfl) (by kernel_rfl) (fun _ _ _ h => h) (Or.inl ⟨by rfl, ?_⟩) SW ?_
                · intro W4 hW4
                  have x0 := ea
                  go_simp <;> first | done | rfl | (rw [IntKind.wrap_i64]; omega) | omega
                go_simp
                refine wpAnyH_ready (rs := [9]) (by kernel_rfl) (by simp) ?_
                refine AllReadyH.cons rfl (fun K1 hK1 => ?_) AllReadyH.nil
                · go_simp
                  refine (HC1.out _).mono ?_
                  rintro r v14 ⟨rfl, hw14⟩
                  subst v14
                  refine hK1.out _ _ SW (fun SW => ?_)
                  clear hK1 K1
                  go_simp
                  refine wpAnyH_take (i := 10) (v := .int .i64 ((m : Int) + (lq : Int))) rfl (by kernel_rfl) (by kernel_rfl) (by kernel_rfl) (fun _ _ _ h => h) (Or.inl ⟨by rfl, ?_⟩) SW ?_
                  · intro W4 hW4
                    go_simp <;> first | done | rfl | (rw [IntKind.wrap_i64]; omega) | omega
                  go_simp
                  have ncF := (BC13.cell (p := ⟨nb0, 0, none⟩) (World.block_lt_of_cell? wd _ nd)).trans nd
                  have NF : Vb v13 nb0 3 [.int .i64 (m : Nat)] := (HNR.out.mono BD).mono BC13
                  have ffF := NF.frozen 0
                  have HNS : Hid (Vb (v13.setCell ⟨nb0, 0, none⟩ (.int .i64 ((m : Int) + (lq : Int)))) nb0 3 [.int .i64 ((m : Int) + (lq : Int))]) := hide (NF.set 0 _)
                  have HKS : Hid (Keeps (fun k => k = nb0) v13 (v13.setCell ⟨nb0, 0, none⟩ (.int .i64 ((m : Int) + (lq : Int))))) := hide (Keeps.set1 v13 nb0 0 _)
                  clear NF
                  refine wpAnyH_ready (rs := [11]) (by kernel_rfl) (by simp) ?_
                  refine AllReadyH.cons rfl (fun K1 hK1 => ?_) AllReadyH.nil
                  go_simp
                  refine hK1.out _ _ (SW.trans HKS.out) (fun SW => ?_)
                  clear hK1 K1 ncF ffF
                  generalize v13.setCell ⟨nb0, 0, none⟩ (.int .i64 ((m : Int) + (lq : Int))) = we at *
                  go_simp
                  refine wpAnyH_done (by kernel_rfl) ?_ _
                  have HKE := hide SW
                  clear SW
                  go_wp2_with fail
                  exact ⟨⟨j + 1, by go_num, by omega, hide (by rw [HSJ.out, Int.natCast_add]; exact HNS.out), hide (hK.out.trans HKE.out)⟩, by simp [intOf]; omega⟩
            · go_simp
              refine (HEM.out _).mono ?_
              rintro r v15 ⟨rfl, hb15⟩
              have BC15 := BC6.trans (hb15.mono BC6.size)
              refine hK1.out _ _ (SW.trans (Keeps.of_all hb15)) (fun SW => ?_)
              clear hK1 K1 hb15
              go_simp
              refine wpAnyH_take (i := 8) (v := .int .u64 (q : Nat)) rfl (by kernel_rfl) (by kernel_rfl) (by kernel_rfl) (fun _ _ _ h => h) (Or.inl ⟨by rfl, ?_⟩) SW ?_
              · intro W4 hW4
                have x0 := ea
                go_simp <;> first | done | rfl | (rw [IntKind.wrap_i64]; omega) | omega
              go_simp
              refine wpAnyH_ready (rs := [0, 9]) (by kernel_rfl) (by simp) ?_
              refine AllReadyH.cons rfl (fun K1 hK1 => ?_) (AllReadyH.cons rfl (fun K1 hK1 => ?_) AllReadyH.nil)
              · have nc16 := (BC15.cell (p := ⟨nb0, 0, none⟩) (World.block_lt_of_cell? wd _ nd)).trans nd
                go_simp
                refine hK1.out _ _ SW (fun SW => ?_)
                clear hK1 K1 nc16
                go_simp
                refine wpAnyH_ready (rs := [9]) (by kernel_rfl) (by simp) ?_
                refine AllReadyH.cons rfl (fun K1 hK1 => ?_) AllReadyH.nil
                · go_simp
                  refine (HC1.out _).mono ?_
                  rintro r v17 ⟨rfl, hw17⟩
                  subst v17
                  refine hK1.out _ _ SW (fun SW => ?_)
                  clear hK1 K1
                  go_simp
                  refine wpAnyH_take (i := 10) (v := .int .i64 ((m : Int) + (lq : Int))) rfl (by kernel_rfl) (by kernel_rfl) (by kernel_rfl) (fun _ _ _ h => h) (Or.inl ⟨by rfl, ?_⟩) SW ?_
                  · intro W4 hW4
                    go_simp <;> first | done | rfl | (rw [IntKind.wrap_i64]; omega) | omega
                  go_simp
                  have ncF := (BC15.cell (p := ⟨nb0, 0, none⟩) (World.block_lt_of_cell? wd _ nd)).trans nd
                  have NF : Vb v15 nb0 3 [.int .i64 (m : Nat)] := (HNR.out.mono BD).mono BC15
                  have ffF := NF.frozen 0
                  have HNS : Hid (Vb (v15.setCell ⟨nb0, 0, none⟩ (.int .i64 ((m : Int) + (lq : Int)))) nb0 3 [.int .i64 ((m : Int) + (lq : Int))]) := hide (NF.set 0 _)
                  have HKS : Hid (Keeps (fun k => k = nb0) v15 (v15.setCell ⟨nb0, 0, none⟩ (.int .i64 ((m : Int) + (lq : Int))))) := hide (Keeps.set1 v15 nb0 0 _)
                  clear NF
                  refine wpAnyH_ready (rs := [11]) (by kernel_rfl) (by simp) ?_
                  refine AllReadyH.cons rfl (fun K1 hK1 => ?_) AllReadyH.nil
                  go_simp
                  refine hK1.out _ _ (SW.trans HKS.out) (fun SW => ?_)
                  clear hK1 K1 ncF ffF
                  generalize v15.setCell ⟨nb0, 0, none⟩ (.int .i64 ((m : Int) + (lq : Int))) = we at *
                  go_simp
                  refine wpAnyH_done (by kernel_rfl) ?_ _
                  have HKE := hide SW
                  clear SW
                  go_wp2_with fail
                  exact ⟨⟨j + 1, by go_num, by omega, hide (by rw [HSJ.out, Int.natCast_add]; exact HNS.out), hide (hK.out.trans HKE.out)⟩, by simp [intOf]; omega⟩
              · go_simp
                refine (HC1.out _).mono ?_
                rintro r v18 ⟨rfl, hw18⟩
                subst v18
                refine hK1.out _ _ SW (fun SW => ?_)
                clear hK1 K1
                go_simp
                refine wpAnyH_ready (rs := [0]) (by kernel_rfl) (by simp) ?_
                refine AllReadyH.cons rfl (fun K1 hK1 => ?_) AllReadyH.nil
                · have nc19 := (BC15.cell (p := ⟨nb0, 0, none⟩) (World.block_lt_of_cell? wd _ nd)).trans nd
                  go_simp
                  refine hK1.out _ _ SW (fun SW => ?_)
                  clear hK1 K1 nc19
                  go_simp
                  refine wpAnyH_take (i := 10) (v := .int .i64 ((m : Int) + (lq : Int))) rfl (by kernel_rfl) (by kernel_rfl) (by kernel_rfl) (fun _ _ _ h => h) (Or.inl ⟨by rfl, ?_⟩) SW ?_
                  · intro W4 hW4
                    go_simp <;> first | done | rfl | (rw [IntKind.wrap_i64]; omega) | omega
                  go_simp
                  have ncF := (BC15.cell (p := ⟨nb0, 0, none⟩) (World.block_lt_of_cell? wd _ nd)).trans nd
                  have NF : Vb v15 nb0 3 [.int .i64 (m : Nat)] := (HNR.out.mono BD).mono BC15
                  have ffF := NF.frozen 0
                  have HNS : Hid (Vb (v15.setCell ⟨nb0, 0, none⟩ (.int .i64 ((m : Int) + (lq : Int)))) nb0 3 [.int .i64 ((m : Int) + (lq : Int))]) := hide (NF.set 0 _)
                  have HKS : Hid (Keeps (fun k => k = nb0) v15 (v15.setCell ⟨nb0, 0, none⟩ (.int .i64 ((m : Int) + (lq : Int))))) := hide (Keeps.set1 v15 nb0 0 _)
                  clear NF
                  refine wpAnyH_ready (rs := [11]) (by kernel_rfl) (by simp) ?_
                  refine AllReadyH.cons rfl (fun K1 hK1 => ?_) AllReadyH.nil
                  go_simp
                  refine hK1.out _ _ (SW.trans HKS.out) (fun SW => ?_)
                  clear hK1 K1 ncF ffF
                  generalize v15.setCell ⟨nb0, 0, none⟩ (.int .i64 ((m : Int) + (lq : Int))) = we at *
                  go_simp
                  refine wpAnyH_done (by kernel_rfl) ?_ _
                  have HKE := hide SW
                  clear SW
                  go_wp2_with fail
                  exact ⟨⟨j + 1, by go_num, by omega, hide (by rw [HSJ.out, Int.natCast_add]; exact HNS.out), hide (hK.out.trans HKE.out)⟩, by simp [intOf]; omega⟩
      · obtain rfl : j = 4 := by omega
        have c6 := hN.out.cell (i := 0) rfl
        rw [HRES.out] at c6
        have HBF : Hid (Below w.heap.size w wr) := hide (HB4.out.trans ((hK.out.mono (Y := fun k => w.heap.size ≤ k) (fun k _ e => by have := HLT.out; omega)).below HB4.out.size (fun k hk e => by omega)))
        clear hN hK
        go_wp2_with fail
        exact ⟨_, results_tmp rfl _ _ _, rfl, HBF.out⟩

end Go.Proofs.YtnbaangnpoblfaaDoor

namespace Go.Proofs.YtnbaangnpoblfaaDoor
open Go.RowKit Go.Shelf

theorem count_zero (Z : List Int) (t : Nat) (w : World) : Calls Tryd.prog 49 #[.agg (bdL (sn Z t)).toArray, .int .i64 0] w fun e w' => e = .returned (.int .i64 1) ∧ Below w.heap.size w w' := by
  generalize (bdL (sn Z t)).toArray = A
  obtain ⟨w1, hw1⟩ : ∃ w1, (w.alloc (.cells A 60)).alloc (.cells #[.int .i64 0] 3) = w1 := ⟨_, rfl⟩
  have HB1 : Hid (Below w.heap.size w w1) := hide (by rw [← hw1]; exact ((Below.refl _ _).alloc (Nat.le_refl _) _).alloc (by simp) _)
  have l0 : w1.cell? ⟨w.heap.size + 1, 0, none⟩ = some (.int .i64 0) := by
    rw [← hw1]
    have := new_cell (w.alloc (.cells A 60)) (.int .i64 0) 3
    rwa [World.size_alloc] at this
  go_enter Tryd.func49, Tryd.ntmps49
  go_upto_region 1 with fail
  clear hw1
  go_wp2_with fail
  go_ret
  exact ⟨rfl, HB1.out⟩

attribute [local irreducible] wyN sn bdL cntR mayD

theorem count_one (Z : List Int) (t : Nat) (hM : Mb Z (t : Nat)) (w : World) (hD : DTab w) : Calls Tryd.prog 49 #[.agg (bdL (sn Z t)).toArray, .int .i64 1] w fun e w' => e = .returned (.int .i64 (cntR 1 Z t)) ∧ Below w.heap.size w w' := by
  obtain ⟨w1, hw1⟩ : ∃ w1, (w.alloc (.cells (bdL (sn Z t)).toArray 60)).alloc (.cells #[.int .i64 1] 3) = w1 := ⟨_, rfl⟩
  have B1 : Below w.heap.size w w1 := by rw [← hw1]; exact ((Below.refl _ _).alloc (Nat.le_refl _) _).alloc (by simp) _
  have HB1 := hide B1
  have l0 : w1.cell? ⟨w.heap.size + 1, 0, none⟩ = some (.int .i64 1) := by
    rw [← hw1]
    have := new_cell (w.alloc (.cells (bdL (sn Z t)).toArray 60)) (.int .i64 1) 3
    rwa [World.size_alloc] at this
  have V1 : Vb w1 w.heap.size 60 (bdL (sn Z t)) := by rw [← hw1]; exact (Vb.new _ _ _).old _
  have HCH := hide (choices_any Z t hM w1 (hD.mono B1))
  rw [← cnt_one] at HCH
  clear B1 hD hM
  go_enter Tryd.func49, Tryd.ntmps49
  go_upto_region 1 with fail
  clear hw1
  go_wp2_with (refine wpList_load_bd rfl (.tmp 2) rfl w.heap.size rfl V1 ?_)
  refine HCH.out.mono ?_
  rintro e w2 ⟨rfl, hb2⟩
  have HB2 := hide (HB1.out.trans (hb2.mono HB1.out.size))
  clear hb2
  go_wp2_with fail
  go_ret
  exact ⟨rfl, HB2.out⟩

theorem count_all : ∀ f, f ≤ 6 → ∀ Z t, Mb Z (t : Nat) → ∀ w, DTab w → TzT w → Calls Tryd.prog 49 #[.agg (bdL (sn Z t)).toArray, .int .i64 (f : Nat)] w fun e w' => e = .returned (.int .i64 (cntR f Z t)) ∧ Below w.heap.size w w'
  | 0, _ => fun Z t _ w _ _ => by
    have hc : cntR 0 Z t = 1 := by rw [cntR]
    rw [hc]
    exact count_zero Z t w
  | 1, _ => fun Z t hM w hD _ => count_one Z t hM w hD
  | f + 2, hf => fun Z t hM w hD hT => count_succ (f + 1) (by omega) (by omega) (count_all (f + 1) (by omega)) Z t hM w hD hT

theorem Count_no (t : Int) (a : Option Addr) (n c : Nat) (Z : List Int) (p : Int) (w : World) (h : Rd w a n c Z) (hno : mayD Z t = false) :
    Calls Tryd.prog 19 #[.agg (dgA a n c t), .int .i64 p] w fun e w' => e = .returned (.tuple #[.int .i64 0, .int .i64 12]) ∧ Below w.heap.size w w' := by
  obtain ⟨w1, hw1⟩ : ∃ w1, w.alloc (.cells (dgA a n c t) 24) = w1 := ⟨_, rfl⟩
  have B1 : Below w.heap.size w w1 := by rw [← hw1]; exact (Below.refl _ w).alloc (Nat.le_refl _) _
  have C1 : Dg w1 w.heap.size a n c t := by rw [← hw1]; exact Dg.new w a n c t
  have HMY := hide (May_any t a n c Z w1 (h.mono B1))
  rw [hno] at HMY
  have HB1 := hide B1
  clear B1 h hno
  go_enter Tryd.func19, Tryd.ntmps19
  go_upto_region 1 with fail
  clear hw1
  go_wp2_with (refine wpList_load_dg rfl (.tmp 2) rfl w.heap.size rfl C1 ?_)
  refine HMY.out.mono ?_
  rintro r w2 ⟨rfl, hb2⟩
  have HB2 := hide (HB1.out.trans (hb2.mono HB1.out.size))
  clear hb2
  go_wp2_with fail
  go_ret2
  exact ⟨rfl, HB2.out⟩

theorem Count_range (t : Int) (a : Option Addr) (n c : Nat) (Z : List Int) (p : Int) (w : World) (h : Rd w a n c Z) (hyes : mayD Z t = true) (hp : ¬ (0 ≤ p ∧ p ≤ 6)) :
    Calls Tryd.prog 19 #[.agg (dgA a n c t), .int .i64 p] w fun e w' => e = .returned (.tuple #[.int .i64 0, .int .i64 3]) ∧ Below w.heap.size w w' := by
  obtain ⟨w1, hw1⟩ : ∃ w1, w.alloc (.cells (dgA a n c t) 24) = w1 := ⟨_, rfl⟩
  have B1 : Below w.heap.size w w1 := by rw [← hw1]; exact (Below.refl _ w).alloc (Nat.le_refl _) _
  have C1 : Dg w1 w.heap.size a n c t := by rw [← hw1]; exact Dg.new w a n c t
  have HMY := hide (May_any t a n c Z w1 (h.mono B1))
  rw [hyes] at HMY
  have HB1 := hide B1
  have hp3 : p < 0 ∨ (¬ p < 0 ∧ 6 < p) := by omega
  clear B1 h hyes hp
  go_enter Tryd.func19, Tryd.ntmps19
  go_upto_region 1 with fail
  clear hw1
  go_wp2_with (refine wpList_load_dg rfl (.tmp 2) rfl w.heap.size rfl C1 ?_)
  refine HMY.out.mono ?_
  rintro r w2 ⟨rfl, hb2⟩
  have HB2 := hide (HB1.out.trans (hb2.mono HB1.out.size))
  clear hb2
  rcases hp3 with q | ⟨q, q2⟩
  · go_wp2_with fail
    go_ret2
    exact ⟨rfl, HB2.out⟩
  · go_wp2_with fail
    go_ret2
    exact ⟨rfl, HB2.out⟩

theorem Count_yes (t : Nat) (a : Option Addr) (c : Nat) (Z : List Int) (f : Nat) (hf : f ≤ 6) (w : World) (h : Rd w a 33 c Z) (hM : Mb Z t) (hD : DTab w) (hT : TzT w) :
    Calls Tryd.prog 19 #[.agg (dgA a 33 c (t : Nat)), .int .i64 (f : Nat)] w fun e w' => e = .returned (.tuple #[.int .i64 (cntR f Z t), .int .i64 0]) ∧ Below w.heap.size w w' := by
  have ht : t = 1 ∨ t = 2 := by have := hM.tt; omega
  obtain ⟨w1, hw1⟩ : ∃ w1, w.alloc (.cells (dgA a 33 c (t : Nat)) 24) = w1 := ⟨_, rfl⟩
  have B1 : Below w.heap.size w w1 := by rw [← hw1]; exact (Below.refl _ w).alloc (Nat.le_refl _) _
  have C1 : Dg w1 w.heap.size a 33 c (t : Nat) := by rw [← hw1]; exact Dg.new w a 33 c (t : Nat)
  have HMY := hide (May_any (t : Nat) a 33 c Z w1 (h.mono B1))
  rw [(mayD_iff Z (t : Nat)).2 hM] at HMY
  have HCW : Hid (∀ W, Below w1.heap.size w1 W → Dg W w.heap.size a 33 c (t : Nat)) := hide (fun W hb => C1.below hb C1.lt)
  have HSE : Hid (∀ W, Below w1.heap.size w1 W → Calls Tryd.prog 34 #[.agg (dgA a 33 c (t : Nat))] W fun e w' => e = .returned (.agg (bdL (sn Z t)).toArray) ∧ Below W.heap.size W w') := hide (fun W hb => seen_any t a c Z W ((h.mono B1).mono hb) ht)
  have HCO : Hid (∀ W, Below w1.heap.size w1 W → Calls Tryd.prog 49 #[.agg (bdL (sn Z t)).toArray, .int .i64 (f : Nat)] W fun e w' => e = .returned (.int .i64 (cntR f Z t)) ∧ Below W.heap.size W w') := hide (fun W hb => count_all f hf Z t hM W ((hD.mono B1).mono hb) ((hT.mono B1).mono hb))
  have HB1 := hide B1
  clear B1 h hM hD hT ht
  go_enter Tryd.func19, Tryd.ntmps19
  go_upto_region 1 with fail
  clear hw1
  go_wp2_with (refine wpList_load_dg rfl (.tmp 2) rfl w.heap.size rfl C1 ?_)
  refine HMY.out.mono ?_
  rintro r w2 ⟨rfl, hb2⟩
  have HB2 := hide hb2
  have C2 := HCW.out w2 hb2
  clear hb2
  go_wp2_with (refine wpList_load_dg rfl (.tmp 2) rfl w.heap.size rfl C2 ?_)
  refine (HSE.out w2 HB2.out).mono ?_
  rintro r w3 ⟨rfl, hb3⟩
  have HB3 : Hid (Below w1.heap.size w1 w3) := hide (HB2.out.trans (hb3.mono HB2.out.size))
  clear hb3 C2
  go_wp2_with fail
  refine (HCO.out w3 HB3.out).mono ?_
  rintro r w4 ⟨rfl, hb4⟩
  have HB4 : Hid (Below w.heap.size w w4) := hide (HB1.out.trans ((HB3.out.trans (hb4.mono HB3.out.size)).mono HB1.out.size))
  clear hb4
  go_wp2_with fail
  go_ret2
  exact ⟨rfl, HB4.out⟩

end Go.Proofs.YtnbaangnpoblfaaDoor
