/-
  The places along a way, as the function hands them out. No conditions beyond those that each theorem bears.
-/
import Derived.Test.YthdnbbjehcicbaaDoorMay
import Derived.RangeFuncNested
import Derived.RangeFuncBound
import Derived.RangeFuncCalls
import Derived.RangeFuncLeaves
import Derived.Shelf.Abstract
import Derived.Shelf.RegionOpen
import Derived.WalkKit
import Derived.OwnWalkIn
import Derived.TacticsInMore
import Derived.LoopNIn
import Derived.LoopIn
namespace Go.Proofs.YthdnbbjehcicbaaDoor
open Go.RowKit Go.Shelf

theorem Keeps.put {X : Nat → Prop} {a b : World} (h : Keeps X a b) {l : Nat} (hp : X l) (o : Obj) : Keeps X a (b.putObj l o) := by
  refine h.trans ⟨rfl, rfl, rfl, ?_, fun k _ hx => ?_⟩
  · exact (grownBy_putObj' b l o).size
  · exact World.putObj_heap_other (fun e => hx (e ▸ hp))

theorem YieldAt.anyD {m m' : Nat} {P : Program} {l : Nat} {args : Array Value} {W : World} {R : Ending → World → Prop} (h : YieldAt Fence.wide m P l args W R) : YieldAt Fence.wide m' P l args W R := by
  obtain ⟨fn, tmps, assign, body, hy, hF, hR⟩ := h
  exact ⟨fn, tmps, assign, body, hy, hF, fun c cs _ => hR c cs (fun d hd => by cases hd)⟩

theorem drewN_grown (w : World) (q : Nat) : w.grownBy (w.drewN q) none := by
  cases q with
  | zero => exact World.grownBy.refl _ _
  | succ q => exact ⟨rfl, rfl, rfl, Nat.le_refl _, fun _ _ _ => rfl⟩

/-- A place of a board of m places. -/
structure Pl (m : Nat) where
  v : Nat
  h : v < m

/-- What the function has captured. -/
structure Cap (W : World) (s : Nat) (gW gH : Int) (a : Option Addr) (n c : Nat) (p dx dy : Int) : Prop where
  g : Gd W s gW gH a n c
  p : W.cell? ⟨s + 1, 0, none⟩ = some (.int .i64 p)
  dx : W.cell? ⟨s + 2, 0, none⟩ = some (.int .i64 dx)
  dy : W.cell? ⟨s + 3, 0, none⟩ = some (.int .i64 dy)

theorem Cap.keeps {X : Nat → Prop} {W W' : World} {s : Nat} {gW gH : Int} {a : Option Addr} {n c : Nat} {p dx dy : Int} (h : Cap W s gW gH a n c p dx dy) (hk : Keeps X W W') (hX : ∀ k, s ≤ k → k < s + 4 → ¬ X k) : Cap W' s gW gH a n c p dx dy :=
  ⟨h.g.keeps hk (hX s (by omega) (by omega)), hk.cell h.p (hX (s + 1) (by omega) (by omega)), hk.cell h.dx (hX (s + 2) (by omega) (by omega)), hk.cell h.dy (hX (s + 3) (by omega) (by omega))⟩

theorem Cap.lt {W : World} {s : Nat} {gW gH : Int} {a : Option Addr} {n c : Nat} {p dx dy : Int} (h : Cap W s gW gH a n c p dx dy) : s + 4 ≤ W.heap.size := World.block_lt_of_cell? W _ h.dy

theorem on_nat {gW gH m : Nat} {x y : Int} (hm : gW * gH = m) (h : onB gW gH x y = true) : ∃ xn yn A Q : Nat, x = xn ∧ y = yn ∧ xn < gW ∧ yn < gH ∧ (yn : Int) * (gW : Int) = (A : Int) ∧ (A : Int) + (xn : Int) = (Q : Int) ∧ Q < m ∧ (y * gW + x).toNat = Q := by
  have h' := h
  rw [onB_iff] at h
  obtain ⟨xn, rfl⟩ := Int.eq_ofNat_of_zero_le h.1
  obtain ⟨yn, rfl⟩ := Int.eq_ofNat_of_zero_le h.2.2.1
  have e : ((yn : Int) * gW + xn).toNat = yn * gW + xn := by rw [← Int.natCast_mul, ← Int.natCast_add, Int.toNat_natCast]
  refine ⟨xn, yn, yn * gW, yn * gW + xn, rfl, rfl, by omega, by omega, by rw [Int.natCast_mul], by rw [Int.natCast_add], ?_, e⟩
  have h2 : (yn + 1) * gW ≤ gH * gW := Nat.mul_le_mul_right gW (by omega)
  rw [Nat.add_mul, Nat.one_mul] at h2
  rw [← hm, Nat.mul_comm gW gH]
  omega

attribute [local irreducible] line meas

attribute [local go_sem] Oper.semAt_some

set_option maxRecDepth 100000 in
set_option maxHeartbeats 2000000 in
theorem along1_stops (nb s m gW gH : Nat) (a : Option Addr) (n c p n' : Nat) (dx dy : Int) (hd : Dir dx dy) (hgW : 1 ≤ gW ∧ gW ≤ 10) (hgH : 1 ≤ gH ∧ gH ≤ 10) (hm : gW * gH = m) (hp : p < m) (hnb : nb < s) (w0 : World) (hcap : Cap w0 s gW gH a n c p dx dy) :
    SeqStopsK Fence.wide n' Tryd.prog 75 #[.pointer (some ⟨s + 1, 0, none⟩), .pointer (some ⟨s, 0, none⟩), .pointer (some ⟨s + 2, 0, none⟩), .pointer (some ⟨s + 3, 0, none⟩)] (fun x : Pl m => #[.int .i64 (x.v : Nat)]) (fun A B => Keeps (fun k => k = nb ∨ s + 4 ≤ k) A B)
      (fun xs => xs.map Pl.v = line gW gH dx dy ((p % gW : Nat) + dx) ((p / gW : Nat) + dy)) (fun pre => pre.map Pl.v <+: line gW gH dx dy ((p % gW : Nat) + dx) ((p / gW : Nat) + dy)) 12 w0 := by
  intro l J Jx W hW0 hJ hJx hY h0
  have hcs := hcap.lt
  have hcapW : Cap W s gW gH a n c p dx dy := hcap.keeps (Keeps.of_below hW0) (fun k h1 h2 e => by omega)
  have hpx : p % gW < gW := Nat.mod_lt _ (by omega)
  have hpy : p / gW < gH := Nat.div_lt_of_lt_mul (by rw [hm]; exact hp)
  have hm1 : Int.tmod (p : Int) (gW : Int) = ((p % gW : Nat) : Int) := by rw [Int.tmod_eq_emod_of_nonneg (by omega)]; simp
  have hm2 : (p : Int) % (gW : Int) = ((p % gW : Nat) : Int) := by simp
  have hq1 : Int.tdiv (p : Int) (gW : Int) = ((p / gW : Nat) : Int) := by rw [Int.tdiv_eq_ediv_of_nonneg (by omega)]; simp
  have hq2 : (p : Int) / (gW : Int) = ((p / gW : Nat) : Int) := by simp
  generalize p % gW = px at *
  generalize p / gW = py at *
  have hpb : p ≤ 100 := by
    have : gW * gH ≤ 10 * 10 := Nat.mul_le_mul hgW.2 hgH.2
    omega
  have hwn : ¬ (gW : Int) = 0 := by omega
  obtain ⟨d1, d2, d3⟩ := hd
  have hdx : -1 ≤ dx ∧ dx ≤ 1 := by omega
  have hdy : -1 ≤ dy ∧ dy ≤ 1 := by omega
  have HD : Hid (Dir dx dy) := hide ⟨d1, d2, d3⟩
  have HM := hide hm
  clear d1 d2 d3 hm hW0 hcap
  obtain ⟨L, hL⟩ : ∃ L, line gW gH dx dy (px + dx) (py + dy) = L := ⟨_, rfl⟩
  rw [hL]
  have HL := hide hL
  have HLL : Hid (L.length ≤ 11) := hide (by rw [← hL]; exact line_len HD.out (by omega) (by omega) (by omega) (by omega))
  clear hL
  have HJ0 := hide h0
  have HJ := hide hJ
  have HJX := hide hJx
  have HCW := hide hcapW
  obtain ⟨cg0, cg1, _⟩ := hcapW.g.cells
  have cp := hcapW.p
  have cdx := hcapW.dx
  have cdy := hcapW.dy
  clear h0 hJ hJx hcapW hp
  refine callsIn_of_wp Tryd.func75 rfl trivial ?_ rfl
  simp only [Tryd.ntmps75, List.size_toArray, List.length_cons, List.length_nil, Nat.reduceAdd, Nat.reduceSub, Array.replicate_succ, Array.replicate_zero, List.push_toArray, List.append_toArray, List.nil_append, List.cons_append]
  refine wpIn_wide.2 ?_
  go_wp2
  go_quiet (fail)
  go_wp2
  clear hm1 hm2 hq1 hq2 cg0 cg1 cp cdx cdy
  go_loopw [6, 7] (fun u v wr => ∃ (pre : List (Pl m)) (x y : Int), u = .int .i64 x ∧ v = .int .i64 y ∧ -1 ≤ x ∧ x ≤ (gW : Int) ∧ -1 ≤ y ∧ y ≤ (gH : Int) ∧ Hid (pre.map Pl.v ++ line gW gH dx dy x y = L) ∧ Hid (J pre wr) ∧ Hid (Cap wr s gW gH a n c p dx dy)) (fun u v _ => meas gW gH dx dy (intOf u) (intOf v))
  case atStart =>
    exact ⟨[], _, _, rfl, rfl, by omega, by omega, by omega, by omega, hide HL.out, hide (HJ.out _ _ _ none HJ0.out (drewN_grown _ _) (fun r e => by cases e)), hide (HCW.out.keeps (X := fun _ => False) (Keeps.of_all (drewN_below _ _ _)) (fun _ _ _ h => h))⟩
  case round =>
    obtain ⟨pre, x, y, rfl, rfl, hx1, hx2, hy1, hy2, hpre, hJp, hC⟩ := hrel
    clear HCW HJ0
    have hmb : m ≤ 100 := by
      have : gW * gH ≤ 10 * 10 := Nat.mul_le_mul hgW.2 hgH.2
      have := HM.out
      omega
    obtain ⟨cg0, cg1, _⟩ := hC.out.g.cells
    by_cases hb : onB gW gH x y = true
    · have HST := hide (meas_step HD.out hb)
      have HLO := hide (line_on HD.out hb)
      obtain ⟨xn, yn, A, Q, rfl, rfl, hxl, hyl, hA, hQ, hQm, hidx⟩ := on_nat HM.out hb
      rw [hidx] at HLO
      have hxl' : (xn : Int) < (gW : Int) := by omega
      have hyl' : (yn : Int) < (gH : Int) := by omega
      have hpl : pre.length < 12 := by
        have h1 := congrArg List.length hpre.out
        rw [List.length_append, List.length_map] at h1
        have := HLL.out
        omega
      obtain ⟨fn, tmps, assign, body, hy, hR⟩ := YieldAt.anyD (m' := 0) (hY pre ⟨Q, hQm⟩ wr hJp.out hpl)
      dsimp only at hy
      clear hb hidx
      refine (wpIn_wide (n := 1)).1 ?_
      gi_wp2
      refine hR.mono ?_
      rintro e W3 (⟨rfl, hJ3, hk3⟩ | ⟨rfl, hJx3⟩)
      · have hC3 := hC.out.keeps hk3 (fun k h1 h2 e => by omega)
        have cdx := hC3.dx
        have cdy := hC3.dy
        have HC3 := hide hC3
        have HJ3 := hide hJ3
        clear hC3 hJ3 hk3 cg0 cg1 hy hR hC hJp
        gi_wp2
        refine wpIn_wide.2 ?_
        go_quiet (fail)
        go_wp2
        refine ⟨⟨pre ++ [⟨Q, hQm⟩], (xn : Int) + dx, (yn : Int) + dy, rfl, rfl, by omega, by omega, by omega, by omega, hide ?_, hide (HJ.out _ _ _ none HJ3.out (drewN_grown _ _) (fun r e => by cases e)), hide (HC3.out.keeps (X := fun _ => False) (Keeps.of_all (drewN_below _ _ _)) (fun _ _ _ h => h))⟩, ?_⟩
        · rw [← hpre.out, HLO.out]; simp
        · simp only [intOf]; have := HST.out; omega
      · have HPX : Hid ((pre ++ [(⟨Q, hQm⟩ : Pl m)]).map Pl.v <+: L) := hide ⟨line gW gH dx dy ((xn : Int) + dx) ((yn : Int) + dy), by rw [← hpre.out, HLO.out]; simp⟩
        have HJX3 := hide hJx3
        clear hJx3 hy hR hC hJp
        gi_wp2
        refine bodyPost_end (results_none rfl _ _ _) rfl ?_
        exact ⟨⟨_, rfl⟩, .inr ⟨_, HPX.out, HJX3.out⟩⟩
    · have hb' : onB gW gH x y = false := by simpa using hb
      have HOK : Hid (pre.map Pl.v = L) := hide (by rw [← hpre.out, line_off hb', List.append_nil])
      have HNB : Hid (¬ (0 ≤ x ∧ x < (gW : Int) ∧ 0 ≤ y ∧ y < (gH : Int))) := hide (fun h => hb (onB_iff.2 h))
      clear hb hb' hpre hC
      have hfour : x < 0 ∨ (0 ≤ x ∧ (gW : Int) ≤ x) ∨ (0 ≤ x ∧ x < (gW : Int) ∧ y < 0) ∨ (0 ≤ x ∧ x < (gW : Int) ∧ 0 ≤ y ∧ (gH : Int) ≤ y) := by have := HNB.out; omega
      rcases hfour with h1 | ⟨h1, h2⟩ | ⟨h1, h2, h3⟩ | ⟨h1, h2, h3, h4⟩
      · go_wp2
        refine bodyPost_end (results_none rfl _ _ _) rfl ?_
        exact ⟨⟨_, rfl⟩, .inl ⟨pre, HOK.out, hJp.out⟩⟩
      · go_wp2
        refine bodyPost_end (results_none rfl _ _ _) rfl ?_
        exact ⟨⟨_, rfl⟩, .inl ⟨pre, HOK.out, hJp.out⟩⟩
      · go_wp2
        refine bodyPost_end (results_none rfl _ _ _) rfl ?_
        exact ⟨⟨_, rfl⟩, .inl ⟨pre, HOK.out, hJp.out⟩⟩
      · go_wp2
        refine bodyPost_end (results_none rfl _ _ _) rfl ?_
        exact ⟨⟨_, rfl⟩, .inl ⟨pre, HOK.out, hJp.out⟩⟩

end Go.Proofs.YthdnbbjehcicbaaDoor
