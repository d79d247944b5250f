/-
  Pieces counted in a map. No conditions beyond those that each theorem bears.
-/
import Derived.Test.YtjcglpnpdalcjaaMap
import Derived.Deep.RegionHeld3
namespace Go.Proofs.Ytjcglpnpdalcjaa
open Go.RowKit
attribute [local go_sem] build35 run_eq35 guard35

/-- How often a kind of piece is among them. -/
def cntF (m : List Pc) : Pc → Nat := fun q => m.count q

theorem cntF_snoc (m : List Pc) (p : Pc) : cntF (m ++ [p]) = upd (cntF m) p (cntF m p + 1) := by
  funext q
  by_cases h : q = p
  · subst h; simp [cntF, upd]
  · have h' : ¬ p = q := fun e => h e.symm
    simp [cntF, upd, h, h', List.count_append]

theorem Mp.below {w w' : World} {b : Nat} {f : Pc → Nat} (h : Mp w b f) (hB : Below w.heap.size w w') : Mp w' b f := h.of_block (hB.block b h.lt)

theorem grown_below {w w' : World} {b : Nat} (hB : Below w.heap.size w w') : w.grownBy w' (some b) := ⟨hB.os, hB.tape, hB.output, hB.size, fun k hk _ => hB.block k hk⟩

theorem grown_drew (w : World) (row : Option Nat) : w.grownBy w.drew row := ⟨rfl, rfl, rfl, Nat.le_refl _, fun _ _ _ => rfl⟩
theorem grown_trans {a b c : World} {row : Option Nat} (h : a.grownBy b row) (k : b.grownBy c row) : a.grownBy c row :=
  ⟨k.os.trans h.os, k.tape.trans h.tape, k.output.trans h.output, Nat.le_trans h.size k.size, fun i hi hne => (k.block i (Nat.lt_of_lt_of_le hi h.size) hne).trans (h.block i hi hne)⟩

set_option maxHeartbeats 4000000 in
theorem counted_any (a : Option Addr) (n c : Nat) (ps : List Pc) (w : World) (h : Rp w a n c ps) (hn : n ≤ 1000) :
    Calls Try.prog 25 #[.slice a n c] w fun e w' => e = .returned (.map (some w.heap.size)) ∧ Mp w' w.heap.size (cntF (ps.map lf)) ∧ Below w.heap.size w w' := by
  have HH := hide h
  clear h
  have hmm := @run_makeMap Try.prog
  go_enter Try.func25, Try.ntmps25
  go_wp2_with fail
  go_loopw [9] (fun v wr => ∃ i : Nat, i ≤ n ∧ v = .int .i64 i ∧ Hid (Mp wr w.heap.size (cntF ((ps.take i).map lf))) ∧ Hid (Below w.heap.size w wr)) (fun v _ => n - (intOf v).toNat)
  case atStart => exact ⟨0, by omega, rfl, hide (Mp.made w), hide ((Below.refl _ _).alloc (Nat.le_refl _) _)⟩
  case round =>
    obtain ⟨i, hi, rfl, HM, HB⟩ := hrel
    by_cases hlt : i < n
    · have HR := hide (HH.out.mono HB.out)
      obtain ⟨b, off, ha, hc⟩ := HR.out.cells (by omega)
      subst ha
      obtain ⟨r1, r2⟩ := hc i hlt
      clear hc
      have hzl : i < ps.length := by rw [HH.out.len]; exact hlt
      obtain ⟨p, hp⟩ : ∃ p, ps.getD i (0, 0) = p := ⟨_, rfl⟩
      have HT : Hid ((ps.take (i + 1)).map lf = (ps.take i).map lf ++ [lf p]) := hide (by rw [take_snocP ps i hzl, hp]; simp)
      rw [hp] at r1 r2
      clear hp hzl
      obtain ⟨x, y⟩ := p
      simp only at r1 r2
      generalize hF : cntF ((ps.take i).map lf) = F at *
      have hFle : ∀ q, F q ≤ 1000 := fun q => by
        rw [← hF]
        show ((ps.take i).map lf).count q ≤ 1000
        have := List.count_le_length (a := q) (l := (ps.take i).map lf)
        rw [List.length_map, List.length_take] at this
        omega
      have HF := hide hF
      have HFL := hide hFle
      clear hF hFle
      go_wp2_with fail
      have e0 : (wr.alloc (.cells #[.int .i64 x, .int .i64 y] 35)).cell? ⟨wr.heap.size, 0, none⟩ = some (.int .i64 x) := by go_simp
      have e1 : (wr.alloc (.cells #[.int .i64 x, .int .i64 y] 35)).cell? ⟨wr.heap.size, 1, none⟩ = some (.int .i64 y) := by go_simp
      have hs0 : wr.heap.size < (wr.alloc (.cells #[.int .i64 x, .int .i64 y] 35)).heap.size := by simp [World.size_alloc]
      have B0 : Below wr.heap.size wr (wr.alloc (.cells #[.int .i64 x, .int .i64 y] 35)) := (Below.refl _ _).alloc (Nat.le_refl _) _
      have M0 := HM.out.below B0
      have HB0 := hide (HB.out.trans (B0.mono HB.out.size))
      have hne : some wr.heap.size ≠ some w.heap.size := by have := HM.out.lt; simp; omega
      generalize wr.alloc (.cells #[.int .i64 x, .int .i64 y] 35) = w3 at *
      have HE0 : Hid (∀ W, w3.grownBy W (some w.heap.size) → W.cell? ⟨wr.heap.size, 0, none⟩ = some (.int .i64 x)) := hide (fun W hW => hW.cell e0 hne)
      have HE1 : Hid (∀ W, w3.grownBy W (some w.heap.size) → W.cell? ⟨wr.heap.size, 1, none⟩ = some (.int .i64 y)) := hide (fun W hW => hW.cell e1 hne)
      clear B0 e0 e1 r1 r2 HB HM HR hs0
      refine wp_region_held (S := fun W => w3.grownBy W (some w.heap.size)) (by kernel_rfl) ?_
      change wpAnyH _ _ _ _ _ _ _ _ (World.drew _)
      have SW : w3.grownBy w3.drew (some w.heap.size) := grown_drew _ _
      have M1 : Mp w3.drew w.heap.size F := M0.of_block rfl
      refine wpAnyH_take (i := 0) (v := .map (some w.heap.size)) rfl (by kernel_rfl) (by kernel_rfl) (by kernel_rfl) (fun _ _ _ h => h) (Or.inl ⟨by rfl, ?_⟩) SW ?_
      · intro W hW
        go_simp
      go_simp
      refine wpAnyH_take (i := 1) (v := .agg #[.int .i64 x, .int .i64 y]) rfl (by kernel_rfl) (by kernel_rfl) (by kernel_rfl) (fun _ _ _ h => h) (Or.inl ⟨by rfl, ?_⟩) SW ?_
      · intro W hW
        have f0 := HE0.out W hW
        have f1 := HE1.out W hW
        go_simp
      go_simp
      clear HE0 HE1 M0
      refine wpAnyH_ready (rs := [2]) (by kernel_rfl) (by simp) ?_
      refine AllReadyH.cons rfl (fun K1 hK1 => ?_) AllReadyH.nil
      go_simp
      refine (lesserFirst_any (x, y) _).mono ?_
      rintro e w4 ⟨rfl, hB4⟩
      have M2 := M1.below hB4
      refine hK1.out _ _ (grown_trans SW (grown_below hB4)) (fun SW => ?_)
      clear hK1 K1 hB4 M1
      generalize lf (x, y) = P at *
      go_simp
      refine wpAnyH_ready (rs := [3, 5]) (by kernel_rfl) (by simp) ?_
      refine AllReadyH.cons rfl (fun K1 hK1 => ?_) (AllReadyH.cons rfl (fun K1 hK1 => ?_) AllReadyH.nil)
      · have hL := M2.look P
        go_simp
        refine hK1.out _ _ SW (fun SW => ?_)
        clear hK1 K1 hL
        refine wpAnyH_take (i := 4) (v := .int .i64 ((F P + 1 : Nat) : Int)) rfl (by kernel_rfl) (by kernel_rfl) (by kernel_rfl) (fun _ _ _ h => h) (Or.inl ⟨by rfl, ?_⟩) SW ?_
        · intro W hW
          have hle := HFL.out P
          go_simp
          rw [IntKind.wrap_i64]
          omega
        go_simp
        refine wpAnyH_ready (rs := [5]) (by kernel_rfl) (by simp) ?_
        refine AllReadyH.cons rfl (fun K1 hK1 => ?_) AllReadyH.nil
        obtain ⟨v0, st, w5, hE, M3, hAt, hG5, _⟩ := M2.entry P
        go_simp
        refine hK1.out _ _ (grown_trans SW hG5) (fun SW => ?_)
        clear hK1 K1 hE
        refine wpAnyH_take (i := 6) (v := .int .i64 ((st : Nat) : Int)) rfl (by kernel_rfl) (by kernel_rfl) (by kernel_rfl) (fun _ _ _ h => h) (Or.inl ⟨by rfl, ?_⟩) SW ?_
        · intro W hW
          go_simp
        go_simp
        refine wpAnyH_ready (rs := [7]) (by kernel_rfl) (by simp) ?_
        refine AllReadyH.cons rfl (fun K1 hK1 => ?_) AllReadyH.nil
        obtain ⟨w6, hS, M4, hG6⟩ := M3.store hAt (F P + 1)
        rw [show ((F P + 1 : Nat) : Int) = (F P : Int) + 1 from rfl] at hS
        go_simp
        refine hK1.out _ _ (grown_trans SW hG6) (fun SW => ?_)
        clear hK1 K1 hS
        refine wpAnyH_done (by kernel_rfl) ?_ _
        have HN : Hid (Mp w6 w.heap.size (cntF ((ps.take (i + 1)).map lf))) := hide (by
          rw [HT.out, cntF_snoc, HF.out]; exact M4)
        have HBN := hide (HB0.out.grown SW HB0.out.size (fun j hj => by cases hj; exact Nat.le_refl _))
        clear SW M4 M3 M2 hAt hG5 hG6
        go_wp2_with fail
        go_roundw
        case rel => exact ⟨i + 1, by omega, by go_num, HN, HBN⟩
        case measure => simp [intOf]; omega
      · obtain ⟨v0, st, w5, hE, M3, hAt, hG5, _⟩ := M2.entry P
        go_simp
        refine hK1.out _ _ (grown_trans SW hG5) (fun SW => ?_)
        clear hK1 K1 hE
        refine wpAnyH_take (i := 6) (v := .int .i64 ((st : Nat) : Int)) rfl (by kernel_rfl) (by kernel_rfl) (by kernel_rfl) (fun _ _ _ h => h) (Or.inl ⟨by rfl, ?_⟩) SW ?_
        · intro W hW
          go_simp
        go_simp
        refine wpAnyH_ready (rs := [3]) (by kernel_rfl) (by simp) ?_
        refine AllReadyH.cons rfl (fun K1 hK1 => ?_) AllReadyH.nil
        have hL := M3.look P
        go_simp
        refine hK1.out _ _ SW (fun SW => ?_)
        clear hK1 K1 hL
        refine wpAnyH_take (i := 4) (v := .int .i64 ((F P + 1 : Nat) : Int)) rfl (by kernel_rfl) (by kernel_rfl) (by kernel_rfl) (fun _ _ _ h => h) (Or.inl ⟨by rfl, ?_⟩) SW ?_
        · intro W hW
          have hle := HFL.out P
          go_simp
          rw [IntKind.wrap_i64]
          omega
        go_simp
        refine wpAnyH_ready (rs := [7]) (by kernel_rfl) (by simp) ?_
        refine AllReadyH.cons rfl (fun K1 hK1 => ?_) AllReadyH.nil
        obtain ⟨w6, hS, M4, hG6⟩ := M3.store hAt (F P + 1)
        rw [show ((F P + 1 : Nat) : Int) = (F P : Int) + 1 from rfl] at hS
        go_simp
        refine hK1.out _ _ (grown_trans SW hG6) (fun SW => ?_)
        clear hK1 K1 hS
        refine wpAnyH_done (by kernel_rfl) ?_ _
        have HN : Hid (Mp w6 w.heap.size (cntF ((ps.take (i + 1)).map lf))) := hide (by
          rw [HT.out, cntF_snoc, HF.out]; exact M4)
        have HBN := hide (HB0.out.grown SW HB0.out.size (fun j hj => by cases hj; exact Nat.le_refl _))
        clear SW M4 M3 M2 hAt hG5 hG6
        go_wp2_with fail
        go_roundw
        case rel => exact ⟨i + 1, by omega, by go_num, HN, HBN⟩
        case measure => simp [intOf]; omega
    · obtain rfl : i = n := by omega
      have hlt' : ¬ (i : Int) < (i : Int) := by omega
      have HN : Hid (Mp wr w.heap.size (cntF (ps.map lf))) := hide (by
        have := HM.out
        rwa [List.take_of_length_le (by rw [HH.out.len]; exact Nat.le_refl _)] at this)
      go_wp2_with fail
      go_ret
      exact ⟨rfl, HN.out, HB.out⟩

end Go.Proofs.Ytjcglpnpdalcjaa
