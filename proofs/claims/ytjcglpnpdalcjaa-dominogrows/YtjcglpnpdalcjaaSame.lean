/-
  Are these the same pieces? No conditions beyond those that each theorem bears.
-/
import Derived.Test.YtjcglpnpdalcjaaCan
namespace Go.Proofs.Ytjcglpnpdalcjaa
open Go.RowKit
attribute [local go_sem] build35 run_eq35 guard35
attribute [local irreducible] hz hzL

/-- Those that are not used. -/
def un : List Bool → List Pc → List Pc
  | u :: U, p :: P => if u then un U P else p :: un U P
  | _, _ => []

theorem un_all (P : List Pc) : un (List.replicate P.length false) P = P := by
  induction P with
  | nil => rfl
  | cons p P ih => rw [List.length_cons, List.replicate_succ, un, ih]; rfl

theorem un_set : ∀ (U : List Bool) (P : List Pc) (k : Nat), U.length = P.length → k < P.length → U.getD k false = false → (un U P).Perm (P.getD k (0, 0) :: un (U.set k true) P) := by
  intro U
  induction U with
  | nil => intro P k h hk; rw [← h] at hk; simp at hk
  | cons u U ih =>
    intro P k h hk hu
    cases P with
    | nil => simp at hk
    | cons p P =>
      cases k with
      | zero =>
        have hu' : u = false := by simpa [List.getD] using hu
        subst hu'
        simp [un, List.getD]
      | succ k =>
        have h1 := ih P k (by simpa using h) (by simpa using hk) (by simpa [List.getD] using hu)
        rw [List.set_cons_succ, un, un]
        have e : (p :: P).getD (k + 1) (0, 0) = P.getD k (0, 0) := by simp [List.getD]
        rw [e]
        cases u with
        | true => simpa using h1
        | false =>
          simp only [Bool.false_eq_true, if_false]
          exact (List.Perm.cons p h1).trans (List.Perm.swap _ _ _)

theorem un_find : ∀ (U : List Bool) (P : List Pc) (q : Pc), U.length = P.length → q ∈ un U P → ∃ k, k < P.length ∧ U.getD k false = false ∧ P.getD k (0, 0) = q := by
  intro U
  induction U with
  | nil => intro P q _ h; cases P <;> simp [un] at h
  | cons u U ih =>
    intro P q h hq
    cases P with
    | nil => simp [un] at hq
    | cons p P =>
      rw [un] at hq
      have hrec : q ∈ un U P → ∃ k, k < (p :: P).length ∧ (u :: U).getD k false = false ∧ (p :: P).getD k (0, 0) = q := fun hm => by
        obtain ⟨k, h1, h2, h3⟩ := ih P q (by simpa using h) hm
        exact ⟨k + 1, by simpa using h1, by simpa [List.getD] using h2, by simpa [List.getD] using h3⟩
      cases u with
      | true => exact hrec (by simpa using hq)
      | false =>
        simp only [Bool.false_eq_true, if_false, List.mem_cons] at hq
        rcases hq with hq | hq
        · exact ⟨0, by simp, by simp [List.getD], by simp [List.getD, hq]⟩
        · exact hrec hq

theorem lf_match (x y a b : Int) : lf (x, y) = lf (a, b) ↔ (x = a ∧ y = b) ∨ (x = b ∧ y = a) := by
  unfold lf
  simp only [Prod.mk.injEq]
  omega

theorem drewN_block (w : World) (m k : Nat) : (w.drewN m).heap[k]? = w.heap[k]? := by
  induction m with
  | zero => rfl
  | succ m ih => rfl

/-- This one serves for q. -/
def fits (U : List Bool) (P : List Pc) (q : Pc) (k : Nat) : Prop := U.getD k false = false ∧ lf q = lf (P.getD k (0, 0))

theorem drop_map (R : List Pc) (i : Nat) (h : i < R.length) : (R.drop i).map lf = lf (R.getD i (0, 0)) :: (R.drop (i + 1)).map lf := by
  rw [List.drop_eq_getElem_cons h, List.map_cons]
  simp [List.getD, h]

set_option maxRecDepth 100000 in
set_option maxHeartbeats 8000000 in
theorem SamePieces_yes (a : Option Addr) (n c : Nat) (R : List Pc) (a' : Option Addr) (c' : Nat) (P : List Pc) (w : World) (h : Rp w a n c R) (h' : Rp w a' n c' P) (hn : n ≤ 1000) (hp : (R.map lf).Perm (P.map lf)) :
    Calls Try.prog 18 #[.slice a n c, .slice a' n c'] w fun e w' => e = .returned (.bool true) ∧ Below w.heap.size w w' := by
  obtain ⟨i0, hi, hz0, hz1, hz2⟩ := info_parts Try.info4
  have hcm := h.max
  have hcn := h.cap
  have hcm' := h'.max
  have hcn' := h'.cap
  unfold maxLen at hcm hcm'
  have HH := hide h
  have HH' := hide h'
  have HL := hide h.len
  have HL' := hide h'.len
  have HP := hide hp
  have hnn : ((n : Int) != (n : Int)) = false := by simp
  have hmm : n ≤ maxLen := by unfold maxLen; omega
  have hby : i0.bytes * n ≤ 281474976710656 := by rw [hz2]; omega
  clear h h' hp
  go_enter Try.func18, Try.ntmps18
  go_wp2_with (at_make; refine wpList_make_full w rfl _ _ 53 rfl w.heap.size 4 i0 (.bool false) 1 Try.underlying53 hi hz0 hz1 _ _ _ _ n rfl rfl (by omega) (by omega) hby hmm (Nat.le_refl _) ?_)
  intro w1 hown hgrow
  have hb1 : Below w.heap.size w w1 := (Below.refl _ _).grown hgrow (Nat.le_refl _) (fun k hk => by simp at hk)
  rw [made_bools] at hown
  have HB1 := hide hb1
  have HU1 := hide (BlkB.of_own hown)
  clear hown hgrow hb1 hmm hby
  obtain ⟨G, hG⟩ : ∃ G, w.heap.size = G := ⟨_, rfl⟩
  rw [hG] at HU1
  have HGG := hide hG
  simp only [hG]
  clear hG
  go_wp2_with fail
  go_loopw [6] (fun v wr => ∃ (i : Nat) (U : List Bool), i ≤ n ∧ v = .int .i64 i ∧ Hid (BlkB wr G U) ∧ Hid (U.length = n) ∧ Hid (((R.drop i).map lf).Perm ((un U P).map lf)) ∧ Hid (Below w.heap.size w wr)) (fun v _ => n - (intOf v).toNat)
  case atStart => exact ⟨0, _, by omega, rfl, HU1, hide (by simp), hide (by rw [List.drop_zero, ← HL'.out, un_all]; exact HP.out), HB1⟩
  case round =>
    clear HU1 HB1
    obtain ⟨i, U, hin, rfl, HU, HUl, HPm, HB⟩ := hrel
    by_cases hlt : i < n
    · have hlt' : (i : Int) < (n : Int) := by omega
      obtain ⟨b, off, ha, -⟩ := HH.out.cells (by omega)
      obtain ⟨b', off', ha', -⟩ := HH'.out.cells (by omega)
      subst ha ha'
      have c1 := (HH.out.cell hlt).2
      have hbl : b < w.heap.size := World.block_lt_of_cell? w _ c1.1
      have hbl' : b' < w.heap.size := World.block_lt_of_cell? w _ (HH'.out.cell hlt).2.1
      obtain ⟨⟨x, y⟩, hxy⟩ : ∃ q : Pc, R.getD i (0, 0) = q := ⟨_, rfl⟩
      rw [hxy] at c1
      simp only at c1
      have HC : Hid (∀ W, Below w.heap.size w W → W.cell? ⟨b, off + i * 2, none⟩ = some (.int .i64 x) ∧ W.cell? ⟨b, off + i * 2 + 1, none⟩ = some (.int .i64 y)) := hide (fun W hW => ⟨(hW.cell (p := ⟨b, off + i * 2, none⟩) hbl).trans c1.1, (hW.cell (p := ⟨b, off + i * 2 + 1, none⟩) hbl).trans c1.2⟩)
      have hdm := drop_map R i (by rw [HL.out]; exact hlt)
      rw [hxy] at hdm
      have HDM : Hid ((lf (x, y) :: (R.drop (i + 1)).map lf).Perm ((un U P).map lf)) := hide (by rw [← hdm]; exact HPm.out)
      obtain ⟨k0, hk0, hf0⟩ : ∃ k, k < n ∧ fits U P (x, y) k := by
        have hm : lf (x, y) ∈ (un U P).map lf := HDM.out.mem_iff.1 (by simp)
        obtain ⟨q, hq, hqe⟩ := List.mem_map.1 hm
        obtain ⟨k, h1, h2, h3⟩ := un_find U P q (by rw [HUl.out, HL'.out]) hq
        exact ⟨k, by rw [← HL'.out]; exact h1, h2, by rw [h3, hqe]⟩
      have HF0 := hide hf0
      clear c1 hdm hxy hf0 HPm
      go_wp2_with fail
      go_loopw [7, 8] (fun f v wr => ∃ (k : Nat) (fd : Bool) (V : List Bool), k ≤ n ∧ v = .int .i64 k ∧ f = .bool fd ∧ Hid (BlkB wr G V) ∧ Hid (V.length = n) ∧ Hid (Below w.heap.size w wr) ∧ Hid (fd = false → V = U ∧ ∀ j, j < k → ¬ fits U P (x, y) j) ∧ Hid (fd = true → ((R.drop (i + 1)).map lf).Perm ((un V P).map lf))) (fun _ v _ => n - (intOf v).toNat)
      case atStart => exact ⟨0, false, U, by omega, rfl, rfl, HU, HUl, HB, hide (fun _ => ⟨rfl, fun j hj => by omega⟩), hide (fun h => by cases h)⟩
      case round =>
        clear HU HB
        obtain ⟨k, fd, V, hkn, rfl, rfl, HV, HVl, HB, HN, HY⟩ := hrel
        cases fd with
        | true =>
          have HYY := hide (HY.out rfl)
          by_cases hkn' : k < n
          · have hkI : (k : Int) < (n : Int) := by omega
            have hkd : decide ((k : Int) < (n : Int)) = true := by simpa using hkn'
            go_wp2_with fail
            go_roundw
            case rel => exact ⟨i + 1, V, by omega, by go_num, HV, HVl, HYY, HB⟩
            case measure => simp [intOf]; omega
          · have hkI : ¬ (k : Int) < (n : Int) := by omega
            have hkd : decide ((k : Int) < (n : Int)) = false := by simpa using hkn'
            go_wp2_with fail
            go_roundw
            case rel => exact ⟨i + 1, V, by omega, by go_num, HV, HVl, HYY, HB⟩
            case measure => simp [intOf]; omega
        | false =>
          obtain ⟨hVU, hno⟩ := HN.out rfl
          subst hVU
          have hkn' : k < n := by
            by_cases h : k < n
            · exact h
            · exact absurd HF0.out (hno k0 (by omega))
          have hkI : (k : Int) < (n : Int) := by omega
          have hkd : decide ((k : Int) < (n : Int)) = true := by simpa using hkn'
          have HNO := hide hno
          obtain ⟨r1, r2⟩ := HC.out _ HB.out
          have c2 := (HH'.out.cell hkn').2
          obtain ⟨⟨p, q⟩, hpq⟩ : ∃ q : Pc, P.getD k (0, 0) = q := ⟨_, rfl⟩
          rw [hpq] at c2
          simp only at c2
          have r3 := (HB.out.cell (p := ⟨b', off' + k * 2, none⟩) hbl').trans c2.1
          have r4 := (HB.out.cell (p := ⟨b', off' + k * 2 + 1, none⟩) hbl').trans c2.2
          have s1 := HV.out.cell (i := k) (by rw [HVl.out]; exact hkn')
          have g1 := HV.out.frozen k
          have HPQ := hide hpq
          clear c2 hpq hno
          cases hu : V.getD k false with
          | true =>
            rw [hu] at s1
            have HN2 : Hid (∀ j, j < k + 1 → ¬ fits V P (x, y) j) := hide (fun j hj => by
              by_cases e : j = k
              · subst e; intro hf; rw [hf.1] at hu; cases hu
              · exact HNO.out j (by omega))
            clear hu
            go_wp2_with fail
            go_quiet (fail)
            go_wp2_with fail
            go_roundw
            case rel => exact ⟨k + 1, false, V, by omega, by go_num, rfl, HV, HVl, hide (HB.out.trans (drewN_below _ _ _)), hide (fun _ => ⟨rfl, HN2.out⟩), hide (fun h => by cases h)⟩
            case measure => simp [intOf]; omega
          | false =>
            rw [hu] at s1
            by_cases hm : lf (x, y) = lf (p, q)
            · have HV2 : Hid (∀ m, BlkB ((wr.drewN m).setCell ⟨G, k, none⟩ (.bool true)) G (V.set k true)) := hide (fun m => BlkB.set (w := wr.drewN m) ((drewN_block wr m G).trans HV.out) k true)
              have HVl2 : Hid ((V.set k true).length = n) := hide (by rw [List.length_set]; exact HVl.out)
              have HB2 : Hid (∀ m, Below w.heap.size w ((wr.drewN m).setCell ⟨G, k, none⟩ (.bool true))) := hide (fun m => (HB.out.trans (drewN_below _ _ m)).setCell (p := ⟨G, k, none⟩) (by show w.heap.size ≤ G; rw [HGG.out]; exact Nat.le_refl _) (.bool true))
              have HYY : Hid (((R.drop (i + 1)).map lf).Perm ((un (V.set k true) P).map lf)) := hide (by
                have h1 := un_set V P k (by rw [HUl.out, HL'.out]) (by rw [HL'.out]; exact hkn') hu
                have h2 := h1.map lf
                rw [HPQ.out, List.map_cons, ← hm] at h2
                exact (HDM.out.trans h2).cons_inv)
              clear hu
              by_cases h1 : x = p ∧ y = q
              · have b1 : (x == p && y == q) = true := by simp [h1.1, h1.2]
                have b1a : (x == p) = true := by simpa using h1.1
                have b1b : (y == q) = true := by simpa using h1.2
                clear hm h1
                go_wp2_with fail
                go_quiet (fail)
                go_wp2_with fail
                go_roundw
                case rel => exact ⟨k + 1, true, V.set k true, by omega, by go_num, rfl, hide (HV2.out _), HVl2, hide (HB2.out _), hide (fun h => by cases h), hide (fun _ => HYY.out)⟩
                case measure => simp [intOf]; omega
              · have b1 : (x == p && y == q) = false := by
                  rw [Bool.and_eq_false_iff]
                  simp only [beq_eq_false_iff_ne]
                  by_cases e : x = p
                  · right; intro e2; exact h1 ⟨e, e2⟩
                  · left; exact e
                have h2 : x = q ∧ y = p := by
                  rcases (lf_match x y p q).1 hm with h | h
                  · exact absurd h h1
                  · exact h
                have b2 : (x == q) = true := by simpa using h2.1
                have b3 : (y == p) = true := by simpa using h2.2
                clear hm h1 h2
                go_wp2_with fail
                go_quiet (fail)
                go_wp2_with fail
                go_roundw
                case rel => exact ⟨k + 1, true, V.set k true, by omega, by go_num, rfl, hide (HV2.out _), HVl2, hide (HB2.out _), hide (fun h => by cases h), hide (fun _ => HYY.out)⟩
                case measure => simp [intOf]; omega
            · have HN2 : Hid (∀ j, j < k + 1 → ¬ fits V P (x, y) j) := hide (fun j hj => by
                by_cases e : j = k
                · subst e; intro hf; have := hf.2; rw [HPQ.out] at this; exact hm this
                · exact HNO.out j (by omega))
              have hno2 : ¬ ((x = p ∧ y = q) ∨ (x = q ∧ y = p)) := fun h => hm ((lf_match x y p q).2 h)
              have b1 : (x == p && y == q) = false := by
                rw [Bool.and_eq_false_iff]
                simp only [beq_eq_false_iff_ne]
                by_cases e : x = p
                · right; intro e2; exact hno2 (Or.inl ⟨e, e2⟩)
                · left; exact e
              clear hu hm
              by_cases e : x = q
              · have b2 : (x == q) = true := by simpa using e
                have b3 : (y == p) = false := by
                  rw [beq_eq_false_iff_ne]; intro e2; exact hno2 (Or.inr ⟨e, e2⟩)
                clear hno2 e
                go_wp2_with fail
                go_quiet (fail)
                go_wp2_with fail
                go_roundw
                case rel => exact ⟨k + 1, false, V, by omega, by go_num, rfl, HV, HVl, hide (HB.out.trans (drewN_below _ _ _)), hide (fun _ => ⟨rfl, HN2.out⟩), hide (fun h => by cases h)⟩
                case measure => simp [intOf]; omega
              · have b2 : (x == q) = false := by simpa using e
                clear hno2 e
                go_wp2_with fail
                go_quiet (fail)
                go_wp2_with fail
                go_roundw
                case rel => exact ⟨k + 1, false, V, by omega, by go_num, rfl, HV, HVl, hide (HB.out.trans (drewN_below _ _ _)), hide (fun _ => ⟨rfl, HN2.out⟩), hide (fun h => by cases h)⟩
                case measure => simp [intOf]; omega
    · have hlt' : ¬ (i : Int) < (n : Int) := by omega
      go_wp2_with fail
      go_ret
      exact ⟨rfl, HB.out⟩

end Go.Proofs.Ytjcglpnpdalcjaa
