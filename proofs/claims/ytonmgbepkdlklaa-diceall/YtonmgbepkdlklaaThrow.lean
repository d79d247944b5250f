/-
  All throws of some dice, by a function that calls itself: how often each answer is given. No conditions beyond those that each theorem bears.
-/
import Derived.Test.YtonmgbepkdlklaaKp
import Derived.BigRegion
import Derived.OrdersHeld
import Derived.Deep.RegionHeld3
namespace Go.Proofs.Ytonmgbepkdlklaa
open Go.RowKit

def cap (b : Nat) : Value := .pointer (some ⟨b, 0, none⟩)

/-- What the function finds: the dice, the counts, what is asked, what is shown, the least answer, itself. -/
structure Env (w : World) (db tb qb sb lb gb TB SB : Nat) (da : Option Addr) (dc n M ag : Nat) (ab : Array Value) (least : Int) : Prop where
  dice : w.cell? ⟨db, 0, none⟩ = some (.slice da n dc)
  times : w.cell? ⟨tb, 0, none⟩ = some (.slice (some ⟨TB, 0, none⟩) M M)
  asked : w.cell? ⟨qb, 0, none⟩ = some (.func (.func ag) #[] ab)
  shown : w.cell? ⟨sb, 0, none⟩ = some (.slice (some ⟨SB, 0, none⟩) n n)
  least : w.cell? ⟨lb, 0, none⟩ = some (.int .i64 least)
  thrown : w.cell? ⟨gb, 0, none⟩ = some (.func (.func 40) #[] #[.pointer (some ⟨db, 0, none⟩), .pointer (some ⟨tb, 0, none⟩), .pointer (some ⟨qb, 0, none⟩), .pointer (some ⟨sb, 0, none⟩), .pointer (some ⟨lb, 0, none⟩), .pointer (some ⟨gb, 0, none⟩)])

/-- What is shown may be. -/
def Ok (ds : List Nat) (i : Nat) (L : List Nat) : Prop := ∀ j, j < i → 1 ≤ L.getD j 0 ∧ L.getD j 0 ≤ ds.getD j 0

def hit (F : List Nat → Int) (least : Int) (p : Nat) (t : List Nat) : Nat := if F t = least + p then 1 else 0

theorem hit_le (F : List Nat → Int) (least : Int) (p : Nat) (t : List Nat) : hit F least p t ≤ 1 := by unfold hit; split <;> omega

theorem drop_cons (ds : List Nat) (i : Nat) (h : i < ds.length) : ds.drop i = ds.getD i 0 :: ds.drop (i + 1) := by
  rw [List.drop_eq_getElem_cons h]; simp [List.getD, h]

theorem take_snocN (l : List Nat) (k : Nat) (h : k < l.length) : l.take (k + 1) = l.take k ++ [l.getD k 0] := by
  rw [List.take_succ_eq_append_getElem h]
  simp [List.getD, h]

theorem take_eq (L L' : List Nat) (i : Nat) (h : L.length = L'.length) (e : ∀ j, j < i → L'.getD j 0 = L.getD j 0) : L'.take i = L.take i := by
  apply List.ext_getElem
  · simp [h]
  · intro j h1 h2
    have hj : j < i := by simp at h1; omega
    have := e j hj
    have l1 : j < L.length := by simp at h2; omega
    have l2 : j < L'.length := by omega
    simpa [List.getD, l1, l2] using this

theorem take_setN (L : List Nat) (i x : Nat) (h : i < L.length) : (L.set i x).take (i + 1) = L.take i ++ [x] := by
  rw [take_snocN _ _ (by simpa using h)]
  congr 1
  · rw [List.take_set, List.set_eq_of_length_le (by rw [List.length_take]; exact Nat.min_le_left _ _)]
  · simp [List.getD, h]

set_option maxRecDepth 100000 in
set_option maxHeartbeats 8000000 in
theorem throw_any (db tb qb sb lb gb TB SB : Nat) (da : Option Addr) (dc M ag : Nat) (ab : Array Value) (least : Int) (ds : List Nat) (n : Nat) (hn : ds.length = n) (hn1000 : n ≤ 1000) (F : List Nat → Int) (w0 : World)
    (eg : ∀ args w, (callFunc ag args).run Try.prog w = .ok (.enter ag args) w)
    (E0 : Env w0 db tb qb sb lb gb TB SB da dc n M ag ab least) (R0 : Rd w0 da n dc (toI ds))
    (hne : ∀ b ∈ [db, tb, qb, sb, lb, gb], b ≠ TB ∧ b ≠ SB) (hda : ∀ b off, da = some ⟨b, off, none⟩ → b ≠ TB ∧ b ≠ SB) (hTS : TB ≠ SB)
    (hA : ∀ W L, Keeps (fun k => k = TB ∨ k = SB) w0 W → Blk W SB L → L.length = n → Ok ds n L → Calls Try.prog ag (#[.slice (some ⟨SB, 0, none⟩) n n] ++ ab) W fun e W' => e = .returned (.int .i64 (F L)) ∧ Below W.heap.size W W')
    (hF : ∀ L, L.length = n → Ok ds n L → least ≤ F L ∧ F L < least + M) (hM : M ≤ 1000000000) (hd1000 : ∀ i, ds.getD i 0 ≤ 1000) :
    ∀ (r i : Nat), i + r = n → ∀ (W : World) (T L : List Nat), Keeps (fun k => k = TB ∨ k = SB) w0 W → Blk W TB T → T.length = M → Blk W SB L → L.length = n → Ok ds i L → (∀ p, T.getD p 0 + prod (ds.drop i) ≤ 1000000000) →
      Calls Try.prog 40 #[.int .i64 i, .pointer (some ⟨db, 0, none⟩), .pointer (some ⟨tb, 0, none⟩), .pointer (some ⟨qb, 0, none⟩), .pointer (some ⟨sb, 0, none⟩), .pointer (some ⟨lb, 0, none⟩), .pointer (some ⟨gb, 0, none⟩)] W fun e W' =>
        e = .returned (.tuple #[]) ∧ Keeps (fun k => k = TB ∨ k = SB) W W' ∧ ∃ T' L', Blk W' TB T' ∧ T'.length = M ∧ Blk W' SB L' ∧ L'.length = n ∧ (∀ j, j < i → L'.getD j 0 = L.getD j 0) ∧ ∀ p, p < M → T'.getD p 0 = T.getD p 0 + cntT (ds.drop i) (fun t => hit F least p (L.take i ++ t)) := by
  intro r
  have hcm := R0.max
  have hcn := R0.cap
  unfold maxLen at hcm
  obtain ⟨nd1, nd2⟩ := hne db (by simp)
  obtain ⟨nt1, nt2⟩ := hne tb (by simp)
  obtain ⟨nq1, nq2⟩ := hne qb (by simp)
  obtain ⟨ns1, ns2⟩ := hne sb (by simp)
  obtain ⟨nl1, nl2⟩ := hne lb (by simp)
  obtain ⟨ng1, ng2⟩ := hne gb (by simp)
  have HE : Hid (∀ W, Keeps (fun k => k = TB ∨ k = SB) w0 W → Env W db tb qb sb lb gb TB SB da dc n M ag ab least) := hide (fun W hk => ⟨hk.cell E0.dice (by simp [nd1, nd2]), hk.cell E0.times (by simp [nt1, nt2]), hk.cell E0.asked (by simp [nq1, nq2]), hk.cell E0.shown (by simp [ns1, ns2]), hk.cell E0.least (by simp [nl1, nl2]), hk.cell E0.thrown (by simp [ng1, ng2])⟩)
  have HR : Hid (∀ W, Keeps (fun k => k = TB ∨ k = SB) w0 W → Rd W da n dc (toI ds)) := hide (fun W hk => R0.keeps hk (fun b off e => by simpa using hda b off e))
  have HN := hide hn
  have HA := hide hA
  have HF := hide hF
  have HD := hide hd1000
  have HNE := hide hne
  clear hne hn hA hF E0 R0 hda hd1000
  induction r with
  | zero =>
    intro i hi W T L hk hT hTl hL hLl hOk hb
    obtain rfl : i = n := by omega
    obtain ⟨e1, e2, e3, e4, e5, e6⟩ := HE.out W hk
    have hii : ((i : Int) == (i : Int)) = true := by simp
    have hmx : L.length ≤ maxLen := by unfold maxLen; omega
    obtain ⟨hF1, hF2⟩ := HF.out L hLl hOk
    have HCA := hide (HA.out)
    have HT := hide hT
    have HL := hide hL
    have HK := hide hk
    have HTL := hide hTl
    have HLL := hide hLl
    have HOK := hide hOk
    have HB := hide hb
    clear hT hL hk hTl hLl hOk hb
    obtain ⟨V, hV⟩ : ∃ V, F L = V := ⟨_, rfl⟩
    rw [hV] at hF1 hF2
    obtain ⟨p, hp⟩ : ∃ p : Nat, V - least = (p : Int) := ⟨(V - least).toNat, by omega⟩
    have hpM : p < M := by omega
    obtain ⟨y, hy⟩ : ∃ y, T.getD p 0 = y := ⟨_, rfl⟩
    have hyb : y + 1 ≤ 1000000000 := by
      have h1 := HB.out p
      rw [hy, List.drop_of_length_le (by rw [HN.out]; exact Nat.le_refl _)] at h1
      exact h1
    have HV := hide hV
    have HY := hide hy
    have HP := hide hp
    clear hV hy hF1 hF2
    go_enter Try.func40, Try.ntmps40
    go_wp2_with fail
    have hpM' : (p : Int) < (M : Int) := by omega
    refine wp_region_held (S := fun W' => Keeps (fun k => k = TB) W W') (by kernel_rfl) ?_
    change wpAnyH _ _ _ _ _ _ _ _ (World.drew _)
    have SW : Keeps (fun k => k = TB) W W.drew := (Keeps.refl _ W).drew
    have C2 : Hid (∀ W', Keeps (fun k => k = TB) W W' → W'.cell? ⟨tb, 0, none⟩ = some (.slice (some ⟨TB, 0, none⟩) M M)) := hide (fun W' hW => hW.cell e2 nt1)
    have C3 : Hid (∀ W', Keeps (fun k => k = TB) W W' → W'.cell? ⟨qb, 0, none⟩ = some (.func (.func ag) #[] ab)) := hide (fun W' hW => hW.cell e3 nq1)
    have C4 : Hid (∀ W', Keeps (fun k => k = TB) W W' → W'.cell? ⟨sb, 0, none⟩ = some (.slice (some ⟨SB, 0, none⟩) i i)) := hide (fun W' hW => hW.cell e4 ns1)
    have C5 : Hid (∀ W', Keeps (fun k => k = TB) W W' → W'.cell? ⟨lb, 0, none⟩ = some (.int .i64 least)) := hide (fun W' hW => hW.cell e5 nl1)
    refine wpAnyH_take (i := 0) (v := .slice (some ⟨TB, 0, none⟩) M M) rfl (by kernel_rfl) (by kernel_rfl) (by kernel_rfl) (fun _ _ _ h => h) (Or.inl ⟨by rfl, ?_⟩) SW ?_
    · intro W' hW
      have f0 := C2.out W' hW
      go_simp
    go_simp
    refine wpAnyH_take (i := 1) (v := .func (.func ag) #[] ab) rfl (by kernel_rfl) (by kernel_rfl) (by kernel_rfl) (fun _ _ _ h => h) (Or.inl ⟨by rfl, ?_⟩) SW ?_
    · intro W' hW
      have f0 := C3.out W' hW
      go_simp
    go_simp
    refine wpAnyH_take (i := 2) (v := .slice (some ⟨SB, 0, none⟩) i i) rfl (by kernel_rfl) (by kernel_rfl) (by kernel_rfl) (fun _ _ _ h => h) (Or.inl ⟨by rfl, ?_⟩) SW ?_
    · intro W' hW
      have f0 := C4.out W' hW
      go_simp
    go_simp
    refine wpAnyH_take (i := 4) (v := .int .i64 least) rfl (by kernel_rfl) (by kernel_rfl) (by kernel_rfl) (fun _ _ _ h => h) (Or.inl ⟨by rfl, ?_⟩) SW ?_
    · intro W' hW
      have f0 := C5.out W' hW
      go_simp
    go_simp
    clear C2 C3 C4 C5 e1 e2 e3 e4 e5 e6
    refine wpAnyH_ready (rs := [3]) (by kernel_rfl) (by simp) ?_
    refine AllReadyH.cons rfl (fun K1 hK1 => ?_) AllReadyH.nil
    go_simp
    refine (HCA.out W.drew L HK.out.drew (HL.out.keeps (X := fun _ => False) (Keeps.refl _ W).drew (fun h => h)) HLL.out HOK.out).mono ?_
    rintro e w6 ⟨rfl, hB6⟩
    rw [HV.out]
    have SW6 : Keeps (fun k => k = TB) W w6 := SW.trans (Keeps.of_all hB6)
    have HT6 := hide ((HT.out.keeps (X := fun _ => False) (Keeps.refl _ W).drew (fun h => h)).below hB6 HT.out.lt)
    refine hK1.out _ _ SW6 (fun SW => ?_)
    clear hK1 K1 SW6
    go_simp
    refine wpAnyH_take (i := 5) (v := .int .i64 p) rfl (by kernel_rfl) (by kernel_rfl) (by kernel_rfl) (fun _ _ _ h => h) (Or.inl ⟨by rfl, ?_⟩) SW ?_
    · intro W' hW
      have hp' := HP.out
      go_simp
      rw [IntKind.wrap_i64]
      omega
    go_simp
    refine wpAnyH_take (i := 6) (v := .pointer (some ⟨TB, p, none⟩)) rfl (by kernel_rfl) (by kernel_rfl) (by kernel_rfl) (fun _ _ _ h => h) (Or.inl ⟨by rfl, ?_⟩) SW ?_
    · intro W' hW
      go_simp
    go_simp
    refine wpAnyH_ready (rs := [7]) (by kernel_rfl) (by simp) ?_
    refine AllReadyH.cons rfl (fun K1 hK1 => ?_) AllReadyH.nil
    have r7 := HT6.out.cell (i := p) (by rw [HTL.out]; exact hpM)
    rw [HY.out] at r7
    have f7 := HT6.out.frozen p
    go_simp
    refine hK1.out _ _ SW (fun SW => ?_)
    clear hK1 K1
    refine wpAnyH_take (i := 8) (v := .int .i64 ((y + 1 : Nat) : Int)) rfl (by kernel_rfl) (by kernel_rfl) (by kernel_rfl) (fun _ _ _ h => h) (Or.inl ⟨by rfl, ?_⟩) SW ?_
    · intro W' hW
      go_simp
      rw [IntKind.wrap_i64]
      omega
    go_simp
    refine wpAnyH_take (i := 9) (v := .pointer (some ⟨TB, p, none⟩)) rfl (by kernel_rfl) (by kernel_rfl) (by kernel_rfl) (fun _ _ _ h => h) (Or.inl ⟨by rfl, ?_⟩) SW ?_
    · intro W' hW
      go_simp
    go_simp
    refine wpAnyH_ready (rs := [10]) (by kernel_rfl) (by simp) ?_
    refine AllReadyH.cons rfl (fun K1 hK1 => ?_) AllReadyH.nil
    go_simp
    have HT8 := hide (HT6.out.set p (y + 1))
    have HK8 : Hid (Keeps (fun k => k = TB) W (w6.setCell ⟨TB, p, none⟩ (.int .i64 ((y + 1 : Nat) : Int)))) := hide (SW.setCell (p := ⟨TB, p, none⟩) rfl _)
    refine hK1.out _ _ HK8.out (fun SW => ?_)
    clear hK1 K1 r7 f7
    refine wpAnyH_done (by kernel_rfl) ?_ _
    go_wp2_with fail
    refine bodyPost_ret (results_none rfl _ _ _) rfl ⟨rfl, HK8.out.mono (fun k _ h => Or.inl h), T.set p (y + 1), L, HT8.out, by rw [List.length_set]; exact HTL.out, HL.out.keeps HK8.out (fun h => hTS h.symm), HLL.out, fun _ _ => rfl, fun q hq => ?_⟩
    rw [getD_setN _ _ _ _ (by rw [HTL.out]; exact hpM), List.drop_of_length_le (by rw [HN.out]; exact Nat.le_refl _)]
    show _ = _ + hit F least q (L.take i ++ [])
    rw [List.append_nil, List.take_of_length_le (by rw [HLL.out]; exact Nat.le_refl _), hit, HV.out]
    have hp' := HP.out
    by_cases hqp : q = p
    · rw [if_pos hqp, if_pos (by omega), hqp, HY.out]
    · rw [if_neg hqp, if_neg (by omega)]; rfl
  | succ r ih =>
    intro i hi W T L hk hT hTl hL hLl hOk hb
    obtain ⟨e1, e2, e3, e4, e5, e6⟩ := HE.out W hk
    have hR := HR.out W hk
    have hin : i < n := by omega
    have hii : ((i : Int) == (n : Int)) = false := by simp; omega
    have hin' : (i : Int) < (n : Int) := by omega
    obtain ⟨ba, oa, ha, hc⟩ := hR.cells (by omega)
    subst ha
    have r1 := hc i hin
    rw [toI_getD] at r1
    obtain ⟨d, hd⟩ : ∃ d, ds.getD i 0 = d := ⟨_, rfl⟩
    rw [hd] at r1
    have hd1000 : d ≤ 1000 := by rw [← hd]; exact HD.out i
    have hdr : ds.drop i = d :: ds.drop (i + 1) := by rw [drop_cons ds i (by rw [HN.out]; exact hin), hd]
    have HDR := hide hdr
    have HDI := hide hd
    obtain ⟨PR, hPR⟩ : ∃ PR, prod (ds.drop (i + 1)) = PR := ⟨_, rfl⟩
    have HB : Hid (∀ p, T.getD p 0 + d * PR ≤ 1000000000) := hide (fun p => by have := hb p; rw [hdr, prod, hPR] at this; exact this)
    have HPR := hide hPR
    have HT := hide hT
    have HL := hide hL
    have HK := hide hk
    have HTL := hide hTl
    have HLL := hide hLl
    have HOK := hide hOk
    clear hT hL hk hTl hLl hOk hb hd hdr hPR hc hR
    go_enter Try.func40, Try.ntmps40
    go_wp2_with fail
    clear r1 e1 e2 e3 e4 e5 e6
    go_loopw [27] (fun v wr => ∃ (x : Nat) (T' L' : List Nat), x ≤ d ∧ v = .int .i64 x ∧ Hid (Keeps (fun k => k = TB ∨ k = SB) W wr) ∧ Hid (Blk wr TB T') ∧ Hid (T'.length = M) ∧ Hid (Blk wr SB L') ∧ Hid (L'.length = n) ∧ Hid (∀ j, j < i → L'.getD j 0 = L.getD j 0) ∧ Hid (∀ p, p < M → T'.getD p 0 = T.getD p 0 + sumTo (fun x => cntT (ds.drop (i + 1)) (fun t => hit F least p (L.take i ++ ((x + 1) :: t)))) x)) (fun v _ => d - (intOf v).toNat)
    case atStart => exact ⟨0, T, L, by omega, rfl, hide (Keeps.refl _ _), HT, HTL, HL, HLL, hide (fun _ _ => rfl), hide (fun _ _ => rfl)⟩
    case round =>
      obtain ⟨x, T', L', hx, rfl, HKr, HTr, HTLr, HLr, HLLr, HLe, HTe⟩ := hrel
      by_cases hxd : x < d
      · have hxd' : (x : Int) < (d : Int) := by omega
        have hK0 := HK.out.trans HKr.out
        obtain ⟨e1, e2, e3, e4, e5, e6⟩ := HE.out wr hK0
        have r2 := HLr.out.cell (i := i) (by rw [HLLr.out]; exact hin)
        have f2 := HLr.out.frozen i
        obtain ⟨z, hz⟩ : ∃ z, x + 1 = z := ⟨_, rfl⟩
        have hze : (x : Int) + 1 = (z : Int) := by omega
        have HL2 := hide (HLr.out.set i z)
        have HT2 := hide (HTr.out.other (g := SB) hTS i (.int .i64 (z : Int)))
        have HK2 : Hid (Keeps (fun k => k = TB ∨ k = SB) W (wr.setCell ⟨SB, i, none⟩ (.int .i64 (z : Int)))) := hide (HKr.out.trans ((Keeps.set1 wr SB i (.int .i64 (z : Int))).mono (fun k _ h => Or.inr h)))
        have e6' := (Keeps.set1 wr SB i (.int .i64 (z : Int))).cell e6 ng2
        obtain ⟨I, hI⟩ : ∃ I, i + 1 = I := ⟨_, rfl⟩
        have hIe : (i : Int) + 1 = (I : Int) := by omega
        have HI := hide hI
        have HZ := hide hz
        clear hI hz
        go_wp2_with fail
        have hOk2 : Ok ds I (L'.set i z) := by
          intro j hj
          have hI := HI.out
          have hz := HZ.out
          rw [getD_setN _ _ _ _ (by rw [HLLr.out]; exact hin)]
          by_cases hji : j = i
          · rw [if_pos hji, hji, HDI.out]; omega
          · rw [if_neg hji, HLe.out j (by omega)]
            exact HOK.out j (by omega)
        have hb2 : ∀ p, T'.getD p 0 + prod (ds.drop I) ≤ 1000000000 := by
          intro p
          rw [← HI.out, HPR.out]
          have h1 := HB.out p
          have h2 : (x + 1) * PR ≤ d * PR := Nat.mul_le_mul_right _ (by omega)
          rw [Nat.succ_mul] at h2
          by_cases hpM : p < M
          · rw [HTe.out p hpM]
            have h3 := sumTo_le (g := fun x => cntT (ds.drop (i + 1)) (fun t => hit F least p (L.take i ++ ((x + 1) :: t)))) PR x (fun y _ => by rw [← HPR.out]; exact cntT_le _ _ (fun t => hit_le _ _ _ _))
            omega
          · have h4 : T'[p]? = none := List.getElem?_eq_none (by rw [HTLr.out]; omega)
            have h5 : T'.getD p 0 = 0 := by simp [List.getD, h4]
            rw [h5]
            omega
        refine (ih I (by have := HI.out; omega) _ T' (L'.set i z) (HK.out.trans HK2.out) HT2.out HTLr.out HL2.out (by rw [List.length_set]; exact HLLr.out) hOk2 hb2).mono ?_
        rintro e w7 ⟨rfl, hK7, T7, L7, hT7, hTl7, hL7, hLl7, hLe7, hTe7⟩
        have HK7 := hide (HK2.out.trans hK7)
        have HLe7 : Hid (∀ j, j < i → L7.getD j 0 = L.getD j 0) := hide (fun j hj => by
          rw [hLe7 j (by have := HI.out; omega), getD_setN _ _ _ _ (by rw [HLLr.out]; exact hin), if_neg (by omega)]
          exact HLe.out j hj)
        have HTe7 : Hid (∀ p, p < M → T7.getD p 0 = T.getD p 0 + sumTo (fun x => cntT (ds.drop (i + 1)) (fun t => hit F least p (L.take i ++ ((x + 1) :: t)))) (x + 1)) := hide (fun p hp => by
          rw [hTe7 p hp, HTe.out p hp, sumTo, ← HI.out, take_setN _ _ _ (by rw [HLLr.out]; exact hin), take_eq L L' i (by rw [HLL.out, HLLr.out]) HLe.out, ← HZ.out, Nat.add_assoc]
          simp only [List.append_assoc, List.singleton_append])
        have HT7 := hide hT7
        have HL7 := hide hL7
        have HTl7 := hide hTl7
        have HLl7 := hide hLl7
        clear hK7 hT7 hL7 hTl7 hLl7 hLe7 hTe7 hOk2 hb2
        go_wp2_with fail
        go_roundw
        case rel => exact ⟨x + 1, T7, L7, by omega, by go_num, HK7, HT7, HTl7, HL7, HLl7, HLe7, HTe7⟩
        case measure => simp [intOf]; omega
      · have hxd' : ¬ (x : Int) < (d : Int) := by omega
        obtain rfl : x = d := by omega
        go_wp2_with fail
        refine bodyPost_end (results_none rfl _ _ _) rfl ⟨rfl, HKr.out, T', HTr.out, HTLr.out, L', HLr.out, HLLr.out, HLe.out, fun q hq => ?_⟩
        show T'.getD q 0 = T.getD q 0 + _
        rw [HTe.out q hq, HDR.out]
        rfl

end Go.Proofs.Ytonmgbepkdlklaa
