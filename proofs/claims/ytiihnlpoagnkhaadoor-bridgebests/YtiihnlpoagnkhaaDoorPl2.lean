/-
  What the play of a trick answers, and the whole search. No conditions beyond those that each theorem bears.
-/
import Derived.Test.YtiihnlpoagnkhaaDoorPl1
import Derived.Test.YtiihnlpoagnkhaaDoorMay
namespace Go.Proofs.YtiihnlpoagnkhaaDoor
open Go.RowKit

set_option maxRecDepth 100000 in
set_option maxHeartbeats 4000000 in
theorem end_of (db mb : Nat) (hold : Nat → Nat) (s : Int) (n : Nat) (TR : Tricks db mb hold s (n - 1)) (m ld pb : Nat) (tr : List Nat) (w : World) (hm : Mk m hold) (hld : ld < 4) (hn : 1 ≤ n) (hn13 : n ≤ 13) (hl : tr.length = 4) (hE : Even4 (HF m hold) ld 4 n)
    (hEnv : Env w db mb hold s) (hP : Put w pb tr) (hdb : db ≠ 0) :
    Calls Tryd.prog 31 #[.pointer (some ⟨db, 0, none⟩), kv m ld, .slice (some ⟨pb, 0, none⟩) 4 4] w fun e w' => e = .returned (.int .i64 (fst1 ((ld + winF s tr) % 4) + TrV m hold s ((ld + winF s tr) % 4) (n - 1) : Nat)) ∧ Env w' db mb hold s ∧ Keeps (fun b => b = mb) w w' := by
  have hlt := hm.lt
  have hw4 := winF_lt s tr
  have hwv : winF s tr = wn tr s 4 := rfl
  obtain ⟨q, hq⟩ : ∃ q, winF s tr = q := ⟨_, rfl⟩
  rw [hq] at hw4 hwv ⊢
  obtain ⟨nx, hnx⟩ : ∃ nx, (ld + q) % 4 = nx := ⟨_, rfl⟩
  rw [hnx]
  have hnx4 : nx < 4 := by omega
  have hE2 : Even4 (HF m hold) nx 0 (n - 1) := by
    intro p hp
    have := hE p hp
    rw [if_pos (by omega)] at this
    rw [this, if_neg (by omega)]
  have htm : Int.tmod ((ld : Int) + (q : Int)) 4 = (nx : Int) := by
    rw [Int.tmod_eq_emod_of_nonneg (by omega)]; omega
  have TV : Hid (TrV m hold s nx (n - 1) ≤ 13) := hide (by
    unfold TrV
    by_cases e : n - 1 = 0
    · rw [if_pos e]; omega
    · rw [if_neg e]
      have := (bt_turn (winF s) (winF_lt s) (5 * (n - 1)) (HF m hold) nx (n - 1) [] hnx4 (by omega) (by simp) (by simpa using hE2) (by simp; omega)).1
      omega)
  have HT := hide (fun w' hw' => TR m nx w' hm hnx4 (by omega) hE2 hw' hdb)
  have WI := hide (fun W (hW : Rd W (some ⟨pb, 0, none⟩) 4 4 (toI tr)) => winner_any (some ⟨pb, 0, none⟩) 4 4 tr s (by omega) W hW)
  rw [← hwv] at WI
  have FS := hide (isFirstSide_any nx)
  have HF1 : Hid (fst1 nx = if nx % 2 = 0 then 1 else 0) := hide rfl
  have RD := hide (show Rd w (some ⟨pb, 0, none⟩) 4 4 (toI tr) by have := hP.rd; rw [hl] at this; exact this)
  clear hE hE2 hm hwv hq hnx hP TR hl
  go_enter Tryd.func31, Tryd.ntmps31
  go_upto_region 1 with fail
  have S0 := St.new w m ld
  have B0 : Below w.heap.size w (w.alloc (.cells #[.int .u64 (m : Int), .int .i64 (ld : Int)] 51)) := (Below.refl _ _).alloc (Nat.le_refl _) _
  have E0 := hEnv.below B0
  have RD1 := RD.out.mono B0
  generalize w.alloc (.cells #[.int .u64 (m : Int), .int .i64 (ld : Int)] 51) = w1 at *
  clear hEnv
  obtain ⟨c0, c1⟩ := S0.cells
  have d52 := E0.str
  have hS0 := hide S0
  have hB0 := hide B0
  have hE0 := hide E0
  have W1 := hide (fun k => WI.out (w1.drewN k) (RD1.mono (drewN_below _ _ _)))
  clear S0 B0 E0 RD1 WI RD
  go_quiet ((go_at_call 36; exact (W1.out _).mono (fun _ _ ⟨he, hw⟩ => ⟨he, _, hw⟩)))
  have E2 : Env (w1.drewN nq) db mb hold s := hE0.out.below (drewN_below _ _ _)
  have B2 := hB0.out.trans (drewN_below w.heap.size w1 nq)
  have S2 : St (w1.drewN nq) w.heap.size m ld := (show (w1.drewN nq).heap[w.heap.size]? = w1.heap[w.heap.size]? from (drewN_below (w.heap.size + 1) w1 nq).block _ (by omega)).trans hS0.out
  clear c0 c1 d52 hS0 hB0 hE0 W1
  generalize w1.drewN nq = w2 at *
  obtain ⟨c0, c1⟩ := S2.cells
  have hE2 := hide E2
  have hB2 := hide B2
  clear E2 B2 S2
  go_wp2_with fail
  refine (HT.out _ hE2.out).mono ?_
  rintro e w3 ⟨rfl, hE3, hK3⟩
  have K3 := hide ((Keeps.of_all (X := fun b => b = mb) hB2.out).trans hK3)
  have HE3 := hide hE3
  generalize hvv : TrV m hold s nx (n - 1) = v at *
  have HVV := hide hvv
  clear hvv
  have hv := TV.out
  clear hE3 hK3 hE2 hB2 c0 c1 HT
  by_cases hpar : nx % 2 = 0
  · have hd : decide (nx % 2 = 0) = true := by simpa using hpar
    rw [hd] at FS
    rw [if_pos hpar] at HF1
    clear hpar hd
    go_wp2_with fail
    refine (FS.out _).mono ?_
    rintro e w4 ⟨rfl, hw⟩
    subst w4
    go_wp2
    go_ret
    refine ⟨?_, HE3.out, K3.out⟩
    show Ending.returned (.int .i64 ((v : Int) + 1)) = _
    rw [HF1.out, HVV.out, show ((1 + v : Nat) : Int) = (v : Int) + 1 by omega]
  · have hd : decide (nx % 2 = 0) = false := by simpa using hpar
    rw [hd] at FS
    rw [if_neg hpar] at HF1
    clear hpar hd
    go_wp2_with fail
    refine (FS.out _).mono ?_
    rintro e w4 ⟨rfl, hw⟩
    subst w4
    go_wp2
    go_ret
    refine ⟨?_, HE3.out, K3.out⟩
    show Ending.returned (.int .i64 (v : Int)) = _
    rw [HF1.out, HVV.out, Nat.zero_add]

/-- 'append(s, x...)' within the capacity of s, which is the call's own; x whatever slice of ints can be read (it may be a part of s): as an operation. -/
theorem wp_append_fits_rd {o : Oper} {a : Act} {K : Act → World → Prop} {Q : Exit → Act → World → Prop} (w : World) (s x : Operand)
    (ho : o.op = .call { callee := .builtin .append, args := #[s, x], argTypes := #[27, 27] }) (base g n cap : Nat) (xs : List Int) (hs : a.eval s = .slice (some ⟨g, 0, none⟩) n cap) (hown : w.ownsRow base 3 1 (.slice (some ⟨g, 0, none⟩) n cap) n (xs.map (Value.int .i64)))
    (ao : Option Addr) (m c : Nat) (ys : List Int) (hx : a.eval x = .slice ao m c) (hR : Rd w ao m c ys) (hfit : n + m ≤ cap)
    (h : ∀ w', w'.ownsRow base 3 1 (.slice (some ⟨g, 0, none⟩) (n + m) cap) (n + m) ((xs ++ ys).map (Value.int .i64)) → w.grownBy w' (some g) → K (a.put o.dst (.slice (some ⟨g, 0, none⟩) (n + m) cap)) w') : o.wp Tryd.prog a w K Q := by
  obtain ⟨i0, hi, hz0, hz1, hz2⟩ := info_parts Tryd.info3
  cases ao with
  | none =>
    obtain rfl := hR.nil rfl
    obtain rfl : m = 0 := by have := hR.cap; omega
    have hy : ys = [] := List.eq_nil_of_length_eq_zero hR.len
    subst hy
    have hrun := run_append_owned_none (P := Tryd.prog) (w := w) base 27 o.type 3 i0 1 Tryd.underlying27 hi _ n _ hown
    unfold Oper.wp
    simp [execOp, ho, resolve, invoke, builtin, hs, hx, hrun, Result.andThen]
    exact h w (by simpa using hown) (World.grownBy.refl _ _)
  | some ad =>
    obtain ⟨w', hrun, r1, r2⟩ := run_append_fits (P := Tryd.prog) w base 27 o.type 3 i0 1 Tryd.underlying27 hi hz1 g n cap _ hown ad m c (ys.map (Value.int .i64)) (by simp [hR.len]) hR.news (ints_oneCell .i64 ys) hfit
    unfold Oper.wp
    simp [execOp, ho, resolve, invoke, builtin, hs, hx, hrun, Result.andThen]
    exact h w' (by rw [List.map_append]; exact r1) r2

theorem Keeps.thenBelow {X : Nat → Prop} {a b c : World} (h : Keeps X a b) (k : Below a.heap.size b c) : Keeps X a c :=
  ⟨k.os.trans h.os, k.tape.trans h.tape, k.output.trans h.output, Nat.le_trans h.size k.size, fun i hi hx => (k.block i hi).trans (h.block i hi hx)⟩

theorem pow_small (c : Nat) (hc : c < 52) : (2 : Nat) ^ c < 18446744073709551616 := Nat.lt_of_lt_of_le (Nat.pow_lt_pow_right (by omega) hc) (by decide)

theorem shl_small (c : Nat) (hc : c < 52) : IntKind.u64.wrap (2 ^ c) = 2 ^ c := by
  have h := pow_small c hc
  have e : ((2 : Int) ^ c) = ((2 ^ c : Nat) : Int) := by push_cast; rfl
  rw [e, IntKind.wrap_u64]
  generalize (2 : Nat) ^ c = x at *
  omega

theorem andNot_rm (m c : Nat) (hm : m < 18446744073709551616) (hc : c < 52) : bits BinOp.andNot IntKind.u64 (m : Int) (2 ^ c) = (rm m c : Int) := by
  have e : ((2 : Int) ^ c) = ((2 ^ c : Nat) : Int) := by push_cast; rfl
  rw [e, u64_andNot_nat m (2 ^ c) hm (pow_small c hc)]
  rfl

set_option maxRecDepth 100000 in
set_option maxHeartbeats 8000000 in
theorem goOn_succ (db mb : Nat) (hold : Nat → Nat) (s : Int) (hdb : db ≠ 0) (f : Nat) (ih : GoOn db mb hold s f) : GoOn db mb hold s (f + 1) := by
  intro m ld n pb tr w hm hld hn hn13 hl4 ht52 hE hf hEnv hP hp0 hpd
  by_cases hk4 : tr.length = 4
  · have HV : Hid (bt (winF s) (f + 1) (HF m hold) ld tr = fst1 ((ld + winF s tr) % 4) + TrV m hold s ((ld + winF s tr) % 4) (n - 1)) := hide (by
      rw [bt, if_pos hk4]
      congr 1
      have hw4 := winF_lt s tr
      obtain ⟨x, hx⟩ : ∃ x, (ld + winF s tr) % 4 = x := ⟨_, rfl⟩
      rw [hx]
      have hlen := hE x (by omega)
      rw [hk4, if_pos (by omega)] at hlen
      unfold TrV
      by_cases e : n - 1 = 0
      · rw [if_pos e, if_pos (List.eq_nil_of_length_eq_zero (by rw [hlen, e]))]
      · rw [if_neg e, if_neg (fun h => e (by rw [← hlen, h]; rfl))]
        have hE2 : Even4 (HF m hold) x 0 (n - 1) := by
          intro p hp
          have := hE p hp
          rw [hk4, if_pos (by omega)] at this
          rw [this, if_neg (by omega)]
        exact bt_deep (winF s) (5 * (n - 1)) (HF m hold) x (n - 1) [] f (by omega) (by omega) (by simp) (by simpa using hE2) (by simp; omega) (by omega))
    rw [hk4] at hE hf ⊢
    have TR := tricks_of db mb hold s (n - 1) f (by omega) (fun _ => ih)
    have EN := hide (fun w' hw' hp' => end_of db mb hold s n TR m ld pb tr w' hm hld hn hn13 hk4 hE hw' hp' hdb)
    have hlt := hm.lt
    have HEnv := hide hEnv
    have HP := hide hP
    clear hE hm hEnv hP TR ih ht52 hk4
    go_enter Tryd.func30, Tryd.ntmps30
    go_upto_region 2 with fail
    have S0 := St.new w m ld
    have B0 : Below w.heap.size w (w.alloc (.cells #[.int .u64 (m : Int), .int .i64 (ld : Int)] 51)) := (Below.refl _ _).alloc (Nat.le_refl _) _
    have E0 := HEnv.out.below B0
    have P0 := HP.out.keeps (X := fun _ => False) (Keeps.of_all B0) (fun e => e)
    generalize w.alloc (.cells #[.int .u64 (m : Int), .int .i64 (ld : Int)] 51) = w1 at *
    obtain ⟨c0, c1⟩ := S0.cells
    have C1 := hide (EN.out w1 E0 P0)
    have B1 := hide B0
    have hpm : pb ≠ mb := by
      have := HP.out
      rcases this.2 with ⟨hv, h0⟩ | ⟨g, cap, cur, hv, hb, hg, -⟩
      · simp at hv
      · simp only [Value.slice.injEq, Option.some.injEq, Addr.mk.injEq, and_true, true_and] at hv
        obtain ⟨rfl, rfl⟩ := hv
        intro e
        subst e
        obtain ⟨es, clock, hbb, _⟩ := HEnv.out.mp
        rw [hg] at hbb
        cases hbb
    have PP := hide P0
    clear B0 E0 P0 S0 EN
    go_wp2_with fail
    refine C1.out.mono ?_
    rintro e w3 ⟨rfl, hE3, hK3⟩
    have K3 := hide ((Keeps.of_all (X := fun b => b = mb) B1.out).trans hK3)
    have P3 := hide (PP.out.keeps hK3 hpm)
    have HE3 := hide hE3
    clear hE3 hK3 C1 c0 c1
    go_wp2
    go_ret
    refine ⟨congrArg (fun x : Nat => Ending.returned (.int .i64 (x : Int))) HV.out.symm, HE3.out, K3.out.mono (fun k _ e => Or.inl e), P3.out⟩
  · have hk : tr.length < 4 := by omega
    have hm0 := hm
    have hlt := hm.lt
    obtain ⟨pl, hpl⟩ : ∃ pl, (ld + tr.length) % 4 = pl := ⟨_, rfl⟩
    have hpl4 : pl < 4 := by omega
    have hne := even_ne (HF m hold) ld tr.length n hld hk hn hE
    rw [hpl] at hne
    have hLlen := hE pl hpl4
    rw [if_neg (by omega)] at hLlen
    obtain ⟨A, hA⟩ : ∃ A, mayL (HF m hold pl) tr = A := ⟨_, rfl⟩
    have hAne : A ≠ [] := by rw [← hA]; exact mayL_ne _ _ hne
    have hAsub : ∀ x ∈ A, x ∈ HF m hold pl := by rw [← hA]; exact mayL_sub _ _
    have hA52 : ∀ x ∈ A, x < 52 := fun x hx => by
      have h2 : x < 52 ∧ m.testBit x = true ∧ hold x = pl := by simpa [HF, heldL, List.mem_filter] using hAsub x hx
      exact h2.1
    have hAlen : A.length ≤ 13 := by
      have : A.length ≤ (HF m hold pl).length := by
        rw [← hA]
        unfold mayL
        split
        · exact Nat.le_refl _
        · split
          · exact Nat.le_refl _
          · exact List.length_filter_le _ _
      omega
    obtain ⟨V, hV⟩ : ∃ V, A.map (fun c => bt (winF s) f (fun q => if q = pl then (HF m hold q).erase c else HF m hold q) ld (tr ++ [c])) = V := ⟨_, rfl⟩
    have hVlen : V.length = A.length := by rw [← hV, List.length_map]
    have HV : Hid (bt (winF s) (f + 1) (HF m hold) ld tr = mxn (decide (pl % 2 = 0)) V) := hide (by
      rw [bt, if_neg hk4, hpl, hA, hV])
    have hVb : ∀ x ∈ V, x ≤ 13 := by
      intro x hx
      rw [← hV] at hx
      obtain ⟨c, hc, rfl⟩ := List.mem_map.1 hx
      have hstep := even_step (HF m hold) ld tr.length n c hld hk hn hE (by rw [hpl]; exact hAsub c hc)
      rw [hpl] at hstep
      have hlk : (tr ++ [c]).length = tr.length + 1 := by simp
      have := (bt_turn (winF s) (winF_lt s) f _ ld n (tr ++ [c]) hld hn (by rw [hlk]; omega) (by rw [hlk]; exact hstep) (by rw [hlk]; omega)).1
      omega
    have IH : Hid (∀ (c : Nat), c ∈ A → ∀ (w' : World), Env w' db mb hold s → Put w' pb (tr ++ [c]) → Calls Tryd.prog 30 #[.pointer (some ⟨db, 0, none⟩), kv (rm m c) ld, .slice (some ⟨pb, 0, none⟩) (tr.length + 1) 4] w' fun e w'' => e = .returned (.int .i64 (bt (winF s) f (fun q => if q = pl then (HF m hold q).erase c else HF m hold q) ld (tr ++ [c]) : Nat)) ∧ Env w'' db mb hold s ∧ Keeps (fun b => b = mb ∨ b = pb) w' w'' ∧ Put w'' pb (tr ++ [c])) := hide (by
      intro c hc w' hE' hP'
      have hcm := hAsub c hc
      have hc52 := hA52 c hc
      have hH := HF_rm m c hold hlt pl hcm
      have hlk : (tr ++ [c]).length = tr.length + 1 := by simp
      have hstep := even_step (HF m hold) ld tr.length n c hld hk hn hE (by rw [hpl]; exact hcm)
      rw [hpl, ← hH] at hstep
      have := ih (rm m c) ld n pb (tr ++ [c]) w' ⟨rm_lt m c hlt, fun j hj => hm0.b52 j (by rw [rm_bit m c hlt hc52] at hj; simp at hj; exact hj.1), hm0.h4⟩ hld hn hn13 (by rw [hlk]; omega) (by
        intro x hx
        rcases List.mem_append.1 hx with hx | hx
        · exact ht52 x hx
        · have : x = c := by simpa using hx
          omega) (by rw [hlk]; exact hstep) (by rw [hlk]; omega) hE' hP' hp0 hpd
      rw [hH, hlk] at this
      exact this)
    have hpm : pb ≠ mb := by
      rcases hP.2 with ⟨hv, h0⟩ | ⟨g, cap, cur, hv, hb, hg, -⟩
      · simp at hv
      · simp only [Value.slice.injEq, Option.some.injEq, Addr.mk.injEq, and_true, true_and] at hv
        obtain ⟨rfl, rfl⟩ := hv
        intro e
        subst e
        obtain ⟨es, clock, hbb, _⟩ := hEnv.mp
        rw [hg] at hbb
        cases hbb
    have hpbs := hP.lt
    have hmbs := hEnv.mp.lt
    have hdbs : db < w.heap.size := World.block_lt_of_cell? w _ hEnv.str
    have h0s : 0 < w.heap.size := World.block_lt_of_cell? w _ (hEnv.tab 0 (by omega))
    have hmdb : db ≠ mb := hEnv.cell_ne hEnv.str
    have hm0' : (0 : Nat) ≠ mb := hEnv.cell_ne (hEnv.tab 0 (by omega))
    have htm : Int.tmod ((ld : Int) + (tr.length : Int)) 4 = (pl : Int) := by
      rw [Int.tmod_eq_emod_of_nonneg (by omega)]; omega
    have hk4' : ((tr.length : Int) == 4) = false := by simp; omega
    obtain ⟨led, hled⟩ : ∃ led : Int, (if tr = [] then -1 else ((tr.getD 0 0 : Nat) : Int)) = led := ⟨_, rfl⟩
    have hAL : allowL (HF m hold pl) led = A := by rw [← hled, allow_may, hA]
    have hled1 : -1 ≤ led := by rw [← hled]; split <;> omega
    have HAND := hide (fun w' (ht : Tab w') (hh : Hld w' db hold) => hand_any db pl m hold hm0.lt hm0.b52 hm0.h4 w' ht hh)
    have HEnv := hide hEnv
    have HP := hide hP
    have HL0 := hide hled
    have HAL := hide hAL
    have HSUB := hide hA52
    have HVD := hide hV
    have HVB := hide hVb
    have HLL := hide hLlen
    have FS := hide (isFirstSide_any pl)
    have PRD := hide hP.rd
    clear hE hm hm0 hEnv hP ih ht52 hpl hne hA hAsub hA52 hV hled hAL hVb hk4 hLlen
    generalize hkk : tr.length = k at *
    have HKK := hide hkk
    clear hkk
    go_enter Tryd.func30, Tryd.ntmps30
    go_upto_region 3 with fail
    have S0 := St.new w m ld
    have B0 : Below w.heap.size w (w.alloc (.cells #[.int .u64 (m : Int), .int .i64 (ld : Int)] 51)) := (Below.refl _ _).alloc (Nat.le_refl _) _
    have hs0 : (w.alloc (.cells #[.int .u64 (m : Int), .int .i64 (ld : Int)] 51)).heap.size = w.heap.size + 1 := by simp
    generalize w.alloc (.cells #[.int .u64 (m : Int), .int .i64 (ld : Int)] 51) = w1 at *
    obtain ⟨c0, c1⟩ := S0.cells
    have E1 := hide (HEnv.out.below B0)
    have R1 := hide (PRD.out.mono B0)
    have hB0 := hide B0
    have hS0 := hide S0
    have HS0 := hide hs0
    clear S0 B0 hs0
    have hP1 := hide (HP.out.keeps (X := fun _ => False) (Keeps.of_all hB0.out) (fun e => e))
    have hcase : Hid (tr = [] ∧ k = 0 ∧ led = -1) ∨ (0 < k ∧ Hid (∃ d : Nat, led = d ∧ w1.cell? ⟨pb, 0, none⟩ = some (.int .i64 (d : Int)))) := by
      by_cases h : tr = []
      · refine Or.inl (hide ⟨h, ?_, ?_⟩)
        · rw [← HKK.out, h]; rfl
        · rw [← HL0.out, if_pos h]
      · have hk0 : 0 < k := by
          rw [← HKK.out]
          exact List.length_pos_iff.2 h
        refine Or.inr ⟨hk0, hide ⟨tr.getD 0 0, ?_, ?_⟩⟩
        · rw [← HL0.out, if_neg h]
        · obtain ⟨b, off, he, hc⟩ := R1.out.cells hk0
          simp only [Option.some.injEq, Addr.mk.injEq, and_true] at he
          obtain ⟨rfl, rfl⟩ := he
          have := hc 0 hk0
          rw [toI_getD] at this
          simpa using this
    rcases hcase with hc0 | ⟨hk0, hcd⟩
    · obtain ⟨-, hk00, rfl⟩ := hc0.out
      have hk0' : ¬ (0 : Int) < (k : Int) := by omega
      clear hc0 hk00
      go_upto_region 7 with fail
      have hzero : True := trivial
      go_wp2_with fail
      refine (HAND.out w1 E1.out.tab E1.out.hld).mono ?_
      rintro e w2 ⟨v0, rfl, hO, hb⟩
      obtain ⟨a0, cc0, rfl⟩ := slice_form hO
      have R0 := hide (Rd.of_own hO)
      have E2 := hide (E1.out.below hb)
      have hB2 := hide (hB0.out.trans (hb.mono (by have := HS0.out; omega)))
      have ha0 : Hid (∀ b off, a0 = some ⟨b, off, none⟩ → w.heap.size ≤ b) := hide (fun b off e => by
        have := (hO.lt b (by rw [e]; rfl)).1
        have h2 := HS0.out
        omega)
      have hS2 := hide (hS0.out.keeps (X := fun _ => False) (Keeps.of_all hb) (fun e => e))
      have hP2 := hide (hP1.out.keeps (X := fun _ => False) (Keeps.of_all hb) (fun e => e))
      have hsz2 : w1.heap.size ≤ w2.heap.size := hb.size
      clear hO hb c0 c1
      have hlp : Hid (0 < (heldL m hold pl 52).length ∧ (heldL m hold pl 52).length ≤ 13) := hide (by
        have : (heldL m hold pl 52).length = n := HLL.out
        omega)
      have ALW := hide (allowed_any a0 (heldL m hold pl 52).length cc0 (HF m hold pl) (-1) hled1 hlp.out.1 (by have := hlp.out.2; omega) w2 R0.out)
      rw [HAL.out] at ALW
      go_wp2_with fail
      refine ALW.out.mono ?_
      rintro e w3 ⟨a1, cc, rfl, R1', hb, hal⟩
      have R3 := hide R1'
      have E3 := hide (E2.out.below hb)
      have hB3 := hide (hB2.out.trans (hb.mono (by have := hB2.out.size; omega)))
      have ha1 : Hid (∀ b off, a1 = some ⟨b, off, none⟩ → ¬ (b = mb ∨ b = pb)) := hide (fun b off e => by
        rcases hal with rfl | ⟨g, rfl, hg⟩
        · have := ha0.out b off e
          omega
        · simp only [Option.some.injEq, Addr.mk.injEq, and_true] at e
          have h2 := HS0.out
          omega)
      have hS3 := hide (hS2.out.keeps (X := fun _ => False) (Keeps.of_all hb) (fun e => e))
      have hP3 := hide (hP2.out.keeps (X := fun _ => False) (Keeps.of_all hb) (fun e => e))
      clear R1' hb hal ALW R0 E2 hB2 ha0 hS2 hP2 HAND E1 R1 hB0 hS0 hP1 hsz2
      have hw3 : w.heap.size < w3.heap.size := hS3.out.lt
      go_wp2_with fail
      go_loopw [9, 40] (fun v9 v40 wr => ∃ (i : Nat), v40 = .int .i64 i ∧ i ≤ A.length ∧ (∃ aw cw, v9 = .slice aw i cw) ∧ Hid (wr.ownsRow w3.heap.size 3 1 v9 i ((toI (V.take i)).map (Value.int .i64))) ∧ Hid (Env wr db mb hold s) ∧ Hid (Keeps (fun b => b = mb ∨ b = pb) w3 wr) ∧ Hid (Put wr pb tr)) (fun _ v40 _ => A.length - (intOf v40).toNat)
      case atStart => exact ⟨0, rfl, by omega, ⟨_, _, rfl⟩, World.ownsRow_nil _ _ _ _, E3, Keeps.refl _ _, hP3⟩
      case round =>
        obtain ⟨i, rfl, hi, ⟨aw, cw, rfl⟩, hO, hEr, hKr, hPr⟩ := hrel
        by_cases hiA : i < A.length
        · have hlti : (i : Int) < (A.length : Int) := by omega
          obtain ⟨c, hc⟩ : ∃ c, A.getD i 0 = c := ⟨_, rfl⟩
          have hcA : c ∈ A := by rw [← hc]; simp [List.getD, hiA]
          have hc52 := HSUB.out c hcA
          obtain ⟨bA, oA, ea, hcA'⟩ := R3.out.cells (by omega)
          subst ea
          have hcell : wr.cell? ⟨bA, oA + i, none⟩ = some (.int .i64 (c : Int)) := by
            have := hKr.out.cell (hcA' i hiA) (ha1.out bA oA rfl)
            rw [toI_getD, hc] at this
            exact this
          have Sr : St wr w.heap.size m ld := hS3.out.keeps hKr.out (by omega)
          obtain ⟨c0, c1⟩ := Sr.cells
          have hsw : w.heap.size < wr.heap.size := Sr.lt
          have hB1 : IntKind.u64.wrap (2 ^ c) = 2 ^ c := shl_small c hc52
          have hB2 : bits BinOp.andNot IntKind.u64 (m : Int) (2 ^ c) = (rm m c : Int) := andNot_rm m c hlt hc52
          have CALL := hide (IH.out c hcA)
          have hVi : Hid (V.getD i 0 = bt (winF s) f (fun q => if q = pl then (HF m hold q).erase c else HF m hold q) ld (tr ++ [c])) := hide (by
            rw [← HVD.out, ← hc]
            simp [List.getD, hiA])
          have hVt : Hid (V.take (i + 1) = V.take i ++ [V.getD i 0]) := hide (by
            have : i < V.length := by omega
            rw [List.take_succ_eq_append_getElem this]
            simp [List.getD, this])
          have hSr := hide Sr
          clear hcA' hc Sr
          go_wp2_with fail
          go_region
          have hgn : Hid (∀ q, (Value.slice aw i cw).ownBlock = some q → q < wr.heap.size) := hide (fun q hq => (hO.out.lt q hq).2)
          generalize hnb : wr.heap.size = nb at *
          have HNB := hide hnb
          have S4 : St (wr.alloc (Obj.cells #[.int .u64 ((rm m c : Nat) : Int), .int .i64 (ld : Int)] 51)).drew nb (rm m c) ld := by rw [← HNB.out]; exact St.new wr (rm m c) ld
          have K34 : Keeps (fun b => b = mb ∨ b = pb) w3 (wr.alloc (Obj.cells #[.int .u64 ((rm m c : Nat) : Int), .int .i64 (ld : Int)] 51)).drew := (hKr.out.alloc _).drew
          have E4 : Env (wr.alloc (Obj.cells #[.int .u64 ((rm m c : Nat) : Int), .int .i64 (ld : Int)] 51)).drew db mb hold s := hEr.out.below (((Below.refl _ wr).alloc (Nat.le_refl _) _).drew)
          have P4 : Put (wr.alloc (Obj.cells #[.int .u64 ((rm m c : Nat) : Int), .int .i64 (ld : Int)] 51)).drew pb tr := hPr.out.keeps (X := fun _ => False) (Keeps.of_all (((Below.refl _ wr).alloc (Nat.le_refl _) _).drew)) (fun e => e)
          have O4 := (hO.out.alloc (Obj.cells #[.int .u64 ((rm m c : Nat) : Int), .int .i64 (ld : Int)] 51)).drew
          have hnb1 : w.heap.size < nb := hsw
          clear hnb hKr hEr hPr hO c0 c1 hSr hcell hB1 hB2 hsw
          generalize (wr.alloc (Obj.cells #[.int .u64 ((rm m c : Nat) : Int), .int .i64 (ld : Int)] 51)).drew = w4 at *
          have hS4 := hide S4
          have hK4 := hide K34
          have hE4 := hide E4
          have hP4 := hide P4
          have hO4 := hide O4
          clear S4 K34 E4 P4 O4 HNB
          go_wp2_with fail
          refine wp_region_held (S := fun W => St W nb (rm m c) ld) (by kernel_rfl) ?_
          change wpAnyH _ _ _ _ _ _ _ _ (World.drew _)
          have SW : St w4.drew nb (rm m c) ld := hS4.out
          refine wpAnyH_take (i := 0) (v := .slice aw i cw) rfl (by kernel_rfl) (by kernel_rfl) (by kernel_rfl) (fun _ _ _ h => h) (Or.inl ⟨by rfl, ?_⟩) SW ?_
          · intro W hW
            clear hW
            go_simp
          go_simp
          refine wpAnyH_take (i := 1) (v := .pointer (some ⟨db, 0, none⟩)) rfl (by kernel_rfl) (by kernel_rfl) (by kernel_rfl) (fun _ _ _ h => h) (Or.inl ⟨by rfl, ?_⟩) SW ?_
          · intro W hW
            clear hW
            go_simp
          go_simp
          refine wpAnyH_take (i := 2) (v := kv (rm m c) ld) rfl (by kernel_rfl) (by kernel_rfl) (by kernel_rfl) (fun _ _ _ h => h) (Or.inl ⟨by rfl, ?_⟩) SW ?_
          · intro W hW
            obtain ⟨x0, x1⟩ := St.cells hW
            clear hW
            go_simp
          go_simp
          refine wpAnyH_take (i := 3) (v := .slice (some ⟨pb, 0, none⟩) k 4) rfl (by kernel_rfl) (by kernel_rfl) (by kernel_rfl) (fun _ _ _ h => h) (Or.inl ⟨by rfl, ?_⟩) SW ?_
          · intro W hW
            clear hW
            go_simp
          go_simp
          refine wpAnyH_take (i := 4) (v := .int .i64 (c : Int)) rfl (by kernel_rfl) (by kernel_rfl) (by kernel_rfl) (fun _ _ _ h => h) (Or.inl ⟨by rfl, ?_⟩) SW ?_
          · intro W hW
            clear hW
            go_simp
          go_simp
          refine wpAnyH_ready (rs := [5]) (by kernel_rfl) (by simp) ?_
          refine AllReadyH.cons rfl (fun K1 hK1 => ?_) AllReadyH.nil
          go_simp
          have B45 : Below w4.heap.size w4 (w4.alloc (Obj.cells #[.int .i64 (c : Int)] 3)).drew := ((Below.refl _ _).alloc (Nat.le_refl _) _).drew
          have SW5 : St (w4.alloc (Obj.cells #[.int .i64 (c : Int)] 3)).drew nb (rm m c) ld := hS4.out.keeps (X := fun _ => False) (Keeps.of_all B45) (fun e => e)
          have P5 : Put (w4.alloc (Obj.cells #[.int .i64 (c : Int)] 3)).drew pb tr := hP4.out.keeps (X := fun _ => False) (Keeps.of_all B45) (fun e => e)
          have E5 := hE4.out.below B45
          have O5 := (hO4.out.alloc (Obj.cells #[.int .i64 (c : Int)] 3)).drew
          have K5 := hK4.out.trans (Keeps.of_all (X := fun b => b = mb ∨ b = pb) B45)
          have R5 : Rd (w4.alloc (Obj.cells #[.int .i64 (c : Int)] 3)).drew (some ⟨w4.heap.size, 0, none⟩) 1 1 [(c : Int)] := (Rd_one w4 (c : Int)).mono ((Below.refl _ _).drew)
          have P5k : World.ownsRow (w4.alloc (Obj.cells #[.int .i64 (c : Int)] 3)).drew 0 3 1 (.slice (some ⟨pb, 0, none⟩) k 4) k ((toI tr).map (Value.int .i64)) := by have := P5; unfold Put at this; rw [HKK.out] at this; exact this
          refine hK1.out _ _ SW5 (fun SW' => ?_)
          clear hK1 K1 SW SW' hS4 hK4 hE4 hP4 hO4 B45 P5
          have SW := SW5
          clear SW5
          have hE5 := hide E5
          have hO5 := hide O5
          have hK5 := hide K5
          have hR5 := hide R5
          have hP5 := hide P5k
          clear E5 O5 K5 R5 P5k
          generalize (w4.alloc (Obj.cells #[.int .i64 (c : Int)] 3)).drew = w5 at *
          refine wpAnyH_ready (rs := [6]) (by kernel_rfl) (by simp) ?_
          refine AllReadyH.cons rfl (fun K1 hK1 => ?_) AllReadyH.nil
          rw [if_pos (by rfl)]
          refine wp_append_fits_rd _ (.tmp 55) (.tmp 57) rfl 0 pb k 4 (toI tr) rfl hP5.out _ 1 1 [(c : Int)] rfl hR5.out (by omega) ?_
          intro w6 hO6 hG6
          have P6 : Put w6 pb (tr ++ [c]) := by
            unfold Put
            rw [List.length_append, HKK.out, show toI (tr ++ [c]) = toI tr ++ [(c : Int)] by simp [toI]]
            exact hO6
          have KG : Keeps (fun b => b = pb) w5 w6 := ⟨hG6.os, hG6.tape, hG6.output, hG6.size, fun i hi hx => hG6.block i hi (by simp; exact hx)⟩
          have SW6 := SW.keeps KG (by omega)
          have E6 := hE5.out.keeps KG (by omega) (by omega) (hE5.out.mp.of_block (KG.block mb hE5.out.mp.lt (fun e => hpm e.symm)))
          have O6 := own_keepsX hO5.out KG (fun b hb => by omega)
          have K6 := hK5.out.trans (KG.mono (Y := fun b => b = mb ∨ b = pb) (fun b _ e => Or.inr e))
          refine hK1.out _ _ SW6 (fun SW' => ?_)
          clear hK1 K1 SW SW' hO6 hG6 hE5 hO5 hK5 hR5 hP5 KG
          have SW := SW6
          clear SW6
          have hE6 := hide E6
          have hO6 := hide O6
          have hK6 := hide K6
          have hP6 := hide P6
          clear E6 O6 K6 P6
          go_simp
          refine wpAnyH_ready (rs := [7]) (by kernel_rfl) (by simp) ?_
          refine AllReadyH.cons rfl (fun K1 hK1 => ?_) AllReadyH.nil
          go_simp
          refine (CALL.out w6 hE6.out hP6.out).mono ?_
          rintro e w7 ⟨rfl, hE7, hK7, hP7⟩
          have SW7 := SW.keeps hK7 (by omega)
          have O7 := own_keepsX hO6.out hK7 (fun b hb => by omega)
          have K7 := hK6.out.trans hK7
          have P7 := hP7.shrink
          rw [← hVi.out]
          refine hK1.out _ _ SW7 (fun SW' => ?_)
          clear hK1 K1 SW SW' hE6 hO6 hK6 hP6 hK7 hP7 CALL
          have SW := SW7
          clear SW7
          have hE7 := hide hE7
          have hO7 := hide O7
          have hK7 := hide K7
          have hP7 := hide P7
          clear O7 K7 P7
          generalize hvx : V.getD i 0 = vx at *
          have HVX := hide hvx
          clear hvx
          go_simp
          refine wpAnyH_ready (rs := [8]) (by kernel_rfl) (by simp) ?_
          refine AllReadyH.cons rfl (fun K1 hK1 => ?_) AllReadyH.nil
          go_simp
          have B78 : Below w7.heap.size w7 (w7.alloc (Obj.cells #[.int .i64 (vx : Int)] 3)) := (Below.refl _ _).alloc (Nat.le_refl _) _
          have SW8 : St (w7.alloc (Obj.cells #[.int .i64 (vx : Int)] 3)) nb (rm m c) ld := SW.keeps (X := fun _ => False) (Keeps.of_all B78) (fun e => e)
          refine hK1.out _ _ SW8 (fun SW' => ?_)
          clear hK1 K1 SW SW'
          have SW := SW8
          clear SW8
          go_simp
          refine wpAnyH_ready (rs := [9]) (by kernel_rfl) (by simp) ?_
          refine AllReadyH.cons rfl (fun K1 hK1 => ?_) AllReadyH.nil
          rw [if_pos (by rfl)]
          refine wp_append_rd _ (.tmp 52) (.tmp 60) rfl w3.heap.size _ i (toI (V.take i)) rfl (hO7.out.alloc _) _ 1 1 [(vx : Int)] rfl (Rd_one _ _) (by omega) (by have := hK7.out.size; simp; omega) ?_
          intro v9 w9 hO9 hG9
          obtain ⟨a9, c9, hv9⟩ := slice_form hO9
          rw [hv9] at hO9 ⊢
          have B79 : Below w3.heap.size w7 w9 := ((Below.refl w3.heap.size w7).alloc hK7.out.size _).grown hG9 (by have := hK7.out.size; simp; omega) (fun q hq => (hO7.out.lt q hq).1)
          have SW9 : St w9 nb (rm m c) ld := (hG9.block nb (by have := SW.lt; exact this) (fun e => absurd (hgn.out nb e.symm) (by omega))).trans SW
          have E9 := hide (hE7.out.keeps (Keeps.of_below B79) (by omega) (by omega) (hE7.out.mp.of_block (B79.block mb (by omega))))
          have P9 := hide (hP7.out.keeps (Keeps.of_below B79) (by omega))
          have K9 := hide (Keeps.thenBelow hK7.out B79)
          have O9 := hide hO9
          refine hK1.out _ _ SW9 (fun SW' => ?_)
          clear hK1 K1 SW SW' hE7 hO7 hK7 hP7 hO9 hG9 B79 hgn B78
          have SW := SW9
          clear SW9
          go_simp
          refine wpAnyH_take (i := 10) (v := .slice a9 (i + 1) c9) rfl (by kernel_rfl) (by kernel_rfl) (by kernel_rfl) (fun _ _ _ h => h) (Or.inl ⟨by rfl, ?_⟩) SW ?_
          · intro W hW
            clear hW
            go_simp
          go_simp
          refine wpAnyH_done (by kernel_rfl) ?_ _
          clear SW
          go_wp2
          refine ⟨⟨i + 1, by go_num, by omega, ⟨_, _, rfl⟩, ?_, E9, K9, P9⟩, by simp [intOf]; omega⟩
          rw [hVt.out, show toI (V.take i ++ [vx]) = toI (V.take i) ++ [(vx : Int)] by simp [toI]]
          exact O9.out
        · obtain rfl : i = A.length := by omega
          have hnlt : ¬ (A.length : Int) < (A.length : Int) := by omega
          have hAp : 0 < A.length := List.length_pos_iff.2 hAne
          have hVT : V.take A.length = V := List.take_of_length_le (by omega)
          rw [hVT] at hO
          have K0 := hide ((Keeps.of_all (X := fun b => b = mb ∨ b = pb) hB3.out).trans hKr.out)
          have hVne : V ≠ [] := fun e => by rw [e] at hVlen; simp at hVlen; omega
          have RW := hide (Rd.of_own hO.out)
          obtain ⟨bw, ow, ew, hcw⟩ := RW.out.cells hAp
          subst ew
          have hcw' : ∀ j, j < (toI V).length → wr.cell? ⟨bw, ow + j, none⟩ = some (.int .i64 ((toI V).getD j 0)) := fun j hj => hcw j (by rw [toI_length, hVlen] at hj; exact hj)
          have hTk : (toI V).take A.length = toI V := List.take_of_length_le (by rw [toI_length, hVlen]; exact Nat.le_refl _)
          by_cases hpar : pl % 2 = 0
          · have hd : decide (pl % 2 = 0) = true := by simpa using hpar
            rw [hd] at FS HV
            have MX := hide (Tryd.slices_Max_int bw ow A.length cw (toI V) wr hAp (by rw [toI_length, hVlen]; exact Nat.le_refl _) (by omega) hcw')
            rw [hTk, max_mxn V hVne] at MX
            clear hcw hcw' hd hpar hTk
            go_wp2_with fail
            refine (FS.out _).mono ?_
            rintro e w8 ⟨rfl, hw⟩
            subst w8
            go_wp2_with fail
            refine MX.out.mono ?_
            rintro e w8 ⟨rfl, hw⟩
            subst w8
            go_wp2
            go_ret
            exact ⟨congrArg (fun x : Nat => Ending.returned (.int .i64 (x : Int))) HV.out.symm, hEr.out, K0.out, hPr.out⟩
          · have hd : decide (pl % 2 = 0) = false := by simpa using hpar
            rw [hd] at FS HV
            have MX := hide (Tryd.slices_Min_int bw ow A.length cw (toI V) wr hAp (by rw [toI_length, hVlen]; exact Nat.le_refl _) (by omega) hcw')
            rw [hTk, min_mxn V hVne] at MX
            clear hcw hcw' hd hpar hTk
            go_wp2_with fail
            refine (FS.out _).mono ?_
            rintro e w8 ⟨rfl, hw⟩
            subst w8
            go_wp2_with fail
            refine MX.out.mono ?_
            rintro e w8 ⟨rfl, hw⟩
            subst w8
            go_wp2
            go_ret
            exact ⟨congrArg (fun x : Nat => Ending.returned (.int .i64 (x : Int))) HV.out.symm, hEr.out, K0.out, hPr.out⟩
    · obtain ⟨d, rfl, hd0⟩ := hcd.out
      clear hcd
      have hk0' : (0 : Int) < (k : Int) := by omega
      go_upto_region 7 with fail
      have hzero : True := trivial
      go_wp2_with fail
      refine (HAND.out w1 E1.out.tab E1.out.hld).mono ?_
      rintro e w2 ⟨v0, rfl, hO, hb⟩
      obtain ⟨a0, cc0, rfl⟩ := slice_form hO
      have R0 := hide (Rd.of_own hO)
      have E2 := hide (E1.out.below hb)
      have hB2 := hide (hB0.out.trans (hb.mono (by have := HS0.out; omega)))
      have ha0 : Hid (∀ b off, a0 = some ⟨b, off, none⟩ → w.heap.size ≤ b) := hide (fun b off e => by
        have := (hO.lt b (by rw [e]; rfl)).1
        have h2 := HS0.out
        omega)
      have hS2 := hide (hS0.out.keeps (X := fun _ => False) (Keeps.of_all hb) (fun e => e))
      have hP2 := hide (hP1.out.keeps (X := fun _ => False) (Keeps.of_all hb) (fun e => e))
      have hsz2 : w1.heap.size ≤ w2.heap.size := hb.size
      clear hO hb c0 c1
      have hlp : Hid (0 < (heldL m hold pl 52).length ∧ (heldL m hold pl 52).length ≤ 13) := hide (by
        have : (heldL m hold pl 52).length = n := HLL.out
        omega)
      have ALW := hide (allowed_any a0 (heldL m hold pl 52).length cc0 (HF m hold pl) (d : Int) hled1 hlp.out.1 (by have := hlp.out.2; omega) w2 R0.out)
      rw [HAL.out] at ALW
      go_wp2_with fail
      refine ALW.out.mono ?_
      rintro e w3 ⟨a1, cc, rfl, R1', hb, hal⟩
      have R3 := hide R1'
      have E3 := hide (E2.out.below hb)
      have hB3 := hide (hB2.out.trans (hb.mono (by have := hB2.out.size; omega)))
      have ha1 : Hid (∀ b off, a1 = some ⟨b, off, none⟩ → ¬ (b = mb ∨ b = pb)) := hide (fun b off e => by
        rcases hal with rfl | ⟨g, rfl, hg⟩
        · have := ha0.out b off e
          omega
        · simp only [Option.some.injEq, Addr.mk.injEq, and_true] at e
          have h2 := HS0.out
          omega)
      have hS3 := hide (hS2.out.keeps (X := fun _ => False) (Keeps.of_all hb) (fun e => e))
      have hP3 := hide (hP2.out.keeps (X := fun _ => False) (Keeps.of_all hb) (fun e => e))
      clear R1' hb hal ALW R0 E2 hB2 ha0 hS2 hP2 HAND E1 R1 hB0 hS0 hP1 hsz2
      have hw3 : w.heap.size < w3.heap.size := hS3.out.lt
      go_wp2_with fail
      go_loopw [9, 40] (fun v9 v40 wr => ∃ (i : Nat), v40 = .int .i64 i ∧ i ≤ A.length ∧ (∃ aw cw, v9 = .slice aw i cw) ∧ Hid (wr.ownsRow w3.heap.size 3 1 v9 i ((toI (V.take i)).map (Value.int .i64))) ∧ Hid (Env wr db mb hold s) ∧ Hid (Keeps (fun b => b = mb ∨ b = pb) w3 wr) ∧ Hid (Put wr pb tr)) (fun _ v40 _ => A.length - (intOf v40).toNat)
      case atStart => exact ⟨0, rfl, by omega, ⟨_, _, rfl⟩, World.ownsRow_nil _ _ _ _, E3, Keeps.refl _ _, hP3⟩
      case round =>
        obtain ⟨i, rfl, hi, ⟨aw, cw, rfl⟩, hO, hEr, hKr, hPr⟩ := hrel
        by_cases hiA : i < A.length
        · have hlti : (i : Int) < (A.length : Int) := by omega
          obtain ⟨c, hc⟩ : ∃ c, A.getD i 0 = c := ⟨_, rfl⟩
          have hcA : c ∈ A := by rw [← hc]; simp [List.getD, hiA]
          have hc52 := HSUB.out c hcA
          obtain ⟨bA, oA, ea, hcA'⟩ := R3.out.cells (by omega)
          subst ea
          have hcell : wr.cell? ⟨bA, oA + i, none⟩ = some (.int .i64 (c : Int)) := by
            have := hKr.out.cell (hcA' i hiA) (ha1.out bA oA rfl)
            rw [toI_getD, hc] at this
            exact this
          have Sr : St wr w.heap.size m ld := hS3.out.keeps hKr.out (by omega)
          obtain ⟨c0, c1⟩ := Sr.cells
          have hsw : w.heap.size < wr.heap.size := Sr.lt
          have hB1 : IntKind.u64.wrap (2 ^ c) = 2 ^ c := shl_small c hc52
          have hB2 : bits BinOp.andNot IntKind.u64 (m : Int) (2 ^ c) = (rm m c : Int) := andNot_rm m c hlt hc52
          have CALL := hide (IH.out c hcA)
          have hVi : Hid (V.getD i 0 = bt (winF s) f (fun q => if q = pl then (HF m hold q).erase c else HF m hold q) ld (tr ++ [c])) := hide (by
            rw [← HVD.out, ← hc]
            simp [List.getD, hiA])
          have hVt : Hid (V.take (i + 1) = V.take i ++ [V.getD i 0]) := hide (by
            have : i < V.length := by omega
            rw [List.take_succ_eq_append_getElem this]
            simp [List.getD, this])
          have hSr := hide Sr
          clear hcA' hc Sr
          go_wp2_with fail
          go_region
          have hgn : Hid (∀ q, (Value.slice aw i cw).ownBlock = some q → q < wr.heap.size) := hide (fun q hq => (hO.out.lt q hq).2)
          generalize hnb : wr.heap.size = nb at *
          have HNB := hide hnb
          have S4 : St (wr.alloc (Obj.cells #[.int .u64 ((rm m c : Nat) : Int), .int .i64 (ld : Int)] 51)).drew nb (rm m c) ld := by rw [← HNB.out]; exact St.new wr (rm m c) ld
          have K34 : Keeps (fun b => b = mb ∨ b = pb) w3 (wr.alloc (Obj.cells #[.int .u64 ((rm m c : Nat) : Int), .int .i64 (ld : Int)] 51)).drew := (hKr.out.alloc _).drew
          have E4 : Env (wr.alloc (Obj.cells #[.int .u64 ((rm m c : Nat) : Int), .int .i64 (ld : Int)] 51)).drew db mb hold s := hEr.out.below (((Below.refl _ wr).alloc (Nat.le_refl _) _).drew)
          have P4 : Put (wr.alloc (Obj.cells #[.int .u64 ((rm m c : Nat) : Int), .int .i64 (ld : Int)] 51)).drew pb tr := hPr.out.keeps (X := fun _ => False) (Keeps.of_all (((Below.refl _ wr).alloc (Nat.le_refl _) _).drew)) (fun e => e)
          have O4 := (hO.out.alloc (Obj.cells #[.int .u64 ((rm m c : Nat) : Int), .int .i64 (ld : Int)] 51)).drew
          have hnb1 : w.heap.size < nb := hsw
          clear hnb hKr hEr hPr hO c0 c1 hSr hcell hB1 hB2 hsw
          generalize (wr.alloc (Obj.cells #[.int .u64 ((rm m c : Nat) : Int), .int .i64 (ld : Int)] 51)).drew = w4 at *
          have hS4 := hide S4
          have hK4 := hide K34
          have hE4 := hide E4
          have hP4 := hide P4
          have hO4 := hide O4
          clear S4 K34 E4 P4 O4 HNB
          go_wp2_with fail
          refine wp_region_held (S := fun W => St W nb (rm m c) ld) (by kernel_rfl) ?_
          change wpAnyH _ _ _ _ _ _ _ _ (World.drew _)
          have SW : St w4.drew nb (rm m c) ld := hS4.out
          refine wpAnyH_take (i := 0) (v := .slice aw i cw) rfl (by kernel_rfl) (by kernel_rfl) (by kernel_rfl) (fun _ _ _ h => h) (Or.inl ⟨by rfl, ?_⟩) SW ?_
          · intro W hW
            clear hW
            go_simp
          go_simp
          refine wpAnyH_take (i := 1) (v := .pointer (some ⟨db, 0, none⟩)) rfl (by kernel_rfl) (by kernel_rfl) (by kernel_rfl) (fun _ _ _ h => h) (Or.inl ⟨by rfl, ?_⟩) SW ?_
          · intro W hW
            clear hW
            go_simp
          go_simp
          refine wpAnyH_take (i := 2) (v := kv (rm m c) ld) rfl (by kernel_rfl) (by kernel_rfl) (by kernel_rfl) (fun _ _ _ h => h) (Or.inl ⟨by rfl, ?_⟩) SW ?_
          · intro W hW
            obtain ⟨x0, x1⟩ := St.cells hW
            clear hW
            go_simp
          go_simp
          refine wpAnyH_take (i := 3) (v := .slice (some ⟨pb, 0, none⟩) k 4) rfl (by kernel_rfl) (by kernel_rfl) (by kernel_rfl) (fun _ _ _ h => h) (Or.inl ⟨by rfl, ?_⟩) SW ?_
          · intro W hW
            clear hW
            go_simp
          go_simp
          refine wpAnyH_take (i := 4) (v := .int .i64 (c : Int)) rfl (by kernel_rfl) (by kernel_rfl) (by kernel_rfl) (fun _ _ _ h => h) (Or.inl ⟨by rfl, ?_⟩) SW ?_
          · intro W hW
            clear hW
            go_simp
          go_simp
          refine wpAnyH_ready (rs := [5]) (by kernel_rfl) (by simp) ?_
          refine AllReadyH.cons rfl (fun K1 hK1 => ?_) AllReadyH.nil
          go_simp
          have B45 : Below w4.heap.size w4 (w4.alloc (Obj.cells #[.int .i64 (c : Int)] 3)).drew := ((Below.refl _ _).alloc (Nat.le_refl _) _).drew
          have SW5 : St (w4.alloc (Obj.cells #[.int .i64 (c : Int)] 3)).drew nb (rm m c) ld := hS4.out.keeps (X := fun _ => False) (Keeps.of_all B45) (fun e => e)
          have P5 : Put (w4.alloc (Obj.cells #[.int .i64 (c : Int)] 3)).drew pb tr := hP4.out.keeps (X := fun _ => False) (Keeps.of_all B45) (fun e => e)
          have E5 := hE4.out.below B45
          have O5 := (hO4.out.alloc (Obj.cells #[.int .i64 (c : Int)] 3)).drew
          have K5 := hK4.out.trans (Keeps.of_all (X := fun b => b = mb ∨ b = pb) B45)
          have R5 : Rd (w4.alloc (Obj.cells #[.int .i64 (c : Int)] 3)).drew (some ⟨w4.heap.size, 0, none⟩) 1 1 [(c : Int)] := (Rd_one w4 (c : Int)).mono ((Below.refl _ _).drew)
          have P5k : World.ownsRow (w4.alloc (Obj.cells #[.int .i64 (c : Int)] 3)).drew 0 3 1 (.slice (some ⟨pb, 0, none⟩) k 4) k ((toI tr).map (Value.int .i64)) := by have := P5; unfold Put at this; rw [HKK.out] at this; exact this
          refine hK1.out _ _ SW5 (fun SW' => ?_)
          clear hK1 K1 SW SW' hS4 hK4 hE4 hP4 hO4 B45 P5
          have SW := SW5
          clear SW5
          have hE5 := hide E5
          have hO5 := hide O5
          have hK5 := hide K5
          have hR5 := hide R5
          have hP5 := hide P5k
          clear E5 O5 K5 R5 P5k
          generalize (w4.alloc (Obj.cells #[.int .i64 (c : Int)] 3)).drew = w5 at *
          refine wpAnyH_ready (rs := [6]) (by kernel_rfl) (by simp) ?_
          refine AllReadyH.cons rfl (fun K1 hK1 => ?_) AllReadyH.nil
          rw [if_pos (by rfl)]
          refine wp_append_fits_rd _ (.tmp 55) (.tmp 57) rfl 0 pb k 4 (toI tr) rfl hP5.out _ 1 1 [(c : Int)] rfl hR5.out (by omega) ?_
          intro w6 hO6 hG6
          have P6 : Put w6 pb (tr ++ [c]) := by
            unfold Put
            rw [List.length_append, HKK.out, show toI (tr ++ [c]) = toI tr ++ [(c : Int)] by simp [toI]]
            exact hO6
          have KG : Keeps (fun b => b = pb) w5 w6 := ⟨hG6.os, hG6.tape, hG6.output, hG6.size, fun i hi hx => hG6.block i hi (by simp; exact hx)⟩
          have SW6 := SW.keeps KG (by omega)
          have E6 := hE5.out.keeps KG (by omega) (by omega) (hE5.out.mp.of_block (KG.block mb hE5.out.mp.lt (fun e => hpm e.symm)))
          have O6 := own_keepsX hO5.out KG (fun b hb => by omega)
          have K6 := hK5.out.trans (KG.mono (Y := fun b => b = mb ∨ b = pb) (fun b _ e => Or.inr e))
          refine hK1.out _ _ SW6 (fun SW' => ?_)
          clear hK1 K1 SW SW' hO6 hG6 hE5 hO5 hK5 hR5 hP5 KG
          have SW := SW6
          clear SW6
          have hE6 := hide E6
          have hO6 := hide O6
          have hK6 := hide K6
          have hP6 := hide P6
          clear E6 O6 K6 P6
          go_simp
          refine wpAnyH_ready (rs := [7]) (by kernel_rfl) (by simp) ?_
          refine AllReadyH.cons rfl (fun K1 hK1 => ?_) AllReadyH.nil
          go_simp
          refine (CALL.out w6 hE6.out hP6.out).mono ?_
          rintro e w7 ⟨rfl, hE7, hK7, hP7⟩
          have SW7 := SW.keeps hK7 (by omega)
          have O7 := own_keepsX hO6.out hK7 (fun b hb => by omega)
          have K7 := hK6.out.trans hK7
          have P7 := hP7.shrink
          rw [← hVi.out]
          refine hK1.out _ _ SW7 (fun SW' => ?_)
          clear hK1 K1 SW SW' hE6 hO6 hK6 hP6 hK7 hP7 CALL
          have SW := SW7
          clear SW7
          have hE7 := hide hE7
          have hO7 := hide O7
          have hK7 := hide K7
          have hP7 := hide P7
          clear O7 K7 P7
          generalize hvx : V.getD i 0 = vx at *
          have HVX := hide hvx
          clear hvx
          go_simp
          refine wpAnyH_ready (rs := [8]) (by kernel_rfl) (by simp) ?_
          refine AllReadyH.cons rfl (fun K1 hK1 => ?_) AllReadyH.nil
          go_simp
          have B78 : Below w7.heap.size w7 (w7.alloc (Obj.cells #[.int .i64 (vx : Int)] 3)) := (Below.refl _ _).alloc (Nat.le_refl _) _
          have SW8 : St (w7.alloc (Obj.cells #[.int .i64 (vx : Int)] 3)) nb (rm m c) ld := SW.keeps (X := fun _ => False) (Keeps.of_all B78) (fun e => e)
          refine hK1.out _ _ SW8 (fun SW' => ?_)
          clear hK1 K1 SW SW'
          have SW := SW8
          clear SW8
          go_simp
          refine wpAnyH_ready (rs := [9]) (by kernel_rfl) (by simp) ?_
          refine AllReadyH.cons rfl (fun K1 hK1 => ?_) AllReadyH.nil
          rw [if_pos (by rfl)]
          refine wp_append_rd _ (.tmp 52) (.tmp 60) rfl w3.heap.size _ i (toI (V.take i)) rfl (hO7.out.alloc _) _ 1 1 [(vx : Int)] rfl (Rd_one _ _) (by omega) (by have := hK7.out.size; simp; omega) ?_
          intro v9 w9 hO9 hG9
          obtain ⟨a9, c9, hv9⟩ := slice_form hO9
          rw [hv9] at hO9 ⊢
          have B79 : Below w3.heap.size w7 w9 := ((Below.refl w3.heap.size w7).alloc hK7.out.size _).grown hG9 (by have := hK7.out.size; simp; omega) (fun q hq => (hO7.out.lt q hq).1)
          have SW9 : St w9 nb (rm m c) ld := (hG9.block nb (by have := SW.lt; exact this) (fun e => absurd (hgn.out nb e.symm) (by omega))).trans SW
          have E9 := hide (hE7.out.keeps (Keeps.of_below B79) (by omega) (by omega) (hE7.out.mp.of_block (B79.block mb (by omega))))
          have P9 := hide (hP7.out.keeps (Keeps.of_below B79) (by omega))
          have K9 := hide (Keeps.thenBelow hK7.out B79)
          have O9 := hide hO9
          refine hK1.out _ _ SW9 (fun SW' => ?_)
          clear hK1 K1 SW SW' hE7 hO7 hK7 hP7 hO9 hG9 B79 hgn B78
          have SW := SW9
          clear SW9
          go_simp
          refine wpAnyH_take (i := 10) (v := .slice a9 (i + 1) c9) rfl (by kernel_rfl) (by kernel_rfl) (by kernel_rfl) (fun _ _ _ h => h) (Or.inl ⟨by rfl, ?_⟩) SW ?_
          · intro W hW
            clear hW
            go_simp
          go_simp
          refine wpAnyH_done (by kernel_rfl) ?_ _
          clear SW
          go_wp2
          refine ⟨⟨i + 1, by go_num, by omega, ⟨_, _, rfl⟩, ?_, E9, K9, P9⟩, by simp [intOf]; omega⟩
          rw [hVt.out, show toI (V.take i ++ [vx]) = toI (V.take i) ++ [(vx : Int)] by simp [toI]]
          exact O9.out
        · obtain rfl : i = A.length := by omega
          have hnlt : ¬ (A.length : Int) < (A.length : Int) := by omega
          have hAp : 0 < A.length := List.length_pos_iff.2 hAne
          have hVT : V.take A.length = V := List.take_of_length_le (by omega)
          rw [hVT] at hO
          have K0 := hide ((Keeps.of_all (X := fun b => b = mb ∨ b = pb) hB3.out).trans hKr.out)
          have hVne : V ≠ [] := fun e => by rw [e] at hVlen; simp at hVlen; omega
          have RW := hide (Rd.of_own hO.out)
          obtain ⟨bw, ow, ew, hcw⟩ := RW.out.cells hAp
          subst ew
          have hcw' : ∀ j, j < (toI V).length → wr.cell? ⟨bw, ow + j, none⟩ = some (.int .i64 ((toI V).getD j 0)) := fun j hj => hcw j (by rw [toI_length, hVlen] at hj; exact hj)
          have hTk : (toI V).take A.length = toI V := List.take_of_length_le (by rw [toI_length, hVlen]; exact Nat.le_refl _)
          by_cases hpar : pl % 2 = 0
          · have hd : decide (pl % 2 = 0) = true := by simpa using hpar
            rw [hd] at FS HV
            have MX := hide (Tryd.slices_Max_int bw ow A.length cw (toI V) wr hAp (by rw [toI_length, hVlen]; exact Nat.le_refl _) (by omega) hcw')
            rw [hTk, max_mxn V hVne] at MX
            clear hcw hcw' hd hpar hTk
            go_wp2_with fail
            refine (FS.out _).mono ?_
            rintro e w8 ⟨rfl, hw⟩
            subst w8
            go_wp2_with fail
            refine MX.out.mono ?_
            rintro e w8 ⟨rfl, hw⟩
            subst w8
            go_wp2
            go_ret
            exact ⟨congrArg (fun x : Nat => Ending.returned (.int .i64 (x : Int))) HV.out.symm, hEr.out, K0.out, hPr.out⟩
          · have hd : decide (pl % 2 = 0) = false := by simpa using hpar
            rw [hd] at FS HV
            have MX := hide (Tryd.slices_Min_int bw ow A.length cw (toI V) wr hAp (by rw [toI_length, hVlen]; exact Nat.le_refl _) (by omega) hcw')
            rw [hTk, min_mxn V hVne] at MX
            clear hcw hcw' hd hpar hTk
            go_wp2_with fail
            refine (FS.out _).mono ?_
            rintro e w8 ⟨rfl, hw⟩
            subst w8
            go_wp2_with fail
            refine MX.out.mono ?_
            rintro e w8 ⟨rfl, hw⟩
            subst w8
            go_wp2
            go_ret
            exact ⟨congrArg (fun x : Nat => Ending.returned (.int .i64 (x : Int))) HV.out.symm, hEr.out, K0.out, hPr.out⟩

/-- The search. -/
theorem goOn_all (db mb : Nat) (hold : Nat → Nat) (s : Int) (hdb : db ≠ 0) : ∀ f, GoOn db mb hold s f := by
  intro f
  induction f with
  | zero =>
    intro m ld n pb tr w _ _ hn _ hl _ _ hf
    omega
  | succ f ih => exact goOn_succ db mb hold s hdb f ih

theorem tricks_any (db mb : Nat) (hold : Nat → Nat) (s : Int) (hdb : db ≠ 0) (n : Nat) : Tricks db mb hold s n :=
  tricks_of db mb hold s n (5 * n) (Nat.le_refl _) (fun _ => goOn_all db mb hold s hdb _)

end Go.Proofs.YtiihnlpoagnkhaaDoor
