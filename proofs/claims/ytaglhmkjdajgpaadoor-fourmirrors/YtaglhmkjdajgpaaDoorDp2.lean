/-
  A sign dropped: four.Drop, and the document's own. No conditions beyond those that each theorem bears.
-/
import Derived.Test.YtaglhmkjdajgpaaDoorDp1
import Derived.Test.YtaglhmkjdajgpaaDoorBe
import Derived.Test.YtaglhmkjdajgpaaDoorFa
import Derived.Test.YtaglhmkjdajgpaaDoorGMv
namespace Go.Proofs.YtaglhmkjdajgpaaDoor
open Go.RowKit

theorem build24z (w : World) : (Instr.build 24 #[]).run Tryd.prog w = .ok (.agg (gdA 0 0 none 0 0)) w := by
  simp [Instr.build, go_sem, run_underlying Tryd.underlying24]

/-- What is refused of a drop, and how. -/
def NoD (gW gH : Nat) (zs : List Int) (k col E : Int) : Prop :=
  (¬ (1 ≤ k ∧ k ≤ 10) ∧ E = 3) ∨ ∃ K : Nat, k = K ∧ (1 ≤ K ∧ K ≤ 10) ∧ ((mvO zs = 0 ∧ E = 7) ∨ (mvO zs ≠ 0 ∧ ((0 < wnZ gW gH K zs ∧ E = 9) ∨ (wnZ gW gH K zs = 0 ∧ (((col < 0 ∨ (0 ≤ col ∧ (gW : Int) ≤ col)) ∧ E = 5) ∨ (∃ j : Nat, col = j ∧ j < gW ∧ fallN gW zs j gH = none ∧ E = 11))))))

attribute [local irreducible] mvO wnZ fallN wmG
attribute [local go_sem] build24z

set_option maxRecDepth 100000 in
set_option maxHeartbeats 2000000 in
theorem Drop_state (W H : Int) (a : Option Addr) (n c : Nat) (zs : List Int) (k col : Int) (w : World) (h : Rd w a n c zs) (hno : wmG W H zs = false) :
    Calls Tryd.prog 8 #[.agg (gdA W H a n c), .int .i64 col, .int .i64 k] w fun e w' => e = .returned (.tuple #[.agg (gdA 0 0 none 0 0), .int .i64 12]) ∧ Below w.heap.size w w' := by
  have HB0 : Hid (Below w.heap.size w ((w.alloc (.cells (gdA W H a n c) 24)).alloc (.cells (gdA 0 0 none 0 0) 24))) := hide (((Below.refl _ _).alloc (Nat.le_refl _) _).alloc (by simp) _)
  have G0 : Gd ((w.alloc (.cells (gdA W H a n c) 24)).alloc (.cells (gdA 0 0 none 0 0) 24)) w.heap.size W H a n c := (Gd.new w W H a n c).old _
  have Z0 : Gd ((w.alloc (.cells (gdA W H a n c) 24)).alloc (.cells (gdA 0 0 none 0 0) 24)) (w.heap.size + 1) 0 0 none 0 0 := by
    have := Gd.new (w.alloc (.cells (gdA W H a n c) 24)) 0 0 none 0 0
    rw [World.size_alloc] at this
    exact this
  have HZ0 := hide Z0
  have hs0 : (w.heap.size + 1) < ((w.alloc (.cells (gdA W H a n c) 24)).alloc (.cells (gdA 0 0 none 0 0) 24)).heap.size := by simp
  have HW := hide (wellOf_no W H a n c zs k _ (h.mono HB0.out) hno)
  clear h hno Z0
  go_enter Tryd.func8, Tryd.ntmps8
  go_wp2_with (refine wpList_load_gd rfl (.tmp 3) rfl w.heap.size rfl G0 ?_)
  clear G0
  refine HW.out.mono ?_
  rintro e w2 ⟨rfl, hb2⟩
  have HB2 := hide (HB0.out.trans (hb2.mono HB0.out.size))
  have KZ2 := HZ0.out.below hb2 hs0
  clear hb2 HW HB0 HZ0
  go_wp2_with ((refine wpList_store_gd rfl (.tmp 6) (.tmp 20) rfl (w.heap.size + 1) rfl rfl KZ2 ?_; intro w6 k6 kk6))
  refine bodyPost_ret (results_gdt rfl _ _ (w.heap.size + 1) rfl k6 rfl) rfl ⟨rfl, ?_⟩
  exact HB2.out.trans ((kk6.mono (Y := fun q => w.heap.size ≤ q) (fun q _ e => by omega)).below (B := w.heap.size) HB2.out.size (fun q hq e => by omega))

set_option maxRecDepth 100000 in
set_option maxHeartbeats 4000000 in
theorem Drop_no (gW gH : Nat) (a : Option Addr) (n c : Nat) (zs : List Int) (k col : Int) (w : World) (hT : Tab w) (h : Rd w a n c zs) (b : Bw gW gH n zs) (E : Int) (hE : NoD gW gH zs k col E) :
    Calls Tryd.prog 8 #[.agg (gdA gW gH a n c), .int .i64 col, .int .i64 k] w fun e w' => e = .returned (.tuple #[.agg (gdA 0 0 none 0 0), .int .i64 E]) ∧ Below w.heap.size w w' := by
  have HB0 : Hid (Below w.heap.size w ((w.alloc (.cells (gdA gW gH a n c) 24)).alloc (.cells (gdA 0 0 none 0 0) 24))) := hide (((Below.refl _ _).alloc (Nat.le_refl _) _).alloc (by simp) _)
  have G0 : Gd ((w.alloc (.cells (gdA gW gH a n c) 24)).alloc (.cells (gdA 0 0 none 0 0) 24)) w.heap.size gW gH a n c := (Gd.new w gW gH a n c).old _
  have Z0 : Gd ((w.alloc (.cells (gdA gW gH a n c) 24)).alloc (.cells (gdA 0 0 none 0 0) 24)) (w.heap.size + 1) 0 0 none 0 0 := by
    have := Gd.new (w.alloc (.cells (gdA gW gH a n c) 24)) 0 0 none 0 0
    rw [World.size_alloc] at this
    exact this
  have HZ0 := hide Z0
  have hs0 : (w.heap.size + 1) < ((w.alloc (.cells (gdA gW gH a n c) 24)).alloc (.cells (gdA 0 0 none 0 0) 24)).heap.size := by simp
  clear Z0
  rcases hE with ⟨hk, rfl⟩ | ⟨K, rfl, hK, hE⟩
  · have HW := hide (wellOf_k gW gH a n c zs k _ (h.mono HB0.out) b.wd b.ht b.mul b.may b.hn hk)
    clear h b hk hT
    go_enter Tryd.func8, Tryd.ntmps8
    go_wp2_with (refine wpList_load_gd rfl (.tmp 3) rfl w.heap.size rfl G0 ?_)
    clear G0
    refine HW.out.mono ?_
    rintro e w2 ⟨rfl, hb2⟩
    have HB2 := hide (HB0.out.trans (hb2.mono HB0.out.size))
    have KZ2 := HZ0.out.below hb2 hs0
    clear hb2 HW HB0 HZ0
    go_wp2_with ((refine wpList_store_gd rfl (.tmp 6) (.tmp 20) rfl (w.heap.size + 1) rfl rfl KZ2 ?_; intro w6 k6 kk6))
    refine bodyPost_ret (results_gdt rfl _ _ (w.heap.size + 1) rfl k6 rfl) rfl ⟨rfl, ?_⟩
    exact HB2.out.trans ((kk6.mono (Y := fun q => w.heap.size ≤ q) (fun q _ e => by omega)).below (B := w.heap.size) HB2.out.size (fun q hq e => by omega))
  · skip
    have HW := hide (wellOf_yes gW gH a n c K zs _ (hT.mono HB0.out) (h.mono HB0.out) b.wd b.ht b.mul b.may b.hn hK)
    have HMV := hide (fun (ad : Option Addr) cc W1 (hR : Rd W1 ad n cc zs) => moverOf_any gW gH ad n cc zs b.n100 b.z.2 W1 hR)
    have hm2 := mvO_12 zs
    have HZK := hide b.z
    obtain ⟨M, hM⟩ : ∃ M, mvO zs = M := ⟨_, rfl⟩
    rw [hM] at HMV hm2 hE
    rcases hE with ⟨rfl, rfl⟩ | ⟨hM0, hE⟩
    · clear h b hT hK hM
      go_enter Tryd.func8, Tryd.ntmps8
      go_wp2_with (refine wpList_load_gd rfl (.tmp 3) rfl w.heap.size rfl G0 ?_)
      clear G0
      refine HW.out.mono ?_
      rintro e w2 ⟨cc, wb, cb, hok, rfl, hws, hb2, hwbs, hcbs⟩
      have HB2 := hide (HB0.out.trans (hb2.mono HB0.out.size))
      have KZ2 := HZ0.out.below hb2 hs0
      have HKZ2 := hide KZ2
      have HMV2 := hide (HMV.out _ _ w2 hws.rd)
      have HWS := hide hws
      have HOK := hide hok
      have HR := hws.range
      simp only [World.size_alloc] at hwbs hcbs
      clear hb2 HW HB0 HMV hws hok HZ0
      go_wp2_with (refine wpList_load_mid rfl 24 _ rfl wb 0 rfl [.int .i64 (gW : Nat), .int .i64 (gH : Nat), .slice (some ⟨cb, 0, none⟩) n cc] _ HR Tryd.underlying24 rfl size24 ?_)
      clear HR KZ2
      refine HMV2.out.mono ?_
      rintro e w3 ⟨rfl, hb3⟩
      have HB3 := hide (HB2.out.trans (hb3.mono HB2.out.size))
      have KZ3 := HKZ2.out.below hb3 HKZ2.out.lt
      have HKZ3 := hide KZ3
      have HWS3 := hide (HWS.out.grow hb3)
      clear hb3 HMV2 HWS HKZ2 HB2
      go_wp2_with ((refine wpList_store_gd rfl (.tmp 6) (.tmp 29) rfl (w.heap.size + 1) rfl rfl KZ3 ?_; intro w6 k6 kk6))
      refine bodyPost_ret (results_gdt rfl _ _ (w.heap.size + 1) rfl k6 rfl) rfl ⟨rfl, ?_⟩
      exact HB3.out.trans ((kk6.mono (Y := fun q => w.heap.size ≤ q) (fun q _ e => by omega)).below (B := w.heap.size) HB3.out.size (fun q hq e => by omega))
    · have hMz : ((M : Int) == 0) = false := by simp; omega
      obtain ⟨WN, hWN⟩ : ∃ WN, wnZ gW gH K zs = WN := ⟨_, rfl⟩
      have HWNE := hide hWN
      rw [hWN] at hE
      have HLO := hide (fun g hg j hj W1 h1 => lowest_any g hg zs j hj W1 h1)
      clear h b hT hK hM hM0 hWN
      rcases hE with ⟨hw, rfl⟩ | ⟨hw, hE⟩
      · have hne : ((WN : Int) != 0) = true := by simp; omega
        clear hw
        go_enter Tryd.func8, Tryd.ntmps8
        go_wp2_with (refine wpList_load_gd rfl (.tmp 3) rfl w.heap.size rfl G0 ?_)
        clear G0
        refine HW.out.mono ?_
        rintro e w2 ⟨cc, wb, cb, hok, rfl, hws, hb2, hwbs, hcbs⟩
        have HB2 := hide (HB0.out.trans (hb2.mono HB0.out.size))
        have KZ2 := HZ0.out.below hb2 hs0
        have HKZ2 := hide KZ2
        have HMV2 := hide (HMV.out _ _ w2 hws.rd)
        have HWS := hide hws
        have HOK := hide hok
        have HR := hws.range
        simp only [World.size_alloc] at hwbs hcbs
        clear hb2 HW HB0 HMV hws hok HZ0
        go_wp2_with (refine wpList_load_mid rfl 24 _ rfl wb 0 rfl [.int .i64 (gW : Nat), .int .i64 (gH : Nat), .slice (some ⟨cb, 0, none⟩) n cc] _ HR Tryd.underlying24 rfl size24 ?_)
        clear HR KZ2
        refine HMV2.out.mono ?_
        rintro e w3 ⟨rfl, hb3⟩
        have HB3 := hide (HB2.out.trans (hb3.mono HB2.out.size))
        have KZ3 := HKZ2.out.below hb3 HKZ2.out.lt
        have HKZ3 := hide KZ3
        have HWS3 := hide (HWS.out.grow hb3)
        clear hb3 HMV2 HWS HKZ2 HB2
        have HWI := hide (winner_any ⟨gW, gH, K, n, cc, wb, cb⟩ HOK.out zs HZK.out w3 HWS3.out)
        dsimp only at HWI
        rw [HWNE.out] at HWI
        clear KZ3
        go_wp2_with fail
        refine HWI.out.mono ?_
        rintro e w4 ⟨rfl, hb4⟩
        have HB4 := hide (HB3.out.trans (hb4.mono HB3.out.size))
        have KZ4 := HKZ3.out.below hb4 HKZ3.out.lt
        have HKZ4 := hide KZ4
        have HWS4 := hide (HWS3.out.grow hb4)
        clear hb4 HWI HB3 HWS3 HKZ3
        go_wp2_with ((refine wpList_store_gd rfl (.tmp 6) (.tmp 33) rfl (w.heap.size + 1) rfl rfl KZ4 ?_; intro w6 k6 kk6))
        refine bodyPost_ret (results_gdt rfl _ _ (w.heap.size + 1) rfl k6 rfl) rfl ⟨rfl, ?_⟩
        exact HB4.out.trans ((kk6.mono (Y := fun q => w.heap.size ≤ q) (fun q _ e => by omega)).below (B := w.heap.size) HB4.out.size (fun q hq e => by omega))
      · have hne : ((WN : Int) != 0) = false := by simp; omega
        clear hw
        rcases hE with ⟨hc, rfl⟩ | ⟨j, rfl, hj, hf, rfl⟩
        · rcases hc with hc | ⟨hc, hc2⟩
          · skip
            go_enter Tryd.func8, Tryd.ntmps8
            go_wp2_with (refine wpList_load_gd rfl (.tmp 3) rfl w.heap.size rfl G0 ?_)
            clear G0
            refine HW.out.mono ?_
            rintro e w2 ⟨cc, wb, cb, hok, rfl, hws, hb2, hwbs, hcbs⟩
            have HB2 := hide (HB0.out.trans (hb2.mono HB0.out.size))
            have KZ2 := HZ0.out.below hb2 hs0
            have HKZ2 := hide KZ2
            have HMV2 := hide (HMV.out _ _ w2 hws.rd)
            have HWS := hide hws
            have HOK := hide hok
            have HR := hws.range
            simp only [World.size_alloc] at hwbs hcbs
            clear hb2 HW HB0 HMV hws hok HZ0
            go_wp2_with (refine wpList_load_mid rfl 24 _ rfl wb 0 rfl [.int .i64 (gW : Nat), .int .i64 (gH : Nat), .slice (some ⟨cb, 0, none⟩) n cc] _ HR Tryd.underlying24 rfl size24 ?_)
            clear HR KZ2
            refine HMV2.out.mono ?_
            rintro e w3 ⟨rfl, hb3⟩
            have HB3 := hide (HB2.out.trans (hb3.mono HB2.out.size))
            have KZ3 := HKZ2.out.below hb3 HKZ2.out.lt
            have HKZ3 := hide KZ3
            have HWS3 := hide (HWS.out.grow hb3)
            clear hb3 HMV2 HWS HKZ2 HB2
            have HWI := hide (winner_any ⟨gW, gH, K, n, cc, wb, cb⟩ HOK.out zs HZK.out w3 HWS3.out)
            dsimp only at HWI
            rw [HWNE.out] at HWI
            clear KZ3
            go_wp2_with fail
            refine HWI.out.mono ?_
            rintro e w4 ⟨rfl, hb4⟩
            have HB4 := hide (HB3.out.trans (hb4.mono HB3.out.size))
            have KZ4 := HKZ3.out.below hb4 HKZ3.out.lt
            have HKZ4 := hide KZ4
            have HWS4 := hide (HWS3.out.grow hb4)
            clear hb4 HWI HB3 HWS3 HKZ3
            go_wp2_with ((refine wpList_store_gd rfl (.tmp 6) (.tmp 45) rfl (w.heap.size + 1) rfl rfl KZ4 ?_; intro w6 k6 kk6))
            refine bodyPost_ret (results_gdt rfl _ _ (w.heap.size + 1) rfl k6 rfl) rfl ⟨rfl, ?_⟩
            exact HB4.out.trans ((kk6.mono (Y := fun q => w.heap.size ≤ q) (fun q _ e => by omega)).below (B := w.heap.size) HB4.out.size (fun q hq e => by omega))
          · skip
            go_enter Tryd.func8, Tryd.ntmps8
            go_wp2_with (refine wpList_load_gd rfl (.tmp 3) rfl w.heap.size rfl G0 ?_)
            clear G0
            refine HW.out.mono ?_
            rintro e w2 ⟨cc, wb, cb, hok, rfl, hws, hb2, hwbs, hcbs⟩
            have HB2 := hide (HB0.out.trans (hb2.mono HB0.out.size))
            have KZ2 := HZ0.out.below hb2 hs0
            have HKZ2 := hide KZ2
            have HMV2 := hide (HMV.out _ _ w2 hws.rd)
            have HWS := hide hws
            have HOK := hide hok
            have HR := hws.range
            simp only [World.size_alloc] at hwbs hcbs
            clear hb2 HW HB0 HMV hws hok HZ0
            go_wp2_with (refine wpList_load_mid rfl 24 _ rfl wb 0 rfl [.int .i64 (gW : Nat), .int .i64 (gH : Nat), .slice (some ⟨cb, 0, none⟩) n cc] _ HR Tryd.underlying24 rfl size24 ?_)
            clear HR KZ2
            refine HMV2.out.mono ?_
            rintro e w3 ⟨rfl, hb3⟩
            have HB3 := hide (HB2.out.trans (hb3.mono HB2.out.size))
            have KZ3 := HKZ2.out.below hb3 HKZ2.out.lt
            have HKZ3 := hide KZ3
            have HWS3 := hide (HWS.out.grow hb3)
            clear hb3 HMV2 HWS HKZ2 HB2
            have HWI := hide (winner_any ⟨gW, gH, K, n, cc, wb, cb⟩ HOK.out zs HZK.out w3 HWS3.out)
            dsimp only at HWI
            rw [HWNE.out] at HWI
            clear KZ3
            go_wp2_with fail
            refine HWI.out.mono ?_
            rintro e w4 ⟨rfl, hb4⟩
            have HB4 := hide (HB3.out.trans (hb4.mono HB3.out.size))
            have KZ4 := HKZ3.out.below hb4 HKZ3.out.lt
            have HKZ4 := hide KZ4
            have HWS4 := hide (HWS3.out.grow hb4)
            clear hb4 HWI HB3 HWS3 HKZ3
            obtain ⟨f0, f1, f2, f3⟩ := HWS4.out.fields
            dsimp only at f0 f1 f2 f3
            go_wp2_with ((refine wpList_store_gd rfl (.tmp 6) (.tmp 45) rfl (w.heap.size + 1) rfl rfl KZ4 ?_; intro w6 k6 kk6))
            refine bodyPost_ret (results_gdt rfl _ _ (w.heap.size + 1) rfl k6 rfl) rfl ⟨rfl, ?_⟩
            exact HB4.out.trans ((kk6.mono (Y := fun q => w.heap.size ≤ q) (fun q _ e => by omega)).below (B := w.heap.size) HB4.out.size (fun q hq e => by omega))
        · have c1 : ¬ (j : Int) < 0 := by omega
          have c2 : ¬ (gW : Int) ≤ (j : Int) := by omega
          go_enter Tryd.func8, Tryd.ntmps8
          go_wp2_with (refine wpList_load_gd rfl (.tmp 3) rfl w.heap.size rfl G0 ?_)
          clear G0
          refine HW.out.mono ?_
          rintro e w2 ⟨cc, wb, cb, hok, rfl, hws, hb2, hwbs, hcbs⟩
          have HB2 := hide (HB0.out.trans (hb2.mono HB0.out.size))
          have KZ2 := HZ0.out.below hb2 hs0
          have HKZ2 := hide KZ2
          have HMV2 := hide (HMV.out _ _ w2 hws.rd)
          have HWS := hide hws
          have HOK := hide hok
          have HR := hws.range
          simp only [World.size_alloc] at hwbs hcbs
          clear hb2 HW HB0 HMV hws hok HZ0
          go_wp2_with (refine wpList_load_mid rfl 24 _ rfl wb 0 rfl [.int .i64 (gW : Nat), .int .i64 (gH : Nat), .slice (some ⟨cb, 0, none⟩) n cc] _ HR Tryd.underlying24 rfl size24 ?_)
          clear HR KZ2
          refine HMV2.out.mono ?_
          rintro e w3 ⟨rfl, hb3⟩
          have HB3 := hide (HB2.out.trans (hb3.mono HB2.out.size))
          have KZ3 := HKZ2.out.below hb3 HKZ2.out.lt
          have HKZ3 := hide KZ3
          have HWS3 := hide (HWS.out.grow hb3)
          clear hb3 HMV2 HWS HKZ2 HB2
          have HWI := hide (winner_any ⟨gW, gH, K, n, cc, wb, cb⟩ HOK.out zs HZK.out w3 HWS3.out)
          dsimp only at HWI
          rw [HWNE.out] at HWI
          clear KZ3
          go_wp2_with fail
          refine HWI.out.mono ?_
          rintro e w4 ⟨rfl, hb4⟩
          have HB4 := hide (HB3.out.trans (hb4.mono HB3.out.size))
          have KZ4 := HKZ3.out.below hb4 HKZ3.out.lt
          have HKZ4 := hide KZ4
          have HWS4 := hide (HWS3.out.grow hb4)
          clear hb4 HWI HB3 HWS3 HKZ3
          obtain ⟨f0, f1, f2, f3⟩ := HWS4.out.fields
          dsimp only at f0 f1 f2 f3
          have HL4 := hide (HLO.out ⟨gW, gH, K, n, cc, wb, cb⟩ HOK.out j hj w4 HWS4.out)
          dsimp only at HL4
          rw [hf] at HL4
          clear KZ4 hf
          go_wp2_with fail
          refine HL4.out.mono ?_
          rintro e w5 ⟨rfl, hb5⟩
          rw [show fallI none = -1 from rfl]
          have HB5 := hide (HB4.out.trans (hb5.mono HB4.out.size))
          have KZ5 := HKZ4.out.below hb5 HKZ4.out.lt
          clear hb5 HL4 f0 f1 f2 f3
          go_wp2_with ((refine wpList_store_gd rfl (.tmp 6) (.tmp 51) rfl (w.heap.size + 1) rfl rfl KZ5 ?_; intro w6 k6 kk6))
          refine bodyPost_ret (results_gdt rfl _ _ (w.heap.size + 1) rfl k6 rfl) rfl ⟨rfl, ?_⟩
          exact HB5.out.trans ((kk6.mono (Y := fun q => w.heap.size ≤ q) (fun q _ e => by omega)).below (B := w.heap.size) HB5.out.size (fun q hq e => by omega))

set_option maxRecDepth 100000 in
set_option maxHeartbeats 4000000 in
theorem Drop_yes (gW gH : Nat) (a : Option Addr) (n c : Nat) (zs : List Int) (K j p : Nat) (w : World) (hT : Tab w) (h : Rd w a n c zs) (b : Bw gW gH n zs) (hK : 1 ≤ K ∧ K ≤ 10) (hm0 : mvO zs ≠ 0) (hw0 : wnZ gW gH K zs = 0) (hj : j < gW) (hf : fallN gW zs j gH = some p) :
    Calls Tryd.prog 8 #[.agg (gdA gW gH a n c), .int .i64 (j : Nat), .int .i64 (K : Nat)] w fun e w' => ∃ a' c', e = .returned (.tuple #[.agg (gdA gW gH a' n c'), .int .i64 0]) ∧ Rd w' a' n c' (zs.set p (mvO zs : Nat)) ∧ Below w.heap.size w w' := by
  have HB0 : Hid (Below w.heap.size w ((w.alloc (.cells (gdA gW gH a n c) 24)).alloc (.cells (gdA 0 0 none 0 0) 24))) := hide (((Below.refl _ _).alloc (Nat.le_refl _) _).alloc (by simp) _)
  have G0 : Gd ((w.alloc (.cells (gdA gW gH a n c) 24)).alloc (.cells (gdA 0 0 none 0 0) 24)) w.heap.size gW gH a n c := (Gd.new w gW gH a n c).old _
  have Z0 : Gd ((w.alloc (.cells (gdA gW gH a n c) 24)).alloc (.cells (gdA 0 0 none 0 0) 24)) (w.heap.size + 1) 0 0 none 0 0 := by
    have := Gd.new (w.alloc (.cells (gdA gW gH a n c) 24)) 0 0 none 0 0
    rw [World.size_alloc] at this
    exact this
  have HZ0 := hide Z0
  have hs0 : (w.heap.size + 1) < ((w.alloc (.cells (gdA gW gH a n c) 24)).alloc (.cells (gdA 0 0 none 0 0) 24)).heap.size := by simp
  clear Z0
  have hpn : p < n := by have := fallN_lt hj _ _ hf; rw [b.mul] at this; exact this.1
  have hn100 := b.n100
  have HW := hide (wellOf_yes gW gH a n c K zs _ (hT.mono HB0.out) (h.mono HB0.out) b.wd b.ht b.mul b.may b.hn hK)
  have HMV := hide (fun (ad : Option Addr) cc W1 (hR : Rd W1 ad n cc zs) => moverOf_any gW gH ad n cc zs b.n100 b.z.2 W1 hR)
  have hm2 := mvO_12 zs
  have HZK := hide b.z
  obtain ⟨M, hM⟩ : ∃ M, mvO zs = M := ⟨_, rfl⟩
  rw [hM] at HMV hm2 hm0 ⊢
  have hMz : ((M : Int) == 0) = false := by simp; omega
  have HWNE := hide hw0
  have HLO := hide (fun g hg j hj W1 h1 => lowest_any g hg zs j hj W1 h1)
  have c1 : ¬ (j : Int) < 0 := by omega
  have c2 : ¬ (gW : Int) ≤ (j : Int) := by omega
  clear h b hT hK hM hm0 hw0
  go_enter Tryd.func8, Tryd.ntmps8
  go_wp2_with (refine wpList_load_gd rfl (.tmp 3) rfl w.heap.size rfl G0 ?_)
  clear G0
  refine HW.out.mono ?_
  rintro e w2 ⟨cc, wb, cb, hok, rfl, hws, hb2, hwbs, hcbs⟩
  have HB2 := hide (HB0.out.trans (hb2.mono HB0.out.size))
  have KZ2 := HZ0.out.below hb2 hs0
  have HKZ2 := hide KZ2
  have HMV2 := hide (HMV.out _ _ w2 hws.rd)
  have HWS := hide hws
  have HOK := hide hok
  have HR := hws.range
  simp only [World.size_alloc] at hwbs hcbs
  clear hb2 HW HB0 HMV hws hok HZ0
  go_wp2_with (refine wpList_load_mid rfl 24 _ rfl wb 0 rfl [.int .i64 (gW : Nat), .int .i64 (gH : Nat), .slice (some ⟨cb, 0, none⟩) n cc] _ HR Tryd.underlying24 rfl size24 ?_)
  clear HR KZ2
  refine HMV2.out.mono ?_
  rintro e w3 ⟨rfl, hb3⟩
  have HB3 := hide (HB2.out.trans (hb3.mono HB2.out.size))
  have KZ3 := HKZ2.out.below hb3 HKZ2.out.lt
  have HKZ3 := hide KZ3
  have HWS3 := hide (HWS.out.grow hb3)
  clear hb3 HMV2 HWS HKZ2 HB2
  have HWI := hide (winner_any ⟨gW, gH, K, n, cc, wb, cb⟩ HOK.out zs HZK.out w3 HWS3.out)
  dsimp only at HWI
  rw [HWNE.out] at HWI
  clear KZ3
  go_wp2_with fail
  refine HWI.out.mono ?_
  rintro e w4 ⟨rfl, hb4⟩
  have HB4 := hide (HB3.out.trans (hb4.mono HB3.out.size))
  have KZ4 := HKZ3.out.below hb4 HKZ3.out.lt
  have HKZ4 := hide KZ4
  have HWS4 := hide (HWS3.out.grow hb4)
  clear hb4 HWI HB3 HWS3 HKZ3
  obtain ⟨f0, f1, f2, f3⟩ := HWS4.out.fields
  dsimp only at f0 f1 f2 f3
  have HL4 := hide (HLO.out ⟨gW, gH, K, n, cc, wb, cb⟩ HOK.out j hj w4 HWS4.out)
  dsimp only at HL4
  rw [hf] at HL4
  clear KZ4 hf
  go_wp2_with fail
  refine HL4.out.mono ?_
  rintro e w5 ⟨rfl, hb5⟩
  rw [show fallI (some p) = (p : Int) from rfl]
  have hpne : ((p : Int) == -1) = false := by simp
  have HB5 := hide (HB4.out.trans (hb5.mono HB4.out.size))
  have HKZ5 := hide (HKZ4.out.below hb5 HKZ4.out.lt)
  have HWS5 := hide (HWS4.out.grow hb5)
  have hcap := HWS5.out.cap
  dsimp only at hcap
  have hcm := hcap.2.1
  unfold maxLen at hcm
  have hcn := hcap.1
  clear hb5 HL4 f0 f1 f2 f3 HWS4 HKZ4 HB4 hcap
  obtain ⟨f0, f1, f2, f3⟩ := HWS5.out.fields
  dsimp only at f0 f1 f2 f3
  obtain ⟨cp, fp⟩ := HWS5.out.cell (p := p) hpn
  dsimp only at cp fp
  go_upto_region 15 with fail
  have HWS6 := hide (HWS5.out.set HOK.out p (M : Int))
  have K6 := Keeps.set1 w5 cb p (.int .i64 (M : Int))
  dsimp only at HWS6
  have KZ6 := HKZ5.out.keeps K6 (by omega)
  have HB6 : Hid (Below w.heap.size w (w5.setCell ⟨cb, p, none⟩ (.int .i64 (M : Int)))) := hide (HB5.out.trans ((K6.mono (Y := fun q => w.heap.size ≤ q) (fun q _ e => by omega)).below (B := w.heap.size) HB5.out.size (fun q hq e => by omega)))
  generalize w5.setCell ⟨cb, p, none⟩ (.int .i64 (M : Int)) = w7 at *
  have HR7 := HWS6.out.range
  dsimp only at HR7
  clear f0 f1 f2 f3 cp fp HWS5 HKZ5 HB5 K6
  go_wp2_with (first
    | refine wpList_load_mid rfl 24 _ rfl wb 0 rfl [.int .i64 (gW : Nat), .int .i64 (gH : Nat), .slice (some ⟨cb, 0, none⟩) n cc] _ HR7 Tryd.underlying24 rfl size24 ?_
    | (refine wpList_store_gd rfl (.tmp 6) (.tmp 63) rfl (w.heap.size + 1) rfl rfl KZ6 ?_; intro w6 k6 kk6))
  refine bodyPost_ret (results_gdt rfl _ _ (w.heap.size + 1) rfl k6 rfl) rfl ⟨some ⟨cb, 0, none⟩, cc, rfl, ?_, ?_⟩
  · exact HWS6.out.rd.keeps kk6 (fun b off e => by cases e; show ¬ cb = w.heap.size + 1; omega)
  · exact HB6.out.trans ((kk6.mono (Y := fun q => w.heap.size ≤ q) (fun q _ e => by omega)).below (B := w.heap.size) HB6.out.size (fun q hq e => by omega))

set_option maxRecDepth 100000 in
set_option maxHeartbeats 4000000 in
theorem DropOf_no (gW gH : Nat) (a : Option Addr) (n c : Nat) (zs : List Int) (k col : Int) (w : World) (h : Rd w a n c zs) (b : Bw gW gH n zs) (E : Int) (hE : NoD gW gH zs k col E) :
    Calls Tryd.prog 13 #[.agg (gdA gW gH a n c), .int .i64 col, .int .i64 k] w fun e w' => e = .returned (.tuple #[.agg (gdA 0 0 none 0 0), .int .i64 E]) ∧ Below w.heap.size w w' := by
  have HB0 : Hid (Below w.heap.size w ((w.alloc (.cells (gdA gW gH a n c) 24)).alloc (.cells (gdA 0 0 none 0 0) 24))) := hide (((Below.refl _ _).alloc (Nat.le_refl _) _).alloc (by simp) _)
  have G0 : Gd ((w.alloc (.cells (gdA gW gH a n c) 24)).alloc (.cells (gdA 0 0 none 0 0) 24)) w.heap.size gW gH a n c := (Gd.new w gW gH a n c).old _
  have Z0 : Gd ((w.alloc (.cells (gdA gW gH a n c) 24)).alloc (.cells (gdA 0 0 none 0 0) 24)) (w.heap.size + 1) 0 0 none 0 0 := by
    have := Gd.new (w.alloc (.cells (gdA gW gH a n c) 24)) 0 0 none 0 0
    rw [World.size_alloc] at this
    exact this
  have HZ0 := hide Z0
  have hs0 : (w.heap.size + 1) < ((w.alloc (.cells (gdA gW gH a n c) 24)).alloc (.cells (gdA 0 0 none 0 0) 24)).heap.size := by simp
  have HG0 := hide G0
  have hg0 := G0.lt
  rcases hE with ⟨hk, rfl⟩ | ⟨K, rfl, hK, hE⟩
  · have hd : decide (1 ≤ k ∧ k ≤ 10) = false := decide_eq_false hk
    clear h b hk G0
    go_enter Tryd.func13, Tryd.ntmps13
    go_wp2_with fail
    refine (within_any k 1 10 _).mono ?_
    rintro e wx ⟨rfl, hwx⟩
    subst wx
    rw [hd]
    go_wp2_with ((refine wpList_store_gd rfl (.tmp 6) (.tmp 16) rfl (w.heap.size + 1) rfl rfl Z0 ?_; intro w6 k6 kk6))
    refine bodyPost_ret (results_gdt rfl _ _ (w.heap.size + 1) rfl k6 rfl) rfl ⟨rfl, ?_⟩
    exact HB0.out.trans ((kk6.mono (Y := fun q => w.heap.size ≤ q) (fun q _ e => by omega)).below (B := w.heap.size) HB0.out.size (fun q hq e => by omega))
  · have hd : decide (1 ≤ (K : Int) ∧ (K : Int) ≤ 10) = true := decide_eq_true (by omega)
    have HMV := hide (fun W1 (hb : Below w.heap.size w W1) => GridMover_any gW gH a n c zs b.n100 b.z.2 W1 (h.mono hb))
    have HWO := hide (fun W1 (hb : Below w.heap.size w W1) => WonOf_any gW gH a n c K zs b.wd b.ht b.mul hK b.z.2 W1 (h.mono hb))
    have HWN := hide (won_wnZ (k := K) (show 0 < gW by have := b.wd; omega) hK.1 b.mul b.z.2)
    have HFA := hide (fun col (hc : col < gW) W1 (hb : Below w.heap.size w W1) => fallTo_any gW gH a n c col zs b.wd b.ht b.mul hc W1 (h.mono hb))
    have hm2 := mvO_12 zs
    have hW10 := b.wd
    obtain ⟨M, hM⟩ : ∃ M, mvO zs = M := ⟨_, rfl⟩
    rw [hM] at HMV hm2 hE
    clear Z0
    rcases hE with ⟨rfl, rfl⟩ | ⟨hM0, hE⟩
    · clear h b hK hM HWO HWN HFA
      go_enter Tryd.func13, Tryd.ntmps13
      go_wp2_with fail
      refine (within_any K 1 10 _).mono ?_
      rintro e wx ⟨rfl, hwx⟩
      subst wx
      rw [hd]
      go_wp2_with (refine wpList_load_gd rfl (.tmp 3) rfl w.heap.size rfl G0 ?_)
      clear G0
      refine (HMV.out _ HB0.out).mono ?_
      rintro e w2 ⟨rfl, hb2⟩
      have HB2 := hide (HB0.out.trans (hb2.mono HB0.out.size))
      have KZ2 := HZ0.out.below hb2 hs0
      have HKZ2 := hide KZ2
      have G2 := HG0.out.below hb2 hg0
      have HG2 := hide G2
      clear hb2 HMV HZ0 HG0 HB0
      go_wp2_with ((refine wpList_store_gd rfl (.tmp 6) (.tmp 21) rfl (w.heap.size + 1) rfl rfl KZ2 ?_; intro w6 k6 kk6))
      refine bodyPost_ret (results_gdt rfl _ _ (w.heap.size + 1) rfl k6 rfl) rfl ⟨rfl, ?_⟩
      exact HB2.out.trans ((kk6.mono (Y := fun q => w.heap.size ≤ q) (fun q _ e => by omega)).below (B := w.heap.size) HB2.out.size (fun q hq e => by omega))
    · have hMz : ((M : Int) == 0) = false := by simp; omega
      obtain ⟨WN, hWN⟩ : ∃ WN, wnZ gW gH K zs = WN := ⟨_, rfl⟩
      rw [hWN] at hE HWN
      clear h b hK hM hM0 hWN
      rcases hE with ⟨hw, rfl⟩ | ⟨hw, hE⟩
      · have hlt : (0 : Int) < (WN : Int) := by omega
        clear hw
        go_enter Tryd.func13, Tryd.ntmps13
        go_wp2_with fail
        refine (within_any K 1 10 _).mono ?_
        rintro e wx ⟨rfl, hwx⟩
        subst wx
        rw [hd]
        go_wp2_with (refine wpList_load_gd rfl (.tmp 3) rfl w.heap.size rfl G0 ?_)
        clear G0
        refine (HMV.out _ HB0.out).mono ?_
        rintro e w2 ⟨rfl, hb2⟩
        have HB2 := hide (HB0.out.trans (hb2.mono HB0.out.size))
        have KZ2 := HZ0.out.below hb2 hs0
        have HKZ2 := hide KZ2
        have G2 := HG0.out.below hb2 hg0
        have HG2 := hide G2
        clear hb2 HMV HZ0 HG0 HB0
        clear KZ2
        go_wp2_with (refine wpList_load_gd rfl (.tmp 3) rfl w.heap.size rfl G2 ?_)
        clear G2
        refine (HWO.out _ HB2.out).mono ?_
        rintro e w3 ⟨a3, c3, rfl, -, hb3⟩
        rw [HWN.out]
        have HB3 := hide (HB2.out.trans (hb3.mono HB2.out.size))
        have KZ3 := HKZ2.out.below hb3 HKZ2.out.lt
        have HG3 := hide (HG2.out.below hb3 HG2.out.lt)
        clear hb3 HWO HKZ2 HG2 HB2
        go_wp2_with ((refine wpList_store_gd rfl (.tmp 6) (.tmp 30) rfl (w.heap.size + 1) rfl rfl KZ3 ?_; intro w6 k6 kk6))
        refine bodyPost_ret (results_gdt rfl _ _ (w.heap.size + 1) rfl k6 rfl) rfl ⟨rfl, ?_⟩
        exact HB3.out.trans ((kk6.mono (Y := fun q => w.heap.size ≤ q) (fun q _ e => by omega)).below (B := w.heap.size) HB3.out.size (fun q hq e => by omega))
      · have hlt : ¬ (0 : Int) < (WN : Int) := by omega
        clear hw
        rcases hE with ⟨hc, rfl⟩ | ⟨j, rfl, hj, hf, rfl⟩
        · have hd2 : decide ((0 : Int) ≤ col ∧ col ≤ (gW : Int) - 1) = false := decide_eq_false (by omega)
          go_enter Tryd.func13, Tryd.ntmps13
          go_wp2_with fail
          refine (within_any K 1 10 _).mono ?_
          rintro e wx ⟨rfl, hwx⟩
          subst wx
          rw [hd]
          go_wp2_with (refine wpList_load_gd rfl (.tmp 3) rfl w.heap.size rfl G0 ?_)
          clear G0
          refine (HMV.out _ HB0.out).mono ?_
          rintro e w2 ⟨rfl, hb2⟩
          have HB2 := hide (HB0.out.trans (hb2.mono HB0.out.size))
          have KZ2 := HZ0.out.below hb2 hs0
          have HKZ2 := hide KZ2
          have G2 := HG0.out.below hb2 hg0
          have HG2 := hide G2
          clear hb2 HMV HZ0 HG0 HB0
          clear KZ2
          go_wp2_with (refine wpList_load_gd rfl (.tmp 3) rfl w.heap.size rfl G2 ?_)
          clear G2
          refine (HWO.out _ HB2.out).mono ?_
          rintro e w3 ⟨a3, c3, rfl, -, hb3⟩
          rw [HWN.out]
          have HB3 := hide (HB2.out.trans (hb3.mono HB2.out.size))
          have KZ3 := HKZ2.out.below hb3 HKZ2.out.lt
          have HG3 := hide (HG2.out.below hb3 HG2.out.lt)
          clear hb3 HWO HKZ2 HG2 HB2
          obtain ⟨g0, g1, g2⟩ := HG3.out.cells
          have HKZ3b := hide KZ3
          clear KZ3
          go_wp2_with fail
          refine (within_any col 0 (gW - 1) _).mono ?_
          rintro e wx ⟨rfl, hwx⟩
          subst wx
          rw [hd2]
          have KZ4 := HKZ3b.out
          go_wp2_with ((refine wpList_store_gd rfl (.tmp 6) (.tmp 37) rfl (w.heap.size + 1) rfl rfl KZ4 ?_; intro w6 k6 kk6))
          refine bodyPost_ret (results_gdt rfl _ _ (w.heap.size + 1) rfl k6 rfl) rfl ⟨rfl, ?_⟩
          exact HB3.out.trans ((kk6.mono (Y := fun q => w.heap.size ≤ q) (fun q _ e => by omega)).below (B := w.heap.size) HB3.out.size (fun q hq e => by omega))
        · have hd2 : decide ((0 : Int) ≤ (j : Int) ∧ (j : Int) ≤ (gW : Int) - 1) = true := decide_eq_true (by omega)
          go_enter Tryd.func13, Tryd.ntmps13
          go_wp2_with fail
          refine (within_any K 1 10 _).mono ?_
          rintro e wx ⟨rfl, hwx⟩
          subst wx
          rw [hd]
          go_wp2_with (refine wpList_load_gd rfl (.tmp 3) rfl w.heap.size rfl G0 ?_)
          clear G0
          refine (HMV.out _ HB0.out).mono ?_
          rintro e w2 ⟨rfl, hb2⟩
          have HB2 := hide (HB0.out.trans (hb2.mono HB0.out.size))
          have KZ2 := HZ0.out.below hb2 hs0
          have HKZ2 := hide KZ2
          have G2 := HG0.out.below hb2 hg0
          have HG2 := hide G2
          clear hb2 HMV HZ0 HG0 HB0
          clear KZ2
          go_wp2_with (refine wpList_load_gd rfl (.tmp 3) rfl w.heap.size rfl G2 ?_)
          clear G2
          refine (HWO.out _ HB2.out).mono ?_
          rintro e w3 ⟨a3, c3, rfl, -, hb3⟩
          rw [HWN.out]
          have HB3 := hide (HB2.out.trans (hb3.mono HB2.out.size))
          have KZ3 := HKZ2.out.below hb3 HKZ2.out.lt
          have HG3 := hide (HG2.out.below hb3 HG2.out.lt)
          clear hb3 HWO HKZ2 HG2 HB2
          obtain ⟨g0, g1, g2⟩ := HG3.out.cells
          have HKZ3b := hide KZ3
          clear KZ3
          go_wp2_with fail
          refine (within_any j 0 (gW - 1) _).mono ?_
          rintro e wx ⟨rfl, hwx⟩
          subst wx
          rw [hd2]
          have G3' := HG3.out
          have HF := hide (HFA.out j hj w3 HB3.out)
          rw [hf] at HF
          clear hf g0 g1 g2
          go_wp2_with (refine wpList_load_gd rfl (.tmp 3) rfl w.heap.size rfl G3' ?_)
          refine HF.out.mono ?_
          rintro e w5 ⟨rfl, hb5⟩
          rw [show fallI none = -1 from rfl]
          have HB5 := hide (HB3.out.trans (hb5.mono HB3.out.size))
          have KZ5 := HKZ3b.out.below hb5 HKZ3b.out.lt
          clear hb5 HF G3'
          go_wp2_with ((refine wpList_store_gd rfl (.tmp 6) (.tmp 43) rfl (w.heap.size + 1) rfl rfl KZ5 ?_; intro w6 k6 kk6))
          refine bodyPost_ret (results_gdt rfl _ _ (w.heap.size + 1) rfl k6 rfl) rfl ⟨rfl, ?_⟩
          exact HB5.out.trans ((kk6.mono (Y := fun q => w.heap.size ≤ q) (fun q _ e => by omega)).below (B := w.heap.size) HB5.out.size (fun q hq e => by omega))

set_option maxRecDepth 100000 in
set_option maxHeartbeats 4000000 in
theorem DropOf_yes (gW gH : Nat) (a : Option Addr) (n c : Nat) (zs : List Int) (K j p : Nat) (w : World) (h : Rd w a n c zs) (b : Bw gW gH n zs) (hK : 1 ≤ K ∧ K ≤ 10) (hm0 : mvO zs ≠ 0) (hw0 : wnZ gW gH K zs = 0) (hj : j < gW) (hf : fallN gW zs j gH = some p) :
    Calls Tryd.prog 13 #[.agg (gdA gW gH a n c), .int .i64 (j : Nat), .int .i64 (K : Nat)] w fun e w' => ∃ a' c', e = .returned (.tuple #[.agg (gdA gW gH a' n c'), .int .i64 0]) ∧ Rd w' a' n c' (zs.set p (mvO zs : Nat)) ∧ Below w.heap.size w w' := by
  have HB0 : Hid (Below w.heap.size w ((w.alloc (.cells (gdA gW gH a n c) 24)).alloc (.cells (gdA 0 0 none 0 0) 24))) := hide (((Below.refl _ _).alloc (Nat.le_refl _) _).alloc (by simp) _)
  have G0 : Gd ((w.alloc (.cells (gdA gW gH a n c) 24)).alloc (.cells (gdA 0 0 none 0 0) 24)) w.heap.size gW gH a n c := (Gd.new w gW gH a n c).old _
  have Z0 : Gd ((w.alloc (.cells (gdA gW gH a n c) 24)).alloc (.cells (gdA 0 0 none 0 0) 24)) (w.heap.size + 1) 0 0 none 0 0 := by
    have := Gd.new (w.alloc (.cells (gdA gW gH a n c) 24)) 0 0 none 0 0
    rw [World.size_alloc] at this
    exact this
  have HZ0 := hide Z0
  have hs0 : (w.heap.size + 1) < ((w.alloc (.cells (gdA gW gH a n c) 24)).alloc (.cells (gdA 0 0 none 0 0) 24)).heap.size := by simp
  have HG0 := hide G0
  have hg0 := G0.lt
  have hpn : p < n := by have := fallN_lt hj _ _ hf; rw [b.mul] at this; exact this.1
  have hn100 := b.n100
  have hd : decide (1 ≤ (K : Int) ∧ (K : Int) ≤ 10) = true := decide_eq_true (by omega)
  have HMV := hide (fun W1 (hb : Below w.heap.size w W1) => GridMover_any gW gH a n c zs b.n100 b.z.2 W1 (h.mono hb))
  have HWO := hide (fun W1 (hb : Below w.heap.size w W1) => WonOf_any gW gH a n c K zs b.wd b.ht b.mul hK b.z.2 W1 (h.mono hb))
  have HWN := hide (won_wnZ (k := K) (show 0 < gW by have := b.wd; omega) hK.1 b.mul b.z.2)
  have HFA := hide (fun col (hc : col < gW) W1 (hb : Below w.heap.size w W1) => fallTo_any gW gH a n c col zs b.wd b.ht b.mul hc W1 (h.mono hb))
  have HGO := hide (fun W1 (hb : Below w.heap.size w W1) => GridOf_own gW gH a n c zs W1 (h.mono hb) (by omega))
  have hm2 := mvO_12 zs
  have hW10 := b.wd
  obtain ⟨M, hM⟩ : ∃ M, mvO zs = M := ⟨_, rfl⟩
  rw [hM] at HMV hm2 hm0 ⊢
  have hMz : ((M : Int) == 0) = false := by simp; omega
  rw [hw0] at HWN
  have hd2 : decide ((0 : Int) ≤ (j : Int) ∧ (j : Int) ≤ (gW : Int) - 1) = true := decide_eq_true (by omega)
  clear Z0 h b hK hM hm0 hw0
  go_enter Tryd.func13, Tryd.ntmps13
  go_wp2_with fail
  refine (within_any K 1 10 _).mono ?_
  rintro e wx ⟨rfl, hwx⟩
  subst wx
  rw [hd]
  go_wp2_with (refine wpList_load_gd rfl (.tmp 3) rfl w.heap.size rfl G0 ?_)
  clear G0
  refine (HMV.out _ HB0.out).mono ?_
  rintro e w2 ⟨rfl, hb2⟩
  have HB2 := hide (HB0.out.trans (hb2.mono HB0.out.size))
  have KZ2 := HZ0.out.below hb2 hs0
  have HKZ2 := hide KZ2
  have G2 := HG0.out.below hb2 hg0
  have HG2 := hide G2
  clear hb2 HMV HZ0 HG0 HB0
  clear KZ2
  go_wp2_with (refine wpList_load_gd rfl (.tmp 3) rfl w.heap.size rfl G2 ?_)
  clear G2
  refine (HWO.out _ HB2.out).mono ?_
  rintro e w3 ⟨a3, c3, rfl, -, hb3⟩
  rw [HWN.out]
  have HB3 := hide (HB2.out.trans (hb3.mono HB2.out.size))
  have KZ3 := HKZ2.out.below hb3 HKZ2.out.lt
  have HG3 := hide (HG2.out.below hb3 HG2.out.lt)
  clear hb3 HWO HKZ2 HG2 HB2
  obtain ⟨g0, g1, g2⟩ := HG3.out.cells
  have HKZ3b := hide KZ3
  clear KZ3
  go_wp2_with fail
  refine (within_any j 0 (gW - 1) _).mono ?_
  rintro e wx ⟨rfl, hwx⟩
  subst wx
  rw [hd2]
  have G3' := HG3.out
  have HF := hide (HFA.out j hj w3 HB3.out)
  rw [hf] at HF
  clear hf g0 g1 g2
  go_wp2_with (refine wpList_load_gd rfl (.tmp 3) rfl w.heap.size rfl G3' ?_)
  refine HF.out.mono ?_
  rintro e w5 ⟨rfl, hb5⟩
  rw [show fallI (some p) = (p : Int) from rfl]
  have HB5 := hide (HB3.out.trans (hb5.mono HB3.out.size))
  have HKZ5 := hide (HKZ3b.out.below hb5 HKZ3b.out.lt)
  have G5 := HG3.out.below hb5 HG3.out.lt
  clear hb5 HF G3' HG3 HKZ3b HB3
  have hp0 : ¬ (p : Int) < 0 := by omega
  go_wp2_with (refine wpList_load_gd rfl (.tmp 3) rfl w.heap.size rfl G5 ?_)
  refine (HGO.out w5 HB5.out).mono ?_
  rintro e w6 ⟨a', c', rfl, hO, hb6⟩
  have h5s := HB5.out.size
  have h6s := hb6.size
  have HB6 := hide (HB5.out.trans (hb6.mono h5s))
  have HKZ6 := hide (HKZ5.out.below hb6 HKZ5.out.lt)
  have hkz := HKZ5.out.lt
  obtain ⟨ab, rfl, hab, habl⟩ : ∃ ab, a' = some ⟨ab, 0, none⟩ ∧ w5.heap.size ≤ ab ∧ ab < w6.heap.size := by
    rcases hO.2 with ⟨e, e2⟩ | ⟨b, cap, cur, e, hb, h2, _⟩
    · omega
    · simp only [Value.slice.injEq] at e
      exact ⟨b, e.1, hb, (Array.getElem?_eq_some_iff.1 h2).1⟩
  have HO := hide hO
  have hcc' : n ≤ c' ∧ c' ≤ maxLen := by have := Rd.of_own hO; exact ⟨this.cap, this.max⟩
  unfold maxLen at hcc'
  clear hO hb6 G5 HKZ5
  have K22 := Gd.new w6 0 0 none 0 0
  go_wp2_with (refine wpList_store_gd rfl (.tmp 12) (.tmp 45) rfl w6.heap.size rfl rfl K22 ?_)
  intro w7 k7 kk7
  have X7 := hide k7
  have KA : Keeps (fun k => k = w6.heap.size) w6 w7 := ((Keeps.refl _ w6).alloc _).trans kk7
  have O7 := hide (own_blk HO.out (w' := w7) (fun b e => by simp only [Value.ownBlock, Option.some.injEq] at e; rw [← e]; exact KA.block _ habl (by omega)))
  have HKZ7 := hide (HKZ6.out.keeps KA (by omega))
  have HB7 : Hid (Below w.heap.size w w7) := hide (HB6.out.trans ((KA.mono (Y := fun k => w6.heap.size ≤ k) (fun k _ e => by omega)).below (B := w.heap.size) (by omega) (fun k hk e => by omega)))
  obtain ⟨-, -, x2⟩ := X7.out.cells
  have c6 : w7.cell? ⟨ab, p, none⟩ = some (.int .i64 (zs.getD p 0)) := by have := ((Rd.of_own O7.out).cell hpn).2; rwa [Nat.zero_add] at this
  have f6 := World.ownsRow.frozenAt O7.out p
  have HO8 := hide (World.ownsRow.stored O7.out p (.int .i64 (M : Nat))).1
  have HK8 := hide (Keeps.set1 w7 ab p (.int .i64 (M : Nat)))
  have h7s := KA.size
  clear k7 kk7 KA K22 HO HB6 HKZ6
  go_upto_region 16 with fail
  have HX8 := X7.out.keeps HK8.out (by omega)
  have KZ8 := HKZ7.out.keeps HK8.out (by omega)
  have HB8 : Hid (Below w.heap.size w (w7.setCell ⟨ab, p, none⟩ (.int .i64 (M : Nat)))) := hide (HB7.out.trans ((HK8.out.mono (Y := fun q => w.heap.size ≤ q) (fun q _ e => by omega)).below (B := w.heap.size) HB7.out.size (fun q hq e => by omega)))
  have R8 : Rd (w7.setCell ⟨ab, p, none⟩ (.int .i64 (M : Nat))) (some ⟨ab, 0, none⟩) n c' (zs.set p (M : Nat)) := Rd.of_own (by rw [List.map_set]; exact own_base HO8.out (Nat.zero_le _))
  have HR8 := hide R8
  generalize w7.setCell ⟨ab, p, none⟩ (.int .i64 (M : Nat)) = w8 at *
  clear R8 HK8 HO8 c6 f6 x2 O7 X7 HKZ7 HB7
  go_wp2_with (first
    | refine wpList_load_gd rfl (.tmp 12) rfl w6.heap.size rfl HX8 ?_
    | (refine wpList_store_gd rfl (.tmp 6) (.tmp 51) rfl (w.heap.size + 1) rfl rfl KZ8 ?_; intro w9 k9 kk9))
  refine bodyPost_ret (results_gdt rfl _ _ (w.heap.size + 1) rfl k9 rfl) rfl ⟨some ⟨ab, 0, none⟩, c', rfl, ?_, ?_⟩
  · exact HR8.out.keeps kk9 (fun b off e => by cases e; show ¬ ab = w.heap.size + 1; omega)
  · exact HB8.out.trans ((kk9.mono (Y := fun q => w.heap.size ≤ q) (fun q _ e => by omega)).below (B := w.heap.size) HB8.out.size (fun q hq e => by omega))

end Go.Proofs.YtaglhmkjdajgpaaDoor
