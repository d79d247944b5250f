/-
  The law on puts: a place that may not be. No conditions beyond those that each theorem bears.
-/
import Derived.Test.YtkmghlmniahgbaaDoorPuD
import Derived.Deep.Cut
namespace Go.Proofs.YtkmghlmniahgbaaDoor
open Go.RowKit

attribute [local irreducible] sps pz psN psY st0 bad oMay nxt

set_option maxRecDepth 100000 in
set_option maxHeartbeats 16000000 in
theorem puts_rule (gW gH : Nat) (a : Option Addr) (n c : Nat) (zs : List Int) (m : Nat) (p : Nat) (sx sy : Int) (w : World) (hTT : DTab w ∧ TzT w) (h : Rd w a n c zs) (hr : n * 8 ≤ 140737488351232) (b : Og gW gH n zs) (hm : m = 1 ∨ m = 2) (hp : p < n) (hin : p ∉ sps gW gH zs m) :
    Calls Tryd.prog 3 #[.agg (gdA gW gH a n c), .int .i64 (m : Nat), .int .i64 (p : Nat), .int .i64 sx, .int .i64 sy] w fun e w' => e = .returned (.bool true) ∧ Below w.heap.size w w' := by
  have hcm := h.max
  unfold maxLen at hcm
  have hcc := h.cap
  obtain ⟨w1, hw1⟩ : ∃ w1, w.alloc (.cells (gdA gW gH a n c) 24) = w1 := ⟨_, rfl⟩
  have HB1 : Hid (Below w.heap.size w w1) := hide (by rw [← hw1]; exact (Below.refl _ _).alloc (Nat.le_refl _) _)
  have HG1 : Hid (Gd w1 w.heap.size gW gH a n c) := hide (by rw [← hw1]; exact Gd.new _ _ _ _ _ _)
  have HR1 := hide (h.mono HB1.out)
  have HD1 := hide (hTT.1.mono HB1.out)
  have HTZ1 := hide (hTT.2.mono HB1.out)
  have HNW := hide (fun W1 => New_both sx sy W1)
  have HGO := hide (fun W1 (hR : Rd W1 a n c zs) => GridOf_own gW gH a n c zs W1 hR hr)
  have HMY := hide (fun W1 (hR : Rd W1 a n c zs) => OthelloMay_any gW gH a n c zs W1 hR)
  have hn64 := b.n64
  have hmb : m = 1 ∨ m = 2 := hm
  have HPL := hide (fun a' c' W1 (h1 : DTab W1) (h2 : TzT W1) (h3 : Rd W1 a' n c' zs) => Places_yes gW gH a' n c' zs m W1 h1 h2 h3 b hm)
  have HPU := hide (fun a' c' W1 (h1 : DTab W1) (_ : TzT W1) (h3 : Rd W1 a' n c' zs) => Put_rule gW gH a' n c' zs m p W1 h1 h3 b hm hp hin)
  have HNX := hide (fun a' c' W1 (h1 : DTab W1) (_ : TzT W1) (h3 : Rd W1 a' n c' zs) => Next_yes gW gH a' n c' zs m W1 h1 h3 b hm)
  have HSP := hide (fun W1 (hR : Rd W1 a n c zs) => SignPlaces_any gW gH a n c zs m W1 hR b hm)
  have HON2 := hide (fun W1 (hR : Rd W1 a n c zs) => OthelloNext_any gW gH a n c zs m W1 hR b hm)
  rw [b.oMay] at HMY
  have hln : (sps gW gH zs m).length ≤ 64 := Nat.le_trans (sps_len gW gH zs m) (by rw [b.mul]; omega)
  have hnx : nxt gW gH zs m ≤ 2 := by unfold nxt; split <;> (try split) <;> omega
  generalize nxt gW gH zs m = R at *
  have hRR : ((R : Int) != (R : Int)) = false := by simp
  have hp1 : ¬ (p : Int) < 0 := by omega
  have hp2 : ¬ (p : Int) ≥ (n : Int) := by omega
  have HPT := hide (fun W1 (hR : Rd W1 a n c zs) => PutSign_any gW gH a n c zs m p W1 hR b hm hp)
  have hN0 : psN gW gH zs m p = 0 := by
    have h1 := psN_lg (W := gW) (H := gH) (Z := zs) (m := m) (p := p) (by have := b.wd; omega) (by rw [b.mul]; exact hp)
    by_cases e : 0 < psN gW gH zs m p
    · exact absurd (by unfold sps; rw [List.mem_filter, List.mem_range]; exact ⟨by rw [b.mul]; exact hp, h1.1 e⟩) hin
    · omega
  rw [hN0] at HPT
  have hzz : (((0 : Nat) : Int) == 0) = true := by rfl
  clear h hTT hr b hm hp hin hN0
  rcases hmb with hmv | hmv
  · have b1 : ((m : Int) != 1) = false := by rw [hmv]; rfl
    clear hmv
    go_enter Tryd.func3, Tryd.ntmps3
    go_upto_region 1 with fail
    clear hw1
    go_wp2_with fail
    refine (HNW.out w1).mono ?_
    rintro r w2 ⟨NW, NH, na, nn, nc, NE, rfl, hN, hb⟩
    have HN2 := hide hN
    have hnE : NE = 0 ∨ NE = 3 := hN.err
    clear hN
    have HB2 := hide (HB1.out.trans (hb.mono HB1.out.size))
    have HG2 := hide (HG1.out.below hb HG1.out.lt)
    have HR2 := hide (HR1.out.mono hb)
    have HD2 := hide (HD1.out.mono hb)
    have HTZ2 := hide (HTZ1.out.mono hb)
    clear hb HB1 HG1 HR1 HD1 HTZ1
    have KZ := Gd.new w2 0 0 none 0 0
    go_upto_region 2 with (refine wpList_store_gd rfl (.tmp 11) (.tmp 26) rfl w2.heap.size rfl rfl KZ ?_; intro w3 S3 kk3)
    have hb : Below w2.heap.size w2 w3 := (((Keeps.refl (fun k => k = w2.heap.size) w2).alloc _).trans kk3).below (Nat.le_refl _) (fun k hk e => by omega)
    have HS3 := hide S3
    clear S3 KZ kk3
    have HB3 := hide (HB2.out.trans (hb.mono HB2.out.size))
    have HG3 := hide (HG2.out.below hb HG2.out.lt)
    have HR3 := hide (HR2.out.mono hb)
    have HD3 := hide (HD2.out.mono hb)
    have HTZ3 := hide (HTZ2.out.mono hb)
    have HN3 := hide (HN2.out.mono hb)
    clear hb HB2 HG2 HR2 HD2 HTZ2 HN2
    go_wp2_with (refine wpList_load_gd rfl (.tmp 5) rfl w.heap.size rfl HG3.out ?_)
    refine (HGO.out w3 HR3.out).mono ?_
    rintro r w4 ⟨ga, gc, rfl, hO, hb⟩
    have HQ := hide (Rd.of_own hO)
    clear hO
    have HB4 := hide (HB3.out.trans (hb.mono HB3.out.size))
    have HG4 := hide (HG3.out.below hb HG3.out.lt)
    have HR4 := hide (HR3.out.mono hb)
    have HD4 := hide (HD3.out.mono hb)
    have HTZ4 := hide (HTZ3.out.mono hb)
    have HN4 := hide (HN3.out.mono hb)
    have HS4 := hide (HS3.out.below hb HS3.out.lt)
    clear hb HB3 HG3 HR3 HD3 HTZ3 HN3 HS3
    go_wp2_with fail
    refine (HPL.out ga gc w4 HD4.out HTZ4.out HQ.out).mono ?_
    rintro r w5 ⟨la, lc, rfl, hO, hb⟩
    have HL5 := hide (Rd.of_own hO)
    have hlm := HL5.out.max
    unfold maxLen at hlm
    have hlc := HL5.out.cap
    clear hO HQ
    have HB5 := hide (HB4.out.trans (hb.mono HB4.out.size))
    have HG5 := hide (HG4.out.below hb HG4.out.lt)
    have HR5 := hide (HR4.out.mono hb)
    have HD5 := hide (HD4.out.mono hb)
    have HTZ5 := hide (HTZ4.out.mono hb)
    have HN5 := hide (HN4.out.mono hb)
    have HS5 := hide (HS4.out.below hb HS4.out.lt)
    clear hb HB4 HG4 HR4 HD4 HTZ4 HN4 HS4
    go_wp2_with (refine wpList_load_gd rfl (.tmp 5) rfl w.heap.size rfl HG5.out ?_)
    refine (HGO.out w5 HR5.out).mono ?_
    rintro r w6 ⟨ga, gc, rfl, hO, hb⟩
    have HQ := hide (Rd.of_own hO)
    clear hO
    have HB6 := hide (HB5.out.trans (hb.mono HB5.out.size))
    have HG6 := hide (HG5.out.below hb HG5.out.lt)
    have HR6 := hide (HR5.out.mono hb)
    have HD6 := hide (HD5.out.mono hb)
    have HTZ6 := hide (HTZ5.out.mono hb)
    have HN6 := hide (HN5.out.mono hb)
    have HS6 := hide (HS5.out.below hb HS5.out.lt)
    have HL6 := hide (HL5.out.mono hb)
    clear hb HB5 HG5 HR5 HD5 HTZ5 HN5 HS5 HL5
    go_wp2_with fail
    refine (HPU.out ga gc w6 HD6.out HTZ6.out HQ.out).mono ?_
    rintro r w7 ⟨rfl, hb⟩
    clear HQ
    have HB7 := hide (HB6.out.trans (hb.mono HB6.out.size))
    have HG7 := hide (HG6.out.below hb HG6.out.lt)
    have HR7 := hide (HR6.out.mono hb)
    have HD7 := hide (HD6.out.mono hb)
    have HTZ7 := hide (HTZ6.out.mono hb)
    have HN7 := hide (HN6.out.mono hb)
    have HS7 := hide (HS6.out.below hb HS6.out.lt)
    have HL7 := hide (HL6.out.mono hb)
    clear hb HB6 HG6 HR6 HD6 HTZ6 HN6 HS6 HL6
    have KZ := Gd.new w7 0 0 none 0 0
    go_upto_region 4 with (refine wpList_store_gd rfl (.tmp 15) (.tmp 41) rfl w7.heap.size rfl rfl KZ ?_; intro w8 S3 kk3)
    have hb : Below w7.heap.size w7 w8 := (((Keeps.refl (fun k => k = w7.heap.size) w7).alloc _).trans kk3).below (Nat.le_refl _) (fun k hk e => by omega)
    have HP8 := hide S3
    clear S3 KZ kk3
    have HB8 := hide (HB7.out.trans (hb.mono HB7.out.size))
    have HG8 := hide (HG7.out.below hb HG7.out.lt)
    have HR8 := hide (HR7.out.mono hb)
    have HD8 := hide (HD7.out.mono hb)
    have HTZ8 := hide (HTZ7.out.mono hb)
    have HN8 := hide (HN7.out.mono hb)
    have HS8 := hide (HS7.out.below hb HS7.out.lt)
    have HL8 := hide (HL7.out.mono hb)
    clear hb HB7 HG7 HR7 HD7 HTZ7 HN7 HS7 HL7
    go_wp2_with (refine wpList_load_gd rfl (.tmp 5) rfl w.heap.size rfl HG8.out ?_)
    refine (HGO.out w8 HR8.out).mono ?_
    rintro r w9 ⟨ga, gc, rfl, hO, hb⟩
    have HQ := hide (Rd.of_own hO)
    clear hO
    have HB9 := hide (HB8.out.trans (hb.mono HB8.out.size))
    have HG9 := hide (HG8.out.below hb HG8.out.lt)
    have HR9 := hide (HR8.out.mono hb)
    have HD9 := hide (HD8.out.mono hb)
    have HTZ9 := hide (HTZ8.out.mono hb)
    have HN9 := hide (HN8.out.mono hb)
    have HS9 := hide (HS8.out.below hb HS8.out.lt)
    have HL9 := hide (HL8.out.mono hb)
    have HP9 := hide (HP8.out.below hb HP8.out.lt)
    clear hb HB8 HG8 HR8 HD8 HTZ8 HN8 HS8 HL8 HP8
    go_wp2_with fail
    refine (HNX.out ga gc w9 HD9.out HTZ9.out HQ.out).mono ?_
    rintro r w10 ⟨rfl, hb⟩
    clear HQ
    have HB10 := hide (HB9.out.trans (hb.mono HB9.out.size))
    have HG10 := hide (HG9.out.below hb HG9.out.lt)
    have HR10 := hide (HR9.out.mono hb)
    have HD10 := hide (HD9.out.mono hb)
    have HTZ10 := hide (HTZ9.out.mono hb)
    have HN10 := hide (HN9.out.mono hb)
    have HS10 := hide (HS9.out.below hb HS9.out.lt)
    have HL10 := hide (HL9.out.mono hb)
    have HP10 := hide (HP9.out.below hb HP9.out.lt)
    clear hb HB9 HG9 HR9 HD9 HTZ9 HN9 HS9 HL9 HP9
    go_upto_region 5 with fail
    obtain ⟨bd, hbd⟩ : ∃ bd, bad sx sy = bd := ⟨_, rfl⟩
    go_cut [73] from 22 (fun s wc => s = .bool bd ∧ w10 = wc)
    case first =>
      by_cases q1 : sx < 4
      · go_wp2_with fail
        go_meet
        case rel => exact ⟨by rw [← hbd, bad_of (Or.inl q1)], rfl⟩
      by_cases q2 : 8 < sx
      · have q2' : sx > 8 := q2
        go_wp2_with fail
        go_meet
        case rel => exact ⟨by rw [← hbd, bad_of (Or.inr (Or.inl q2))], rfl⟩
      by_cases q3 : sy < 4
      · go_wp2_with fail
        go_meet
        case rel => exact ⟨by rw [← hbd, bad_of (Or.inr (Or.inr (Or.inl q3)))], rfl⟩
      by_cases q4 : 8 < sy
      · have q4' : sy > 8 := q4
        go_wp2_with fail
        go_meet
        case rel => exact ⟨by rw [← hbd, bad_of (Or.inr (Or.inr (Or.inr (Or.inl q4))))], rfl⟩
      have m1 : Int.tmod sx 2 = sx % 2 := Int.tmod_eq_emod_of_nonneg (by omega)
      have m2 : Int.tmod sy 2 = sy % 2 := Int.tmod_eq_emod_of_nonneg (by omega)
      by_cases q5 : sx % 2 = 1
      · have q5' : ((sx % 2) == 1) = true := by simpa using q5
        have q5b : ((Int.tmod sx 2) == 1) = true := by rw [m1]; exact q5'
        go_wp2_with fail
        go_meet
        case rel => exact ⟨by rw [← hbd, bad_of (Or.inr (Or.inr (Or.inr (Or.inr (Or.inl q5)))))], rfl⟩
      have q5' : ((sx % 2) == 1) = false := by simpa using q5
      have q5b : ((Int.tmod sx 2) == 1) = false := by rw [m1]; exact q5'
      by_cases q6 : sy % 2 = 1
      · have q6' : ((sy % 2) == 1) = true := by simpa using q6
        have q6b : ((Int.tmod sy 2) == 1) = true := by rw [m2]; exact q6'
        go_wp2_with fail
        go_meet
        case rel => exact ⟨by rw [← hbd, bad_of (Or.inr (Or.inr (Or.inr (Or.inr (Or.inr q6)))))], rfl⟩
      have q6' : ((sy % 2) == 1) = false := by simpa using q6
      have q6b : ((Int.tmod sy 2) == 1) = false := by rw [m2]; exact q6'
      go_wp2_with fail
      go_meet
      case rel => exact ⟨by rw [← hbd, good_of (by omega)], rfl⟩
    case rest =>
      obtain ⟨rfl, rfl⟩ := hcut
      go_upto_if 73 with fail
      go_cut [] from 22 (fun wc => Hid (Below w10.heap.size w10 wc))
      case first =>
        rcases HN10.out with ⟨hB, rfl, rfl, rfl, rfl, rfl, rfl⟩ | ⟨a1, b1, ha1, hb1, rfl, rfl, rfl, rfl, rfl, rfl, hB, hNR⟩
        · rw [hB] at hbd
          subst hbd
          go_wp2_with (refine wpList_load_gd rfl (.tmp 11) rfl w2.heap.size rfl HS10.out ?_)
          refine (noGrid_zero _).mono ?_
          rintro r w11 ⟨rfl, hb⟩
          go_wp2_with fail
          go_meet
          case rel => exact hide hb
        · rw [hB] at hbd
          subst hbd
          have HON := hide (fun W1 => OthelloNew_any a1 b1 ha1 hb1 W1)
          have HNR := hide hNR
          have HSG := hide (fun W1 a' c' (h1 : Rd W1 na (2 * a1 * (2 * b1)) nc (st0 a1 b1)) (h2 : Rd W1 a' (2 * a1 * (2 * b1)) c' (st0 a1 b1)) => SameGrid_yes (2 * a1 : Nat) (2 * b1 : Nat) na a' (2 * a1 * (2 * b1)) nc c' (st0 a1 b1) W1 h1 h2)
          clear hNR hB
          generalize 2 * a1 * (2 * b1) = nq at *
          generalize 2 * a1 = xq at *
          generalize 2 * b1 = yq at *
          go_upto_region 8 with fail
          have HVR : Hid (∀ W4, Below w10.heap.size w10 W4 → W4.rangeAt w2.heap.size 0 [.int .i64 xq, .int .i64 yq, .slice na nq nc]) := hide (fun W4 hb => (HS10.out.below hb HS10.out.lt).range)
          refine wp_calm ?_
          refine wp_region_held (S := fun W4 => Below w10.heap.size w10 W4) (by kernel_rfl) ?_
          change wpAnyH _ _ _ _ _ _ _ _ (World.drew _)
          have SW : Below w10.heap.size w10 w10.drew := (Below.refl _ w10).drew
          refine wpAnyH_take (i := 0) (v := .int .i64 0) rfl (by kernel_rfl) (by kernel_rfl) (by kernel_rfl) (fun _ _ _ h => h) (Or.inl ⟨by rfl, ?_⟩) SW ?_
          · intro W4 hW4
            go_simp <;> first | done | rfl | (rw [IntKind.wrap_i64]; omega) | omega
          go_simp
          refine wpAnyH_take (i := 1) (v := .bool false) rfl (by kernel_rfl) (by kernel_rfl) (by kernel_rfl) (fun _ _ _ h => h) (Or.inl ⟨by rfl, ?_⟩) SW ?_
          · intro W4 hW4
            go_simp <;> first | done | rfl | (rw [IntKind.wrap_i64]; omega) | omega
          go_simp
          refine wpAnyH_take (i := 2) (v := .bool false) rfl (by kernel_rfl) (by kernel_rfl) (by kernel_rfl) (fun _ _ _ h => h) (Or.inl ⟨by rfl, ?_⟩) SW ?_
          · intro W4 hW4
            go_simp <;> first | done | rfl | (rw [IntKind.wrap_i64]; omega) | omega
          go_simp
          refine wpAnyH_take (i := 3) (v := .agg (gdA xq yq na nq nc)) rfl (by kernel_rfl) (by kernel_rfl) (by kernel_rfl) (fun _ _ _ h => h) (yieldsIf_load_mid (by rfl) 24 _ rfl w2.heap.size 0 (by rfl) [.int .i64 xq, .int .i64 yq, .slice na nq nc] _ (fun W hW => HVR.out W hW) Tryd.underlying24 rfl size24) SW ?_
          go_simp
          refine wpAnyH_take (i := 4) (v := .int .i64 (xq : Nat)) rfl (by kernel_rfl) (by kernel_rfl) (by kernel_rfl) (fun _ _ _ h => h) (Or.inl ⟨by rfl, ?_⟩) SW ?_
          · intro W4 hW4
            go_simp <;> first | done | rfl | (rw [IntKind.wrap_i64]; omega) | omega
          go_simp
          refine wpAnyH_take (i := 5) (v := .int .i64 (yq : Nat)) rfl (by kernel_rfl) (by kernel_rfl) (by kernel_rfl) (fun _ _ _ h => h) (Or.inl ⟨by rfl, ?_⟩) SW ?_
          · intro W4 hW4
            go_simp <;> first | done | rfl | (rw [IntKind.wrap_i64]; omega) | omega
          go_simp
          refine wpAnyH_ready (rs := [6]) (by kernel_rfl) (by simp) ?_
          refine AllReadyH.cons rfl (fun K1 hK1 => ?_) AllReadyH.nil
          go_simp
          refine (HON.out _).mono ?_
          rintro r w11 ⟨oa, oc, rfl, hR11, hb11⟩
          have B11 := SW.trans (hb11.mono SW.size)
          refine hK1.out _ _ B11 (fun SW => ?_)
          clear hK1 K1
          go_simp
          refine wpAnyH_ready (rs := [7]) (by kernel_rfl) (by simp) ?_
          refine AllReadyH.cons rfl (fun K1 hK1 => ?_) AllReadyH.nil
          go_simp
          refine (HSG.out w11 oa oc (HNR.out.mono B11) hR11).mono ?_
          rintro r w12 ⟨rfl, hb12⟩
          have B12 := B11.trans (hb12.mono B11.size)
          refine hK1.out _ _ B12 (fun SW => ?_)
          clear hK1 K1
          go_simp
          refine wpAnyH_take (i := 8) (v := .bool false) rfl (by kernel_rfl) (by kernel_rfl) (by kernel_rfl) (fun _ _ _ h => h) (Or.inl ⟨by rfl, ?_⟩) SW ?_
          · intro W4 hW4
            go_simp <;> first | done | rfl | (rw [IntKind.wrap_i64]; omega) | omega
          go_simp
          refine wpAnyH_take (i := 9) (v := .bool false) rfl (by kernel_rfl) (by kernel_rfl) (by kernel_rfl) (fun _ _ _ h => h) (Or.inl ⟨by rfl, ?_⟩) SW ?_
          · intro W4 hW4
            go_simp <;> first | done | rfl | (rw [IntKind.wrap_i64]; omega) | omega
          go_simp
          refine wpAnyH_done (by kernel_rfl) ?_ _
          clear SW B11 hb11 hb12 hR11
          go_wp2_with fail
          go_meet
          case rel => exact hide B12
      case rest =>
        obtain hcut' := hcut.out
        clear hcut
        obtain ⟨w11, hw11⟩ : ∃ w11, wc = w11 := ⟨_, rfl⟩
        rw [hw11] at hcut' ⊢
        clear hw11 HN10 HS10
        have HB11 := hide (HB10.out.trans (hcut'.mono HB10.out.size))
        have HG11 := hide (HG10.out.below hcut' HG10.out.lt)
        have HR11 := hide (HR10.out.mono hcut')
        have HD11 := hide (HD10.out.mono hcut')
        have HTZ11 := hide (HTZ10.out.mono hcut')
        have HL11 := hide (HL10.out.mono hcut')
        have HP11 := hide (HP10.out.below hcut' HP10.out.lt)
        clear hcut' HB10 HG10 HR10 HD10 HTZ10 HL10 HP10
        go_wp2_with (refine wpList_load_gd rfl (.tmp 5) rfl w.heap.size rfl HG11.out ?_)
        refine (HMY.out w11 HR11.out).mono ?_
        rintro r w12 ⟨rfl, hb⟩
        have HB12 := hide (HB11.out.trans (hb.mono HB11.out.size))
        have HG12 := hide (HG11.out.below hb HG11.out.lt)
        have HR12 := hide (HR11.out.mono hb)
        have HD12 := hide (HD11.out.mono hb)
        have HTZ12 := hide (HTZ11.out.mono hb)
        have HL12 := hide (HL11.out.mono hb)
        have HP12 := hide (HP11.out.below hb HP11.out.lt)
        clear hb HB11 HG11 HR11 HD11 HTZ11 HL11 HP11
        go_wp2_with (refine wpList_load_gd rfl (.tmp 5) rfl w.heap.size rfl HG12.out ?_)
        refine (HSP.out w12 HR12.out).mono ?_
        rintro r w13 ⟨ka, kc, rfl, hR13, hb⟩
        have HKR := hide hR13
        have hkm := hR13.max
        unfold maxLen at hkm
        have hkc := hR13.cap
        clear hR13
        have HB13 := hide (HB12.out.trans (hb.mono HB12.out.size))
        have HG13 := hide (HG12.out.below hb HG12.out.lt)
        have HR13 := hide (HR12.out.mono hb)
        have HD13 := hide (HD12.out.mono hb)
        have HTZ13 := hide (HTZ12.out.mono hb)
        have HL13 := hide (HL12.out.mono hb)
        have HP13 := hide (HP12.out.below hb HP12.out.lt)
        clear hb HB12 HG12 HR12 HD12 HTZ12 HL12 HP12
        have HSI := hide (sameInts_any _ _ _ _ _ _ _ _ w13 HL13.out HKR.out)
        rw [decide_eq_true rfl] at HSI
        go_wp2_with fail
        refine HSI.out.mono ?_
        rintro r w14 ⟨rfl, q, rfl⟩
        have hb := drewN_below w13.heap.size w13 q
        obtain ⟨w14, hw14⟩ : ∃ w14, w13.drewN q = w14 := ⟨_, rfl⟩
        rw [hw14] at hb ⊢
        clear hw14 HSI HKR
        have HB14 := hide (HB13.out.trans (hb.mono HB13.out.size))
        have HG14 := hide (HG13.out.below hb HG13.out.lt)
        have HR14 := hide (HR13.out.mono hb)
        have HD14 := hide (HD13.out.mono hb)
        have HTZ14 := hide (HTZ13.out.mono hb)
        have HL14 := hide (HL13.out.mono hb)
        have HP14 := hide (HP13.out.below hb HP13.out.lt)
        clear hb HB13 HG13 HR13 HD13 HTZ13 HL13 HP13
        go_wp2_with (refine wpList_load_gd rfl (.tmp 5) rfl w.heap.size rfl HG14.out ?_)
        refine (HON2.out w14 HR14.out).mono ?_
        rintro r w15 ⟨rfl, hb⟩
        have HB15 := hide (HB14.out.trans (hb.mono HB14.out.size))
        have HG15 := hide (HG14.out.below hb HG14.out.lt)
        have HR15 := hide (HR14.out.mono hb)
        have HD15 := hide (HD14.out.mono hb)
        have HTZ15 := hide (HTZ14.out.mono hb)
        have HL15 := hide (HL14.out.mono hb)
        have HP15 := hide (HP14.out.below hb HP14.out.lt)
        clear hb HB14 HG14 HR14 HD14 HTZ14 HL14 HP14
        obtain ⟨gg0, gg1, gg2⟩ := HG15.out.cells
        go_wp2_with (refine wpList_load_gd rfl (.tmp 5) rfl w.heap.size rfl HG15.out ?_)
        refine (HPT.out w15 HR15.out).mono ?_
        rintro r w16 ⟨tb, tc, rfl, hO, hb⟩
        have HT16 := hide (Rd.of_own hO)
        have htm := HT16.out.max
        unfold maxLen at htm
        have htc := HT16.out.cap
        clear hO gg0 gg1 gg2
        have HB16 := hide (HB15.out.trans (hb.mono HB15.out.size))
        have HG16 := hide (HG15.out.below hb HG15.out.lt)
        have HR16 := hide (HR15.out.mono hb)
        have HD16 := hide (HD15.out.mono hb)
        have HTZ16 := hide (HTZ15.out.mono hb)
        have HL16 := hide (HL15.out.mono hb)
        have HP16 := hide (HP15.out.below hb HP15.out.lt)
        clear hb HB15 HG15 HR15 HD15 HTZ15 HL15 HP15
        have KZ := Gd.new w16 0 0 none 0 0
        go_upto_region 22 with (refine wpList_store_gd rfl (.tmp 20) (.tmp 169) rfl w16.heap.size rfl rfl KZ ?_; intro w17 S3 kk3)
        have hb : Below w16.heap.size w16 w17 := (((Keeps.refl (fun k => k = w16.heap.size) w16).alloc _).trans kk3).below (Nat.le_refl _) (fun k hk e => by omega)
        have HV17 := hide S3
        clear S3 KZ kk3
        have HB17 := hide (HB16.out.trans (hb.mono HB16.out.size))
        have HG17 := hide (HG16.out.below hb HG16.out.lt)
        have HR17 := hide (HR16.out.mono hb)
        have HD17 := hide (HD16.out.mono hb)
        have HTZ17 := hide (HTZ16.out.mono hb)
        have HL17 := hide (HL16.out.mono hb)
        have HP17 := hide (HP16.out.below hb HP16.out.lt)
        have HT17 := hide (HT16.out.mono hb)
        clear hb HB16 HG16 HR16 HD16 HTZ16 HL16 HP16 HT16
        go_wp2_with (refine wpList_load_gd rfl (.tmp 15) rfl w7.heap.size rfl HP17.out ?_)
        refine (noGrid_zero _).mono ?_
        rintro r w18 ⟨rfl, hb⟩
        have HB18 := hide (HB17.out.trans (hb.mono HB17.out.size))
        have HG18 := hide (HG17.out.below hb HG17.out.lt)
        have HR18 := hide (HR17.out.mono hb)
        have HD18 := hide (HD17.out.mono hb)
        have HTZ18 := hide (HTZ17.out.mono hb)
        have HL18 := hide (HL17.out.mono hb)
        have HP18 := hide (HP17.out.below hb HP17.out.lt)
        clear hb HB17 HG17 HR17 HD17 HTZ17 HL17 HP17
        go_wp2_with fail
        go_ret
        exact ⟨rfl, HB18.out⟩
  · have b1 : ((m : Int) != 1) = true := by rw [hmv]; rfl
    have b2 : ((m : Int) != 2) = false := by rw [hmv]; rfl
    clear hmv
    go_enter Tryd.func3, Tryd.ntmps3
    go_upto_region 1 with fail
    clear hw1
    go_wp2_with fail
    refine (HNW.out w1).mono ?_
    rintro r w2 ⟨NW, NH, na, nn, nc, NE, rfl, hN, hb⟩
    have HN2 := hide hN
    have hnE : NE = 0 ∨ NE = 3 := hN.err
    clear hN
    have HB2 := hide (HB1.out.trans (hb.mono HB1.out.size))
    have HG2 := hide (HG1.out.below hb HG1.out.lt)
    have HR2 := hide (HR1.out.mono hb)
    have HD2 := hide (HD1.out.mono hb)
    have HTZ2 := hide (HTZ1.out.mono hb)
    clear hb HB1 HG1 HR1 HD1 HTZ1
    have KZ := Gd.new w2 0 0 none 0 0
    go_upto_region 2 with (refine wpList_store_gd rfl (.tmp 11) (.tmp 26) rfl w2.heap.size rfl rfl KZ ?_; intro w3 S3 kk3)
    have hb : Below w2.heap.size w2 w3 := (((Keeps.refl (fun k => k = w2.heap.size) w2).alloc _).trans kk3).below (Nat.le_refl _) (fun k hk e => by omega)
    have HS3 := hide S3
    clear S3 KZ kk3
    have HB3 := hide (HB2.out.trans (hb.mono HB2.out.size))
    have HG3 := hide (HG2.out.below hb HG2.out.lt)
    have HR3 := hide (HR2.out.mono hb)
    have HD3 := hide (HD2.out.mono hb)
    have HTZ3 := hide (HTZ2.out.mono hb)
    have HN3 := hide (HN2.out.mono hb)
    clear hb HB2 HG2 HR2 HD2 HTZ2 HN2
    go_wp2_with (refine wpList_load_gd rfl (.tmp 5) rfl w.heap.size rfl HG3.out ?_)
    refine (HGO.out w3 HR3.out).mono ?_
    rintro r w4 ⟨ga, gc, rfl, hO, hb⟩
    have HQ := hide (Rd.of_own hO)
    clear hO
    have HB4 := hide (HB3.out.trans (hb.mono HB3.out.size))
    have HG4 := hide (HG3.out.below hb HG3.out.lt)
    have HR4 := hide (HR3.out.mono hb)
    have HD4 := hide (HD3.out.mono hb)
    have HTZ4 := hide (HTZ3.out.mono hb)
    have HN4 := hide (HN3.out.mono hb)
    have HS4 := hide (HS3.out.below hb HS3.out.lt)
    clear hb HB3 HG3 HR3 HD3 HTZ3 HN3 HS3
    go_wp2_with fail
    refine (HPL.out ga gc w4 HD4.out HTZ4.out HQ.out).mono ?_
    rintro r w5 ⟨la, lc, rfl, hO, hb⟩
    have HL5 := hide (Rd.of_own hO)
    have hlm := HL5.out.max
    unfold maxLen at hlm
    have hlc := HL5.out.cap
    clear hO HQ
    have HB5 := hide (HB4.out.trans (hb.mono HB4.out.size))
    have HG5 := hide (HG4.out.below hb HG4.out.lt)
    have HR5 := hide (HR4.out.mono hb)
    have HD5 := hide (HD4.out.mono hb)
    have HTZ5 := hide (HTZ4.out.mono hb)
    have HN5 := hide (HN4.out.mono hb)
    have HS5 := hide (HS4.out.below hb HS4.out.lt)
    clear hb HB4 HG4 HR4 HD4 HTZ4 HN4 HS4
    go_wp2_with (refine wpList_load_gd rfl (.tmp 5) rfl w.heap.size rfl HG5.out ?_)
    refine (HGO.out w5 HR5.out).mono ?_
    rintro r w6 ⟨ga, gc, rfl, hO, hb⟩
    have HQ := hide (Rd.of_own hO)
    clear hO
    have HB6 := hide (HB5.out.trans (hb.mono HB5.out.size))
    have HG6 := hide (HG5.out.below hb HG5.out.lt)
    have HR6 := hide (HR5.out.mono hb)
    have HD6 := hide (HD5.out.mono hb)
    have HTZ6 := hide (HTZ5.out.mono hb)
    have HN6 := hide (HN5.out.mono hb)
    have HS6 := hide (HS5.out.below hb HS5.out.lt)
    have HL6 := hide (HL5.out.mono hb)
    clear hb HB5 HG5 HR5 HD5 HTZ5 HN5 HS5 HL5
    go_wp2_with fail
    refine (HPU.out ga gc w6 HD6.out HTZ6.out HQ.out).mono ?_
    rintro r w7 ⟨rfl, hb⟩
    clear HQ
    have HB7 := hide (HB6.out.trans (hb.mono HB6.out.size))
    have HG7 := hide (HG6.out.below hb HG6.out.lt)
    have HR7 := hide (HR6.out.mono hb)
    have HD7 := hide (HD6.out.mono hb)
    have HTZ7 := hide (HTZ6.out.mono hb)
    have HN7 := hide (HN6.out.mono hb)
    have HS7 := hide (HS6.out.below hb HS6.out.lt)
    have HL7 := hide (HL6.out.mono hb)
    clear hb HB6 HG6 HR6 HD6 HTZ6 HN6 HS6 HL6
    have KZ := Gd.new w7 0 0 none 0 0
    go_upto_region 4 with (refine wpList_store_gd rfl (.tmp 15) (.tmp 41) rfl w7.heap.size rfl rfl KZ ?_; intro w8 S3 kk3)
    have hb : Below w7.heap.size w7 w8 := (((Keeps.refl (fun k => k = w7.heap.size) w7).alloc _).trans kk3).below (Nat.le_refl _) (fun k hk e => by omega)
    have HP8 := hide S3
    clear S3 KZ kk3
    have HB8 := hide (HB7.out.trans (hb.mono HB7.out.size))
    have HG8 := hide (HG7.out.below hb HG7.out.lt)
    have HR8 := hide (HR7.out.mono hb)
    have HD8 := hide (HD7.out.mono hb)
    have HTZ8 := hide (HTZ7.out.mono hb)
    have HN8 := hide (HN7.out.mono hb)
    have HS8 := hide (HS7.out.below hb HS7.out.lt)
    have HL8 := hide (HL7.out.mono hb)
    clear hb HB7 HG7 HR7 HD7 HTZ7 HN7 HS7 HL7
    go_wp2_with (refine wpList_load_gd rfl (.tmp 5) rfl w.heap.size rfl HG8.out ?_)
    refine (HGO.out w8 HR8.out).mono ?_
    rintro r w9 ⟨ga, gc, rfl, hO, hb⟩
    have HQ := hide (Rd.of_own hO)
    clear hO
    have HB9 := hide (HB8.out.trans (hb.mono HB8.out.size))
    have HG9 := hide (HG8.out.below hb HG8.out.lt)
    have HR9 := hide (HR8.out.mono hb)
    have HD9 := hide (HD8.out.mono hb)
    have HTZ9 := hide (HTZ8.out.mono hb)
    have HN9 := hide (HN8.out.mono hb)
    have HS9 := hide (HS8.out.below hb HS8.out.lt)
    have HL9 := hide (HL8.out.mono hb)
    have HP9 := hide (HP8.out.below hb HP8.out.lt)
    clear hb HB8 HG8 HR8 HD8 HTZ8 HN8 HS8 HL8 HP8
    go_wp2_with fail
    refine (HNX.out ga gc w9 HD9.out HTZ9.out HQ.out).mono ?_
    rintro r w10 ⟨rfl, hb⟩
    clear HQ
    have HB10 := hide (HB9.out.trans (hb.mono HB9.out.size))
    have HG10 := hide (HG9.out.below hb HG9.out.lt)
    have HR10 := hide (HR9.out.mono hb)
    have HD10 := hide (HD9.out.mono hb)
    have HTZ10 := hide (HTZ9.out.mono hb)
    have HN10 := hide (HN9.out.mono hb)
    have HS10 := hide (HS9.out.below hb HS9.out.lt)
    have HL10 := hide (HL9.out.mono hb)
    have HP10 := hide (HP9.out.below hb HP9.out.lt)
    clear hb HB9 HG9 HR9 HD9 HTZ9 HN9 HS9 HL9 HP9
    go_upto_region 5 with fail
    obtain ⟨bd, hbd⟩ : ∃ bd, bad sx sy = bd := ⟨_, rfl⟩
    go_cut [73] from 22 (fun s wc => s = .bool bd ∧ w10 = wc)
    case first =>
      by_cases q1 : sx < 4
      · go_wp2_with fail
        go_meet
        case rel => exact ⟨by rw [← hbd, bad_of (Or.inl q1)], rfl⟩
      by_cases q2 : 8 < sx
      · have q2' : sx > 8 := q2
        go_wp2_with fail
        go_meet
        case rel => exact ⟨by rw [← hbd, bad_of (Or.inr (Or.inl q2))], rfl⟩
      by_cases q3 : sy < 4
      · go_wp2_with fail
        go_meet
        case rel => exact ⟨by rw [← hbd, bad_of (Or.inr (Or.inr (Or.inl q3)))], rfl⟩
      by_cases q4 : 8 < sy
      · have q4' : sy > 8 := q4
        go_wp2_with fail
        go_meet
        case rel => exact ⟨by rw [← hbd, bad_of (Or.inr (Or.inr (Or.inr (Or.inl q4))))], rfl⟩
      have m1 : Int.tmod sx 2 = sx % 2 := Int.tmod_eq_emod_of_nonneg (by omega)
      have m2 : Int.tmod sy 2 = sy % 2 := Int.tmod_eq_emod_of_nonneg (by omega)
      by_cases q5 : sx % 2 = 1
      · have q5' : ((sx % 2) == 1) = true := by simpa using q5
        have q5b : ((Int.tmod sx 2) == 1) = true := by rw [m1]; exact q5'
        go_wp2_with fail
        go_meet
        case rel => exact ⟨by rw [← hbd, bad_of (Or.inr (Or.inr (Or.inr (Or.inr (Or.inl q5)))))], rfl⟩
      have q5' : ((sx % 2) == 1) = false := by simpa using q5
      have q5b : ((Int.tmod sx 2) == 1) = false := by rw [m1]; exact q5'
      by_cases q6 : sy % 2 = 1
      · have q6' : ((sy % 2) == 1) = true := by simpa using q6
        have q6b : ((Int.tmod sy 2) == 1) = true := by rw [m2]; exact q6'
        go_wp2_with fail
        go_meet
        case rel => exact ⟨by rw [← hbd, bad_of (Or.inr (Or.inr (Or.inr (Or.inr (Or.inr q6)))))], rfl⟩
      have q6' : ((sy % 2) == 1) = false := by simpa using q6
      have q6b : ((Int.tmod sy 2) == 1) = false := by rw [m2]; exact q6'
      go_wp2_with fail
      go_meet
      case rel => exact ⟨by rw [← hbd, good_of (by omega)], rfl⟩
    case rest =>
      obtain ⟨rfl, rfl⟩ := hcut
      go_upto_if 73 with fail
      go_cut [] from 22 (fun wc => Hid (Below w10.heap.size w10 wc))
      case first =>
        rcases HN10.out with ⟨hB, rfl, rfl, rfl, rfl, rfl, rfl⟩ | ⟨a1, b1, ha1, hb1, rfl, rfl, rfl, rfl, rfl, rfl, hB, hNR⟩
        · rw [hB] at hbd
          subst hbd
          go_wp2_with (refine wpList_load_gd rfl (.tmp 11) rfl w2.heap.size rfl HS10.out ?_)
          refine (noGrid_zero _).mono ?_
          rintro r w11 ⟨rfl, hb⟩
          go_wp2_with fail
          go_meet
          case rel => exact hide hb
        · rw [hB] at hbd
          subst hbd
          have HON := hide (fun W1 => OthelloNew_any a1 b1 ha1 hb1 W1)
          have HNR := hide hNR
          have HSG := hide (fun W1 a' c' (h1 : Rd W1 na (2 * a1 * (2 * b1)) nc (st0 a1 b1)) (h2 : Rd W1 a' (2 * a1 * (2 * b1)) c' (st0 a1 b1)) => SameGrid_yes (2 * a1 : Nat) (2 * b1 : Nat) na a' (2 * a1 * (2 * b1)) nc c' (st0 a1 b1) W1 h1 h2)
          clear hNR hB
          generalize 2 * a1 * (2 * b1) = nq at *
          generalize 2 * a1 = xq at *
          generalize 2 * b1 = yq at *
          go_upto_region 8 with fail
          have HVR : Hid (∀ W4, Below w10.heap.size w10 W4 → W4.rangeAt w2.heap.size 0 [.int .i64 xq, .int .i64 yq, .slice na nq nc]) := hide (fun W4 hb => (HS10.out.below hb HS10.out.lt).range)
          refine wp_calm ?_
          refine wp_region_held (S := fun W4 => Below w10.heap.size w10 W4) (by kernel_rfl) ?_
          change wpAnyH _ _ _ _ _ _ _ _ (World.drew _)
          have SW : Below w10.heap.size w10 w10.drew := (Below.refl _ w10).drew
          refine wpAnyH_take (i := 0) (v := .int .i64 0) rfl (by kernel_rfl) (by kernel_rfl) (by kernel_rfl) (fun _ _ _ h => h) (Or.inl ⟨by rfl, ?_⟩) SW ?_
          · intro W4 hW4
            go_simp <;> first | done | rfl | (rw [IntKind.wrap_i64]; omega) | omega
          go_simp
          refine wpAnyH_take (i := 1) (v := .bool false) rfl (by kernel_rfl) (by kernel_rfl) (by kernel_rfl) (fun _ _ _ h => h) (Or.inl ⟨by rfl, ?_⟩) SW ?_
          · intro W4 hW4
            go_simp <;> first | done | rfl | (rw [IntKind.wrap_i64]; omega) | omega
          go_simp
          refine wpAnyH_take (i := 2) (v := .bool false) rfl (by kernel_rfl) (by kernel_rfl) (by kernel_rfl) (fun _ _ _ h => h) (Or.inl ⟨by rfl, ?_⟩) SW ?_
          · intro W4 hW4
            go_simp <;> first | done | rfl | (rw [IntKind.wrap_i64]; omega) | omega
          go_simp
          refine wpAnyH_take (i := 3) (v := .agg (gdA xq yq na nq nc)) rfl (by kernel_rfl) (by kernel_rfl) (by kernel_rfl) (fun _ _ _ h => h) (yieldsIf_load_mid (by rfl) 24 _ rfl w2.heap.size 0 (by rfl) [.int .i64 xq, .int .i64 yq, .slice na nq nc] _ (fun W hW => HVR.out W hW) Tryd.underlying24 rfl size24) SW ?_
          go_simp
          refine wpAnyH_take (i := 4) (v := .int .i64 (xq : Nat)) rfl (by kernel_rfl) (by kernel_rfl) (by kernel_rfl) (fun _ _ _ h => h) (Or.inl ⟨by rfl, ?_⟩) SW ?_
          · intro W4 hW4
            go_simp <;> first | done | rfl | (rw [IntKind.wrap_i64]; omega) | omega
          go_simp
          refine wpAnyH_take (i := 5) (v := .int .i64 (yq : Nat)) rfl (by kernel_rfl) (by kernel_rfl) (by kernel_rfl) (fun _ _ _ h => h) (Or.inl ⟨by rfl, ?_⟩) SW ?_
          · intro W4 hW4
            go_simp <;> first | done | rfl | (rw [IntKind.wrap_i64]; omega) | omega
          go_simp
          refine wpAnyH_ready (rs := [6]) (by kernel_rfl) (by simp) ?_
          refine AllReadyH.cons rfl (fun K1 hK1 => ?_) AllReadyH.nil
          go_simp
          refine (HON.out _).mono ?_
          rintro r w11 ⟨oa, oc, rfl, hR11, hb11⟩
          have B11 := SW.trans (hb11.mono SW.size)
          refine hK1.out _ _ B11 (fun SW => ?_)
          clear hK1 K1
          go_simp
          refine wpAnyH_ready (rs := [7]) (by kernel_rfl) (by simp) ?_
          refine AllReadyH.cons rfl (fun K1 hK1 => ?_) AllReadyH.nil
          go_simp
          refine (HSG.out w11 oa oc (HNR.out.mono B11) hR11).mono ?_
          rintro r w12 ⟨rfl, hb12⟩
          have B12 := B11.trans (hb12.mono B11.size)
          refine hK1.out _ _ B12 (fun SW => ?_)
          clear hK1 K1
          go_simp
          refine wpAnyH_take (i := 8) (v := .bool false) rfl (by kernel_rfl) (by kernel_rfl) (by kernel_rfl) (fun _ _ _ h => h) (Or.inl ⟨by rfl, ?_⟩) SW ?_
          · intro W4 hW4
            go_simp <;> first | done | rfl | (rw [IntKind.wrap_i64]; omega) | omega
          go_simp
          refine wpAnyH_take (i := 9) (v := .bool false) rfl (by kernel_rfl) (by kernel_rfl) (by kernel_rfl) (fun _ _ _ h => h) (Or.inl ⟨by rfl, ?_⟩) SW ?_
          · intro W4 hW4
            go_simp <;> first | done | rfl | (rw [IntKind.wrap_i64]; omega) | omega
          go_simp
          refine wpAnyH_done (by kernel_rfl) ?_ _
          clear SW B11 hb11 hb12 hR11
          go_wp2_with fail
          go_meet
          case rel => exact hide B12
      case rest =>
        obtain hcut' := hcut.out
        clear hcut
        obtain ⟨w11, hw11⟩ : ∃ w11, wc = w11 := ⟨_, rfl⟩
        rw [hw11] at hcut' ⊢
        clear hw11 HN10 HS10
        have HB11 := hide (HB10.out.trans (hcut'.mono HB10.out.size))
        have HG11 := hide (HG10.out.below hcut' HG10.out.lt)
        have HR11 := hide (HR10.out.mono hcut')
        have HD11 := hide (HD10.out.mono hcut')
        have HTZ11 := hide (HTZ10.out.mono hcut')
        have HL11 := hide (HL10.out.mono hcut')
        have HP11 := hide (HP10.out.below hcut' HP10.out.lt)
        clear hcut' HB10 HG10 HR10 HD10 HTZ10 HL10 HP10
        go_wp2_with (refine wpList_load_gd rfl (.tmp 5) rfl w.heap.size rfl HG11.out ?_)
        refine (HMY.out w11 HR11.out).mono ?_
        rintro r w12 ⟨rfl, hb⟩
        have HB12 := hide (HB11.out.trans (hb.mono HB11.out.size))
        have HG12 := hide (HG11.out.below hb HG11.out.lt)
        have HR12 := hide (HR11.out.mono hb)
        have HD12 := hide (HD11.out.mono hb)
        have HTZ12 := hide (HTZ11.out.mono hb)
        have HL12 := hide (HL11.out.mono hb)
        have HP12 := hide (HP11.out.below hb HP11.out.lt)
        clear hb HB11 HG11 HR11 HD11 HTZ11 HL11 HP11
        go_wp2_with (refine wpList_load_gd rfl (.tmp 5) rfl w.heap.size rfl HG12.out ?_)
        refine (HSP.out w12 HR12.out).mono ?_
        rintro r w13 ⟨ka, kc, rfl, hR13, hb⟩
        have HKR := hide hR13
        have hkm := hR13.max
        unfold maxLen at hkm
        have hkc := hR13.cap
        clear hR13
        have HB13 := hide (HB12.out.trans (hb.mono HB12.out.size))
        have HG13 := hide (HG12.out.below hb HG12.out.lt)
        have HR13 := hide (HR12.out.mono hb)
        have HD13 := hide (HD12.out.mono hb)
        have HTZ13 := hide (HTZ12.out.mono hb)
        have HL13 := hide (HL12.out.mono hb)
        have HP13 := hide (HP12.out.below hb HP12.out.lt)
        clear hb HB12 HG12 HR12 HD12 HTZ12 HL12 HP12
        have HSI := hide (sameInts_any _ _ _ _ _ _ _ _ w13 HL13.out HKR.out)
        rw [decide_eq_true rfl] at HSI
        go_wp2_with fail
        refine HSI.out.mono ?_
        rintro r w14 ⟨rfl, q, rfl⟩
        have hb := drewN_below w13.heap.size w13 q
        obtain ⟨w14, hw14⟩ : ∃ w14, w13.drewN q = w14 := ⟨_, rfl⟩
        rw [hw14] at hb ⊢
        clear hw14 HSI HKR
        have HB14 := hide (HB13.out.trans (hb.mono HB13.out.size))
        have HG14 := hide (HG13.out.below hb HG13.out.lt)
        have HR14 := hide (HR13.out.mono hb)
        have HD14 := hide (HD13.out.mono hb)
        have HTZ14 := hide (HTZ13.out.mono hb)
        have HL14 := hide (HL13.out.mono hb)
        have HP14 := hide (HP13.out.below hb HP13.out.lt)
        clear hb HB13 HG13 HR13 HD13 HTZ13 HL13 HP13
        go_wp2_with (refine wpList_load_gd rfl (.tmp 5) rfl w.heap.size rfl HG14.out ?_)
        refine (HON2.out w14 HR14.out).mono ?_
        rintro r w15 ⟨rfl, hb⟩
        have HB15 := hide (HB14.out.trans (hb.mono HB14.out.size))
        have HG15 := hide (HG14.out.below hb HG14.out.lt)
        have HR15 := hide (HR14.out.mono hb)
        have HD15 := hide (HD14.out.mono hb)
        have HTZ15 := hide (HTZ14.out.mono hb)
        have HL15 := hide (HL14.out.mono hb)
        have HP15 := hide (HP14.out.below hb HP14.out.lt)
        clear hb HB14 HG14 HR14 HD14 HTZ14 HL14 HP14
        obtain ⟨gg0, gg1, gg2⟩ := HG15.out.cells
        go_wp2_with (refine wpList_load_gd rfl (.tmp 5) rfl w.heap.size rfl HG15.out ?_)
        refine (HPT.out w15 HR15.out).mono ?_
        rintro r w16 ⟨tb, tc, rfl, hO, hb⟩
        have HT16 := hide (Rd.of_own hO)
        have htm := HT16.out.max
        unfold maxLen at htm
        have htc := HT16.out.cap
        clear hO gg0 gg1 gg2
        have HB16 := hide (HB15.out.trans (hb.mono HB15.out.size))
        have HG16 := hide (HG15.out.below hb HG15.out.lt)
        have HR16 := hide (HR15.out.mono hb)
        have HD16 := hide (HD15.out.mono hb)
        have HTZ16 := hide (HTZ15.out.mono hb)
        have HL16 := hide (HL15.out.mono hb)
        have HP16 := hide (HP15.out.below hb HP15.out.lt)
        clear hb HB15 HG15 HR15 HD15 HTZ15 HL15 HP15
        have KZ := Gd.new w16 0 0 none 0 0
        go_upto_region 22 with (refine wpList_store_gd rfl (.tmp 20) (.tmp 169) rfl w16.heap.size rfl rfl KZ ?_; intro w17 S3 kk3)
        have hb : Below w16.heap.size w16 w17 := (((Keeps.refl (fun k => k = w16.heap.size) w16).alloc _).trans kk3).below (Nat.le_refl _) (fun k hk e => by omega)
        have HV17 := hide S3
        clear S3 KZ kk3
        have HB17 := hide (HB16.out.trans (hb.mono HB16.out.size))
        have HG17 := hide (HG16.out.below hb HG16.out.lt)
        have HR17 := hide (HR16.out.mono hb)
        have HD17 := hide (HD16.out.mono hb)
        have HTZ17 := hide (HTZ16.out.mono hb)
        have HL17 := hide (HL16.out.mono hb)
        have HP17 := hide (HP16.out.below hb HP16.out.lt)
        have HT17 := hide (HT16.out.mono hb)
        clear hb HB16 HG16 HR16 HD16 HTZ16 HL16 HP16 HT16
        go_wp2_with (refine wpList_load_gd rfl (.tmp 15) rfl w7.heap.size rfl HP17.out ?_)
        refine (noGrid_zero _).mono ?_
        rintro r w18 ⟨rfl, hb⟩
        have HB18 := hide (HB17.out.trans (hb.mono HB17.out.size))
        have HG18 := hide (HG17.out.below hb HG17.out.lt)
        have HR18 := hide (HR17.out.mono hb)
        have HD18 := hide (HD17.out.mono hb)
        have HTZ18 := hide (HTZ17.out.mono hb)
        have HL18 := hide (HL17.out.mono hb)
        have HP18 := hide (HP17.out.below hb HP17.out.lt)
        clear hb HB17 HG17 HR17 HD17 HTZ17 HL17 HP17
        go_wp2_with fail
        go_ret
        exact ⟨rfl, HB18.out⟩

end Go.Proofs.YtkmghlmniahgbaaDoor
