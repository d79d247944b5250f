/-
  dice.ways: die after die is added. No conditions beyond those that each theorem bears.
-/
import Derived.Test.YtonmgbepkdlklaaKp
namespace Go.Proofs.Ytonmgbepkdlklaa
open Go.RowKit

/-- What the first so many of T bring to place j with a die more. -/
def pm (T : List Nat) (d i j : Nat) : Nat := sumTo (fun q => if q ≤ j ∧ j < q + d then T.getD q 0 else 0) i

theorem sum_point (f : Int → Nat) (z : Int) (n : Nat) : sumTo (fun i : Nat => if (i : Int) = z then f i else 0) n = if 0 ≤ z ∧ z < (n : Int) then f z else 0 := by
  induction n with
  | zero => rw [sumTo, if_neg (by omega)]
  | succ n ih =>
    rw [sumTo, ih]
    by_cases h : (n : Int) = z
    · subst h
      rw [if_neg (by omega), if_pos rfl, if_pos (by omega), Nat.zero_add]
    · rw [if_neg h, Nat.add_zero]
      by_cases h2 : 0 ≤ z ∧ z < (n : Int)
      · rw [if_pos h2, if_pos (by omega)]
      · rw [if_neg h2, if_neg (by omega)]

theorem conv_eq (f : Int → Nat) (n : Nat) (hf : ∀ z : Int, z < 0 ∨ (n : Int) ≤ z → f z = 0) (j d : Nat) :
    sumTo (fun x => f ((j : Int) - x)) d = sumTo (fun q => if q ≤ j ∧ j < q + d then f (q : Int) else 0) n := by
  induction d with
  | zero => rw [sumTo, sumTo_eq_zero n (fun q _ => if_neg (by omega))]
  | succ d ih =>
    rw [sumTo, ih]
    have h1 := sum_point f ((j : Int) - d) n
    have h2 : f ((j : Int) - d) = if 0 ≤ (j : Int) - d ∧ (j : Int) - d < (n : Int) then f ((j : Int) - d) else 0 := by
      split
      · rfl
      · exact hf _ (by omega)
    rw [h2, ← h1, ← sumTo_add]
    refine sumTo_congr n fun q _ => ?_
    by_cases hq : (q : Int) = (j : Int) - d
    · rw [if_pos hq, if_neg (by omega), if_pos (by omega), Nat.zero_add]
    · rw [if_neg hq, Nat.add_zero]
      by_cases h3 : q ≤ j ∧ j < q + d
      · rw [if_pos h3, if_pos (by omega)]
      · rw [if_neg h3, if_neg (by omega)]

/-- The ways of each sum, from the least on, of dice that are named from the last on. -/
def wl (ds : List Nat) : List Nat := (List.range (ds.sum - ds.length + 1)).map (fun j : Nat => cs ds ((j : Int) + ds.length))

theorem wl_length (ds : List Nat) : (wl ds).length = ds.sum - ds.length + 1 := by simp [wl]

theorem wl_get (ds : List Nat) (j : Nat) (h : j < ds.sum - ds.length + 1) : (wl ds).getD j 0 = cs ds ((j : Int) + ds.length) := by
  simp [wl, List.getD, h]

theorem wl_le (ds : List Nat) (j : Nat) : (wl ds).getD j 0 ≤ prod ds := by
  by_cases h : j < ds.sum - ds.length + 1
  · rw [wl_get ds j h]; exact cs_le _ _
  · have h1 : (wl ds)[j]? = none := List.getElem?_eq_none (by rw [wl_length]; omega)
    have : (wl ds).getD j 0 = 0 := by simp [List.getD, h1]
    omega

theorem len_le_sum (ds : List Nat) (h : ∀ d ∈ ds, 1 ≤ d) : ds.length ≤ ds.sum := by
  induction ds with
  | nil => simp
  | cons d ds ih => have := ih (fun x hx => h x (by simp [hx])); have := h d (by simp); simp; omega

theorem pm_full (d : Nat) (ds : List Nat) (h : ∀ x ∈ ds, 1 ≤ x) (j : Nat) : pm (wl ds) d (ds.sum - ds.length + 1) j = cs (d :: ds) ((j : Int) + (ds.length + 1 : Nat)) := by
  rw [cs, pm]
  have hl := len_le_sum ds h
  have := conv_eq (fun z => cs ds (z + ds.length)) (ds.sum - ds.length + 1) (fun z hz => by
    rcases hz with hz | hz
    · exact cs_low _ _ (by omega)
    · exact cs_high _ _ (by omega)) j d
  have e : sumTo (fun x => cs ds ((j : Int) + ((ds.length + 1 : Nat) : Int) - x - 1)) d = sumTo (fun x => (fun z : Int => cs ds (z + ds.length)) ((j : Int) - x)) d := sumTo_congr d fun x _ => by
    show cs ds _ = cs ds _
    congr 1; omega
  rw [e, this]
  refine sumTo_congr _ fun q hq => ?_
  rw [wl_get ds q hq]

theorem pm_le (T : List Nat) (d i n j : Nat) (h : i ≤ n) : pm T d i j ≤ pm T d n j := sumTo_mono h

theorem ext_getD {L L' : List Nat} (h : L.length = L'.length) (e : ∀ j, j < L.length → L.getD j 0 = L'.getD j 0) : L = L' := by
  apply List.ext_getElem h
  intro j h1 h2
  have := e j h1
  simpa [List.getD, h1, h2] using this

theorem sum_le (ds : List Nat) (B : Nat) (h : ∀ d ∈ ds, d ≤ B) : ds.sum ≤ ds.length * B := by
  induction ds with
  | nil => simp
  | cons d ds ih => have := ih (fun x hx => h x (by simp [hx])); have := h d (by simp); rw [List.sum_cons, List.length_cons, Nat.succ_mul]; omega

theorem pow20 (n : Nat) (h : n ≤ 10) : 20 ^ n ≤ 10240000000000 := by
  have : 20 ^ n ≤ 20 ^ 10 := Nat.pow_le_pow_right (by omega) h
  simpa using this

theorem Blk.new (w : World) (L : List Nat) (c : Array Value) (hc : c = ((toI L).map (Value.int .i64)).toArray) : Blk (w.alloc (.cells c 3)) w.heap.size L := by
  subst hc
  show (w.heap.push _)[w.heap.size]? = _
  simp

theorem rev_take (ds : List Nat) (k : Nat) (h : k < ds.length) : (ds.take (k + 1)).reverse = ds.getD k 0 :: (ds.take k).reverse := by
  rw [List.take_succ_eq_append_getElem h, List.reverse_append]
  simp [List.getD, h]

set_option maxRecDepth 100000 in
set_option maxHeartbeats 4000000 in
theorem ways_any (a : Option Addr) (n c : Nat) (ds : List Nat) (w : World) (h : Rd w a n c (toI ds)) (hn : n ≤ 10) (hd : ∀ d ∈ ds, 1 ≤ d ∧ d ≤ 20) :
    Calls Try.prog 24 #[.slice a n c] w fun e w' => ∃ b, e = .returned (.slice (some ⟨b, 0, none⟩) (wl ds.reverse).length (wl ds.reverse).length) ∧ Blk w' b (wl ds.reverse) ∧ w.heap.size ≤ b ∧ Below w.heap.size w w' := by
  obtain ⟨i0, hi, hz0, hz1, hz2⟩ := info_parts Try.info3
  have hcm := h.max
  have hcn := h.cap
  unfold maxLen at hcm
  have hlen : ds.length = n := by have := h.len; rwa [toI_length] at this
  have HH := hide h
  have HLEN := hide hlen
  have HD := hide hd
  clear h hlen hd
  go_enter Try.func24, Try.ntmps24
  go_wp2
  go_loopw [3, 13] (fun t v wr => ∃ (k b m : Nat) (T : List Nat), k ≤ n ∧ v = .int .i64 k ∧ t = .slice (some ⟨b, 0, none⟩) m m ∧ Hid (Blk wr b T) ∧ Hid (T = wl (ds.take k).reverse) ∧ Hid (T.length = m) ∧ Hid (w.heap.size ≤ b) ∧ Hid (Below w.heap.size w wr)) (fun _ v _ => n - (intOf v).toNat)
  case atStart => exact ⟨0, _, 1, [1], by omega, rfl, rfl, hide (Blk.new _ _ _ rfl), hide (by simp [wl, cs, List.range_succ]), hide rfl, hide (Nat.le_refl _), hide ((Below.refl _ _).alloc (Nat.le_refl _) _)⟩
  case round =>
    obtain ⟨k, b, m, T, hk, rfl, rfl, HT, HTe, HTl, Hb, HB⟩ := hrel
    by_cases hlt : k < n
    · have hlt' : (k : Int) < (n : Int) := by omega
      have hR := HH.out.mono HB.out
      obtain ⟨ba, oa, ha, hc⟩ := hR.cells (by omega)
      subst ha
      have r1 := hc k hlt
      rw [toI_getD] at r1
      obtain ⟨d, hdk⟩ : ∃ d, ds.getD k 0 = d := ⟨_, rfl⟩
      have hdb : 1 ≤ d ∧ d ≤ 20 := by
        rw [← hdk]
        have : ds.getD k 0 ∈ ds := by
          have hk' : k < ds.length := by rw [HLEN.out]; exact hlt
          simp [List.getD, hk']
        exact HD.out _ this
      obtain ⟨hd1, hd2⟩ := hdb
      rw [hdk] at r1
      have HDK := hide hdk
      obtain ⟨RS, hRS⟩ : ∃ RS, (ds.take k).reverse = RS := ⟨_, rfl⟩
      have hRSb : ∀ x ∈ RS, 1 ≤ x ∧ x ≤ 20 := fun x hx => HD.out x (by rw [← hRS] at hx; exact List.mem_of_mem_take (List.mem_reverse.1 hx))
      have hRSl : RS.length = k := by rw [← hRS, List.length_reverse, List.length_take, HLEN.out]; omega
      have hRSs : RS.sum ≤ RS.length * 20 := sum_le RS 20 (fun x hx => (hRSb x hx).2)
      have hmT : m = RS.sum - RS.length + 1 := by rw [← HTl.out, HTe.out, hRS, wl_length]
      have hm200 : m ≤ 201 := by omega
      have hm1 : 1 ≤ m := by omega
      have HPM : Hid (∀ j, pm T d m j = cs (d :: RS) ((j : Int) + (k + 1 : Nat))) := hide (fun j => by rw [HTe.out, hRS, hmT, pm_full d RS (fun x hx => (hRSb x hx).1), hRSl])
      have HPB : Hid (∀ j, pm T d m j ≤ 10240000000000) := hide (fun j => by
        rw [HPM.out]
        refine Nat.le_trans (cs_le _ _) (Nat.le_trans (prod_le (d :: RS) 20 (fun x hx => ?_)) (pow20 _ (by simp; omega)))
        rcases List.mem_cons.1 hx with rfl | hx
        · omega
        · exact (hRSb x hx).2)
      have HRS : Hid ((ds.take (k + 1)).reverse = d :: RS) := hide (by rw [rev_take ds k (by rw [HLEN.out]; exact hlt), hdk, hRS])
      have HRL : Hid (RS.length = k) := hide hRSl
      have HMT : Hid (m = RS.sum - RS.length + 1) := hide hmT
      have HLS : Hid (RS.length ≤ RS.sum) := hide (len_le_sum RS (fun x hx => (hRSb x hx).1))
      clear hdk hRS hRSb hRSl hRSs hmT hc hR
      obtain ⟨M, hM⟩ : ∃ M, m + d - 1 = M := ⟨_, rfl⟩
      have hM1 : (m : Int) + (d : Int) - 1 = (M : Int) := by omega
      have hmm : M ≤ maxLen := by unfold maxLen; omega
      have hby : i0.bytes * M ≤ 281474976710656 := by rw [hz2]; omega
      have HM := hide hM
      clear hM
      go_wp2_with (at_make; refine wpList_make_full wr rfl _ _ 22 rfl w.heap.size 3 i0 (.int .i64 0) 1 Try.underlying22 hi hz0 hz1 _ _ _ _ M rfl rfl (by omega) (by omega) hby hmm HB.out.size ?_)
      intro w1 hown hgrow
      have hb1 : Below wr.heap.size wr w1 := (Below.refl _ _).grown hgrow (Nat.le_refl _) (fun k hk => by simp at hk)
      rw [made_ints] at hown
      have HN1 := hide (Blk.of_own hown)
      have HT1 := hide (HT.out.below hb1 HT.out.lt)
      have HB1 := hide (HB.out.trans (hb1.mono HB.out.size))
      have hbw : b < wr.heap.size := HT.out.lt
      have hww : w.heap.size ≤ wr.heap.size := HB.out.size
      generalize hG : wr.heap.size = G at *
      clear hown hgrow hb1 hmm hby r1 HT HB hG
      go_wp2
      go_loopw [25] (fun v wq => ∃ (i : Nat) (N : List Nat), i ≤ m ∧ v = .int .i64 i ∧ Hid (Blk wq G N) ∧ Hid (N.length = M) ∧ Hid (∀ j, j < M → N.getD j 0 = pm T d i j) ∧ Hid (Blk wq b T) ∧ Hid (Below w.heap.size w wq)) (fun v _ => m - (intOf v).toNat)
      case atStart => exact ⟨0, _, by omega, rfl, HN1, hide (by simp), hide (fun j _ => by rw [rep0]; rfl), HT1, HB1⟩
      case round =>
        obtain ⟨i, N, hi, rfl, HN, HNl, HNe, HTq, HBq⟩ := hrel
        by_cases him : i < m
        · have him' : (i : Int) < (m : Int) := by omega
          have r2 := HTq.out.cell (i := i) (by rw [HTl.out]; exact him)
          obtain ⟨t, ht⟩ : ∃ t, T.getD i 0 = t := ⟨_, rfl⟩
          rw [ht] at r2
          have HTI := hide ht
          clear ht
          go_wp2
          clear r2
          go_loopw [31] (fun v wz => ∃ (x : Nat) (N : List Nat), x ≤ d ∧ v = .int .i64 x ∧ Hid (Blk wz G N) ∧ Hid (N.length = M) ∧ Hid (∀ j, j < M → N.getD j 0 = pm T d i j + if i ≤ j ∧ j < i + x then t else 0) ∧ Hid (Blk wz b T) ∧ Hid (Below w.heap.size w wz)) (fun v _ => d - (intOf v).toNat)
          case atStart => exact ⟨0, N, by omega, rfl, HN, HNl, hide (fun j hj => by rw [if_neg (by omega)]; exact HNe.out j hj), HTq, HBq⟩
          case round =>
            clear HN HNl HNe HTq HBq
            obtain ⟨x, N, hx, rfl, HN, HNl, HNe, HTq, HBq⟩ := hrel
            by_cases hxd : x < d
            · have hxd' : (x : Int) < (d : Int) := by omega
              obtain ⟨p, hp⟩ : ∃ p, i + x = p := ⟨_, rfl⟩
              have hpM : p < M := by have := HM.out; omega
              have hpe : (i : Int) + (x : Int) = (p : Int) := by omega
              have r3 := HN.out.cell (i := p) (by rw [HNl.out]; exact hpM)
              have f3 := HN.out.frozen p
              obtain ⟨y, hy⟩ : ∃ y, N.getD p 0 = y := ⟨_, rfl⟩
              rw [hy] at r3
              have hyt : y + t ≤ 10240000000000 := by
                have h1 := HNe.out p hpM
                rw [if_neg (by omega), hy] at h1
                have h2 := HPB.out p
                have h3 := pm_le T d (i + 1) m p (by omega)
                rw [pm, sumTo, if_pos (by omega), HTI.out] at h3
                rw [pm] at h1
                omega
              have HN2 := hide (HN.out.set p (y + t))
              have HS2 : Hid (∀ j, j < M → (N.set p (y + t)).getD j 0 = pm T d i j + if i ≤ j ∧ j < i + (x + 1) then t else 0) := hide (fun j hj => by
                rw [getD_setN _ _ _ _ (by rw [HNl.out]; exact hpM)]
                by_cases hjp : j = p
                · subst hjp
                  rw [if_pos rfl, if_pos (by omega), ← hy, HNe.out _ hpM, if_neg (by omega)]
                  omega
                · rw [if_neg hjp, HNe.out j hj]
                  by_cases h4 : i ≤ j ∧ j < i + x
                  · rw [if_pos h4, if_pos (by omega)]
                  · rw [if_neg h4, if_neg (by omega)])
              have HL2 : Hid ((N.set p (y + t)).length = M) := hide (by rw [List.length_set]; exact HNl.out)
              have HB2 := hide (HBq.out.setCell (p := ⟨G, p, none⟩) (by show w.heap.size ≤ G; omega) (.int .i64 ((y + t : Nat) : Int)))
              have HT2 := hide (HTq.out.other (g := G) (by omega) p (.int .i64 ((y + t : Nat) : Int)))
              have hpm' : (p : Int) < (M : Int) := by omega
              obtain ⟨z, hz⟩ : ∃ z, y + t = z := ⟨_, rfl⟩
              rw [hz] at HN2 HS2 HL2 HB2 HT2
              have hze : (y : Int) + (t : Int) = (z : Int) := by omega
              clear hy hp HN HNl HNe HTq HBq hz
              go_wp2
              go_roundw
              case rel => exact ⟨x + 1, _, by omega, by go_num, HN2, HL2, HS2, HT2, HB2⟩
              case measure => simp [intOf]; omega
            · have hxd' : ¬ (x : Int) < (d : Int) := by omega
              obtain rfl : x = d := by omega
              have HNf : Hid (∀ j, j < M → N.getD j 0 = pm T x (i + 1) j) := hide (fun j hj => by
                rw [HNe.out j hj]
                show _ = pm T x i j + (if i ≤ j ∧ j < i + x then T.getD i 0 else 0)
                rw [HTI.out])
              go_wp2
              go_roundw
              case rel => exact ⟨i + 1, N, by omega, by go_num, HN, HNl, HNf, HTq, HBq⟩
              case measure => simp [intOf]; omega
        · have him' : ¬ (i : Int) < (m : Int) := by omega
          obtain rfl : i = m := by omega
          have HLW : Hid (N = wl (ds.take (k + 1)).reverse) := hide (by
            have e2 := HMT.out
            have e3 := HRL.out
            have e4 := HLS.out
            have e5 := HM.out
            rw [HRS.out]
            have hlw : (wl (d :: RS)).length = M := by rw [wl_length, List.sum_cons, List.length_cons]; omega
            refine ext_getD (by rw [HNl.out, hlw]) (fun j hj => ?_)
            rw [HNl.out] at hj
            rw [HNe.out j hj, HPM.out, wl_get _ _ (by rw [← wl_length, hlw]; exact hj), List.length_cons, e3])
          go_wp2
          go_roundw
          case rel => exact ⟨k + 1, G, M, N, by omega, by go_num, rfl, HN, HLW, HNl, hide hww, HBq⟩
          case measure => simp [intOf]; omega
    · have hlt' : ¬ (k : Int) < (n : Int) := by omega
      obtain rfl : k = n := by omega
      have hTf : T = wl ds.reverse := by rw [HTe.out, List.take_of_length_le (by rw [HLEN.out]; exact Nat.le_refl _)]
      have HTF := hide hTf
      have HML : Hid (m = (wl ds.reverse).length) := hide (by rw [← hTf, HTl.out])
      clear hTf
      go_wp2
      go_ret
      rw [HTF.out] at HT
      refine ⟨b, ?_, HT.out, Hb.out, HB.out⟩
      rw [← HML.out]
      rfl

end Go.Proofs.Ytonmgbepkdlklaa
