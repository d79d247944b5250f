/-
  What the given 'hand' answers: so many unlike cards. No conditions beyond those that each theorem bears.
-/
import Derived.Test.YtiihnlpoagnkhaaDoorKHand
import Derived.Test.YtiihnlpoagnkhaaDoorPl0
import Derived.Deep.LoopGhost
import Derived.Deep.Cut
import Derived.Deep.CutRange
import Derived.Deep.DeepCutAuto
namespace Go.Proofs.YtiihnlpoagnkhaaDoor
open Go.RowKit Go.Shelf

/-- So many unlike cards, in new memory. -/
def HandOut (n : Nat) (w : World) (e : Ending) (w' : World) : Prop :=
  ∃ L a' c', L.length = n ∧ L.Nodup ∧ (∀ x ∈ L, x < 52) ∧ e = .returned (.slice a' n c') ∧ Rd w' a' n c' (toI L) ∧ Below w.heap.size w w'

set_option maxRecDepth 100000 in
set_option maxHeartbeats 4000000 in
theorem hand_keep (a : Option Addr) (m c n : Nat) (zs : List Int) (hz : ∀ z ∈ zs, -9223372036854775808 ≤ z ∧ z ≤ 9223372036854775807) (hn : n ≤ 12) (w : World) (h : Rd w a m c zs) :
    Calls Tryd.prog 10 #[.slice a m c, .int .i64 n] w fun e w' => HandOut n w e w' := by
  have hcm := h.max
  have hcn := h.cap
  unfold maxLen at hcm
  have HR := hide h
  have HZ := hide hz
  clear h hz
  go_enter Tryd.func10, Tryd.ntmps10
  go_wp2
  go_loopw [5, 7] (fun s v wr => ∃ (k : Nat), v = .int .i64 k ∧ k ≤ 52 ∧ (∃ ad cc, s = .slice ad k cc) ∧ Hid (wr.ownsRow w.heap.size 3 1 s k ((toI (List.range k)).map (Value.int .i64))) ∧ Hid (Below w.heap.size w wr)) (fun _ v _ => 52 - (intOf v).toNat)
  case atStart => exact ⟨0, rfl, by omega, ⟨_, _, rfl⟩, World.ownsRow_nil _ _ _ _, Below.refl _ _⟩
  case round =>
    obtain ⟨k, rfl, hk, ⟨ad, cc, rfl⟩, hO, hB⟩ := hrel
    by_cases hlt : k < 52
    · have hlt' : (k : Int) < 52 := by omega
      go_wp2_with (at_builtin; refine wpList_append_rd _ rfl (.tmp 14) (.tmp 16) rfl w.heap.size _ k (toI (List.range k)) rfl (hO.out.alloc _) _ 1 1 [(k : Int)] rfl (Rd_one _ _) (by omega) (by have := hB.out.size; simp; omega) ?_)
      intro v' w' hO' hG'
      obtain ⟨a', c', hv'⟩ := slice_form hO'
      rw [hv'] at hO' ⊢
      have hb0 : Below w.heap.size w (wr.alloc (.cells #[.int .i64 (k : Int)] 3)) := hB.out.alloc hB.out.size _
      have HB' := hide (hb0.grown hG' hb0.size (fun j hj => (hO.out.lt j hj).1))
      have HO' := hide hO'
      clear hO' hG' hb0 hv'
      go_wp2_with fail
      go_roundw
      case rel =>
        refine ⟨k + 1, by go_num, by omega, ⟨a', c', rfl⟩, ?_, HB'.out⟩
        have := HO'.out
        rw [List.range_succ]
        simp only [toI, List.map_append, List.map_cons, List.map_nil] at this ⊢
        exact this
      case measure => simp [intOf]; omega
    · obtain rfl : k = 52 := by omega
      rw [show (((52 : Nat)) : Int) = (52 : Int) from rfl]
      go_wp2
      go_loopg [5, 6, 8] n (fun gk s5 s6 v wr => ∃ (i S : Nat) (Lf Ll : List Nat), v = .int .i64 i ∧ Hid (i ≤ n ∧ gk = n - i) ∧ (∃ ad cc, s5 = .slice ad (52 - i) cc ∧ Hid (Rd wr ad (52 - i) cc (toI Lf)) ∧ Hid (∀ b off, ad = some ⟨b, off, none⟩ → S ≤ b)) ∧ (∃ ad cc, s6 = .slice ad i cc) ∧ Hid (wr.ownsRow w.heap.size 3 1 s6 i ((toI Ll).map (Value.int .i64))) ∧ Hid (∀ k, s6.ownBlock = some k → k < S) ∧ Hid (Dealt i Lf Ll) ∧ Hid (S ≤ wr.heap.size) ∧ Hid (Below w.heap.size w wr))
      case atStart => exact ⟨0, 0, List.range 52, [], rfl, ⟨by omega, by omega⟩, ⟨_, _, rfl, Rd.of_own hO.out, fun _ _ _ => Nat.zero_le _⟩, ⟨_, _, rfl⟩, World.ownsRow_nil _ _ _ _, (fun k hk => by simp [Value.ownBlock] at hk), ⟨by simp, rfl⟩, Nat.zero_le _, hB.out⟩
      case round =>
        clear hO hB
        obtain ⟨i, S, Lf, Ll, rfl, hig, ⟨ad, cc, rfl, hRf, hSf⟩, ⟨ad6, cc6, rfl⟩, hO, hSl, hD, hS, hB⟩ := hrel
        obtain ⟨hi, hgk⟩ := hig.out
        have hLfl : Lf.length = 52 - i := by have := hD.out.left; omega
        have HLF := hide hLfl
        clear hLfl
        by_cases hlt : i < n
        · have hlt' : (i : Int) < (n : Int) := by omega
          obtain ⟨nl, hnl⟩ : ∃ nl, 52 - i = nl := ⟨_, rfl⟩
          have hnl1 : 40 ≤ nl := by omega
          have hnl2 : nl ≤ 52 := by omega
          rw [hnl] at hRf HLF ⊢
          have HNL := hide hnl
          have HGK := hide hgk
          clear hnl hgk
          go_upto_if 26 with fail
          go_cut [9] (fun s wc => ∃ K : Nat, s = .int .i64 K ∧ K < nl ∧ wc = wr)
          case first =>
            by_cases him : i < m
            · have him' : (i : Int) < (m : Int) := by omega
              obtain ⟨b, off, ha, hc⟩ := HR.out.cells (by omega)
              subst ha
              have r1 : wr.cell? ⟨b, off + i, none⟩ = _ := (hB.out.cell (p := ⟨b, off + i, none⟩) (World.block_lt_of_cell? w _ (hc i him))).trans (hc i him)
              have hzz := HZ.out (zs.getD i 0) (by have := HR.out.len; simp [List.getD, this, him])
              obtain ⟨z, hz⟩ : ∃ z, zs.getD i 0 = z := ⟨_, rfl⟩
              rw [hz] at r1 hzz
              have PK := hide (picked_any z nl wr hzz.1 hzz.2 (by omega) (by omega))
              have hpl := pk_lt z nl (by omega)
              obtain ⟨K, hK⟩ : ∃ K, pk z nl = K := ⟨_, rfl⟩
              rw [hK] at PK hpl
              clear hz hK hc hzz
              go_wp2_with fail
              refine PK.out.mono ?_
              rintro e w1 ⟨rfl, hw⟩
              subst w1
              go_wp2_with fail
              go_meet
              case rel => exact ⟨K, rfl, hpl, rfl⟩
            · have him' : ¬ (i : Int) < (m : Int) := by omega
              go_wp2_with fail
              go_meet
              case rel => exact ⟨0, rfl, by omega, rfl⟩
          case rest =>
            obtain ⟨K, rfl, hK, hwc⟩ := hcut
            have hwc' := hwc.symm
            subst hwc'
            clear hwc
            obtain ⟨b5, o5, rfl, hc5⟩ := hRf.out.cells (by omega)
            have r5 := hc5 K hK
            rw [toI_getD] at r5
            obtain ⟨x, hx⟩ : ∃ x, Lf.getD K 0 = x := ⟨_, rfl⟩
            rw [hx] at r5
            have HD2 := hide (hD.out.next (k := K) (by rw [HLF.out]; exact hK))
            rw [hx] at HD2
            have hcc5 := hRf.out.cap
            have hmx5 := hRf.out.max
            unfold maxLen at hmx5
            clear hc5 hx
            go_wp2_with (at_builtin; refine wpList_append_rd _ rfl (.tmp 34) (.tmp 39) rfl w.heap.size _ i (toI Ll) rfl (hO.out.alloc _) _ 1 1 [(x : Int)] rfl (Rd_one _ _) (by omega) (by have := hB.out.size; simp; omega) ?_)
            intro v' w' hO' hG'
            obtain ⟨a', c', hv'⟩ := slice_form hO'
            rw [hv'] at hO' ⊢
            have hb0 : Below w.heap.size w (wr.alloc (.cells #[.int .i64 (x : Int)] 3)) := hB.out.alloc hB.out.size _
            have HBA := hide (hb0.grown hG' hb0.size (fun j hj => (hO.out.lt j hj).1))
            have kA : Keeps (fun k => (Value.slice ad6 i cc6).ownBlock = some k) (wr.alloc (.cells #[.int .i64 (x : Int)] 3)) w' := ⟨hG'.os, hG'.tape, hG'.output, hG'.size, fun k hk hne => hG'.block k hk (fun e => hne e.symm)⟩
            have RA : Rd w' (some ⟨b5, o5, none⟩) nl cc (toI Lf) := (hRf.out.mono ((Below.refl _ wr).alloc (Nat.le_refl _) _)).keeps kA (fun b off e hx => by
              have h1 := hSl.out b hx
              have h2 := hSf.out b off e
              omega)
            have HOA : Hid (w'.ownsRow w.heap.size 3 1 (.slice a' (i + 1) c') (i + 1) ((toI (Ll ++ [x])).map (Value.int .i64))) := by
              have := hO'
              simp only [toI, List.map_append, List.map_cons, List.map_nil] at this ⊢
              exact this
            have hwr : IntKind.i64.wrap ((K : Int) + 1) = ((K + 1 : Nat) : Int) := by rw [IntKind.wrap_i64]; omega
            obtain ⟨Q, hQ⟩ : ∃ Q, K + 1 = Q := ⟨_, rfl⟩
            rw [hQ] at hwr HD2
            have hK1 : Q ≤ nl := by omega
            have hK1c : Q ≤ cc := by omega
            have HQ := hide hQ
            clear hQ
            have hKc : K ≤ cc := by omega
            have hKc2 : ¬ cc < K := by omega
            have RF0 := RA.drew.from hK1
            simp only [Option.map_some, Addr.add_lit] at RF0
            have RF := hide RF0
            clear RF0
            have RU := hide (RA.drew.upto (Nat.le_of_lt hK))
            clear hO' hG' hb0 hv' kA RA hO hSl hRf hD r5
            go_wp2_with fail
            refine wp_region_any (by kernel_rfl) ?_
            change wpAny _ _ _ _ _ _ _ (World.drew _)
            refine wpAny_take (i := 0) (v := ?_) rfl (by kernel_rfl) (by kernel_rfl) (by kernel_rfl) (fun _ _ _ h => h) (Or.inl ⟨by rfl, ?_⟩) ?_
            rotate_left
            · intro w
              go_simp
              with_reducible rfl
            go_simp
            refine wpAny_take (i := 1) (v := ?_) rfl (by kernel_rfl) (by kernel_rfl) (by kernel_rfl) (fun _ _ _ h => h) (Or.inl ⟨by rfl, ?_⟩) ?_
            rotate_left
            · intro w
              go_simp
              with_reducible rfl
            go_simp
            refine wpAny_take (i := 4) (v := ?_) rfl (by kernel_rfl) (by kernel_rfl) (by kernel_rfl) (fun _ _ _ h => h) (Or.inl ⟨by rfl, ?_⟩) ?_
            rotate_left
            · intro w
              go_simp
              with_reducible rfl
            go_simp
            refine wpAny_take (i := 5) (v := ?_) rfl (by kernel_rfl) (by kernel_rfl) (by kernel_rfl) (fun _ _ _ h => h) (Or.inl ⟨by rfl, ?_⟩) ?_
            rotate_left
            · intro w
              go_simp
              with_reducible rfl
            go_simp
            refine wpAny_take (i := 6) (v := Value.int .i64 Q) rfl (by kernel_rfl) (by kernel_rfl) (by kernel_rfl) (fun _ _ _ h => h) (Or.inl ⟨by rfl, ?_⟩) ?_
            · intro w
              go_simp
            go_simp
            refine wpAny_take (i := 2) (v := Value.slice (some ⟨b5, o5, none⟩) K cc) rfl (by kernel_rfl) (by kernel_rfl) (by kernel_rfl) (fun _ _ _ h => h) (Or.inl ⟨by rfl, ?_⟩) ?_
            · intro w
              go_simp
            go_simp
            refine wpAny_take (i := 7) (v := Value.slice (if cc = Q then some ⟨b5, o5, none⟩ else some ⟨b5, o5 + Q, none⟩) (nl - Q) (cc - Q)) rfl (by kernel_rfl) (by kernel_rfl) (by kernel_rfl) (fun _ _ _ h => h) (Or.inl ⟨by rfl, ?_⟩) ?_
            · intro w
              go_simp
            go_simp
            obtain ⟨af, haf⟩ : ∃ af, af = (if cc = Q then some (⟨b5, o5, none⟩ : Addr) else some ⟨b5, o5 + Q, none⟩) := ⟨_, rfl⟩
            rw [← haf] at RF
            rw [← haf]
            clear haf
            refine wpAny_ready (rs := [3]) (by kernel_rfl) (by simp) ?_
            refine AllReady.cons rfl (fun K1 hK1' => ?_) ?_
            rotate_left
            · exact AllReady.nil
            go_simp
            refine (keep_ints _ K cc _ _ RU.out (by omega)).mono ?_
            rintro e w4 ⟨a4, c4, rfl, hO4, hB4⟩
            refine hK1' _ _ ?_
            clear hK1' K1
            go_simp
            refine wpAny_ready (rs := [8]) (by kernel_rfl) (by simp) ?_
            refine AllReady.cons rfl (fun K1 hK1' => ?_) ?_
            rotate_left
            · exact AllReady.nil
            rw [if_pos (by rfl)]
            refine wp_append_rd w4 (.tmp 44) (.tmp 48) rfl w'.drew.heap.size (.slice a4 K c4) K _ rfl hO4 af (nl - Q) (cc - Q) _ rfl (RF.out.mono hB4) (by omega) hB4.size ?_
            intro v5 w5 hO5 hG5
            have hB5 : Below w'.drew.heap.size w'.drew w5 := hB4.grown hG5 hB4.size (fun j hj => (hO4.lt j hj).1)
            obtain ⟨a5, c5, hv5⟩ := slice_form hO5
            rw [hv5] at hO5 ⊢
            refine hK1' _ _ ?_
            clear hK1' K1
            go_simp
            refine wpAny_take (i := 9) (v := ?_) rfl (by kernel_rfl) (by kernel_rfl) (by kernel_rfl) (fun _ _ _ h => h) (Or.inl ⟨by rfl, ?_⟩) ?_
            rotate_left
            · intro w
              go_simp
              with_reducible rfl
            go_simp
            refine wpAny_done (by kernel_rfl) ?_ _
            have HO5 := hide hO5
            have HB5 := hide hB5
            clear hO5 hG5 hO4 hB4 hv5 hB5
            go_wp2_with fail
            go_roundg (n - (i + 1))
            case measure => have := HGK.out; omega
            case rel =>
              have hdl := HD2.out.left
              have hlen5 : K + (nl - Q) = 52 - (i + 1) := by have h1 := HQ.out; have h2 := HNL.out; omega
              refine ⟨i + 1, w'.heap.size, Lf.take K ++ Lf.drop Q, Ll ++ [x], by go_num, ⟨by omega, rfl⟩, ⟨a5, c5, by rw [hlen5], ?_, ?_⟩, ⟨a', c', rfl⟩, own_later HOA.out ?_, ?_, HD2.out, HB5.out.size, ?_⟩
              · have h1 := HO5.out
                rw [hlen5] at h1
                have h2 := Rd.of_own h1
                have h3 : toI (Lf.take K ++ Lf.drop Q) = (toI Lf).take K ++ (toI Lf).drop Q := by simp [toI, List.map_take, List.map_drop]
                show Rd _ _ _ _ _
                rw [h3]
                exact h2
              · intro b off e
                subst e
                exact (HO5.out.lt b rfl).1
              · exact (Below.refl _ w').drew.trans HB5.out
              · intro k hk
                exact (HOA.out.lt k hk).2
              · exact HBA.out.trans (((Below.refl _ w').drew.trans HB5.out).mono HBA.out.size)
        · obtain rfl : i = n := by omega
          have hlt' : ¬ (i : Int) < (i : Int) := by omega
          go_wp2
          go_ret
          exact ⟨Ll, _, _, hD.out.len, hD.out.cards.1, hD.out.cards.2, rfl, Rd.of_own hO.out, hB.out⟩

end Go.Proofs.YtiihnlpoagnkhaaDoor
