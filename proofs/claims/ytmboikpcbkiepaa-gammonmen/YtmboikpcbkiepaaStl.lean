/-
  stepped: all boards that come of boards by one step. No conditions beyond those that each theorem bears.
-/
import Derived.Test.YtmboikpcbkiepaaPut
import Derived.Test.YtmboikpcbkiepaaMaySt
import Derived.Test.YtmboikpcbkiepaaStOh
namespace Go.Proofs.Ytmboikpcbkiepaa
open Go.RowKit

def stF (t p : Nat) (out : List Bo) (x : Bo) (f : Nat) : List Bo := match stR x.P x.W x.B t f p with
  | some r => putL out ⟨r.1, r.2.1, r.2.2⟩
  | none => out
def stX (t p : Nat) (out : List Bo) (x : Bo) : Nat → List Bo
  | 0 => out
  | f + 1 => stF t p (stX t p out x f) x f
def stL (t p : Nat) (L : List Bo) : Nat → List Bo
  | 0 => []
  | i + 1 => stX t p (stL t p L i) (L.getD i b0) 25

theorem putL_len (L : List Bo) (b : Bo) : (putL L b).length ≤ L.length + 1 := by
  unfold putL
  split
  · omega
  · simp
    have := plc_le L b
    omega
theorem stF_len (t p : Nat) (out : List Bo) (x : Bo) (f : Nat) : (stF t p out x f).length ≤ out.length + 1 := by
  unfold stF
  split
  · exact putL_len _ _
  · omega
theorem stX_len (t p : Nat) (out : List Bo) (x : Bo) : ∀ f, (stX t p out x f).length ≤ out.length + f
  | 0 => Nat.le_refl _
  | f + 1 => by
    have := stX_len t p out x f
    have := stF_len t p (stX t p out x f) x f
    rw [stX]
    omega
theorem stL_len (t p : Nat) (L : List Bo) : ∀ i, (stL t p L i).length ≤ 25 * i
  | 0 => Nat.le_refl _
  | i + 1 => by
    have := stL_len t p L i
    have := stX_len t p (stL t p L i) (L.getD i b0) 25
    rw [stL]
    omega

theorem stF_some {t p : Nat} {out : List Bo} {x : Bo} {f : Nat} {Q : List Int} {W B : Int} (h : stR x.P x.W x.B t f p = some (Q, W, B)) : stF t p out x f = putL out ⟨Q, W, B⟩ := by unfold stF; rw [h]
theorem stF_none {t p : Nat} {out : List Bo} {x : Bo} {f : Nat} (h : stR x.P x.W x.B t f p = none) : stF t p out x f = out := by unfold stF; rw [h]

theorem wpList_load_bo {ops : Array Oper} {rest : List Oper} {op : Oper} {a : Act} {w : World} {Q : Exit → Act → World → Prop} (hw : Region.wanted op (yielded ops a.tmps) = true) (x : Operand) (ho : op.op = .load 24 x)
    (b o : Nat) (hx : a.eval x = .pointer (some ⟨b, o, none⟩)) {g c : Nat} {y : Bo} {T : Int} (hc : w.rangeAt b o (bv g c y T))
    (h : wpList Try.prog ops Q rest (a.put op.dst (.agg (gmA (some ⟨g, 0, none⟩) 26 c y.W y.B T))) w) : wpList Try.prog ops Q (op :: rest) a w := by
  refine wpList_wanted hw fun K hK => ?_
  unfold Oper.wp execOp
  simp only [ho, hx, Instr.loadAt, Instr.sureAddr, Sem.run_bind, Sem.run_pure, Result.andThen_ok, run_loadVar_mid w b o 24 (bv g c y T) _ hc Try.underlying24 rfl size24]
  exact hK _ _ h

attribute [local irreducible] putL stR stF stX stL

set_option maxRecDepth 100000 in
set_option maxHeartbeats 4000000 in
theorem stepped_any (v : Value) (L : List Bo) (t p : Nat) (ht : t ≤ 1) (hp : 1 ≤ p ∧ p ≤ 6) (w : World) (hL : Bs 0 w t v L) (hn : L.length ≤ 300000) (hM : ∀ i, i < L.length → mayP (L.getD i b0).P (L.getD i b0).W (L.getD i b0).B t) :
    Calls Try.prog 43 #[v, .int .i64 p] w fun e w' => ∃ v', e = .returned v' ∧ Bs 0 w' t v' (stL t p L L.length) ∧ Below w.heap.size w w' := by
  obtain ⟨la, cap, rfl, hcap, hmax, hga⟩ := hL.form
  unfold maxLen at hmax
  obtain ⟨n, hnl⟩ : ∃ n, L.length = n := ⟨_, rfl⟩
  rw [hnl] at hL hcap hn hM ⊢
  have HLN := hide hnl
  have HLL := hide hL
  have HGA := hide hga
  have HM := hide hM
  clear hL hga hnl hM
  go_enter Try.func43, Try.ntmps43
  go_wp2_with fail
  go_loopw [5, 6, 7, 8, 9] (fun o u _ _ _ wr => ∃ (i : Nat), u = .int .i64 i ∧ i ≤ n ∧ (∃ oa oc, o = .slice oa (stL t p L i).length oc ∧ Hid (Bs 0 wr t (.slice oa (stL t p L i).length oc) (stL t p L i))) ∧ Hid (Below w.heap.size w wr)) (fun _ u _ _ _ _ => n - (intOf u).toNat)
  case atStart =>
    refine ⟨0, rfl, by omega, ⟨none, 0, ?_, ?_⟩, hide (Below.refl _ _)⟩
    · rw [stL]; rfl
    · rw [stL]; exact Bs.nil _ _ _
  case round =>
    obtain ⟨i, rfl, hi, ⟨oa, oc, rfl, hO⟩, hB⟩ := hrel
    by_cases hlt : i < n
    · have hlt' : (i : Int) < (n : Int) := by omega
      have hne : L ≠ [] := by
        intro e
        have := HLN.out
        rw [e] at this
        simp at this
        omega
      obtain ⟨ga, hla⟩ := HGA.out hne
      subst hla
      have HMx := hide (HM.out i hlt)
      have HSL : Hid (stL t p L (i + 1) = stX t p (stL t p L i) (L.getD i b0) 25) := hide (by rw [stL])
      have hlS := stL_len t p L i
      have HAT : Hid (∀ W, Below w.heap.size w W → ∃ g c, W.rangeAt ga (i * 4) (bv g c (L.getD i b0) t) ∧ Rd W (some ⟨g, 0, none⟩) 26 c (L.getD i b0).P) := hide (fun W hW => by rw [Nat.mul_comm]; exact (HLL.out.below hW).at (by rw [HLN.out]; exact hlt))
      obtain ⟨x, hx⟩ : ∃ x, L.getD i b0 = x := ⟨_, rfl⟩
      rw [hx] at HMx HSL HAT
      have HX0 : Hid (stX t p (stL t p L i) x 0 = stL t p L i) := hide (by rw [stX])
      have HXS : Hid (∀ f, stX t p (stL t p L i) x (f + 1) = stF t p (stX t p (stL t p L i) x f) x f) := hide (fun f => by rw [stX])
      have HXL := hide (fun f => stX_len t p (stL t p L i) x f)
      obtain ⟨S, hS⟩ : ∃ S, stL t p L i = S := ⟨_, rfl⟩
      rw [hS] at HX0 HXS HXL HSL hlS hO ⊢
      clear hx hS hne
      go_wp2_with fail
      go_loopw [5, 7, 8, 9] (fun o u _ _ W => ∃ (f : Nat), u = .int .i64 f ∧ f ≤ 25 ∧ (∃ oa oc, o = .slice oa (stX t p S x f).length oc ∧ Hid (Bs 0 W t (.slice oa (stX t p S x f).length oc) (stX t p S x f))) ∧ Hid (Below w.heap.size w W)) (fun _ u _ _ _ => 25 - (intOf u).toNat)
      case atStart =>
        refine ⟨0, rfl, by omega, ⟨oa, oc, ?_, ?_⟩, hB⟩
        · rw [HX0.out]
        · rw [HX0.out]; exact hO
      case round =>
        clear hO hB
        obtain ⟨f, rfl, hf, ⟨oa2, oc2, rfl, hO⟩, hB⟩ := hrel
        by_cases hf25 : f < 25
        · have hf' : (f : Int) < 25 := by omega
          obtain ⟨g, c, hrg, hRx⟩ := HAT.out _ hB.out
          have HST := hide (StepOf_any (some ⟨g, 0, none⟩) c x.P x.W x.B t f p ht (by omega) hp _ hRx HMx.out)
          have HN := hide (HXS.out f)
          have hxl := HXL.out f
          have hcap0 : i ≤ cap := by omega
          go_wp2_with (refine wpList_load_bo rfl (.tmp 23) rfl ga (i * 4) rfl hrg ?_)
          refine HST.out.mono ?_
          rintro e w3 ⟨g3, c3, Q3, W3, B3, ok, rfl, hR3, hs3, -, hb3⟩
          have HB3 := hide (hB.out.trans (hb3.mono hB.out.size))
          have HO3 := hide (hO.out.below hb3)
          have HR3 := hide hR3
          have HS3 := hide hs3
          clear hR3 hs3 hb3 hO hB hrg hRx HST
          have K4 := Gm.new w3 none 0 0 0 0 0
          go_upto_region 9 with (refine wpList_store_gm rfl (.tmp 8) (.tmp 28) rfl w3.heap.size rfl rfl K4 ?_; intro w5 k5 kk5)
          clear K4
          have hb5 : Below w3.heap.size w3 w5 := ((Below.refl _ w3).alloc (Nat.le_refl _) (.cells (gmA none 0 0 0 0 0) 24)).trans ((kk5.mono (Y := fun q => w3.heap.size ≤ q) (fun q _ e => by omega)).below (by simp) (fun q hq e => by omega))
          have HB5 := hide (HB3.out.trans (hb5.mono HB3.out.size))
          have HO5 := hide (HO3.out.below hb5)
          have HR5 := hide (HR3.out.mono hb5)
          have HK5 := hide k5
          clear k5 kk5 hb5 HB3 HO3 HR3
          cases ok with
          | false =>
            have HNN : Hid (stX t p S x (f + 1) = stX t p S x f) := hide (by rw [HN.out]; exact stF_none (by have := HS3.out; simpa using this))
            go_wp2_with fail
            refine ⟨⟨f + 1, by go_num, by omega, ⟨oa2, oc2, ?_, ?_⟩, HB5⟩, by simp [intOf]; omega⟩
            · rw [HNN.out]
            · rw [HNN.out]; exact HO5
          | true =>
            have HNN : Hid (stX t p S x (f + 1) = putL (stX t p S x f) ⟨Q3, W3, B3⟩) := hide (by rw [HN.out]; exact stF_some (by have := HS3.out; simpa using this))
            have HPT := hide (put_any (.slice oa2 (stX t p S x f).length oc2) (stX t p S x f) g3 c3 ⟨Q3, W3, B3⟩ t w5 HO5.out (by omega) HR5.out)
            have K5 := HK5.out
            go_wp2_with (refine wpList_load_gm rfl (.tmp 8) rfl w3.heap.size rfl K5 ?_)
            clear K5
            refine HPT.out.mono ?_
            rintro e w6 ⟨v6, rfl, hB6, hb6⟩
            obtain ⟨a6, c6, rfl, -, -, -⟩ := hB6.form
            have HB6 := hide (HB5.out.trans (hb6.mono HB5.out.size))
            have HO6 := hide hB6
            clear hB6 hb6 HB5 HO5 HPT HK5 HR5
            go_wp2_with fail
            refine ⟨⟨f + 1, by go_num, by omega, ⟨a6, c6, ?_, ?_⟩, HB6⟩, by simp [intOf]; omega⟩
            · rw [HNN.out]
            · rw [HNN.out]; exact HO6
        · have hf' : ¬ (f : Int) < 25 := by omega
          obtain rfl : f = 25 := by omega
          go_wp2_with fail
          refine ⟨⟨i + 1, by go_num, by omega, ⟨oa2, oc2, ?_, ?_⟩, hB⟩, by simp [intOf]; omega⟩
          · rw [HSL.out]
          · rw [HSL.out]; exact hO
    · have hlt' : ¬ (i : Int) < (n : Int) := by omega
      have hie : i = n := by omega
      subst hie
      go_wp2_with fail
      go_ret
      exact ⟨_, rfl, hO.out, hB.out⟩

end Go.Proofs.Ytmboikpcbkiepaa
