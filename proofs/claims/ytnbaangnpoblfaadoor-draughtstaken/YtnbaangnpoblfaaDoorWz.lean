/-
  Draughts: the words of a way's text, one by one, handed to rounds that own memory. No conditions beyond those that each theorem bears.
-/
import Derived.Test.YtnbaangnpoblfaaDoorTy
import Derived.Test.YtnbaangnpoblfaaDoorEo
namespace Go.Proofs.YtnbaangnpoblfaaDoor
open Go.RowKit Go.Shelf

theorem txS_len (j : Bool) : ∀ {W : List Nat}, (∀ p ∈ W, p < 100) → (txS j W).length ≤ 3 * W.length
  | [], _ => by simp [txS]
  | [p], h => by
    have := dec_len (h p (by simp))
    rw [txS]
    simp
    omega
  | p :: q :: W, h => by
    have := dec_len (h p (by simp))
    have := txS_len j (W := q :: W) (fun x hx => h x (by simp at hx ⊢; exact Or.inr hx))
    rw [txS]
    simp at this ⊢
    omega
theorem txS_lt (j : Bool) (p q : Nat) (W : List Nat) : (txS j (q :: W)).length < (txS j (p :: q :: W)).length := by
  rw [show txS j (p :: q :: W) = Lib.decDigits p ++ sgB j :: txS j (q :: W) by rw [txS]]
  simp
  omega

def WdG (p : Nat) (args : Array Value) (_ : World) : Prop := args = #[.string ⟨(Lib.decDigits p).toArray⟩]
def WdR (tb sb : Nat) (j : Bool) (V : List Nat) (W : World) : Prop := W.cell? ⟨tb, 0, none⟩ = some (.string ⟨(txS j V).toArray⟩) ∧ W.cell? ⟨sb, 0, none⟩ = some (.string ⟨#[sgB j]⟩) ∧ ∃ m, W.cell? ⟨2, 0, none⟩ = some (.int .i64 m)
/-- How much is left. -/
def msr : Value → Value → Nat
  | .string s, .bool true => s.size + 1
  | _, _ => 0

theorem cut_call (j : Bool) (l : List UInt8) (hl : l.length ≤ 1000) (m : Int) (w : World) (hm : w.cell? ⟨2, 0, none⟩ = some (.int .i64 m)) (x y : List UInt8) (b : Bool) (h : Lib.cut l [sgB j] = (x, y, b)) :
    Calls Tryd.prog 78 #[.string ⟨l.toArray⟩, .string ⟨#[sgB j]⟩] w fun e w' => e = .returned (.tuple #[.string ⟨x.toArray⟩, .string ⟨y.toArray⟩, .bool b]) ∧ ∃ n, w' = w.drewN n := by
  have := Tryd.strings_Cut ⟨l.toArray⟩ ⟨#[sgB j]⟩ m w (by simp [ByteArray.size]; omega) hm
  rw [show Lib.cut (⟨l.toArray⟩ : ByteArray).data.toList (⟨#[sgB j]⟩ : ByteArray).data.toList = (x, y, b) by simpa using h] at this
  exact this

attribute [local irreducible] txS sgB
attribute [local go_sem] Oper.semAt_some wide_fn wide_fn0 wide_depth

set_option maxRecDepth 100000 in
set_option maxHeartbeats 4000000 in
theorem words1_o (j : Bool) (tb sb : Nat) (V : List Nat) (hne : V ≠ []) (hV : ∀ p ∈ V, p < 100) (h13 : V.length ≤ 13) :
    SeqO Tryd.prog 77 #[.pointer (some ⟨tb, 0, none⟩), .pointer (some ⟨sb, 0, none⟩)] WdG V (WdR tb sb j V) (fun k => k = tb ∨ k = sb ∨ k = 2) := by
  intro l J Jx N0 W O0 hR hN hC hY h0
  have HY := hide hY
  have HC := hide hC
  have HJ0 := hide h0
  have HN := hide hN
  obtain ⟨ct, cs, m, cm⟩ := hR
  have HO := hide (hC.lt O0 [] W h0)
  have HCS : Hid (∀ wr, Keeps O0 W wr → wr.cell? ⟨sb, 0, none⟩ = some (.string ⟨#[sgB j]⟩)) := hide (fun wr hk => hk.cell cs (fun h => (HO.out sb h).2 (Or.inr (Or.inl rfl))))
  have HCM : Hid (∀ wr, Keeps O0 W wr → wr.cell? ⟨2, 0, none⟩ = some (.int .i64 m)) := hide (fun wr hk => hk.cell cm (fun h => (HO.out 2 h).2 (Or.inr (Or.inr rfl))))
  have HNE := hide hne
  have HV := hide hV
  clear hY h0 hC hN cs cm hne hV
  refine callsIn_of_wp Tryd.func77 rfl trivial ?_ rfl
  simp only [Tryd.ntmps77, List.size_toArray, List.length_cons, List.length_nil, Nat.reduceAdd, Nat.reduceSub, Array.replicate_succ, Array.replicate_zero, List.push_toArray, List.append_toArray, List.nil_append, List.cons_append]
  refine wpIn_wide.2 ?_
  go_wp2_with fail
  clear ct
  go_loopw [4, 5] (fun u v wr => ∃ pre suf : List Nat, Hid (pre ++ suf = V) ∧ ((u = .string ⟨(txS j suf).toArray⟩ ∧ v = .bool true ∧ suf ≠ []) ∨ (u = .string ⟨#[]⟩ ∧ v = .bool false ∧ suf = [])) ∧ Hid (∃ O, J O pre wr ∧ (∀ k, k < W.heap.size → O k → O0 k)) ∧ Hid (Keeps O0 W wr)) (fun u v _ => msr u v)
  case atStart => exact ⟨[], V, hide rfl, Or.inl ⟨rfl, rfl, HNE.out⟩, hide ⟨O0, HJ0.out, fun _ _ h => h⟩, hide (Keeps.refl _ _)⟩
  case round =>
    obtain ⟨pre, suf, hps, hcase, hJr, hKr⟩ := hrel
    clear HJ0
    rcases hcase with ⟨rfl, rfl, hs⟩ | ⟨rfl, rfl, rfl⟩
    · obtain ⟨p, rest, rfl⟩ : ∃ p rest, suf = p :: rest := by
        cases suf with
        | nil => exact absurd rfl hs
        | cons p rest => exact ⟨p, rest, rfl⟩
      have hcs := HCS.out wr hKr.out
      have hcm := HCM.out wr hKr.out
      have hp100 : p < 100 := HV.out p (by rw [← hps.out]; simp)
      have hsl := txS_len j (W := p :: rest) (fun x hx => HV.out x (by rw [← hps.out]; exact List.mem_append_right _ hx))
      have hll : (p :: rest).length ≤ 13 := by have := congrArg List.length hps.out; simp at this ⊢; omega
      have HPP : Hid ((pre ++ [p]) <+: V) := hide ⟨rest, by rw [← hps.out]; simp⟩
      have HPS : Hid ((pre ++ [p]) ++ rest = V) := hide (by rw [← hps.out]; simp)
      obtain ⟨y, b, HCUT, HNXT⟩ : ∃ y b, Hid (Lib.cut (txS j (p :: rest)) [sgB j] = (Lib.decDigits p, y, b)) ∧ Hid (((y = txS j rest ∧ b = true ∧ rest ≠ []) ∨ (y = [] ∧ b = false ∧ rest = [])) ∧ msr (.string ⟨y.toArray⟩) (.bool b) < msr (.string ⟨(txS j (p :: rest)).toArray⟩) (.bool true)) := by
        cases rest with
        | nil => exact ⟨[], false, hide (cut_last j hp100), hide ⟨Or.inr ⟨rfl, rfl, rfl⟩, by simp [msr]⟩⟩
        | cons q R => exact ⟨txS j (q :: R), true, hide (cut_more j hp100), hide ⟨Or.inl ⟨rfl, rfl, by simp⟩, by have := txS_lt j p q R; simp [msr, ByteArray.size]; omega⟩⟩
      have HCC := hide (cut_call j (txS j (p :: rest)) (by omega) m wr hcm _ y b HCUT.out)
      clear hcm hsl hll hs
      refine (wpIn_wide (n := 1)).1 ?_
      gi_wp2
      refine (callsIn_wide.2 HCC.out).mono ?_
      rintro e wd ⟨rfl, nq, rfl⟩
      obtain ⟨O, hJO, hOm⟩ := hJr.out
      have HOM := hide hOm
      have hkd : Keeps O0 W (wr.drewN nq) := hKr.out.trans (Keeps.of_all (drewN_below _ _ _))
      have HKD := hide hkd
      have hJD := HC.out.keep O pre wr (wr.drewN nq) hJO (Keeps.of_all (drewN_below _ _ _))
      obtain ⟨fn, tmps, assign, body, hy, hRR⟩ := YieldAt.anyD (m' := 0) (HY.out O pre p #[.string ⟨(Lib.decDigits p).toArray⟩] (wr.drewN nq) hJD HPP.out rfl (Nat.le_trans HN.out hkd.size))
      clear hJO hOm hJr hJD hkd HCC hcs
      generalize wr.drewN nq = wd at *
      gi_wp2
      refine hRR.mono ?_
      rintro e W3 ⟨hk3, O', hO', h3⟩
      have HK3 : Hid (Keeps O0 W W3) := hide ⟨hk3.os.trans HKD.out.os, hk3.tape.trans HKD.out.tape, hk3.output.trans HKD.out.output, Nat.le_trans HKD.out.size hk3.size, fun i hi hx => (hk3.block i (Nat.lt_of_lt_of_le hi HKD.out.size) (fun h => hx (HOM.out i hi h))).trans (HKD.out.block i hi hx)⟩
      have HO3 : Hid (∀ k, k < W.heap.size → O' k → O0 k) := hide (fun k hk h => HOM.out k hk (hO' k (Nat.lt_of_lt_of_le hk HKD.out.size) h))
      clear hy hRR hKr hk3 hO' HOM
      rcases h3 with ⟨rfl, hJ3⟩ | ⟨rfl, hJ3⟩
      · have HJ3 := hide hJ3
        clear hJ3
        gi_wp2
        refine ⟨⟨pre ++ [p], rest, HPS, ?_, hide ⟨O', HJ3.out, HO3.out⟩, HK3⟩, HNXT.out.2⟩
        rcases HNXT.out.1 with ⟨rfl, rfl, h⟩ | ⟨rfl, rfl, h⟩
        · exact Or.inl ⟨rfl, rfl, h⟩
        · exact Or.inr ⟨rfl, rfl, h⟩
      · have HJ3 := hide hJ3
        clear hJ3
        gi_wp2
        refine bodyPost_ret (results_none rfl _ _ _) rfl ?_
        exact ⟨⟨_, rfl⟩, HK3.out, O', HO3.out, .inr HJ3.out⟩
    · have HE : Hid (∃ O, J O V wr ∧ (∀ k, k < W.heap.size → O k → O0 k)) := hide (by
        obtain ⟨O, h1, h2⟩ := hJr.out
        rw [List.append_nil] at hps
        rw [← hps.out]
        exact ⟨O, h1, h2⟩)
      clear hJr
      go_wp2_with fail
      refine bodyPost_end (results_none rfl _ _ _) rfl ?_
      obtain ⟨O, h1, h2⟩ := HE.out
      exact ⟨⟨_, rfl⟩, hKr.out, O, h2, .inl h1⟩

end Go.Proofs.YtnbaangnpoblfaaDoor
