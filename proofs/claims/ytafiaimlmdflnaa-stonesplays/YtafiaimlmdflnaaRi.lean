/-
  Operations inside a range over a function, or about one: loads of boards; calls. No conditions beyond those that each theorem bears.
-/
import Derived.Test.YtafiaimlmdflnaaBs
namespace Go.Proofs.Ytafiaimlmdflnaa
open Go.RowKit Go.Shelf

theorem oper_wide {n : Nat} {P : Program} {o : Oper} {a : Act} {w : World} {K : Act → World → Prop} {Q : Exit → Act → World → Prop} (hd : ∀ c, o.op ≠ .defer c) (h : o.wp P a w K Q) : o.wpIn Fence.wide n P a w K Q := by
  refine ⟨fun _ _ => trivial, ?_⟩
  rw [Oper.semAt_eq _ _ _ hd]
  unfold Oper.wp at h
  generalize (execOp a.eval o).run P w = r at *
  cases r with
  | ok x w' =>
    cases x <;> simp only [Oper.upon, Oper.uponIn] at h ⊢
    case value u => exact h
    case skip => exact h
    case defer d => exact h
    case enter f args => exact ⟨(fun e => by cases e), callsIn_wide.2 h⟩
    case row row args => exact ⟨(fun e => by cases e), rowsIn_round (l := 0) h⟩
  | halt x w' =>
    cases x <;> simp only [Oper.upon, Oper.uponIn] at h ⊢
    case panic u => exact h

theorem wpListIn_wanted {F : Fence} {n : Nat} {P : Program} {ops : Array Oper} {rest : List Oper} {o : Oper} {a : Act} {w : World} {Q : Exit → Act → World → Prop} (hw : Region.wanted o (yielded ops a.tmps) = true)
    (h : ∀ K : Act → World → Prop, (∀ a' w', wpListIn F n P ops Q rest a' w' → K a' w') → o.wpIn F n P a w K Q) : wpListIn F n P ops Q (o :: rest) a w :=
  wpListIn_step fun K hK => by simp only [hw, if_true]; exact h K hK

/-- A row of cells loaded, about a range. -/
theorem wideIn_load_row {n : Nat} {ops : Array Oper} {rest : List Oper} {op : Oper} {a : Act} {w : World} {Q : Exit → Act → World → Prop} (hw : Region.wanted op (yielded ops a.tmps) = true) (h : ∀ K : Act → World → Prop, (∀ a' w', wpListIn Fence.wide n Try.prog ops Q rest a' w' → K a' w') → op.wp Try.prog a w K Q) (hd : ∀ c, op.op ≠ .defer c) : wpListIn Fence.wide n Try.prog ops Q (op :: rest) a w :=
  wpListIn_wanted hw fun K hK => oper_wide hd (h K hK)

/-- A row of cells loaded, in a round. -/
theorem roundIn_load_row {l n : Nat} {ops : Array Oper} {rest : List Oper} {op : Oper} {a : Act} {w : World} {Q : Exit → Act → World → Prop} (hw : Region.wanted op (yielded ops a.tmps) = true) (h : ∀ K : Act → World → Prop, (∀ a' w', wpListIn (Fence.wide.inRound l) n Try.prog ops Q rest a' w' → K a' w') → op.wp Try.prog a w K Q) (hd : ∀ c, op.op ≠ .defer c) : wpListIn (Fence.wide.inRound l) n Try.prog ops Q (op :: rest) a w :=
  wpListIn_wanted hw fun K hK => oper_round hd (h K hK)

section
variable {l n : Nat} {ops : Array Oper} {rest : List Oper} {op : Oper} {a : Act} {w : World} {Q : Exit → Act → World → Prop} {b : Nat} {W H : Int} {ad : Option Addr} {m c : Nat}
theorem wideIn_load_gd (hw : Region.wanted op (yielded ops a.tmps) = true) (x : Operand) (ho : op.op = .load 24 x) (b : Nat) (hx : a.eval x = .pointer (some ⟨b, 0, none⟩)) (hc : Gd w b W H ad m c)
    (h : wpListIn Fence.wide n Try.prog ops Q rest (a.put op.dst (.agg (gdA W H ad m c))) w) : wpListIn Fence.wide n Try.prog ops Q (op :: rest) a w :=
  wideIn_load_row hw (fun _ hK => wp_load_row 24 x ho b hx 24 _ (0, 0) _ hc Try.underlying24 rfl size24 (hK _ _ h)) (fun c e => by rw [ho] at e; cases e)
theorem roundIn_load_gd (hw : Region.wanted op (yielded ops a.tmps) = true) (x : Operand) (ho : op.op = .load 24 x) (b : Nat) (hx : a.eval x = .pointer (some ⟨b, 0, none⟩)) (hc : Gd w b W H ad m c)
    (h : wpListIn (Fence.wide.inRound l) n Try.prog ops Q rest (a.put op.dst (.agg (gdA W H ad m c))) w) : wpListIn (Fence.wide.inRound l) n Try.prog ops Q (op :: rest) a w :=
  roundIn_load_row hw (fun _ hK => wp_load_row 24 x ho b hx 24 _ (0, 0) _ hc Try.underlying24 rfl size24 (hK _ _ h)) (fun c e => by rw [ho] at e; cases e)
theorem wideIn_load_hb (hw : Region.wanted op (yielded ops a.tmps) = true) (x : Operand) (ho : op.op = .load 54 x) (b : Nat) (hx : a.eval x = .pointer (some ⟨b, 0, none⟩)) (hc : Hb w b W H ad m c)
    (h : wpListIn Fence.wide n Try.prog ops Q rest (a.put op.dst (.agg (gdA W H ad m c))) w) : wpListIn Fence.wide n Try.prog ops Q (op :: rest) a w :=
  wideIn_load_row hw (fun _ hK => wp_load_row 54 x ho b hx 54 _ (0, 0) _ hc Try.underlying54 rfl size54 (hK _ _ h)) (fun c e => by rw [ho] at e; cases e)
theorem roundIn_load_hb (hw : Region.wanted op (yielded ops a.tmps) = true) (x : Operand) (ho : op.op = .load 54 x) (b : Nat) (hx : a.eval x = .pointer (some ⟨b, 0, none⟩)) (hc : Hb w b W H ad m c)
    (h : wpListIn (Fence.wide.inRound l) n Try.prog ops Q rest (a.put op.dst (.agg (gdA W H ad m c))) w) : wpListIn (Fence.wide.inRound l) n Try.prog ops Q (op :: rest) a w :=
  roundIn_load_row hw (fun _ hK => wp_load_row 54 x ho b hx 54 _ (0, 0) _ hc Try.underlying54 rfl size54 (hK _ _ h)) (fun c e => by rw [ho] at e; cases e)
end

end Go.Proofs.Ytafiaimlmdflnaa
