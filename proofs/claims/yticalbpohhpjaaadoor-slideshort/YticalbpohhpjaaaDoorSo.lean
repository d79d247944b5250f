/-
  A tray's stones as an array; lists of trays. No conditions beyond those that each theorem bears.
-/
import Derived.Test.YticalbpohhpjaaaDoorMz
import Derived.Laws.CopyOwn
namespace Go.Proofs.YticalbpohhpjaaaDoor
open Go.RowKit

theorem Keeps.afterC {X Y : Nat → Prop} {a b c : World} (h : Keeps X a b) (k : Keeps Y b c) (hs : ∀ i, i < a.heap.size → Y i → X i) : Keeps X a c :=
  ⟨k.os.trans h.os, k.tape.trans h.tape, k.output.trans h.output, Nat.le_trans h.size k.size, fun i hi hx => (k.block i (Nat.lt_of_lt_of_le hi h.size) (fun y => hx (hs i hi y))).trans (h.block i hi hx)⟩

/-- The array of a tray's stones. -/
def pad6 (Z : List Int) : List Int := Z ++ List.replicate (6 - Z.length) 0

theorem pad6_len {Z : List Int} (hl : Z.length ≤ 6) : (pad6 Z).length = 6 := by simp [pad6]; omega

theorem pad6_kz {Z : List Int} (hl : Z.length ≤ 6) (hz : ∀ z ∈ Z, 0 ≤ z ∧ z ≤ 25) : Kz (pad6 Z) := by
  refine ⟨pad6_len hl, fun z h => ?_⟩
  rcases List.mem_append.1 h with h | h
  · exact hz z h
  · rw [List.eq_of_mem_replicate h]; omega

theorem pad6_inj {Z Y : List Int} (h : Z.length = Y.length) (e : pad6 Z = pad6 Y) : Z = Y := (List.append_inj e h).1

/-- A picture lies in a block. -/
def Pb (w : World) (b : Nat) (S : List Int) : Prop := w.heap[b]? = some (.cells (ivs S).toArray 71 (0, 0))

theorem Pb.lt {w : World} {b : Nat} {S : List Int} (h : Pb w b S) : b < w.heap.size := (Array.getElem?_eq_some_iff.1 h).1
theorem Pb.keeps {X : Nat → Prop} {w w' : World} {b : Nat} {S : List Int} (h : Pb w b S) (hk : Keeps X w w') (hb : ¬ X b) : Pb w' b S := (hk.block b h.lt hb).trans h
theorem Pb.below {w w' : World} {b C : Nat} {S : List Int} (h : Pb w b S) (hk : Below C w w') (hb : b < C) : Pb w' b S := (hk.block b hb).trans h
theorem Pb.old {w : World} {b : Nat} {S : List Int} (h : Pb w b S) (o : Obj) : Pb (w.alloc o) b S := (Below.heap_alloc w o b h.lt).trans h
theorem Pb.new (w : World) (S : List Int) (xs : Array Value) (h : xs = (ivs S).toArray) : Pb (w.alloc (.cells xs 71)) w.heap.size S := by
  subst h
  exact heap_alloc_new w _

theorem size71 : (Tryd.prog.info? 71).map (·.size) = some 6 := by kernel_rfl
theorem size71' {S : List Int} (h : S.length = 6) : (Tryd.prog.info? 71).map (·.size) = some (ivs S).toArray.size := by
  rw [size71]; simp [h, ivs_length]
theorem size3 : (Tryd.prog.info? 3).map (·.size) = some 1 := by kernel_rfl

theorem wpList_load_pb {ops : Array Oper} {rest : List Oper} {op : Oper} {a : Act} {w : World} {Q : Exit → Act → World → Prop} (hw : Region.wanted op (yielded ops a.tmps) = true) (x : Operand) (ho : op.op = .load 71 x)
    (b : Nat) (hx : a.eval x = .pointer (some ⟨b, 0, none⟩)) {S : List Int} (hl : S.length = 6) (hc : Pb w b S)
    (h : wpList Tryd.prog ops Q rest (a.put op.dst (.agg (ivs S).toArray)) w) : wpList Tryd.prog ops Q (op :: rest) a w :=
  wpList_wanted hw fun _ hK => wp_load_row 71 x ho b hx 71 _ (0, 0) _ hc Tryd.underlying71 rfl (size71' hl) (hK _ _ h)

theorem wpList_store_pb {ops : Array Oper} {rest : List Oper} {o : Oper} {a : Act} {w : World} {Q : Exit → Act → World → Prop} (hgd : o.guard = none) (x y : Operand) (ho : o.op = .store 71 x y)
    (b : Nat) {S S' : List Int} (hl : S.length = 6) (hx : a.eval x = .pointer (some ⟨b, 0, none⟩)) (hy : a.eval y = .agg (ivs S).toArray) (hl' : S'.length = 6) (hb : Pb w b S')
    (h : ∀ w', Pb w' b S → Keeps (fun k => k = b) w w' → wpList Tryd.prog ops Q rest (a.put o.dst undef) w') : wpList Tryd.prog ops Q (o :: rest) a w := by
  refine wpList_plain hgd fun _ hK => ?_
  have hb' : w.heap[b]? = _ := hb
  refine wp_store_row 71 x y ho b (ivs S).toArray hx hy 71 _ hb' (size71' hl) (by simp [hl, hl', ivs_length]) (ivs_one S) ?_
  refine hK _ _ (h _ ?_ ?_)
  · simp [Pb, World.setRow, Array.getElem?_modify, hb']
  · exact ⟨rfl, rfl, rfl, by simp [World.setRow], fun k _ hk => by simp [World.setRow, Array.getElem?_modify, show ¬ b = k from fun e => hk e.symm]⟩

theorem results_pb {fn : Func} {t : Tmp} (h : fn.results = #[.cell t 71]) (tmps : Array Value) (w : World) (b : Nat) (hb : tmps.getD t undef = .pointer (some ⟨b, 0, none⟩)) {S : List Int} (hl : S.length = 6) (hr : Pb w b S) :
    (results fn tmps).run Tryd.prog w = .ok (.agg (ivs S).toArray) w :=
  results_cell_row h tmps w b 71 _ (0, 0) _ hb hr Tryd.underlying71 rfl (size71' hl)

def zrs : List Int := List.replicate 6 0

theorem wp_copy_own {o : Oper} {a : Act} {w : World} {K : Act → World → Prop} {Q : Exit → Act → World → Prop} (d s : Operand) (dT sT : TypeId)
    (ho : o.op = .call { callee := .builtin .copy, args := #[d, s], argTypes := #[dT, sT] }) (elem : TypeId) (hu : Tryd.prog.underlying dT = some (.slice elem)) (hsz : (Tryd.prog.info? elem).map (·.size) = some 1)
    (g off dLen dCap : Nat) (ad : Addr) (sLen sCap : Nat) (hd : a.eval d = .slice (some ⟨g, off, none⟩) dLen dCap) (hs : a.eval s = .slice (some ad) sLen sCap)
    (cur : Array Value) (t : TypeId) (hg : w.heap[g]? = some (.cells cur t (0, 0))) (cs : List Value) (hn : cs.length = Nat.min sLen dLen)
    (hsrc : ∀ j v, cs[j]? = some v → w.cell? (ad.add j) = some v) (hfit : off + cs.length ≤ cur.size) (h1 : ∀ v ∈ cs, v.oneCell' = true)
    (h : K (a.put o.dst (goInt cs.length)) (w.setRow g (cur.toList.take off ++ (cs ++ cur.toList.drop (off + cs.length))).toArray)) : o.wp Tryd.prog a w K Q := by
  have hrun := run_copy_row (P := Tryd.prog) w dT sT o.type elem g off dLen dCap ad sLen sCap cur t cs hu hsz hg hn hsrc hfit h1
  unfold Oper.wp
  simp [execOp, ho, resolve, invoke, builtin, hd, hs, hrun, Result.andThen]
  exact h

theorem setRow_keeps (w : World) (g : Nat) (cs : Array Value) : Keeps (fun k => k = g) w (w.setRow g cs) :=
  ⟨rfl, rfl, rfl, by simp [World.setRow], fun k _ hk => by simp [World.setRow, Array.getElem?_modify, show ¬ g = k from fun e => hk e.symm]⟩

theorem Pb.row {w : World} {b : Nat} {S S' : List Int} (h : Pb w b S) (xs : Array Value) (e : xs = (ivs S').toArray) : Pb (w.setRow b xs) b S' := by
  have hb' : w.heap[b]? = _ := h
  subst e
  simp [Pb, World.setRow, Array.getElem?_modify, hb']


theorem zrs_new (w : World) : Pb (w.alloc (.cells #[.int .i64 0, .int .i64 0, .int .i64 0, .int .i64 0, .int .i64 0, .int .i64 0] 71)) w.heap.size zrs := Pb.new w zrs _ rfl

theorem pad_row (Z : List Int) : ((ivs zrs).toArray.toList.take 0 ++ (ivs Z ++ (ivs zrs).toArray.toList.drop (0 + (ivs Z).length))).toArray = (ivs (pad6 Z)).toArray := by
  have hz : ivs zrs = List.replicate 6 (Value.int .i64 0) := List.map_replicate
  rw [hz]
  simp [pad6, ivs, -List.reduceReplicate, List.drop_replicate]

set_option maxHeartbeats 8000000 in
theorem stones_any (W H : Int) (n c cb off : Nat) (g : Int) (Z : List Int) (w : World) (hn : 0 < n ∧ n ≤ 6) (hR : Rd w (some ⟨cb, off, none⟩) n c Z) :
    Calls Tryd.prog 45 #[.agg (trA W H (some ⟨cb, off, none⟩) n c g)] w fun e w' => e = .returned (.agg (ivs (pad6 Z)).toArray) ∧ Below w.heap.size w w' := by
  have hZl := hR.len
  go_enter Tryd.func45, Tryd.ntmps45
  go_upto_region 2 with fail
  obtain ⟨w1, hw1⟩ : ∃ w1, ((w.alloc (.cells (trA W H (some ⟨cb, off, none⟩) n c g) 55)).alloc (.cells #[.int .i64 0, .int .i64 0, .int .i64 0, .int .i64 0, .int .i64 0, .int .i64 0] 71)).alloc (.cells #[.int .i64 0, .int .i64 0, .int .i64 0, .int .i64 0, .int .i64 0, .int .i64 0] 71) = w1 := ⟨_, rfl⟩
  rw [hw1]
  have B1 : Below w.heap.size w w1 := by rw [← hw1]; exact (((Below.refl _ w).alloc (Nat.le_refl _) _).alloc (by simp) _).alloc (by simp; omega) _
  have K1 : Ty w1 w.heap.size W H (some ⟨cb, off, none⟩) n c g := by rw [← hw1]; exact ((Ty.new w W H _ n c g).old _).old _
  have K2 : Pb w1 (w.heap.size + 1) zrs := by
    rw [← hw1]
    have := (zrs_new (w.alloc (.cells (trA W H (some ⟨cb, off, none⟩) n c g) 55))).old (.cells #[.int .i64 0, .int .i64 0, .int .i64 0, .int .i64 0, .int .i64 0, .int .i64 0] 71)
    rwa [World.size_alloc] at this
  have K3 : Pb w1 (w.heap.size + 2) zrs := by
    rw [← hw1]
    have := zrs_new ((w.alloc (.cells (trA W H (some ⟨cb, off, none⟩) n c g) 55)).alloc (.cells #[.int .i64 0, .int .i64 0, .int .i64 0, .int .i64 0, .int .i64 0, .int .i64 0] 71))
    rwa [World.size_alloc, World.size_alloc] at this
  have R1 := hR.mono B1
  have HR1 := hide R1
  have HK2 := hide K2
  have HK3 := hide K3
  have HB1 := hide B1
  clear hR R1 B1 K2 K3 hw1
  refine wp_region_held (S := fun W4 => Keeps (fun k => k = w.heap.size + 2) w1 W4) (by kernel_rfl) ?_
  change wpAnyH _ _ _ _ _ _ _ _ (World.drew _)
  have SW : Keeps (fun k => k = w.heap.size + 2) w1 w1.drew := (Keeps.refl _ w1).drew
  refine wpAnyH_take (i := 0) (v := .slice (some ⟨w.heap.size + 2, 0, none⟩) 6 6) rfl (by kernel_rfl) (by kernel_rfl) (by kernel_rfl) (fun _ _ _ h => h) (Or.inl ⟨by rfl, ?_⟩) SW ?_
  · intro W4 hW4
    go_simp <;> first | done | rfl | (rw [IntKind.wrap_i64]; omega) | omega
  go_simp
  refine wpAnyH_take (i := 1) (v := .pointer (some ⟨w.heap.size, 0, none⟩)) rfl (by kernel_rfl) (by kernel_rfl) (by kernel_rfl) (fun _ _ _ h => h) (Or.inl ⟨by rfl, ?_⟩) SW ?_
  · intro W4 hW4
    go_simp <;> first | done | rfl | (rw [IntKind.wrap_i64]; omega) | omega
  go_simp
  refine wpAnyH_take (i := 2) (v := .pointer (some ⟨w.heap.size, 2, none⟩)) rfl (by kernel_rfl) (by kernel_rfl) (by kernel_rfl) (fun _ _ _ h => h) (Or.inl ⟨by rfl, ?_⟩) SW ?_
  · intro W4 hW4
    go_simp <;> first | done | rfl | (rw [IntKind.wrap_i64]; omega) | omega
  go_simp
  refine wpAnyH_take (i := 3) (v := .slice (some ⟨cb, off, none⟩) n c) rfl (by kernel_rfl) (by kernel_rfl) (by kernel_rfl) (fun _ _ _ h => h) (Or.inl ⟨by rfl, ?_⟩) SW ?_
  · intro W4 hW4
    have hc := (K1.keeps hW4 (by omega)).cells.2.2.1
    go_simp <;> first | done | rfl | (rw [IntKind.wrap_i64]; omega) | omega
  go_simp
  refine wpAnyH_ready (rs := [4]) (by kernel_rfl) (by simp) ?_
  refine AllReadyH.cons rfl (fun K9 hK9 => ?_) AllReadyH.nil
  have K3 : Pb w1.drew (w.heap.size + 2) zrs := HK3.out
  have R3 := HR1.out
  refine wp_copy_own (.tmp 4) (.tmp 7) 22 22 rfl 3 Tryd.underlying22 size3 (w.heap.size + 2) 0 6 6 ⟨cb, off, none⟩ n c rfl rfl _ 71 K3 (ivs Z) (by rw [ivs_length, hZl]; exact (Nat.min_eq_left hn.2).symm) ?_ (by rw [show (ivs zrs).toArray.size = 6 from rfl, ivs_length]; omega) (by simp [ivs, Value.oneCell']) ?_
  · intro j v hv
    unfold ivs at hv
    rw [List.getElem?_map] at hv
    obtain ⟨z, hz, rfl⟩ := Option.map_eq_some_iff.1 hv
    obtain ⟨hj, rfl⟩ := List.getElem?_eq_some_iff.1 hz
    have := (R3.cell (i := j) (by omega)).2
    have e : Z.getD j 0 = Z[j] := by simp [List.getD, hj]
    rw [e] at this
    change w1.cell? (Addr.add ⟨cb, off, none⟩ j) = _
    have ea : Addr.add ⟨cb, off, none⟩ j = ⟨cb, off + j, none⟩ := by cases j <;> simp [Addr.add]
    rw [ea]
    exact this
  have K4 := K3.row _ (pad_row Z)
  have KK := setRow_keeps w1.drew (w.heap.size + 2) ((ivs zrs).toArray.toList.take 0 ++ (ivs Z ++ (ivs zrs).toArray.toList.drop (0 + (ivs Z).length))).toArray
  refine hK9.out _ _ (SW.afterC KK (fun i _ e => e)) (fun SW => ?_)
  clear hK9 K9
  generalize w1.drew.setRow (w.heap.size + 2) ((ivs zrs).toArray.toList.take 0 ++ (ivs Z ++ (ivs zrs).toArray.toList.drop (0 + (ivs Z).length))).toArray = w4 at *
  have K2 := HK2.out.keeps SW (by omega)
  have HB4 : Hid (Below w.heap.size w w4) := hide (HB1.out.trans ((SW.mono (Y := fun q => w.heap.size ≤ q) (fun q _ e => by omega)).below HB1.out.size (fun k hk e => by omega)))
  refine wpAnyH_done (by kernel_rfl) ?_ _
  clear K3 R3 KK HR1 HK2 HK3
  go_wp2_with (first
    | (refine wpList_load_pb rfl (.tmp 3) rfl (w.heap.size + 2) rfl (pad6_len (Z := Z) (by omega)) K4 ?_)
    | (refine wpList_store_pb rfl (.tmp 2) (.tmp 9) rfl (w.heap.size + 1) (pad6_len (Z := Z) (by omega)) rfl rfl (by rfl) K2 ?_; intro w6 k6 kk6))
  refine bodyPost_ret (results_pb rfl _ _ (w.heap.size + 1) rfl (pad6_len (Z := Z) (by omega)) k6) rfl ⟨rfl, ?_⟩
  exact HB4.out.trans ((kk6.mono (Y := fun q => w.heap.size ≤ q) (fun q _ e => by omega)).below HB4.out.size (fun k hk e => by omega))

end Go.Proofs.YticalbpohhpjaaaDoor
