/-
  The picture of a board. No conditions beyond those that each theorem bears.
-/
import Derived.Test.YtafiaimlmdflnaaKy
import Derived.Laws.CopyOwn
namespace Go.Proofs.Ytafiaimlmdflnaa
open Go.RowKit Go.Shelf

/-- The picture of a board's signs. -/
def pad (Z : List Int) : List Int := Z ++ List.replicate (100 - Z.length) 0

theorem pad_pic {Z : List Int} (hl : Z.length ≤ 100) (hz : ∀ z ∈ Z, 0 ≤ z ∧ z ≤ 2) : Pic (pad Z) := by
  refine ⟨by simp [pad]; omega, fun z h => ?_⟩
  rcases List.mem_append.1 h with h | h
  · exact hz z h
  · rw [List.eq_of_mem_replicate h]; omega

theorem pad_pic_len {Z : List Int} (hl : Z.length ≤ 100) : (pad Z).length = 100 := by simp [pad]; omega

theorem pad_inj {Z Y : List Int} (h : Z.length = Y.length) (e : pad Z = pad Y) : Z = Y := (List.append_inj e h).1

/-- A picture lies in a block. -/
def Pb (w : World) (b : Nat) (S : List Int) : Prop := w.heap[b]? = some (.cells (ivz S).toArray 86 (0, 0))

theorem Pb.lt {w : World} {b : Nat} {S : List Int} (h : Pb w b S) : b < w.heap.size := (Array.getElem?_eq_some_iff.1 h).1
theorem Pb.keeps {X : Nat → Prop} {w w' : World} {b : Nat} {S : List Int} (h : Pb w b S) (hk : Keeps X w w') (hb : ¬ X b) : Pb w' b S := (hk.block b h.lt hb).trans h
theorem Pb.below {w w' : World} {b C : Nat} {S : List Int} (h : Pb w b S) (hk : Below C w w') (hb : b < C) : Pb w' b S := (hk.block b hb).trans h
theorem Pb.old {w : World} {b : Nat} {S : List Int} (h : Pb w b S) (o : Obj) : Pb (w.alloc o) b S := (Below.heap_alloc w o b h.lt).trans h
theorem Pb.new (w : World) (S : List Int) (xs : Array Value) (h : xs = (ivz S).toArray) : Pb (w.alloc (.cells xs 86)) w.heap.size S := by
  subst h
  exact heap_alloc_new w _

theorem size86 : (Try.prog.info? 86).map (·.size) = some 100 := by kernel_rfl
theorem size86' {S : List Int} (h : S.length = 100) : (Try.prog.info? 86).map (·.size) = some (ivz S).toArray.size := by
  rw [size86]; simp [h]
theorem size3 : (Try.prog.info? 3).map (·.size) = some 1 := by kernel_rfl

theorem wpList_load_pb {ops : Array Oper} {rest : List Oper} {op : Oper} {a : Act} {w : World} {Q : Exit → Act → World → Prop} (hw : Region.wanted op (yielded ops a.tmps) = true) (x : Operand) (ho : op.op = .load 86 x)
    (b : Nat) (hx : a.eval x = .pointer (some ⟨b, 0, none⟩)) {S : List Int} (hl : S.length = 100) (hc : Pb w b S)
    (h : wpList Try.prog ops Q rest (a.put op.dst (sv S)) w) : wpList Try.prog ops Q (op :: rest) a w :=
  wpList_wanted hw fun _ hK => wp_load_row 86 x ho b hx 86 _ (0, 0) _ hc Try.underlying86 rfl (size86' hl) (hK _ _ h)

theorem wpList_store_pb {ops : Array Oper} {rest : List Oper} {o : Oper} {a : Act} {w : World} {Q : Exit → Act → World → Prop} (hgd : o.guard = none) (x y : Operand) (ho : o.op = .store 86 x y)
    (b : Nat) {S S' : List Int} (hl : S.length = 100) (hx : a.eval x = .pointer (some ⟨b, 0, none⟩)) (hy : a.eval y = sv S) (hl' : S'.length = 100) (hb : Pb w b S')
    (h : ∀ w', Pb w' b S → Keeps (fun k => k = b) w w' → wpList Try.prog ops Q rest (a.put o.dst undef) w') : wpList Try.prog ops Q (o :: rest) a w := by
  refine wpList_plain hgd fun _ hK => ?_
  have hb' : w.heap[b]? = _ := hb
  refine wp_store_row 86 x y ho b (ivz S).toArray hx hy 86 _ hb' (size86' hl) (by simp [hl, hl']) (by simp [Value.oneCell']) ?_
  refine hK _ _ (h _ ?_ ?_)
  · simp [Pb, World.setRow, Array.getElem?_modify, hb']
  · exact ⟨rfl, rfl, rfl, by simp [World.setRow], fun k _ hk => by simp [World.setRow, Array.getElem?_modify, show ¬ b = k from fun e => hk e.symm]⟩

theorem results_pb {fn : Func} {t : Tmp} (h : fn.results = #[.cell t 86]) (tmps : Array Value) (w : World) (b : Nat) (hb : tmps.getD t undef = .pointer (some ⟨b, 0, none⟩)) {S : List Int} (hl : S.length = 100) (hr : Pb w b S) :
    (results fn tmps).run Try.prog w = .ok (sv S) w :=
  results_cell_row h tmps w b 86 _ (0, 0) _ hb hr Try.underlying86 rfl (size86' hl)

def zrs : List Int := List.replicate 100 0

set_option maxRecDepth 100000 in
theorem zrs_new (w : World) : Pb (w.alloc (.cells Try.zeroCells86 86)) w.heap.size zrs := Pb.new w zrs _ (by kernel_rfl)

theorem wp_copy_own {o : Oper} {a : Act} {w : World} {K : Act → World → Prop} {Q : Exit → Act → World → Prop} (d s : Operand) (dT sT : TypeId)
    (ho : o.op = .call { callee := .builtin .copy, args := #[d, s], argTypes := #[dT, sT] }) (elem : TypeId) (hu : Try.prog.underlying dT = some (.slice elem)) (hsz : (Try.prog.info? elem).map (·.size) = some 1)
    (g off dLen dCap : Nat) (ad : Addr) (sLen sCap : Nat) (hd : a.eval d = .slice (some ⟨g, off, none⟩) dLen dCap) (hs : a.eval s = .slice (some ad) sLen sCap)
    (cur : Array Value) (t : TypeId) (hg : w.heap[g]? = some (.cells cur t (0, 0))) (cs : List Value) (hn : cs.length = Nat.min sLen dLen)
    (hsrc : ∀ j v, cs[j]? = some v → w.cell? (ad.add j) = some v) (hfit : off + cs.length ≤ cur.size) (h1 : ∀ v ∈ cs, v.oneCell' = true)
    (h : K (a.put o.dst (goInt cs.length)) (w.setRow g (cur.toList.take off ++ (cs ++ cur.toList.drop (off + cs.length))).toArray)) : o.wp Try.prog a w K Q := by
  have hrun := run_copy_row (P := Try.prog) w dT sT o.type elem g off dLen dCap ad sLen sCap cur t cs hu hsz hg hn hsrc hfit h1
  unfold Oper.wp
  simp [execOp, ho, resolve, invoke, builtin, hd, hs, hrun, Result.andThen]
  exact h

theorem setRow_keeps (w : World) (g : Nat) (cs : Array Value) : Keeps (fun k => k = g) w (w.setRow g cs) :=
  ⟨rfl, rfl, rfl, by simp [World.setRow], fun k _ hk => by simp [World.setRow, Array.getElem?_modify, show ¬ g = k from fun e => hk e.symm]⟩

theorem Pb.row {w : World} {b : Nat} {S S' : List Int} (h : Pb w b S) (xs : Array Value) (e : xs = (ivz S').toArray) : Pb (w.setRow b xs) b S' := by
  have hb' : w.heap[b]? = _ := h
  subst e
  simp [Pb, World.setRow, Array.getElem?_modify, hb']

theorem zrs_size : (ivz zrs).toArray.size = 100 := by kernel_rfl

theorem pad_row (Z : List Int) : ((ivz zrs).toArray.toList.take 0 ++ (ivz Z ++ (ivz zrs).toArray.toList.drop (0 + (ivz Z).length))).toArray = (ivz (pad Z)).toArray := by
  have hz : ivz zrs = List.replicate 100 (Value.int .i64 0) := List.map_replicate
  rw [hz]
  simp [pad, -List.reduceReplicate, List.drop_replicate]

set_option maxRecDepth 100000 in
set_option maxHeartbeats 8000000 in
theorem picture_any (W H N bc cb co : Nat) (Z : List Int) (w : World) (hN : 0 < N) (hN100 : N ≤ 100) (hR : Rd w (some ⟨cb, co, none⟩) N bc Z) :
    Calls Try.prog 59 #[.agg (gdA W H (some ⟨cb, co, none⟩) N bc)] w fun e w' => e = .returned (sv (pad Z)) ∧ Below w.heap.size w w' := by
  obtain ⟨w1, hw1⟩ : ∃ w1, ((w.alloc (.cells (gdA W H (some ⟨cb, co, none⟩) N bc) 54)).alloc (.cells Try.zeroCells86 86)).alloc (.cells Try.zeroCells86 86) = w1 := ⟨_, rfl⟩
  have B1 : Below w.heap.size w w1 := by rw [← hw1]; exact (((Below.refl _ w).alloc (Nat.le_refl _) _).alloc (by simp) _).alloc (by simp; omega) _
  have K1 : Hb w1 w.heap.size W H (some ⟨cb, co, none⟩) N bc := by rw [← hw1]; exact ((Hb.new w W H _ N bc).old _).old _
  have K2 : Pb w1 (w.heap.size + 1) zrs := by
    rw [← hw1]
    have := (zrs_new (w.alloc (.cells (gdA W H (some ⟨cb, co, none⟩) N bc) 54))).old (.cells Try.zeroCells86 86)
    rwa [World.size_alloc] at this
  have K3 : Pb w1 (w.heap.size + 2) zrs := by
    rw [← hw1]
    have := zrs_new ((w.alloc (.cells (gdA W H (some ⟨cb, co, none⟩) N bc) 54)).alloc (.cells Try.zeroCells86 86))
    rwa [World.size_alloc, World.size_alloc] at this
  have R1 := hR.mono B1
  obtain ⟨-, -, g2⟩ := K1.cells
  have hZl := R1.len
  have HR1 := hide R1
  have HK2 := hide K2
  have HK3 := hide K3
  have HB1 := hide B1
  have HS1 : Hid (w.heap.size + 2 < w1.heap.size) := hide K3.lt
  clear hR R1 B1 K2 K3
  go_enter Try.func59, Try.ntmps59
  go_upto_region 2 with fail
  clear hw1
  go_simp
  refine wp_region_held (S := fun W4 => Keeps (fun k => k = w.heap.size + 2) w1 W4) (by kernel_rfl) ?_
  change wpAnyH _ _ _ _ _ _ _ _ (World.drew _)
  have SW : Keeps (fun k => k = w.heap.size + 2) w1 w1.drew := (Keeps.refl _ w1).drew
  refine wpAnyH_take (i := 0) (v := .slice (some ⟨w.heap.size + 2, 0, none⟩) 100 100) rfl (by kernel_rfl) (by kernel_rfl) (by kernel_rfl) (fun _ _ _ h => h) (Or.inl ⟨by rfl, ?_⟩) SW ?_
  · intro W4 hW4
    go_simp <;> first | done | rfl
  go_simp
  refine wpAnyH_take (i := 1) (v := .pointer (some ⟨w.heap.size, 0, none⟩)) rfl (by kernel_rfl) (by kernel_rfl) (by kernel_rfl) (fun _ _ _ h => h) (Or.inl ⟨by rfl, ?_⟩) SW ?_
  · intro W4 hW4
    go_simp <;> first | done | rfl
  go_simp
  refine wpAnyH_take (i := 2) (v := .pointer (some ⟨w.heap.size, 2, none⟩)) rfl (by kernel_rfl) (by kernel_rfl) (by kernel_rfl) (fun _ _ _ h => h) (Or.inl ⟨by rfl, ?_⟩) SW ?_
  · intro W4 hW4
    go_simp <;> first | done | rfl
  go_simp
  refine wpAnyH_take (i := 3) (v := .slice (some ⟨cb, co, none⟩) N bc) rfl (by kernel_rfl) (by kernel_rfl) (by kernel_rfl) (fun _ _ _ h => h) (Or.inl ⟨by rfl, ?_⟩) SW ?_
  · intro W4 hW4
    have hcell := (K1.keeps hW4 (by omega)).cells.2.2
    go_simp <;> first | done | rfl
  go_simp
  refine wpAnyH_ready (rs := [4]) (by kernel_rfl) (by simp) ?_
  refine AllReadyH.cons rfl (fun K9 hK9 => ?_) AllReadyH.nil
  have K3 : Pb w1.drew (w.heap.size + 2) zrs := HK3.out
  have R3 := HR1.out
  refine wp_copy_own (.tmp 4) (.tmp 7) 22 22 rfl 3 Try.underlying22 size3 (w.heap.size + 2) 0 100 100 ⟨cb, co, none⟩ N bc rfl rfl _ 86 K3 (ivz Z) (by rw [List.length_map, hZl]; exact (Nat.min_eq_left hN100).symm) ?_ (by rw [zrs_size, List.length_map]; omega) (by simp [Value.oneCell']) ?_
  · intro j v hv
    rw [List.getElem?_map] at hv
    obtain ⟨z, hz, rfl⟩ := Option.map_eq_some_iff.1 hv
    obtain ⟨hj, rfl⟩ := List.getElem?_eq_some_iff.1 hz
    have := (R3.cell (i := j) (by omega)).2
    have e : Z.getD j 0 = Z[j] := by simp [List.getD, hj]
    rw [e] at this
    change w1.cell? (Addr.add ⟨cb, co, none⟩ j) = _
    have ea : Addr.add ⟨cb, co, none⟩ j = ⟨cb, co + j, none⟩ := by cases j <;> simp [Addr.add]
    rw [ea]
    exact this
  have K4 := K3.row _ (pad_row Z)
  have KK := setRow_keeps w1.drew (w.heap.size + 2) ((ivz zrs).toArray.toList.take 0 ++ (ivz Z ++ (ivz zrs).toArray.toList.drop (0 + (ivz Z).length))).toArray
  refine hK9.out _ _ (SW.after KK (fun i _ e => e)) (fun SW => ?_)
  clear hK9 K9
  generalize w1.drew.setRow (w.heap.size + 2) ((ivz zrs).toArray.toList.take 0 ++ (ivz Z ++ (ivz zrs).toArray.toList.drop (0 + (ivz Z).length))).toArray = w4 at *
  have K2 := HK2.out.keeps SW (by omega)
  have HB4 : Hid (Below w.heap.size w w4) := hide (HB1.out.trans (SW.below HB1.out.size (fun k hk e => by omega)))
  refine wpAnyH_done (by kernel_rfl) ?_ _
  clear K3 R3 KK HR1 HK2 HK3
  go_wp2_with (first
    | (refine wpList_load_pb rfl (.tmp 3) rfl (w.heap.size + 2) rfl (pad_pic_len (Z := Z) (by omega)) K4 ?_)
    | (refine wpList_store_pb rfl (.tmp 2) (.tmp 9) rfl (w.heap.size + 1) (pad_pic_len (Z := Z) (by omega)) rfl rfl (by rfl) K2 ?_; intro w6 k6 kk6))
  refine bodyPost_ret (results_pb rfl _ _ (w.heap.size + 1) rfl (pad_pic_len (Z := Z) (by omega)) k6) rfl ⟨rfl, ?_⟩
  exact HB4.out.trans (kk6.below HB4.out.size (fun k hk e => by omega))

end Go.Proofs.Ytafiaimlmdflnaa
