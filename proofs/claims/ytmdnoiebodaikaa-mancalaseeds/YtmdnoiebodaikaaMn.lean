/-
  Boards as they come in, in memory. No conditions beyond those that each theorem bears.
-/
import Derived.Test.YtmdnoiebodaikaaSml
import Derived.Laws.CopyOwn
import Derived.Laws.CopyRow
import Derived.Deep.Cut
import Derived.Deep.CutRange
import Derived.Deep.DeepCutAuto
namespace Go.Proofs.Ytmdnoiebodaikaa
open Go.RowKit

theorem size3 : (Try.prog.info? 3).map (·.size) = some 1 := by kernel_rfl
theorem size24 : (Try.prog.info? 24).map (·.size) = some 2 := by kernel_rfl

theorem copy_ints (w : World) (g tt dLen dCap : Nat) (ad : Addr) (sLen sCap : Nat) (D C : List Int) (hg : Blk w g tt D) (hn : C.length = Nat.min sLen dLen)
    (hsrc : ∀ j, j < C.length → w.cell? (ad.add j) = some (.int .i64 (C.getD j 0))) (hfit : C.length ≤ D.length) :
    ∃ w', (∀ ty, (Builtin.copy_ #[22, 22] ty #[.slice (some ⟨g, 0, none⟩) dLen dCap, .slice (some ad) sLen sCap]).run Try.prog w = .ok (goInt C.length) w') ∧ Blk w' g tt (C ++ D.drop C.length) ∧ Keeps (fun k => k = g) w w' := by
  have hg' : w.heap[g]? = some (.cells (ivs D).toArray tt (0, 0)) := hg
  refine ⟨w.setRow g ((ivs D).take 0 ++ ivs C ++ (ivs D).drop (0 + (ivs C).length)).toArray, fun ty => ?_, ?_, ?_⟩
  · have := run_copy_row (P := Try.prog) w 22 22 ty 3 g 0 dLen dCap ad sLen sCap (ivs D).toArray tt (ivs C) Try.underlying22 size3 hg' (by rw [ivs_length]; exact hn) (fun j v hv => by
      have hj : j < C.length := by have := (List.getElem?_eq_some_iff.1 hv).1; rwa [ivs_length] at this
      rw [hsrc j hj, ← hv]
      simp [ivs, List.getD, hj]) (by simp [ivs_length]; exact hfit) (fun v hv => by
      simp only [ivs, List.mem_map] at hv
      obtain ⟨z, -, rfl⟩ := hv
      rfl)
    rw [this]
    simp [ivs_length]
  · rw [ivs_length, Nat.zero_add, List.take_zero, List.nil_append]
    have e : ivs C ++ (ivs D).drop C.length = ivs (C ++ D.drop C.length) := by simp [ivs, List.map_drop]
    rw [e]
    simp [Blk, World.setRow, Array.getElem?_modify, hg']
  · exact ⟨rfl, rfl, rfl, by simp [World.setRow], fun k _ hk => by simp [World.setRow, Array.getElem?_modify, show ¬ g = k from fun e => hk e.symm]⟩

/-- 14 numbers of seeds. -/
def pad (S : List Int) : List Int := S ++ List.replicate (14 - S.length) 0

theorem pad_length (S : List Int) (h : S.length ≤ 14) : (pad S).length = 14 := by simp [pad]; omega

/-- A board that came in, as a value. -/
abbrev mA (a : Option Addr) (n c : Nat) (t : Int) : Array Value := #[.slice a n c, .int .i64 t]

def Mn (w : World) (b : Nat) (a : Option Addr) (n c : Nat) (t : Int) : Prop := w.heap[b]? = some (.cells (mA a n c t) 24 (0, 0))

theorem Mn.seeds {w : World} {b : Nat} {a : Option Addr} {n c : Nat} {t : Int} (h : Mn w b a n c t) : w.cell? ⟨b, 0, none⟩ = some (.slice a n c) := by
  have h' : w.heap[b]? = _ := h
  simp [World.cell?, h']
theorem Mn.turn {w : World} {b : Nat} {a : Option Addr} {n c : Nat} {t : Int} (h : Mn w b a n c t) : w.cell? ⟨b, 1, none⟩ = some (.int .i64 t) := by
  have h' : w.heap[b]? = _ := h
  simp [World.cell?, h']
theorem Mn.frozen {w : World} {b : Nat} {a : Option Addr} {n c : Nat} {t : Int} (h : Mn w b a n c t) (i : Nat) : w.frozen? ⟨b, i, none⟩ = false := by
  have h' : w.heap[b]? = _ := h
  simp [World.frozen?, h']
theorem Mn.lt {w : World} {b : Nat} {a : Option Addr} {n c : Nat} {t : Int} (h : Mn w b a n c t) : b < w.heap.size := (Array.getElem?_eq_some_iff.1 h).1
theorem Mn.keeps {X : Nat → Prop} {w w' : World} {b : Nat} {a : Option Addr} {n c : Nat} {t : Int} (h : Mn w b a n c t) (hk : Keeps X w w') (hb : ¬ X b) : Mn w' b a n c t :=
  (hk.block b h.lt hb).trans h
theorem Mn.below {w w' : World} {b C : Nat} {a : Option Addr} {n c : Nat} {t : Int} (h : Mn w b a n c t) (hk : Below C w w') (hb : b < C) : Mn w' b a n c t := (hk.block b hb).trans h
theorem Mn.setT {w : World} {b : Nat} {a : Option Addr} {n c : Nat} {t : Int} (h : Mn w b a n c t) (x : Int) : Mn (w.setCell ⟨b, 1, none⟩ (.int .i64 x)) b a n c x := by
  have h' : w.heap[b]? = _ := h
  simp [Mn, World.setCell, Array.getElem?_modify, h']
theorem Mn.new (w : World) (a : Option Addr) (n c : Nat) (t : Int) : Mn (w.alloc (.cells (mA a n c t) 24)) w.heap.size a n c t := heap_alloc_new w _
theorem Mn.old {w : World} {b : Nat} {a : Option Addr} {n c : Nat} {t : Int} (h : Mn w b a n c t) (o : Obj) : Mn (w.alloc o) b a n c t := (Below.heap_alloc w o b h.lt).trans h
theorem drewN_heap (w : World) (n : Nat) : (w.drewN n).heap = w.heap := by cases n <;> rfl
theorem Blk.drewN {w : World} {b t : Nat} {L : List Int} (h : Blk w b t L) (n : Nat) : Blk (w.drewN n) b t L := by unfold Blk; rw [drewN_heap]; exact h
theorem Mn.drewN {w : World} {b : Nat} {a : Option Addr} {n c : Nat} {t : Int} (h : Mn w b a n c t) (m : Nat) : Mn (w.drewN m) b a n c t := by unfold Mn; rw [drewN_heap]; exact h

theorem wpList_load_mn {ops : Array Oper} {rest : List Oper} {op : Oper} {a : Act} {w : World} {Q : Exit → Act → World → Prop} (hw : Region.wanted op (yielded ops a.tmps) = true) (x : Operand) (ho : op.op = .load 24 x)
    (b : Nat) (hx : a.eval x = .pointer (some ⟨b, 0, none⟩)) {ad : Option Addr} {n c : Nat} {t : Int} (hc : Mn w b ad n c t)
    (h : wpList Try.prog ops Q rest (a.put op.dst (.agg (mA ad n c t))) w) : wpList Try.prog ops Q (op :: rest) a w :=
  wpList_wanted hw fun _ hK => wp_load_row 24 x ho b hx 24 _ (0, 0) _ hc Try.underlying24 rfl size24 (hK _ _ h)

theorem wpList_store_mn {ops : Array Oper} {rest : List Oper} {o : Oper} {a : Act} {w : World} {Q : Exit → Act → World → Prop} (hgd : o.guard = none) (x y : Operand) (ho : o.op = .store 24 x y)
    (b : Nat) {ad : Option Addr} {n c : Nat} {t : Int} {ad' : Option Addr} {n' c' : Nat} {t' : Int} (hx : a.eval x = .pointer (some ⟨b, 0, none⟩)) (hy : a.eval y = .agg (mA ad n c t)) (hb : Mn w b ad' n' c' t')
    (h : ∀ w', Mn w' b ad n c t → Keeps (fun k => k = b) w w' → wpList Try.prog ops Q rest (a.put o.dst undef) w') : wpList Try.prog ops Q (o :: rest) a w := by
  refine wpList_plain hgd fun _ hK => ?_
  have hb' : w.heap[b]? = _ := hb
  refine wp_store_row 24 x y ho b (mA ad n c t) hx hy 24 _ hb' size24 rfl (by simp [Value.oneCell']) ?_
  refine hK _ _ (h _ ?_ ?_)
  · simp [Mn, World.setRow, Array.getElem?_modify, hb']
  · exact ⟨rfl, rfl, rfl, by simp [World.setRow], fun k _ hk => by simp [World.setRow, Array.getElem?_modify, show ¬ b = k from fun e => hk e.symm]⟩

theorem results_mn {fn : Func} {u : Tmp} (h : fn.results = #[.cell u 24]) (tmps : Array Value) (w : World) (b : Nat) (hb : tmps.getD u undef = .pointer (some ⟨b, 0, none⟩)) {ad : Option Addr} {n c : Nat} {t : Int} (hr : Mn w b ad n c t) :
    (results fn tmps).run Try.prog w = .ok (.agg (mA ad n c t)) w :=
  results_cell_row h tmps w b 24 _ (0, 0) _ hb hr Try.underlying24 rfl size24

theorem results_mn1 {fn : Func} {u v : Tmp} (h : fn.results = #[.cell u 24, .tmp v]) (tmps : Array Value) (w : World) (b : Nat) (hb : tmps.getD u undef = .pointer (some ⟨b, 0, none⟩)) {ad : Option Addr} {n c : Nat} {t : Int} (hr : Mn w b ad n c t) :
    (results fn tmps).run Try.prog w = .ok (.tuple #[.agg (mA ad n c t), tmps.getD v undef]) w := by
  have hl := run_loadVar_row (P := Try.prog) w b 24 24 _ (0, 0) _ hr Try.underlying24 rfl size24
  have hb' : tmps[u]?.getD undef = .pointer (some ⟨b, 0, none⟩) := by simpa using hb
  have ha : (asAddr (.pointer (some ⟨b, 0, none⟩))).run Try.prog w = .ok ⟨b, 0, none⟩ w := rfl
  simp [results, h, hb', ha, hl, Sem.run_bind, Result.andThen]

theorem results_mn2 {fn : Func} {u v x : Tmp} (h : fn.results = #[.cell u 24, .tmp v, .tmp x]) (tmps : Array Value) (w : World) (b : Nat) (hb : tmps.getD u undef = .pointer (some ⟨b, 0, none⟩)) {ad : Option Addr} {n c : Nat} {t : Int} (hr : Mn w b ad n c t) :
    (results fn tmps).run Try.prog w = .ok (.tuple #[.agg (mA ad n c t), tmps.getD v undef, tmps.getD x undef]) w := by
  have hl := run_loadVar_row (P := Try.prog) w b 24 24 _ (0, 0) _ hr Try.underlying24 rfl size24
  have hb' : tmps[u]?.getD undef = .pointer (some ⟨b, 0, none⟩) := by simpa using hb
  have ha : (asAddr (.pointer (some ⟨b, 0, none⟩))).run Try.prog w = .ok ⟨b, 0, none⟩ w := rfl
  simp [results, h, hb', ha, hl, Sem.run_bind, Result.andThen]

theorem made_ints (n : Nat) : (madeCells #[Value.int .i64 0] n).toList = (List.replicate n (0 : Int)).map (Value.int .i64) := by
  rw [toList_madeCells_one, List.map_replicate]

theorem Blk.of_own {w : World} {base g n : Nat} {L : List Int} (h : w.ownsRow base 3 1 (.slice (some ⟨g, 0, none⟩) n n) n (L.map (Value.int .i64))) : Blk w g 3 L := by
  rcases h.2 with ⟨hv, _⟩ | ⟨g', cap, cur, hv, hb, hg, hnc, hcm, hcs, ht⟩
  · simp at hv
  · simp only [Value.slice.injEq, Option.some.injEq, Addr.mk.injEq, and_true, true_and] at hv
    obtain ⟨rfl, rfl⟩ := hv
    have e : cur = (L.map (Value.int .i64)).toArray := by
      rw [← ht, List.take_of_length_le (by simp [hcs])]
    rw [Blk, hg, e]
    rfl

theorem Blk.rd {w : World} {b n : Nat} {L : List Int} (h : Blk w b 3 L) (hn : L.length = n) (hm : n ≤ maxLen) : Rd w (some ⟨b, 0, none⟩) n n L :=
  ⟨hn, Nat.le_refl _, hm, (fun h => by simp at h), fun _ => ⟨b, 0, rfl, fun i hi => by rw [Nat.zero_add]; exact h.cell (by omega)⟩⟩

set_option maxHeartbeats 1000000 in
theorem told_any (S : List Int) (hS : S.length = 14) (p t : Nat) (hp : p ≤ 6) (w : World) :
    Calls Try.prog 22 #[bv S p t] w fun e w' => ∃ g, e = .returned (.agg (mA (some ⟨g, 0, none⟩) (2 * (p + 1)) (2 * (p + 1)) t)) ∧ Blk w' g 3 (S.take (2 * (p + 1))) ∧ w.heap.size ≤ g ∧ Below w.heap.size w w' := by
  obtain ⟨i0, hi, hz0, hz1, hz2⟩ := info_parts Try.info3
  obtain ⟨n, hn⟩ : ∃ n, 2 * (p + 1) = n := ⟨_, rfl⟩
  rw [hn]
  have hn14 : n ≤ 14 := by omega
  have hmm : n ≤ maxLen := by unfold maxLen; omega
  have hby : i0.bytes * n ≤ 281474976710656 := by rw [hz2]; omega
  obtain ⟨w0, hw0⟩ : ∃ w0, (w.alloc (Obj.cells (ivs (bdL S p t)).toArray 46)).alloc (Obj.cells #[.slice none 0 0, .int .i64 0] 24) = w0 := ⟨_, rfl⟩
  have K0 : Blk w0 w.heap.size 46 (bdL S p t) := by rw [← hw0]; exact (Blk.new w 46 _ _ rfl).old _
  have M0 : Mn w0 (w.heap.size + 1) none 0 0 0 := by
    rw [← hw0]
    have := Mn.new (w.alloc (Obj.cells (ivs (bdL S p t)).toArray 46)) none 0 0 0
    rw [World.size_alloc] at this
    exact this
  have B0 : Below w.heap.size w w0 := by rw [← hw0]; exact ((Below.refl _ w).alloc (Nat.le_refl _) _).alloc (by simp) _
  have HL : Hid ((bdL S p t).length = 16) := hide (bdL_length S p t hS)
  have HN := hide hn
  have HK0 := hide K0
  have HB0 := hide B0
  have HM0 := hide M0
  obtain ⟨b, hbe⟩ : ∃ b, w.heap.size = b := ⟨_, rfl⟩
  rw [hbe] at HK0 HM0
  clear K0 B0 hn M0
  go_enter Try.func22, Try.ntmps22
  go_wp2_with (first | refine wpList_load_bd rfl _ rfl b rfl (bdL S p t) HL.out HK0.out ?_)
  refine (places_any S hS p t hp _).mono ?_
  rintro e w1 ⟨rfl, hw⟩
  rw [HN.out]
  have B1 := HB0.out.trans (hw.mono HB0.out.size)
  have K1 := HK0.out.below hw HK0.out.lt
  have M1 := HM0.out.below hw HM0.out.lt
  clear hw hw0 HK0 HB0 HM0
  go_wp2_with (at_make; refine wpList_make_full w1 rfl _ _ 22 rfl w1.heap.size 3 i0 (.int .i64 0) 1 Try.underlying22 hi hz0 hz1 _ _ _ _ n rfl rfl (by omega) (by omega) hby hmm (Nat.le_refl _) ?_)
  intro w2 hown hgrow
  have hb2 : Below w1.heap.size w1 w2 := (Below.refl _ _).grown hgrow (Nat.le_refl _) (fun k hk => by simp at hk)
  rw [made_ints] at hown
  have G2 := Blk.of_own hown
  have K2 := K1.below hb2 K1.lt
  have M2 := M1.below hb2 M1.lt
  have hgl := M1.lt
  obtain ⟨g, hge⟩ : ∃ g, w1.heap.size = g := ⟨_, rfl⟩
  rw [hge] at G2 hb2 hgl ⊢
  obtain ⟨w3, hrun, G3, hk3⟩ := copy_ints w2 g 3 n n ⟨b, 0, none⟩ 14 14 (List.replicate n 0) (S.take n) G2 (by rw [List.length_take, hS]; exact Nat.min_comm _ _) (fun j hj => by
    have hj' : j < n ∧ j < 14 := by rw [List.length_take, hS] at hj; omega
    rw [Addr.add_lit, Nat.zero_add, K2.seed hS hj'.2]
    simp [List.getD, hj'.1]) (by simp; omega)
  have e3 : S.take n ++ (List.replicate n (0 : Int)).drop (S.take n).length = S.take n := by
    rw [List.length_take, hS, Nat.min_eq_left hn14, List.drop_of_length_le (by simp), List.append_nil]
  rw [e3] at G3
  have K3 := K2.keeps hk3 (show ¬ b = g by omega)
  have M3 := M2.keeps hk3 (show ¬ b + 1 = g by omega)
  have hrun1 := hrun 3
  rw [show (S.take n).length = n by rw [List.length_take, hS]; omega] at hrun1
  have c15 := K3.turn hS
  have BB := (B1.trans (hb2.mono (by have := B1.size; omega))).trans (hk3.below (B := w.heap.size) (by have := B1.size; have := hb2.size; omega) (fun k hk e => by omega))
  have HG3 := hide G3
  have HBB := hide BB
  have HM3 := hide M3
  have HGE : Hid (w.heap.size ≤ g) := hide (by rw [← hge]; exact B1.size)
  clear hown hgrow K1 K2 G2 hrun G3 e3 BB hk3 hb2 K3 B1 M1 M2 M3 hge
  go_wp2_with (first | refine wpList_store_mn rfl _ _ rfl (b + 1) rfl rfl HM3.out ?_)
  intro w4 m4 k4
  go_wp2_with fail
  refine bodyPost_ret (results_mn rfl _ _ (b + 1) rfl m4) rfl ⟨g, rfl, HG3.out.keeps k4 (by omega), HGE.out, ?_⟩
  exact HBB.out.trans (k4.below HBB.out.size (fun k hk e => by omega))

end Go.Proofs.Ytmdnoiebodaikaa
