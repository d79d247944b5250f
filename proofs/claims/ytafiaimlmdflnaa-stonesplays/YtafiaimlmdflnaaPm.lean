/-
  The stones that are taken away, by their places. No conditions beyond those that each theorem bears.
-/
import Derived.Test.YtafiaimlmdflnaaFc
namespace Go.Proofs.Ytafiaimlmdflnaa

/-- The stones of a player whose groups have no liberties, rising. -/
noncomputable def goneR (W H : Nat) (Z : List Int) (v : Int) : List Nat := pls (W * H) (fun q => Z.getD q 0 = v ∧ (lib W H Z (grp W H Z q)).length = 0)

theorem grp_reg {W H : Nat} {Z : List Int} {v : Int} {L : List Nat} {q : Nat} (hL : L ∈ rgs (W * H) (nb4 W H) fun q => Z.getD q 0 = v) (hq : q ∈ L) : grp W H Z q = L := by
  obtain ⟨j, hj, hl, rfl⟩ := mem_rgsU.1 hL
  have hw := mem_spr.1 hq
  have hv : Z.getD q 0 = v := hw.right
  unfold grp
  rw [hv]
  unfold spr
  refine pls_congr fun r _ => ⟨fun h => hw.trans h, fun h => (hw.symm (fun p q hp hq => nb4_symm hp hq)).trans h⟩

theorem reg_of {W H : Nat} {Z : List Int} {v : Int} {q : Nat} (hq : q < W * H) (hv : Z.getD q 0 = v) : ∃ L ∈ rgs (W * H) (nb4 W H) fun q => Z.getD q 0 = v, q ∈ L := by
  obtain ⟨p, hp, hmin⟩ := least_at ⟨q, (Wk.refl hq hv : Wk (W * H) (nb4 W H) (fun q => Z.getD q 0 = v) q q)⟩
  exact ⟨_, mem_rgsU.2 ⟨p, hp.lt, ⟨hp.right, fun r hr => hmin r (hp.trans hr)⟩, rfl⟩, mem_spr.2 (hp.symm (fun p q hp hq => nb4_symm hp hq))⟩

theorem mem_gone {W H : Nat} {Z : List Int} {v : Int} {q : Nat} : q ∈ gone W H Z v ↔ q ∈ goneR W H Z v := by
  unfold goneR
  rw [mem_pls]
  unfold gone goneU
  rw [List.mem_flatten]
  constructor
  · rintro ⟨L, h1, h2⟩
    obtain ⟨h3, h4⟩ := List.mem_filter.1 h1
    obtain ⟨r1, r2, r3⟩ := reg_ne h3
    exact ⟨(r2 q h2).1, (r2 q h2).2, by rw [grp_reg h3 h2]; simpa using h4⟩
  · rintro ⟨h1, h2, h3⟩
    obtain ⟨L, h4, h5⟩ := reg_of h1 h2
    refine ⟨L, List.mem_filter.2 ⟨h4, ?_⟩, h5⟩
    rw [grp_reg h4 h5] at h3
    simpa using h3

theorem gone_nodup (W H : Nat) (Z : List Int) (v : Int) : (gone W H Z v).Nodup :=
  (flat_filter _ _).nodup (flat_nodup (fun _ _ hp hq => nb4_symm hp hq) _)

theorem gone_len (W H : Nat) (Z : List Int) (v : Int) : (gone W H Z v).length = (goneR W H Z v).length :=
  ((List.perm_ext_iff_of_nodup (gone_nodup W H Z v) (pls_nodup _ _)).2 fun _ => mem_gone).length_eq

theorem list_getD {L M : List Int} (h : L.length = M.length) (hg : ∀ i, i < L.length → L.getD i 0 = M.getD i 0) : L = M := by
  refine List.ext_getElem h fun i h1 h2 => ?_
  have := hg i h1
  simpa [List.getD, h1, h2] using this

theorem gone_clr {W H : Nat} {Z : List Int} (v : Int) (hZ : Z.length = W * H) : clr Z (gone W H Z v) = clr Z (goneR W H Z v) := by
  have h2 : ∀ q ∈ goneR W H Z v, q < Z.length := fun q hq => by rw [hZ]; exact (mem_pls.1 hq).1
  have h1 : ∀ q ∈ gone W H Z v, q < Z.length := fun q hq => h2 q (mem_gone.1 hq)
  refine list_getD (by rw [clr_len, clr_len]) fun i _ => ?_
  rw [clr_getD _ _ _ h1, clr_getD _ _ _ h2]
  by_cases h : i ∈ gone W H Z v
  · rw [if_pos h, if_pos (mem_gone.1 h)]
  · rw [if_neg h, if_neg (fun h' => h (mem_gone.2 h'))]

end Go.Proofs.Ytafiaimlmdflnaa
