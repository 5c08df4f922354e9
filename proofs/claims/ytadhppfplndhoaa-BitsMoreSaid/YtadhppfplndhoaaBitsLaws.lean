/- What packing and unpacking have to do with each other: plain facts on the answers of Pack, Unpack and At. -/
import Derived.Test.YtadhppfplndhoaaBitsPack
namespace Go.Proofs.Ytadhppfplndhoaa
open Go.RowKit
namespace Bc

theorem packE_ok {W : Nat} {l : List Int} (hW : W ≤ 62) (hl : l.length ≤ 4096) (h : Bt.InR W l) : packE l W = 0 := by
  unfold packE
  rw [if_neg (by omega), if_neg (by omega)]
  exact if_pos ((inB_iff W l).2 h)
theorem packL_ok {W : Nat} {l : List Int} (hW : W ≤ 62) (hl : l.length ≤ 4096) (h : Bt.InR W l) : packL l W = Bt.toD 8 ((l.length * W + 7) / 8) (Bt.ofD W l) := by
  rw [packL, packE_ok hW hl h, if_pos rfl]
  rfl
theorem packE_inv {wd : Int} {l : List Int} (h : packE l wd = 0) : ∃ W : Nat, wd = W ∧ W ≤ 62 ∧ l.length ≤ 4096 ∧ Bt.InR W l := by
  unfold packE at h
  by_cases h1 : wd < 0 ∨ 62 < wd
  · rw [if_pos h1] at h; omega
  · rw [if_neg h1] at h
    by_cases h2 : 4096 < l.length
    · rw [if_pos h2] at h; omega
    · rw [if_neg h2] at h
      by_cases h3 : inB wd.toNat l = true
      · refine ⟨wd.toNat, by omega, by omega, by omega, (inB_iff _ _).1 h3⟩
      · rw [if_neg h3] at h; omega
theorem packE_short {wd : Int} {l : List Int} (hl : l.length ≤ 4096) : packE l wd = 0 ∨ packE l wd = 1 := by
  unfold packE
  split
  · exact .inr rfl
  · rw [if_neg (by omega)]
    split
    · exact .inl rfl
    · exact .inr rfl
theorem packL_err {wd : Int} {l : List Int} (h : packE l wd ≠ 0) : packL l wd = [] := if_neg h
theorem len_fit (n W : Nat) : n * W ≤ 8 * ((n * W + 7) / 8) := by omega
theorem ofD_pack {W : Nat} {l : List Int} (h : Bt.InR W l) : Bt.ofD 8 (Bt.toD 8 ((l.length * W + 7) / 8) (Bt.ofD W l)) = Bt.ofD W l := by
  refine Bt.ofD_toD 8 _ _ (Bt.ofD_lo h) ?_
  have h1 := Bt.ofD_hi h
  have h2 := Bt.pup (len_fit l.length W)
  rw [Nat.mul_comm W] at h1
  omega
theorem packL_len {W : Nat} {l : List Int} (hW : W ≤ 62) (hl : l.length ≤ 4096) (h : Bt.InR W l) : (packL l W).length = (l.length * W + 7) / 8 := by
  rw [packL_ok hW hl h, Bt.toD_len]
theorem packL_byt (l : List Int) (wd : Int) : Bt.InR 8 (packL l wd) := by
  unfold packL
  split
  · exact Bt.toD_inR _ _ _
  · intro x hx; simp at hx
theorem unE_ok {bs : List Int} {n W : Nat} (hW : W ≤ 62) (hn : n ≤ 4096) (hl : bs.length = (n * W + 7) / 8) (hz : Bt.ofD 8 bs / 2 ^ (n * W) = 0) : unE bs n W = 0 := by
  unfold unE
  rw [if_neg (by omega), if_neg (by omega), if_neg (show ¬ bs.length < ((n : Int).toNat * (W : Int).toNat + 7) / 8 by rw [hl]; exact Nat.lt_irrefl _)]
  refine if_neg ?_
  rintro (q | q)
  · rw [hl] at q; exact absurd q (Nat.lt_irrefl _)
  · exact q hz
theorem unL_ok {bs : List Int} {n W : Nat} (hW : W ≤ 62) (hn : n ≤ 4096) (hl : bs.length = (n * W + 7) / 8) (hz : Bt.ofD 8 bs / 2 ^ (n * W) = 0) : unL bs n W = Bt.toD W n (Bt.ofD 8 bs) := by
  rw [unL, unE_ok hW hn hl hz, if_pos rfl]
  rfl
theorem pack_rest {W : Nat} {l : List Int} (h : Bt.InR W l) : Bt.ofD W l / 2 ^ (l.length * W) = 0 := by
  refine Int.ediv_eq_zero_of_lt (Bt.ofD_lo h) ?_
  rw [Nat.mul_comm]
  exact Bt.ofD_hi h
/-- What was packed is unpacked. -/
theorem un_packE {W : Nat} {l : List Int} (hW : W ≤ 62) (hl : l.length ≤ 4096) (h : Bt.InR W l) : unE (packL l W) l.length W = 0 := by
  refine unE_ok hW hl (packL_len hW hl h) ?_
  rw [packL_ok hW hl h, ofD_pack h]
  exact pack_rest h
theorem un_packL {W : Nat} {l : List Int} (hW : W ≤ 62) (hl : l.length ≤ 4096) (h : Bt.InR W l) : unL (packL l W) l.length W = l := by
  rw [unL_ok hW hl (packL_len hW hl h) (by rw [packL_ok hW hl h, ofD_pack h]; exact pack_rest h), packL_ok hW hl h, ofD_pack h]
  exact Bt.toD_ofD h
theorem at_pack {W : Nat} {l : List Int} (hW : W ≤ 62) (hl : l.length ≤ 4096) (h : Bt.InR W l) (i : Nat) (hi : i < l.length) : atV (packL l W) i W = l.getD i 0 := by
  have hok : AtOk (packL l W).length i W := by
    refine ⟨by omega, by omega, by omega, by omega, ?_⟩
    rw [packL_len hW hl h]
    have e1 : ((i : Int) + 1) * (W : Int) = (((i + 1) * W : Nat) : Int) := by simp
    rw [e1]
    have h1 := Nat.mul_le_mul_right W (show i + 1 ≤ l.length by omega)
    omega
  unfold atV
  rw [if_pos hok, packL_ok hW hl h, ofD_pack h]
  exact Bt.dig_ofD h i hi
theorem at_past (bs : List Int) (W : Nat) (hb : bs.length ≤ 1000000) : atV bs (8 * (bs.length : Int) + 1) W = 0 := by
  unfold atV
  by_cases h : AtOk bs.length (8 * (bs.length : Int) + 1) W
  · obtain ⟨h1, h2, h3, h4, h5⟩ := h
    rcases Nat.eq_zero_or_pos W with hW | hW
    · subst hW
      have h6 := Bt.dig_lo 0 (Bt.ofD 8 bs) (8 * (bs.length : Int) + 1).toNat
      have h7 := Bt.dig_hi 0 (Bt.ofD 8 bs) (8 * (bs.length : Int) + 1).toNat
      rw [Int.pow_zero] at h7
      rw [if_pos ⟨h1, h2, h3, h4, h5⟩]
      show Bt.dig 0 _ _ = 0
      omega
    · have := Int.mul_le_mul_of_nonneg_left (show (1 : Int) ≤ (W : Int) by omega) (show 0 ≤ 8 * (bs.length : Int) + 1 + 1 by omega)
      omega
  · exact if_neg h
theorem unE_inv {bs : List Int} {n wd : Int} (h : unE bs n wd = 0) : ∃ N W : Nat, n = N ∧ wd = W ∧ W ≤ 62 ∧ N ≤ 4096 ∧ bs.length = (N * W + 7) / 8 ∧ Bt.ofD 8 bs / 2 ^ (N * W) = 0 := by
  unfold unE at h
  by_cases h1 : wd < 0 ∨ 62 < wd ∨ n < 0
  · rw [if_pos h1] at h; omega
  · rw [if_neg h1] at h
    by_cases h2 : 4096 < n
    · rw [if_pos h2] at h; omega
    · rw [if_neg h2] at h
      by_cases h3 : bs.length < (n.toNat * wd.toNat + 7) / 8
      · rw [if_pos h3] at h; omega
      · rw [if_neg h3] at h
        by_cases h4 : (n.toNat * wd.toNat + 7) / 8 < bs.length ∨ Bt.ofD 8 bs / 2 ^ (n.toNat * wd.toNat) ≠ 0
        · rw [if_pos h4] at h; omega
        · refine ⟨n.toNat, wd.toNat, by omega, by omega, by omega, by omega, ?_, ?_⟩
          · have : ¬ (n.toNat * wd.toNat + 7) / 8 < bs.length := fun q => h4 (.inl q)
            omega
          · exact Classical.byContradiction fun q => h4 (.inr q)
/-- What is unpacked would be packed as the same bytes. -/
theorem pack_un {bs : List Int} {n W : Nat} (hb : Bt.InR 8 bs) (hW : W ≤ 62) (hn : n ≤ 4096) (hl : bs.length = (n * W + 7) / 8) (hz : Bt.ofD 8 bs / 2 ^ (n * W) = 0) :
    packE (Bt.toD W n (Bt.ofD 8 bs)) W = 0 ∧ packL (Bt.toD W n (Bt.ofD 8 bs)) W = bs := by
  have hlen := Bt.toD_len W n (Bt.ofD 8 bs)
  have hin := Bt.toD_inR W n (Bt.ofD 8 bs)
  refine ⟨packE_ok hW (by omega) hin, ?_⟩
  rw [packL_ok hW (by omega) hin, hlen, ← hl]
  have hV : Bt.ofD W (Bt.toD W n (Bt.ofD 8 bs)) = Bt.ofD 8 bs := by
    refine Bt.ofD_toD W n _ (Bt.ofD_lo hb) ?_
    have hp := Bt.p0 (n * W)
    have h1 := Int.emod_add_mul_ediv (Bt.ofD 8 bs) (2 ^ (n * W))
    have h2 := Bt.mod_hi (Bt.ofD 8 bs) (n * W)
    rw [hz] at h1
    rw [Nat.mul_comm W]
    omega
  rw [hV]
  exact Bt.toD_ofD hb
theorem unE_more {bs : List Int} {n W : Nat} (x : Int) (hW : W ≤ 62) (hn : n ≤ 4096) (hl : bs.length = (n * W + 7) / 8) : unE (bs ++ [x]) n W = 7 := by
  unfold unE
  have e : (bs ++ [x]).length = (n * W + 7) / 8 + 1 := by simp [hl]
  rw [if_neg (by omega), if_neg (by omega), if_neg (show ¬ (bs ++ [x]).length < ((n : Int).toNat * (W : Int).toNat + 7) / 8 by rw [e]; show ¬ (n * W + 7) / 8 + 1 < (n * W + 7) / 8; omega)]
  refine if_pos (.inl ?_)
  rw [e]
  show (n * W + 7) / 8 < (n * W + 7) / 8 + 1
  omega
theorem unE_less {bs : List Int} {n W : Nat} (hW : W ≤ 62) (hn : n ≤ 4096) (hl : bs.length = (n * W + 7) / 8) (h0 : 0 < bs.length) : unE (bs.take (bs.length - 1)) n W = 6 := by
  unfold unE
  have e : (bs.take (bs.length - 1)).length = (n * W + 7) / 8 - 1 := by rw [List.length_take]; omega
  rw [if_neg (by omega), if_neg (by omega)]
  refine if_pos ?_
  rw [e]
  show (n * W + 7) / 8 - 1 < (n * W + 7) / 8
  omega
end Bc
end Go.Proofs.Ytadhppfplndhoaa
