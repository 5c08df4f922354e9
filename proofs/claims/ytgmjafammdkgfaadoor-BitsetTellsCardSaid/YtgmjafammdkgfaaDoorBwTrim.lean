/- Package bitset's trimmed: the set that words describe, zeros at their end left out. -/
import Derived.Test.YtgmjafammdkgfaaDoorBwBase
namespace Go.Proofs.YtgmjafammdkgfaaDoor
set_option maxRecDepth 20000
open Go.RowKit
namespace Bw
open Bs Bx Bi
theorem res_cell1 {fn : Func} {p : Tmp} {ty : TypeId} (h : fn.results = #[.cell p ty]) (tmps : Array Value) (P : Program) (w : World) :
    (results fn tmps).run P w = ((asAddr (tmps.getD p undef)).run P w).andThen fun a w₁ => (loadVar ty a).run P w₁ := by
  simp only [results, h]
  simp [Sem.run_bind, Result.andThen]
theorem st_cut {w : World} {A : Option Addr} {n c k : Nat} {L : List Nat} (hS : Wd.Sl w .u64 A n c (nat L)) (hk : k ≤ n) (ht : Wo (L.take k) ∧ Tr (L.take k) ∧ lstW (L.take k) = lstW L) (o : Obj) : St (w.alloc o) A k c (lstW L) := by
  have h := (hS.below ((Below.refl w.heap.size w).alloc (Nat.le_refl _) o)).head k hk
  rw [nat_take] at h
  exact ⟨L.take k, h, ht.1, ht.2.1, ht.2.2.symm⟩
set_option maxHeartbeats 4000000 in
theorem trimmed_any (A : Option Addr) (n c : Nat) (L : List Nat) (w : World) (hS : Wd.Sl w .u64 A n c (nat L)) (hw : Wo L) :
    Calls Tryd.prog 34 #[.slice A n c] w (Gv St w (lstW L)) := by
  have hb0 := (Below.refl w.heap.size w).alloc (Nat.le_refl _) (.cells #[.slice none 0 0] 27)
  have HS := Lib.hid (hS.below hb0)
  have HS0 := Lib.hid hS
  have hn : n = L.length := by rw [hS.len, nat_len]
  have hcap := hS.cap
  have hmx := hS.max
  unfold maxLen at hmx
  have hn1 : n ≤ 1024 := by rw [hn]; exact hw.1
  have Hn := Lib.hid hn
  have Hw := Lib.hid hw
  clear hS hn hw hb0
  go_enter Tryd.func34, Tryd.ntmps34
  go_wp2
  go_loopw [3] (fun j wr => ∃ k : Nat, j = .int .i64 k ∧ k ≤ n ∧ wr = w.alloc (.cells #[.slice none 0 0] 27) ∧ Hid (∀ i, k ≤ i → i < L.length → L.getD i 0 = 0)) (fun j _ => (intOf j).toNat)
  case atStart => exact ⟨n, rfl, Nat.le_refl _, rfl, Lib.hid fun i h1 h2 => by have := Hn.out; omega⟩
  case round =>
    obtain ⟨k, rfl, hk, rfl, hz⟩ := hrel
    by_cases h0 : k = 0
    · subst h0
      have Ht := Lib.hid (trim Hw.out (Nat.zero_le _) hz.out (.inl rfl))
      clear hz
      go_wp2
      (try simp only [Exit.inBlock, Exit.then])
      refine bodyPost_ret (v := .agg #[.slice A 0 c]) ?_ rfl ⟨_, _, _, rfl, ?_, ?_⟩
      · rw [res_cell1 rfl]; go_simp
      · exact st_cut HS0.out (Nat.zero_le _) Ht.out _
      · exact (Below.refl _ _).alloc (Nat.le_refl _) _
    · obtain ⟨p, rfl⟩ : ∃ p, k = p + 1 := ⟨k - 1, by omega⟩
      have hpl : p < L.length := by have := Hn.out; omega
      obtain ⟨b, o, hA, hb, hc⟩ := HS.out.rd p (by rw [nat_len]; exact hpl)
      subst hA
      rw [nat_getD] at hc
      obtain ⟨x, hx⟩ : ∃ x, x = L.getD p 0 := ⟨_, rfl⟩
      rw [← hx] at hc
      have Hx := Lib.hid hx
      have e1 : ((p + 1 : Nat) : Int) - 1 = (p : Int) := by omega
      have hpI : (p : Int) < (n : Int) := by omega
      clear hx hpl h0
      by_cases hx0 : x = 0
      · subst hx0
        have hz2 := Lib.hid (show ∀ i, p ≤ i → i < L.length → L.getD i 0 = 0 from fun i h1 h2 => by
          by_cases q : i = p
          · rw [q]; exact Hx.out.symm
          · exact hz.out i (by omega) h2)
        go_wp2
        go_roundw
        case rel => exact ⟨p, by go_num, by omega, trivial, hz2⟩
        case measure => simp [intOf]
      · have Ht := Lib.hid (trim Hw.out (by have := Hn.out; omega) hz.out (.inr (by rw [Nat.add_sub_cancel, ← Hx.out]; exact hx0)))
        have hx1 : ((x : Int) == 0) = false := by simpa using hx0
        clear hz
        go_wp2
        (try simp only [Exit.inBlock, Exit.then])
        refine bodyPost_ret (v := .agg #[.slice (some ⟨b, o, none⟩) (p + 1) c]) ?_ rfl ⟨_, _, _, rfl, ?_, ?_⟩
        · rw [res_cell1 rfl]; go_simp
        · exact st_cut HS0.out hk Ht.out _
        · exact (Below.refl _ _).alloc (Nat.le_refl _) _
end Bw
end Go.Proofs.YtgmjafammdkgfaaDoor
