/- What the reference's Few does. Few of layer 15's statements. '==' of two places, of two winners. Package bitset: Upto. Package bitset: Or. Package bitset: Not. -/
import Derived.BigRegion
import Derived.BigQuiet
import Derived.Deep.QuietTactic
import Derived.Outline
import Derived.Deep.DeepCutAuto
import Derived.Deep.CutRange
import Derived.Laws.CopyOwn
import Derived.Test.YtpappcmgnnmbeaaDoorPk17
import Derived.Test.YtpappcmgnnmbeaaDoorPk14
import Derived.Test.YtpappcmgnnmbeaaDoorPk27
import Derived.Test.YtpappcmgnnmbeaaDoorPk07
import Derived.Test.YtpappcmgnnmbeaaDoorPk10
import Derived.Test.YtpappcmgnnmbeaaDoorPk11
import Derived.Test.YtpappcmgnnmbeaaDoorPk20
namespace Go.Proofs.YtpappcmgnnmbeaaDoor
set_option maxRecDepth 20000
open Go.RowKit
namespace Sx
open Sc (Col Sch tr tr_yes tr_no)
open Va (Vl May)
/-- Not too great. -/
def FewS (s : Sch) : Prop := s.cols.length ≤ 12 ∧ ∀ i, i < s.cols.length → (s.cols.getD i default).name.size ≤ 100
set_option maxHeartbeats 1000000 in
theorem Few_any (A : Option Addr) (n c : Nat) (s : Sch) (w : World) (hS : Wd.Cs w A n c s.cols) :
    Calls Tryd.prog 11 #[.agg #[.slice A n c, .int .i64 s.key, .int .i64 s.cmp, .int .i64 s.del, .int .i64 s.sort]] w fun e w' => e = .returned (.bool (tr (FewS s))) ∧ Below w.heap.size w w' := by
  have hb0 := (Below.refl w.heap.size w).alloc (Nat.le_refl _) (.cells #[.slice A n c, .int .i64 s.key, .int .i64 s.cmp, .int .i64 s.del, .int .i64 s.sort] 24)
  have s0 : Sb (w.alloc (.cells #[.slice A n c, .int .i64 s.key, .int .i64 s.cmp, .int .i64 s.del, .int .i64 s.sort] 24)) w.heap.size A n c s.key s.cmp s.del s.sort := Wd.Bx.new w _ _
  have Hl := Lib.hid hS.len
  have HS := Lib.hid (hS.below hb0)
  have hcap := hS.cap
  obtain ⟨r, hr⟩ : ∃ r, r = tr (FewS s) := ⟨_, rfl⟩
  rw [← hr]
  have Hr := Lib.hid hr
  clear hr hS
  by_cases h12 : 12 < n
  · have e : r = false := by rw [Hr.out]; exact tr_no fun h => by have := h.1; have := Hl.out; omega
    subst e
    have q1 : (12 : Int) < (n : Int) := by omega
    clear h12
    go_enter Tryd.func11, Tryd.ntmps11
    go_wp2_with fail
    go_ret
    exact ⟨rfl, hb0⟩
  have q1 : ¬ (12 : Int) < (n : Int) := by omega
  go_enter Tryd.func11, Tryd.ntmps11
  go_wp2
  generalize w.alloc (.cells #[.slice A n c, .int .i64 s.key, .int .i64 s.cmp, .int .i64 s.del, .int .i64 s.sort] 24) = wa at *
  obtain ⟨p0, p1, p2, p3, p4⟩ := five s0
  go_loopw [3] (fun i wr => ∃ k : Nat, i = .int .i64 k ∧ k ≤ n ∧ Hid (∀ j, j < k → (s.cols.getD j default).name.size ≤ 100) ∧ wr = wa) (fun i _ => n - (intOf i).toNat)
  case atStart => exact ⟨0, rfl, Nat.zero_le _, Lib.hid (fun j hj => by omega), rfl⟩
  case round =>
    obtain ⟨k, rfl, hk, hf, rfl⟩ := hrel
    by_cases hlt : k < n
    · obtain ⟨b, o, hA, hbB, c0, c1, c2, _⟩ := HS.out.cells (j := k) (by rw [← Hl.out]; exact hlt) rfl
      subst hA
      obtain ⟨x, hx⟩ : ∃ x, x = (s.cols.getD k default).name := ⟨_, rfl⟩
      rw [← hx] at c0
      have Hx := Lib.hid hx
      clear hx c1 c2
      by_cases hz : 100 < x.size
      · have e : r = false := by rw [Hr.out]; exact tr_no fun h => by have := h.2 k (by rw [← Hl.out]; exact hlt); rw [← Hx.out] at this; omega
        have He := Lib.hid e
        have hzI : (100 : Int) < (x.size : Int) := by omega
        clear e
        go_wp2_with fail
        go_ret
        exact ⟨by rw [He.out]; rfl, hb0⟩
      · have hzI : ¬ (100 : Int) < (x.size : Int) := by omega
        go_wp2_with fail
        go_roundw
        case rel =>
          refine ⟨k + 1, by go_num, by omega, Lib.hid fun j hj => ?_, by first | rfl | trivial⟩
          by_cases hjk : j = k
          · rw [hjk, ← Hx.out]; omega
          · exact hf.out j (by omega)
        case measure => simp [intOf]; omega
    · have hkI : ¬ (k : Int) < n := by omega
      have e : r = true := by
        rw [Hr.out]
        exact tr_yes ⟨by have := Hl.out; omega, fun i hi => hf.out i (by have := Hl.out; omega)⟩
      have He := Lib.hid e
      clear e hf
      go_wp2_with fail
      go_ret
      exact ⟨by rw [He.out]; rfl, hb0⟩
end Sx
end Go.Proofs.YtpappcmgnnmbeaaDoor
namespace Go.Proofs.YtpappcmgnnmbeaaDoor
set_option maxRecDepth 20000
open Go.RowKit Go.Maps
namespace Up
open Va (Vl)
open Wd (Opd)
open Sc (Sch FitS MayS tr tr_yes tr_no)
def Few1 (o : Opd) : Prop := Sx.LightS o.row ∧ o.ord.length ≤ 100 ∧ (o.doc < 200 ∨ 65536 ≤ o.doc)
def FewO (l : List Opd) : Prop := l.length ≤ 40 ∧ ∀ j, j < l.length → Few1 (l.getD j default)
set_option maxHeartbeats 4000000 in
theorem few_any (A : Option Addr) (n c : Nat) (l : List Opd) (w : World) (hS : Wd.Ops w A n c l) :
    Calls Tryd.prog 12 #[.slice A n c, .int .i64 40] w fun e w' => e = .returned (.int .i64 (if tr (FewO l) = true then 0 else 1)) ∧ w' = w := by
  have Hl := Lib.hid hS.len
  have HS := Lib.hid hS
  have hcap := hS.cap
  obtain ⟨r, hr⟩ : ∃ r : Int, r = if tr (FewO l) = true then 0 else 1 := ⟨_, rfl⟩
  rw [← hr]
  have Hr := Lib.hid hr
  clear hr hS
  by_cases h60 : 40 < n
  · have e : r = 1 := by rw [Hr.out, tr_no fun h => by have := h.1; have := Hl.out; omega]; rfl
    subst e
    have q1 : (40 : Int) < (n : Int) := by omega
    clear h60
    go_enter Tryd.func12, Tryd.ntmps12
    go_wp2_with fail
    go_ret
    exact ⟨rfl, rfl⟩
  have q1 : ¬ (40 : Int) < (n : Int) := by omega
  go_enter Tryd.func12, Tryd.ntmps12
  go_wp2
  go_loopw [5] (fun i wr => ∃ k : Nat, i = .int .i64 k ∧ k ≤ n ∧ Hid (∀ j, j < k → Few1 (l.getD j default)) ∧ wr = w) (fun i _ => n - (intOf i).toNat)
  case atStart => exact ⟨0, rfl, Nat.zero_le _, Lib.hid (fun j hj => by omega), rfl⟩
  case round =>
    obtain ⟨k, rfl, hk, hf, rfl⟩ := hrel
    by_cases hlt : k < n
    · obtain ⟨b, o, hA, hbB, c0, c1, c2, c3, c4, c5, h1⟩ := HS.out.cells (j := k) (by rw [← Hl.out]; exact hlt) rfl
      subst hA
      obtain ⟨x, hx⟩ : ∃ x, x = l.getD k default := ⟨_, rfl⟩
      rw [← hx] at c0 c1 c2 c3 c4 c5 h1
      have Hx := Lib.hid hx
      have Cl := Lib.hid (Sx.Light_any _ _ _ _ wr h1.b)
      have Ho := Lib.hid h1.q.len
      have hkI : (k : Int) < (n : Int) := by omega
      have hkI0 : ¬ ((k : Int) < 0) := by omega
      have hbad : ¬ Few1 x → r = 1 := fun hz => by rw [Hr.out, tr_no fun h => hz (by have := h.2 k (by rw [← Hl.out]; exact hlt); rw [← Hx.out] at this; exact this)]; rfl
      have hbad := Lib.hid hbad
      have hgood : Few1 x → ∀ j, j < k + 1 → Few1 (l.getD j default) := fun hz j hj => by
        by_cases hjk : j = k
        · rw [hjk, ← Hx.out]; exact hz
        · exact hf.out j (by omega)
      have hgood := Lib.hid hgood
      clear hx c1 c3 c4 h1 hf
      by_cases hz : Sx.LightS x.row
      case neg =>
        rw [tr_no hz] at Cl
        have He := Lib.hid (hbad.out fun q => hz q.1)
        clear hz
        go_wp2_with fail
        refine Cl.out.mono ?_
        rintro e w1 ⟨rfl, e1⟩
        subst e1
        go_wp2_with fail
        go_ret
        exact ⟨by rw [He.out]; rfl, rfl⟩
      case pos =>
        rw [tr_yes hz] at Cl
        have Hz := Lib.hid hz
        clear hz
        by_cases ho : 100 < x.on
        · have He := Lib.hid (hbad.out fun q => by have := q.2.1; have := Ho.out; omega)
          have z1 : (100 : Int) < (x.on : Int) := by omega
          clear ho
          go_wp2_with fail
          refine Cl.out.mono ?_
          rintro e w1 ⟨rfl, e1⟩
          subst e1
          go_wp2_with fail
          go_ret
          exact ⟨by rw [He.out]; rfl, rfl⟩
        · have z1 : ¬ (100 : Int) < (x.on : Int) := by omega
          by_cases hd : x.doc < 200
          · have z2 : ¬ (200 : Int) ≤ x.doc := by omega
            have HG := Lib.hid (hgood.out ⟨Hz.out, by have := Ho.out; omega, .inl hd⟩)
            clear ho hd
            go_wp2_with fail
            refine Cl.out.mono ?_
            rintro e w1 ⟨rfl, e1⟩
            subst e1
            go_wp2_with fail
            go_roundw
            case rel => exact ⟨k + 1, by go_num, by omega, HG, by first | rfl | trivial⟩
            case measure => simp [intOf]; omega
          · have z2 : (200 : Int) ≤ x.doc := by omega
            by_cases hd2 : x.doc < 65536
            · have He := Lib.hid (hbad.out fun q => by rcases q.2.2 with q | q <;> omega)
              clear ho hd
              go_wp2_with fail
              refine Cl.out.mono ?_
              rintro e w1 ⟨rfl, e1⟩
              subst e1
              go_wp2_with fail
              go_ret
              exact ⟨by rw [He.out]; rfl, rfl⟩
            · have HG := Lib.hid (hgood.out ⟨Hz.out, by have := Ho.out; omega, .inr (by omega)⟩)
              clear ho hd
              go_wp2_with fail
              refine Cl.out.mono ?_
              rintro e w1 ⟨rfl, e1⟩
              subst e1
              go_wp2_with fail
              go_roundw
              case rel => exact ⟨k + 1, by go_num, by omega, HG, by first | rfl | trivial⟩
              case measure => simp [intOf]; omega
    · have hkI : ¬ ((k : Int) < (n : Int)) := by omega
      have e : r = 0 := by
        rw [Hr.out, tr_yes]
        · rfl
        · refine ⟨by have := Hl.out; omega, fun j hj => hf.out j (by have := Hl.out; omega)⟩
      have He := Lib.hid e
      clear e
      go_wp2_with fail
      go_ret
      exact ⟨by rw [He.out]; rfl, rfl⟩
end Up
end Go.Proofs.YtpappcmgnnmbeaaDoor
namespace Go.Proofs.YtpappcmgnnmbeaaDoor
set_option maxRecDepth 20000
open Go.RowKit Go.Maps
namespace Up
/-- '==' of two places. -/
theorem eqP (f : Nat) (a b c d : Int) (w : World) : (Op.equalIn (f + 2) 42 (.agg #[.int .i64 a, .int .i64 b]) (.agg #[.int .i64 c, .int .i64 d])).run Tryd.prog w = .ok (decide (a = c ∧ b = d)) w := by
  have u3 := Tryd.underlying3
  rw [show f + 2 = (f + 1) + 1 from rfl, run_equalIn_struct _ _ _ _ _ (by kernel_rfl) (by kernel_rfl)]
  rw [show (Tryd.prog.fieldsOf 42).toList = [{ name := "Seg", type := 3, offset := 0, embedded := false, tag := "", pkgPath := "", byteOffset := 0 }, { name := "Doc", type := 3, offset := 1, embedded := false, tag := "", pkgPath := "", byteOffset := 8 }] by kernel_rfl]
  by_cases h1 : a = c <;> by_cases h2 : b = d <;> go_simp <;> simp_all
/-- '==' of two winners. -/
theorem eqW (a b : Rw) (w : World) : (Op.equalIn 10000 47 (.agg #[.int .i64 a.seg, .int .i64 a.doc, .int .i64 a.cmp, .int .i64 a.off, .bool a.gone]) (.agg #[.int .i64 b.seg, .int .i64 b.doc, .int .i64 b.cmp, .int .i64 b.off, .bool b.gone])).run Tryd.prog w = .ok (decide ((a.seg = b.seg ∧ a.doc = b.doc) ∧ a.cmp = b.cmp ∧ a.off = b.off ∧ a.gone = b.gone)) w := by
  have u3 := Tryd.underlying3
  have u4 := Tryd.underlying4
  have hp := eqP 9997 a.seg a.doc b.seg b.doc
  rw [show (10000 : Nat) = 9999 + 1 from rfl, run_equalIn_struct _ _ _ _ _ (by kernel_rfl) (by kernel_rfl)]
  rw [show (Tryd.prog.fieldsOf 47).toList = [{ name := "At", type := 42, offset := 0, embedded := false, tag := "", pkgPath := "", byteOffset := 0 }, { name := "Cmp", type := 3, offset := 2, embedded := false, tag := "", pkgPath := "", byteOffset := 16 }, { name := "Offset", type := 3, offset := 3, embedded := false, tag := "", pkgPath := "", byteOffset := 24 }, { name := "Gone", type := 4, offset := 4, embedded := false, tag := "", pkgPath := "", byteOffset := 32 }] by kernel_rfl]
  by_cases h1 : a.seg = b.seg ∧ a.doc = b.doc <;> by_cases h3 : a.cmp = b.cmp <;> by_cases h4 : a.off = b.off <;> by_cases h5 : a.gone = b.gone <;> simp [h1] at hp <;> go_simp <;> simp_all
end Up
end Go.Proofs.YtpappcmgnnmbeaaDoor
namespace Go.Proofs.YtpappcmgnnmbeaaDoor
set_option maxRecDepth 20000
open Go.RowKit
namespace Bw
open Bs Bx Bi
/-- The first k words are those of T, the others those of L. -/
def mix (T L : List Nat) (k : Nat) : List Nat := T.take k ++ L.drop k
theorem mix_zero (T L : List Nat) : mix T L 0 = L := by simp [mix]
theorem mix_len {T L : List Nat} (h : T.length = L.length) (k : Nat) : (mix T L k).length = L.length := by simp [mix]; omega
theorem mix_at {T L : List Nat} (h : T.length = L.length) (k j : Nat) : (mix T L k).getD j 0 = if j < k then T.getD j 0 else L.getD j 0 := by
  unfold mix
  by_cases q : j < T.length
  · by_cases r : j < k
    · rw [if_pos r, List.getD_eq_getElem?_getD, List.getElem?_append_left (by simp; omega), List.getElem?_take, if_pos r, List.getD_eq_getElem?_getD]
    · rw [if_neg r, List.getD_eq_getElem?_getD, List.getElem?_append_right (by simp; omega), List.getElem?_drop, List.getD_eq_getElem?_getD]
      congr 2
      simp
      omega
  · rw [getD_out (L := T.take k ++ L.drop k) (by simp; omega), getD_out (L := T) (by omega), getD_out (L := L) (by omega)]
    split <;> rfl
theorem ext_getD {L M : List Nat} (hl : L.length = M.length) (h : ∀ j, L.getD j 0 = M.getD j 0) : L = M := by
  refine List.ext_getElem hl fun k h1 h2 => ?_
  have := h k
  rw [List.getD_eq_getElem?_getD, List.getD_eq_getElem?_getD, List.getElem?_eq_getElem h1, List.getElem?_eq_getElem h2] at this
  exact this
theorem mix_set {T L : List Nat} (h : T.length = L.length) (k : Nat) (hk : k < L.length) : (mix T L k).set k (T.getD k 0) = mix T L (k + 1) := by
  refine ext_getD (by simp [mix_len h]) fun j => ?_
  rw [getD_set _ _ _ _ (by rw [mix_len h]; exact hk), mix_at h, mix_at h]
  by_cases e : j = k
  · subst e
    rw [if_pos rfl, if_pos (by omega)]
  · rw [if_neg e]
    by_cases q : j < k
    · rw [if_pos q, if_pos (by omega)]
    · rw [if_neg q, if_neg (by omega)]
theorem mix_end {T L : List Nat} (h : T.length = L.length) {k : Nat} (hk : ∀ j, k ≤ j → j < L.length → T.getD j 0 = L.getD j 0) : mix T L k = T := by
  refine ext_getD (by rw [mix_len h, h]) fun j => ?_
  rw [mix_at h]
  by_cases q : j < k
  · rw [if_pos q]
  · rw [if_neg q]
    by_cases r : j < L.length
    · exact (hk j (by omega) r).symm
    · rw [getD_out (L := L) (by omega), getD_out (L := T) (by omega)]
/-- What Upto answers: a row of the call's own. -/
def UpA (w : World) (k : Int) (e : Ending) (w' : World) : Prop := ∃ A n c, e = .returned (.agg #[.slice A n c]) ∧ Ow w' w.heap.size (.slice A n c) (uptoW (cut k)) ∧ Below w.heap.size w w'
theorem upto_full {n : Nat} (h : n % 64 = 0) : List.replicate ((n + 63) / 64) 18446744073709551615 = uptoW n := by
  refine ext_getD (by rw [upto_len]; simp) fun j => ?_
  by_cases q : j < (n + 63) / 64
  · rw [upto_getD n j q, if_pos (by omega), List.getD_eq_getElem?_getD, List.getElem?_replicate, if_pos q]
    rfl
  · rw [getD_out (L := uptoW n) (by rw [upto_len]; omega), getD_out (by simp; omega)]
theorem upto_part {n p : Nat} (h : n % 64 ≠ 0) (hp : p = n / 64) : (List.replicate (p + 1) 18446744073709551615).set p (2 ^ (n % 64) - 1) = uptoW n := by
  have hl : (n + 63) / 64 = p + 1 := by omega
  refine ext_getD (by rw [upto_len]; simp; omega) fun j => ?_
  rw [getD_set _ _ _ _ (by simp)]
  by_cases q : j < (n + 63) / 64
  · rw [upto_getD n j q]
    by_cases e : j = p
    · rw [if_pos e, if_neg (by omega)]
    · rw [if_neg e, if_pos (by omega), List.getD_eq_getElem?_getD, List.getElem?_replicate, if_pos (by omega)]
      rfl
  · rw [if_neg (by omega), getD_out (L := uptoW n) (by rw [upto_len]; omega), getD_out (by simp; omega)]
theorem rep_at {n k : Nat} (h : k < n) (x : Nat) : (List.replicate n x).getD k 0 = x := by
  rw [List.getD_eq_getElem?_getD, List.getElem?_replicate, if_pos h]
  rfl
theorem ow_made {w : World} {B g n : Nat} (h : w.ownsRow B 100 1 (.slice (some ⟨g, 0, none⟩) n n) n ((List.replicate n (0 : Int)).map (Value.int .u64))) : Ow w B (.slice (some ⟨g, 0, none⟩) n n) (List.replicate n 0) := by
  unfold Ow
  rw [nat_rep, List.length_replicate]
  exact h
theorem pow_pred {r : Nat} (h : r < 64) : IntKind.u64.wrap (IntKind.u64.wrap (2 ^ r) - 1) = ((2 ^ r - 1 : Nat) : Int) := by
  have hp : 2 ^ r < 18446744073709551616 := Nat.pow_lt_pow_right (by omega) h
  have h1 := Nat.two_pow_pos r
  have e1 : IntKind.u64.wrap (2 ^ r) = ((2 ^ r : Nat) : Int) := by
    rw [IntKind.wrap_u64, show ((2 : Int) ^ r) = ((2 ^ r : Nat) : Int) from (Int.natCast_pow 2 r).symm]
    exact Int.emod_eq_of_lt (Int.natCast_nonneg _) (Int.ofNat_lt.2 hp)
  rw [e1, IntKind.wrap_u64]
  generalize 2 ^ r = m at *
  omega
set_option maxHeartbeats 4000000 in
theorem upto_own (k : Int) (w : World) (hk : I64 k) : Calls Tryd.prog 52 #[.int .i64 k] w (UpA w k) := by
  obtain ⟨i0, hi, hz0, hz1, hz2⟩ := info_parts info_w
  obtain ⟨k0, k1⟩ := hk
  obtain ⟨N, hN⟩ : ∃ N, N = cut k := ⟨_, rfl⟩
  have hN1 : N ≤ 65536 := by rw [hN]; unfold cut; omega
  obtain ⟨z, hz⟩ : ∃ z : Int, z = (N : Int) := ⟨_, rfl⟩
  have Hz := Lib.hid (show z = if k < 0 then 0 else if 65536 < k then 65536 else k by rw [hz, hN]; unfold cut; (repeat' split) <;> omega)
  obtain ⟨n, hn⟩ : ∃ n, n = (N + 63) / 64 := ⟨_, rfl⟩
  have e1 : (z + 64 - 1) / 64 = (n : Int) := by omega
  have z0 : 0 ≤ z := by omega
  have z1 : z ≤ 65536 := by omega
  have hn1 : n ≤ 1024 := by omega
  obtain ⟨r, hr⟩ : ∃ r, r = N % 64 := ⟨_, rfl⟩
  have e2 : z % 64 = (r : Int) := by omega
  have HN := Lib.hid hN
  have Hn := Lib.hid hn
  have Hr := Lib.hid hr
  clear hN hz hn hr hN1
  go_enter Tryd.func52, Tryd.ntmps52
  go_upto_region 1 with fail
  go_cut [0] (fun v wx => v = .int .i64 z ∧ wx = w.alloc (.cells #[.slice none 0 0] 54))
  case first =>
    all_goals (go_wp2_with fail)
    all_goals (go_meet; refine ⟨congrArg (Value.int .i64) ?_, rfl⟩; rw [Hz.out]; (repeat' split) <;> omega)
  case rest =>
    obtain ⟨rfl, rfl⟩ := hcut
    go_wp2_with (at_make; refine wpList_make_full _ rfl (.tmp 12) (.tmp 12) 52 rfl (w.heap.size + 1) 100 i0 _ 1 Tryd.underlying52 hi hz0 hz1 .i64 .i64 ((z + 64 - 1) / 64) ((z + 64 - 1) / 64) n rfl rfl e1 e1 (by rw [hz2]; omega) (by unfold maxLen; omega) (by simp) ?_; intro w3 hown hgrow; rw [Wd.made_zero] at hown)
    rw [World.size_alloc] at hown
    have hO0 := ow_made hown
    have x0 : Wd.Var w3 w.heap.size 54 (.slice none 0 0) := (hgrow.block w.heap.size (by simp) (by simp)).trans (Wd.Var.new w _ _)
    have hB0 : Below w.heap.size w w3 := ((Below.refl w.heap.size w).alloc (Nat.le_refl _) _).grown hgrow (by simp) (by simp)
    have hs3 := (World.ownsRow.lt hO0 (w.heap.size + 1) rfl).2
    have Hfl := Lib.hid (show (List.replicate n 18446744073709551615).length = (List.replicate n 0).length by simp)
    clear hown hgrow
    go_loopw [4, 16] (fun u j wr => ∃ q : Nat, j = .int .i64 q ∧ q ≤ n ∧ Ow wr (w.heap.size + 1) (.slice (some ⟨w.heap.size + 1, 0, none⟩) n n) (mix (List.replicate n 18446744073709551615) (List.replicate n 0) q) ∧ Below (w.heap.size + 1) w3 wr) (fun _ j _ => n - (intOf j).toNat)
    case atStart => exact ⟨0, rfl, Nat.zero_le _, by rw [mix_zero]; exact hO0, Below.refl _ _⟩
    case round =>
      obtain ⟨q, rfl, hk, hO, hB⟩ := hrel
      by_cases hlt : q < n
      · have hml : (mix (List.replicate n 18446744073709551615) (List.replicate n 0) q).length = n := by rw [mix_len Hfl.out]; simp
        obtain ⟨hc, hf⟩ := hO.cell hml.symm q (by omega)
        have hkI : (q : Int) < n := by omega
        have HO := Lib.hid hO
        have Hml := Lib.hid hml
        clear hml hO
        go_wp2_with fail
        go_roundw
        case rel =>
          refine ⟨q + 1, by go_num, by omega, ?_, hB.setCell (Nat.le_refl _) _⟩
          rw [← mix_set Hfl.out q (by simpa using hlt), rep_at hlt]
          exact HO.out.set Hml.out.symm q 18446744073709551615
        case measure => simp [intOf]; omega
      · have hkI : ¬ (q : Int) < n := by omega
        rw [mix_end Hfl.out (fun j h1 h2 => by simp at h2; omega)] at hO
        have y0 : Wd.Var wr w.heap.size 54 (.slice none 0 0) := (hB.block _ (by omega)).trans x0
        have hbn := hB0.trans (hB.mono (by omega))
        have Hb := Lib.hid hbn
        clear hB x0 hB0 hO0
        have c1 := y0.cell
        have f1 := y0.free
        by_cases hr0 : r = 0
        · subst hr0
          have hO2 := hO
          rw [show List.replicate n 18446744073709551615 = uptoW (cut k) by rw [Hn.out, ← HN.out]; exact upto_full Hr.out.symm] at hO2
          have HO := Lib.hid (hO2.other (b := w.heap.size) (u := .slice (some ⟨w.heap.size + 1, 0, none⟩) n n) (by omega))
          have c2 := (Wd.Var.set (u := .slice (some ⟨w.heap.size + 1, 0, none⟩) n n) y0).cell
          clear hO hO2
          go_wp2_with fail
          (try simp only [Exit.inBlock, Exit.then])
          refine bodyPost_ret (v := .agg #[.slice (some ⟨w.heap.size + 1, 0, none⟩) n n]) ?_ rfl ⟨_, _, _, rfl, ?_, ?_⟩
          · rw [res_cell1 rfl]; go_simp
          · exact HO.out.down (by omega)
          · exact Hb.out.setCell (Nat.le_refl _) _
        · obtain ⟨p, hp⟩ : ∃ p, p = N / 64 := ⟨_, rfl⟩
          have hnp : n = p + 1 := by have := Hn.out; have := Hr.out; omega
          have e3 : (n : Int) - 1 = (p : Int) := by omega
          have hr1 : (0 : Int) < (r : Int) := by omega
          have hr2 : r < 64 := by have := Hr.out; omega
          have hp0 : (0 : Int) ≤ (p : Int) := by omega
          have hpn : (p : Int) < (n : Int) := by omega
          obtain ⟨hc, hf⟩ := hO.cell (by simp) p (by simp; omega)
          have HO := Lib.hid hO
          have Hup := Lib.hid (show (List.replicate n 18446744073709551615).set p (2 ^ r - 1) = uptoW (cut k) by rw [hnp, Hr.out, ← HN.out]; exact upto_part (by have := Hr.out; omega) hp)
          clear hp hnp hO
          go_wp2_with fail
          have key : IntKind.u64.wrap (IntKind.u64.wrap (2 ^ r) - 1) = ((2 ^ r - 1 : Nat) : Int) := pow_pred hr2
          rw [key]
          have hO3 := HO.out.set (by simp) p (2 ^ r - 1)
          rw [Hup.out] at hO3
          have z0 := y0.other (a := ⟨w.heap.size + 1, p, none⟩) (u := .int .u64 ((2 ^ r - 1 : Nat) : Int)) (by show w.heap.size ≠ w.heap.size + 1; omega)
          have c2 := (Wd.Var.set (u := .slice (some ⟨w.heap.size + 1, 0, none⟩) n n) z0).cell
          have hb2 := Hb.out.setCell (p := ⟨w.heap.size + 1, p, none⟩) (by show w.heap.size ≤ w.heap.size + 1; omega) (.int .u64 ((2 ^ r - 1 : Nat) : Int))
          generalize wr.setCell ⟨w.heap.size + 1, p, none⟩ (.int .u64 ((2 ^ r - 1 : Nat) : Int)) = w5 at *
          (try simp only [Exit.inBlock, Exit.then])
          refine bodyPost_ret (v := .agg #[.slice (some ⟨w.heap.size + 1, 0, none⟩) n n]) ?_ rfl ⟨_, _, _, rfl, ?_, ?_⟩
          · rw [res_cell1 rfl]; go_simp
          · exact (hO3.other (by omega)).down (by omega)
          · exact hb2.setCell (Nat.le_refl _) _
theorem upto_any (k : Int) (w : World) (hk : I64 k) : Calls Tryd.prog 52 #[.int .i64 k] w (Gv St w (uptoL k)) :=
  (upto_own k w hk).mono fun e w' ⟨A, n, c, he, hO, hB⟩ => ⟨A, n, c, he, by
    have hc : cut k ≤ 65536 := by unfold cut; omega
    rw [← upto_lst hc rfl]
    exact st_at hO (upto_wo hc) (upto_tr _), hB⟩
end Bw
end Go.Proofs.YtpappcmgnnmbeaaDoor
namespace Go.Proofs.YtpappcmgnnmbeaaDoor
set_option maxRecDepth 20000
open Go.RowKit
namespace Bw
open Bs Bx Bi
/-- A row of the call's own that has no spare room, as its block holds it. -/
theorem ow_full {w : World} {B g z : Nat} {L : List Nat} (h : Ow w B (.slice (some ⟨g, 0, none⟩) z z) L) (hz : L.length = z) : w.heap[g]? = some (.cells ((nat L).map (Value.int .u64)).toArray 100) := by
  subst hz
  rcases h.2 with ⟨hq, _⟩ | ⟨g', cap', cur, hq, hb, hg, h1, h2, h3, h4⟩
  · cases hq
  · simp only [Value.slice.injEq, Option.some.injEq, Addr.mk.injEq, and_true, true_and] at hq
    obtain ⟨rfl, rfl⟩ := hq
    rw [hg, ← h4, List.take_of_length_le (by simp [h3])]
theorem full_ow {w : World} {B g z : Nat} {L : List Nat} (hg : w.heap[g]? = some (.cells ((nat L).map (Value.int .u64)).toArray 100)) (hB : B ≤ g) (hz : L.length = z) (hm : z ≤ maxLen) : Ow w B (.slice (some ⟨g, 0, none⟩) z z) L := by
  subst hz
  exact ⟨by simp [nat_len], .inr ⟨g, _, _, rfl, hB, hg, Nat.le_refl _, hm, by simp [nat_len], by rw [List.take_of_length_le (by simp [nat_len])]⟩⟩
theorem splice_pad (L : List Nat) (z : Nat) (_h : L.length ≤ z) : splice ((nat (List.replicate z 0)).map (Value.int .u64)) 0 ((nat L).map (Value.int .u64)) = (nat (pad L z)).map (Value.int .u64) := by
  unfold splice pad
  rw [← nat_app, List.map_append, nat_rep, nat_rep]
  simp [nat_len]
theorem cpos {w : World} {A : Option Addr} {n c : Nat} {L : List Nat} {o : Addr} (h : Wd.Sl w .u64 A n c (nat L)) (hp : 0 < ((nat L).map (Value.int .u64)).length) : some o = some o ∧ ∃ ad, A = some ad ∧ ∀ j v, ((nat L).map (Value.int .u64))[j]? = some v → w.cell? (ad.add j) = some v := by
  refine ⟨rfl, ?_⟩
  obtain ⟨b, o, rfl, hb, -⟩ := h.rd 0 (by simpa using hp)
  refine ⟨_, rfl, fun j v hv => ?_⟩
  rw [List.getElem?_map] at hv
  by_cases q : j < (nat L).length
  · obtain ⟨b', o', e, -, hc⟩ := h.rd j q
    cases e
    rw [List.getElem?_eq_getElem q] at hv
    cases hv
    rw [Addr.add_lit, hc]
    simp [List.getD, List.getElem?_eq_getElem q]
  · rw [List.getElem?_eq_none (by omega)] at hv
    cases hv
end Bw
end Go.Proofs.YtpappcmgnnmbeaaDoor
namespace Go.Proofs.YtpappcmgnnmbeaaDoor
set_option maxRecDepth 20000
open Go.RowKit
namespace Bw
open Bs Bx Bi
theorem Ow.at {w : World} {B n c : Nat} {A : Option Addr} {L : List Nat} (h : Ow w B (.slice A n c) L) (hL : 0 < L.length) : ∃ g, A = some ⟨g, 0, none⟩ ∧ B ≤ g := by
  obtain ⟨g, c', e, hB, -⟩ := h.shape hL
  cases e
  exact ⟨g, rfl, hB⟩
theorem Ow.len {w : World} {B n c : Nat} {A : Option Addr} {L : List Nat} (h : Ow w B (.slice A n c) L) : n = L.length ∧ n ≤ c ∧ c ≤ maxLen := by
  obtain ⟨A', n', c', e, hS⟩ := h.sl
  cases e
  exact ⟨by rw [hS.len, nat_len], hS.cap, hS.max⟩
end Bw
end Go.Proofs.YtpappcmgnnmbeaaDoor
