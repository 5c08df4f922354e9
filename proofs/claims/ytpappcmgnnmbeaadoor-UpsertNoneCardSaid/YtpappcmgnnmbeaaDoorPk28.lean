/- Package bitset: Or. Package bitset: Not. Package bitset: Same; slices.Equal of words. What the condition on the package-level variable gives a walk: the table of math/bits, cell by cell. From an argument as the statement reads it to the words of this seat: a slice of integers. -/
import Derived.Laws.CopyOwn
import Derived.OpenShut
import Derived.LaidHandle
import Derived.Stop.Joined
import Derived.ProofKit
import Derived.Test.YtpappcmgnnmbeaaDoorPk27
import Derived.Test.YtpappcmgnnmbeaaDoorPk09
import Derived.Test.YtpappcmgnnmbeaaDoorPk26
import Derived.Test.YtpappcmgnnmbeaaDoorRows
import Derived.Test.YtpappcmgnnmbeaaDoorPk01
namespace Go.Proofs.YtpappcmgnnmbeaaDoor
set_option maxRecDepth 20000
open Go.RowKit
namespace Bw
open Bs Bx Bi
/-- A row of the call's own that has no spare room, as its block holds it. -/
theorem ow_full {w : World} {B g z : Nat} {L : List Nat} (h : Ow w B (.slice (some ⟨g, 0, none⟩) z z) L) (hz : L.length = z) : w.heap[g]? = some (.cells ((nat L).map (Value.int .u64)).toArray 100) := by
  subst hz
  rcases h.2 with ⟨hq, _⟩ | ⟨g', cap', cur, hq, hb, hg, h1, h2, h3, h4⟩
  · cases hq
  · simp only [Value.slice.injEq, Option.some.injEq, Addr.mk.injEq, and_true, true_and] at hq
    obtain ⟨rfl, rfl⟩ := hq
    rw [hg, ← h4, List.take_of_length_le (by simp [h3])]
theorem full_ow {w : World} {B g z : Nat} {L : List Nat} (hg : w.heap[g]? = some (.cells ((nat L).map (Value.int .u64)).toArray 100)) (hB : B ≤ g) (hz : L.length = z) (hm : z ≤ maxLen) : Ow w B (.slice (some ⟨g, 0, none⟩) z z) L := by
  subst hz
  exact ⟨by simp [nat_len], .inr ⟨g, _, _, rfl, hB, hg, Nat.le_refl _, hm, by simp [nat_len], by rw [List.take_of_length_le (by simp [nat_len])]⟩⟩
theorem splice_pad (L : List Nat) (z : Nat) (_h : L.length ≤ z) : splice ((nat (List.replicate z 0)).map (Value.int .u64)) 0 ((nat L).map (Value.int .u64)) = (nat (pad L z)).map (Value.int .u64) := by
  unfold splice pad
  rw [← nat_app, List.map_append, nat_rep, nat_rep]
  simp [nat_len]
theorem cpos {w : World} {A : Option Addr} {n c : Nat} {L : List Nat} {o : Addr} (h : Wd.Sl w .u64 A n c (nat L)) (hp : 0 < ((nat L).map (Value.int .u64)).length) : some o = some o ∧ ∃ ad, A = some ad ∧ ∀ j v, ((nat L).map (Value.int .u64))[j]? = some v → w.cell? (ad.add j) = some v := by
  refine ⟨rfl, ?_⟩
  obtain ⟨b, o, rfl, hb, -⟩ := h.rd 0 (by simpa using hp)
  refine ⟨_, rfl, fun j v hv => ?_⟩
  rw [List.getElem?_map] at hv
  by_cases q : j < (nat L).length
  · obtain ⟨b', o', e, -, hc⟩ := h.rd j q
    cases e
    rw [List.getElem?_eq_getElem q] at hv
    cases hv
    rw [Addr.add_lit, hc]
    simp [List.getD, List.getElem?_eq_getElem q]
  · rw [List.getElem?_eq_none (by omega)] at hv
    cases hv
end Bw
end Go.Proofs.YtpappcmgnnmbeaaDoor
namespace Go.Proofs.YtpappcmgnnmbeaaDoor
set_option maxRecDepth 20000
open Go.RowKit
namespace Bw
open Bs Bx Bi
theorem Ow.at {w : World} {B n c : Nat} {A : Option Addr} {L : List Nat} (h : Ow w B (.slice A n c) L) (hL : 0 < L.length) : ∃ g, A = some ⟨g, 0, none⟩ ∧ B ≤ g := by
  obtain ⟨g, c', e, hB, -⟩ := h.shape hL
  cases e
  exact ⟨g, rfl, hB⟩
theorem Ow.len {w : World} {B n c : Nat} {A : Option Addr} {L : List Nat} (h : Ow w B (.slice A n c) L) : n = L.length ∧ n ≤ c ∧ c ≤ maxLen := by
  obtain ⟨A', n', c', e, hS⟩ := h.sl
  cases e
  exact ⟨by rw [hS.len, nat_len], hS.cap, hS.max⟩
end Bw
end Go.Proofs.YtpappcmgnnmbeaaDoor
namespace Go.Proofs.YtpappcmgnnmbeaaDoor
set_option maxRecDepth 20000
open Go.RowKit
namespace Bw
open Bs Bx Bi
theorem take_ext {L M : List Nat} {q : Nat} (h1 : q < L.length) (h2 : q < M.length) (h : L.take q = M.take q) (e : L.getD q 0 = M.getD q 0) : L.take (q + 1) = M.take (q + 1) := by
  rw [List.take_succ_eq_append_getElem h1, List.take_succ_eq_append_getElem h2, h]
  rw [List.getD_eq_getElem?_getD, List.getD_eq_getElem?_getD, List.getElem?_eq_getElem h1, List.getElem?_eq_getElem h2] at e
  simp only [Option.getD_some] at e
  rw [e]
set_option maxHeartbeats 4000000 in
theorem equal_any (A B : Option Addr) (n c m d : Nat) (L M : List Nat) (r : Bool) (w : World) (hS : Wd.Sl w .u64 A n c (nat L)) (hT : Wd.Sl w .u64 B m d (nat M)) (hL : Wo L) (hM : Wo M) (hr : r = decide (L = M)) :
    Calls Tryd.prog 71 #[.slice A n c, .slice B m d] w fun e w' => e = .returned (.bool r) ∧ Below w.heap.size w w' := by
  have hn : n = L.length := by rw [hS.len, nat_len]
  have hm : m = M.length := by rw [hT.len, nat_len]
  have hn1 : n ≤ 1024 := by rw [hn]; exact hL.1
  have hm1 : m ≤ 1024 := by rw [hm]; exact hM.1
  have hcap := hS.cap
  have hmx := hS.max
  have hcap2 := hT.cap
  have hmx2 := hT.max
  unfold maxLen at hmx hmx2
  have HS := Lib.hid hS
  have HT := Lib.hid hT
  have Hn := Lib.hid hn
  have Hm := Lib.hid hm
  have Hr := Lib.hid hr
  clear hS hT hn hm hL hM hr
  by_cases hnm : n = m
  case neg =>
    have e := Lib.hid (show r = false by rw [Hr.out, decide_eq_false]; rintro rfl; exact hnm (Hn.out.trans Hm.out.symm))
    have hne : ((n : Int) == (m : Int)) = false := by simpa using fun h => hnm (by omega)
    go_enter Tryd.func71, Tryd.ntmps71
    go_wp2_with fail
    go_ret
    exact ⟨by rw [e.out]; rfl, Below.refl _ _⟩
  subst hnm
  go_enter Tryd.func71, Tryd.ntmps71
  go_wp2_with fail
  go_loopw [5, 13] (fun u j wr => ∃ q : Nat, j = .int .i64 q ∧ q ≤ n ∧ Hid (L.take q = M.take q) ∧ Below w.heap.size w wr) (fun _ j _ => n - (intOf j).toNat)
  case atStart => exact ⟨0, rfl, Nat.zero_le _, Lib.hid rfl, Below.refl _ _⟩
  case round =>
    obtain ⟨q, rfl, hk, he, hB⟩ := hrel
    by_cases hlt : q < n
    · have hkI : (q : Int) < n := by omega
      have hq0 : (0 : Int) ≤ (q : Int) := by omega
      have HqL := Lib.hid (show q < L.length by rw [← Hn.out]; exact hlt)
      have HqM := Lib.hid (show q < M.length by rw [← Hm.out]; exact hlt)
      obtain ⟨b1, o1, hA1, hb1, hc1⟩ := (HS.out.below hB).rd q (by rw [nat_len]; exact HqL.out)
      obtain ⟨b2, o2, hA2, hb2, hc2⟩ := (HT.out.below hB).rd q (by rw [nat_len]; exact HqM.out)
      subst hA1 hA2
      rw [nat_getD] at hc1 hc2
      obtain ⟨x, hx⟩ : ∃ x, x = L.getD q 0 := ⟨_, rfl⟩
      obtain ⟨y, hy⟩ : ∃ y, y = M.getD q 0 := ⟨_, rfl⟩
      rw [← hx] at hc1
      rw [← hy] at hc2
      have Hx := Lib.hid hx
      have Hy := Lib.hid hy
      have HB := Lib.hid hB
      clear hx hy hB
      by_cases hxy : x = y
      · subst hxy
        have hn := Lib.hid (take_ext HqL.out HqM.out he.out (Hx.out.symm.trans Hy.out))
        go_wp2_with fail
        go_quiet (fail)
        go_wp2_with fail
        go_roundw
        case rel => exact ⟨q + 1, by go_num, by omega, hn, Wd.below_drewN HB.out _⟩
        case measure => simp [intOf]; omega
      · have e := Lib.hid (show r = false by
          rw [Hr.out, decide_eq_false]
          intro h
          exact hxy (by rw [Hx.out, Hy.out, h]))
        have hne : ((x : Int) == (y : Int)) = false := by simpa using fun h => hxy (by omega)
        go_wp2_with fail
        go_quiet (fail)
        go_wp2_with fail
        go_ret
        exact ⟨by rw [e.out]; rfl, Wd.below_drewN HB.out _⟩
    · have hkI : ¬ (q : Int) < n := by omega
      have e := Lib.hid (show r = true by
        rw [Hr.out, decide_eq_true]
        have h := he.out
        rw [List.take_of_length_le (by rw [← Hn.out]; omega), List.take_of_length_le (by rw [← Hm.out]; omega)] at h
        exact h)
      go_wp2_with fail
      go_ret
      exact ⟨by rw [e.out]; rfl, hB⟩
set_option maxHeartbeats 4000000 in
theorem same_any (A : Option Addr) (n c : Nat) (X : List Int) (B : Option Addr) (m d : Nat) (Y : List Int) (w : World) (hX : St w A n c X) (hY : St w B m d Y) :
    Calls Tryd.prog 51 #[.agg #[.slice A n c], .agg #[.slice B m d]] w fun e w' => e = .returned (.bool (decide (X = Y))) ∧ Below w.heap.size w w' := by
  obtain ⟨L, hS, hL, tL, rfl⟩ := hX
  obtain ⟨M, hT, hM, tM, rfl⟩ := hY
  have hb0 := ((Below.refl w.heap.size w).alloc (Nat.le_refl _) (.cells #[.slice A n c] 54)).alloc (by simp) (.cells #[.slice B m d] 54)
  have x0 : Wd.Var ((w.alloc (.cells #[.slice A n c] 54)).alloc (.cells #[.slice B m d] 54)) w.heap.size 54 (.slice A n c) := (Wd.Var.new w _ _).alloc _
  have x1 : Wd.Var ((w.alloc (.cells #[.slice A n c] 54)).alloc (.cells #[.slice B m d] 54)) (w.heap.size + 1) 54 (.slice B m d) := by
    have := Wd.Var.new (w.alloc (.cells #[.slice A n c] 54)) 54 (.slice B m d)
    rwa [World.size_alloc] at this
  have c0 := x0.cell
  have c1 := x1.cell
  have C := Lib.hid (equal_any A B n c m d L M (decide (L = M)) _ (hS.below hb0) (hT.below hb0) hL hM rfl)
  have hr : decide (lstW L = lstW M) = decide (L = M) := decide_eq_decide.2 (same_lst hL hM tL tM)
  rw [hr]
  obtain ⟨r, hq⟩ : ∃ r, r = decide (L = M) := ⟨_, rfl⟩
  rw [← hq] at C ⊢
  clear hS hT hL hM tL tM x0 x1 hr hq
  go_enter Tryd.func51, Tryd.ntmps51
  go_wp2_with fail
  refine C.out.mono ?_
  rintro e w2 ⟨rfl, hB⟩
  have hb2 := hb0.trans (hB.mono (by simp; omega))
  go_wp2_with fail
  go_ret
  exact ⟨rfl, hb2⟩
end Bw
end Go.Proofs.YtpappcmgnnmbeaaDoor
namespace Go.Proofs.YtpappcmgnnmbeaaDoor
set_option maxRecDepth 20000
open Go.ChangeShapes Go.WideShapes Go.RowKit
namespace Bw
open Bs Bx Bi
theorem gT : Tryd.prog.globalNamed "math/bits.deBruijn64tab" = some 0 := by kernel_rfl
theorem tT : (Tryd.prog.globals[0]?).map (·.type) = some 117 := by kernel_rfl
theorem c8 : Tryd.prog.cellsOf 5 = 1 := by kernel_rfl
theorem tab_of_laid {W : World} (h : laidMetH Tryd.prog [("math/bits.deBruijn64tab", Rows.laid_math_bits_deBruijn64tab)] W) : Tab W := by
  have h' : laidMet Tryd.prog [("math/bits.deBruijn64tab", Rows.laid_math_bits_deBruijn64tab)] W := h
  obtain ⟨ps, ⟨g, t, cs, fuel, p, q, hg, ht, hv, hd, _, _⟩, _, _⟩ := h'
  obtain rfl := Option.some.inj (gT.symm.trans hg)
  obtain rfl := Option.some.inj (tT.symm.trans ht)
  obtain ⟨xs, m, rfl, hx, hl, hn, hi⟩ := DataW.trod_array Tryd.underlying117 hd
  have hm : xs.map (·.1) = Lib.deBruijn64tab.map fun (k : Nat) => (DataW.lit (.int .u8 (k : Int)) : DataW Unit) := by
    have e := (congrArg Prod.fst hx).symm
    exact DataW.agg.inj e
  intro j hj
  have h1 := hi j hj
  have hjx : j < xs.length := by rw [hn]; exact hj
  rw [List.getElem?_eq_getElem hjx, c8, Nat.mul_one] at h1
  obtain ⟨k, e1, e2, _⟩ := DataW.trod_int Tryd.underlying5 h1
  have e3 := congrArg (fun l : List (DataW Unit) => l[j]?) hm
  simp only [List.getElem?_map, List.getElem?_eq_getElem hjx, Option.map_some, e2] at e3
  have hjt : j < Lib.deBruijn64tab.length := hj
  rw [List.getElem?_eq_getElem hjt, Option.map_some] at e3
  simp only [Option.some.injEq, DataW.lit.injEq, Lit.int.injEq, true_and] at e3
  rw [World.var?_cell gT hv j, List.getD_eq_getElem?_getD, List.getElem?_eq_getElem hjt, Option.getD_some, ← e3]
  have e4 := congrArg (fun l : List Value => l[0]?) e1
  simp only [List.getElem?_cons_zero] at e4
  rw [List.getElem?_take, List.getElem?_drop] at e4
  simpa using e4
/-- What the rows list of the package-level variables. -/
abbrev ls : List (String × DataW Unit) := [("math/bits.deBruijn64tab", Rows.laid_math_bits_deBruijn64tab)]
end Bw
end Go.Proofs.YtpappcmgnnmbeaaDoor
namespace Go.Proofs.YtpappcmgnnmbeaaDoor
set_option maxRecDepth 20000
open Go.RowKit Go.ChangeShapes Go.WideShapes
namespace Wd
theorem open_sl {H : Type} {enc : TypeId × Value → H} {P : Program} {W : World} {r : Reach} {base0 base : Nat} {spare : Nat → Bool} {held : Bool} {t e : TypeId} {k : IntKind} {v : Value} {d : DataW H} {ps : List MemPlace}
    (ht : P.underlying t = some (.slice e)) (he : P.underlying e = some (.int k)) (hc : P.cellsOf e = 1) (hok : Value.okWide P W r base0 t v) (h : DataW.Trod enc P W base spare held t v d ps) :
    ∃ A n c xs, v = .slice A n c ∧ Sl W k A n c xs ∧ Fits k xs := by
  obtain ⟨A, n, c, rfl⟩ := okWide_slice ht hok
  obtain ⟨fuel, hf⟩ := h
  rcases open_ints ht he hc hf with ⟨hcs, _⟩ | ⟨x, l, cc, zs, hcs, _, hl, hm, hz, _, hcell, hwz⟩
  · simp [Value.cells] at hcs
    obtain ⟨rfl, rfl, rfl⟩ := hcs
    exact ⟨none, 0, 0, [], rfl, Sl.none_ _ _, fun x hx => by simp at hx⟩
  · simp [Value.cells] at hcs
    obtain ⟨rfl, rfl, rfl⟩ := hcs
    have hlz : n ≤ zs.length := by rw [hz]; split <;> omega
    refine ⟨_, _, _, zs.take n, rfl, ⟨by simp [hlz], hl, hm, by simp, ?_⟩, fun y hy => hwz y (List.mem_of_mem_take hy)⟩
    refine Rd.take (fun j hj => ?_) n
    obtain ⟨b, o, rfl, h1⟩ := ints_at hcell (by omega)
    have h2 := h1 j hj
    exact ⟨b, o, rfl, World.block_lt_of_cell? W ⟨b, o + j, none⟩ h2, h2⟩
end Wd
end Go.Proofs.YtpappcmgnnmbeaaDoor
