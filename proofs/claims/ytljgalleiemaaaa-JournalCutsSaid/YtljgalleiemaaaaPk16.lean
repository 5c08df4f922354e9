/- Package journal: an entry's fields, as pointers; its bytes. Package journal: Put of an entry that may be. Words on memory, over any program: a slice of numbers stays where other blocks turn; a slice of bytes does not lie in a block that holds no byte. Words on memory, over any program: values that are slices of bytes, of whomever; a store into a row of the call's own. -/
import Derived.Deep.Slices
import Derived.Test.YtljgalleiemaaaaPk14
import Derived.Test.YtljgalleiemaaaaPk15
import Derived.Test.YtljgalleiemaaaaPk08
import Derived.Test.YtljgalleiemaaaaPk09
import Derived.Test.YtljgalleiemaaaaPk01
import Derived.Test.YtljgalleiemaaaaPk02
namespace Go.Proofs.Ytljgalleiemaaaa
set_option maxRecDepth 20000
open Go.RowKit
namespace Wd
section
variable {P : Program} (w : World)
/-- append(out, a, b, ..) of values of one cell onto a row of the call's own, as one step of a region that draws. -/
theorem step_appM {ops : Array Oper} {o : Oper} {a : Act} {K : Act → World → Prop} {Q : Exit → Act → World → Prop} {E : Prop} (hgd : o.guard = none) (s x : Operand) (t : TypeId)
    (ho : o.op = .call { callee := .builtin .append, args := #[s, x], argTypes := #[t, t] })
    (B : Nat) (e : TypeId) (i : TypeInfo) (z : Value) (bytes : Nat) (ht : P.underlying t = some (.slice e)) (hi : P.info? e = some i) (hz : i.zero = some z)
    (hsize : i.size = 1) (hby : i.bytes = bytes) (hzs : z.cells.size = 1)
    (v : Value) (k : Nat) (xs : List Value) (hs : a.eval s = v) (hown : w.ownsRow B e 1 v k xs)
    (ad : Addr) (m c : Nat) (us : List Value) (hx : a.eval x = .slice (some ad) m c) (hm : m = us.length) (hc : ∀ j u, us[j]? = some u → w.cell? (ad.add j) = some u) (h1 : ∀ u ∈ us, u.oneCell' = true)
    (h63 : k + m ≤ maxLen) (hbytes : (k + m) * bytes ≤ 140737488355328) (hB : B ≤ w.heap.size)
    (h : ∀ v' w', w'.ownsRow B e 1 v' (k + m) (xs ++ us) → w.grownBy w' v.ownBlock → K (a.put o.dst v') w') : if Region.wanted o (yielded ops a.tmps) = true then Oper.wp P o a w K Q else E := by
  rw [if_pos (by simp [Region.wanted, hgd])]
  obtain ⟨v', w', hrun, h2, h3, _⟩ := run_append_own (P := P) w B t o.type e i z 1 bytes ht hi hz hsize hby hzs (by decide) v k xs hown ad m c us (by omega) hc h1 h63 hbytes hB
  unfold Oper.wp
  simp [execOp, ho, resolve, invoke, builtin, hs, hx, hrun, Result.andThen]
  exact h v' w' h2 h3
end
end Wd
namespace Jr
open Jo (En May Wf Rg)
open Wd (Bx)
/-- Which fields the bytes of an entry of this kind consist of. -/
def idx (k : Int) : List Nat := [0, 1, 2] ++ (if k = 1 then [3, 4, 5, 6] else if k = 3 then [4] else [])
theorem idx_num {x : En} {k : Nat} (h : k < (idx x.kind).length) : (Jo.ev x)[(idx x.kind).getD k 0]? = some (.int .i64 ((Jo.nums x).getD k 0)) := by
  unfold idx Jo.nums at *
  by_cases h1 : x.kind = 1
  · rw [if_pos h1] at h
    rw [if_pos h1, if_pos h1]
    match k, h with
    | 0, _ => rfl
    | 1, _ => rfl
    | 2, _ => rfl
    | 3, _ => rfl
    | 4, _ => rfl
    | 5, _ => rfl
    | 6, _ => rfl
  · rw [if_neg h1] at h
    rw [if_neg h1, if_neg h1]
    by_cases h3 : x.kind = 3
    · rw [if_pos h3] at h
      rw [if_pos h3, if_pos h3]
      match k, h with
      | 0, _ => rfl
      | 1, _ => rfl
      | 2, _ => rfl
      | 3, _ => rfl
    · rw [if_neg h3] at h
      rw [if_neg h3, if_neg h3]
      match k, h with
      | 0, _ => rfl
      | 1, _ => rfl
      | 2, _ => rfl
theorem idx_len (x : En) : (idx x.kind).length = (Jo.nums x).length := by
  unfold idx Jo.nums
  by_cases h1 : x.kind = 1
  · rw [if_pos h1, if_pos h1]; rfl
  · rw [if_neg h1, if_neg h1]
    by_cases h3 : x.kind = 3
    · rw [if_pos h3, if_pos h3]; rfl
    · rw [if_neg h3, if_neg h3]; rfl
theorem idx_lt {k : Int} {m : Nat} (h : m < (idx k).length) : (idx k).getD m 0 < 7 := by
  have : ∀ i ∈ idx k, i < 7 := by
    intro i hi
    unfold idx at hi
    split at hi
    · simp at hi; omega
    · split at hi <;> simp at hi <;> omega
  rw [List.getD_eq_getElem?_getD, List.getElem?_eq_getElem h]
  exact this _ (List.getElem_mem h)
/-- Pointers to fields of block b. -/
def ptrs (b : Nat) (l : List Nat) : List Value := l.map fun i => .pointer (some ⟨b, i, none⟩)
theorem ptrs_one (b : Nat) (l : List Nat) : ∀ u ∈ ptrs b l, u.oneCell' = true := by
  intro u hu
  obtain ⟨i, _, rfl⟩ := List.mem_map.1 hu
  rfl
/-- The slice of pointers that fields answers. -/
structure Fp (w : World) (B b g c : Nat) (l : List Nat) : Prop where
  lo : B ≤ g
  lt : g < w.heap.size
  cap : l.length ≤ c
  at_ : ∀ j, j < l.length → w.cell? ⟨g, j, none⟩ = some (.pointer (some ⟨b, l.getD j 0, none⟩))
theorem Fp.below {w w' : World} {B b g c : Nat} {l : List Nat} (h : Fp w B b g c l) (hb : Below w.heap.size w w') : Fp w' B b g c l :=
  ⟨h.lo, Nat.lt_of_lt_of_le h.lt hb.size, h.cap, fun j hj => (hb.cell (p := ⟨g, j, none⟩) h.lt).trans (h.at_ j hj)⟩
theorem Fp.other {w w' : World} {B b g c : Nat} {l : List Nat} (h : Fp w B b g c l) (hs : w.heap.size ≤ w'.heap.size) (hk : w'.heap[g]? = w.heap[g]?) : Fp w' B b g c l :=
  ⟨h.lo, Nat.lt_of_lt_of_le h.lt hs, h.cap, fun j hj => (World.cell?_of_block (a := ⟨g, j, none⟩) hk).trans (h.at_ j hj)⟩
def OutF (w : World) (b : Nat) (l : List Nat) (e : Ending) (w' : World) : Prop := ∃ g c, e = .returned (.slice (some ⟨g, 0, none⟩) l.length c) ∧ Fp w' w.heap.size b g c l ∧ Below w.heap.size w w'
theorem outF_own {w w' : World} {e : TypeId} {b : Nat} {l : List Nat} {v : Value} {n : Nat} (h : w'.ownsRow w.heap.size e 1 v n (ptrs b l)) (hn : n = l.length) (hl : 0 < l.length) (hb : Below w.heap.size w w') : OutF w b l (.returned v) w' := by
  subst hn
  rcases h.2 with ⟨_, h0⟩ | ⟨g, cap, cur, rfl, hg, hh, h1, h2, h3, h4⟩
  · omega
  · refine ⟨g, cap, rfl, ⟨hg, lt_of_block hh, h1, fun j hj => ?_⟩, hb⟩
    rw [h.cellAt (g := g) (cap := cap) j (by omega)]
    simp [ptrs, List.getD, hj]
theorem info_pt : (Try.prog.info? 82).map (fun i => (i.zero, i.size, i.bytes)) = some (some (.pointer none), 1, 8) := by kernel_rfl
set_option maxHeartbeats 4000000 in
theorem fields_any (b : Nat) (k : Int) (w : World) (hk : w.cell? ⟨b, 0, none⟩ = some (.int .i64 k)) (hb : b < w.heap.size) : Calls Try.prog 38 #[.pointer (some ⟨b, 0, none⟩)] w (OutF w b (idx k)) := by
  obtain ⟨i0, hi, hz0, hz1, hz2⟩ := info_parts info_pt
  have hbn : b ≠ w.heap.size := by omega
  by_cases h1 : k = 1
  · subst h1
    rw [show idx 1 = [0, 1, 2, 3, 4, 5, 6] from rfl]
    have ow := World.ownsRow_lit (base := w.heap.size) (e := 82) (size := 1) w #[.pointer (some ⟨b, 0, none⟩), .pointer (some ⟨b, 1, none⟩), .pointer (some ⟨b, 2, none⟩)] 3 (Nat.le_refl _) (by simp [maxLen]) rfl
    have al := ((Below.refl w.heap.size w).alloc (Nat.le_refl _) (.cells #[.pointer (some ⟨b, 0, none⟩), .pointer (some ⟨b, 1, none⟩), .pointer (some ⟨b, 2, none⟩)] 82)).drew
    obtain ⟨w1, hw1⟩ : ∃ w1, w1 = (w.alloc (.cells #[.pointer (some ⟨b, 0, none⟩), .pointer (some ⟨b, 1, none⟩), .pointer (some ⟨b, 2, none⟩)] 82)).drew := ⟨_, rfl⟩
    have ow : w1.ownsRow w.heap.size 82 1 (.slice (some ⟨w.heap.size, 0, none⟩) 3 3) 3 (ptrs b [0, 1, 2]) := by rw [hw1]; exact ow
    rw [← hw1] at al
    have hk1 := (al.cell (p := ⟨b, 0, none⟩) hb).trans hk
    have OW := Lib.hid ow
    have AL := Lib.hid al
    have Hw1 := Lib.hid hw1
    have hz1s := al.size
    clear ow al hw1
    go_enter Try.func38, Try.ntmps38
    go_upto_region 1 with fail
    go_region
    rw [← Hw1.out]
    go_upto_region 4 with fail
    have A5 : Below w.heap.size w (w1.drew.alloc (.cells #[.pointer (some ⟨b, 3, none⟩), .pointer (some ⟨b, 4, none⟩), .pointer (some ⟨b, 5, none⟩), .pointer (some ⟨b, 6, none⟩)] 82)) := AL.out.drew.alloc AL.out.size _
    have O5 : (w1.drew.alloc (.cells #[.pointer (some ⟨b, 3, none⟩), .pointer (some ⟨b, 4, none⟩), .pointer (some ⟨b, 5, none⟩), .pointer (some ⟨b, 6, none⟩)] 82)).ownsRow w.heap.size 82 1 (.slice (some ⟨w.heap.size, 0, none⟩) 3 3) 3 (ptrs b [0, 1, 2]) := OW.out.drew.alloc _
    have N5 : ∀ j u, (ptrs b [3, 4, 5, 6])[j]? = some u → (w1.drew.alloc (.cells #[.pointer (some ⟨b, 3, none⟩), .pointer (some ⟨b, 4, none⟩), .pointer (some ⟨b, 5, none⟩), .pointer (some ⟨b, 6, none⟩)] 82)).cell? ((⟨w1.heap.size, 0, none⟩ : Addr).add j) = some u := fun j u hu => by
      rw [Addr.add_lit, Nat.zero_add]
      exact ((Bx.new w1.drew 82 _).cell j).trans (by rw [List.getElem?_toArray]; exact hu)
    have hz5 := A5.size
    go_region_law (refine Wd.step_appM _ rfl (.tmp 20) (.tmp 33) 79 rfl w.heap.size 82 i0 _ 8 Try.underlying79 hi hz0 hz1 hz2 rfl (.slice (some ⟨w.heap.size, 0, none⟩) 3 3) 3 (ptrs b [0, 1, 2]) rfl O5 ⟨w1.heap.size, 0, none⟩ 4 4 (ptrs b [3, 4, 5, 6]) rfl rfl N5 (ptrs_one b _) (by simp [maxLen]) (by omega) hz5 ?_; intro v6 w6 hO6 hg6; have hb6 : Below w.heap.size w w6 := A5.grown hg6 hz5 fun g hg => (O5.lt g hg).1)
    all_goals (
      go_wp2_with fail
      go_ret
      exact outF_own (l := [0, 1, 2, 3, 4, 5, 6]) hO6 rfl (by simp) hb6)
  · by_cases h3 : k = 3
    · subst h3
      rw [show idx 3 = [0, 1, 2, 4] from rfl]
      have ow := World.ownsRow_lit (base := w.heap.size) (e := 82) (size := 1) w #[.pointer (some ⟨b, 0, none⟩), .pointer (some ⟨b, 1, none⟩), .pointer (some ⟨b, 2, none⟩)] 3 (Nat.le_refl _) (by simp [maxLen]) rfl
      have al := ((Below.refl w.heap.size w).alloc (Nat.le_refl _) (.cells #[.pointer (some ⟨b, 0, none⟩), .pointer (some ⟨b, 1, none⟩), .pointer (some ⟨b, 2, none⟩)] 82)).drew
      obtain ⟨w1, hw1⟩ : ∃ w1, w1 = (w.alloc (.cells #[.pointer (some ⟨b, 0, none⟩), .pointer (some ⟨b, 1, none⟩), .pointer (some ⟨b, 2, none⟩)] 82)).drew := ⟨_, rfl⟩
      have ow : w1.ownsRow w.heap.size 82 1 (.slice (some ⟨w.heap.size, 0, none⟩) 3 3) 3 (ptrs b [0, 1, 2]) := by rw [hw1]; exact ow
      rw [← hw1] at al
      have hk1 := (al.cell (p := ⟨b, 0, none⟩) hb).trans hk
      have OW := Lib.hid ow
      have AL := Lib.hid al
      have Hw1 := Lib.hid hw1
      have hz1s := al.size
      clear ow al hw1
      go_enter Try.func38, Try.ntmps38
      go_upto_region 1 with fail
      go_region
      rw [← Hw1.out]
      go_upto_region 6 with fail
      have A5 : Below w.heap.size w (w1.alloc (.cells #[.pointer (some ⟨b, 4, none⟩)] 82)) := AL.out.alloc AL.out.size _
      have O5 : (w1.alloc (.cells #[.pointer (some ⟨b, 4, none⟩)] 82)).ownsRow w.heap.size 82 1 (.slice (some ⟨w.heap.size, 0, none⟩) 3 3) 3 (ptrs b [0, 1, 2]) := OW.out.alloc _
      have N5 := (Bx.new w1 82 #[.pointer (some ⟨b, 4, none⟩)]).cell 0
      have hz5 := A5.size
      go_wp2_with (at_builtin; refine Wd.wpList_app1v _ rfl (.tmp 37) (.tmp 41) 79 rfl w.heap.size 82 i0 _ 8 Try.underlying79 hi hz0 hz1 hz2 rfl (.slice (some ⟨w.heap.size, 0, none⟩) 3 3) 3 (ptrs b [0, 1, 2]) rfl O5 ⟨w1.heap.size, 0, none⟩ (.pointer (some ⟨b, 4, none⟩)) rfl N5 rfl rfl (by simp [maxLen]) (by omega) hz5 ?_; intro v6 w6 hO6 hg6; have hb6 : Below w.heap.size w w6 := A5.grown hg6 hz5 fun g hg => (O5.lt g hg).1)
      go_ret
      exact outF_own (l := [0, 1, 2, 4]) hO6 rfl (by simp) hb6
    · have k1 : (k == 1) = false := by simpa using h1
      have k3 : (k == 3) = false := by simpa using h3
      rw [show idx k = [0, 1, 2] by unfold idx; rw [if_neg h1, if_neg h3]; rfl]
      have ow := World.ownsRow_lit (base := w.heap.size) (e := 82) (size := 1) w #[.pointer (some ⟨b, 0, none⟩), .pointer (some ⟨b, 1, none⟩), .pointer (some ⟨b, 2, none⟩)] 3 (Nat.le_refl _) (by simp [maxLen]) rfl
      have OW := Lib.hid ow
      clear h1 h3 hi hz0 hz1 hz2 ow
      go_enter Try.func38, Try.ntmps38
      go_wp2_with fail
      go_region
      go_wp2_with fail
      go_ret
      refine outF_own (l := [0, 1, 2]) (e := 82) ?_ rfl (by simp) ?_
      · exact OW.out
      · exact ((Below.refl w.heap.size w).alloc (Nat.le_refl _) _).drew
end Jr
end Go.Proofs.Ytljgalleiemaaaa
namespace Go.Proofs.Ytljgalleiemaaaa
set_option maxRecDepth 20000
open Go.RowKit
namespace Jr
open Jo (En May Wf Rg nums)
open Wd (Bx Sl)
open Nc
/-- The bytes of the first k numbers. -/
def pk (x : En) (k : Nat) : List Int := ((nums x).take k).flatMap Nm.vd
theorem pk_next {x : En} {k : Nat} (h : k < (nums x).length) : pk x (k + 1) = pk x k ++ Nm.vd ((nums x).getD k 0) := by
  unfold pk
  rw [List.take_succ_eq_append_getElem h, List.flatMap_append, List.getD_eq_getElem?_getD, List.getElem?_eq_getElem h]
  simp
theorem pk_all (x : En) : pk x (nums x).length = Jo.put x := by unfold pk Jo.put; rw [List.take_length]
theorem pk_len (x : En) (k : Nat) : (pk x k).length ≤ 70 := by
  have h1 := Jo.flat_len ((nums x).take k)
  have h2 := Jo.nums_len x
  unfold pk
  rw [List.length_take] at h1
  omega
set_option maxHeartbeats 4000000 in
theorem put_ok (x : En) (w : World) (hx : May x) : Calls Try.prog 24 #[.agg #[.int .i64 x.kind, .int .i64 x.part, .int .i64 x.id, .int .i64 x.st, .int .i64 x.en, .int .i64 x.size, .int .i64 x.sum]] w (Wd.Out2 w .u8 (Jo.put x) 0) := by
  have al := (Below.refl w.heap.size w).alloc (Nat.le_refl _) (.cells #[.int .i64 x.kind, .int .i64 x.part, .int .i64 x.id, .int .i64 x.st, .int .i64 x.en, .int .i64 x.size, .int .i64 x.sum] 32)
  have bx := Bx.new w 32 #[.int .i64 x.kind, .int .i64 x.part, .int .i64 x.id, .int .i64 x.st, .int .i64 x.en, .int .i64 x.size, .int .i64 x.sum]
  obtain ⟨w1, hw1⟩ : ∃ w1, w1 = w.alloc (.cells #[.int .i64 x.kind, .int .i64 x.part, .int .i64 x.id, .int .i64 x.st, .int .i64 x.en, .int .i64 x.size, .int .i64 x.sum] 32) := ⟨_, rfl⟩
  rw [← hw1] at al bx
  have Cm := may_any x w1
  rw [tr_yes hx] at Cm
  have Cm := Lib.hid Cm
  have HX := Lib.hid hx
  have XB := Lib.hid bx
  have B1 := Lib.hid al
  have Hw1 := Lib.hid hw1
  clear al bx hw1 hx
  obtain ⟨x0, x1, x2, x3, x4, x5, x6⟩ := seven XB.out
  go_enter Try.func24, Try.ntmps24
  go_upto_region 1 with fail
  rw [← Hw1.out]
  go_wp2_with fail
  refine Cm.out.mono ?_
  rintro e w2 ⟨rfl, hB2⟩
  have XB2 := Lib.hid (XB.out.below XB.out.lt hB2)
  have B2 := Lib.hid (B1.out.trans (hB2.mono B1.out.size))
  have Cf := Lib.hid (fields_any w.heap.size x.kind w2 (XB2.out.cell 0) XB2.out.lt)
  clear hB2 x0 x1 x2 x3 x4 x5 x6
  go_wp2_with fail
  refine Cf.out.mono ?_
  rintro e w3 ⟨g, c, rfl, hF, hB3⟩
  have XB3 := Lib.hid (XB2.out.below XB2.out.lt hB3)
  have B3 := Lib.hid (B2.out.trans (hB3.mono B2.out.size))
  have HF := Lib.hid hF
  obtain ⟨m, hm⟩ : ∃ m, m = (idx x.kind).length := ⟨_, rfl⟩
  have hcap := hF.cap
  rw [← hm] at hcap ⊢
  have hm7 : m ≤ 7 := by rw [hm, idx_len]; exact Jo.nums_len x
  have Hm := Lib.hid hm
  have Hmn := Lib.hid (hm.trans (idx_len x))
  clear hF hB3 hm
  go_wp2_with fail
  go_loopw [4, 6, 12] (fun v _ i wr => ∃ k : Nat, i = .int .i64 k ∧ k ≤ m ∧ ∃ A n c, v = .slice A n c ∧ Hid (Sl wr .u8 A n c (pk x k)) ∧ Hid (Below w3.heap.size w3 wr)) (fun _ _ i _ => m - (intOf i).toNat)
  case atStart => exact ⟨0, rfl, Nat.zero_le _, none, 0, 0, rfl, Lib.hid (Sl.none_ _ _), Lib.hid (Below.refl _ _)⟩
  case round =>
    obtain ⟨k, rfl, hk, A, n, c', rfl, hS, hB⟩ := hrel
    by_cases hlt : k < m
    · have hkI : (k : Int) < (m : Int) := by omega
      have hki : k < (idx x.kind).length := by rw [← Hm.out]; exact hlt
      have hg := (HF.out.below hB.out).at_ k hki
      obtain ⟨o, ho⟩ : ∃ o, o = (idx x.kind).getD k 0 := ⟨_, rfl⟩
      have hc := (XB3.out.below XB3.out.lt hB.out).cell o
      have hz0 := idx_num hki
      obtain ⟨z, hz⟩ : ∃ z, z = (nums x).getD k 0 := ⟨_, rfl⟩
      have hin := Jo.nums_in HX.out z (by rw [hz, List.getD_eq_getElem?_getD, List.getElem?_eq_getElem (by rw [← Hmn.out]; exact hlt)]; exact List.getElem_mem _)
      rw [← ho] at hg hz0
      rw [← hz] at hz0
      have hz0' : (#[.int .i64 x.kind, .int .i64 x.part, .int .i64 x.id, .int .i64 x.st, .int .i64 x.en, .int .i64 x.size, .int .i64 x.sum] : Array Value)[o]? = some (.int .i64 z) := by
        show ((Jo.ev x).toArray)[o]? = _
        rw [List.getElem?_toArray]
        exact hz0
      rw [hz0'] at hc
      have nx := pk_next (x := x) (k := k) (by rw [← Hmn.out]; exact hlt)
      rw [← hz] at nx
      have Cp := putLen_any A n c' (pk x k) z wr hS.out (by have := hS.out.len; have := pk_len x k; omega) (by omega) (by omega)
      rw [if_neg (by omega), ← nx] at Cp
      have Cp := Lib.hid Cp
      clear hki ho hz0 hz hin hz0' nx
      go_wp2_with fail
      refine Cp.out.mono ?_
      rintro e w4 ⟨A4, n4, c4, rfl, hS4, hB4⟩
      have HS4 := Lib.hid hS4
      have HB4 := Lib.hid (hB.out.trans (hB4.mono hB.out.size))
      clear hS4 hB4 hg hc
      go_wp2_with fail
      go_roundw
      case rel => exact ⟨k + 1, by go_num, by omega, A4, n4, c4, rfl, HS4, HB4⟩
      case measure => simp [intOf]; omega
    · have hkI : ¬ (k : Int) < (m : Int) := by omega
      obtain rfl : k = m := by omega
      have hs := hS.out
      rw [Hmn.out, pk_all] at hs
      have HS := Lib.hid hs
      clear hs
      go_wp2_with fail
      go_ret2
      exact ⟨A, n, c', rfl, HS.out, B3.out.trans (hB.out.mono B3.out.size)⟩
end Jr
end Go.Proofs.Ytljgalleiemaaaa
namespace Go.Proofs.Ytljgalleiemaaaa
set_option maxRecDepth 20000
open Go.RowKit
namespace Wd
theorem Sl.keep {w w' : World} {k : IntKind} {A : Option Addr} {n c : Nat} {ys : List Int} {G : Nat → Prop} (h : Sl w k A n c ys) (mv : Mv G w w') (hA : ∀ a, A = some a → ys ≠ [] → ¬ G a.block) : Sl w' k A n c ys :=
  ⟨h.len, h.cap, h.max, h.nil, fun j hj => by
    obtain ⟨b, o, e, hlt, hc⟩ := h.rd j hj
    refine ⟨b, o, e, Nat.lt_of_lt_of_le hlt mv.size, ?_⟩
    have hb := mv.keep b hlt (hA _ e (List.ne_nil_of_length_pos (by omega)))
    simp only [World.cell?, hb] at hc ⊢
    exact hc⟩
/-- A slice of bytes does not lie in a block that holds no byte. -/
theorem Sl.apart {w : World} {g : Nat} {t : TypeId} {cs : List Value} {A : Option Addr} {n c : Nat} {ys : List Int} (h : Sl w .u8 A n c ys) (hb : Bx w g t cs.toArray) (hn : ∀ v ∈ cs, ∀ x, v ≠ .int .u8 x) : ∀ a, A = some a → ys ≠ [] → a.block ≠ g := by
  intro a ha hv
  obtain ⟨b, f, e, _, hc⟩ := h.rd 0 (List.length_pos_iff.2 hv)
  rw [e] at ha
  cases ha
  rintro rfl
  rw [hb.cell, List.getElem?_toArray] at hc
  exact hn _ (List.mem_of_getElem? hc) _ rfl
end Wd
end Go.Proofs.Ytljgalleiemaaaa
namespace Go.Proofs.Ytljgalleiemaaaa
set_option maxRecDepth 20000
open Go.RowKit
namespace Wd

/-- The values us are slices that hold the bytes ys. -/
def Gs (w : World) (us : List Value) (ys : List (List Int)) : Prop :=
  us.length = ys.length ∧ ∀ j, j < ys.length → ∃ A n c, us[j]? = some (.slice A n c) ∧ Sl w .u8 A n c (ys.getD j [])
theorem Gs.below {w w' : World} {us : List Value} {ys : List (List Int)} (h : Gs w us ys) (hb : Below w.heap.size w w') : Gs w' us ys :=
  ⟨h.1, fun j hj => by
    obtain ⟨A, n, c, e, hs⟩ := h.2 j hj
    exact ⟨A, n, c, e, hs.below hb⟩⟩
theorem Gs.app {w : World} {us vs : List Value} {ys zs : List (List Int)} (h : Gs w us ys) (k : Gs w vs zs) : Gs w (us ++ vs) (ys ++ zs) := by
  refine ⟨by rw [List.length_append, List.length_append, h.1, k.1], fun j hj => ?_⟩
  rw [List.length_append] at hj
  by_cases q : j < ys.length
  · obtain ⟨A, n, c, e, hs⟩ := h.2 j q
    refine ⟨A, n, c, by rw [List.getElem?_append_left (by rw [h.1]; exact q)]; exact e, ?_⟩
    rwa [show (ys ++ zs).getD j [] = ys.getD j [] by simp only [List.getD]; rw [List.getElem?_append_left q]]
  · obtain ⟨A, n, c, e, hs⟩ := k.2 (j - ys.length) (by omega)
    refine ⟨A, n, c, by rw [List.getElem?_append_right (by rw [h.1]; omega), h.1]; exact e, ?_⟩
    rwa [show (ys ++ zs).getD j [] = zs.getD (j - ys.length) [] by simp only [List.getD]; rw [List.getElem?_append_right (by omega)]]
theorem Gs.one {w : World} {us : List Value} {ys : List (List Int)} (h : Gs w us ys) : ∀ u ∈ us, u.oneCell' = true := fun u hu => by
  obtain ⟨j, hj, rfl⟩ := List.getElem_of_mem hu
  obtain ⟨A, n, c, e, _⟩ := h.2 j (by rw [← h.1]; exact hj)
  rw [List.getElem?_eq_getElem hj, Option.some.injEq] at e
  rw [e]
  rfl
theorem Ss.gs {w : World} {A : Option Addr} {n c : Nat} {ys : List (List Int)} (h : Ss w A n c ys) : ∃ us, n = us.length ∧ (A = none → us = [] ∧ c = 0) ∧ (∀ ad, A = some ad → ∀ j u, us[j]? = some u → w.cell? (ad.add j) = some u) ∧ Gs w us ys := by
  have hn := h.len
  obtain ⟨V, hV⟩ := Go.Deep.choose_lt (α := Value) (n := n) (p := fun j v => ∃ b o A' n' c', A = some ⟨b, o, none⟩ ∧ w.cell? ⟨b, o + j, none⟩ = some v ∧ v = .slice A' n' c' ∧ Sl w .u8 A' n' c' (ys.getD j [])) (fun j hj => by
    obtain ⟨b, o, A', n', c', e, _, hc, hs⟩ := h.at_ j (by omega)
    exact ⟨_, b, o, A', n', c', e, hc, rfl, hs⟩)
  refine ⟨(List.range n).map V, by simp, fun hA => ?_, fun ad hA j u hu => ?_, by simp [hn], fun j hj => ?_⟩
  · have h0 := h.nil hA
    have : n = 0 := by have := h.cap; omega
    subst this
    exact ⟨rfl, h0⟩
  · have hj : j < n := by
      have := (List.getElem?_eq_some_iff.1 hu).1
      simpa using this
    obtain ⟨b, o, A', n', c', e, hc, hv, _⟩ := hV j hj
    rw [hA] at e
    cases e
    rw [Addr.add_lit, hc]
    simp [hj] at hu
    rw [hu]
  · obtain ⟨b, o, A', n', c', e, hc, hv, hs⟩ := hV j (by omega)
    exact ⟨A', n', c', by simp [show j < n by omega, hv], hs⟩
theorem Ss.of_gs {w : World} {base n : Nat} {e' : TypeId} {v : Value} {us : List Value} {ys : List (List Int)} (h : w.ownsRow base e' 1 v n us) (hs : Gs w us ys) : ∃ A n c, v = .slice A n c ∧ Ss w A n c ys := by
  have hn : n = ys.length := by have := h.1; rw [hs.1] at this; omega
  subst hn
  rcases h.2 with ⟨rfl, h0⟩ | ⟨g, cap, cur, rfl, hb, hg, h1, h2, h3, h4⟩
  · obtain rfl := List.eq_nil_of_length_eq_zero h0
    exact ⟨none, 0, 0, rfl, Ss.none_ _⟩
  · refine ⟨_, _, _, rfl, ⟨rfl, h1, h2, by simp, fun j hj => ?_⟩⟩
    obtain ⟨A', n', c', e1, hS⟩ := hs.2 j hj
    refine ⟨g, 0, A', n', c', rfl, (Array.getElem?_eq_some_iff.1 hg).1, ?_, hS⟩
    have := h.cellAt (g := g) (cap := cap) j (by omega)
    rw [Nat.zero_add, this]
    exact e1
/-- A store into a row of the call's own. -/
theorem own_set {w : World} {B n cap g : Nat} {e : TypeId} {k : IntKind} {xs : List Int} (h : w.ownsRow B e 1 (.slice (some ⟨g, 0, none⟩) n cap) n (xs.map (Value.int k))) (j : Nat) (x : Int) :
    (w.setCell ⟨g, j, none⟩ (.int k x)).ownsRow B e 1 (.slice (some ⟨g, 0, none⟩) n cap) n ((xs.set j x).map (Value.int k)) := by
  rcases h.2 with ⟨hq, _⟩ | ⟨g', cap', cur, hq, hb, hg, h1, h2, h3, h4⟩
  · cases hq
  · simp only [Value.slice.injEq, Option.some.injEq, Addr.mk.injEq, and_true, true_and] at hq
    obtain ⟨rfl, rfl⟩ := hq
    refine ⟨by simpa using h.1, .inr ⟨g, cap, _, rfl, hb, heap_setCell_same w g j cur e _ hg, h1, h2, by simpa using h3, ?_⟩⟩
    rw [Array.toList_setIfInBounds, List.take_set, h4, List.map_set]
/-- What is known of a row of the call's own, cell by cell. -/
theorem own_cell {w : World} {B n cap g : Nat} {e : TypeId} {k : IntKind} {xs : List Int} (h : w.ownsRow B e 1 (.slice (some ⟨g, 0, none⟩) n cap) n (xs.map (Value.int k))) (j : Nat) (hj : j < xs.length) :
    w.cell? ⟨g, j, none⟩ = some (.int k (xs.getD j 0)) ∧ w.frozen? ⟨g, j, none⟩ = false := by
  have h0 := h
  rcases h.2 with ⟨hq, _⟩ | ⟨g', cap', cur, hq, hb, hg, h1, h2, h3, h4⟩
  · cases hq
  · simp only [Value.slice.injEq, Option.some.injEq, Addr.mk.injEq, and_true, true_and] at hq
    obtain ⟨rfl, rfl⟩ := hq
    refine ⟨?_, frozen_of_row w g j cur e hg⟩
    have hn : n * 1 = xs.length := by have := h.1; simpa using this.symm
    have := h0.cellAt (g := g) (cap := cap) j (by omega)
    rw [this]
    simp [List.getD, List.getElem?_eq_getElem hj]
end Wd
end Go.Proofs.Ytljgalleiemaaaa
