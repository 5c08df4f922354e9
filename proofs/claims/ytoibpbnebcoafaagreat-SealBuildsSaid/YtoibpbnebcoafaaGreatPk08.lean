/- What the small reference functions of layer 2 do: Width, number, value, spread. Words on memory, over any program: a block that is known whole; a row that is filled place by place; a cut of a slice that begins at a known place. Columns in memory; rows of truths; the reference's width. -/
import Derived.WalkKit
import Derived.Lib.Hide
import Derived.Test.YtoibpbnebcoafaaGreatPk03
import Derived.Test.YtoibpbnebcoafaaGreatPk07
namespace Go.Proofs.YtoibpbnebcoafaaGreat
set_option maxRecDepth 20000
open Go.RowKit
namespace Bc

theorem refWidth_any (n : Int) (w : World) (h1 : -9223372036854775808 ≤ n) (h2 : n ≤ 9223372036854775807) :
    Calls Tryz.prog 92 #[.int .i64 n] w fun e w' => e = .returned (.int .i64 (wid n)) ∧ w = w' := by
  have hw := wid_63 n h2
  go_enter Tryz.func92, Tryz.ntmps92
  go_wp2_with fail
  go_loop [4, 3] (fun i d => ∃ (u : Int) (k : Nat), i = .int .i64 u ∧ d = .int .i64 k ∧ -9223372036854775808 ≤ u ∧ u ≤ 9223372036854775807 ∧ k + wid u = wid n) (fun i _ => (intOf i).toNat)
  case atStart => exact ⟨n, 0, rfl, rfl, h1, h2, by omega⟩
  case round =>
    obtain ⟨u, k, rfl, rfl, u1, u2, hk⟩ := hrel
    have Hk := Lib.hid hk
    have hk' : k ≤ 63 := by omega
    clear hk
    by_cases hlt : 0 < u
    · go_wp2_with fail
      go_round
      case rel =>
        have := Hk.out
        rw [wid_hi u hlt] at this
        refine ⟨u / 2, k + 1, rfl, by go_num, by omega, by omega, by omega⟩
      case measure => simp [intOf]; omega
    · go_wp2_with fail
      go_ret
      have := Hk.out
      rw [wid_lo u (by omega)] at this
      exact ⟨congrArg (fun x : Nat => Ending.returned (.int .i64 x)) (by simpa using this), rfl⟩

theorem toD1_succ (j : Nat) (n : Int) : Bt.toD 1 (j + 1) n = Bt.toD 1 j n ++ [n / 2 ^ j % 2] := by
  rw [Bt.toD_add]
  simp [Bt.toD, Bt.dig]

set_option maxHeartbeats 400000 in
theorem number_any (n : Int) (wd : Nat) (w : World) (h0 : 0 ≤ n) (h1 : n ≤ 9223372036854775807) (hwd : wd ≤ 62) :
    Calls Tryz.prog 93 #[.int .i64 n, .int .i64 wd] w (Wd.Out w .i64 (Bt.toD 1 wd n)) := by
  obtain ⟨i0, hi, hz0, hz1, hz2⟩ := info_parts info_int
  go_enter Tryz.func93, Tryz.ntmps93
  go_wp2_with fail
  go_loopw [0, 5, 6] (fun i v k wr => ∃ (j : Nat) (u : Int), k = .int .i64 j ∧ j ≤ wd ∧ i = .int .i64 u ∧ u = n / 2 ^ j ∧ wr.ownsRow w.heap.size 3 1 v (Bt.toD 1 j n).length ((Bt.toD 1 j n).map (Value.int .i64)) ∧ Below w.heap.size w wr) (fun _ _ k _ => wd - (intOf k).toNat)
  case atStart => exact ⟨0, n, rfl, Nat.zero_le _, rfl, by simp, World.ownsRow_nil _ _ _ _, Below.refl _ _⟩
  case round =>
    obtain ⟨j, u, rfl, hj, rfl, hu, hown, hb⟩ := hrel
    have hu0 : 0 ≤ u := by rw [hu]; exact Int.ediv_nonneg h0 (by have := Bt.p0 j; omega)
    have hu1 : u ≤ 9223372036854775807 := by rw [hu]; have := Int.ediv_le_self (2 ^ j) h0; omega
    have Hu := Lib.hid hu
    have hsz := hb.size
    have hln := Bt.toD_len 1 j n
    have hln' : (Bt.toD 1 j n).length ≤ 62 := by omega
    clear hu hln
    by_cases hlt : j < wd
    · go_wp2_with (at_builtin; refine Wd.wpList_app _ rfl (.tmp 12) (.tmp 15) 25 rfl w.heap.size 3 i0 _ .i64 8 Tryz.underlying25 hi hz0 hz1 hz2 rfl _ (Bt.toD 1 j n) rfl (hown.alloc _) (wr.heap.size + 1) _ 1 1 [u % 2] rfl rfl (by simp) (Wd.Rd.lit wr .i64 [u % 2] _ _ rfl) (by simp; omega) (by simp [maxLen]; omega) (by simp; omega) ?_; intro v' w1 hown' hgrow)
      have hb' : Below w.heap.size w w1 := (hb.alloc hsz _).grown hgrow (by simp; omega) (fun g hg => (hown.lt g hg).1)
      have e : Bt.toD 1 j n ++ [u % 2] = Bt.toD 1 (j + 1) n := by rw [toD1_succ, Hu.out]
      rw [e] at hown'
      clear e hown hgrow hb
      go_roundw
      case rel =>
        refine ⟨j + 1, u / 2, by go_num, by omega, rfl, ?_, hown', hb'⟩
        have hp := Bt.p0 j
        rw [Hu.out, Int.ediv_ediv_of_nonneg (by omega), Int.pow_succ]
      case measure => simp [intOf]; omega
    · go_wp2_with fail
      go_ret
      obtain rfl : j = wd := by omega
      exact Wd.Out.of_own hown hb

theorem ofD1_lt {l : List Int} (h : Bt.InR 1 l) (n : Nat) (hn : l.length ≤ n) : Bt.ofD 1 l < 2 ^ n := by
  have h1 := Bt.ofD_hi h
  have h2 := Bt.pup (show 1 * l.length ≤ n by omega)
  omega

set_option maxHeartbeats 400000 in
theorem value_any (A : Option Addr) (m c : Nat) (l : List Int) (w : World) (hS : Wd.Sl w .i64 A m c l) (hB : Bt.InR 1 l) (hm : m ≤ 62) :
    Calls Tryz.prog 94 #[.slice A m c] w fun e w' => e = .returned (.int .i64 (Bt.ofD 1 l)) ∧ w = w' := by
  have hl := hS.len
  have Hl := Lib.hid hl
  have HB := Lib.hid hB
  clear hl hB
  go_enter Tryz.func94, Tryz.ntmps94
  go_wp2_with fail
  go_loop [3, 4] (fun s i => ∃ (k : Nat) (u : Int), i = .int .i64 ((k : Int) - 1) ∧ k ≤ m ∧ s = .int .i64 u ∧ u = Bt.ofD 1 (l.drop k)) (fun _ i => (intOf i + 1).toNat)
  case atStart => exact ⟨m, 0, rfl, Nat.le_refl _, rfl, by rw [List.drop_of_length_le (by rw [← Hl.out]; exact Nat.le_refl _)]; rfl⟩
  case round =>
    obtain ⟨k, u, rfl, hk, rfl, hu⟩ := hrel
    have hR : Bt.InR 1 (l.drop k) := fun x hx => HB.out x (List.mem_of_mem_drop hx)
    have hu0 : 0 ≤ u := by rw [hu]; exact Bt.ofD_lo hR
    have Hu := Lib.hid hu
    by_cases hlt : 0 < k
    · obtain ⟨j, rfl⟩ : ∃ j, k = j + 1 := ⟨k - 1, by omega⟩
      have hu1 : u < 2305843009213693952 := by
        rw [hu]
        have := ofD1_lt hR 61 (by rw [List.length_drop, ← Hl.out]; omega)
        rwa [show (2 : Int) ^ 61 = 2305843009213693952 by decide] at this
      have hjl : j < l.length := by rw [← Hl.out]; omega
      obtain ⟨b, o, rfl, hbB, hcell⟩ := hS.rd j hjl
      obtain ⟨x, hx⟩ : ∃ x, x = l.getD j 0 := ⟨_, rfl⟩
      have hx2 := HB.out x (by rw [hx]; simp [List.getD, hjl])
      have hx0 := hx2.1
      have hx1 : x ≤ 1 := by have := hx2.2; omega
      rw [← hx] at hcell
      have Hx := Lib.hid hx
      have i0 : (0 : Int) ≤ (j : Int) := by omega
      clear hx hx2 hu hR hjl
      go_wp2_with fail
      go_round
      case rel =>
        refine ⟨j, x + 2 * u, by go_num, by omega, by go_num, ?_⟩
        have hjl : j < l.length := by rw [← Hl.out]; omega
        rw [Hu.out, List.drop_eq_getElem_cons hjl, Hx.out]
        simp [Bt.ofD, List.getD, hjl]
      case measure => simp [intOf]
    · obtain rfl : k = 0 := by omega
      clear hu hR
      go_wp2_with fail
      go_ret
      refine ⟨?_, rfl⟩
      have := Hu.out
      rw [List.drop_zero] at this
      exact ret_int this

theorem InR.take {wd : Nat} {l : List Int} (h : Bt.InR wd l) (k : Nat) : Bt.InR wd (l.take k) := fun x hx => h x (List.mem_of_mem_take hx)
theorem take_next (l : List Int) (k : Nat) (h : k < l.length) : l.take (k + 1) = l.take k ++ [l.getD k 0] := by
  rw [List.take_succ_eq_append_getElem h]
  simp [List.getD, h]

set_option maxHeartbeats 400000 in
theorem spread_any (A : Option Addr) (m c : Nat) (bs : List Int) (w : World) (hS : Wd.Sl w .u8 A m c bs) (hB : Bt.InR 8 bs) (hm : m ≤ 1000000) :
    Calls Tryz.prog 107 #[.slice A m c] w (Wd.Out w .i64 (Bt.toD 1 (8 * m) (Bt.ofD 8 bs))) := by
  obtain ⟨i0, hi, hz0, hz1, hz2⟩ := info_parts info_int
  have hl := hS.len
  have Hl := Lib.hid hl
  have HB := Lib.hid hB
  clear hl hB
  go_enter Tryz.func107, Tryz.ntmps107
  go_wp2_with fail
  go_loopw [3, 4] (fun v i wr => ∃ (k : Nat), i = .int .i64 k ∧ k ≤ m ∧ wr.ownsRow w.heap.size 3 1 v (Bt.toD 1 (8 * k) (Bt.ofD 8 (bs.take k))).length ((Bt.toD 1 (8 * k) (Bt.ofD 8 (bs.take k))).map (Value.int .i64)) ∧ Below w.heap.size w wr) (fun _ i _ => m - (intOf i).toNat)
  case atStart => exact ⟨0, rfl, Nat.zero_le _, World.ownsRow_nil _ _ _ _, Below.refl _ _⟩
  case round =>
    obtain ⟨k, rfl, hk, hown, hb⟩ := hrel
    have hsz := hb.size
    have hln' : (Bt.toD 1 (8 * k) (Bt.ofD 8 (bs.take k))).length ≤ 8000000 := by rw [Bt.toD_len]; omega
    by_cases hlt : k < m
    · have hkl : k < bs.length := by rw [← Hl.out]; exact hlt
      obtain ⟨b, o, rfl, hbB, hcell0⟩ := hS.rd k hkl
      have hcell := (hb.cell (p := ⟨b, o + k, none⟩) hbB).trans hcell0
      obtain ⟨x, hx⟩ : ∃ x, x = bs.getD k 0 := ⟨_, rfl⟩
      have hx2 := HB.out x (by rw [hx]; simp [List.getD, hkl])
      have hx0 := hx2.1
      have hx1 : x ≤ 255 := by have := hx2.2; rw [show (2 : Int) ^ 8 = 256 by decide] at this; omega
      rw [← hx] at hcell
      have e : Bt.toD 1 (8 * (k + 1)) (Bt.ofD 8 (bs.take (k + 1))) = Bt.toD 1 (8 * k) (Bt.ofD 8 (bs.take k)) ++ Bt.toD 1 8 x := by
        rw [take_next bs k hkl, ← hx, Nat.mul_add, Nat.mul_one]
        exact Bt.toD_snoc (InR.take HB.out k) (by rw [List.length_take]; omega)
      have He := Lib.hid e
      clear hx hx2 hcell0 e hkl
      generalize Bt.toD 1 (8 * k) (Bt.ofD 8 (bs.take k)) = xs at *
      go_wp2_with fail
      refine (number_any x 8 wr hx0 (by omega) (by omega)).mono ?_
      rintro e w1 ⟨A1, n1, c1, rfl, hS1, hB1⟩
      have hown1 := Wd.own_below hown hB1
      have hb1 : Below w.heap.size w w1 := hb.trans (hB1.mono hsz)
      have Hn1 := Lib.hid hS1.len
      have hl8 := Bt.toD_len 1 8 x
      have hl8' : (Bt.toD 1 8 x).length ≤ 8 := by omega
      have hlt1 := hown.lt
      have hsz1 := hb1.size
      clear hown hl8 hB1 hb
      go_wp2_with (at_builtin; refine Wd.wpList_app _ rfl (.tmp 11) (.tmp 17) 25 rfl w.heap.size 3 i0 _ .i64 8 Tryz.underlying25 hi hz0 hz1 hz2 rfl _ xs rfl hown1 w1.heap.size A1 n1 c1 (Bt.toD 1 8 x) rfl Hn1.out hS1.nil hS1.rd (by omega) (by unfold maxLen; omega) hsz1 ?_; intro v' w2 hown2 hgrow)
      have hb2 : Below w.heap.size w w2 := hb1.grown hgrow hsz1 (fun g hg => (hlt1 g hg).1)
      rw [← He.out] at hown2
      clear hown1 hgrow hb1 hlt1 hS1
      go_roundw
      case rel => exact ⟨k + 1, by go_num, by omega, hown2, hb2⟩
      case measure => simp [intOf]; omega
    · go_wp2_with fail
      go_ret
      obtain rfl : k = m := by omega
      rw [List.take_of_length_le (by rw [← Hl.out]; exact Nat.le_refl _)] at hown
      exact Wd.Out.of_own hown hb
theorem bits_cut (m : Nat) (v : Int) (lo n : Nat) : Bt.InR 1 (((Bt.toD 1 m v).drop lo).take n) := fun x hx => Bt.toD_inR 1 m v x (List.mem_of_mem_drop (List.mem_of_mem_take hx))
theorem next_mul (i wd : Nat) : (i + 1) * wd - i * wd = wd := by rw [Nat.add_mul, Nat.one_mul]; omega

theorem dig_none (v : Int) (i : Nat) : Bt.dig 0 v i = 0 := by
  have h1 := Bt.dig_lo 0 v i
  have h2 := Bt.dig_hi 0 v i
  rw [Int.pow_zero] at h2
  omega
end Bc
end Go.Proofs.YtoibpbnebcoafaaGreat
namespace Go.Proofs.YtoibpbnebcoafaaGreat
set_option maxRecDepth 20000
open Go.RowKit
namespace Wd
/-- Block g is just the cells cs, of element type t, and may be written. -/
def Bx (w : World) (g : Nat) (t : TypeId) (cs : Array Value) : Prop := w.heap[g]? = some (.cells cs t (0, 0))
section
variable {w w' : World} {g : Nat} {t : TypeId} {cs : Array Value}
theorem Bx.lt (h : Bx w g t cs) : g < w.heap.size := lt_of_block h
theorem Bx.cell (h : Bx w g t cs) (j : Nat) : w.cell? ⟨g, j, none⟩ = cs[j]? := cell_of_row w g j cs t (0, 0) h
theorem Bx.free (h : Bx w g t cs) (j : Nat) : w.frozen? ⟨g, j, none⟩ = false := frozen_of_row w g j cs t h
theorem Bx.new (w : World) (t : TypeId) (cs : Array Value) : Bx (w.alloc (.cells cs t)) w.heap.size t cs := heap_alloc_new w _
theorem Bx.alloc (h : Bx w g t cs) (o : Obj) : Bx (w.alloc o) g t cs := by
  unfold Bx
  rw [Below.heap_alloc w o g h.lt]
  exact h
theorem Bx.below {B : Nat} (h : Bx w g t cs) (hg : g < B) (hb : Below B w w') : Bx w' g t cs := by
  unfold Bx
  rw [hb.block g hg]
  exact h
theorem Bx.grown {row : Option Nat} (h : Bx w g t cs) (hb : w.grownBy w' row) (hg : some g ≠ row) : Bx w' g t cs := (hb.block g h.lt hg).trans h
/-- A row whose elements are of another type is another block. -/
theorem Bx.apart {base : Nat} {e : TypeId} {size n : Nat} {v : Value} {xs : List Value} (h : Bx w g t cs) (hr : w.ownsRow base e size v n xs) (hne : t ≠ e) : some g ≠ v.ownBlock := by
  rcases hr.2 with ⟨rfl, _⟩ | ⟨g', cap, cur, rfl, _, hg, _⟩
  · simp [Value.ownBlock]
  · intro he
    have : g = g' := by simpa [Value.ownBlock] using he
    subst this
    unfold Bx at h
    rw [h] at hg
    simp only [Option.some.injEq, Obj.cells.injEq] at hg
    exact hne hg.2.1
end

/-- The first k of d, and zeros behind. -/
def fill (d : List Int) (k : Nat) : List Int := d.take k ++ List.replicate (d.length - k) 0
theorem fill_zero (d : List Int) : fill d 0 = List.replicate d.length 0 := by simp [fill]
theorem fill_all (d : List Int) : fill d d.length = d := by simp [fill]
theorem fill_len (d : List Int) (k : Nat) : (fill d k).length = d.length := by simp [fill]; omega
theorem fill_set (d : List Int) (k : Nat) (hk : k < d.length) : (fill d k).set k (d.getD k 0) = fill d (k + 1) := by
  refine List.ext_getElem (by simp [fill_len]) fun i h1 h2 => ?_
  simp only [fill_len, List.length_set] at h1 h2
  rw [List.getElem_set]
  simp only [fill, List.getElem_append, List.length_take, List.getElem_take, List.getElem_replicate]
  by_cases e : k = i
  · subst e
    rw [if_pos rfl, dif_pos (by omega)]
    simp [List.getD, hk]
  · rw [if_neg e]
    by_cases q : i < min k d.length
    · rw [dif_pos q, dif_pos (by omega)]
    · rw [dif_neg q, dif_neg (by omega)]

/-- The cut 's[q:]' of a slice that begins at a known place. -/
theorem Sl.cut_at {w : World} {k : IntKind} {b o n c : Nat} {ys : List Int} (h : Sl w k (some ⟨b, o, none⟩) n c ys) (q : Nat) (hq : q ≤ n) (hc : c ≠ q) : Sl w k (some ⟨b, o + q, none⟩) (n - q) (c - q) (ys.drop q) := by
  have := h.cut q hq
  rw [if_neg hc, Option.map_some, Addr.add_lit] at this
  exact this
end Wd
end Go.Proofs.YtoibpbnebcoafaaGreat
namespace Go.Proofs.YtoibpbnebcoafaaGreat
set_option maxRecDepth 20000
open Go.RowKit
namespace Cx
open Va (Vl May ord null)
open Sc (tr tr_yes tr_no tr_iff)
open Co
/-- The column .agg #[.int .i64 C.n, .slice A n c, .slice B m d] is C. -/
structure Cl (w : World) (A : Option Addr) (n c : Nat) (B : Option Addr) (m d : Nat) (C : Col) : Prop where
  dict : Wd.Vs w A n c C.dict
  ids : Wd.Sl w .u8 B m d C.ids
  byt : Bt.InR 8 C.ids
  n0 : -9223372036854775808 ≤ C.n
  n1 : C.n ≤ 9223372036854775807
  str : ∀ x ∈ C.dict, x.s.size ≤ maxLen
theorem Cl.below {w w' : World} {A : Option Addr} {n c : Nat} {B : Option Addr} {m d : Nat} {C : Col} (h : Cl w A n c B m d C) (hb : Below w.heap.size w w') : Cl w' A n c B m d C :=
  ⟨h.dict.below hb, h.ids.below hb, h.byt, h.n0, h.n1, h.str⟩
theorem Cl.none_ (w : World) : Cl w none 0 0 none 0 0 none_ := ⟨Wd.Vs.none_ _, Wd.Sl.none_ _ _, fun _ h => (by cases h), by decide, by decide, fun _ h => (by cases h)⟩
/-- A call of w ended in w' with a column and an error's number, and nothing that was there has turned. -/
def OutC (w : World) (r : Col × Int) (e : Ending) (w' : World) : Prop :=
  ∃ A n c B m d, e = .returned (.tuple #[.agg #[.int .i64 r.1.n, .slice A n c, .slice B m d], .int .i64 r.2]) ∧ Cl w' A n c B m d r.1 ∧ Below w.heap.size w w'
/-- The same with a number between. -/
def OutG (w : World) (C : Col) (k er : Int) (e : Ending) (w' : World) : Prop :=
  ∃ A n c B m d, e = .returned (.tuple #[.agg #[.int .i64 C.n, .slice A n c, .slice B m d], .int .i64 k, .int .i64 er]) ∧ Cl w' A n c B m d C ∧ Below w.heap.size w w'
/-- A slice of numbers and a truth. -/
def OutB (w : World) (l : List Int) (b : Bool) (e : Ending) (w' : World) : Prop :=
  ∃ A n c, e = .returned (.tuple #[.slice A n c, .bool b]) ∧ Wd.Sl w' .i64 A n c l ∧ Below w.heap.size w w'
/-- A slice of values. -/
def OutV (w : World) (l : List Vl) (e : Ending) (w' : World) : Prop :=
  ∃ A n c, e = .returned (.slice A n c) ∧ Wd.Vs w' A n c l ∧ Below w.heap.size w w'
/-- The box of a column. -/
structure Cb (w : World) (p : Nat) (N : Int) (A : Option Addr) (n c : Nat) (B : Option Addr) (m d : Nat) : Prop where
  bx : Wd.Bx w p 70 #[.int .i64 N, .slice A n c, .slice B m d]
theorem Cb.new (w : World) (N : Int) (A : Option Addr) (n c : Nat) (B : Option Addr) (m d : Nat) : Cb (w.alloc (.cells #[.int .i64 N, .slice A n c, .slice B m d] 70)) w.heap.size N A n c B m d := ⟨Wd.Bx.new _ _ _⟩
section
variable {w w' : World} {p : Nat} {N : Int} {A : Option Addr} {n c : Nat} {B : Option Addr} {m d : Nat}
theorem Cb.c0 (h : Cb w p N A n c B m d) : w.cell? ⟨p, 0, none⟩ = some (.int .i64 N) := h.bx.cell 0
theorem Cb.c1 (h : Cb w p N A n c B m d) : w.cell? ⟨p, 1, none⟩ = some (.slice A n c) := h.bx.cell 1
theorem Cb.c2 (h : Cb w p N A n c B m d) : w.cell? ⟨p, 2, none⟩ = some (.slice B m d) := h.bx.cell 2
theorem Cb.below {K : Nat} (h : Cb w p N A n c B m d) (hp : p < K) (hb : Below K w w') : Cb w' p N A n c B m d := ⟨h.bx.below hp hb⟩
theorem Cb.lt (h : Cb w p N A n c B m d) : p < w.heap.size := h.bx.lt
end
/-- Block g is a row of truths, known whole. -/
def RowB (w : World) (g : Nat) (sb : List Bool) : Prop := w.heap[g]? = some (.cells (sb.map Value.bool).toArray 4 (0, 0))
section
variable {w w' : World} {g : Nat} {sb : List Bool}
theorem RowB.lt (h : RowB w g sb) : g < w.heap.size := Wd.Bx.lt h
theorem RowB.cell (h : RowB w g sb) (j : Nat) (hj : j < sb.length) : w.cell? ⟨g, j, none⟩ = some (.bool (sb.getD j false)) := by
  rw [cell_of_row w g j _ 4 (0, 0) h]
  simp [List.getD, List.getElem?_eq_getElem hj]
theorem RowB.free (h : RowB w g sb) (j : Nat) : w.frozen? ⟨g, j, none⟩ = false := frozen_of_row w g j _ _ h
theorem RowB.set (h : RowB w g sb) (j : Nat) (x : Bool) : RowB (w.setCell ⟨g, j, none⟩ (.bool x)) g (sb.set j x) := by
  unfold RowB
  rw [heap_setCell_same w g j _ 4 _ h]
  simp [List.map_set]
theorem RowB.drew (h : RowB w g sb) : RowB w.drew g sb := h
theorem RowB.drewN (h : RowB w g sb) (q : Nat) : RowB (w.drewN q) g sb := h
theorem RowB.of_own {base n : Nat} (h : w.ownsRow base 4 1 (.slice (some ⟨g, 0, none⟩) n n) n (sb.map Value.bool)) : RowB w g sb ∧ base ≤ g ∧ n = sb.length := by
  have hl : n = sb.length := by have := h.1; simpa using this.symm
  rcases h.2 with ⟨h', _⟩ | ⟨g', cap', cur, h', hb, hg, _, _, hs, ht⟩
  · simp at h'
  · simp only [Value.slice.injEq, Option.some.injEq, Addr.mk.injEq, and_true, true_and] at h'
    obtain ⟨rfl, rfl⟩ := h'
    refine ⟨?_, hb, hl⟩
    unfold RowB
    rw [hg]
    have : cur = (sb.map Value.bool).toArray := by
      rw [← ht, List.take_of_length_le (by simp; omega)]
    rw [this]
end
theorem made_false (n : Nat) : (madeCells (Value.bool false).cells (n * 1)).toList = (List.replicate n false).map Value.bool := by
  refine List.ext_getElem (by simp [madeCells]) fun i h1 h2 => ?_
  simp [madeCells, Value.cells, Nat.mod_one]
theorem info_b : (Tryz.prog.info? 4).map (fun i => (i.zero, i.size, i.bytes)) = some (some (.bool false), 1, 1) := by kernel_rfl
theorem width_any (n : Nat) (hn : n ≤ 1000000) (w : World) :
    Calls Tryz.prog 67 #[.int .i64 (n : Int)] w fun e w' => e = .returned (.int .i64 (Bc.wid ((n : Int) - 1))) ∧ w' = w := by
  have C := Lib.hid (Bc.refWidth_any ((n : Int) - 1) w (by omega) (by omega))
  go_enter Tryz.func67, Tryz.ntmps67
  go_wp2_with fail
  refine C.out.mono ?_
  rintro e w' ⟨rfl, rfl⟩
  go_wp2_with fail
  go_ret
  exact ⟨rfl, rfl⟩
end Cx
end Go.Proofs.YtoibpbnebcoafaaGreat
