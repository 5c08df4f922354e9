/- How long files of segments are: each frame has six bytes or more, and no segment's file is shorter than that of its head alone; a light segment's payloads fit their frames. No program, no memory. What the small reference functions of layer 2 do: Width, number, value, spread. Words on memory, over and what goes with it. -/
import Derived.WalkKit
import Derived.Lib.Hide
import Derived.RangeFuncBox
import Derived.Test.YtaoeipehpakngaaGreatDoorPb05
import Derived.Test.YtaoeipehpakngaaGreatDoorPb02
import Derived.Test.YtaoeipehpakngaaGreatDoorPb04
namespace Go.Proofs.YtaoeipehpakngaaGreatDoor
set_option maxRecDepth 20000
namespace Fi
open Va (Vl May)
open Sc (Sch tr tr_yes tr_no)
open Se (Seg Ok sealed arr)
open Nm (vd zz)
theorem vd_mono {a b : Nat} (h : a ≤ b) : (vd (a : Int)).length ≤ (vd (b : Int)).length := Nm.vdF_mono 9 _ _ (by omega)
theorem frame_mono {p q : List Int} (h : p.length ≤ q.length) : (Fr.frame p).length ≤ (Fr.frame q).length := by
  rw [Fr.frame_len, Fr.frame_len]
  have := vd_mono h
  omega
theorem frame_six {p : List Int} (h : 1 ≤ p.length) : 6 ≤ (Fr.frame p).length := by
  rw [Fr.frame_len]
  have := (Nm.vd_len (p.length : Int)).1
  omega
theorem cat_six : ∀ {l : List (List Int)}, (∀ p ∈ l, 1 ≤ p.length) → 6 * l.length ≤ (Fr.cat l).length
  | [], _ => Nat.le_refl _
  | p :: l, h => by
    rw [Fr.cat_cons, List.length_append, List.length_cons]
    have a := frame_six (h p (by simp))
    have b := cat_six (l := l) fun q hq => h q (by simp [hq])
    omega
theorem cat_mono : ∀ {l m : List (List Int)}, l.length = m.length → (∀ i, i < l.length → (l.getD i []).length ≤ (m.getD i []).length) → (Fr.cat l).length ≤ (Fr.cat m).length
  | [], [], _, _ => Nat.le_refl _
  | p :: l, q :: m, hl, h => by
    rw [Fr.cat_cons, Fr.cat_cons, List.length_append, List.length_append]
    have a := frame_mono (p := p) (q := q) (h 0 (by simp))
    have b := cat_mono (l := l) (m := m) (by simpa using hl) fun i hi => by
      have := h (i + 1) (by simp; omega)
      simpa using this
    omega
theorem puts_len (C : Co.Col) : 2 ≤ (Co.puts C).length := by
  unfold Co.puts
  have a := (Nm.vd_len C.n).1
  have b := (Nm.vd_len (C.dict.length : Int)).1
  simp only [List.length_append]
  omega
theorem enc_ge (l : List Int) : 2 ≤ (Rn.enc l).length := Rn.block_ge _ _
theorem enc_nil : (Rn.enc []).length = 2 := by decide
theorem head_len (x : Seg) : 1 ≤ (head x).length := by
  unfold head
  have a := (Nm.vd_len x.part).1
  rw [List.length_append]
  omega
theorem pays_one (x : Seg) : ∀ p ∈ pays x, 1 ≤ p.length := fun p hp => by
  unfold pays at hp
  rcases List.mem_cons.1 hp with rfl | hp
  · exact head_len x
  · rcases List.mem_cons.1 hp with rfl | hp
    · have := enc_ge x.offs; omega
    · obtain ⟨c, _, rfl⟩ := List.mem_map.1 hp
      have := puts_len c; omega
theorem file_six (x : Seg) : 6 * (2 + x.cols.length) ≤ (fileB x).length := by
  have := cat_six (pays_one x)
  rw [pays_len] at this
  exact this
theorem build_nil : (Co.build []).1 = ⟨0, [], []⟩ := by
  rw [Co.build_ok (by decide) (fun v hv => by cases hv)]
  have e : Co.dct [] = [] := by
    refine List.eq_nil_of_length_eq_zero ?_
    have := Co.dct_len (l := [])
    simpa using this
  have e2 : Co.ids [] = [] := rfl
  rw [e, e2]
  have hW : Co.wdt [] ≤ 62 := by
    have := Co.wdt_le (l := []) (by decide)
    rw [e] at this
    exact this
  have e3 : Bc.packL [] (Co.wdt []) = [] := by
    refine List.eq_nil_of_length_eq_zero ?_
    have := Bc.packL_len (W := Co.wdt []) (l := []) hW (by decide) (fun x hx => by cases hx)
    simpa using this
  rw [e3]
  rfl
theorem none_cols (s : Sch) (x : Seg) : ∀ c ∈ (sealed s x [] []).cols, c = ⟨0, [], []⟩ := fun c hc => by
  obtain ⟨k, _, rfl⟩ := Se.sealed_col hc
  have : Se.pick [] (arr s []) k = [] := by simp [Se.pick, arr, Ssm.srt]
  rw [this, build_nil]
theorem file_none (s : Sch) (x : Seg) (hc : x.cols.length = s.cols.length) : (fileB (sealed s x [] [])).length ≤ (fileB x).length := by
  have hn : (sealed s x [] []).cols.length = s.cols.length := by simp [sealed, Se.colsOf_len]
  refine cat_mono (by rw [pays_len, pays_len, hc, hn]) fun i hi => ?_
  rw [pays_len, hn] at hi
  unfold pays
  match i with
  | 0 =>
    simp only [List.getD_cons_zero]
    unfold head
    rw [hn, hc]
    exact Nat.le_refl _
  | 1 =>
    simp only [List.getD_cons_succ, List.getD_cons_zero]
    have e : (sealed s x [] []).offs = [] := by simp [sealed, Se.offsOf, arr, Ssm.srt]
    rw [e, enc_nil]
    exact enc_ge _
  | j + 2 =>
    simp only [List.getD_cons_succ]
    have hj : j < s.cols.length := by omega
    have h1 : j < (sealed s x [] []).cols.length := by rw [hn]; exact hj
    have h2 : j < x.cols.length := by rw [hc]; exact hj
    simp only [List.getD, List.getElem?_map, List.getElem?_eq_getElem h1, List.getElem?_eq_getElem h2, Option.map_some, Option.getD_some]
    rw [none_cols s x _ (List.getElem_mem h1)]
    have := puts_len (x.cols[j])
    have e : (Co.puts ⟨0, [], []⟩).length = 2 := by decide
    omega
theorem putD_len {D : List Vl} (h : ∀ v ∈ D, May v) : (Co.putD D).length ≤ 75 * D.length := by
  induction D with
  | nil => exact Nat.le_refl _
  | cons v D ih =>
    have a := Va.put_len (h v (by simp))
    have b := ih fun u hu => h u (by simp [hu])
    have e : Co.putD (v :: D) = v.kind :: (Va.put v ++ Co.putD D) := by simp [Co.putD]
    rw [e, List.length_cons, List.length_append, List.length_cons]
    omega
theorem room {x : Seg} (h1 : x.offs.length ≤ 200) (h3 : ∀ c ∈ x.cols, c.dict.length ≤ 200 ∧ c.ids.length ≤ 200 ∧ ∀ v ∈ c.dict, May v) : Room x := fun p hp => by
  unfold pays at hp
  rcases List.mem_cons.1 hp with rfl | hp
  · unfold head
    simp only [List.length_append]
    have a := (Nm.vd_len x.part).2
    have b := (Nm.vd_len x.id).2
    have c := (Nm.vd_len x.st).2
    have d := (Nm.vd_len x.en).2
    have e := (Nm.vd_len (x.cols.length : Int)).2
    omega
  · rcases List.mem_cons.1 hp with rfl | hp
    · have := Rn.block_le x.offs (Rn.bi x.offs 3)
      unfold Rn.enc
      omega
    · obtain ⟨c, hc, rfl⟩ := List.mem_map.1 hp
      obtain ⟨a, b, d⟩ := h3 c hc
      have e := putD_len d
      unfold Co.puts
      simp only [List.length_append]
      have g := (Nm.vd_len c.n).2
      have k := (Nm.vd_len (c.dict.length : Int)).2
      omega
end Fi
end Go.Proofs.YtaoeipehpakngaaGreatDoor
namespace Go.Proofs.YtaoeipehpakngaaGreatDoor
set_option maxRecDepth 20000
open Go.RowKit
namespace Bc
theorem refWidth_any (n : Int) (w : World) (h1 : -9223372036854775808 ≤ n) (h2 : n ≤ 9223372036854775807) :
    Calls Tryz.prog 115 #[.int .i64 n] w fun e w' => e = .returned (.int .i64 (wid n)) ∧ w = w' := by
  have hw := wid_63 n h2
  go_enter Tryz.func115, Tryz.ntmps115
  go_wp2_with fail
  go_loop [4, 3] (fun i d => ∃ (u : Int) (k : Nat), i = .int .i64 u ∧ d = .int .i64 k ∧ -9223372036854775808 ≤ u ∧ u ≤ 9223372036854775807 ∧ k + wid u = wid n) (fun i _ => (intOf i).toNat)
  case atStart => exact ⟨n, 0, rfl, rfl, h1, h2, by omega⟩
  case round =>
    obtain ⟨u, k, rfl, rfl, u1, u2, hk⟩ := hrel
    have Hk := Lib.hid hk
    have hk' : k ≤ 63 := by omega
    clear hk
    by_cases hlt : 0 < u
    · go_wp2_with fail
      go_round
      case rel =>
        have := Hk.out
        rw [wid_hi u hlt] at this
        refine ⟨u / 2, k + 1, rfl, by go_num, by omega, by omega, by omega⟩
      case measure => simp [intOf]; omega
    · go_wp2_with fail
      go_ret
      have := Hk.out
      rw [wid_lo u (by omega)] at this
      exact ⟨congrArg (fun x : Nat => Ending.returned (.int .i64 x)) (by simpa using this), rfl⟩
theorem toD1_succ (j : Nat) (n : Int) : Bt.toD 1 (j + 1) n = Bt.toD 1 j n ++ [n / 2 ^ j % 2] := by
  rw [Bt.toD_add]
  simp [Bt.toD, Bt.dig]
set_option maxHeartbeats 400000 in
theorem number_any (n : Int) (wd : Nat) (w : World) (h0 : 0 ≤ n) (h1 : n ≤ 9223372036854775807) (hwd : wd ≤ 62) :
    Calls Tryz.prog 116 #[.int .i64 n, .int .i64 wd] w (Wd.Out w .i64 (Bt.toD 1 wd n)) := by
  obtain ⟨i0, hi, hz0, hz1, hz2⟩ := info_parts info_int
  go_enter Tryz.func116, Tryz.ntmps116
  go_wp2_with fail
  go_loopw [0, 5, 6] (fun i v k wr => ∃ (j : Nat) (u : Int), k = .int .i64 j ∧ j ≤ wd ∧ i = .int .i64 u ∧ u = n / 2 ^ j ∧ wr.ownsRow w.heap.size 3 1 v (Bt.toD 1 j n).length ((Bt.toD 1 j n).map (Value.int .i64)) ∧ Below w.heap.size w wr) (fun _ _ k _ => wd - (intOf k).toNat)
  case atStart => exact ⟨0, n, rfl, Nat.zero_le _, rfl, by simp, World.ownsRow_nil _ _ _ _, Below.refl _ _⟩
  case round =>
    obtain ⟨j, u, rfl, hj, rfl, hu, hown, hb⟩ := hrel
    have hu0 : 0 ≤ u := by rw [hu]; exact Int.ediv_nonneg h0 (by have := Bt.p0 j; omega)
    have hu1 : u ≤ 9223372036854775807 := by rw [hu]; have := Int.ediv_le_self (2 ^ j) h0; omega
    have Hu := Lib.hid hu
    have hsz := hb.size
    have hln := Bt.toD_len 1 j n
    have hln' : (Bt.toD 1 j n).length ≤ 62 := by omega
    clear hu hln
    by_cases hlt : j < wd
    · go_wp2_with (at_builtin; refine Wd.wpList_app _ rfl (.tmp 12) (.tmp 15) 25 rfl w.heap.size 3 i0 _ .i64 8 Tryz.underlying25 hi hz0 hz1 hz2 rfl _ (Bt.toD 1 j n) rfl (hown.alloc _) (wr.heap.size + 1) _ 1 1 [u % 2] rfl rfl (by simp) (Wd.Rd.lit wr .i64 [u % 2] _ _ rfl) (by simp; omega) (by simp [maxLen]; omega) (by simp; omega) ?_; intro v' w1 hown' hgrow)
      have hb' : Below w.heap.size w w1 := (hb.alloc hsz _).grown hgrow (by simp; omega) (fun g hg => (hown.lt g hg).1)
      have e : Bt.toD 1 j n ++ [u % 2] = Bt.toD 1 (j + 1) n := by rw [toD1_succ, Hu.out]
      rw [e] at hown'
      clear e hown hgrow hb
      go_roundw
      case rel =>
        refine ⟨j + 1, u / 2, by go_num, by omega, rfl, ?_, hown', hb'⟩
        have hp := Bt.p0 j
        rw [Hu.out, Int.ediv_ediv_of_nonneg (by omega), Int.pow_succ]
      case measure => simp [intOf]; omega
    · go_wp2_with fail
      go_ret
      obtain rfl : j = wd := by omega
      exact Wd.Out.of_own hown hb
theorem ofD1_lt {l : List Int} (h : Bt.InR 1 l) (n : Nat) (hn : l.length ≤ n) : Bt.ofD 1 l < 2 ^ n := by
  have h1 := Bt.ofD_hi h
  have h2 := Bt.pup (show 1 * l.length ≤ n by omega)
  omega
set_option maxHeartbeats 400000 in
theorem value_any (A : Option Addr) (m c : Nat) (l : List Int) (w : World) (hS : Wd.Sl w .i64 A m c l) (hB : Bt.InR 1 l) (hm : m ≤ 62) :
    Calls Tryz.prog 117 #[.slice A m c] w fun e w' => e = .returned (.int .i64 (Bt.ofD 1 l)) ∧ w = w' := by
  have hl := hS.len
  have Hl := Lib.hid hl
  have HB := Lib.hid hB
  clear hl hB
  go_enter Tryz.func117, Tryz.ntmps117
  go_wp2_with fail
  go_loop [3, 4] (fun s i => ∃ (k : Nat) (u : Int), i = .int .i64 ((k : Int) - 1) ∧ k ≤ m ∧ s = .int .i64 u ∧ u = Bt.ofD 1 (l.drop k)) (fun _ i => (intOf i + 1).toNat)
  case atStart => exact ⟨m, 0, rfl, Nat.le_refl _, rfl, by rw [List.drop_of_length_le (by rw [← Hl.out]; exact Nat.le_refl _)]; rfl⟩
  case round =>
    obtain ⟨k, u, rfl, hk, rfl, hu⟩ := hrel
    have hR : Bt.InR 1 (l.drop k) := fun x hx => HB.out x (List.mem_of_mem_drop hx)
    have hu0 : 0 ≤ u := by rw [hu]; exact Bt.ofD_lo hR
    have Hu := Lib.hid hu
    by_cases hlt : 0 < k
    · obtain ⟨j, rfl⟩ : ∃ j, k = j + 1 := ⟨k - 1, by omega⟩
      have hu1 : u < 2305843009213693952 := by
        rw [hu]
        have := ofD1_lt hR 61 (by rw [List.length_drop, ← Hl.out]; omega)
        rwa [show (2 : Int) ^ 61 = 2305843009213693952 by decide] at this
      have hjl : j < l.length := by rw [← Hl.out]; omega
      obtain ⟨b, o, rfl, hbB, hcell⟩ := hS.rd j hjl
      obtain ⟨x, hx⟩ : ∃ x, x = l.getD j 0 := ⟨_, rfl⟩
      have hx2 := HB.out x (by rw [hx]; simp [List.getD, hjl])
      have hx0 := hx2.1
      have hx1 : x ≤ 1 := by have := hx2.2; omega
      rw [← hx] at hcell
      have Hx := Lib.hid hx
      have i0 : (0 : Int) ≤ (j : Int) := by omega
      clear hx hx2 hu hR hjl
      go_wp2_with fail
      go_round
      case rel =>
        refine ⟨j, x + 2 * u, by go_num, by omega, by go_num, ?_⟩
        have hjl : j < l.length := by rw [← Hl.out]; omega
        rw [Hu.out, List.drop_eq_getElem_cons hjl, Hx.out]
        simp [Bt.ofD, List.getD, hjl]
      case measure => simp [intOf]
    · obtain rfl : k = 0 := by omega
      clear hu hR
      go_wp2_with fail
      go_ret
      refine ⟨?_, rfl⟩
      have := Hu.out
      rw [List.drop_zero] at this
      exact ret_int this
theorem InR.take {wd : Nat} {l : List Int} (h : Bt.InR wd l) (k : Nat) : Bt.InR wd (l.take k) := fun x hx => h x (List.mem_of_mem_take hx)
theorem take_next (l : List Int) (k : Nat) (h : k < l.length) : l.take (k + 1) = l.take k ++ [l.getD k 0] := by
  rw [List.take_succ_eq_append_getElem h]
  simp [List.getD, h]
theorem bits_cut (m : Nat) (v : Int) (lo n : Nat) : Bt.InR 1 (((Bt.toD 1 m v).drop lo).take n) := fun x hx => Bt.toD_inR 1 m v x (List.mem_of_mem_drop (List.mem_of_mem_take hx))
end Bc
namespace Wd
def Bx (w : World) (g : Nat) (t : TypeId) (cs : Array Value) : Prop := w.heap[g]? = some (.cells cs t (0, 0))
section
variable {w w' : World} {g : Nat} {t : TypeId} {cs : Array Value}
theorem Bx.lt (h : Bx w g t cs) : g < w.heap.size := lt_of_block h
theorem Bx.cell (h : Bx w g t cs) (j : Nat) : w.cell? ⟨g, j, none⟩ = cs[j]? := cell_of_row w g j cs t (0, 0) h
theorem Bx.free (h : Bx w g t cs) (j : Nat) : w.frozen? ⟨g, j, none⟩ = false := frozen_of_row w g j cs t h
theorem Bx.new (w : World) (t : TypeId) (cs : Array Value) : Bx (w.alloc (.cells cs t)) w.heap.size t cs := heap_alloc_new w _
theorem Bx.alloc (h : Bx w g t cs) (o : Obj) : Bx (w.alloc o) g t cs := by
  unfold Bx
  rw [Below.heap_alloc w o g h.lt]
  exact h
theorem Bx.below {B : Nat} (h : Bx w g t cs) (hg : g < B) (hb : Below B w w') : Bx w' g t cs := by
  unfold Bx
  rw [hb.block g hg]
  exact h
theorem Bx.grown {row : Option Nat} (h : Bx w g t cs) (hb : w.grownBy w' row) (hg : some g ≠ row) : Bx w' g t cs := (hb.block g h.lt hg).trans h
theorem Bx.apart {base : Nat} {e : TypeId} {size n : Nat} {v : Value} {xs : List Value} (h : Bx w g t cs) (hr : w.ownsRow base e size v n xs) (hne : t ≠ e) : some g ≠ v.ownBlock := by
  rcases hr.2 with ⟨rfl, _⟩ | ⟨g', cap, cur, rfl, _, hg, _⟩
  · simp [Value.ownBlock]
  · intro he
    have : g = g' := by simpa [Value.ownBlock] using he
    subst this
    unfold Bx at h
    rw [h] at hg
    simp only [Option.some.injEq, Obj.cells.injEq] at hg
    exact hne hg.2.1
end
def fill (d : List Int) (k : Nat) : List Int := d.take k ++ List.replicate (d.length - k) 0
theorem fill_zero (d : List Int) : fill d 0 = List.replicate d.length 0 := by simp [fill]
theorem fill_all (d : List Int) : fill d d.length = d := by simp [fill]
theorem fill_len (d : List Int) (k : Nat) : (fill d k).length = d.length := by simp [fill]; omega
theorem fill_set (d : List Int) (k : Nat) (hk : k < d.length) : (fill d k).set k (d.getD k 0) = fill d (k + 1) := by
  refine List.ext_getElem (by simp [fill_len]) fun i h1 h2 => ?_
  simp only [fill_len, List.length_set] at h1 h2
  rw [List.getElem_set]
  simp only [fill, List.getElem_append, List.length_take, List.getElem_take, List.getElem_replicate]
  by_cases e : k = i
  · subst e
    rw [if_pos rfl, dif_pos (by omega)]
    simp [List.getD, hk]
  · rw [if_neg e]
    by_cases q : i < min k d.length
    · rw [dif_pos q, dif_pos (by omega)]
    · rw [dif_neg q, dif_neg (by omega)]
theorem Sl.cut_at {w : World} {k : IntKind} {b o n c : Nat} {ys : List Int} (h : Sl w k (some ⟨b, o, none⟩) n c ys) (q : Nat) (hq : q ≤ n) (hc : c ≠ q) : Sl w k (some ⟨b, o + q, none⟩) (n - q) (c - q) (ys.drop q) := by
  have := h.cut q hq
  rw [if_neg hc, Option.map_some, Addr.add_lit] at this
  exact this
end Wd
namespace Cx
open Va (Vl May ord null)
open Sc (tr tr_yes tr_no tr_iff)
open Co
structure Cl (w : World) (A : Option Addr) (n c : Nat) (B : Option Addr) (m d : Nat) (C : Col) : Prop where
  dict : Wd.Vs w A n c C.dict
  ids : Wd.Sl w .u8 B m d C.ids
  byt : Bt.InR 8 C.ids
  n0 : -9223372036854775808 ≤ C.n
  n1 : C.n ≤ 9223372036854775807
  str : ∀ x ∈ C.dict, x.s.size ≤ maxLen
theorem Cl.below {w w' : World} {A : Option Addr} {n c : Nat} {B : Option Addr} {m d : Nat} {C : Col} (h : Cl w A n c B m d C) (hb : Below w.heap.size w w') : Cl w' A n c B m d C :=
  ⟨h.dict.below hb, h.ids.below hb, h.byt, h.n0, h.n1, h.str⟩
theorem Cl.none_ (w : World) : Cl w none 0 0 none 0 0 none_ := ⟨Wd.Vs.none_ _, Wd.Sl.none_ _ _, fun _ h => (by cases h), by decide, by decide, fun _ h => (by cases h)⟩
def OutC (w : World) (r : Col × Int) (e : Ending) (w' : World) : Prop :=
  ∃ A n c B m d, e = .returned (.tuple #[.agg #[.int .i64 r.1.n, .slice A n c, .slice B m d], .int .i64 r.2]) ∧ Cl w' A n c B m d r.1 ∧ Below w.heap.size w w'
def OutG (w : World) (C : Col) (k er : Int) (e : Ending) (w' : World) : Prop :=
  ∃ A n c B m d, e = .returned (.tuple #[.agg #[.int .i64 C.n, .slice A n c, .slice B m d], .int .i64 k, .int .i64 er]) ∧ Cl w' A n c B m d C ∧ Below w.heap.size w w'
def OutB (w : World) (l : List Int) (b : Bool) (e : Ending) (w' : World) : Prop :=
  ∃ A n c, e = .returned (.tuple #[.slice A n c, .bool b]) ∧ Wd.Sl w' .i64 A n c l ∧ Below w.heap.size w w'
def OutV (w : World) (l : List Vl) (e : Ending) (w' : World) : Prop :=
  ∃ A n c, e = .returned (.slice A n c) ∧ Wd.Vs w' A n c l ∧ Below w.heap.size w w'
structure Cb (w : World) (p : Nat) (N : Int) (A : Option Addr) (n c : Nat) (B : Option Addr) (m d : Nat) : Prop where
  bx : Wd.Bx w p 57 #[.int .i64 N, .slice A n c, .slice B m d]
theorem Cb.new (w : World) (N : Int) (A : Option Addr) (n c : Nat) (B : Option Addr) (m d : Nat) : Cb (w.alloc (.cells #[.int .i64 N, .slice A n c, .slice B m d] 57)) w.heap.size N A n c B m d := ⟨Wd.Bx.new _ _ _⟩
section
variable {w w' : World} {p : Nat} {N : Int} {A : Option Addr} {n c : Nat} {B : Option Addr} {m d : Nat}
theorem Cb.c0 (h : Cb w p N A n c B m d) : w.cell? ⟨p, 0, none⟩ = some (.int .i64 N) := h.bx.cell 0
theorem Cb.c1 (h : Cb w p N A n c B m d) : w.cell? ⟨p, 1, none⟩ = some (.slice A n c) := h.bx.cell 1
theorem Cb.c2 (h : Cb w p N A n c B m d) : w.cell? ⟨p, 2, none⟩ = some (.slice B m d) := h.bx.cell 2
theorem Cb.below {K : Nat} (h : Cb w p N A n c B m d) (hp : p < K) (hb : Below K w w') : Cb w' p N A n c B m d := ⟨h.bx.below hp hb⟩
theorem Cb.lt (h : Cb w p N A n c B m d) : p < w.heap.size := h.bx.lt
end
section
variable {w w' : World} {g : Nat} {sb : List Bool}
end
theorem width_any (n : Nat) (hn : n ≤ 1000000) (w : World) :
    Calls Tryz.prog 74 #[.int .i64 (n : Int)] w fun e w' => e = .returned (.int .i64 (Bc.wid ((n : Int) - 1))) ∧ w' = w := by
  have C := Lib.hid (Bc.refWidth_any ((n : Int) - 1) w (by omega) (by omega))
  go_enter Tryz.func74, Tryz.ntmps74
  go_wp2_with fail
  refine C.out.mono ?_
  rintro e w' ⟨rfl, rfl⟩
  go_wp2_with fail
  go_ret
  exact ⟨rfl, rfl⟩
end Cx
namespace Wd
structure Ss (w : World) (A : Option Addr) (n c : Nat) (ys : List (List Int)) : Prop where
  len : n = ys.length
  cap : n ≤ c
  max : c ≤ maxLen
  nil : A = none → c = 0
  at_ : ∀ j, j < ys.length → ∃ b o A' n' c', A = some ⟨b, o, none⟩ ∧ b < w.heap.size ∧ w.cell? ⟨b, o + j, none⟩ = some (.slice A' n' c') ∧ Sl w .u8 A' n' c' (ys.getD j [])
theorem Ss.below {w w' : World} {A : Option Addr} {n c : Nat} {ys : List (List Int)} (h : Ss w A n c ys) (hb : Below w.heap.size w w') : Ss w' A n c ys :=
  ⟨h.len, h.cap, h.max, h.nil, fun j hj => by
    obtain ⟨b, o, A', n', c', e, hlt, hc, hs⟩ := h.at_ j hj
    have := hb.size
    exact ⟨b, o, A', n', c', e, by omega, (hb.cell (p := ⟨b, o + j, none⟩) hlt).trans hc, hs.below hb⟩⟩
theorem Ss.none_ (w : World) : Ss w none 0 0 [] := ⟨rfl, Nat.le_refl _, Nat.zero_le _, fun _ => rfl, fun _ h => by simp at h⟩
def OutSs (w : World) (ys : List (List Int)) (k : Int) (e : Ending) (w' : World) : Prop :=
  ∃ A n c, e = .returned (.tuple #[.slice A n c, .int .i64 k]) ∧ Ss w' A n c ys ∧ Below w.heap.size w w'
def Hs (w : World) (e : TypeId) (vs : List Value) (ys : List (List Int)) : Prop :=
  vs.length = ys.length ∧ ∀ j, j < ys.length → w.ownsRow 0 e 1 (vs.getD j undef) (ys.getD j []).length ((ys.getD j []).map (Value.int .u8))
theorem Hs.nil (w : World) (e : TypeId) : Hs w e [] [] := ⟨rfl, fun _ h => by simp at h⟩
theorem Hs.below {w w' : World} {e : TypeId} {vs : List Value} {ys : List (List Int)} (h : Hs w e vs ys) (hb : Below w.heap.size w w') : Hs w' e vs ys := ⟨h.1, fun j hj => own_below (h.2 j hj) hb⟩
theorem Hs.snoc {w : World} {e : TypeId} {vs : List Value} {ys : List (List Int)} {v : Value} {y : List Int} (h : Hs w e vs ys) (hv : w.ownsRow 0 e 1 v y.length (y.map (Value.int .u8))) : Hs w e (vs ++ [v]) (ys ++ [y]) := by
  refine ⟨by simp [h.1], fun j hj => ?_⟩
  simp only [List.length_append, List.length_cons, List.length_nil] at hj
  by_cases q : j < ys.length
  · have e1 : (vs ++ [v]).getD j undef = vs.getD j undef := by simp only [List.getD]; rw [List.getElem?_append_left (by rw [h.1]; exact q)]
    have e2 : (ys ++ [y]).getD j [] = ys.getD j [] := by simp only [List.getD]; rw [List.getElem?_append_left q]
    rw [e1, e2]
    exact h.2 j q
  · obtain rfl : j = ys.length := by omega
    have e1 : (vs ++ [v]).getD ys.length undef = v := by rw [← h.1]; simp [List.getD]
    have e2 : (ys ++ [y]).getD ys.length [] = y := by simp [List.getD]
    rw [e1, e2]
    exact hv
theorem Hs.grown {w w' : World} {e e' : TypeId} {vs : List Value} {ys : List (List Int)} {base n size : Nat} {v : Value} {xs : List Value} (h : Hs w e vs ys) (hr : w.ownsRow base e' size v n xs) (hne : e ≠ e') (hg : w.grownBy w' v.ownBlock) : Hs w' e vs ys :=
  ⟨h.1, fun j hj => (h.2 j hj).kept hg (by
    rcases (h.2 j hj).2 with ⟨q, _⟩ | ⟨g, cap, cur, q, _, hgb, _⟩
    · left; rw [q]; rfl
    · right
      rw [q]
      intro e1
      rcases hr.2 with ⟨rfl, _⟩ | ⟨g', cap', cur', rfl, _, hgb', _⟩
      · simp [Value.ownBlock] at e1
      · obtain rfl : g = g' := by simpa [Value.ownBlock] using e1
        rw [hgb] at hgb'
        simp only [Option.some.injEq, Obj.cells.injEq] at hgb'
        exact hne hgb'.2.1)⟩
theorem Hs.set {w : World} {e t : TypeId} {vs : List Value} {ys : List (List Int)} {B : Nat} {u u' : Value} (h : Hs w e vs ys) (hb : Boxed w B t u) (hne : t ≠ e) : Hs (w.setCell ⟨B, 0, none⟩ u') e vs ys :=
  ⟨h.1, fun j hj => (h.2 j hj).kept (grownBy_setCell' w B u') (.inr (hb.not_row hne (h.2 j hj)).symm)⟩
theorem own_others {X Y : World} {base : Nat} {e : TypeId} {size n : Nat} {v : Value} {xs : List Value} {row : Option Nat} (hr : X.ownsRow base e size v n xs) (hg : X.grownBy Y row) (hrow : ∀ r, row = some r → ∃ o : Obj, X.heap[r]? = some o ∧ o.isCells = false) : Y.ownsRow base e size v n xs := by
  refine hr.kept hg ?_
  rcases hr.2 with ⟨rfl, _⟩ | ⟨g, cap, cur, rfl, _, hgb, _⟩
  · exact .inl rfl
  · refine .inr fun e' => ?_
    obtain ⟨o, ho, hc⟩ := hrow g (by simpa [Value.ownBlock] using e'.symm)
    rw [hgb] at ho; cases ho; cases hc
theorem Hs.others {X Y : World} {e : TypeId} {vs : List Value} {ys : List (List Int)} {row : Option Nat} (h : Hs X e vs ys) (hg : X.grownBy Y row) (hrow : ∀ r, row = some r → ∃ o : Obj, X.heap[r]? = some o ∧ o.isCells = false) : Hs Y e vs ys :=
  ⟨h.1, fun j hj => own_others (h.2 j hj) hg hrow⟩
theorem Ss.of_own {w : World} {base n : Nat} {e e' : TypeId} {v : Value} {vs : List Value} {ys : List (List Int)} (h : w.ownsRow base e' 1 v n vs) (hs : Hs w e vs ys) : ∃ A n c, v = .slice A n c ∧ Ss w A n c ys := by
  have hn : n = ys.length := by have := h.1; rw [hs.1] at this; omega
  subst hn
  rcases h.2 with ⟨rfl, h0⟩ | ⟨g, cap, cur, rfl, hb, hg, h1, h2, h3, h4⟩
  · obtain rfl := List.eq_nil_of_length_eq_zero h0
    exact ⟨none, 0, 0, rfl, Ss.none_ _⟩
  · refine ⟨_, _, _, rfl, ⟨rfl, h1, h2, by simp, fun j hj => ?_⟩⟩
    obtain ⟨A', n', c', e1, hS⟩ := Sl.of_own (hs.2 j hj)
    refine ⟨g, 0, A', n', c', rfl, (Array.getElem?_eq_some_iff.1 hg).1, ?_, hS⟩
    have := h.cellAt (g := g) (cap := cap) j (by omega)
    rw [Nat.zero_add, this, ← e1]
    simp [List.getD, List.getElem?_eq_getElem (show j < vs.length by rw [hs.1]; exact hj)]
section
variable {P : Program} (w : World)
theorem step_app1 {ops : Array Oper} {o : Oper} {a : Act} {K : Act → World → Prop} {Q : Exit → Act → World → Prop} {E : Prop} (hgd : o.guard = none) (s x : Operand) (t : TypeId)
    (ho : o.op = .call { callee := .builtin .append, args := #[s, x], argTypes := #[t, t] })
    (B : Nat) (e : TypeId) (i : TypeInfo) (z : Value) (bytes : Nat) (ht : P.underlying t = some (.slice e)) (hi : P.info? e = some i) (hz : i.zero = some z)
    (hsize : i.size = 1) (hby : i.bytes = bytes) (hzs : z.cells.size = 1)
    (v : Value) (k : Nat) (xs : List Value) (hs : a.eval s = v) (hown : w.ownsRow B e 1 v k xs)
    (ad : Addr) (u : Value) (hx : a.eval x = .slice (some ad) 1 1) (hc : w.cell? ad = some u) (had : ad.add 0 = ad) (h1 : u.oneCell' = true)
    (h63 : k + 1 ≤ maxLen) (hbytes : (k + 1) * bytes ≤ 140737488355328) (hB : B ≤ w.heap.size)
    (h : ∀ v' w', w'.ownsRow B e 1 v' (k + 1) (xs ++ [u]) → w.grownBy w' v.ownBlock → K (a.put o.dst v') w') : if Region.wanted o (yielded ops a.tmps) = true then Oper.wp P o a w K Q else E := by
  rw [if_pos (by simp [Region.wanted, hgd])]
  obtain ⟨v', w', hrun, h2, h3, _⟩ := run_append_own (P := P) w B t o.type e i z 1 bytes ht hi hz hsize hby hzs (by decide) v k xs hown ad 1 1 [u] (by simp) (fun j q hj => by
    have hj1 : j < 1 := by simpa using (List.getElem?_eq_some_iff.1 hj).1
    obtain rfl : j = 0 := by omega
    simp only [List.getElem?_cons_zero, Option.some.injEq] at hj
    rw [had, ← hj]; exact hc) (by simpa using h1) h63 hbytes hB
  unfold Oper.wp
  simp [execOp, ho, resolve, invoke, builtin, hs, hx, hrun, Result.andThen]
  exact h v' w' h2 h3
theorem wpList_app1v {ops : Array Oper} {rest : List Oper} {o : Oper} {a : Act} {Q : Exit → Act → World → Prop} (hgd : o.guard = none) (s x : Operand) (t : TypeId)
    (ho : o.op = .call { callee := .builtin .append, args := #[s, x], argTypes := #[t, t] })
    (B : Nat) (e : TypeId) (i : TypeInfo) (z : Value) (bytes : Nat) (ht : P.underlying t = some (.slice e)) (hi : P.info? e = some i) (hz : i.zero = some z)
    (hsize : i.size = 1) (hby : i.bytes = bytes) (hzs : z.cells.size = 1)
    (v : Value) (k : Nat) (xs : List Value) (hs : a.eval s = v) (hown : w.ownsRow B e 1 v k xs)
    (ad : Addr) (u : Value) (hx : a.eval x = .slice (some ad) 1 1) (hc : w.cell? ad = some u) (had : ad.add 0 = ad) (h1 : u.oneCell' = true)
    (h63 : k + 1 ≤ maxLen) (hbytes : (k + 1) * bytes ≤ 140737488355328) (hB : B ≤ w.heap.size)
    (h : ∀ v' w', w'.ownsRow B e 1 v' (k + 1) (xs ++ [u]) → w.grownBy w' v.ownBlock → wpList P ops Q rest (a.put o.dst v') w') : wpList P ops Q (o :: rest) a w := by
  refine wpList_plain hgd fun K hK => ?_
  obtain ⟨v', w', hrun, h2, h3, _⟩ := run_append_own (P := P) w B t o.type e i z 1 bytes ht hi hz hsize hby hzs (by decide) v k xs hown ad 1 1 [u] (by simp) (fun j q hj => by
    have hj1 : j < 1 := by simpa using (List.getElem?_eq_some_iff.1 hj).1
    obtain rfl : j = 0 := by omega
    simp only [List.getElem?_cons_zero, Option.some.injEq] at hj
    rw [had, ← hj]; exact hc) (by simpa using h1) h63 hbytes hB
  unfold Oper.wp
  simp [execOp, ho, resolve, invoke, builtin, hs, hx, hrun, Result.andThen]
  exact hK _ _ (h v' w' h2 h3)
theorem step_app {ops : Array Oper} {o : Oper} {a : Act} {K : Act → World → Prop} {Q : Exit → Act → World → Prop} {E : Prop} (hgd : o.guard = none) (s x : Operand) (t : TypeId)
    (ho : o.op = .call { callee := .builtin .append, args := #[s, x], argTypes := #[t, t] })
    (B : Nat) (e : TypeId) (i : TypeInfo) (z : Value) (k : IntKind) (bytes : Nat) (ht : P.underlying t = some (.slice e)) (hi : P.info? e = some i) (hz : i.zero = some z)
    (hsize : i.size = 1) (hby : i.bytes = bytes) (hzs : z.cells.size = 1)
    (v : Value) (xs : List Int) (hs : a.eval s = v) (hown : w.ownsRow B e 1 v xs.length (xs.map (Value.int k)))
    (B' : Nat) (A : Option Addr) (m c : Nat) (ys : List Int) (hx : a.eval x = .slice A m c) (hm : m = ys.length) (hA : A = none → c = 0) (hr : Rd w B' k A ys)
    (hbytes : (xs.length + ys.length) * bytes ≤ 140737488355328) (h63 : xs.length + ys.length ≤ maxLen) (hB : B ≤ w.heap.size)
    (h : ∀ v' w', w'.ownsRow B e 1 v' (xs ++ ys).length ((xs ++ ys).map (Value.int k)) → w.grownBy w' v.ownBlock → K (a.put o.dst v') w') : if Region.wanted o (yielded ops a.tmps) = true then Oper.wp P o a w K Q else E := by
  rw [if_pos (by simp [Region.wanted, hgd])]
  obtain ⟨v', w', hrun, h2, h3⟩ := run_app_own (P := P) w B t o.type e i z k bytes ht hi hz hsize hby hzs v xs hown B' A m c ys hm hA hr hbytes h63 hB
  unfold Oper.wp
  simp [execOp, ho, resolve, invoke, builtin, hs, hx, hrun, Result.andThen]
  exact h v' w' h2 h3
end
end Wd
end Go.Proofs.YtaoeipehpakngaaGreatDoor
