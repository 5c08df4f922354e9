/- Package seal: mayCols. Package seal: mayRows. Package seal: May. -/
import Derived.Lib.Hide
import Derived.Deep.RegionHeld3
import Derived.Deep.DeepCutAuto
import Derived.Test.YtaoeipehpakngaaGreatDoorPb20
import Derived.Test.YtaoeipehpakngaaGreatDoorPb18
import Derived.Test.YtaoeipehpakngaaGreatDoorPb21
import Derived.Test.YtaoeipehpakngaaGreatDoorPb34
import Derived.Test.YtaoeipehpakngaaGreatDoorPb13
import Derived.Test.YtaoeipehpakngaaGreatDoorPb36
namespace Go.Proofs.YtaoeipehpakngaaGreatDoor
set_option maxRecDepth 20000
open Go.RowKit
namespace Se
open Va (Vl May null)
open Sc (Sch tr tr_yes tr_no tr_iff tr_congr)
open Sx (Sb five)
open Wd (Cr)
def ColsOk (s : Sch) (x : Seg) : Prop := x.cols.length = s.cols.length ∧ x.offs.length ≤ 4096 ∧ ∀ c ∈ x.cols, c.n = (x.offs.length : Int) ∧ Co.Valid c
set_option maxHeartbeats 4000000 in
theorem mayCols_any (A : Option Addr) (n c : Nat) (s : Sch) (OA : Option Addr) (on oc : Nat) (CA : Option Addr) (cn cc : Nat) (os : List Cr) (x : Seg) (w : World) (hS : Wd.Cs w A n c s.cols) (hX : Sg w OA on oc CA cn cc os x) (hlt : Lt os) (hcn : cn ≤ 1000000) :
    Calls Tryz.prog 43 #[.agg #[.slice A n c, .int .i64 s.key, .int .i64 s.cmp, .int .i64 s.del, .int .i64 s.sort], .agg #[.int .i64 x.part, .int .i64 x.id, .int .i64 x.st, .int .i64 x.en, .slice OA on oc, .slice CA cn cc]] w fun e w' => e = .returned (.bool (tr (ColsOk s x))) ∧ Below w.heap.size w w' := by
  obtain ⟨w1, hw1⟩ : ∃ w1, w1 = (w.alloc (.cells #[.slice A n c, .int .i64 s.key, .int .i64 s.cmp, .int .i64 s.del, .int .i64 s.sort] 24)).alloc (.cells #[.int .i64 x.part, .int .i64 x.id, .int .i64 x.st, .int .i64 x.en, .slice OA on oc, .slice CA cn cc] 28) := ⟨_, rfl⟩
  have z1 : (w.alloc (.cells #[.slice A n c, .int .i64 s.key, .int .i64 s.cmp, .int .i64 s.del, .int .i64 s.sort] 24)).heap.size = w.heap.size + 1 := by simp
  have s1 : Sb w1 w.heap.size A n c s.key s.cmp s.del s.sort := by rw [hw1]; exact (Wd.Bx.new w _ _).alloc _
  have x1 : Gb w1 (w.heap.size + 1) x.part x.id x.st x.en OA on oc CA cn cc := by
    have := Gb.new (w.alloc (.cells #[.slice A n c, .int .i64 s.key, .int .i64 s.cmp, .int .i64 s.del, .int .i64 s.sort] 24)) x.part x.id x.st x.en OA on oc CA cn cc
    rw [z1] at this
    rw [hw1]
    exact this
  have hb1 : Below w.heap.size w w1 := by rw [hw1]; exact ((Below.refl _ _).alloc (Nat.le_refl _) _).alloc (by simp) _
  obtain ⟨c0, c1, c2, c3, c4⟩ := five s1
  obtain ⟨d0, d1, d2, d3, d4, d5⟩ := x1.six
  have Hn := Lib.hid hS.len
  have Hcn := Lib.hid hX.cols.len
  have Hon := Lib.hid hX.offs.len
  have hoc := hX.offs.cap
  have hox := hX.offs.max
  unfold maxLen at hox
  have HX := Lib.hid hX
  have X1 := Lib.hid x1
  have Hb1 := Lib.hid hb1
  have Hw1 := Lib.hid hw1
  have hzl := x1.lt
  obtain ⟨r, hr⟩ : ∃ r, r = tr (ColsOk s x) := ⟨_, rfl⟩
  rw [← hr]
  have Hr := Lib.hid hr
  have Hno := Lib.hid (fun (h : ¬ ColsOk s x) => (by rw [hr]; exact tr_no h : r = false))
  clear hw1 z1 s1 x1 hb1 hX hS hr
  go_enter Tryz.func43, Tryz.ntmps43
  go_upto_region 1 with fail
  rw [← Hw1.out]
  by_cases h1 : cn = n
  case neg =>
    have t1 : ((cn : Int) != (n : Int)) = true := by simp; omega
    have t2 := Lib.hid (Hno.out fun z => h1 (by have := z.1; rw [HX.out.eq, Wd.cols_len] at this; have := Hn.out; have := Hcn.out; omega))
    clear h1
    go_wp2_with fail
    go_ret
    exact ⟨by rw [t2.out]; rfl, Hb1.out⟩
  have t1 : ((cn : Int) != (n : Int)) = false := by simp; omega
  by_cases h2 : 4096 < on
  · have t3 : (4096 : Int) < (on : Int) := by omega
    have t3' : decide ((4096 : Int) < (on : Int)) = true := decide_eq_true t3
    have t2 := Lib.hid (Hno.out fun z => by have := z.2.1; have := Hon.out; omega)
    have H1 := Lib.hid h1
    clear h1
    go_wp2_with fail
    go_ret
    exact ⟨by rw [t2.out]; rfl, Hb1.out⟩
  have t3 : ¬ (4096 : Int) < (on : Int) := by omega
  have t3' : decide ((4096 : Int) < (on : Int)) = false := decide_eq_false t3
  have H1 := Lib.hid h1
  clear h1
  go_wp2_with fail
  go_loopw [23] (fun i wr => ∃ k : Nat, i = .int .i64 k ∧ k ≤ cn ∧ Hid ((∀ j, j < k → (os.getD j default).C.n = (on : Int) ∧ Co.Valid (os.getD j default).C) ∧ Below w1.heap.size w1 wr)) (fun i _ => cn - (intOf i).toNat)
  case atStart => exact ⟨0, rfl, Nat.zero_le _, Lib.hid ⟨fun j hj => by omega, Below.refl _ _⟩⟩
  case round =>
    clear c0 c1 c2 c3 c4 d0 d1 d2 d3 d4 d5
    obtain ⟨k, rfl, hk, hI⟩ := hrel
    by_cases hltk : k < cn
    · have hkI : (k : Int) < (cn : Int) := by omega
      have hbw : Below w.heap.size w wr := Hb1.out.trans (hI.out.2.mono Hb1.out.size)
      have hko : k < os.length := by rw [← Hcn.out]; exact hltk
      obtain ⟨b, f, hA, _, c0, c1, c2, h1⟩ := (HX.out.cols.below hbw).cells hko rfl
      subst hA
      have hsz := hlt k hko
      obtain ⟨o, ho⟩ : ∃ o, o = os.getD k default := ⟨_, rfl⟩
      rw [← ho] at c0 c1 c2 h1 hsz
      have hbad := fun (h : ¬ (o.C.n = (on : Int) ∧ Co.Valid o.C)) => Hno.out fun z => h (by
        have := z.2.2 o.C (by
          rw [HX.out.eq, ho]
          unfold Wd.cols
          refine List.mem_map.2 ⟨os.getD k default, ?_, rfl⟩
          rw [List.getD_eq_getElem?_getD, List.getElem?_eq_getElem hko]
          exact List.getElem_mem hko)
        rw [← Hon.out] at this
        exact this)
      have hal := (Below.refl wr.heap.size wr).alloc (Nat.le_refl _) (.cells #[.int .i64 o.C.n, .slice o.A o.n o.c, .slice o.B o.m o.d] 57)
      have bx := Cx.Cb.new wr o.C.n o.A o.n o.c o.B o.m o.d
      have Cm := Lib.hid (Cx.cmay_any o.A o.n o.c o.B o.m o.d o.C _ (h1.below hal) hsz.1 hsz.2)
      have xb := Gb.six ((X1.out.below X1.out.lt hI.out.2).alloc (.cells #[.int .i64 o.C.n, .slice o.A o.n o.c, .slice o.B o.m o.d] 57))
      have x4 := xb.2.2.2.2.1
      obtain ⟨b0, b1, b2⟩ := And.intro bx.c0 (And.intro bx.c1 bx.c2)
      have Hal := Lib.hid (hI.out.2.trans (hal.mono hI.out.2.size))
      have hnn := h1.n0
      have hnn2 := h1.n1
      have Ho := Lib.hid ho
      have Hbad := Lib.hid hbad
      have Hbw := Lib.hid hbw
      clear hal bx h1 hsz ho hko hbad xb hbw
      by_cases q1 : o.C.n = (on : Int)
      case neg =>
        have t5 : (o.C.n != (on : Int)) = true := by simpa using q1
        have t6 := Lib.hid (Hbad.out fun z => q1 z.1)
        clear q1 hI
        go_wp2_with fail
        go_ret
        exact ⟨by rw [t6.out]; rfl, Hb1.out.trans (Hal.out.mono Hb1.out.size)⟩
      have t5 : (o.C.n != (on : Int)) = false := by simpa using q1
      have Q1 := Lib.hid q1
      clear q1
      by_cases q2 : Co.Valid o.C
      case neg =>
        have t6 := Lib.hid (Hbad.out fun z => q2 z.2)
        have t7 := Lib.hid (tr_no q2)
        clear q2 hI
        go_wp2_with fail
        refine Cm.out.mono ?_
        rintro e w3 ⟨rfl, hB3⟩
        rw [t7.out]
        have H3 := Lib.hid (Hal.out.trans (hB3.mono Hal.out.size))
        clear hB3 Cm
        go_wp2_with fail
        go_ret
        exact ⟨by rw [t6.out]; rfl, Hb1.out.trans (H3.out.mono Hb1.out.size)⟩
      have t7 := Lib.hid (tr_yes q2)
      have Q2 := Lib.hid q2
      clear q2
      go_wp2_with fail
      refine Cm.out.mono ?_
      rintro e w3 ⟨rfl, hB3⟩
      rw [t7.out]
      have I3 := Lib.hid (show (∀ j, j < k + 1 → (os.getD j default).C.n = (on : Int) ∧ Co.Valid (os.getD j default).C) ∧ Below w1.heap.size w1 w3 from ⟨fun j hj => by
        by_cases z : j = k
        · rw [z, ← Ho.out]; exact ⟨Q1.out, Q2.out⟩
        · exact hI.out.1 j (by omega), Hal.out.trans (hB3.mono Hal.out.size)⟩)
      clear hB3 Cm hI
      go_wp2_with fail
      go_roundw
      case rel => exact ⟨k + 1, by go_num, by omega, I3⟩
      case measure => simp [intOf]; omega
    · have hkI : ¬ (k : Int) < (cn : Int) := by omega
      have t6 := Lib.hid (show r = true by
        rw [Hr.out]
        refine tr_yes ⟨by rw [HX.out.eq, Wd.cols_len]; have := Hn.out; have := Hcn.out; have := H1.out; omega, by have := Hon.out; omega, fun c hc => ?_⟩
        rw [HX.out.eq] at hc
        obtain ⟨o, ho, rfl⟩ := List.mem_map.1 hc
        obtain ⟨j, hj, rfl⟩ := List.getElem_of_mem ho
        have := hI.out.1 j (by have := Hcn.out; omega)
        rw [← Hon.out]
        simpa [List.getD, List.getElem?_eq_getElem hj] using this)
      have H3 := Lib.hid (Hb1.out.trans (hI.out.2.mono Hb1.out.size))
      clear hI
      go_wp2_with fail
      go_ret
      exact ⟨by rw [t6.out]; rfl, H3.out⟩
end Se
namespace Se
open Va (Vl May null cmpI)
open Sc (Sch tr tr_yes tr_no tr_iff tr_congr)
open Sx (Sb five)
open Wd (Cr)
def RowsOk (s : Sch) (x : Seg) : Prop := Fit s (rows x) ∧ ∀ i, 1 ≤ i → i < x.offs.length → Nb s x i
theorem fst_two (c d : Int) : Vc.fstN [c, d] < 0 ↔ c < 0 ∨ (c = 0 ∧ d < 0) := by
  unfold Vc.fstN Vc.fstN
  split
  · rename_i h
    simp [Vc.fstN, h]
    split <;> omega
  · omega
theorem cmpI_lt (x y : Int) : cmpI x y < 0 ↔ x < y := by
  unfold cmpI Va.way
  by_cases h : x < y
  · simp [h]
  · by_cases h2 : y < x <;> simp [h, h2]
noncomputable def nbv (s : Sch) (x : Seg) (i : Nat) : Int := Vc.fstN [cf s (rows x) (i - 1) i, cmpI (x.offs.getD (i - 1) 0) (x.offs.getD i 0)]
theorem nb_iff (s : Sch) (x : Seg) (i : Nat) : Nb s x i ↔ nbv s x i < 0 := by
  unfold Nb nbv
  rw [fst_two, cmpI_lt]
theorem grown_below {w w' : World} (h : ∃ q os, w' = Go.Sort.grow (w.drewN q) os) : Below w.heap.size w w' := by
  obtain ⟨q, os, rfl⟩ := h
  exact ⟨rfl, rfl, rfl, by rw [Go.Sort.size_grow]; exact Nat.le_add_right _ _, fun g hg => Ssm.heap_grown hg⟩
set_option maxHeartbeats 8000000 in
theorem mayRows_any (A : Option Addr) (n c : Nat) (s : Sch) (OA : Option Addr) (on oc : Nat) (CA : Option Addr) (cn cc : Nat) (os : List Cr) (x : Seg) (w : World) (hS : Wd.Cs w A n c s.cols) (hX : Sg w OA on oc CA cn cc os x) (hlt : Lt os) (hn : n ≤ 1000000) (hcn : cn ≤ 1000000) (hon : on ≤ 1000000) :
    Calls Tryz.prog 45 #[.agg #[.slice A n c, .int .i64 s.key, .int .i64 s.cmp, .int .i64 s.del, .int .i64 s.sort], .agg #[.int .i64 x.part, .int .i64 x.id, .int .i64 x.st, .int .i64 x.en, .slice OA on oc, .slice CA cn cc]] w fun e w' => e = .returned (.bool (tr (RowsOk s x))) ∧ Below w.heap.size w w' := by
  obtain ⟨w1, hw1⟩ : ∃ w1, w1 = (w.alloc (.cells #[.slice A n c, .int .i64 s.key, .int .i64 s.cmp, .int .i64 s.del, .int .i64 s.sort] 24)).alloc (.cells #[.int .i64 x.part, .int .i64 x.id, .int .i64 x.st, .int .i64 x.en, .slice OA on oc, .slice CA cn cc] 28) := ⟨_, rfl⟩
  have z1 : (w.alloc (.cells #[.slice A n c, .int .i64 s.key, .int .i64 s.cmp, .int .i64 s.del, .int .i64 s.sort] 24)).heap.size = w.heap.size + 1 := by simp
  have s1 : Sb w1 w.heap.size A n c s.key s.cmp s.del s.sort := by rw [hw1]; exact (Wd.Bx.new w _ _).alloc _
  have x1 : Gb w1 (w.heap.size + 1) x.part x.id x.st x.en OA on oc CA cn cc := by
    have := Gb.new (w.alloc (.cells #[.slice A n c, .int .i64 s.key, .int .i64 s.cmp, .int .i64 s.del, .int .i64 s.sort] 24)) x.part x.id x.st x.en OA on oc CA cn cc
    rw [z1] at this
    rw [hw1]
    exact this
  have hb1 : Below w.heap.size w w1 := by rw [hw1]; exact ((Below.refl _ _).alloc (Nat.le_refl _) _).alloc (by simp) _
  obtain ⟨c0, c1, c2, c3, c4⟩ := five s1
  obtain ⟨d0, d1, d2, d3, d4, d5⟩ := x1.six
  have Cr := Lib.hid (rows_any OA on oc CA cn cc os x w1 (hX.below hb1) hlt hcn hon)
  have HS := Lib.hid hS
  have HX := Lib.hid hX
  have S1 := Lib.hid s1
  have X1 := Lib.hid x1
  have Hb1 := Lib.hid hb1
  have Hw1 := Lib.hid hw1
  have Hon := Lib.hid hX.offs.len
  have hoc := hX.offs.cap
  have hox := hX.offs.max
  unfold maxLen at hox
  obtain ⟨r, hr⟩ : ∃ r, r = tr (RowsOk s x) := ⟨_, rfl⟩
  rw [← hr]
  have Hno := Lib.hid (fun (h : ¬ RowsOk s x) => (by rw [hr]; exact tr_no h : r = false))
  have Hyes := Lib.hid (fun (h : RowsOk s x) => (by rw [hr]; exact tr_yes h : r = true))
  clear hw1 z1 hX hS hr
  go_enter Tryz.func45, Tryz.ntmps45
  go_upto_region 1 with fail
  rw [← Hw1.out]
  go_wp2_with fail
  refine Cr.out.mono ?_
  rintro e w2 ⟨RA, rn, rc, rfl, hL2, hB2⟩
  have hb2 := hb1.trans (hB2.mono hb1.size)
  have s2 := s1.below s1.lt hB2
  have x2 := x1.below x1.lt hB2
  obtain ⟨c0, c1, c2, c3, c4⟩ := five s2
  have Cf := Lib.hid (fit_any A n c s RA rn rc (rows x) w2 (HS.out.below hb2) hL2 hn)
  have hrn : rn = on := by rw [hL2.len, rows_len]; exact Hon.out.symm
  subst hrn
  have HL2 := Lib.hid hL2
  have S2 := Lib.hid s2
  have X2 := Lib.hid x2
  have Hb2 := Lib.hid hb2
  have hL2c := hL2.cap
  have hL2m := hL2.max
  unfold maxLen at hL2m
  clear d0 d1 d2 d3 d4 d5 s1 x1 hb1 hL2 hB2 s2 x2 hb2 Cr
  by_cases hf : Fit s (rows x)
  case neg =>
    have t1 := Lib.hid (tr_no hf)
    have t2 := Lib.hid (Hno.out fun z => hf z.1)
    clear hf
    go_wp2_with fail
    refine Cf.out.mono ?_
    rintro e w3 ⟨rfl, hB3⟩
    rw [t1.out]
    have H3 := Lib.hid (Hb2.out.trans (hB3.mono Hb2.out.size))
    clear hB3 Cf
    go_wp2_with fail
    go_ret
    exact ⟨by rw [t2.out]; rfl, H3.out⟩
  have t1 := Lib.hid (tr_yes hf)
  have Hf := Lib.hid hf
  clear hf
  go_wp2_with fail
  refine Cf.out.mono ?_
  rintro e w3 ⟨rfl, hB3⟩
  rw [t1.out]
  have HL3 := Lib.hid (HL2.out.below hB3)
  have S3 := Lib.hid (S2.out.below S2.out.lt hB3)
  have X3 := Lib.hid (X2.out.below X2.out.lt hB3)
  have Hb3 := Lib.hid (Hb2.out.trans (hB3.mono Hb2.out.size))
  clear hB3 Cf c0 c1 c2 c3 c4
  go_wp2_with fail
  go_loopw [6] (fun i wr => ∃ k : Nat, i = .int .i64 k ∧ 1 ≤ k ∧ k ≤ rn + 1 ∧ Hid ((∀ j, 1 ≤ j → j < k → j < rn → Nb s x j) ∧ Below w3.heap.size w3 wr)) (fun i _ => rn + 1 - (intOf i).toNat)
  case atStart => exact ⟨1, rfl, Nat.le_refl _, by omega, Lib.hid ⟨fun j h1 h2 => by omega, Below.refl _ _⟩⟩
  case round =>
    obtain ⟨k, rfl, hk1, hk2, hI⟩ := hrel
    by_cases hltk : k < rn
    · have hkI : (k : Int) < (rn : Int) := by omega
      obtain ⟨kp, hkp⟩ : ∃ z, z + 1 = k := ⟨k - 1, by omega⟩
      have hlen : (rows x).length = rn := by rw [rows_len]; exact Hon.out.symm
      have hI2 := hI.out.2
      have LL := HL3.out.below hI2
      obtain ⟨b, f, A1, n1, c1, hA, _, r0, hV1⟩ := LL.at_ kp (by omega)
      obtain ⟨b', f', A2, n2, c2, hA', _, r1, hV2⟩ := LL.at_ k (by omega)
      subst hA
      cases hA'
      have hbw : Below w.heap.size w wr := Hb3.out.trans (hI2.mono Hb3.out.size)
      have OO := HX.out.offs.below hbw
      obtain ⟨ob, of, hO, _, o0⟩ := OO.rd kp (by have := Hon.out; omega)
      obtain ⟨ob', of', hO', _, o1⟩ := OO.rd k (by have := Hon.out; omega)
      subst hO
      cases hO'
      have sb := five (S3.out.below S3.out.lt hI2)
      have xb := Gb.six (X3.out.below X3.out.lt hI2)
      have gm : ∀ j, j < rn → Srt s ((rows x).getD j []) := fun j hj => srt_of (Hf.out.2 _ (by
        rw [List.getD_eq_getElem?_getD, List.getElem?_eq_getElem (by omega)]
        exact List.getElem_mem _))
      have Cc := Lib.hid (fun W (hb : Below wr.heap.size wr W) => compare_any A n c s A1 n1 c1 _ A2 n2 c2 _ W (hV1.below hb) (hV2.below hb) (gm kp (by omega)) (gm k hltk))
      have e1 : cm s ((rows x).getD kp []) ((rows x).getD k []) = cf s (rows x) (k - 1) k := by unfold cf; rw [show k - 1 = kp by omega]
      have hnb := nb_iff s x k
      unfold nbv at hnb
      rw [show k - 1 = kp by omega] at hnb e1
      rw [e1] at Cc
      generalize cf s (rows x) kp k = cv at *
      generalize x.offs.getD kp 0 = y0 at *
      generalize x.offs.getD k 0 = y1 at *
      have zk : (k : Int) - 1 = (kp : Int) := by omega
      have rk : IntKind.i64.wrap (kp : Int) = (kp : Int) := by rw [IntKind.wrap_i64]; omega
      have kpI : (kp : Int) < (rn : Int) := by omega
      have bk : ∀ {W : World} {a : Addr} {v : Value}, Below wr.heap.size wr W → wr.cell? a = some v → W.cell? a = some v := fun {W a v} hb hc => (hb.cell (World.block_lt_of_cell? wr a hc)).trans hc
      have ZZ := Lib.hid (fun (w' : World) (hb : Below wr.heap.size wr w') => (show w'.cell? ⟨w.heap.size, 0, none⟩ = some (.slice A n c) ∧ w'.cell? ⟨w.heap.size, 1, none⟩ = some (.int .i64 s.key) ∧ w'.cell? ⟨w.heap.size, 2, none⟩ = some (.int .i64 s.cmp) ∧ w'.cell? ⟨w.heap.size, 3, none⟩ = some (.int .i64 s.del) ∧ w'.cell? ⟨w.heap.size, 4, none⟩ = some (.int .i64 s.sort) ∧ w'.cell? ⟨w.heap.size + 1, 4, none⟩ = some (.slice (some ⟨ob, of, none⟩) rn oc) ∧ w'.cell? ⟨b, f + kp, none⟩ = some (.slice A1 n1 c1) ∧ w'.cell? ⟨b, f + k, none⟩ = some (.slice A2 n2 c2) ∧ w'.cell? ⟨ob, of + kp, none⟩ = some (.int .i64 y0) ∧ w'.cell? ⟨ob, of + k, none⟩ = some (.int .i64 y1) from
        ⟨bk hb sb.1, bk hb sb.2.1, bk hb sb.2.2.1, bk hb sb.2.2.2.1, bk hb sb.2.2.2.2, bk hb xb.2.2.2.2.1, bk hb r0, bk hb r1, bk hb o0, bk hb o1⟩))
      have Ccb := Lib.hid (fun W (hb : Below wr.heap.size wr W) => (Cc.out W hb).mono (R' := fun e w' => e = .returned (.int .i64 cv) ∧ Below W.heap.size W w') fun e w' h => ⟨h.1, grown_below h.2⟩)
      have Cmp := Lib.hid (fun W => (Vc.cmpI_any y0 y1 W).mono (R' := fun e w' => e = .returned (.int .i64 (cmpI y0 y1)) ∧ Below W.heap.size W w') fun e w' h => ⟨h.1, by rw [h.2]; exact Below.refl _ _⟩)
      obtain ⟨dv, hdv⟩ : ∃ dv, dv = cmpI y0 y1 := ⟨_, rfl⟩
      rw [← hdv] at Cmp hnb
      obtain ⟨ov, hov⟩ : ∃ ov, ov = Vc.fstN [cv, dv] := ⟨_, rfl⟩
      have Cor := Lib.hid (fun (W : World) => (show Calls Tryz.prog 90 #[.slice (some ⟨W.heap.size, 0, none⟩) 2 2] (W.alloc (.cells #[.int .i64 cv, .int .i64 dv] 3)) fun e w' => e = .returned (.int .i64 ov) ∧ Below W.heap.size W w' from
        (Vc.or_any _ 2 2 [cv, dv] _ (Wd.Sl.lit W .i64 [cv, dv] 3 _ 2 rfl rfl (by decide)) (by decide)).mono fun e w' h => ⟨by rw [h.1, hov], by rw [h.2]; exact (Below.refl _ _).alloc (Nat.le_refl _) _⟩))
      rw [← hov] at hnb
      have Hov := Lib.hid hov
      have Hnb := Lib.hid hnb
      have HI := Lib.hid hI.out
      have Hkp := Lib.hid hkp
      have hIs := hI.out.2.size
      clear sb xb r0 r1 o0 o1 LL OO hV1 hV2 hbw gm Cc e1 hnb hdv hov hI hI2 hlen hkp bk
      go_upto_region 7 with fail
      go_cut [7] (fun v wz => v = .int .i64 ov ∧ Below wr.heap.size wr wz)
      case first =>
        have hb : Below wr.heap.size wr wr.drew := (Below.refl _ _).drew
        have z10 := ZZ.out wr.drew hb
        have hcv : True := trivial
        go_region_held3 (fun w' => w'.cell? ⟨w.heap.size, 0, none⟩ = some (.slice A n c) ∧ w'.cell? ⟨w.heap.size, 1, none⟩ = some (.int .i64 s.key) ∧ w'.cell? ⟨w.heap.size, 2, none⟩ = some (.int .i64 s.cmp) ∧ w'.cell? ⟨w.heap.size, 3, none⟩ = some (.int .i64 s.del) ∧ w'.cell? ⟨w.heap.size, 4, none⟩ = some (.int .i64 s.sort) ∧ w'.cell? ⟨w.heap.size + 1, 4, none⟩ = some (.slice (some ⟨ob, of, none⟩) rn oc) ∧ w'.cell? ⟨b, f + kp, none⟩ = some (.slice A1 n1 c1) ∧ w'.cell? ⟨b, f + k, none⟩ = some (.slice A2 n2 c2) ∧ w'.cell? ⟨ob, of + kp, none⟩ = some (.int .i64 y0) ∧ w'.cell? ⟨ob, of + k, none⟩ = some (.int .i64 y1)) (first | with_reducible exact z10 | exact ZZ.out _ (hb.alloc hb.size _)) (first
          | (go_at_call 91; (with_reducible refine (Ccb.out _ hb).mono ?_); rintro e w5 ⟨rfl, hB5⟩; have hb := hb.trans (hB5.mono hb.size); have z10 := ZZ.out _ hb)
          | (go_at_call 92; (with_reducible refine (Cmp.out _).mono ?_); rintro e w6 ⟨rfl, hB6⟩; have hb := hb.trans (hB6.mono hb.size); have z10 := ZZ.out _ hb)
          | (go_at_call 90; (with_reducible refine (Cor.out _).mono ?_); rintro e w7 ⟨rfl, hB7⟩; have hb := hb.trans (hB7.mono hb.size); have z10 := ZZ.out _ hb))
        all_goals (
          go_wp2_with fail
          go_meet
          exact ⟨rfl, hb⟩)
      case rest =>
        obtain ⟨rfl, hbc⟩ := hcut
        have Hb5 := Lib.hid (HI.out.2.trans (hbc.mono hIs))
        clear hbc ZZ Ccb Cmp Cor
        by_cases hv : 0 ≤ ov
        · have hv' : decide (0 ≤ ov) = true := decide_eq_true hv
          have t2 := Lib.hid (Hno.out fun z => by
            have := Hnb.out.1 (z.2 k hk1 (by have := Hon.out; omega))
            omega)
          clear HI
          go_wp2_with fail
          go_ret
          exact ⟨by rw [t2.out]; rfl, Hb3.out.trans (Hb5.out.mono Hb3.out.size)⟩
        · have hv' : decide (0 ≤ ov) = false := decide_eq_false hv
          have I6 := Lib.hid (show (∀ j, 1 ≤ j → j < k + 1 → j < rn → Nb s x j) ∧ Below w3.heap.size w3 wc from ⟨fun j h1 h2 h3 => by
            by_cases z : j = k
            · rw [z]; exact Hnb.out.2 (by omega)
            · exact HI.out.1 j h1 (by omega) h3, Hb5.out⟩)
          clear HI
          go_wp2_with fail
          go_roundw
          case rel => exact ⟨k + 1, by go_num, by omega, by omega, I6⟩
          case measure => simp [intOf]; omega
    · have hkI : ¬ (k : Int) < (rn : Int) := by omega
      have t2 := Lib.hid (Hyes.out ⟨Hf.out, fun i h1 h2 => hI.out.1 i h1 (by have := Hon.out; omega) (by have := Hon.out; omega)⟩)
      have H4 := Lib.hid (Hb3.out.trans (hI.out.2.mono Hb3.out.size))
      clear hI
      go_wp2_with fail
      go_ret
      exact ⟨by rw [t2.out]; rfl, H4.out⟩
end Se
namespace Se
open Sc (Sch MayS tr tr_yes tr_no tr_iff tr_congr)
open Sx (Sb five)
open Wd (Cr)
theorem ok_of {s : Sch} {x : Seg} (h1 : Head x) (h2 : ColsOk s x) (h3 : OffOk x) (h4 : RowsOk s x) : Ok s x :=
  ⟨h1, h2.1, h2.2.1, h2.2.2, h3.1, h3.2, h4.1, h4.2⟩
theorem Ok.parts {s : Sch} {x : Seg} (h : Ok s x) : MayS s ∧ Head x ∧ ColsOk s x ∧ OffOk x ∧ RowsOk s x :=
  ⟨h.fit.1, h.head, ⟨h.num, h.len, h.cols⟩, ⟨h.dis, h.rng⟩, h.fit, h.nb⟩
structure Bm (w w' : World) (A : Option Addr) (n c : Nat) (s : Sch) (OA : Option Addr) (on oc : Nat) (CA : Option Addr) (cn cc : Nat) (x : Seg) : Prop where
  s : Sb w' w.heap.size A n c s.key s.cmp s.del s.sort
  x : Gb w' (w.heap.size + 1) x.part x.id x.st x.en OA on oc CA cn cc
  b : Below w.heap.size w w'
theorem Bm.below {w w1 w2 : World} {A : Option Addr} {n c : Nat} {s : Sch} {OA : Option Addr} {on oc : Nat} {CA : Option Addr} {cn cc : Nat} {x : Seg} (h : Bm w w1 A n c s OA on oc CA cn cc x) (hb : Below w1.heap.size w1 w2) : Bm w w2 A n c s OA on oc CA cn cc x :=
  ⟨h.s.below h.s.lt hb, h.x.below h.x.lt hb, h.b.trans (hb.mono h.b.size)⟩
set_option maxHeartbeats 4000000 in
theorem may_any (A : Option Addr) (n c : Nat) (s : Sch) (OA : Option Addr) (on oc : Nat) (CA : Option Addr) (cn cc : Nat) (os : List Cr) (x : Seg) (w : World) (hS : Wd.Cs w A n c s.cols) (hX : Sg w OA on oc CA cn cc os x) (hlt : Lt os) (hn : n ≤ 1000000) (hcn : cn ≤ 1000000) (hon : on ≤ 1000000) :
    Calls Tryz.prog 19 #[.agg #[.slice A n c, .int .i64 s.key, .int .i64 s.cmp, .int .i64 s.del, .int .i64 s.sort], .agg #[.int .i64 x.part, .int .i64 x.id, .int .i64 x.st, .int .i64 x.en, .slice OA on oc, .slice CA cn cc]] w fun e w' => e = .returned (.bool (tr (Ok s x))) ∧ Below w.heap.size w w' := by
  obtain ⟨w1, hw1⟩ : ∃ w1, w1 = (w.alloc (.cells #[.slice A n c, .int .i64 s.key, .int .i64 s.cmp, .int .i64 s.del, .int .i64 s.sort] 24)).alloc (.cells #[.int .i64 x.part, .int .i64 x.id, .int .i64 x.st, .int .i64 x.en, .slice OA on oc, .slice CA cn cc] 28) := ⟨_, rfl⟩
  have z1 : (w.alloc (.cells #[.slice A n c, .int .i64 s.key, .int .i64 s.cmp, .int .i64 s.del, .int .i64 s.sort] 24)).heap.size = w.heap.size + 1 := by simp
  have H1 : Bm w w1 A n c s OA on oc CA cn cc x := by
    have g1 := Gb.new (w.alloc (.cells #[.slice A n c, .int .i64 s.key, .int .i64 s.cmp, .int .i64 s.del, .int .i64 s.sort] 24)) x.part x.id x.st x.en OA on oc CA cn cc
    rw [z1] at g1
    rw [hw1]
    exact ⟨(Wd.Bx.new w _ _).alloc _, g1, ((Below.refl _ _).alloc (Nat.le_refl _) _).alloc (by simp) _⟩
  have H1 := Lib.hid H1
  have Hw1 := Lib.hid hw1
  have Hlt := Lib.hid hlt
  have C1 := Lib.hid (Sx.May_any A n c s w1 (hS.below H1.out.b) hn)
  have C2 := Lib.hid (fun W (_ : Below w.heap.size w W) => head_any OA on oc CA cn cc x W)
  have C3 := Lib.hid (fun W (hb : Below w.heap.size w W) => mayCols_any A n c s OA on oc CA cn cc os x W (hS.below hb) (hX.below hb) hlt hcn)
  have C4 := Lib.hid (fun W (hb : Below w.heap.size w W) (hh : Head x) => mayOffsets_any OA on oc CA cn cc os x W (hX.below hb) hon hh.2.2.2.2.1 (by have := hh.2.2.2.2.2; omega) hh.2.2.2.2.2.2)
  have C5 := Lib.hid (fun W (hb : Below w.heap.size w W) => mayRows_any A n c s OA on oc CA cn cc os x W (hS.below hb) (hX.below hb) hlt hn hcn hon)
  obtain ⟨r, hr⟩ : ∃ r, r = tr (Ok s x) := ⟨_, rfl⟩
  rw [← hr]
  have Hno := Lib.hid (fun (h : ¬ Ok s x) => (by rw [hr]; exact tr_no h : r = false))
  have Hyes := Lib.hid (fun (h : Ok s x) => (by rw [hr]; exact tr_yes h : r = true))
  obtain ⟨c0, c1, c2, c3, c4⟩ := five H1.out.s
  obtain ⟨d0, d1, d2, d3, d4, d5⟩ := Gb.six H1.out.x
  clear hw1 z1 hS hX hr
  go_enter Tryz.func19, Tryz.ntmps19
  go_upto_region 1 with fail
  rw [← Hw1.out]
  by_cases h1 : MayS s
  case neg =>
    have t1 := Lib.hid (tr_no h1)
    have q := Lib.hid (Hno.out fun z => h1 z.parts.1)
    clear h1
    go_wp2_with fail
    refine C1.out.mono ?_
    rintro e w2 ⟨rfl, hb⟩
    rw [t1.out]
    have H2 := Lib.hid (H1.out.below hb)
    clear hb c0 c1 c2 c3 c4 d0 d1 d2 d3 d4 d5
    go_wp2_with fail
    go_ret
    exact ⟨by rw [q.out]; rfl, H2.out.b⟩
  have t1 := Lib.hid (tr_yes h1)
  have P1 := Lib.hid h1
  clear h1
  go_wp2_with fail
  refine C1.out.mono ?_
  rintro e w2 ⟨rfl, hb⟩
  rw [t1.out]
  have H2 := Lib.hid (H1.out.below hb)
  clear hb c0 c1 c2 c3 c4 d0 d1 d2 d3 d4 d5
  obtain ⟨c0, c1, c2, c3, c4⟩ := five H2.out.s
  obtain ⟨d0, d1, d2, d3, d4, d5⟩ := Gb.six H2.out.x
  by_cases h2 : Head x
  case neg =>
    have t2 := Lib.hid (tr_no h2)
    have q := Lib.hid (Hno.out fun z => h2 z.parts.2.1)
    clear h2
    go_wp2_with fail
    refine (C2.out _ H2.out.b).mono ?_
    rintro e w3 ⟨rfl, hb⟩
    rw [t2.out]
    have H3 := Lib.hid (H2.out.below hb)
    clear hb c0 c1 c2 c3 c4 d0 d1 d2 d3 d4 d5
    go_wp2_with fail
    go_ret
    exact ⟨by rw [q.out]; rfl, H3.out.b⟩
  have t2 := Lib.hid (tr_yes h2)
  have P2 := Lib.hid h2
  clear h2
  go_wp2_with fail
  refine (C2.out _ H2.out.b).mono ?_
  rintro e w3 ⟨rfl, hb⟩
  rw [t2.out]
  have H3 := Lib.hid (H2.out.below hb)
  clear hb c0 c1 c2 c3 c4 d0 d1 d2 d3 d4 d5
  obtain ⟨c0, c1, c2, c3, c4⟩ := five H3.out.s
  obtain ⟨d0, d1, d2, d3, d4, d5⟩ := Gb.six H3.out.x
  by_cases h3 : ColsOk s x
  case neg =>
    have t3 := Lib.hid (tr_no h3)
    have q := Lib.hid (Hno.out fun z => h3 z.parts.2.2.1)
    clear h3
    go_wp2_with fail
    refine (C3.out _ H3.out.b).mono ?_
    rintro e w4 ⟨rfl, hb⟩
    rw [t3.out]
    have H4 := Lib.hid (H3.out.below hb)
    clear hb c0 c1 c2 c3 c4 d0 d1 d2 d3 d4 d5
    go_wp2_with fail
    go_ret
    exact ⟨by rw [q.out]; rfl, H4.out.b⟩
  have t3 := Lib.hid (tr_yes h3)
  have P3 := Lib.hid h3
  clear h3
  go_wp2_with fail
  refine (C3.out _ H3.out.b).mono ?_
  rintro e w4 ⟨rfl, hb⟩
  rw [t3.out]
  have H4 := Lib.hid (H3.out.below hb)
  clear hb c0 c1 c2 c3 c4 d0 d1 d2 d3 d4 d5
  obtain ⟨c0, c1, c2, c3, c4⟩ := five H4.out.s
  obtain ⟨d0, d1, d2, d3, d4, d5⟩ := Gb.six H4.out.x
  by_cases h4 : OffOk x
  case neg =>
    have t4 := Lib.hid (tr_no h4)
    have q := Lib.hid (Hno.out fun z => h4 z.parts.2.2.2.1)
    clear h4
    go_wp2_with fail
    refine (C4.out _ H4.out.b P2.out).mono ?_
    rintro e w5 ⟨rfl, hb⟩
    rw [t4.out]
    have H5 := Lib.hid (H4.out.below hb)
    clear hb c0 c1 c2 c3 c4 d0 d1 d2 d3 d4 d5
    go_wp2_with fail
    go_ret
    exact ⟨by rw [q.out]; rfl, H5.out.b⟩
  have t4 := Lib.hid (tr_yes h4)
  have P4 := Lib.hid h4
  clear h4
  go_wp2_with fail
  refine (C4.out _ H4.out.b P2.out).mono ?_
  rintro e w5 ⟨rfl, hb⟩
  rw [t4.out]
  have H5 := Lib.hid (H4.out.below hb)
  clear hb c0 c1 c2 c3 c4 d0 d1 d2 d3 d4 d5
  obtain ⟨c0, c1, c2, c3, c4⟩ := five H5.out.s
  obtain ⟨d0, d1, d2, d3, d4, d5⟩ := Gb.six H5.out.x
  by_cases h5 : RowsOk s x
  case neg =>
    have t5 := Lib.hid (tr_no h5)
    have q := Lib.hid (Hno.out fun z => h5 z.parts.2.2.2.2)
    clear h5
    go_wp2_with fail
    refine (C5.out _ H5.out.b).mono ?_
    rintro e w6 ⟨rfl, hb⟩
    rw [t5.out]
    have H6 := Lib.hid (H5.out.below hb)
    clear hb c0 c1 c2 c3 c4 d0 d1 d2 d3 d4 d5
    go_wp2_with fail
    go_ret
    exact ⟨by rw [q.out]; rfl, H6.out.b⟩
  have t5 := Lib.hid (tr_yes h5)
  have P5 := Lib.hid h5
  clear h5
  go_wp2_with fail
  refine (C5.out _ H5.out.b).mono ?_
  rintro e w6 ⟨rfl, hb⟩
  rw [t5.out]
  have H6 := Lib.hid (H5.out.below hb)
  clear hb c0 c1 c2 c3 c4 d0 d1 d2 d3 d4 d5
  obtain ⟨c0, c1, c2, c3, c4⟩ := five H6.out.s
  obtain ⟨d0, d1, d2, d3, d4, d5⟩ := Gb.six H6.out.x
  have q := Lib.hid (Hyes.out (ok_of P2.out P3.out P4.out P5.out))
  go_wp2_with fail
  go_ret
  exact ⟨by rw [q.out]; rfl, H6.out.b⟩
end Se
end Go.Proofs.YtaoeipehpakngaaGreatDoor
