/- Words on memory: a slice of values (a kind, a number, a text, a truth); from an argument as the statement reads it to a value, and to a slice of such. The plain arithmetic of layer 1: the digits of a number to the base 128, reading them back, the fold of signed numbers. No program, no memory. Reading what was written as a number, whatever stands behind; bytes. -/
import Derived.ProofKit
import Derived.OpenShut
import Derived.Deep.Slices
import Derived.Lib.SmallJoins
import Derived.Test.YtpappcmgnnmbeaaDoorPk01
import Derived.Test.YtpappcmgnnmbeaaDoorProg
namespace Go.Proofs.YtpappcmgnnmbeaaDoor
set_option maxRecDepth 20000
open Go.RowKit Go.ChangeShapes Go.WideShapes
namespace Wd
open Va (Vl)
instance : Inhabited Vl := ⟨⟨0, 0, ⟨#[]⟩, false⟩⟩
def vals (o : Vl) : List Value := [.int .i64 o.kind, .int .i64 o.i, .string o.s, .bool o.b]
/-- Its numbers are the machine's. -/
structure V1 (o : Vl) : Prop where
  w0 : (Lit.int .i64 o.kind).wf = true
  w1 : (Lit.int .i64 o.i).wf = true
/-- The slice value of address A, length n and capacity c holds the values os. -/
structure Vs (w : World) (A : Option Addr) (n c : Nat) (os : List Vl) : Prop where
  len : n = os.length
  cap : n ≤ c
  max : c ≤ maxLen
  nil : A = none → c = 0
  at_ : ∀ j, j < os.length → ∃ b o, A = some ⟨b, o, none⟩ ∧ b < w.heap.size ∧ (∀ i v, (vals (os.getD j default))[i]? = some v → w.cell? ⟨b, o + (j * 4 + i), none⟩ = some v) ∧ V1 (os.getD j default)
section
variable {w w' : World} {A : Option Addr} {n c : Nat} {os : List Vl} {o : Vl}
theorem Vs.below (h : Vs w A n c os) (hb : Below w.heap.size w w') : Vs w' A n c os :=
  ⟨h.len, h.cap, h.max, h.nil, fun j hj => by
    obtain ⟨b, o, e, hlt, hc, h1⟩ := h.at_ j hj
    exact ⟨b, o, e, Nat.lt_of_lt_of_le hlt hb.size, fun i v hv => (hb.cell (p := ⟨b, o + (j * 4 + i), none⟩) hlt).trans (hc i v hv), h1⟩⟩
theorem Vs.none_ (w : World) : Vs w none 0 0 [] := ⟨rfl, Nat.le_refl _, Nat.zero_le _, fun _ => rfl, fun _ h => by simp at h⟩
/-- The cells of the j-th. -/
theorem Vs.cells (h : Vs w A n c os) {j : Nat} (hj : j < os.length) {o : Vl} (ho : o = os.getD j default) : ∃ b f, A = some ⟨b, f, none⟩ ∧ b < w.heap.size ∧ w.cell? ⟨b, f + j * 4, none⟩ = some (.int .i64 o.kind) ∧ w.cell? ⟨b, f + j * 4 + 1, none⟩ = some (.int .i64 o.i) ∧
    w.cell? ⟨b, f + j * 4 + 2, none⟩ = some (.string o.s) ∧ w.cell? ⟨b, f + j * 4 + 3, none⟩ = some (.bool o.b) ∧ V1 o := by
  subst ho
  obtain ⟨b, f, e, hlt, hc, h1⟩ := h.at_ j hj
  exact ⟨b, f, e, hlt, hc 0 _ rfl, by rw [Nat.add_assoc]; exact hc 1 _ rfl, by rw [Nat.add_assoc]; exact hc 2 _ rfl, by rw [Nat.add_assoc]; exact hc 3 _ rfl, h1⟩
end

section
variable {H : Type} {enc : TypeId × Value → H} {P : Program} {W : World} {r : Reach} {base0 base : Nat} {spare : Nat → Bool} {held : Bool}
/-- The type of a value: its four fields. -/
structure VlT (P : Program) (t : TypeId) (f0 f1 f2 f3 : Field) : Prop where
  u : P.underlying t = some (.struct #[f0, f1, f2, f3])
  c : P.cellsOf t = 4
  o0 : f0.offset = 0
  o1 : f1.offset = 1
  o2 : f2.offset = 2
  o3 : f3.offset = 3
  c0 : P.cellsOf f0.type = 1
  c1 : P.cellsOf f1.type = 1
  c2 : P.cellsOf f2.type = 1
  c3 : P.cellsOf f3.type = 1
  u0 : P.underlying f0.type = some (.int .i64)
  u1 : P.underlying f1.type = some (.int .i64)
  u2 : P.underlying f2.type = some .string
  u3 : P.underlying f3.type = some .bool
theorem open_v1 {t : TypeId} {f0 f1 f2 f3 : Field} (T : VlT P t f0 f1 f2 f3) {fuel : Nat} {cs : List Value} {x : DataW H × List MemPlace} (hl : cs.length = 4) (h : DataW.trod enc P W base spare held fuel t cs = some x) :
    ∃ o : Vl, cs = vals o ∧ V1 o := by
  obtain ⟨xs, k, hk, hxy, _, hxl, hf⟩ := DataW.trod_struct T.u h
  match xs, hxl, cs, hl with
  | [y0, y1, y2, y3], _, [v0, v1, v2, v3], _ =>
    have g0 := hf 0 f0 rfl
    have g1 := hf 1 f1 rfl
    have g2 := hf 2 f2 rfl
    have g3 := hf 3 f3 rfl
    simp [T.o0, T.o1, T.o2, T.o3, T.c0, T.c1, T.c2, T.c3] at g0 g1 g2 g3
    obtain ⟨a0, z0, _, w0⟩ := DataW.trod_int T.u0 g0
    obtain ⟨a1, z1, _, w1⟩ := DataW.trod_int T.u1 g1
    obtain ⟨s, z2, _, _⟩ := DataW.trod_string T.u2 g2
    obtain ⟨b, z3, _⟩ := DataW.trod_bool T.u3 g3
    simp only [List.cons.injEq, and_true] at z0 z1 z2 z3
    subst z0 z1 z2 z3
    exact ⟨⟨a0, a1, s, b⟩, rfl, ⟨w0, w1⟩⟩
theorem open_v {t : TypeId} {f0 f1 f2 f3 : Field} (T : VlT P t f0 f1 f2 f3) {v : Value} {d : DataW H} {ps : List MemPlace} (hok : Value.okWide P W r base0 t v) (h : DataW.Trod enc P W base spare held t v d ps) :
    ∃ k i s b, v = .agg #[.int .i64 k, .int .i64 i, .string s, .bool b] ∧ (Lit.int .i64 k).wf = true ∧ (Lit.int .i64 i).wf = true := by
  obtain ⟨cs, rfl, hsz⟩ := okWide_struct T.u hok
  obtain ⟨fuel, hf⟩ := h
  obtain ⟨⟨k, i, s, b⟩, e, h1⟩ := open_v1 T (by simpa [T.c, Value.cells] using hsz) hf
  refine ⟨k, i, s, b, ?_, h1.w0, h1.w1⟩
  simp only [Value.cells] at e
  have : cs = (vals ⟨k, i, s, b⟩).toArray := by rw [← e]
  rw [this]
  rfl
theorem open_vs {t e : TypeId} {f0 f1 f2 f3 : Field} (ht : P.underlying t = some (.slice e)) (T : VlT P e f0 f1 f2 f3) {v : Value} {d : DataW H} {ps : List MemPlace} (hok : Value.okWide P W r base0 t v) (h : DataW.Trod enc P W base spare held t v d ps) :
    ∃ A n c os, v = .slice A n c ∧ Vs W A n c os := by
  obtain ⟨A, n, c, rfl⟩ := okWide_slice ht hok
  obtain ⟨fuel, hf⟩ := h
  rcases Go.Deep.open_slice ht hf with ⟨hcs, _⟩ | ⟨a, len, cap, m, k, D, Pl, hcs, _, hl, hm, hmm, _, hx⟩
  · simp [Value.cells] at hcs
    obtain ⟨rfl, rfl, rfl⟩ := hcs
    exact ⟨none, 0, 0, [], rfl, Vs.none_ _⟩
  · simp [Value.cells] at hcs
    obtain ⟨rfl, rfl, rfl⟩ := hcs
    have hnm : n ≤ m := by rw [hmm]; split <;> omega
    rw [T.c] at hx
    obtain ⟨Y, hY⟩ := Go.Deep.choose_lt (α := Vl) (n := n) (p := fun i y => (∀ j v, (vals y)[j]? = some v → W.cell? (a.add (i * 4 + j)) = some v) ∧ V1 y) (fun i hi => by
      obtain ⟨cs', h1, h2⟩ := hx i (by omega)
      obtain ⟨_, hlen, hcell⟩ := World.cells?_some h1
      obtain ⟨o, e1, h3⟩ := open_v1 T hlen h2
      refine ⟨o, fun j v hv => ?_, h3⟩
      have hj : j < 4 := by
        have := (List.getElem?_eq_some_iff.1 hv).1
        simpa [vals] using this
      have h4 := hcell j hj
      rw [Go.Deep.add_add, e1, hv] at h4
      exact h4)
    refine ⟨some a, n, c, (List.range n).map Y, rfl, ⟨by simp, hl, hm, by simp, fun j hj => ?_⟩⟩
    simp only [List.length_map, List.length_range] at hj
    have hg : ((List.range n).map Y).getD j default = Y j := by simp [List.getD, hj]
    obtain ⟨h1, h2⟩ := hY j hj
    obtain ⟨b, off, spot⟩ := a
    have hs : spot = none := by simpa [Addr.add] using World.cell?_spot ((hY 0 (by omega)).1 0 _ rfl)
    subst hs
    have h5 := h1 0 _ rfl
    rw [Addr.add_lit] at h5
    refine ⟨b, off, rfl, World.block_lt_of_cell? W ⟨b, off + (j * 4 + 0), none⟩ h5, fun i v hv => ?_, by rw [hg]; exact h2⟩
    rw [hg] at hv
    have := h1 i v hv
    rwa [Addr.add_lit] at this
end
theorem vlT : ∃ f0 f1 f2 f3, VlT Tryd.prog 27 f0 f1 f2 f3 :=
  ⟨_, _, _, _, ⟨Tryd.underlying27, by kernel_rfl, rfl, rfl, rfl, rfl, by kernel_rfl, by kernel_rfl, by kernel_rfl, by kernel_rfl,
    Tryd.underlying3, Tryd.underlying3, Tryd.underlying9, Tryd.underlying4⟩⟩
end Wd
end Go.Proofs.YtpappcmgnnmbeaaDoor
namespace Go.Proofs.YtpappcmgnnmbeaaDoor
set_option maxRecDepth 20000
namespace Nm

/-- The digits of u, least first, 128 added to all but the last; at most f + 1 of them. -/
def vdF : Nat → Int → List Int
  | 0, u => [u]
  | f + 1, u => if u < 128 then [u] else (u % 128 + 128) :: vdF f (u / 128)
/-- The digits of a number below 2^64. -/
def vd (u : Int) : List Int := vdF 9 u
/-- The fold of a signed number. -/
def zz (n : Int) : Int := if n < 0 then -2 * n - 1 else 2 * n
/-- Its way back. -/
def unz (u : Int) : Int := if u % 2 = 1 then -(u / 2) - 1 else u / 2
/-- Reading digits: the place, what was read so far, what is left. Answers the number, how many digits, the error. -/
def gvF : Nat → Int → List Int → Int × Int × Int
  | _, _, [] => (0, 0, 6)
  | i, acc, c :: r =>
    if i = 9 ∧ 1 < c then (0, 0, 7)
    else if 128 ≤ c then gvF (i + 1) (acc + c % 128 * 128 ^ i) r
    else if c = 0 ∧ 0 < i then (0, 0, 7)
    else (acc + c * 128 ^ i, i + 1, 0)
def gv (b : List Int) : Int × Int × Int := gvF 0 0 b
/-- What Get answers. -/
def getI (b : List Int) : Int × Int × Int := if (gv b).2.2 = 0 then (unz (gv b).1, (gv b).2.1, 0) else (0, 0, (gv b).2.2)
/-- What GetLen answers. -/
def getL (b : List Int) : Int × Int × Int := if (gv b).2.2 = 0 then (if 9223372036854775807 < (gv b).1 then (0, 0, 7) else ((gv b).1, (gv b).2.1, 0)) else (0, 0, (gv b).2.2)
/-- Every number of the list is a byte. -/
def Byt (b : List Int) : Prop := ∀ x, x ∈ b → 0 ≤ x ∧ x ≤ 255

theorem zz_lo (n : Int) : 0 ≤ zz n := by unfold zz; split <;> omega
theorem zz_hi (n : Int) (h1 : -9223372036854775808 ≤ n) (h2 : n ≤ 9223372036854775807) : zz n ≤ 18446744073709551615 := by unfold zz; split <;> omega
theorem unz_zz (n : Int) : unz (zz n) = n := by
  unfold unz zz
  by_cases h : n < 0
  · rw [if_pos h, if_pos (by omega)]; omega
  · rw [if_neg h, if_neg (by omega)]; omega
theorem zz_unz (u : Int) (h : 0 ≤ u) : zz (unz u) = u := by
  unfold unz zz
  by_cases h : u % 2 = 1
  · rw [if_pos h, if_pos (by omega)]; omega
  · rw [if_neg h, if_neg (by omega)]; omega
theorem unz_bd (u : Int) (h : 0 ≤ u) (h' : u ≤ 18446744073709551615) : -9223372036854775808 ≤ unz u ∧ unz u ≤ 9223372036854775807 := by
  unfold unz; split <;> omega

theorem vdF_lo (f : Nat) (u : Int) (h : u < 128) : vdF f u = [u] := by
  cases f with
  | zero => rfl
  | succ f => exact if_pos h
theorem vdF_hi (f : Nat) (u : Int) (h : ¬ u < 128) : vdF (f + 1) u = (u % 128 + 128) :: vdF f (u / 128) := if_neg h
theorem pow_up {a b : Nat} (h : a ≤ b) : (128 : Int) ^ a ≤ 128 ^ b := by
  induction b with
  | zero => obtain rfl : a = 0 := by omega
            exact Int.le_refl _
  | succ b ih =>
    rcases Nat.lt_or_ge b a with q | q
    · obtain rfl : a = b + 1 := by omega
      exact Int.le_refl _
    · have := ih q
      have hp : (0 : Int) < 128 ^ b := Int.pow_pos (by omega)
      rw [Int.pow_succ]; omega
theorem vdF_len (f : Nat) : ∀ u : Int, 1 ≤ (vdF f u).length ∧ (vdF f u).length ≤ f + 1 := by
  induction f with
  | zero => intro u; simp [vdF]
  | succ f ih =>
    intro u
    rw [vdF]
    split
    · simp
    · have := ih (u / 128); simp only [List.length_cons]; omega
theorem vd_len (u : Int) : 1 ≤ (vd u).length ∧ (vd u).length ≤ 10 := vdF_len 9 u
theorem vdF_byt (f : Nat) : ∀ u : Int, 0 ≤ u → u < 128 ^ (f + 1) → Byt (vdF f u) := by
  induction f with
  | zero => intro u h0 h1 x hx; simp [vdF] at hx; subst hx; simp at h1; omega
  | succ f ih =>
    intro u h0 h1
    rw [vdF]
    split
    · intro x hx; simp at hx; subst hx; omega
    · have e : (128 : Int) ^ (f + 1 + 1) = 128 ^ (f + 1) * 128 := Int.pow_succ 128 (f + 1)
      have := ih (u / 128) (by omega) (by rw [e] at h1; omega)
      intro x hx
      rcases List.mem_cons.1 hx with rfl | hx
      · omega
      · exact this x hx
theorem pow10 : (128 : Int) ^ (9 + 1) = 1180591620717411303424 := by decide
theorem vd_byt (u : Int) (h0 : 0 ≤ u) (h1 : u ≤ 18446744073709551615) : Byt (vd u) := vdF_byt 9 u h0 (by rw [pow10]; omega)

/-- With one digit of fuel more nothing changes. -/
theorem vdF_more (f : Nat) : ∀ u : Int, 0 ≤ u → u < 128 ^ (f + 1) → vdF (f + 1) u = vdF f u := by
  induction f with
  | zero => intro u h0 h1; simp at h1; simp [vdF, h1]
  | succ f ih =>
    intro u h0 h1
    by_cases h : u < 128
    · rw [vdF_lo _ _ h, vdF_lo _ _ h]
    · have e : (128 : Int) ^ (f + 1 + 1) = 128 ^ (f + 1) * 128 := Int.pow_succ 128 (f + 1)
      rw [vdF_hi _ _ h, vdF_hi _ _ h, ih (u / 128) (by omega) (by rw [e] at h1; omega)]
theorem vdF_eq (f : Nat) (u : Int) (h0 : 0 ≤ u) (h1 : u < 128 ^ (f + 1)) : ∀ g, f ≤ g → vdF g u = vdF f u := by
  intro g hg
  induction g with
  | zero => obtain rfl : f = 0 := by omega
            rfl
  | succ g ih =>
    rcases Nat.lt_or_ge g f with h | h
    · obtain rfl : f = g + 1 := by omega
      rfl
    · rw [vdF_more g u h0 (Int.lt_of_lt_of_le h1 (pow_up (by omega))), ih h]

theorem vdF_mono (f : Nat) : ∀ u v : Int, u ≤ v → (vdF f u).length ≤ (vdF f v).length := by
  induction f with
  | zero => intro u v _; simp [vdF]
  | succ f ih =>
    intro u v h
    rw [vdF]
    split
    · have := (vdF_len (f + 1) v).1; simpa using this
    · rw [vdF, if_neg (by omega)]
      simpa using ih (u / 128) (v / 128) (by omega)
theorem vdF_next (f : Nat) : ∀ u : Int, 0 ≤ u → (vdF f (u + 1)).length ≤ (vdF f u).length + 1 := by
  induction f with
  | zero => intro u _; simp [vdF]
  | succ f ih =>
    intro u h
    by_cases h1 : u + 1 < 128
    · rw [vdF, if_pos h1]; simp
    · by_cases h2 : u < 128
      · obtain rfl : u = 127 := by omega
        rw [vdF, if_neg (by omega), vdF, if_pos (by omega)]
        cases f with
        | zero => simp [vdF]
        | succ f => simp [vdF]
      · rw [vdF, if_neg h1, vdF, if_neg h2]
        simp only [List.length_cons]
        by_cases h3 : (u + 1) / 128 = u / 128
        · rw [h3]; omega
        · have e : (u + 1) / 128 = u / 128 + 1 := by omega
          rw [e]
          have := ih (u / 128) (by omega)
          omega

/-- Reading what was written, whatever stands behind. -/
theorem gvF_vdF (f : Nat) : ∀ (i : Nat) (acc u : Int) (more : List Int), i + f = 9 → 0 ≤ u → u * 128 ^ i ≤ 18446744073709551615 → (0 < i → 0 < u) →
    gvF i acc (vdF f u ++ more) = (acc + u * 128 ^ i, ((i + (vdF f u).length : Nat) : Int), 0) := by
  induction f with
  | zero =>
    intro i acc u more hi h0 h1 hp
    obtain rfl : i = 9 := by omega
    have hu : u ≤ 1 := by
      have e : (128 : Int) ^ 9 = 9223372036854775808 := by decide
      rw [e] at h1; omega
    have hu1 := hp (by omega)
    simp only [vdF, List.cons_append, List.nil_append, gvF]
    rw [if_neg (by omega), if_neg (by omega), if_neg (by omega)]
    rfl
  | succ f ih =>
    intro i acc u more hi h0 h1 hp
    rw [vdF]
    by_cases hu : u < 128
    · rw [if_pos hu]
      simp only [List.cons_append, List.nil_append, gvF]
      rw [if_neg (by omega), if_neg (by omega), if_neg (by omega)]
      rfl
    · rw [if_neg hu]
      simp only [List.cons_append, gvF]
      rw [if_neg (by omega), if_pos (by omega)]
      have e : (128 : Int) ^ (i + 1) = 128 ^ i * 128 := Int.pow_succ 128 i
      have hpos : (0 : Int) < 128 ^ i := Int.pow_pos (by omega)
      have hd : u / 128 * 128 ^ (i + 1) ≤ u * 128 ^ i := by
        rw [e, Int.mul_comm (128 ^ i) 128, ← Int.mul_assoc]
        exact Int.mul_le_mul_of_nonneg_right (by omega) (by omega)
      rw [ih (i + 1) _ (u / 128) more (by omega) (by omega) (by omega) (by omega)]
      have em : (u % 128 + 128) % 128 = u % 128 := by omega
      have es : u % 128 * 128 ^ i + u / 128 * 128 ^ (i + 1) = u * 128 ^ i := by
        rw [e, Int.mul_comm (128 ^ i) 128, ← Int.mul_assoc, ← Int.add_mul]
        congr 1; omega
      rw [em]
      simp only [List.length_cons, Prod.mk.injEq, and_true]
      refine ⟨by omega, by omega⟩
theorem gv_vd (u : Int) (more : List Int) (h0 : 0 ≤ u) (h1 : u ≤ 18446744073709551615) : gv (vd u ++ more) = (u, ((vd u).length : Int), 0) := by
  have := gvF_vdF 9 0 0 u more rfl h0 (by simpa using h1) (by omega)
  unfold gv vd
  rw [this]; simp

/-- What is read was written so; a beginning of it is too short. -/
theorem gvF_only : ∀ (b : List Int) (i : Nat) (acc : Int), Byt b → i ≤ 9 → (gvF i acc b).2.2 = 0 →
    ∃ (k : Nat) (u : Int), gvF i acc b = (acc + u * 128 ^ i, ((i + k : Nat) : Int), 0) ∧ 1 ≤ k ∧ k ≤ b.length ∧ i + k ≤ 10 ∧ 0 ≤ u ∧ u * 128 ^ i ≤ 18446744073709551615 - (128 ^ i - 1) ∧ (0 < i → 0 < u) ∧ b.take k = vdF (9 - i) u ∧
      ∀ j, j < k → gvF i acc (b.take j) = (0, 0, 6) := by
  intro b
  induction b with
  | nil => intro i acc _ _ h; simp [gvF] at h
  | cons c r ih =>
    intro i acc hb hi h
    have hc := hb c (by simp)
    have hr : Byt r := fun x hx => hb x (by simp [hx])
    have e : (128 : Int) ^ (i + 1) = 128 ^ i * 128 := Int.pow_succ 128 i
    have hpos : (0 : Int) < 128 ^ i := Int.pow_pos (by omega)
    have h9 : (128 : Int) ^ 9 = 9223372036854775808 := by decide
    rw [gvF] at h ⊢
    by_cases q1 : i = 9 ∧ 1 < c
    · rw [if_pos q1] at h; simp at h
    · rw [if_neg q1] at h ⊢
      by_cases q2 : 128 ≤ c
      · rw [if_pos q2] at h ⊢
        have hi' : i + 1 ≤ 9 := by omega
        obtain ⟨k, u, hk, k1, k2, k3, u0, u1, up, ht, hj⟩ := ih (i + 1) _ hr hi' h
        have up := up (by omega)
        have es : c % 128 * 128 ^ i + u * 128 ^ (i + 1) = (u * 128 + c % 128) * 128 ^ i := by
          rw [e, Int.mul_comm (128 ^ i) 128, ← Int.mul_assoc, ← Int.add_mul]
          congr 1; omega
        refine ⟨k + 1, u * 128 + c % 128, ?_, by omega, by simp; omega, by omega, by omega, ?_, by omega, ?_, ?_⟩
        · rw [hk]
          simp only [Prod.mk.injEq, and_true]
          exact ⟨by omega, by omega⟩
        · have hle : c % 128 * 128 ^ i ≤ 127 * 128 ^ i := Int.mul_le_mul_of_nonneg_right (by omega) (by omega)
          rw [← es]
          omega
        · have e9 : 9 - i = (9 - (i + 1)) + 1 := by omega
          rw [e9, vdF, if_neg (by omega), List.take_succ_cons, ht]
          have a1 : (u * 128 + c % 128) % 128 + 128 = c := by omega
          have a2 : (u * 128 + c % 128) / 128 = u := by omega
          rw [a1, a2]
        · intro j hjk
          cases j with
          | zero => simp [gvF]
          | succ j =>
            rw [List.take_succ_cons, gvF, if_neg q1, if_pos q2]
            exact hj j (by omega)
      · rw [if_neg q2] at h ⊢
        by_cases q3 : c = 0 ∧ 0 < i
        · rw [if_pos q3] at h; simp at h
        · rw [if_neg q3]
          refine ⟨1, c, rfl, by omega, by simp, by omega, by omega, ?_, by omega, ?_, ?_⟩
          · rcases Nat.lt_or_ge i 9 with h8 | h8
            · have hle : c * 128 ^ i ≤ 127 * 128 ^ i := Int.mul_le_mul_of_nonneg_right (by omega) (by omega)
              have hm : (128 : Int) ^ i ≤ 128 ^ 8 := pow_up (by omega)
              have h8' : (128 : Int) ^ 8 = 72057594037927936 := by decide
              omega
            · obtain rfl : i = 9 := by omega
              rw [h9]
              have : c ≤ 1 := by omega
              omega
          · rw [List.take_succ_cons, List.take_zero]
            generalize 9 - i = f
            cases f with
            | zero => rfl
            | succ f => rw [vdF, if_pos (by omega)]
          · intro j hj
            obtain rfl : j = 0 := by omega
            simp [gvF]
theorem gv_only (b : List Int) (hb : Byt b) (h : (gv b).2.2 = 0) :
    ∃ (k : Nat) (u : Int), gv b = (u, (k : Int), 0) ∧ 1 ≤ k ∧ k ≤ b.length ∧ k ≤ 10 ∧ 0 ≤ u ∧ u ≤ 18446744073709551615 ∧ b.take k = vd u ∧ ∀ j, j < k → gv (b.take j) = (0, 0, 6) := by
  obtain ⟨k, u, hk, k1, k2, k3, u0, u1, _, ht, hj⟩ := gvF_only b 0 0 hb (by omega) h
  exact ⟨k, u, by unfold gv; rw [hk]; simp, k1, k2, by omega, u0, by simpa using u1, ht, hj⟩
/-- Where there is an error, nothing else is told. -/
theorem gvF_err : ∀ (b : List Int) (i : Nat) (acc : Int), (gvF i acc b).2.2 = 0 ∨ gvF i acc b = (0, 0, 6) ∨ gvF i acc b = (0, 0, 7) := by
  intro b
  induction b with
  | nil => intro i acc; exact .inr (.inl rfl)
  | cons c r ih =>
    intro i acc
    rw [gvF]
    split
    · exact .inr (.inr rfl)
    · split
      · exact ih _ _
      · split
        · exact .inr (.inr rfl)
        · exact .inl rfl
theorem gv_err (b : List Int) : (gv b).2.2 = 0 ∨ gv b = (0, 0, 6) ∨ gv b = (0, 0, 7) := gvF_err b 0 0
end Nm
end Go.Proofs.YtpappcmgnnmbeaaDoor
namespace Go.Proofs.YtpappcmgnnmbeaaDoor
set_option maxRecDepth 20000
open Go.RowKit
namespace Lw

theorem byt_of {xs : List Int} (h : Wd.Fits .u8 xs) : Nm.Byt xs := fun x hx => by
  have := h x hx
  simp [Lit.wf, IntKind.min, IntKind.max, IntKind.signed, IntKind.bits] at this
  omega
theorem byt_app {xs ys : List Int} (h : Nm.Byt xs) (h' : Nm.Byt ys) : Nm.Byt (xs ++ ys) := fun x hx => by
  rcases List.mem_append.1 hx with q | q
  · exact h x q
  · exact h' x q
theorem getI_vd (n : Int) (more : List Int) (n1 : -9223372036854775808 ≤ n) (n2 : n ≤ 9223372036854775807) : Nm.getI (Nm.vd (Nm.zz n) ++ more) = (n, ((Nm.vd (Nm.zz n)).length : Int), 0) := by
  unfold Nm.getI
  rw [Nm.gv_vd _ _ (Nm.zz_lo n) (Nm.zz_hi n n1 n2)]
  show (Nm.unz (Nm.zz n), _, _) = _
  rw [Nm.unz_zz]
theorem getL_vd (n : Int) (more : List Int) (n1 : 0 ≤ n) (n2 : n ≤ 9223372036854775807) : Nm.getL (Nm.vd n ++ more) = (n, ((Nm.vd n).length : Int), 0) := by
  unfold Nm.getL
  rw [Nm.gv_vd _ _ n1 (by omega)]
  exact if_neg (show ¬ 9223372036854775807 < n by omega)
end Lw
end Go.Proofs.YtpappcmgnnmbeaaDoor
