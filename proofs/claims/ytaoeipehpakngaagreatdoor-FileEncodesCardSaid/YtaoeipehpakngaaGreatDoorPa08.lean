/- Words on memory: a slice of columns (a name, a kind, a truth); from an argument as the statement reads it to a schema. Over any program. The type of a schema, at this program. What schema.Find and the reference's Find do; a schema's block. The bit operations of layer 1 (the fold of signed numbers, and what goes with it. -/
import Derived.ProofKit
import Derived.OpenShut
import Derived.Deep.Slices
import Derived.Lib.SmallJoins
import Derived.WalkKit
import Derived.WalkSmall
import Derived.WalkSpells
import Derived.Lib.Hide
import Derived.Lib.AppendStr
import Derived.BigRegion
import Derived.Deep.RegionHeld3
import Derived.Deep.RegionWith
import Derived.Deep.DeepCutAuto
import Derived.Test.YtaoeipehpakngaaGreatDoorPa01
import Derived.Test.YtaoeipehpakngaaGreatDoorPa03
import Derived.Test.YtaoeipehpakngaaGreatDoorProg
import Derived.Test.YtaoeipehpakngaaGreatDoorPa07
import Derived.Test.YtaoeipehpakngaaGreatDoorPa02
import Derived.Test.YtaoeipehpakngaaGreatDoorPa06
namespace Go.Proofs.YtaoeipehpakngaaGreatDoor
set_option maxRecDepth 20000
open Go.RowKit Go.ChangeShapes Go.WideShapes
namespace Wd
open Sc (Col Sch)
instance : Inhabited Col := ⟨⟨⟨#[]⟩, 0, false⟩⟩
def colVals (o : Col) : List Value := [.string o.name, .int .i64 o.kind, .bool o.nul]
structure Col1 (o : Col) : Prop where
  w0 : (Lit.int .i64 o.kind).wf = true
  w1 : o.name.size ≤ maxLen
structure Cs (w : World) (A : Option Addr) (n c : Nat) (os : List Col) : Prop where
  len : n = os.length
  cap : n ≤ c
  max : c ≤ maxLen
  nil : A = none → c = 0
  at_ : ∀ j, j < os.length → ∃ b o, A = some ⟨b, o, none⟩ ∧ b < w.heap.size ∧ (∀ i v, (colVals (os.getD j default))[i]? = some v → w.cell? ⟨b, o + (j * 3 + i), none⟩ = some v) ∧ Col1 (os.getD j default)
section
variable {w w' : World} {A : Option Addr} {n c : Nat} {os : List Col} {o : Col}
theorem Cs.below (h : Cs w A n c os) (hb : Below w.heap.size w w') : Cs w' A n c os :=
  ⟨h.len, h.cap, h.max, h.nil, fun j hj => by
    obtain ⟨b, o, e, hlt, hc, h1⟩ := h.at_ j hj
    exact ⟨b, o, e, Nat.lt_of_lt_of_le hlt hb.size, fun i v hv => (hb.cell (p := ⟨b, o + (j * 3 + i), none⟩) hlt).trans (hc i v hv), h1⟩⟩
theorem Cs.none_ (w : World) : Cs w none 0 0 [] := ⟨rfl, Nat.le_refl _, Nat.zero_le _, fun _ => rfl, fun _ h => by simp at h⟩
theorem Cs.cells (h : Cs w A n c os) {j : Nat} (hj : j < os.length) {o : Col} (ho : o = os.getD j default) : ∃ b f, A = some ⟨b, f, none⟩ ∧ b < w.heap.size ∧ w.cell? ⟨b, f + j * 3, none⟩ = some (.string o.name) ∧ w.cell? ⟨b, f + j * 3 + 1, none⟩ = some (.int .i64 o.kind) ∧
    w.cell? ⟨b, f + j * 3 + 2, none⟩ = some (.bool o.nul) ∧ Col1 o := by
  subst ho
  obtain ⟨b, f, e, hlt, hc, h1⟩ := h.at_ j hj
  exact ⟨b, f, e, hlt, hc 0 _ rfl, by rw [Nat.add_assoc]; exact hc 1 _ rfl, by rw [Nat.add_assoc]; exact hc 2 _ rfl, h1⟩
end
section
variable {H : Type} {enc : TypeId × Value → H} {P : Program} {W : World} {r : Reach} {base0 base : Nat} {spare : Nat → Bool} {held : Bool}
structure ColT (P : Program) (t : TypeId) (f0 f1 f2 : Field) : Prop where
  u : P.underlying t = some (.struct #[f0, f1, f2])
  c : P.cellsOf t = 3
  o0 : f0.offset = 0
  o1 : f1.offset = 1
  o2 : f2.offset = 2
  c0 : P.cellsOf f0.type = 1
  c1 : P.cellsOf f1.type = 1
  c2 : P.cellsOf f2.type = 1
  u0 : P.underlying f0.type = some .string
  u1 : P.underlying f1.type = some (.int .i64)
  u2 : P.underlying f2.type = some .bool
theorem open_col1 {t : TypeId} {f0 f1 f2 : Field} (T : ColT P t f0 f1 f2) {fuel : Nat} {cs : List Value} {x : DataW H × List MemPlace} (hl : cs.length = 3) (h : DataW.trod enc P W base spare held fuel t cs = some x) :
    ∃ o : Col, cs = colVals o ∧ Col1 o := by
  obtain ⟨xs, k, hk, hxy, _, hxl, hf⟩ := DataW.trod_struct T.u h
  match xs, hxl, cs, hl with
  | [y0, y1, y2], _, [v0, v1, v2], _ =>
    have g0 := hf 0 f0 rfl
    have g1 := hf 1 f1 rfl
    have g2 := hf 2 f2 rfl
    simp [T.o0, T.o1, T.o2, T.c0, T.c1, T.c2] at g0 g1 g2
    obtain ⟨s, z0, _, w0⟩ := DataW.trod_string T.u0 g0
    obtain ⟨a1, z1, _, w1⟩ := DataW.trod_int T.u1 g1
    obtain ⟨b, z2, _⟩ := DataW.trod_bool T.u2 g2
    simp only [List.cons.injEq, and_true] at z0 z1 z2
    subst z0 z1 z2
    exact ⟨⟨s, a1, b⟩, rfl, ⟨w1, w0⟩⟩
theorem open_cs1 {t e : TypeId} {f0 f1 f2 : Field} (ht : P.underlying t = some (.slice e)) (T : ColT P e f0 f1 f2) {fuel : Nat} {A : Option Addr} {n c : Nat} {x : DataW H × List MemPlace} (hf : DataW.trod enc P W base spare held fuel t [.slice A n c] = some x) :
    ∃ os, Cs W A n c os := by
  rcases Go.Deep.open_slice ht hf with ⟨hcs, _⟩ | ⟨a, len, cap, m, k, D, Pl, hcs, _, hl, hm, hmm, _, hx⟩
  · simp at hcs
    obtain ⟨rfl, rfl, rfl⟩ := hcs
    exact ⟨[], Cs.none_ _⟩
  · simp at hcs
    obtain ⟨rfl, rfl, rfl⟩ := hcs
    have hnm : n ≤ m := by rw [hmm]; split <;> omega
    rw [T.c] at hx
    obtain ⟨Y, hY⟩ := Go.Deep.choose_lt (α := Col) (n := n) (p := fun i y => (∀ j v, (colVals y)[j]? = some v → W.cell? (a.add (i * 3 + j)) = some v) ∧ Col1 y) (fun i hi => by
      obtain ⟨cs', h1, h2⟩ := hx i (by omega)
      obtain ⟨_, hlen, hcell⟩ := World.cells?_some h1
      obtain ⟨o, e1, h3⟩ := open_col1 T hlen h2
      refine ⟨o, fun j v hv => ?_, h3⟩
      have hj : j < 3 := by
        have := (List.getElem?_eq_some_iff.1 hv).1
        simpa [colVals] using this
      have h4 := hcell j hj
      rw [Go.Deep.add_add, e1, hv] at h4
      exact h4)
    refine ⟨(List.range n).map Y, ⟨by simp, hl, hm, by simp, fun j hj => ?_⟩⟩
    simp only [List.length_map, List.length_range] at hj
    have hg : ((List.range n).map Y).getD j default = Y j := by simp [List.getD, hj]
    obtain ⟨h1, h2⟩ := hY j hj
    obtain ⟨b, off, spot⟩ := a
    have hs : spot = none := by simpa [Addr.add] using World.cell?_spot ((hY 0 (by omega)).1 0 _ rfl)
    subst hs
    have h5 := h1 0 _ rfl
    rw [Addr.add_lit] at h5
    refine ⟨b, off, rfl, World.block_lt_of_cell? W ⟨b, off + (j * 3 + 0), none⟩ h5, fun i v hv => ?_, by rw [hg]; exact h2⟩
    rw [hg] at hv
    have := h1 i v hv
    rwa [Addr.add_lit] at this
structure SchT (P : Program) (t : TypeId) (f0 f1 f2 f3 f4 : Field) (e : TypeId) (g0 g1 g2 : Field) : Prop where
  u : P.underlying t = some (.struct #[f0, f1, f2, f3, f4])
  c : P.cellsOf t = 5
  o0 : f0.offset = 0
  o1 : f1.offset = 1
  o2 : f2.offset = 2
  o3 : f3.offset = 3
  o4 : f4.offset = 4
  c0 : P.cellsOf f0.type = 1
  c1 : P.cellsOf f1.type = 1
  c2 : P.cellsOf f2.type = 1
  c3 : P.cellsOf f3.type = 1
  c4 : P.cellsOf f4.type = 1
  u0 : P.underlying f0.type = some (.slice e)
  u1 : P.underlying f1.type = some (.int .i64)
  u2 : P.underlying f2.type = some (.int .i64)
  u3 : P.underlying f3.type = some (.int .i64)
  u4 : P.underlying f4.type = some (.int .i64)
  k : ColT P e g0 g1 g2
theorem trod_slice_one {t e : TypeId} (ht : P.underlying t = some (.slice e)) {fuel : Nat} {v : Value} {x : DataW H × List MemPlace} (h : DataW.trod enc P W base spare held fuel t [v] = some x) : ∃ A n c, v = .slice A n c := by
  rcases Go.Deep.open_slice ht h with ⟨hcs, _⟩ | ⟨a, len, cap, m, k, D, Pl, hcs, _⟩
  · simp only [List.cons.injEq, and_true] at hcs
    exact ⟨_, _, _, hcs⟩
  · simp only [List.cons.injEq, and_true] at hcs
    exact ⟨_, _, _, hcs⟩
structure Sch1 (s : Sch) : Prop where
  w1 : (Lit.int .i64 s.key).wf = true
  w2 : (Lit.int .i64 s.cmp).wf = true
  w3 : (Lit.int .i64 s.del).wf = true
  w4 : (Lit.int .i64 s.sort).wf = true
theorem open_sch {t : TypeId} {f0 f1 f2 f3 f4 : Field} {e : TypeId} {g0 g1 g2 : Field} (T : SchT P t f0 f1 f2 f3 f4 e g0 g1 g2) {v : Value} {d : DataW H} {ps : List MemPlace} (hok : Value.okWide P W r base0 t v) (h : DataW.Trod enc P W base spare held t v d ps) :
    ∃ A n c s, v = .agg #[.slice A n c, .int .i64 s.key, .int .i64 s.cmp, .int .i64 s.del, .int .i64 s.sort] ∧ Cs W A n c s.cols ∧ Sch1 s := by
  obtain ⟨cs, rfl, hsz⟩ := okWide_struct T.u hok
  obtain ⟨fuel, h⟩ := h
  obtain ⟨xs, k, hk, hxy, _, hxl, hf⟩ := DataW.trod_struct T.u h
  have hl : cs.toList.length = 5 := by simpa [T.c] using hsz
  simp only [Value.cells] at hf
  obtain ⟨ls⟩ := cs
  simp only [] at hl hf
  match xs, hxl, ls, hl with
  | [y0, y1, y2, y3, y4], _, [v0, v1, v2, v3, v4], _ =>
    have q0 := hf 0 f0 rfl
    have q1 := hf 1 f1 rfl
    have q2 := hf 2 f2 rfl
    have q3 := hf 3 f3 rfl
    have q4 := hf 4 f4 rfl
    simp [T.o0, T.o1, T.o2, T.o3, T.o4, T.c0, T.c1, T.c2, T.c3, T.c4] at q0 q1 q2 q3 q4
    obtain ⟨A, n, c, rfl⟩ := trod_slice_one T.u0 q0
    obtain ⟨os, hc⟩ := open_cs1 T.u0 T.k q0
    obtain ⟨a1, z1, _, w1⟩ := DataW.trod_int T.u1 q1
    obtain ⟨a2, z2, _, w2⟩ := DataW.trod_int T.u2 q2
    obtain ⟨a3, z3, _, w3⟩ := DataW.trod_int T.u3 q3
    obtain ⟨a4, z4, _, w4⟩ := DataW.trod_int T.u4 q4
    simp only [List.cons.injEq, and_true] at z1 z2 z3 z4
    subst z1 z2 z3 z4
    exact ⟨A, n, c, ⟨os, a1, a2, a3, a4⟩, rfl, hc, ⟨w1, w2, w3, w4⟩⟩
end
end Wd
end Go.Proofs.YtaoeipehpakngaaGreatDoor
namespace Go.Proofs.YtaoeipehpakngaaGreatDoor
set_option maxRecDepth 20000
namespace Wd
theorem schT : ∃ f0 f1 f2 f3 f4 g0 g1 g2, Wd.SchT Tryz.prog 24 f0 f1 f2 f3 f4 54 g0 g1 g2 :=
  ⟨_, _, _, _, _, _, _, _, ⟨Tryz.underlying24, by kernel_rfl, rfl, rfl, rfl, rfl, rfl, by kernel_rfl, by kernel_rfl, by kernel_rfl, by kernel_rfl, by kernel_rfl,
    Tryz.underlying22, Tryz.underlying3, Tryz.underlying3, Tryz.underlying3, Tryz.underlying3,
    ⟨Tryz.underlying54, by kernel_rfl, rfl, rfl, rfl, by kernel_rfl, by kernel_rfl, by kernel_rfl, Tryz.underlying9, Tryz.underlying3, Tryz.underlying4⟩⟩⟩
end Wd
end Go.Proofs.YtaoeipehpakngaaGreatDoor
namespace Go.Proofs.YtaoeipehpakngaaGreatDoor
set_option maxRecDepth 20000
open Go.RowKit
namespace Sx
open Sc (Col Sch findF)
def Sb (w : World) (g : Nat) (A : Option Addr) (n c : Nat) (k p d t : Int) : Prop := Wd.Bx w g 24 #[.slice A n c, .int .i64 k, .int .i64 p, .int .i64 d, .int .i64 t]
theorem five {w : World} {g : Nat} {A : Option Addr} {n c : Nat} {k p d t : Int} (h : Sb w g A n c k p d t) :
    w.cell? ⟨g, 0, none⟩ = some (.slice A n c) ∧ w.cell? ⟨g, 1, none⟩ = some (.int .i64 k) ∧ w.cell? ⟨g, 2, none⟩ = some (.int .i64 p) ∧ w.cell? ⟨g, 3, none⟩ = some (.int .i64 d) ∧ w.cell? ⟨g, 4, none⟩ = some (.int .i64 t) :=
  ⟨(Wd.Bx.cell h 0).trans rfl, (Wd.Bx.cell h 1).trans rfl, (Wd.Bx.cell h 2).trans rfl, (Wd.Bx.cell h 3).trans rfl, (Wd.Bx.cell h 4).trans rfl⟩
def Cb (w : World) (g : Nat) (s : ByteArray) (k : Int) (b : Bool) : Prop := Wd.Bx w g 54 #[.string s, .int .i64 k, .bool b]
theorem three {w : World} {g : Nat} {s : ByteArray} {k : Int} {b : Bool} (h : Cb w g s k b) :
    w.cell? ⟨g, 0, none⟩ = some (.string s) ∧ w.cell? ⟨g, 1, none⟩ = some (.int .i64 k) ∧ w.cell? ⟨g, 2, none⟩ = some (.bool b) :=
  ⟨(Wd.Bx.cell h 0).trans rfl, (Wd.Bx.cell h 1).trans rfl, (Wd.Bx.cell h 2).trans rfl⟩
theorem find1_any (s : ByteArray) (k : Int) (b : Bool) (g : Nat) (name : ByteArray) (w : World) (hc : w.cell? ⟨g, 0, none⟩ = some (.string name)) :
    Calls Tryz.prog 180 #[.agg #[.string s, .int .i64 k, .bool b], .pointer (some ⟨g, 0, none⟩)] w fun e w' => e = .returned (.bool (decide (s = name))) ∧ Below w.heap.size w w' := by
  have he := Vc.list_beq s name
  obtain ⟨r, hr⟩ : ∃ r, r = decide (s = name) := ⟨_, rfl⟩
  rw [← hr] at he ⊢
  clear hr
  have hlt := World.block_lt_of_cell? w ⟨g, 0, none⟩ hc
  have hc1 := (((Below.refl w.heap.size w).alloc (Nat.le_refl _) (.cells #[.string s, .int .i64 k, .bool b] 54)).cell (p := ⟨g, 0, none⟩) hlt).trans hc
  clear hc hlt
  go_enter Tryz.func180, Tryz.ntmps180
  go_wp2_with fail
  go_ret
  exact ⟨rfl, (Below.refl _ _).alloc (Nat.le_refl _) _⟩
set_option maxHeartbeats 1000000 in
theorem index_any (A : Option Addr) (n c : Nat) (os : List Col) (g : Nat) (name : ByteArray) (w : World) (hS : Wd.Cs w A n c os) (hc : w.cell? ⟨g, 0, none⟩ = some (.string name)) (hn : n ≤ 1000000) :
    Calls Tryz.prog 179 #[.slice A n c, .func (.func 180) #[] #[.pointer (some ⟨g, 0, none⟩)]] w fun e w' => e = .returned (.int .i64 (findF os name 0)) ∧ Below w.heap.size w w' := by
  have Hl := Lib.hid hS.len
  have HS := Lib.hid hS
  have Hc := Lib.hid hc
  have hglt := World.block_lt_of_cell? w ⟨g, 0, none⟩ hc
  obtain ⟨z, hz⟩ : ∃ z, z = findF os name 0 := ⟨_, rfl⟩
  rw [← hz]
  have Hz := Lib.hid hz
  clear hz hS hc
  go_enter Tryz.func179, Tryz.ntmps179
  go_wp2
  go_loopw [5, 8] (fun _ i wr => ∃ k : Nat, i = .int .i64 k ∧ k ≤ n ∧ (∀ j, j < k → (os.getD j default).name ≠ name) ∧ Below w.heap.size w wr) (fun _ i _ => n - (intOf i).toNat)
  case atStart => exact ⟨0, rfl, Nat.zero_le _, fun j hj => by omega, Below.refl _ _⟩
  case round =>
    obtain ⟨k, rfl, hk, hf, hB⟩ := hrel
    by_cases hlt : k < n
    · obtain ⟨b, o, rfl, hbB, c0, c1, c2, _⟩ := (HS.out.below hB).cells (j := k) (by rw [← Hl.out]; exact hlt) rfl
      have hcg := (hB.cell (p := ⟨g, 0, none⟩) hglt).trans Hc.out
      obtain ⟨x, hx⟩ : ∃ x, x = os.getD k default := ⟨_, rfl⟩
      rw [← hx] at c0 c1 c2
      have Hx := Lib.hid hx
      have Hf := Lib.hid hf
      clear hx hf
      go_wp2_with fail
      refine (find1_any x.name x.kind x.nul g name wr hcg).mono ?_
      rintro e w1 ⟨rfl, hB1⟩
      have hB' := hB.trans (hB1.mono hB.size)
      by_cases he : x.name = name
      · rw [decide_eq_true he]
        go_wp2_with fail
        go_ret
        refine ⟨?_, hB'⟩
        rw [Hz.out, Sc.find_at os name 0 k (by rw [← Hl.out]; exact hlt) Hf.out (by rw [← Hx.out]; exact he)]
        simp
      · rw [decide_eq_false he]
        go_wp2_with fail
        go_roundw
        case rel =>
          refine ⟨k + 1, by go_num, by omega, fun j hj => ?_, hB'⟩
          by_cases hjk : j = k
          · rw [hjk, ← Hx.out]; exact he
          · exact Hf.out j (by omega)
        case measure => simp [intOf]; omega
    · have hkI : ¬ (k : Int) < n := by omega
      have e : z = -1 := by
        rw [Hz.out]
        exact Sc.find_none os name 0 fun j hj => hf j (by rw [← Hl.out] at hj; omega)
      have He := Lib.hid e
      clear e
      go_wp2_with fail
      go_ret
      exact ⟨by rw [He.out]; rfl, hB⟩
theorem Find_any (A : Option Addr) (n c : Nat) (os : List Col) (k p d t : Int) (name : ByteArray) (w : World) (hS : Wd.Cs w A n c os) (hn : n ≤ 1000000) :
    Calls Tryz.prog 127 #[.agg #[.slice A n c, .int .i64 k, .int .i64 p, .int .i64 d, .int .i64 t], .string name] w fun e w' => e = .returned (.int .i64 (findF os name 0)) ∧ Below w.heap.size w w' := by
  have hb0 := ((Below.refl w.heap.size w).alloc (Nat.le_refl _) (.cells #[.slice A n c, .int .i64 k, .int .i64 p, .int .i64 d, .int .i64 t] 24)).alloc (by simp) (.cells #[.string name] 9)
  have H := Lib.hid (index_any A n c os (w.heap.size + 1) name _ (hS.below hb0) (by simp) hn)
  clear hS
  go_enter Tryz.func127, Tryz.ntmps127
  go_wp2_with fail
  refine H.out.mono ?_
  rintro e w1 ⟨rfl, hB1⟩
  go_wp2_with fail
  go_ret
  exact ⟨rfl, hb0.trans (hB1.mono hb0.size)⟩
end Sx
end Go.Proofs.YtaoeipehpakngaaGreatDoor
namespace Go.Proofs.YtaoeipehpakngaaGreatDoor
set_option maxRecDepth 20000
namespace Nm
theorem xor_ones (x : Nat) (h : x < 2 ^ 64) : x ^^^ (2 ^ 64 - 1) = 2 ^ 64 - 1 - x := by
  have e : x ^^^ (2 ^ 64 - 1) = ((BitVec.ofNat 64 x) ^^^ (BitVec.allOnes 64)).toNat := by
    rw [BitVec.toNat_xor, BitVec.toNat_allOnes, BitVec.toNat_ofNat, Nat.mod_eq_of_lt h]
  rw [e, BitVec.xor_allOnes, BitVec.toNat_not, BitVec.toNat_ofNat, Nat.mod_eq_of_lt h]
theorem zig_bits (n : Int) (h1 : -9223372036854775808 ≤ n) (h2 : n ≤ 9223372036854775807) :
    bits BinOp.xor IntKind.u64 (IntKind.u64.wrap (IntKind.u64.wrap n * 2)) (IntKind.u64.wrap (n / 9223372036854775808)) = zz n := by
  simp only [IntKind.wrap_u64]
  unfold zz
  by_cases h : n < 0
  · have e1 : n / 9223372036854775808 % 18446744073709551616 = 18446744073709551615 := by omega
    have e2 : n % 18446744073709551616 * 2 % 18446744073709551616 = 2 * n + 18446744073709551616 := by omega
    rw [if_pos h, e1, e2, u64_xor _ _ (by omega) (by omega) (by omega) (by omega)]
    have e3 : (18446744073709551615 : Int).toNat = 2 ^ 64 - 1 := by decide
    rw [e3, xor_ones _ (by omega)]
    omega
  · have e1 : n / 9223372036854775808 % 18446744073709551616 = 0 := by omega
    have e2 : n % 18446744073709551616 * 2 % 18446744073709551616 = 2 * n := by omega
    rw [if_neg h, e1, e2, u64_xor _ _ (by omega) (by omega) (by omega) (by omega)]
    have e3 : (0 : Int).toNat = 0 := rfl
    rw [e3, Nat.xor_zero]
    omega
theorem unzig_bits (u : Int) (h1 : 0 ≤ u) (h2 : u ≤ 18446744073709551615) :
    bits BinOp.xor IntKind.i64 (u / 2) (RowKit.wrap64 (-RowKit.wrap64 (bits BinOp.and IntKind.u64 u 1))) = unz u := by
  rw [and_one_u64 u h1 h2]
  rw [IntWalk.wrap64_in (u % 2) ⟨by omega, by omega⟩, IntWalk.wrap64_in (-(u % 2)) ⟨by omega, by omega⟩]
  unfold unz
  by_cases h : u % 2 = 1
  · rw [if_pos h, h]
    show IntKind.i64.wrap ((BitVec.ofInt 64 (u / 2) ^^^ BitVec.ofInt 64 (-1)).toNat : Int) = _
    have e1 : BitVec.ofInt 64 (-1) = BitVec.allOnes 64 := by decide
    rw [e1, BitVec.xor_allOnes, BitVec.toNat_not]
    have e2 : (BitVec.ofInt 64 (u / 2)).toNat = (u / 2).toNat := by
      obtain ⟨m, hm⟩ : ∃ m : Nat, u / 2 = (m : Int) := ⟨(u / 2).toNat, by omega⟩
      rw [hm, BitVec.ofInt_natCast, BitVec.toNat_ofNat, Nat.mod_eq_of_lt (by omega)]; rfl
    rw [e2, IntKind.wrap_i64]
    omega
  · rw [if_neg h]
    have h0 : u % 2 = 0 := by omega
    rw [h0]
    show IntKind.i64.wrap ((BitVec.ofInt 64 (u / 2) ^^^ BitVec.ofInt 64 (-0)).toNat : Int) = _
    have e1 : BitVec.ofInt 64 (-0) = 0#64 := by decide
    rw [e1, BitVec.xor_zero]
    have e2 : (BitVec.ofInt 64 (u / 2)).toNat = (u / 2).toNat := by
      obtain ⟨m, hm⟩ : ∃ m : Nat, u / 2 = (m : Int) := ⟨(u / 2).toNat, by omega⟩
      rw [hm, BitVec.ofInt_natCast, BitVec.toNat_ofNat, Nat.mod_eq_of_lt (by omega)]; rfl
    rw [e2, IntKind.wrap_i64]
    omega
theorem or_digit (i : Nat) (acc d : Int) (h0 : 0 ≤ acc) (ha : acc < 128 ^ i) (hd : 0 ≤ d) (hb : d * 128 ^ i < 18446744073709551616) (hacc : acc < 18446744073709551616) :
    bits BinOp.or IntKind.u64 acc (d * 128 ^ i) = acc + d * 128 ^ i := by
  obtain ⟨a, rfl⟩ := Int.eq_ofNat_of_zero_le h0
  obtain ⟨c, rfl⟩ := Int.eq_ofNat_of_zero_le hd
  have e : ((128 : Int) ^ i) = ((128 ^ i : Nat) : Int) := by simp
  have e1 : (c : Int) * 128 ^ i = ((c * 128 ^ i : Nat) : Int) := by rw [e]; simp
  rw [e1] at hb ⊢
  rw [e] at ha
  rw [u64_or_nat a (c * 128 ^ i) (by omega) (by omega)]
  have e2 : (128 : Nat) ^ i = 2 ^ (7 * i) := by rw [Nat.pow_mul]
  have := nat_join (7 * i) (c * 128 ^ i) a (by rw [e2]; exact Nat.mul_mod_left _ _) (by rw [← e2]; omega)
  rw [Nat.or_comm, this]
  omega
theorem or_step (k : Nat) (acc x : Int) (hk : k < 9) (h0 : 0 ≤ acc) (ha : acc < 128 ^ k) : bits BinOp.or IntKind.u64 acc (IntKind.u64.wrap (x % 128 * 2 ^ (7 * k))) = acc + x % 128 * 128 ^ k := by
  have e : (2 : Int) ^ (7 * k) = 128 ^ k := by rw [Int.pow_mul]; rfl
  have hp : (0 : Int) < 128 ^ k := Int.pow_pos (by omega)
  have hm : (128 : Int) ^ k ≤ 128 ^ 8 := pow_up (by omega)
  have h8 : (128 : Int) ^ 8 = 72057594037927936 := by decide
  have hle : x % 128 * 128 ^ k ≤ 127 * 128 ^ k := Int.mul_le_mul_of_nonneg_right (by omega) (by omega)
  have hge : 0 ≤ x % 128 * 128 ^ k := Int.mul_nonneg (by omega) (by omega)
  rw [e, IntKind.wrap_u64, Int.emod_eq_of_lt hge (by omega)]
  exact or_digit k acc (x % 128) h0 ha (by omega) (by omega) (by omega)
theorem or_step_lt (k : Nat) (acc x : Int) (ha : acc < 128 ^ k) : acc + x % 128 * 128 ^ k < 128 ^ (k + 1) := by
  have hp : (0 : Int) < 128 ^ k := Int.pow_pos (by omega)
  have hle : x % 128 * 128 ^ k ≤ 127 * 128 ^ k := Int.mul_le_mul_of_nonneg_right (by omega) (by omega)
  rw [Int.pow_succ]; omega
theorem or_step_lo (k : Nat) (acc x : Int) (h0 : 0 ≤ acc) : 0 ≤ acc + x % 128 * 128 ^ k := by
  have hp : (0 : Int) < 128 ^ k := Int.pow_pos (by omega)
  have hge : 0 ≤ x % 128 * 128 ^ k := Int.mul_nonneg (by omega) (by omega)
  omega
theorem or_last (acc : Int) (h0 : 0 ≤ acc) (ha : acc < 128 ^ 9) : bits BinOp.or IntKind.u64 acc (1 * 9223372036854775808) = acc + 1 * 128 ^ 9 := by
  have e : (128 : Int) ^ 9 = 9223372036854775808 := by decide
  have := or_digit 9 acc 1 h0 ha (by omega) (by rw [e]; omega) (by rw [e] at ha; omega)
  rwa [e] at this ⊢
end Nm
end Go.Proofs.YtaoeipehpakngaaGreatDoor
namespace Go.Proofs.YtaoeipehpakngaaGreatDoor
set_option maxRecDepth 20000
open Go.RowKit
namespace Nc
theorem info_u8 : (Tryz.prog.info? 5).map (fun i => (i.zero, i.size, i.bytes)) = some (some (.int .u8 0), 1, 1) := by kernel_rfl
def PvRel (w : World) (all : List Int) (v : Value) (u : Int) (f : Nat) (xs : List Int) (wr : World) : Prop :=
  u < 128 ^ (f + 1) ∧ xs ++ Nm.vdF f u = all ∧ Wd.Dst wr w.heap.size 5 .u8 v xs ∧ Below w.heap.size w wr
set_option maxHeartbeats 400000 in
theorem putVarint_own (A : Option Addr) (c : Nat) (bs : List Int) (u : Int) (w : World) (hb : Wd.Rd w w.heap.size .u8 A bs) (hc : bs.length ≤ c) (hm : bs.length ≤ 10000000) (h0 : 0 ≤ u) (h1 : u ≤ 18446744073709551615) :
    Calls Tryz.prog 97 #[.slice A bs.length c, .int .u64 u] w fun e w' => ∃ v, e = .returned v ∧ w'.ownsRow w.heap.size 5 1 v (bs ++ Nm.vd u).length ((bs ++ Nm.vd u).map (Value.int .u8)) ∧ Below w.heap.size w w' := by
  obtain ⟨i0, hi, hz0, hz1, hz2⟩ := info_parts info_u8
  go_enter Tryz.func97, Tryz.ntmps97
  go_wp2
  go_loopw [0, 1] (fun v i wr => ∃ (u' : Int) (f : Nat) (xs : List Int), i = .int .u64 u' ∧ 0 ≤ u' ∧ u' ≤ 18446744073709551615 ∧ PvRel w (bs ++ Nm.vd u) v u' f xs wr) (fun _ i _ => (intOf i).toNat)
  case atStart => exact ⟨u, 9, bs, rfl, h0, h1, by rw [Nm.pow10]; omega, rfl, .inr ⟨A, rfl, hb⟩, Below.refl _ _⟩
  case round =>
    obtain ⟨u', f, xs, rfl, hu0, hu1, hR⟩ := hrel
    have hR1 := hR.1
    have hR2 := Lib.hid hR.2.1
    have hD := hR.2.2.1
    have hBl := hR.2.2.2
    have hsz := hBl.size
    have hxl : xs.length ≤ 10000010 := by
      have := congrArg List.length hR.2.1
      have h2 := Nm.vd_len u
      simp only [List.length_append] at this
      omega
    clear hR
    by_cases hlt : u' < 128
    · go_wp2_with (at_builtin; refine Wd.wpList_app_dst _ rfl (.tmp 22) (.tmp 25) 32 rfl w.heap.size 5 i0 _ .u8 1 Tryz.underlying32 hi hz0 hz1 hz2 rfl _ xs rfl (hD.alloc hsz _) (wr.heap.size + 1) _ 1 1 [u'] rfl rfl (Wd.Rd.lit wr .u8 [u'] _ _ rfl) (by simp) (by simp; omega) (by simp [maxLen]; omega) (by simp; omega) ?_; intro v' w1 hown hbel)
      go_ret
      refine ⟨v', rfl, ?_, ((hBl.alloc hsz _).trans hbel)⟩
      rw [← hR2.out, Nm.vdF_lo _ _ hlt]
      exact hown
    · have hlt' : 128 ≤ u' := by omega
      go_wp2_with (at_builtin; refine Wd.wpList_app_dst _ rfl (.tmp 13) (.tmp 18) 32 rfl w.heap.size 5 i0 _ .u8 1 Tryz.underlying32 hi hz0 hz1 hz2 rfl _ xs rfl (hD.alloc hsz _) (wr.heap.size + 1) _ 1 1 [u' % 128 + 128] rfl rfl (Wd.Rd.lit wr .u8 [u' % 128 + 128] _ _ rfl) (by simp) (by simp; omega) (by simp [maxLen]; omega) (by simp; omega) ?_; intro v' w1 hown hbel)
      go_roundw
      case rel =>
        cases f with
        | zero => simp at hR1; omega
        | succ f =>
          refine ⟨u' / 128, f, xs ++ [u' % 128 + 128], rfl, by omega, by omega, ?_, ?_, .inl hown, (hBl.alloc hsz _).trans hbel⟩
          · rw [Int.pow_succ] at hR1; omega
          · rw [← hR2.out, Nm.vdF_hi _ _ (by omega)]; simp
      case measure => simp [intOf]; omega
theorem putVarint_any (A : Option Addr) (n c : Nat) (bs : List Int) (u : Int) (w : World) (hb : Wd.Sl w .u8 A n c bs) (hm : n ≤ 10000000) (h0 : 0 ≤ u) (h1 : u ≤ 18446744073709551615) :
    Calls Tryz.prog 97 #[.slice A n c, .int .u64 u] w (Wd.Out w .u8 (bs ++ Nm.vd u)) := by
  obtain ⟨rfl, hc, _, _, hr⟩ := hb
  exact (putVarint_own A c bs u w hr hc hm h0 h1).mono fun _ _ ⟨_, he, ho, hb⟩ => he ▸ Wd.Out.of_own ho hb
theorem clone_any (A : Option Addr) (m c : Nat) (bs : List Int) (w : World) (hb : Wd.Sl w .u8 A m c bs) (hm : m ≤ 10000000) :
    Calls Tryz.prog 96 #[.slice A m c] w (Wd.Out w .u8 bs) := by
  obtain ⟨i0, hi, hz0, hz1, hz2⟩ := info_parts info_u8
  obtain ⟨rfl, hc, hx, hA, hr⟩ := hb
  rcases A with _ | ad
  · obtain rfl := hA rfl
    obtain rfl := hr.none_
    have hnil : ∀ (w : World) (n c : Nat), (binOp .eql 32 (.slice none n c) (.slice none 0 0)).run Tryz.prog w = .ok (.bool true) w := fun _ _ _ => by kernel_rfl
    go_enter Tryz.func96, Tryz.ntmps96
    go_wp2
    go_ret
    exact ⟨none, 0, 0, rfl, Wd.Sl.none_ _ _, Below.refl _ _⟩
  · have hnil : ∀ (w : World) (n c : Nat) , (binOp .eql 32 (.slice (some ad) n c) (.slice none 0 0)).run Tryz.prog w = .ok (.bool false) w := fun _ _ _ => by kernel_rfl
    go_enter Tryz.func96, Tryz.ntmps96
    go_wp2_with (at_builtin; refine Wd.wpList_app _ rfl (.tmp 5) (.tmp 6) 32 rfl w.heap.size 5 i0 _ .u8 1 Tryz.underlying32 hi hz0 hz1 hz2 rfl (.slice (some ⟨w.heap.size, 0, none⟩) 0 0) [] rfl (World.ownsRow_lit w #[] 0 (Nat.le_refl _) (by simp [maxLen]) rfl) w.heap.size _ _ c bs rfl rfl (by simp) (hr.below ((Below.refl _ _).alloc (Nat.le_refl _) _)) (by simp; omega) (by simp [maxLen]; omega) (by simp) ?_; intro v' w1 hown hbel)
    go_ret
    refine Wd.Out.of_own (by simpa using hown) (((Below.refl _ _).alloc (Nat.le_refl _) _).grown hbel (by simp) (by simp [Value.ownBlock]))
theorem putLen_any (A : Option Addr) (m c : Nat) (bs : List Int) (n : Int) (w : World) (hb : Wd.Sl w .u8 A m c bs) (hm : m ≤ 10000000) (h0 : -9223372036854775808 ≤ n) (h1 : n ≤ 9223372036854775807) :
    Calls Tryz.prog 50 #[.slice A m c, .int .i64 n] w (Wd.Out w .u8 (bs ++ if n < 0 then [] else Nm.vd n)) := by
  by_cases hn : n < 0
  · rw [if_pos hn, List.append_nil]
    go_enter Tryz.func50, Tryz.ntmps50
    go_wp2_with fail
    refine (clone_any A m c bs w hb hm).mono ?_
    rintro e w' ⟨A', m', c', rfl, hO⟩
    go_wp2_with fail
    go_ret
    exact ⟨A', m', c', rfl, hO⟩
  · rw [if_neg hn]
    have hn' : 0 ≤ n := by omega
    go_enter Tryz.func50, Tryz.ntmps50
    go_wp2_with fail
    refine (putVarint_any A m c bs n w hb hm (by omega) (by omega)).mono ?_
    rintro e w' ⟨A', m', c', rfl, hO⟩
    go_wp2_with fail
    go_ret
    exact ⟨A', m', c', rfl, hO⟩
theorem putLen0_own (n : Int) (w : World) (h0 : 0 ≤ n) (h1 : n ≤ 9223372036854775807) :
    Calls Tryz.prog 50 #[.slice none 0 0, .int .i64 n] w fun e w' => ∃ v, e = .returned v ∧ w'.ownsRow w.heap.size 5 1 v (Nm.vd n).length ((Nm.vd n).map (Value.int .u8)) ∧ Below w.heap.size w w' := by
  have hc := putVarint_own none 0 [] n w Wd.Rd.nil (by simp) (by simp) h0 (by omega)
  rw [List.nil_append] at hc
  have Hc := Lib.hid hc
  clear hc
  go_enter Tryz.func50, Tryz.ntmps50
  go_wp2_with fail
  refine Hc.out.mono ?_
  rintro e w1 ⟨v, rfl, hO⟩
  go_wp2_with fail
  go_ret
  exact ⟨v, rfl, hO⟩
end Nc
namespace Nc
theorem zigzag_any (n : Int) (w : World) (h1 : -9223372036854775808 ≤ n) (h2 : n ≤ 9223372036854775807) :
    Calls Tryz.prog 199 #[.int .i64 n] w fun e w' => e = .returned (.int .u64 (Nm.zz n)) ∧ w = w' := by
  go_enter Tryz.func199, Tryz.ntmps199
  go_wp2
  go_ret
  exact ⟨congrArg (fun x => Ending.returned (.int .u64 x)) (Nm.zig_bits n h1 h2), rfl⟩
theorem put_any (A : Option Addr) (m c : Nat) (bs : List Int) (n : Int) (w : World) (hb : Wd.Sl w .u8 A m c bs) (hm : m ≤ 10000000) (h0 : -9223372036854775808 ≤ n) (h1 : n ≤ 9223372036854775807) :
    Calls Tryz.prog 150 #[.slice A m c, .int .i64 n] w (Wd.Out w .u8 (bs ++ Nm.vd (Nm.zz n))) := by
  have hz0 := Nm.zz_lo n
  have hz1 := Nm.zz_hi n h0 h1
  go_enter Tryz.func150, Tryz.ntmps150
  go_wp2_with fail
  refine (zigzag_any n w h0 h1).mono ?_
  rintro e w' ⟨rfl, rfl⟩
  go_wp2_with fail
  refine (putVarint_any A m c bs (Nm.zz n) w hb hm hz0 hz1).mono ?_
  rintro e w' ⟨A', m', c', rfl, hO⟩
  go_wp2_with fail
  go_ret
  exact ⟨A', m', c', rfl, hO⟩
end Nc
namespace Vc
open Va Nc
theorem strCells_byts (s : ByteArray) : Lib.strCells s = (byts s).map (Value.int .u8) := by
  unfold Lib.strCells byts
  rw [List.map_map]
  rfl
theorem step_app_str {P : Program} (w : World) {ops : Array Oper} {o : Oper} {a : Act} {K : Act → World → Prop} {Q : Exit → Act → World → Prop} {E : Prop} (hgd : o.guard = none) (sl x : Operand) (t u : TypeId)
    (ho : o.op = .call { callee := .builtin .append, args := #[sl, x], argTypes := #[t, u] })
    (B : Nat) (e : TypeId) (i : TypeInfo) (ht : P.underlying t = some (.slice e)) (hu : P.underlying u = some .string) (hi : P.info? e = some i) (hz : i.zero = some (.int .u8 0))
    (hsize : i.size = 1) (hby : i.bytes = 1)
    (v : Value) (xs : List Int) (hs : a.eval sl = v) (hown : w.ownsRow B e 1 v xs.length (xs.map (Value.int .u8))) (s : ByteArray) (hx : a.eval x = .string s)
    (h63 : xs.length + s.size ≤ maxLen) (hbytes : xs.length + s.size ≤ 140737488355328) (hB : B ≤ w.heap.size)
    (h : ∀ v' w', w'.ownsRow B e 1 v' (xs ++ byts s).length ((xs ++ byts s).map (Value.int .u8)) → w.grownBy w' v.ownBlock → K (a.put o.dst v') w') : if Region.wanted o (yielded ops a.tmps) = true then Oper.wp P o a w K Q else E := by
  rw [if_pos (by simp [Region.wanted, hgd])]
  obtain ⟨v', w', hrun, h2, h3, _⟩ := Lib.run_append_own_string (P := P) w B t u o.type e i ht hu hi hz hsize hby v xs.length _ hown s h63 hbytes hB
  rw [strCells_byts, ← List.map_append] at h2
  unfold Oper.wp
  simp [execOp, ho, resolve, invoke, builtin, hs, hx, hrun, Result.andThen]
  refine h v' w' ?_ h3
  rw [List.length_append, byts_len]
  exact h2
theorem putLen_own (A : Option Addr) (m c : Nat) (bs : List Int) (n : Int) (w : World) (hb : Wd.Sl w .u8 A m c bs) (hm : m ≤ 10000000) (h0 : 0 ≤ n) (h1 : n ≤ 9223372036854775807) :
    Calls Tryz.prog 50 #[.slice A m c, .int .i64 n] w fun e w' => ∃ v, e = .returned v ∧ w'.ownsRow w.heap.size 5 1 v (bs ++ Nm.vd n).length ((bs ++ Nm.vd n).map (Value.int .u8)) ∧ Below w.heap.size w w' := by
  obtain ⟨rfl, hc, _, _, hr⟩ := hb
  go_enter Tryz.func50, Tryz.ntmps50
  go_wp2_with fail
  refine (putVarint_own A c bs n w hr hc hm (by omega) (by omega)).mono ?_
  rintro e w' ⟨v, rfl, hO⟩
  go_wp2_with fail
  go_ret
  exact ⟨v, rfl, hO⟩
theorem clone_own (A : Option Addr) (m c : Nat) (bs : List Int) (w : World) (hb : Wd.Sl w .u8 A m c bs) (hm : m ≤ 10000000) :
    Calls Tryz.prog 96 #[.slice A m c] w fun e w' => ∃ v, e = .returned v ∧ w'.ownsRow w.heap.size 5 1 v bs.length (bs.map (Value.int .u8)) ∧ Below w.heap.size w w' := by
  obtain ⟨i0, hi, hz0, hz1, hz2⟩ := info_parts info_u8
  obtain ⟨rfl, hc, hx, hA, hr⟩ := hb
  rcases A with _ | ad
  · obtain rfl := hA rfl
    obtain rfl := hr.none_
    have hnil : ∀ (w : World) (n c : Nat), (binOp .eql 32 (.slice none n c) (.slice none 0 0)).run Tryz.prog w = .ok (.bool true) w := fun _ _ _ => by kernel_rfl
    go_enter Tryz.func96, Tryz.ntmps96
    go_wp2
    go_ret
    exact ⟨_, rfl, World.ownsRow_nil _ _ _ _, Below.refl _ _⟩
  · have hnil : ∀ (w : World) (n c : Nat) , (binOp .eql 32 (.slice (some ad) n c) (.slice none 0 0)).run Tryz.prog w = .ok (.bool false) w := fun _ _ _ => by kernel_rfl
    go_enter Tryz.func96, Tryz.ntmps96
    go_wp2_with (at_builtin; refine Wd.wpList_app _ rfl (.tmp 5) (.tmp 6) 32 rfl w.heap.size 5 i0 _ .u8 1 Tryz.underlying32 hi hz0 hz1 hz2 rfl (.slice (some ⟨w.heap.size, 0, none⟩) 0 0) [] rfl (World.ownsRow_lit w #[] 0 (Nat.le_refl _) (by simp [maxLen]) rfl) w.heap.size _ _ c bs rfl rfl (by simp) (hr.below ((Below.refl _ _).alloc (Nat.le_refl _) _)) (by simp; omega) (by simp [maxLen]; omega) (by simp) ?_; intro v' w1 hown hbel)
    go_ret
    exact ⟨v', rfl, by simpa using hown, ((Below.refl _ _).alloc (Nat.le_refl _) _).grown hbel (by simp) (by simp [Value.ownBlock])⟩
def putE (k i : Int) (s : ByteArray) (b : Bool) : Int := if mayB k i s b then 0 else 1
end Vc
end Go.Proofs.YtaoeipehpakngaaGreatDoor
