/- What schema.Find and the reference's Find do; a schema's block. -/
import Derived.Test.YtdmgjeipkpbojaaDoorVaMay
import Derived.Test.YtdmgjeipkpbojaaDoorScMay
import Derived.Test.YtdmgjeipkpbojaaDoorScOpen
namespace Go.Proofs.YtdmgjeipkpbojaaDoor
set_option maxRecDepth 20000
open Go.RowKit
namespace Sx
open Sc (Col Sch findF)
/-- A schema's block. -/
def Sb (w : World) (g : Nat) (A : Option Addr) (n c : Nat) (k p d t : Int) : Prop := Wd.Bx w g 24 #[.slice A n c, .int .i64 k, .int .i64 p, .int .i64 d, .int .i64 t]
theorem five {w : World} {g : Nat} {A : Option Addr} {n c : Nat} {k p d t : Int} (h : Sb w g A n c k p d t) :
    w.cell? ⟨g, 0, none⟩ = some (.slice A n c) ∧ w.cell? ⟨g, 1, none⟩ = some (.int .i64 k) ∧ w.cell? ⟨g, 2, none⟩ = some (.int .i64 p) ∧ w.cell? ⟨g, 3, none⟩ = some (.int .i64 d) ∧ w.cell? ⟨g, 4, none⟩ = some (.int .i64 t) :=
  ⟨(Wd.Bx.cell h 0).trans rfl, (Wd.Bx.cell h 1).trans rfl, (Wd.Bx.cell h 2).trans rfl, (Wd.Bx.cell h 3).trans rfl, (Wd.Bx.cell h 4).trans rfl⟩
/-- A column's block. -/
def Cb (w : World) (g : Nat) (s : ByteArray) (k : Int) (b : Bool) : Prop := Wd.Bx w g 48 #[.string s, .int .i64 k, .bool b]
theorem three {w : World} {g : Nat} {s : ByteArray} {k : Int} {b : Bool} (h : Cb w g s k b) :
    w.cell? ⟨g, 0, none⟩ = some (.string s) ∧ w.cell? ⟨g, 1, none⟩ = some (.int .i64 k) ∧ w.cell? ⟨g, 2, none⟩ = some (.bool b) :=
  ⟨(Wd.Bx.cell h 0).trans rfl, (Wd.Bx.cell h 1).trans rfl, (Wd.Bx.cell h 2).trans rfl⟩
theorem find1_any (s : ByteArray) (k : Int) (b : Bool) (g : Nat) (name : ByteArray) (w : World) (hc : w.cell? ⟨g, 0, none⟩ = some (.string name)) :
    Calls Tryd.prog 32 #[.agg #[.string s, .int .i64 k, .bool b], .pointer (some ⟨g, 0, none⟩)] w fun e w' => e = .returned (.bool (decide (s = name))) ∧ Below w.heap.size w w' := by
  have he := Vc.list_beq s name
  obtain ⟨r, hr⟩ : ∃ r, r = decide (s = name) := ⟨_, rfl⟩
  rw [← hr] at he ⊢
  clear hr
  have hlt := World.block_lt_of_cell? w ⟨g, 0, none⟩ hc
  have hc1 := (((Below.refl w.heap.size w).alloc (Nat.le_refl _) (.cells #[.string s, .int .i64 k, .bool b] 48)).cell (p := ⟨g, 0, none⟩) hlt).trans hc
  clear hc hlt
  go_enter Tryd.func32, Tryd.ntmps32
  go_wp2_with fail
  go_ret
  exact ⟨rfl, (Below.refl _ _).alloc (Nat.le_refl _) _⟩
set_option maxHeartbeats 1000000 in
theorem index_any (A : Option Addr) (n c : Nat) (os : List Col) (g : Nat) (name : ByteArray) (w : World) (hS : Wd.Cs w A n c os) (hc : w.cell? ⟨g, 0, none⟩ = some (.string name)) (hn : n ≤ 1000000) :
    Calls Tryd.prog 31 #[.slice A n c, .func (.func 32) #[] #[.pointer (some ⟨g, 0, none⟩)]] w fun e w' => e = .returned (.int .i64 (findF os name 0)) ∧ Below w.heap.size w w' := by
  have Hl := Lib.hid hS.len
  have HS := Lib.hid hS
  have Hc := Lib.hid hc
  have hglt := World.block_lt_of_cell? w ⟨g, 0, none⟩ hc
  obtain ⟨z, hz⟩ : ∃ z, z = findF os name 0 := ⟨_, rfl⟩
  rw [← hz]
  have Hz := Lib.hid hz
  clear hz hS hc
  go_enter Tryd.func31, Tryd.ntmps31
  go_wp2
  go_loopw [5, 8] (fun _ i wr => ∃ k : Nat, i = .int .i64 k ∧ k ≤ n ∧ (∀ j, j < k → (os.getD j default).name ≠ name) ∧ Below w.heap.size w wr) (fun _ i _ => n - (intOf i).toNat)
  case atStart => exact ⟨0, rfl, Nat.zero_le _, fun j hj => by omega, Below.refl _ _⟩
  case round =>
    obtain ⟨k, rfl, hk, hf, hB⟩ := hrel
    by_cases hlt : k < n
    · obtain ⟨b, o, rfl, hbB, c0, c1, c2, _⟩ := (HS.out.below hB).cells (j := k) (by rw [← Hl.out]; exact hlt) rfl
      have hcg := (hB.cell (p := ⟨g, 0, none⟩) hglt).trans Hc.out
      obtain ⟨x, hx⟩ : ∃ x, x = os.getD k default := ⟨_, rfl⟩
      rw [← hx] at c0 c1 c2
      have Hx := Lib.hid hx
      have Hf := Lib.hid hf
      clear hx hf
      go_wp2_with fail
      refine (find1_any x.name x.kind x.nul g name wr hcg).mono ?_
      rintro e w1 ⟨rfl, hB1⟩
      have hB' := hB.trans (hB1.mono hB.size)
      by_cases he : x.name = name
      · rw [decide_eq_true he]
        go_wp2_with fail
        go_ret
        refine ⟨?_, hB'⟩
        rw [Hz.out, Sc.find_at os name 0 k (by rw [← Hl.out]; exact hlt) Hf.out (by rw [← Hx.out]; exact he)]
        simp
      · rw [decide_eq_false he]
        go_wp2_with fail
        go_roundw
        case rel =>
          refine ⟨k + 1, by go_num, by omega, fun j hj => ?_, hB'⟩
          by_cases hjk : j = k
          · rw [hjk, ← Hx.out]; exact he
          · exact Hf.out j (by omega)
        case measure => simp [intOf]; omega
    · have hkI : ¬ (k : Int) < n := by omega
      have e : z = -1 := by
        rw [Hz.out]
        exact Sc.find_none os name 0 fun j hj => hf j (by rw [← Hl.out] at hj; omega)
      have He := Lib.hid e
      clear e
      go_wp2_with fail
      go_ret
      exact ⟨by rw [He.out]; rfl, hB⟩
theorem Find_any (A : Option Addr) (n c : Nat) (os : List Col) (k p d t : Int) (name : ByteArray) (w : World) (hS : Wd.Cs w A n c os) (hn : n ≤ 1000000) :
    Calls Tryd.prog 16 #[.agg #[.slice A n c, .int .i64 k, .int .i64 p, .int .i64 d, .int .i64 t], .string name] w fun e w' => e = .returned (.int .i64 (findF os name 0)) ∧ Below w.heap.size w w' := by
  have hb0 := ((Below.refl w.heap.size w).alloc (Nat.le_refl _) (.cells #[.slice A n c, .int .i64 k, .int .i64 p, .int .i64 d, .int .i64 t] 24)).alloc (by simp) (.cells #[.string name] 9)
  have H := Lib.hid (index_any A n c os (w.heap.size + 1) name _ (hS.below hb0) (by simp) hn)
  clear hS
  go_enter Tryd.func16, Tryd.ntmps16
  go_wp2_with fail
  refine H.out.mono ?_
  rintro e w1 ⟨rfl, hB1⟩
  go_wp2_with fail
  go_ret
  exact ⟨rfl, hb0.trans (hB1.mono hb0.size)⟩
set_option maxHeartbeats 1000000 in
theorem refFind_any (A : Option Addr) (n c : Nat) (os : List Col) (k p d t : Int) (name : ByteArray) (w : World) (hS : Wd.Cs w A n c os) (hn : n ≤ 1000000) :
    Calls Tryd.prog 17 #[.agg #[.slice A n c, .int .i64 k, .int .i64 p, .int .i64 d, .int .i64 t], .string name] w fun e w' => e = .returned (.int .i64 (findF os name 0)) ∧ Below w.heap.size w w' := by
  have hb0 := (Below.refl w.heap.size w).alloc (Nat.le_refl _) (.cells #[.slice A n c, .int .i64 k, .int .i64 p, .int .i64 d, .int .i64 t] 24)
  have s0 : Sb (w.alloc (.cells #[.slice A n c, .int .i64 k, .int .i64 p, .int .i64 d, .int .i64 t] 24)) w.heap.size A n c k p d t := Wd.Bx.new w _ _
  have Hl := Lib.hid hS.len
  have HS := Lib.hid (hS.below hb0)
  obtain ⟨z, hz⟩ : ∃ z, z = findF os name 0 := ⟨_, rfl⟩
  rw [← hz]
  have Hz := Lib.hid hz
  clear hz hS
  go_enter Tryd.func17, Tryd.ntmps17
  go_wp2
  generalize w.alloc (.cells #[.slice A n c, .int .i64 k, .int .i64 p, .int .i64 d, .int .i64 t] 24) = wa at *
  obtain ⟨q0, -, -, -, -⟩ := five s0
  go_loopw [5] (fun i wr => ∃ k : Nat, i = .int .i64 k ∧ k ≤ n ∧ (∀ j, j < k → (os.getD j default).name ≠ name) ∧ wr = wa) (fun i _ => n - (intOf i).toNat)
  case atStart => exact ⟨0, rfl, Nat.zero_le _, fun j hj => by omega, rfl⟩
  case round =>
    obtain ⟨k, rfl, hk, hf, rfl⟩ := hrel
    by_cases hlt : k < n
    · obtain ⟨b, o, rfl, hbB, c0, c1, c2, _⟩ := HS.out.cells (j := k) (by rw [← Hl.out]; exact hlt) rfl
      obtain ⟨x, hx⟩ : ∃ x, x = os.getD k default := ⟨_, rfl⟩
      rw [← hx] at c0 c1 c2
      have Hx := Lib.hid hx
      have Hf := Lib.hid hf
      clear hx hf
      have he := Vc.list_beq x.name name
      by_cases e : x.name = name
      · rw [decide_eq_true e] at he
        have He := Lib.hid e
        clear e
        go_wp2_with fail
        go_ret
        refine ⟨?_, hb0⟩
        rw [Hz.out, Sc.find_at os name 0 k (by rw [← Hl.out]; exact hlt) Hf.out (by rw [← Hx.out]; exact He.out)]
        simp
      · rw [decide_eq_false e] at he
        have He := Lib.hid e
        clear e
        go_wp2_with fail
        go_roundw
        case rel =>
          refine ⟨k + 1, by go_num, by omega, fun j hj => ?_, by first | rfl | trivial⟩
          by_cases hjk : j = k
          · rw [hjk, ← Hx.out]; exact He.out
          · exact Hf.out j (by omega)
        case measure => simp [intOf]; omega
    · have hkI : ¬ (k : Int) < n := by omega
      have e : z = -1 := by
        rw [Hz.out]
        exact Sc.find_none os name 0 fun j hj => hf j (by rw [← Hl.out] at hj; omega)
      have He := Lib.hid e
      clear e
      go_wp2_with fail
      go_ret
      exact ⟨by rw [He.out]; rfl, hb0⟩
end Sx
end Go.Proofs.YtdmgjeipkpbojaaDoor
