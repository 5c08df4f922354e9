/- What the reference of layer 9 does: may, Has, Upto, Without, And, Not; append of one number onto a row of the call's own. -/
import Derived.Test.YtgmjafammdkgfaaDoorProg
import Derived.Test.YtgmjafammdkgfaaDoorWords
import Derived.Test.YtgmjafammdkgfaaDoorBsMath
import Derived.WalkKit
import Derived.WalkSpells
import Derived.Lib.Hide
import Derived.IntWalk
import Derived.Maps.AppendAt
namespace Go.Proofs.YtgmjafammdkgfaaDoor
set_option maxRecDepth 20000
open Go.RowKit Go.Maps
namespace Bx
open Bs
theorem info_i : (Tryd.prog.info? 3).map (fun i => (i.zero, i.size, i.bytes)) = some (some (.int .i64 0), 1, 8) := by kernel_rfl
/-- A row of numbers of the call's own. -/
def Rw (w : World) (B : Nat) (v : Value) (L : List Int) : Prop := w.ownsRow B 3 1 v L.length (L.map (Value.int .i64))
theorem Rw.nil (w : World) (B : Nat) : Rw w B (.slice none 0 0) [] := World.ownsRow_nil _ _ _ _
theorem Rw.out {w w' : World} {v : Value} {L : List Int} (h : Rw w' w.heap.size v L) (hb : Below w.heap.size w w') : Wd.Out w .i64 L (.returned v) w' := Wd.Out.of_own h hb
/-- append of one number. -/
theorem wpList_app (w : World) {ops : Array Oper} {rest : List Oper} {o : Oper} {a : Act} {Q : Exit → Act → World → Prop} (hgd : o.guard = none) (s x : Operand)
    (ho : o.op = .call { callee := .builtin .append, args := #[s, x], argTypes := #[22, 22] })
    (w0 : World) (v : Value) (L : List Int) (hs : a.eval s = v) (hown : Rw w0 w.heap.size v L) (y : Int) (hx : a.eval x = .slice (some ⟨w0.heap.size, 0, none⟩) 1 1) (hL : L.length ≤ 1000000) (hb : Below w.heap.size w w0)
    (h : ∀ v' w', Rw w' w.heap.size v' (L ++ [y]) → Below w.heap.size w w' → wpList Tryd.prog ops Q rest (a.put o.dst v') w') : wpList Tryd.prog ops Q (o :: rest) a (w0.alloc (.cells #[.int .i64 y] 3)) := by
  obtain ⟨i0, hi, hz0, hz1, hz2⟩ := info_parts info_i
  have hb1 := hb.alloc hb.size (.cells #[.int .i64 y] 3)
  refine wpList_plain hgd fun K hK => ?_
  obtain ⟨v', w', hrun, h2, h3, _, _⟩ := run_append_own_at (P := Tryd.prog) (w0.alloc (.cells #[.int .i64 y] 3)) w.heap.size 22 o.type 3 i0 _ 1 8 Tryd.underlying22 hi hz0 hz1 hz2 rfl (by decide) v L.length _ (World.ownsRow.alloc hown _) ⟨w0.heap.size, 0, none⟩ 1 1 [.int .i64 y] rfl (cell_one_new _ _ _) (fun u hu => by rw [List.mem_singleton.1 hu]; rfl) (by unfold maxLen; omega) (by omega) hb1.size
  unfold Oper.wp
  simp [execOp, ho, resolve, invoke, builtin, hs, hx, hrun, Result.andThen]
  exact hK _ _ (h v' w' (by unfold Rw; rw [List.length_append, List.map_append]; exact h2) (hb1.grown h3 hb1.size fun g hg => (World.ownsRow.lt hown g hg).1))
theorem may_any (i : Int) (w : World) : Calls Tryd.prog 32 #[.int .i64 i] w fun e w' => e = .returned (.bool (decide (adm i))) ∧ w' = w := by
  by_cases h0 : 0 ≤ i
  · by_cases h1 : i < 65536
    · rw [decide_eq_true (show adm i from ⟨h0, h1⟩)]
      go_enter Tryd.func32, Tryd.ntmps32
      go_wp2_with fail
      go_ret
      exact ⟨rfl, rfl⟩
    · rw [decide_eq_false (fun h : adm i => h1 h.2)]
      go_enter Tryd.func32, Tryd.ntmps32
      go_wp2_with fail
      go_ret
      exact ⟨rfl, rfl⟩
  · rw [decide_eq_false (fun h : adm i => h0 h.1)]
    go_enter Tryd.func32, Tryd.ntmps32
    go_wp2_with fail
    go_ret
    exact ⟨rfl, rfl⟩
theorem take_next {X : List Int} {k : Nat} (h : k < X.length) : X.take (k + 1) = X.take k ++ [X.getD k 0] := by
  rw [List.take_add_one, List.getElem?_eq_getElem h, List.getD_eq_getElem?_getD, List.getElem?_eq_getElem h]
  rfl
set_option maxHeartbeats 1000000 in
theorem refHas_any (A : Option Addr) (n c : Nat) (X : List Int) (i : Int) (w : World) (hS : Wd.Sl w .i64 A n c X) :
    Calls Tryd.prog 27 #[.slice A n c, .int .i64 i] w fun e w' => e = .returned (.bool (decide (i ∈ X))) ∧ w' = w := by
  have Hm := Lib.hid hS.len
  have Hr := Lib.hid hS.rd
  have hcap := hS.cap
  have hmx := hS.max
  unfold maxLen at hmx
  obtain ⟨r, hr⟩ : ∃ r, r = decide (i ∈ X) := ⟨_, rfl⟩
  rw [← hr]
  have HR := Lib.hid hr
  clear hr hS
  go_enter Tryd.func27, Tryd.ntmps27
  go_wp2
  go_loopw [5] (fun j wr => ∃ k : Nat, j = .int .i64 k ∧ k ≤ n ∧ wr = w ∧ Hid (i ∉ X.take k)) (fun j _ => n - (intOf j).toNat)
  case atStart => exact ⟨0, rfl, Nat.zero_le _, rfl, Lib.hid (by simp)⟩
  case round =>
    obtain ⟨k, rfl, hk, rfl, hf⟩ := hrel
    by_cases hlt : k < n
    · have hkl : k < X.length := by rw [← Hm.out]; exact hlt
      obtain ⟨b, o, hA, hb, hc⟩ := Hr.out k hkl
      subst hA
      have hn := take_next hkl
      obtain ⟨x, hx⟩ : ∃ x, x = X.getD k 0 := ⟨_, rfl⟩
      rw [← hx] at hc hn
      have Hx := Lib.hid (show x ∈ X by rw [hx, List.getD_eq_getElem?_getD, List.getElem?_eq_getElem hkl]; exact List.getElem_mem hkl)
      have Hn := Lib.hid hn
      clear hx hn hkl
      by_cases hz : x = i
      · subst hz
        have e := Lib.hid (show r = true by rw [HR.out]; exact decide_eq_true Hx.out)
        go_wp2
        go_ret
        exact ⟨by rw [e.out]; rfl, rfl⟩
      · have hz' : (x == i) = false := by simpa using hz
        have hf2 := Lib.hid (show i ∉ X.take (k + 1) by rw [Hn.out, List.mem_append, List.mem_singleton]; exact fun h => h.elim hf.out fun e => hz e.symm)
        clear hz
        go_wp2
        go_roundw
        case rel => exact ⟨k + 1, by go_num, by omega, trivial, hf2⟩
        case measure => simp [intOf]; omega
    · have hkI : ¬ (k : Int) < n := by omega
      have e := Lib.hid (show r = false by rw [HR.out]; refine decide_eq_false ?_; have := hf.out; rwa [List.take_of_length_le (by rw [← Hm.out]; omega)] at this)
      clear hf
      go_wp2
      go_ret
      exact ⟨by rw [e.out]; rfl, rfl⟩
/-- The numbers below k. -/
def upK (k : Nat) : List Int := (List.range k).map fun (j : Nat) => (j : Int)
theorem upK_next (k : Nat) : upK (k + 1) = upK k ++ [(k : Int)] := by unfold upK; rw [List.range_succ, List.map_append]; rfl
theorem upK_len (k : Nat) : (upK k).length = k := by simp [upK]
theorem cut_lt {n : Int} {k : Nat} (h : k < cut n) : (k : Int) < n ∧ (k : Int) < 65536 := by unfold cut at h; omega
theorem cut_ge {n : Int} {k : Nat} (h : ¬ k < cut n) : ¬ (k : Int) < n ∨ ¬ (k : Int) < 65536 := by unfold cut at h; omega
theorem cut_le (n : Int) : cut n ≤ 65536 := by unfold cut; omega
set_option maxHeartbeats 1000000 in
theorem refUpto_any (n : Int) (w : World) : Calls Tryd.prog 24 #[.int .i64 n] w (Wd.Out w .i64 (uptoL n)) := by
  obtain ⟨N, hN⟩ : ∃ N, N = cut n := ⟨_, rfl⟩
  have HN := Lib.hid hN
  have Hcl := Lib.hid (show N ≤ 65536 by rw [hN]; exact cut_le n)
  clear hN
  go_enter Tryd.func24, Tryd.ntmps24
  go_wp2
  go_loopw [3, 4] (fun o j wr => ∃ (k : Nat) (z : Int), j = .int .i64 z ∧ Hid (z = k ∧ k ≤ N) ∧ Hid (Rw wr w.heap.size o (upK k)) ∧ Below w.heap.size w wr) (fun _ j _ => N - (intOf j).toNat)
  case atStart => exact ⟨0, 0, rfl, Lib.hid ⟨rfl, Nat.zero_le _⟩, Lib.hid (Rw.nil _ _), Below.refl _ _⟩
  case round =>
    obtain ⟨k, z, rfl, hz, hR, hB⟩ := hrel
    by_cases hlt : k < N
    · obtain ⟨h1, h2⟩ := cut_lt (n := n) (k := k) (by rw [← HN.out]; exact hlt)
      rw [← hz.out.1] at h1 h2
      have h0 : 0 ≤ z := by rw [hz.out.1]; omega
      have HL := Lib.hid (show (upK k).length ≤ 1000000 by rw [upK_len]; have := Hcl.out; omega)
      have Hlt := Lib.hid hlt
      clear hlt
      go_wp2_with (at_builtin; refine wpList_app w rfl (.tmp 14) (.tmp 16) rfl wr u3 (upK k) rfl hR.out z rfl HL.out hB ?_; intro v' w' hR' hB')
      rw [hz.out.1, ← upK_next] at hR'
      have HR' := Lib.hid hR'
      clear hR'
      go_roundw
      case rel => exact ⟨k + 1, z + 1, by go_num, Lib.hid ⟨by rw [hz.out.1]; rfl, Hlt.out⟩, HR', hB'⟩
      case measure => simp [intOf]; have := hz.out.1; have := Hlt.out; omega
    · have hO : Wd.Out w .i64 (uptoL n) (.returned u3) wr := by
        have := hR.out.out hB
        rw [show k = cut n by have := hz.out.2; have := HN.out; omega] at this
        exact this
      have HO := Lib.hid hO
      have hg := cut_ge (n := n) (k := k) (by rw [← HN.out]; exact hlt)
      rw [← hz.out.1] at hg
      clear hlt hO
      by_cases h1 : z < n
      · have h2 : ¬ z < 65536 := fun h => hg.elim (fun q => q h1) fun q => q h
        clear hg
        go_wp2
        go_ret
        exact HO.out
      · clear hg
        go_wp2
        go_ret
        exact HO.out
end Bx
end Go.Proofs.YtgmjafammdkgfaaDoor
