/- The iterator of package frame: eachFrame hands on the frames that bytes begin with, whatever the loop does with them that keeps the bytes. -/
import Derived.RangeFuncNested
import Derived.RangeFuncBound
import Derived.RangeFuncCalls
import Derived.RangeFuncLeaves
import Derived.Shelf.Abstract
import Derived.Shelf.RegionOpen
import Derived.WalkKit
import Derived.OwnWalkIn
import Derived.TacticsInMore
import Derived.LoopNIn
import Derived.LoopIn
import Derived.Lib.Hide
import Derived.Test.YtljgalleiemaaaaPk19
namespace Go.Proofs.Ytljgalleiemaaaa
open Go.RowKit Go.Shelf
attribute [local go_sem] Oper.semAt_some
namespace Fc

/-- A frame as it is handed on: where it ends, and its payload, a piece of the bytes. -/
structure Fx where
  e : Nat
  A : Option Addr
  n : Nat
  c : Nat
  p : List Int
/-- With what is known of it: the piece holds the payload in w. -/
abbrev Fm (w : World) := { x : Fx // Wd.Sl w .u8 x.A x.n x.c x.p ∧ x.n ≤ 65536 ∧ x.e ≤ 100000000 }
def vals {w : World} (l : List (Fm w)) : List (List Int) := l.map (·.1.p)
def lst {w : World} (l : List (Fm w)) : Nat := (l.getLast?.map (·.1.e)).getD 0
theorem vals_snoc {w : World} (l : List (Fm w)) (x : Fm w) : vals (l ++ [x]) = vals l ++ [x.1.p] := by simp [vals]
theorem lst_snoc {w : World} (l : List (Fm w)) (x : Fm w) : lst (l ++ [x]) = x.1.e := by simp [lst]
theorem vals_len {w : World} (l : List (Fm w)) : (vals l).length = l.length := by simp [vals]
def encF {w : World} (x : Fm w) : Array Value := #[.int .i64 (x.1.e : Int), .slice x.1.A x.1.n x.1.c]

/-- What a round that goes on keeps: what lay below n, block b, and every array of effects. -/
def KeepF (n b : Nat) (W W' : World) : Prop := Below n W W' ∧ W'.heap[b]? = W.heap[b]? ∧ ∀ g, Tb W g → Tb W' g
theorem KeepF.refl (n b : Nat) (W : World) : KeepF n b W W := ⟨Below.refl _ _, rfl, fun _ h => h⟩
theorem KeepF.trans {n b : Nat} {A B C : World} (h : KeepF n b A B) (k : KeepF n b B C) : KeepF n b A C := ⟨h.1.trans k.1, k.2.1.trans h.2.1, fun g t => k.2.2 g (h.2.2 g t)⟩
theorem grown_below {w w' : World} (h : Below w.heap.size w w') : w.grownBy w' none := ⟨h.os, h.tape, h.output, h.size, fun k hk _ => h.block k hk⟩
theorem KeepF.of_below {n b : Nat} {w w' : World} (h : Below w.heap.size w w') (hn : n ≤ w.heap.size) (hb : b < w.heap.size) : KeepF n b w w' :=
  ⟨h.mono hn, h.block b hb, fun _ t => t.below t.lt h⟩

/-- How far the frames have come. -/
def AtE {w : World} (b : List Int) (k : Nat) (pre : List (Fm w)) : Prop := Fr.rd b = (vals pre ++ (Fr.rd (b.drop k)).1, k + (Fr.rd (b.drop k)).2) ∧ k = lst pre
theorem atE_zero {w : World} (b : List Int) : AtE (w := w) b 0 [] := ⟨by simp [vals], rfl⟩
theorem atE_next {w : World} {b p : List Int} {k s : Nat} {pre : List (Fm w)} (x : Fm w) (h : AtE b k pre) (ho : Fr.openF (b.drop k) = some (p, s)) (hp : x.1.p = p) (he : x.1.e = k + s) : AtE b (k + s) (pre ++ [x]) := by
  refine ⟨?_, by rw [lst_snoc, he]⟩
  rw [h.1, Fr.rd_some ho, vals_snoc, hp, List.drop_drop, List.append_assoc, List.singleton_append, Nat.add_assoc]
theorem atE_end {w : World} {b : List Int} {k : Nat} {pre : List (Fm w)} (h : AtE b k pre) (ho : Fr.openF (b.drop k) = none) : Fr.rd b = (vals pre, lst pre) := by
  rw [h.1, Fr.rd_none ho, List.append_nil, h.2]
  rfl

set_option maxRecDepth 100000 in
set_option maxHeartbeats 1000000 in
theorem each1_in (n : Nat) (hn : 1 ≤ n) (l Bl n₀ : Nat) (w0 : World) (A : Option Addr) (m c : Nat) (b : List Int) (hB : Nm.Byt b) (hm : m ≤ 1000000) (h0S : Wd.Sl w0 .u8 A m c b) (hn₀ : n₀ = w0.heap.size) (J Jx : List (Fm w0) → World → Prop) (W : World) (hJ : AbidesFrom W.heap.size J)
    (hY : ∀ pre x W, J pre W → pre.length < m → YieldAt Fence.wide (n - 1) Try.prog l (encF x) W fun e W' =>
      (e = .returned (.bool true) ∧ J (pre ++ [x]) W' ∧ KeepF n₀ Bl W W') ∨ (e = .returned (.bool false) ∧ Jx (pre ++ [x]) W'))
    (hBx : Wd.Bx W Bl 39 #[.slice A m c]) (hbel : Below n₀ w0 W) (h0 : J [] W) :
    CallsIn Fence.wide n Try.prog 47 #[.func (.yield l) #[] #[], .pointer (some ⟨Bl, 0, none⟩)] W fun e W' => (∃ v, e = .returned v) ∧
      ((∃ ys, Fr.rd b = (vals ys, lst ys) ∧ J ys W') ∨ (∃ pre, True ∧ Jx pre W')) := by
  obtain ⟨hz, hsz⟩ := zero_of_info info_eff
  obtain ⟨zc, hzc⟩ : ∃ zc : Array Value, zc = Array.replicate 256 (Value.int .u32 0) := ⟨_, rfl⟩
  rw [← hzc] at hz
  have hzs : zc.size = 256 := by rw [hzc]; exact Array.size_replicate
  have C1 := newEffects_any W
  obtain ⟨tc, htc⟩ : ∃ tc : Array Value, tc = (tab.map (Value.int .u32)).toArray := ⟨_, rfl⟩
  have hts : tc.size = 256 := by rw [htc, List.size_toArray, List.length_map, tab_len]
  have ht1 : tc.all (·.oneCell') = true := by rw [htc]; exact ints_all _ _
  rw [← htc] at C1
  have hsc := fun w : World => run_storeCells_new (P := Try.prog) w 96 zc tc (by rw [hsz, hts]) (by rw [hzs, hts]) ht1
  have HC1 := Lib.hid ((callsIn_wide (n := n - 1)).2 C1)
  have Htc := Lib.hid htc
  have H0 := Lib.hid h0S
  have Hn0 := Lib.hid hn₀
  have HB := Lib.hid hB
  have hcap := h0S.cap
  have hmx := h0S.max
  unfold maxLen at hmx
  clear C1 htc ht1 hzs hzc hsz h0S hn₀ hB
  refine callsIn_of_wp Try.func47 rfl trivial ?_ rfl
  simp only [Try.ntmps47, List.size_toArray, List.length_cons, List.length_nil, Nat.reduceAdd, Nat.reduceSub, Array.replicate_succ, Array.replicate_zero, List.push_toArray, List.append_toArray, List.nil_append, List.cons_append]
  gi_wp2_with (refine ⟨trivial, ?_⟩; gi_at_call 45; refine HC1.out.mono ?_; rintro e w1 ⟨rfl, hb1⟩)
  have hT1 : Tb (w1.alloc (.cells tc 96)) w1.heap.size := by rw [Htc.out]; exact heap_alloc_new w1 _
  have hb2 : Below W.heap.size W (w1.alloc (.cells tc 96)) := hb1.alloc hb1.size _
  have hnW : n₀ ≤ W.heap.size := by rw [Hn0.out]; exact (by have := hbel.size; exact this)
  have hK1 : KeepF n₀ Bl W (w1.alloc (.cells tc 96)) := KeepF.of_below hb2 hnW hBx.lt
  have hJ1 := hJ [] W _ none h0 (grown_below hb2) (fun r e => by cases e)
  generalize w1.alloc (.cells tc 96) = w2 at hT1 hK1 hJ1 ⊢
  generalize w1.heap.size = g at hT1 ⊢
  clear hb2 hz hsc hts hb1 HC1 Htc
  gi_loopw [4] (fun s wr => ∃ (k : Nat) (pre : List (Fm w0)), s = .int .i64 k ∧ k ≤ m ∧ Hid (AtE b k pre) ∧ J pre wr ∧ KeepF n₀ Bl W wr ∧ Tb wr g ∧ pre.length ≤ k) (fun s _ => m - (intOf s).toNat)
  case atStart => exact ⟨0, [], rfl, Nat.zero_le _, Lib.hid (atE_zero b), hJ1, hK1, hT1, Nat.le_refl _⟩
  case round =>
    clear hT1 hK1 hJ1
    obtain ⟨k, pre, rfl, hk, hA, hJs, hK, hT, hpl⟩ := hrel
    have cB : wr.cell? ⟨Bl, 0, none⟩ = some (.slice A m c) := (World.cell?_of_block hK.2.1).trans (hBx.cell 0)
    have hbw : Below w0.heap.size w0 wr := by rw [← Hn0.out]; exact hbel.trans hK.1
    have hSw := (H0.out.below hbw).cut k hk
    have h0c := H0.out.cut k hk
    have hBd : Nm.Byt (b.drop k) := fun x hx => HB.out x (List.mem_of_mem_drop hx)
    have hwn : n₀ ≤ wr.heap.size := Nat.le_trans hnW hK.1.size
    have hbl : Bl < wr.heap.size := by
      have h1 : wr.heap[Bl]? = some _ := hK.2.1.trans hBx
      exact (Array.getElem?_eq_some_iff.1 h1).1
    rcases Nat.lt_or_ge k c with hck | hck
    · rw [if_neg (by omega)] at hSw h0c
      have c2 := (callsIn_wide (n := n - 1)).2 (open_any g _ (m - k) (c - k) (b.drop k) wr hT hSw hBd (by omega))
      obtain ⟨R, hR⟩ : ∃ R, R = Fr.openF (b.drop k) := ⟨_, rfl⟩
      rw [← hR] at c2
      have C2 := Lib.hid c2
      have H0c := Lib.hid h0c
      have HR := Lib.hid hR
      clear hSw h0c hBd c2 hR
      gi_wp2_with (refine ⟨trivial, ?_⟩; gi_at_call 48; refine C2.out.mono ?_)
      rintro e w3 ⟨hb3, hO⟩
      have hJ3 := hJ pre wr w3 none hJs (grown_below hb3) (fun r e => by cases e)
      cases R with
      | none =>
        obtain rfl := hO
        gi_wp2
        refine bodyPost_ret (results_none rfl _ _ _) rfl ?_
        exact ⟨⟨_, rfl⟩, .inl ⟨pre, atE_end hA.out HR.out.symm, hJ3⟩⟩
      | some q =>
        obtain ⟨p, s⟩ := q
        obtain ⟨A', n', c', rfl, hall⟩ := hO
        have hS' := hall w0 H0c.out
        have hle := Fr.openF_le HR.out.symm
        rw [List.length_drop, ← H0.out.len] at hle
        have hx : Wd.Sl w0 .u8 A' n' c' p ∧ n' ≤ 65536 ∧ k + s ≤ 100000000 := ⟨hS', by rw [hS'.len]; omega, by omega⟩
        have hAn := atE_next (⟨⟨k + s, A', n', c', p⟩, hx⟩ : Fm w0) hA.out HR.out.symm rfl rfl
        obtain ⟨fn, tmps, assign, body, hy, hRd⟩ := hY pre ⟨⟨k + s, A', n', c', p⟩, hx⟩ w3 hJ3 (by omega)
        have hks : k + s ≤ m := by omega
        have hs4 : 4 ≤ s := hle.1
        have hK3 := hK.trans (KeepF.of_below hb3 hwn hbl)
        have hT3 : Tb w3 g := hT.below hT.lt hb3
        have eks : ((k + s : Nat) : Int) = (k : Int) + (s : Int) := by omega
        dsimp only [encF] at hy
        rw [eks] at hy
        have HA := Lib.hid hAn
        clear hall hS' hle hAn hJs hJ3 hA C2 H0c HR eks
        gi_wp2
        refine hRd.mono ?_
        rintro e W3 (⟨rfl, hJ4, hk4⟩ | ⟨rfl, hJx4⟩)
        · gi_wp2
          go_roundw
          case rel => exact ⟨k + s, _, by go_num, hks, HA, hJ4, hK3.trans hk4, hk4.2.2 g hT3, by simp; omega⟩
          case measure => simp [intOf]; omega
        · gi_wp2
          refine bodyPost_ret (results_none rfl _ _ _) rfl ?_
          exact ⟨⟨_, rfl⟩, .inr ⟨_, trivial, hJx4⟩⟩
    · have hkm : k = m := by omega
      have hcm : c = m := by omega
      have hbd : b.drop k = [] := List.drop_of_length_le (by rw [← H0.out.len]; omega)
      subst hkm hcm
      rw [if_pos rfl, Nat.sub_self] at hSw
      have c2 := (callsIn_wide (n := n - 1)).2 (open_any g _ 0 0 (b.drop c) wr hT hSw hBd (by omega))
      have hR : Fr.openF (b.drop c) = none := by rw [hbd]; exact Fr.openF_nil
      rw [hR] at c2
      have C2 := Lib.hid c2
      have HR := Lib.hid hR
      clear hSw h0c hBd c2 hR hbd
      gi_wp2_with (refine ⟨trivial, ?_⟩; gi_at_call 48; refine C2.out.mono ?_)
      rintro e w3 ⟨hb3, rfl⟩
      have hJ3 := hJ pre wr w3 none hJs (grown_below hb3) (fun r e => by cases e)
      gi_wp2
      refine bodyPost_ret (results_none rfl _ _ _) rfl ?_
      exact ⟨⟨_, rfl⟩, .inl ⟨pre, atE_end hA.out HR.out, hJ3⟩⟩
end Fc
end Go.Proofs.Ytljgalleiemaaaa
