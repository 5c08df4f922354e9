/- Package file: the head of a segment, read from the payloads. Over any program: a region that draws its order, in a round of a loop over a function, goes as it goes elsewhere. Words on memory for layer 3, over any program: a row that is filled place by place; a slice of runs (two numbers each); and what goes with it. -/
import Derived.RangeFuncCalls
import Derived.OwnWalkIn
import Derived.OrdersHeld
import Derived.WalkKit
import Derived.WalkSpells
import Derived.Lib.Hide
import Derived.Test.YtaoeipehpakngaaGreatDoorPb24
import Derived.Test.YtaoeipehpakngaaGreatDoorPb02
import Derived.Test.YtaoeipehpakngaaGreatDoorPb06
import Derived.Test.YtaoeipehpakngaaGreatDoorPb04
import Derived.Test.YtaoeipehpakngaaGreatDoorProg
import Derived.Test.YtaoeipehpakngaaGreatDoorPb09
namespace Go.Proofs.YtaoeipehpakngaaGreatDoor
set_option maxRecDepth 20000
open Go.RowKit
namespace Fi
open Se (Seg Sg Gb)
open Nc
section
variable {w0 w : World} {p : Nat} {OA : Option Addr} {on oc : Nat} {CA : Option Addr} {cn cc : Nat}
theorem getL_nil : Nm.getL [] = (0, 0, 6) := by decide
set_option maxHeartbeats 4000000 in
theorem readHead_nil {a b c d : Int} (k : Int) (h : Lb w0 w p a b c d OA on oc CA cn cc []) :
    Calls Tryz.prog 65 #[.pointer (some ⟨p, 0, none⟩), .int .i64 k] w fun e w' => e = .returned (.bool false) ∧ Below w.heap.size w w' := by
  have Cn := Lib.hid (next_nil h)
  have Cg := Lib.hid (fun w => getLen_any none 0 0 [] w (Wd.Sl.none_ _ _) (fun _ h => by cases h))
  rw [getL_nil] at Cg
  clear h
  go_enter Tryz.func65, Tryz.ntmps65
  go_wp2_with fail
  refine Cn.out.mono ?_
  rintro e w1 ⟨rfl, rfl⟩
  go_wp2_with fail
  go_region
  have b1 : Below w1.heap.size w1 ((w1.alloc (.cells #[.int .i64 0] 3)).alloc (.cells #[.pointer (some ⟨p, 0, none⟩), .pointer (some ⟨p, 1, none⟩), .pointer (some ⟨p, 2, none⟩), .pointer (some ⟨p, 3, none⟩), .pointer (some ⟨w1.heap.size, 0, none⟩)] 152)).drew := (((Below.refl _ _).alloc (Nat.le_refl _) _).alloc (by simp) _).drew
  have z1 : (w1.alloc (.cells #[.int .i64 0] 3)).heap.size = w1.heap.size + 1 := by simp
  have r1 := (Wd.Bx.new (w1.alloc (.cells #[.int .i64 0] 3)) 152 #[.pointer (some ⟨p, 0, none⟩), .pointer (some ⟨p, 1, none⟩), .pointer (some ⟨p, 2, none⟩), .pointer (some ⟨p, 3, none⟩), .pointer (some ⟨w1.heap.size, 0, none⟩)]).drew
  rw [z1] at r1
  generalize ((w1.alloc (.cells #[.int .i64 0] 3)).alloc (.cells #[.pointer (some ⟨p, 0, none⟩), .pointer (some ⟨p, 1, none⟩), .pointer (some ⟨p, 2, none⟩), .pointer (some ⟨p, 3, none⟩), .pointer (some ⟨w1.heap.size, 0, none⟩)] 152)).drew = W at *
  have g1 : W.cell? ⟨w1.heap.size + 1, 0, none⟩ = some (.pointer (some ⟨p, 0, none⟩)) := r1.cell 0
  have B1 := Lib.hid b1
  clear r1 b1 z1
  go_wp2_with fail
  go_loopw [5, 32] (fun v i wr => v = .slice none 0 0 ∧ i = .int .i64 0 ∧ wr = W) (fun _ _ _ => 0)
  case atStart => exact ⟨rfl, rfl, rfl⟩
  case round =>
    obtain ⟨rfl, rfl, rfl⟩ := hrel
    go_wp2_with fail
    refine (Cg.out _).mono ?_
    rintro e w2 ⟨rfl, rfl⟩
    unfold three
    go_wp2_with fail
    go_ret
    exact ⟨rfl, B1.out⟩
def adr (p q k : Nat) : Addr := if k < 4 then ⟨p, k, none⟩ else ⟨q, 0, none⟩
def hnk (x : Seg) (k j : Nat) : Int := if j < k then (hns x).getD j 0 else 0
structure Hb (w wr : World) (p : Nat) (OA : Option Addr) (on oc : Nat) (CA : Option Addr) (cn cc : Nat) (PA : Option Addr) (pn pc : Nat) (x : Seg) (q k : Nat) : Prop where
  b : Wd.Bx wr p 103 #[.int .i64 (hnk x k 0), .int .i64 (hnk x k 1), .int .i64 (hnk x k 2), .int .i64 (hnk x k 3), .slice OA on oc, .slice CA cn cc, .slice PA pn pc]
  c : Wd.Bx wr q 3 #[.int .i64 (hnk x k 4)]
  r : Wd.Bx wr (q + 1) 152 #[.pointer (some ⟨p, 0, none⟩), .pointer (some ⟨p, 1, none⟩), .pointer (some ⟨p, 2, none⟩), .pointer (some ⟨p, 3, none⟩), .pointer (some ⟨q, 0, none⟩)]
  m : Wd.Mv (fun g => g = p) w wr
  lo : w.heap.size ≤ q
  pq : p < w.heap.size
section
variable {wr : World} {PA : Option Addr} {pn pc : Nat} {x : Seg} {q k : Nat}
theorem Hb.drew (h : Hb w wr p OA on oc CA cn cc PA pn pc x q k) : Hb w wr.drew p OA on oc CA cn cc PA pn pc x q k := ⟨h.b, h.c, h.r, h.m.drew, h.lo, h.pq⟩
theorem Hb.ptr (h : Hb w wr p OA on oc CA cn cc PA pn pc x q k) (hk : k < 5) : wr.cell? ⟨q + 1, k, none⟩ = some (.pointer (some (adr p q k))) ∧ wr.cell? (adr p q k) = some (.int .i64 0) ∧ wr.frozen? (adr p q k) = false := by
  match k, hk with
  | 0, _ => exact ⟨h.r.cell 0, h.b.cell 0, h.b.free 0⟩
  | 1, _ => exact ⟨h.r.cell 1, h.b.cell 1, h.b.free 1⟩
  | 2, _ => exact ⟨h.r.cell 2, h.b.cell 2, h.b.free 2⟩
  | 3, _ => exact ⟨h.r.cell 3, h.b.cell 3, h.b.free 3⟩
  | 4, _ => exact ⟨h.r.cell 4, h.c.cell 0, h.c.free 0⟩
theorem Hb.next (h : Hb w wr p OA on oc CA cn cc PA pn pc x q k) (hk : k < 5) : Hb w (wr.setCell (adr p q k) (.int .i64 ((hns x).getD k 0))) p OA on oc CA cn cc PA pn pc x q (k + 1) := by
  have lo := h.lo
  have pq := h.pq
  match k, hk with
  | 0, _ => exact ⟨h.b.set 0 _, h.c.other (a := ⟨p, 0, none⟩) (show q ≠ p by omega) _, h.r.other (a := ⟨p, 0, none⟩) (show q + 1 ≠ p by omega) _, h.m.set (a := ⟨p, 0, none⟩) rfl _, lo, pq⟩
  | 1, _ => exact ⟨h.b.set 1 _, h.c.other (a := ⟨p, 1, none⟩) (show q ≠ p by omega) _, h.r.other (a := ⟨p, 1, none⟩) (show q + 1 ≠ p by omega) _, h.m.set (a := ⟨p, 1, none⟩) rfl _, lo, pq⟩
  | 2, _ => exact ⟨h.b.set 2 _, h.c.other (a := ⟨p, 2, none⟩) (show q ≠ p by omega) _, h.r.other (a := ⟨p, 2, none⟩) (show q + 1 ≠ p by omega) _, h.m.set (a := ⟨p, 2, none⟩) rfl _, lo, pq⟩
  | 3, _ => exact ⟨h.b.set 3 _, h.c.other (a := ⟨p, 3, none⟩) (show q ≠ p by omega) _, h.r.other (a := ⟨p, 3, none⟩) (show q + 1 ≠ p by omega) _, h.m.set (a := ⟨p, 3, none⟩) rfl _, lo, pq⟩
  | 4, _ => exact ⟨h.b.other (a := ⟨q, 0, none⟩) (show p ≠ q by omega) _, h.c.set 0 _, h.r.other (a := ⟨q, 0, none⟩) (show q + 1 ≠ q by omega) _, h.m.trans ((Wd.Mv.refl _ wr).set (G := Wd.Gr (fun g => g = p) w wr) (a := ⟨q, 0, none⟩) (.inr ⟨lo, h.c.lt⟩) _), lo, pq⟩
end
theorem head_drop (x : Seg) (k : Nat) (hk : k < 5) : (head x).drop (hdk x k).length = Nm.vd ((hns x).getD k 0) ++ (head x).drop (hdk x (k + 1)).length := by
  have h : head x = hdk x k ++ (Nm.vd ((hns x).getD k 0) ++ ((hns x).drop (k + 1)).flatMap Nm.vd) := by
    rw [← hdk_all]
    unfold hdk
    have e : (hns x).take 5 = (hns x).take k ++ (hns x).getD k 0 :: (hns x).drop (k + 1) := by
      have h1 : (hns x).take 5 = hns x := List.take_of_length_le (by simp [hns])
      rw [h1]
      conv => lhs; rw [← List.take_append_drop k (hns x)]
      congr 1
      rw [List.drop_eq_getElem_cons (show k < (hns x).length by simp [hns]; omega)]
      simp [List.getD, show k < (hns x).length by simp [hns]; omega]
    rw [e, List.flatMap_append, List.flatMap_cons]
  rw [hdk_next x k hk]
  conv => lhs; rw [h, List.drop_left]
  conv => rhs; rw [h, ← List.append_assoc, List.drop_left]
set_option maxHeartbeats 8000000 in
theorem readHead_yes {x : Seg} {r : List (List Int)} (hx : Nice x) (h : Lb w0 w p 0 0 0 0 OA on oc CA cn cc (head x :: r)) (hr : r.length ≤ 1000000) :
    Calls Tryz.prog 65 #[.pointer (some ⟨p, 0, none⟩), .int .i64 (x.cols.length : Int)] w fun e w' => e = .returned (.bool true) ∧ Lb w0 w' p x.part x.id x.st x.en OA on oc CA cn cc r ∧ Wd.Mv (fun g => g = p) w w' := by
  have Cn := Lib.hid (next_cons h hr)
  obtain ⟨N, hN⟩ : ∃ N, N = x.cols.length := ⟨_, rfl⟩
  rw [← hN]
  have HN := Lib.hid hN
  have HP := Lib.hid h.lt
  have Hbw := Lib.hid (And.intro h.p0 h.bel)
  have Hin := Lib.hid (hns_in hx.head hx.few)
  have Hby := Lib.hid (head_byt hx)
  clear h hN hx
  go_enter Tryz.func65, Tryz.ntmps65
  go_wp2_with fail
  refine Cn.out.mono ?_
  rintro e w1 ⟨A1, n1, c1, rfl, hS1, hL1, hM1⟩
  obtain ⟨⟨PA, pn, pc, hs, hb⟩, hp0, hbel⟩ := hL1
  have HS0 := Lib.hid hs
  have Hbel := Lib.hid hbel
  have hp1 : p < w1.heap.size := hb.lt
  have hA0 : Hb w ((w1.alloc (.cells #[.int .i64 0] 3)).alloc (.cells #[.pointer (some ⟨p, 0, none⟩), .pointer (some ⟨p, 1, none⟩), .pointer (some ⟨p, 2, none⟩), .pointer (some ⟨p, 3, none⟩), .pointer (some ⟨w1.heap.size, 0, none⟩)] 152)).drew p OA on oc CA cn cc PA pn pc x w1.heap.size 0 := by
    have z1 : (w1.alloc (.cells #[.int .i64 0] 3)).heap.size = w1.heap.size + 1 := by simp
    have r1 := Wd.Bx.new (w1.alloc (.cells #[.int .i64 0] 3)) 152 #[.pointer (some ⟨p, 0, none⟩), .pointer (some ⟨p, 1, none⟩), .pointer (some ⟨p, 2, none⟩), .pointer (some ⟨p, 3, none⟩), .pointer (some ⟨w1.heap.size, 0, none⟩)]
    rw [z1] at r1
    exact ⟨(hb.alloc _).alloc _, (Wd.Bx.new w1 3 #[.int .i64 0]).alloc _, r1, ((hM1.alloc _).alloc _).drew, hM1.size, HP.out⟩
  have HA := Lib.hid hA0
  have HS1 := Lib.hid hS1
  clear hs hbel hb hA0 hM1 hS1 Cn
  go_wp2_with fail
  go_region
  generalize ((w1.alloc (.cells #[.int .i64 0] 3)).alloc (.cells #[.pointer (some ⟨p, 0, none⟩), .pointer (some ⟨p, 1, none⟩), .pointer (some ⟨p, 2, none⟩), .pointer (some ⟨p, 3, none⟩), .pointer (some ⟨w1.heap.size, 0, none⟩)] 152)).drew = W at *
  go_wp2_with fail
  go_loopw [5, 32] (fun v i wr => ∃ k : Nat, i = .int .i64 k ∧ k ≤ 5 ∧ ∃ A n c, v = .slice A n c ∧ Hid (Wd.Sl w0 .u8 A n c ((head x).drop (hdk x k).length)) ∧ Hid (Hb w wr p OA on oc CA cn cc PA pn pc x w1.heap.size k)) (fun _ i _ => 5 - (intOf i).toNat)
  case atStart => exact ⟨0, rfl, Nat.zero_le _, A1, n1, c1, rfl, Lib.hid (by simpa [hdk] using HS1.out), HA⟩
  case round =>
    obtain ⟨k, rfl, hk, A, n, c, rfl, hS, hI⟩ := hrel
    by_cases hlt : k < 5
    · have hkI : (k : Int) < 5 := by omega
      obtain ⟨g1, g2, g3⟩ := hI.out.ptr hlt
      have hnx := Lib.hid (hI.out.next hlt)
      obtain ⟨ad, had⟩ : ∃ ad, ad = adr p w1.heap.size k := ⟨_, rfl⟩
      have hz := Hin.out k hlt
      have hbw : Below w0.heap.size w0 wr := Hbw.out.2.trans (hI.out.m.below (fun g e => by rw [e]; exact Hbw.out.1) Hbw.out.2.size)
      have hSl := hS.out.below hbw
      have hd := head_drop x k hlt
      rw [hd] at hSl
      have Cg := getLen_any A n c _ wr hSl (by rw [← hd]; exact fun z hz => Hby.out z (List.mem_of_mem_drop hz))
      obtain ⟨z, hz'⟩ : ∃ z, z = (hns x).getD k 0 := ⟨_, rfl⟩
      rw [← hz'] at Cg hz hnx hSl
      rw [Lw.getL_vd z _ hz.1 hz.2] at Cg
      rw [← had] at g1 g2 g3 hnx
      have hlen := hSl.len
      rw [List.length_append] at hlen
      have hS' := hS.out
      rw [hd, ← hz'] at hS'
      obtain ⟨L, hL⟩ : ∃ L, L = (Nm.vd z).length := ⟨_, rfl⟩
      have hcut := hS'.cut L (by omega)
      rw [hL, List.drop_left, ← hL] at hcut
      rw [← hL] at Cg hlen
      have hcap := hSl.cap
      have hmax := hSl.max
      unfold maxLen at hmax
      have hL1 : 1 ≤ L := by rw [hL]; exact (Nm.vd_len z).1
      obtain ⟨b, o, hA, -, -⟩ := hSl.rd 0 (by rw [List.length_append]; omega)
      subst hA
      have Cg := Lib.hid Cg
      have hLn : L ≤ n := by omega
      have j1 : (0 : Int) ≤ (L : Int) := by omega
      have j2 : (L : Int) ≤ (n : Int) := by omega
      have j3 : (L : Int) ≤ (c : Int) := by omega
      have Hk := Lib.hid (show k + 1 ≤ 5 by omega)
      clear hd hSl hS' hlen hL hS hz hz' hbw had hI hk hL1
      by_cases hq : c = L
      · subst hq
        obtain rfl : n = c := by omega
        rw [if_pos rfl, Nat.sub_self] at hcut
        have Hc := Lib.hid hcut
        clear hcut
        go_wp2_with fail
        refine Cg.out.mono ?_
        rintro e w3 ⟨rfl, rfl⟩
        unfold three
        clear Cg
        go_wp2_with fail
        go_region
        all_goals
          go_wp2_with fail
          go_roundw
          case rel => exact ⟨k + 1, by go_num, Hk.out, _, _, _, rfl, Hc, Lib.hid hnx.out.drew⟩
          case measure => simp [intOf]; omega
      · rw [if_neg hq, Option.map_some, Addr.add_lit] at hcut
        have Hc := Lib.hid hcut
        have j4 : (L : Int) < (c : Int) := by omega
        have j5 : L < c := by omega
        clear hcut
        go_wp2_with fail
        refine Cg.out.mono ?_
        rintro e w3 ⟨rfl, rfl⟩
        unfold three
        clear Cg
        go_wp2_with fail
        go_region
        all_goals
          go_wp2_with fail
          go_roundw
          case rel => exact ⟨k + 1, by go_num, Hk.out, _, _, _, rfl, Hc, Lib.hid hnx.out.drew⟩
          case measure => simp [intOf]; omega
    · have hkI : ¬ (k : Int) < 5 := by omega
      obtain rfl : k = 5 := by omega
      have hn0 : n = 0 := by
        have := hS.out.len
        rw [hdk_all, List.drop_length] at this
        exact this
      subst hn0
      have t6 : wr.cell? ⟨w1.heap.size, 0, none⟩ = some (.int .i64 (N : Int)) := by rw [HN.out]; exact hI.out.c.cell 0
      have q0 : ((N : Int) == (N : Int)) = true := by simp
      have HR := Lib.hid (show Lb w0 wr p x.part x.id x.st x.en OA on oc CA cn cc r ∧ Wd.Mv (fun g => g = p) w wr from ⟨⟨⟨PA, pn, pc, HS0.out, hI.out.b⟩, Hbw.out.1, Hbw.out.2.trans (hI.out.m.below (fun g e => by rw [e]; exact Hbw.out.1) Hbw.out.2.size)⟩, hI.out.m⟩)
      clear hI hS
      go_wp2_with fail
      go_ret
      exact ⟨rfl, HR.out⟩
end
end Fi
namespace Rg
section
variable {P : Program} {l n : Nat} {ops : Array Oper} {md : Region.Mode} {Q : Exit → Act → World → Prop}
theorem upon_in {o : Oper} {a : Act} {K : Act → World → Prop} {r : Result Next} (h : o.upon P a K Q r) : o.uponIn (Fence.wide.inRound l) n P a K Q r := by
  cases r with
  | ok x w' =>
    cases x <;> simp only [Oper.upon] at h <;> simp only [Oper.uponIn]
    all_goals first
      | exact h
      | exact ⟨(fun hd => by cases hd), CallsIn.inRound l (callsIn_wide.2 h)⟩
      | exact ⟨(fun hd => by cases hd), fun c cs _ => let ⟨v, w2, r, s⟩ := h c cs; ⟨v, w2, r, stepsIn_wide.2 s⟩⟩
  | halt x w' => cases x <;> simp only [Oper.upon] at h <;> simp only [Oper.uponIn] <;> exact h
theorem wp_in {o : Oper} {a : Act} {w : World} {K : Act → World → Prop} (hd : ∀ c, o.op ≠ .defer c) (h : o.wp P a w K Q) : o.wpIn (Fence.wide.inRound l) n P a w K Q :=
  ⟨fun _ _ => trivial, by rw [Oper.semAt_plain _ _ _ hd]; exact upon_in h⟩
theorem any_in (hd : ∀ (i : Nat) (o : Oper), ops[i]? = some o → ∀ c, o.op ≠ .defer c) (hQ : ¬ LetsOut Q) : ∀ (fuel : Nat) (listed : Array Bool) (a : Act) (w : World),
    wpAny P md ops Q fuel listed a w → wpAnyIn (Fence.wide.inRound l) n P md ops Q fuel listed a w := by
  intro fuel
  induction fuel with
  | zero => intro listed a w h; exact h
  | succ fuel ih =>
    intro listed a w h
    refine ⟨h.1, fun i hi => ?_⟩
    have h2 := wpOp_mono (fun a' w' h' => ih _ a' w' h') (h.2 i hi)
    unfold wpOp at h2
    unfold wpOpIn
    split
    · rename_i ho; simp only [ho] at h2; exact h2
    · rename_i o ho
      simp only [ho] at h2
      split
      · rename_i hw
        simp only [hw, if_true] at h2
        rcases h2 with h2 | ⟨_, h2⟩
        · exact wp_in (hd i o ho) h2
        · exact absurd h2 hQ
      · rename_i hw
        simp only [hw] at h2
        exact ⟨fun _ _ => trivial, h2⟩
def noDefer (ops : Array Oper) : Bool := ops.toList.all fun o => match o.op with | .defer _ => false | _ => true
theorem noDefer_spec (h : noDefer ops = true) : ∀ (i : Nat) (o : Oper), ops[i]? = some o → ∀ c, o.op ≠ .defer c := fun i o ho c e => by
  have hm : o ∈ ops.toList := Array.mem_toList_iff.2 (Array.mem_of_getElem? ho)
  have := List.all_eq_true.1 h o hm
  rw [e] at this
  cases this
end
end Rg
namespace Wd
theorem wr64 (x : Int) : Rn.wr x = wrap64 x := by unfold Rn.wr wrap64; rfl
theorem fit_get {l : List Int} (h : Rn.Fits l) (j : Nat) (hj : j < l.length) : -9223372036854775808 ≤ l.getD j 0 ∧ l.getD j 0 ≤ 9223372036854775807 :=
  h _ (by simp [List.getD, hj])
def SlB (B : Nat) (w : World) (k : IntKind) (A : Option Addr) (n c : Nat) (ys : List Int) : Prop := Sl w k A n c ys ∧ ∀ a, A = some a → B ≤ a.block
theorem SlB.up {B B' : Nat} {w : World} {k : IntKind} {A : Option Addr} {n c : Nat} {ys : List Int} (h : SlB B w k A n c ys) (hB : B' ≤ B) : SlB B' w k A n c ys := ⟨h.1, fun a e => Nat.le_trans hB (h.2 a e)⟩
theorem SlB.below {B : Nat} {w w' : World} {k : IntKind} {A : Option Addr} {n c : Nat} {ys : List Int} (h : SlB B w k A n c ys) (hb : Below w.heap.size w w') : SlB B w' k A n c ys := ⟨h.1.below hb, h.2⟩
theorem own_ge {w : World} {B : Nat} {e : TypeId} {s m : Nat} {A : Option Addr} {n c : Nat} {xs : List Value} (h : w.ownsRow B e s (.slice A n c) m xs) : ∀ a, A = some a → B ≤ a.block := by
  intro a ha
  rcases h.2 with ⟨q, _⟩ | ⟨g, cap, cur, q, hb, _⟩
  · cases q; cases ha
  · cases q; cases ha; exact hb
def Out3N (w : World) (ys : List Int) (n er : Int) (e : Ending) (w' : World) : Prop :=
  ∃ A m c, e = .returned (.tuple #[.slice A m c, .int .i64 n, .int .i64 er]) ∧ SlB w.heap.size w' .i64 A m c ys ∧ Below w.heap.size w w'
end Wd
namespace Rc
open Nc
theorem info_int : (Tryz.prog.info? 3).map (fun i => (i.zero, i.size, i.bytes)) = some (some (.int .i64 0), 1, 8) := by kernel_rfl
def FillI (w : World) (d : List Int) (k : Nat) (wr : World) : Prop := Wd.Row wr w.heap.size .i64 3 (Wd.fill d k) ∧ Below w.heap.size w wr
theorem FillI.step {w wr : World} {d : List Int} {k : Nat} (h : FillI w d k wr) (hk : k < d.length) : FillI w d (k + 1) (wr.setCell ⟨w.heap.size, k, none⟩ (.int .i64 (d.getD k 0))) :=
  ⟨by rw [← Wd.fill_set d k hk]; exact h.1.set k _, h.2.setCell (Nat.le_refl _) _⟩
set_option maxHeartbeats 400000 in
theorem deltas_any (A : Option Addr) (m c : Nat) (l : List Int) (w : World) (hS : Wd.Sl w .i64 A m c l) (hm : m ≤ 1000000) :
    Calls Tryz.prog 197 #[.slice A m c] w (Wd.Out w .i64 (Rn.deltas l)) := by
  obtain ⟨i0, hi, hz0, hz1, hz2⟩ := info_parts info_int
  have hl := hS.len
  have hdl := Rn.deltas_len l
  have Hd := Lib.hid (Rn.deltas_get l)
  generalize Rn.deltas l = d at *
  have Hdl := Lib.hid hdl
  have Hl := Lib.hid hl
  have hcap := hS.cap
  clear hl hdl
  go_enter Tryz.func197, Tryz.ntmps197
  go_wp2_with (at_make; refine wpList_make_full _ rfl (.tmp 8) (.tmp 8) 25 rfl w.heap.size 3 i0 _ 1 Tryz.underlying25 hi hz0 hz1 .i64 .i64 m m m rfl rfl rfl rfl (by rw [hz2]; omega) (by unfold maxLen; omega) (Nat.le_refl _) ?_; intro w3 hown hgrow)
  have hb3 := (Below.refl w.heap.size w).grown hgrow (Nat.le_refl _) (by simp)
  rw [Wd.made_zero] at hown
  have hR := (Wd.Row.of_own hown).1
  have hI3 : FillI w d 0 w3 := ⟨by rw [Wd.fill_zero, Hdl.out, ← Hl.out]; exact hR, hb3⟩
  clear hown hgrow hb3 hR
  go_loopw [4, 12] (fun b i wr => ∃ k : Nat, i = .int .i64 k ∧ k ≤ m ∧ b = .int .i64 (Rn.prev l k) ∧ FillI w d k wr) (fun _ i _ => m - (intOf i).toNat)
  case atStart => exact ⟨0, rfl, Nat.zero_le _, rfl, hI3⟩
  case round =>
    clear hI3
    obtain ⟨k, rfl, hk, rfl, hI⟩ := hrel
    by_cases hlt : k < m
    · have hkd : k < d.length := by rw [Hdl.out, ← Hl.out]; exact hlt
      obtain ⟨b, o, rfl, hbB, hcell0⟩ := hS.rd k (by rw [← Hl.out]; exact hlt)
      have hcell := (hI.2.cell (p := ⟨b, o + k, none⟩) hbB).trans hcell0
      have hst := hI.step hkd
      rw [Hd.out k (by rw [← Hl.out]; exact hlt)] at hst
      have cg := hI.1.cell k (by rw [Wd.fill_len]; exact hkd)
      have cf := hI.1.free k
      obtain ⟨p, hp⟩ : ∃ p, p = Rn.prev l k := ⟨_, rfl⟩
      obtain ⟨x, hx⟩ : ∃ x, x = l.getD k 0 := ⟨_, rfl⟩
      have hpx : Rn.prev l (k + 1) = x := by rw [hx]; unfold Rn.prev; rw [if_neg (by omega)]; rfl
      rw [← hp, ← hx, Wd.wr64] at hst
      rw [← hx] at hcell
      rw [← hp]
      have Hst := Lib.hid hst
      have Hp := Lib.hid hpx
      clear hcell0 hst hp hx hpx
      go_wp2_with fail
      go_roundw
      case rel => exact ⟨k + 1, by go_num, by omega, by rw [Hp.out], Hst.out⟩
      case measure => simp [intOf]; omega
    · go_wp2_with fail
      go_ret
      obtain rfl : k = m := by omega
      have e : k = d.length := by rw [Hdl.out]; exact Hl.out
      have h1 := hI.1
      rw [e, Wd.fill_all] at h1
      exact ⟨_, _, _, rfl, h1.sl k e (by unfold maxLen; omega), hI.2⟩
set_option maxHeartbeats 400000 in
theorem sums_new (A : Option Addr) (m c : Nat) (l : List Int) (w : World) (hS : Wd.Sl w .i64 A m c l) (hm : m ≤ 1000000) :
    Calls Tryz.prog 198 #[.slice A m c] w fun e w' => ∃ A n c, e = .returned (.slice A n c) ∧ Wd.SlB w.heap.size w' .i64 A n c (Rn.sums l) ∧ Below w.heap.size w w' := by
  obtain ⟨i0, hi, hz0, hz1, hz2⟩ := info_parts info_int
  have hl := hS.len
  have hdl := Rn.sums_len l
  have Hd := Lib.hid (Rn.sums_get l)
  generalize Rn.sums l = d at *
  have Hdl := Lib.hid hdl
  have Hl := Lib.hid hl
  have hcap := hS.cap
  clear hl hdl
  go_enter Tryz.func198, Tryz.ntmps198
  go_wp2_with (at_make; refine wpList_make_full _ rfl (.tmp 8) (.tmp 8) 25 rfl w.heap.size 3 i0 _ 1 Tryz.underlying25 hi hz0 hz1 .i64 .i64 m m m rfl rfl rfl rfl (by rw [hz2]; omega) (by unfold maxLen; omega) (Nat.le_refl _) ?_; intro w3 hown hgrow)
  have hb3 := (Below.refl w.heap.size w).grown hgrow (Nat.le_refl _) (by simp)
  rw [Wd.made_zero] at hown
  have hR := (Wd.Row.of_own hown).1
  have hI3 : FillI w d 0 w3 := ⟨by rw [Wd.fill_zero, Hdl.out, ← Hl.out]; exact hR, hb3⟩
  clear hown hgrow hb3 hR
  go_loopw [4, 12] (fun b i wr => ∃ k : Nat, i = .int .i64 k ∧ k ≤ m ∧ b = .int .i64 (Rn.prev d k) ∧ FillI w d k wr) (fun _ i _ => m - (intOf i).toNat)
  case atStart => exact ⟨0, rfl, Nat.zero_le _, rfl, hI3⟩
  case round =>
    clear hI3
    obtain ⟨k, rfl, hk, rfl, hI⟩ := hrel
    by_cases hlt : k < m
    · have hkd : k < d.length := by rw [Hdl.out, ← Hl.out]; exact hlt
      obtain ⟨b, o, rfl, hbB, hcell0⟩ := hS.rd k (by rw [← Hl.out]; exact hlt)
      have hcell := (hI.2.cell (p := ⟨b, o + k, none⟩) hbB).trans hcell0
      have hst := hI.step hkd
      have hd := Hd.out k (by rw [← Hl.out]; exact hlt)
      have cg := hI.1.cell k (by rw [Wd.fill_len]; exact hkd)
      have cf := hI.1.free k
      obtain ⟨p, hp⟩ : ∃ p, p = Rn.prev d k := ⟨_, rfl⟩
      obtain ⟨x, hx⟩ : ∃ x, x = l.getD k 0 := ⟨_, rfl⟩
      have hpx : Rn.prev d (k + 1) = d.getD k 0 := by unfold Rn.prev; rw [if_neg (by omega)]; rfl
      rw [hd] at hpx hst
      rw [← hp, ← hx, Wd.wr64] at hst hpx
      rw [← hx] at hcell
      rw [← hp]
      have Hst := Lib.hid hst
      have Hp := Lib.hid hpx
      clear hcell0 hst hp hx hpx hd
      go_wp2_with fail
      go_roundw
      case rel => exact ⟨k + 1, by go_num, by omega, by rw [Hp.out], Hst.out⟩
      case measure => simp [intOf]; omega
    · go_wp2_with fail
      go_ret
      obtain rfl : k = m := by omega
      have e : k = d.length := by rw [Hdl.out]; exact Hl.out
      have h1 := hI.1
      rw [e, Wd.fill_all] at h1
      exact ⟨_, _, _, rfl, ⟨h1.sl k e (by unfold maxLen; omega), fun a q => by cases q; exact Nat.le_refl _⟩, hI.2⟩
set_option maxHeartbeats 400000 in
theorem putPlain_any (A : Option Addr) (m c : Nat) (l : List Int) (w : World) (hS : Wd.Sl w .i64 A m c l) (hm : m ≤ 100000) (hF : Rn.Fits l) :
    Calls Tryz.prog 143 #[.slice A m c] w (Wd.Out w .u8 (Rn.plain l)) := by
  obtain ⟨i0, hi, hz0, hz1, hz2⟩ := info_parts info_u8
  have hl := hS.len
  have Hl := Lib.hid hl
  have hcap := hS.cap
  have HF := Lib.hid hF
  clear hl hF
  go_enter Tryz.func143, Tryz.ntmps143
  go_wp2_with fail
  go_loopw [3, 8] (fun b i wr => ∃ k : Nat, i = .int .i64 k ∧ k ≤ m ∧ wr.ownsRow w.heap.size 5 1 b (Rn.plain (l.take k)).length ((Rn.plain (l.take k)).map (Value.int .u8)) ∧ Below w.heap.size w wr) (fun _ i _ => m - (intOf i).toNat)
  case atStart => exact ⟨0, rfl, Nat.zero_le _, World.ownsRow_nil _ _ _ _, Below.refl _ _⟩
  case round =>
    obtain ⟨k, rfl, hk, hown, hB⟩ := hrel
    by_cases hlt : k < m
    · have hkl : k < l.length := by rw [← Hl.out]; exact hlt
      obtain ⟨b, o, rfl, hbB, hcell0⟩ := hS.rd k hkl
      have hcell := (hB.cell (p := ⟨b, o + k, none⟩) hbB).trans hcell0
      have hx := Wd.fit_get HF.out k hkl
      have hpl := (Rn.plain_len (l.take k)).2
      have htk : (l.take k).length ≤ k := List.length_take_le _ _
      have hpl2 : (Rn.plain (l.take k)).length ≤ 10 * k := by omega
      have hnx := Rn.plain_next l k hkl
      obtain ⟨x, hx'⟩ : ∃ x, x = l.getD k 0 := ⟨_, rfl⟩
      rw [← hx'] at hcell hx hnx
      obtain ⟨hx1, hx2⟩ := hx
      obtain ⟨bs, hbs⟩ : ∃ bs, bs = Rn.plain (l.take k) := ⟨_, rfl⟩
      rw [← hbs] at hown hpl2 hnx
      have hvl := (Nm.vd_len (Nm.zz x)).2
      have Hn := Lib.hid hnx
      have hsz := hB.size
      obtain ⟨wo, rfl⟩ : ∃ wo : World, wo = wr := ⟨_, rfl⟩
      clear hcell0 hx' hnx hbs hpl htk
      go_wp2_with fail
      refine (put_any none 0 0 [] x wo (Wd.Sl.none_ _ _) (by omega) hx1 hx2).mono ?_
      rintro e w1 ⟨A1, n1, c1, rfl, hS1, hB1⟩
      have hown1 := Wd.own_below hown hB1
      rw [List.nil_append] at hS1
      obtain ⟨ds, hds⟩ : ∃ ds, ds = Nm.vd (Nm.zz x) := ⟨_, rfl⟩
      rw [← hds] at hS1 hvl Hn
      have Hn1 := Lib.hid hS1.len
      have hz1' : w.heap.size ≤ w1.heap.size := Nat.le_trans hsz hB1.size
      clear hds hown
      go_wp2_with (at_builtin; refine Wd.wpList_app _ rfl (.tmp 12) (.tmp 14) 32 rfl w.heap.size 5 i0 _ .u8 1 Tryz.underlying32 hi hz0 hz1 hz2 rfl _ bs rfl hown1 w1.heap.size A1 n1 c1 ds rfl Hn1.out hS1.nil hS1.rd (by omega) (by unfold maxLen; omega) hz1' ?_; intro v' w2 hown2 hg2)
      have hB2 : Below w.heap.size w w2 := (hB.trans (hB1.mono hsz)).grown hg2 hz1' (fun g hg => (hown1.lt g hg).1)
      go_roundw
      case rel => exact ⟨k + 1, by go_num, by omega, by rw [Hn.out]; exact hown2, hB2⟩
      case measure => simp [intOf]; omega
    · go_wp2_with fail
      go_ret
      have e : l.take k = l := List.take_of_length_le (by have := Hl.out; omega)
      rw [e] at hown
      exact Wd.Out.of_own hown hB
theorem putDeltas_any (A : Option Addr) (m c : Nat) (l : List Int) (w : World) (hS : Wd.Sl w .i64 A m c l) (hm : m ≤ 100000) :
    Calls Tryz.prog 147 #[.slice A m c] w (Wd.Out w .u8 (Rn.plain (Rn.deltas l))) := by
  have hF := Rn.deltas_fits l
  have hdl := Rn.deltas_len l
  have hl := hS.len
  have C1 := Lib.hid (deltas_any A m c l w hS (by omega))
  generalize Rn.deltas l = d at *
  have hd : d.length ≤ 100000 := by omega
  clear hdl hl
  go_enter Tryz.func147, Tryz.ntmps147
  go_wp2_with fail
  refine C1.out.mono ?_
  rintro e w1 ⟨A1, n1, c1, rfl, hS1, hB1⟩
  have hn1 : n1 ≤ 100000 := by rw [hS1.len]; exact hd
  go_wp2_with fail
  refine (putPlain_any A1 n1 c1 d w1 hS1 hn1 hF).mono ?_
  rintro e w2 ⟨A2, n2, c2, rfl, hS2, hB2⟩
  go_wp2_with fail
  go_ret
  exact ⟨A2, n2, c2, rfl, hS2, hB1.trans (hB2.mono hB1.size)⟩
set_option maxHeartbeats 400000 in
theorem appendRun_any (B : Nat) (v : Value) (xs : List Int) (x n : Int) (w : World) (hown : w.ownsRow B 3 1 v xs.length (xs.map (Value.int .i64))) (hB : B ≤ w.heap.size) (hx : xs.length ≤ 100000) (h0 : 0 ≤ n) (hn : n ≤ 100000) :
    Calls Tryz.prog 196 #[v, .agg #[.int .i64 x, .int .i64 n]] w fun e w' => ∃ v', e = .returned v' ∧ w'.ownsRow B 3 1 v' (xs ++ List.replicate n.toNat x).length ((xs ++ List.replicate n.toNat x).map (Value.int .i64)) ∧ Below B w w' := by
  obtain ⟨i0, hi, hz0, hz1, hz2⟩ := info_parts info_int
  obtain ⟨N, rfl⟩ := Int.eq_ofNat_of_zero_le h0
  rw [Int.toNat_natCast]
  have hN : N ≤ 100000 := by omega
  clear h0 hn
  go_enter Tryz.func196, Tryz.ntmps196
  go_wp2_with fail
  go_loopw [0, 7] (fun b i wr => ∃ k : Nat, i = .int .i64 k ∧ k ≤ N ∧ wr.ownsRow B 3 1 b (xs ++ List.replicate k x).length ((xs ++ List.replicate k x).map (Value.int .i64)) ∧ Wd.Bx wr w.heap.size 144 #[.int .i64 x, .int .i64 N] ∧ Below B w wr) (fun _ i _ => N - (intOf i).toNat)
  case atStart => exact ⟨0, rfl, Nat.zero_le _, by simpa using hown.alloc _, Wd.Bx.new _ _ _, (Below.refl _ _).alloc hB _⟩
  case round =>
    clear hown
    obtain ⟨k, rfl, hk, hown, hX, hW⟩ := hrel
    by_cases hlt : k < N
    · have c0 := hX.cell 0
      have cx : wr.cell? ⟨w.heap.size, 0, none⟩ = some (.int .i64 x) := c0
      have hsz : B ≤ wr.heap.size := Nat.le_trans hB hW.size
      have hal := hown.alloc (.cells #[.int .i64 x] 3)
      have hXa := hX.alloc (.cells #[.int .i64 x] 3)
      have hap := hXa.apart hal (by decide)
      have hlo := hal.lt
      have hnx : xs ++ List.replicate (k + 1) x = (xs ++ List.replicate k x) ++ [x] := by rw [List.replicate_succ', List.append_assoc]
      have hyl : (xs ++ List.replicate k x).length ≤ 200000 := by simp; omega
      obtain ⟨ys, hys⟩ : ∃ ys, ys = xs ++ List.replicate k x := ⟨_, rfl⟩
      rw [← hys] at hnx hyl hal
      have Hn := Lib.hid hnx
      have Hal := Lib.hid hal
      have Hap := Lib.hid hap
      have Hlo := Lib.hid hlo
      clear hnx hys hal hown c0 hap hlo
      go_wp2_with (at_builtin; refine Wd.wpList_app _ rfl (.tmp 9) (.tmp 12) 25 rfl B 3 i0 _ .i64 8 Tryz.underlying25 hi hz0 hz1 hz2 rfl _ ys rfl Hal.out (wr.heap.size + 1) _ 1 1 [x] rfl rfl (by simp) (Wd.Rd.lit wr .i64 [x] _ _ rfl) (by simp; omega) (by simp [maxLen]; omega) (by simp; omega) ?_; intro v' w1 hown1 hg1)
      go_roundw
      case rel => exact ⟨k + 1, by go_num, by omega, by rw [Hn.out]; exact hown1, hXa.grown hg1 Hap.out, (hW.alloc hsz _).grown hg1 (by simp; omega) (fun g hg => (Hlo.out g hg).1)⟩
      case measure => simp [intOf]; omega
    · go_wp2_with fail
      go_ret
      obtain rfl : k = N := by omega
      exact ⟨_, rfl, hown, hW⟩
end Rc
end Go.Proofs.YtaoeipehpakngaaGreatDoor
