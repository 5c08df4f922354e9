/- Package file: the columns of a segment, read from the payloads. What step and newEffects of package frame do: the array of the effects of eight steps. What the checksum's functions of package frame do: sum, tail, Sum. -/
import Derived.WalkKit
import Derived.WalkSpells
import Derived.Lib.Hide
import Derived.Laws.BitsAllLaws
import Derived.Deep.WholeRow
import Derived.Deep.RegionWith
import Derived.Deep.DeepCutAuto
import Derived.Test.YtaoeipehpakngaaGreatDoorPa28
import Derived.Test.YtaoeipehpakngaaGreatDoorPa29
import Derived.Test.YtaoeipehpakngaaGreatDoorPa30
import Derived.Test.YtaoeipehpakngaaGreatDoorPa10
import Derived.Test.YtaoeipehpakngaaGreatDoorProg
import Derived.Test.YtaoeipehpakngaaGreatDoorPa01
import Derived.Test.YtaoeipehpakngaaGreatDoorPa02
import Derived.Test.YtaoeipehpakngaaGreatDoorPa06
import Derived.Test.YtaoeipehpakngaaGreatDoorPa05
import Derived.Test.YtaoeipehpakngaaGreatDoorPa08
namespace Go.Proofs.YtaoeipehpakngaaGreatDoor
set_option maxRecDepth 20000
open Go.RowKit
namespace Fi
open Se (Seg Sg Gb)
open Wd (Cr)
theorem step_runT {w w' : World} {ops : Array Oper} {o : Oper} {a : Act} {K : Act → World → Prop} {Q : Exit → Act → World → Prop} {E : Prop} (hgd : o.guard = none) {s x : Operand} {v : Value} (t : TypeId)
    (ho : o.op = .call { callee := .builtin .append, args := #[s, x], argTypes := #[t, t] })
    (hrun : (Builtin.append_ #[t, t] o.type #[a.eval s, a.eval x]).run Tryz.prog w = .ok v w') (h : K (a.put o.dst v) w') : if Region.wanted o (yielded ops a.tmps) = true then Oper.wp Tryz.prog o a w K Q else E := by
  rw [if_pos (by simp [Region.wanted, hgd])]
  unfold Oper.wp
  simp [execOp, ho, resolve, invoke, builtin, hrun, Result.andThen]
  exact h
section
variable {w0 w : World} {p : Nat} {a b c d : Int} {OA : Option Addr} {on oc : Nat} {CA : Option Addr} {cn cc : Nat}
structure Rc (w wr : World) (p : Nat) (a b c d : Int) (OA : Option Addr) (on oc : Nat) (PA : Option Addr) (pn pc : Nat) (cs : List Co.Col) (k : Nat) (KA : Option Addr) (kc : Nat) (L : List Cr) : Prop where
  len : L.length = k
  bx : Wd.Bx wr p 103 #[.int .i64 a, .int .i64 b, .int .i64 c, .int .i64 d, .slice OA on oc, .slice KA k kc, .slice PA pn pc]
  own : Wd.OwC wr w.heap.size (.slice KA k kc) L
  cr : ∀ j, j < k → Wd.Cr1 wr (L.getD j default) ∧ (L.getD j default).C = cs.getD j Co.none_
  m : Wd.Mv (fun g => g = p) w wr
  pl : p < w.heap.size
theorem list_nos (a b c d : Int) (A : Option Addr) (n c' : Nat) (B : Option Addr) (m d' : Nat) (E : Option Addr) (e f' : Nat) : ∀ v ∈ [Value.int .i64 a, .int .i64 b, .int .i64 c, .int .i64 d, .slice A n c', .slice B m d', .slice E e f'], (∀ x, v ≠ .string x) ∧ ∀ x, v ≠ .int .u8 x := by
  intro v hv
  simp only [List.mem_cons, List.not_mem_nil, or_false] at hv
  rcases hv with rfl | rfl | rfl | rfl | rfl | rfl | rfl <;> exact ⟨by simp, by simp⟩
theorem Rc.below {wr w' : World} {PA : Option Addr} {pn pc : Nat} {cs : List Co.Col} {k : Nat} {KA : Option Addr} {kc : Nat} {L : List Cr} (h : Rc w wr p a b c d OA on oc PA pn pc cs k KA kc L) (hb : Below wr.heap.size wr w') : Rc w w' p a b c d OA on oc PA pn pc cs k KA kc L :=
  ⟨h.len, h.bx.below h.bx.lt hb, h.own.below hb, fun j hj => ⟨(h.cr j hj).1.below hb, (h.cr j hj).2⟩, h.m.trans (Wd.Mv.of_below hb), h.pl⟩
theorem Rc.more {wr w1 : World} {PA : Option Addr} {pn pc : Nat} {cs : List Co.Col} {k : Nat} {KA KB : Option Addr} {kc kd : Nat} {L : List Cr} {y : Cr} (h : Rc w wr p a b c d OA on oc PA pn pc cs k KA kc L) (hy : Wd.Cr1 wr y) (hC : y.C = cs.getD k Co.none_) (g : wr.grownBy w1 (Value.slice KA k kc).ownBlock) (h6 : Wd.OwC w1 w.heap.size (.slice KB (L.length + 1) kd) (L ++ [y])) :
    Rc w (w1.setCell ⟨p, 5, none⟩ (.slice KB (k + 1) kd)) p a b c d OA on oc PA pn pc cs (k + 1) KB kd (L ++ [y]) := by
  have hne : some p ≠ (Value.slice KA k kc).ownBlock := fun e => by have := (h.own.block e.symm).1; have := h.pl; omega
  have hb := h.bx.grown g hne
  have m1 := (Wd.Mv.refl (fun g => g = p) w1).set (G := fun g => g = p) (a := ⟨p, 5, none⟩) rfl (.slice KB (k + 1) kd)
  have hcr : ∀ c : Cr, Wd.Cr1 wr c → Wd.Cr1 (w1.setCell ⟨p, 5, none⟩ (.slice KB (k + 1) kd)) c := fun c hc => (hc.grown h.own g).keep m1 fun g e => by
    subst e
    exact ⟨_, _, hb, fun v hv => (list_nos _ _ _ _ _ _ _ _ _ _ _ _ _ v hv).1, fun v hv => (list_nos _ _ _ _ _ _ _ _ _ _ _ _ _ v hv).2⟩
  have h1 := h.len
  rw [h1] at h6
  refine ⟨by simp [h1], hb.set 5 _, h6.keep m1 fun g e q => by have := (h6.block e).1; have := h.pl; omega, fun j hj => ?_, ?_, h.pl⟩
  · by_cases z : j < k
    · rw [show (L ++ [y]).getD j default = L.getD j default by simp only [List.getD]; rw [List.getElem?_append_left (by omega)]]
      exact ⟨hcr _ (h.cr j z).1, (h.cr j z).2⟩
    · obtain rfl : j = k := by omega
      rw [show (L ++ [y]).getD j default = y by rw [← h1]; simp [List.getD]]
      exact ⟨hcr _ hy, hC⟩
  · refine (h.m.trans (Wd.Mv.of_grown g fun g e => .inr ?_)).then m1
    have := (h.own.block e).1
    obtain ⟨M, hM⟩ := (h.own.block e).2
    exact ⟨this, hM.lt⟩
set_option maxHeartbeats 8000000 in
theorem readColumns_yes {cs : List Co.Col} {l : List Int} (h : Lb w0 w p a b c d OA on oc none 0 0 (cs.map Co.puts)) (hv : ∀ C ∈ cs, Co.Valid C ∧ C.dict.length ≤ 200 ∧ ∀ v ∈ C.dict, Wd.V1 v) (hb : ∀ C ∈ cs, Nm.Byt (Co.puts C) ∧ (Co.puts C).length ≤ 65536) (hn : cs.length ≤ 100000) (hO : Wd.Sl w .i64 OA on oc l) :
    Calls Tryz.prog 67 #[.pointer (some ⟨p, 0, none⟩), .int .i64 (cs.length : Int)] w fun e w' => e = .returned (.bool true) ∧ ∃ DA dn dc ys, Lb w0 w' p a b c d OA on oc DA dn dc (cs.map Co.puts) ∧ Wd.OwC w' w.heap.size (.slice DA dn dc) ys ∧ (∀ j, j < ys.length → Wd.Cr1 w' (ys.getD j default)) ∧ Wd.cols ys = cs ∧ Wd.Sl w' .i64 OA on oc l := by
  obtain ⟨N, hN⟩ : ∃ N, N = cs.length := ⟨_, rfl⟩
  rw [← hN]
  obtain ⟨⟨PA, pn, pc, hs, hb0⟩, hp, hbel⟩ := h
  obtain rfl : pn = N := by rw [hs.len, List.length_map, hN]
  have R0 := Lib.hid (show Rc w w p a b c d OA on oc PA pn pc cs 0 none 0 [] from ⟨rfl, hb0, Wd.OwC.nil _ _, fun j hj => by omega, Wd.Mv.refl _ _, hb0.lt⟩)
  have HB0 := Lib.hid hb0
  have HO := Lib.hid hO
  have Hbel := Lib.hid (And.intro hp hbel)
  have HS := Lib.hid hs
  have HN := Lib.hid hN
  have Hv := Lib.hid (And.intro hv hb)
  have d6 : w.cell? ⟨p, 6, none⟩ = some (.slice PA pn pc) := hb0.cell 6
  have q0 : ((pn : Int) != (pn : Int)) = false := by simp
  have hpcap := hs.cap
  have hpmax := hs.max
  unfold maxLen at hpmax
  clear hN hs hb0 hp hbel hO hv hb
  go_enter Tryz.func67, Tryz.ntmps67
  go_wp2_with fail
  clear q0 d6
  go_loopw [22] (fun i wr => ∃ k : Nat, i = .int .i64 k ∧ k ≤ pn ∧ ∃ KA kc L, Hid (Rc w wr p a b c d OA on oc PA pn pc cs k KA kc L)) (fun i _ => pn - (intOf i).toNat)
  case atStart => exact ⟨0, rfl, Nat.zero_le _, none, 0, [], R0⟩
  case round =>
    obtain ⟨k, rfl, hk, KA, kc, L, hI⟩ := hrel
    have hbw : Below w0.heap.size w0 wr := Hbel.out.2.trans (hI.out.m.below (fun g e => by rw [e]; exact Hbel.out.1) Hbel.out.2.size)
    by_cases hlt : k < pn
    · have hkI : (k : Int) < (pn : Int) := by omega
      have hkl : k < cs.length := by rw [← HN.out]; exact hlt
      obtain ⟨b1, o1, A1, n1, c1, hA, hlt1, cc1, hS1⟩ := (HS.out.below hbw).at_ k (by rw [List.length_map]; exact hkl)
      subst hA
      have hmem : cs.getD k Co.none_ ∈ cs := by
        rw [List.getD_eq_getElem?_getD, List.getElem?_eq_getElem hkl]
        exact List.getElem_mem _
      have he : (cs.map Co.puts).getD k [] = Co.puts (cs.getD k Co.none_) := by simp [List.getD, hkl]
      rw [he] at hS1
      obtain ⟨C, hC⟩ : ∃ C, C = cs.getD k Co.none_ := ⟨_, rfl⟩
      rw [← hC] at hS1 hmem
      have hv1 := Hv.out.1 C hmem
      have hv2 := Hv.out.2 C hmem
      have Cg := Cx.cget_ok A1 n1 c1 C [] wr (by rw [List.append_nil]; exact hS1) (by rw [List.append_nil]; exact hv2.1) (by rw [hS1.len]; omega) hv1.1 (by omega) hv1.2.2
      rw [← hS1.len] at Cg
      have Cg := Lib.hid Cg
      have HC := Lib.hid hC
      clear hC hmem he hS1 hv1 hv2 hkl hbw
      go_wp2_with fail
      refine Cg.out.mono ?_
      rintro e w5 ⟨A5, n5, c5, B5, m5, d5, rfl, hC5, hB5⟩
      clear Cg
      have al := (Below.refl w5.heap.size w5).alloc (Nat.le_refl _) (.cells #[.int .i64 C.n, .slice A5 n5 c5, .slice B5 m5 d5] 57)
      have bx := Cx.Cb.new w5 C.n A5 n5 c5 B5 m5 d5
      obtain ⟨W, hW⟩ : ∃ W, W = w5.alloc (.cells #[.int .i64 C.n, .slice A5 n5 c5, .slice B5 m5 d5] 57) := ⟨_, rfl⟩
      rw [← hW] at al bx
      have RW := hI.out.below (hB5.trans (al.mono hB5.size))
      have al2 : Below W.heap.size W (W.drew.alloc (.cells #[.int .i64 C.n, .slice A5 n5 c5, .slice B5 m5 d5] 57)) := ((Below.refl _ _).drew).alloc (by simp) _
      have RX := RW.below al2
      obtain ⟨y, hy⟩ : ∃ y : Cr, y = ⟨A5, n5, c5, B5, m5, d5, C⟩ := ⟨_, rfl⟩
      have hyX : Wd.Cr1 (W.drew.alloc (.cells #[.int .i64 C.n, .slice A5 n5 c5, .slice B5 m5 d5] 57)) y := by
        rw [hy]
        exact (hC5.below al).below al2
      have cX : ∀ j u, y.vals[j]? = some u → (W.drew.alloc (.cells #[.int .i64 C.n, .slice A5 n5 c5, .slice B5 m5 d5] 57)).cell? ((⟨W.heap.size, 0, none⟩ : Addr).add j) = some u := fun j u hu => by
        rw [Addr.add_lit, Nat.zero_add]
        have := (Wd.Bx.new W.drew 57 #[.int .i64 C.n, .slice A5 n5 c5, .slice B5 m5 d5]).cell j
        rw [hy] at hu
        refine this.trans (.trans ?_ hu)
        simp [Wd.Cr.vals]
      have hkL : L.length ≤ 1000000 := by rw [RX.len]; have := HN.out; omega
      obtain ⟨KB, kd, w8, hrun, ho8, hg8⟩ := Wd.run_appC _ 26 w.heap.size (.slice KA k kc) L RX.own ⟨W.heap.size, 0, none⟩ y cX hkL (by have := RX.m.size; omega)
      rw [RX.len] at hrun
      have hend := RX.more hyX (by rw [hy]; exact HC.out) hg8 ho8
      have hne : some p ≠ (Value.slice KA k kc).ownBlock := fun e => by have := (RX.own.block e.symm).1; have := RX.pl; omega
      have b8 := RX.bx.grown hg8 hne
      have c8 : w8.cell? ⟨p, 5, none⟩ = some (.slice KA k kc) := b8.cell 5
      have f8 := b8.free 5
      have u5 : W.cell? ⟨p, 5, none⟩ = some (.slice KA k kc) := RW.bx.cell 5
      have uX : (W.alloc (.cells #[.int .i64 C.n, .slice A5 n5 c5, .slice B5 m5 d5] 57)).cell? ⟨p, 5, none⟩ = some (.slice KA k kc) := RX.bx.cell 5
      have v0 := bx.c0
      have v1 := bx.c1
      have v2 := bx.c2
      have Hend := Lib.hid hend
      have HW := Lib.hid hW
      have Hk := Lib.hid (show k + 1 ≤ pn by omega)
      clear hW al RW al2 RX hyX cX ho8 hg8 hend hne b8 hC5 hB5 bx hI
      go_upto_region 9 with fail
      rw [← HW.out]
      refine wp_region_any (by kernel_rfl) ?_
      refine wpAny_of_held (S := fun _ => True) _ _ _ _ ?_
      change wpAnyH _ _ _ _ _ 13 (Array.replicate 13 false) _ W.drew
      refine Rt.take (i := 0) (d := 40) (v := (.pointer (some ⟨p, 0, none⟩))) rfl rfl (by kernel_rfl) (by kernel_rfl) (by kernel_rfl) (fun _ _ _ h => h) (Or.inl ⟨by rfl, ?_⟩) trivial ?_
      · intro w' _
        go_simp
      (try simp only [List.setIfInBounds_toArray, List.set_cons_zero, List.set_cons_succ])
      refine Rt.take (i := 1) (d := 41) (v := (.pointer (some ⟨p, 0, none⟩))) rfl rfl (by kernel_rfl) (by kernel_rfl) (by kernel_rfl) (fun _ _ _ h => h) (Or.inl ⟨by rfl, ?_⟩) trivial ?_
      · intro w' _
        go_simp
      (try simp only [List.setIfInBounds_toArray, List.set_cons_zero, List.set_cons_succ])
      refine Rt.take (i := 2) (d := 42) (v := (.pointer (some ⟨p, 0, none⟩))) rfl rfl (by kernel_rfl) (by kernel_rfl) (by kernel_rfl) (fun _ _ _ h => h) (Or.inl ⟨by rfl, ?_⟩) trivial ?_
      · intro w' _
        go_simp
      (try simp only [List.setIfInBounds_toArray, List.set_cons_zero, List.set_cons_succ])
      refine Rt.take (i := 3) (d := 43) (v := (.pointer (some ⟨p, 0, none⟩))) rfl rfl (by kernel_rfl) (by kernel_rfl) (by kernel_rfl) (fun _ _ _ h => h) (Or.inl ⟨by rfl, ?_⟩) trivial ?_
      · intro w' _
        go_simp
      (try simp only [List.setIfInBounds_toArray, List.set_cons_zero, List.set_cons_succ])
      refine Rt.take (i := 4) (d := 44) (v := (.pointer (some ⟨p, 5, none⟩))) rfl rfl (by kernel_rfl) (by kernel_rfl) (by kernel_rfl) (fun _ _ _ h => h) (Or.inl ⟨by rfl, ?_⟩) trivial ?_
      · intro w' _
        go_simp
      (try simp only [List.setIfInBounds_toArray, List.set_cons_zero, List.set_cons_succ])
      refine wpAnyH_ready (rs := [5, 6]) (by kernel_rfl) (by simp) ?_
      refine AllReadyH.cons rfl (fun K hK => ?_) (AllReadyH.cons rfl (fun K hK => ?_) AllReadyH.nil)
      · skip
        go_simp
        refine hK.out _ _ trivial (fun _ => ?_)
        clear hK K
        (try simp only [Act.put, List.setIfInBounds_toArray, List.set_cons_zero, List.set_cons_succ])
        refine wpAnyH_ready (rs := [6]) (by kernel_rfl) (by simp) ?_
        refine AllReadyH.cons rfl (fun K hK => ?_) AllReadyH.nil
        go_simp
        refine hK.out _ _ trivial (fun _ => ?_)
        clear hK K
        (try simp only [Act.put, List.setIfInBounds_toArray, List.set_cons_zero, List.set_cons_succ])
        refine wpAnyH_ready (rs := [7]) (by kernel_rfl) (by simp) ?_
        refine AllReadyH.cons rfl (fun K hK => ?_) AllReadyH.nil
        go_simp
        refine hK.out _ _ trivial (fun _ => ?_)
        clear hK K
        (try simp only [Act.put, List.setIfInBounds_toArray, List.set_cons_zero, List.set_cons_succ])
        refine wpAnyH_ready (rs := [8]) (by kernel_rfl) (by simp) ?_
        refine AllReadyH.cons rfl (fun K hK => ?_) AllReadyH.nil
        refine step_runT rfl (s := .tmp 45) (x := .tmp 47) 26 rfl hrun ?_
        refine hK.out _ _ trivial (fun _ => ?_)
        clear hK K
        (try simp only [Act.put, List.setIfInBounds_toArray])
        refine Rt.take (i := 9) (d := 49) (v := (.pointer (some ⟨p, 0, none⟩))) rfl rfl (by kernel_rfl) (by kernel_rfl) (by kernel_rfl) (fun _ _ _ h => h) (Or.inl ⟨by rfl, ?_⟩) trivial ?_
        · intro w' _
          go_simp
        (try simp only [List.setIfInBounds_toArray, List.set_cons_zero, List.set_cons_succ])
        refine Rt.take (i := 10) (d := 50) (v := (.pointer (some ⟨p, 0, none⟩))) rfl rfl (by kernel_rfl) (by kernel_rfl) (by kernel_rfl) (fun _ _ _ h => h) (Or.inl ⟨by rfl, ?_⟩) trivial ?_
        · intro w' _
          go_simp
        (try simp only [])
        refine Rt.take (i := 11) (d := 51) (v := (.pointer (some ⟨p, 5, none⟩))) rfl rfl (by kernel_rfl) (by kernel_rfl) (by kernel_rfl) (fun _ _ _ h => h) (Or.inl ⟨by rfl, ?_⟩) trivial ?_
        · intro w' _
          go_simp
        (try simp only [])
        refine wpAnyH_ready (rs := [12]) (by kernel_rfl) (by simp) ?_
        refine AllReadyH.cons rfl (fun K hK => ?_) AllReadyH.nil
        go_simp
        refine hK.out _ _ trivial (fun _ => ?_)
        clear hK K
        (try simp only [Act.put, List.setIfInBounds_toArray, List.set_cons_zero, List.set_cons_succ])
        refine wpAnyH_done (by kernel_rfl) ?_ _
        go_wp2_with fail
        go_roundw
        case rel => exact ⟨k + 1, by go_num, Hk.out, KB, kd, _, Hend⟩
        case measure => simp [intOf]; omega
      · skip
        go_simp
        refine hK.out _ _ trivial (fun _ => ?_)
        clear hK K
        (try simp only [Act.put, List.setIfInBounds_toArray, List.set_cons_zero, List.set_cons_succ])
        refine wpAnyH_ready (rs := [5, 7]) (by kernel_rfl) (by simp) ?_
        refine AllReadyH.cons rfl (fun K hK => ?_) (AllReadyH.cons rfl (fun K hK => ?_) AllReadyH.nil)
        · skip
          go_simp
          refine hK.out _ _ trivial (fun _ => ?_)
          clear hK K
          (try simp only [Act.put, List.setIfInBounds_toArray, List.set_cons_zero, List.set_cons_succ])
          refine wpAnyH_ready (rs := [7]) (by kernel_rfl) (by simp) ?_
          refine AllReadyH.cons rfl (fun K hK => ?_) AllReadyH.nil
          go_simp
          refine hK.out _ _ trivial (fun _ => ?_)
          clear hK K
          (try simp only [Act.put, List.setIfInBounds_toArray, List.set_cons_zero, List.set_cons_succ])
          refine wpAnyH_ready (rs := [8]) (by kernel_rfl) (by simp) ?_
          refine AllReadyH.cons rfl (fun K hK => ?_) AllReadyH.nil
          refine step_runT rfl (s := .tmp 45) (x := .tmp 47) 26 rfl hrun ?_
          refine hK.out _ _ trivial (fun _ => ?_)
          clear hK K
          (try simp only [Act.put, List.setIfInBounds_toArray])
          refine Rt.take (i := 9) (d := 49) (v := (.pointer (some ⟨p, 0, none⟩))) rfl rfl (by kernel_rfl) (by kernel_rfl) (by kernel_rfl) (fun _ _ _ h => h) (Or.inl ⟨by rfl, ?_⟩) trivial ?_
          · intro w' _
            go_simp
          (try simp only [List.setIfInBounds_toArray, List.set_cons_zero, List.set_cons_succ])
          refine Rt.take (i := 10) (d := 50) (v := (.pointer (some ⟨p, 0, none⟩))) rfl rfl (by kernel_rfl) (by kernel_rfl) (by kernel_rfl) (fun _ _ _ h => h) (Or.inl ⟨by rfl, ?_⟩) trivial ?_
          · intro w' _
            go_simp
          (try simp only [])
          refine Rt.take (i := 11) (d := 51) (v := (.pointer (some ⟨p, 5, none⟩))) rfl rfl (by kernel_rfl) (by kernel_rfl) (by kernel_rfl) (fun _ _ _ h => h) (Or.inl ⟨by rfl, ?_⟩) trivial ?_
          · intro w' _
            go_simp
          (try simp only [])
          refine wpAnyH_ready (rs := [12]) (by kernel_rfl) (by simp) ?_
          refine AllReadyH.cons rfl (fun K hK => ?_) AllReadyH.nil
          go_simp
          refine hK.out _ _ trivial (fun _ => ?_)
          clear hK K
          (try simp only [Act.put, List.setIfInBounds_toArray, List.set_cons_zero, List.set_cons_succ])
          refine wpAnyH_done (by kernel_rfl) ?_ _
          go_wp2_with fail
          go_roundw
          case rel => exact ⟨k + 1, by go_num, Hk.out, KB, kd, _, Hend⟩
          case measure => simp [intOf]; omega
        · skip
          go_simp
          refine hK.out _ _ trivial (fun _ => ?_)
          clear hK K
          (try simp only [Act.put, List.setIfInBounds_toArray, List.set_cons_zero, List.set_cons_succ])
          refine wpAnyH_ready (rs := [5]) (by kernel_rfl) (by simp) ?_
          refine AllReadyH.cons rfl (fun K hK => ?_) AllReadyH.nil
          go_simp
          refine hK.out _ _ trivial (fun _ => ?_)
          clear hK K
          (try simp only [Act.put, List.setIfInBounds_toArray, List.set_cons_zero, List.set_cons_succ])
          refine wpAnyH_ready (rs := [8]) (by kernel_rfl) (by simp) ?_
          refine AllReadyH.cons rfl (fun K hK => ?_) AllReadyH.nil
          refine step_runT rfl (s := .tmp 45) (x := .tmp 47) 26 rfl hrun ?_
          refine hK.out _ _ trivial (fun _ => ?_)
          clear hK K
          (try simp only [Act.put, List.setIfInBounds_toArray])
          refine Rt.take (i := 9) (d := 49) (v := (.pointer (some ⟨p, 0, none⟩))) rfl rfl (by kernel_rfl) (by kernel_rfl) (by kernel_rfl) (fun _ _ _ h => h) (Or.inl ⟨by rfl, ?_⟩) trivial ?_
          · intro w' _
            go_simp
          (try simp only [List.setIfInBounds_toArray, List.set_cons_zero, List.set_cons_succ])
          refine Rt.take (i := 10) (d := 50) (v := (.pointer (some ⟨p, 0, none⟩))) rfl rfl (by kernel_rfl) (by kernel_rfl) (by kernel_rfl) (fun _ _ _ h => h) (Or.inl ⟨by rfl, ?_⟩) trivial ?_
          · intro w' _
            go_simp
          (try simp only [])
          refine Rt.take (i := 11) (d := 51) (v := (.pointer (some ⟨p, 5, none⟩))) rfl rfl (by kernel_rfl) (by kernel_rfl) (by kernel_rfl) (fun _ _ _ h => h) (Or.inl ⟨by rfl, ?_⟩) trivial ?_
          · intro w' _
            go_simp
          (try simp only [])
          refine wpAnyH_ready (rs := [12]) (by kernel_rfl) (by simp) ?_
          refine AllReadyH.cons rfl (fun K hK => ?_) AllReadyH.nil
          go_simp
          refine hK.out _ _ trivial (fun _ => ?_)
          clear hK K
          (try simp only [Act.put, List.setIfInBounds_toArray, List.set_cons_zero, List.set_cons_succ])
          refine wpAnyH_done (by kernel_rfl) ?_ _
          go_wp2_with fail
          go_roundw
          case rel => exact ⟨k + 1, by go_num, Hk.out, KB, kd, _, Hend⟩
          case measure => simp [intOf]; omega
    · have hkI : ¬ (k : Int) < (pn : Int) := by omega
      obtain rfl : k = pn := by omega
      have hb' := hI.out.bx
      have hO' := HO.out.box hI.out.m HB0.out hb' (seven_ints (by simp) (by simp) (by simp))
      have hc : ∀ j, j < L.length → Wd.Cr1 wr (L.getD j default) := fun j hj => (hI.out.cr j (by rw [← hI.out.len]; exact hj)).1
      have how := hI.out.own
      have hcol : Wd.cols L = cs := by
        refine List.ext_getElem (by rw [Wd.cols_len, hI.out.len, HN.out]) fun j h1 h2 => ?_
        rw [Wd.cols_len] at h1
        have h := (hI.out.cr j (by rw [← hI.out.len]; exact h1)).2
        simpa [Wd.cols, List.getD, h1, h2] using h
      have HR := Lib.hid (And.intro (show Lb w0 wr p a b c d OA on oc KA k kc (cs.map Co.puts) from ⟨⟨PA, k, pc, HS.out, hb'⟩, Hbel.out.1, hbw⟩) (And.intro how (And.intro hc (And.intro hcol hO'))))
      clear hI hb' hO' hc how hcol hbw
      go_wp2_with fail
      go_ret
      exact ⟨rfl, KA, k, kc, HR.out.1, L, HR.out.2⟩
end
end Fi
end Go.Proofs.YtaoeipehpakngaaGreatDoor
namespace Go.Proofs.YtaoeipehpakngaaGreatDoor
open Go.RowKit
namespace Fc
def tab : List Int := (List.range 256).map fun i => ((Fr.stN 8 i : Nat) : Int)
theorem tab_len : tab.length = 256 := by simp [tab]
theorem tab_get (i : Nat) (h : i < 256) : tab.getD i 0 = ((Fr.stN 8 i : Nat) : Int) := by simp [tab, List.getD, h]
theorem below_setRow {B g : Nat} {w w' : World} (h : Below B w w') (hg : B ≤ g) (cs : Array Value) : Below B w (w'.setRow g cs) :=
  ⟨h.os, h.tape, h.output, by rw [size_setRow]; exact h.size, fun k hk => (setRow_other w' g k cs (by omega)).trans (h.block k hk)⟩
theorem ints_all (k : IntKind) : ∀ xs : List Int, ((xs.map (Value.int k)).toArray).all (·.oneCell') = true := fun xs => by
  rw [Array.all_eq_true_iff_forall_mem]
  intro v hv
  simp at hv
  obtain ⟨x, _, rfl⟩ := hv
  rfl
theorem step_any (r : Nat) (w : World) (h : r < 4294967296) :
    Calls Tryz.prog 95 #[.int .u32 r] w fun e w' => e = .returned (.int .u32 (Fr.st r)) ∧ w = w' := by
  have ha : bits BinOp.and IntKind.u32 (r : Int) 1 = ((r % 2 : Nat) : Int) := by
    have := u32_and_nat r 1 h (by decide)
    rw [Nat.and_one_is_mod] at this
    exact this
  rcases Nat.mod_two_eq_zero_or_one r with q | q
  · have hs : Fr.st r = r / 2 := if_neg (by omega)
    rw [q] at ha
    rw [hs]
    go_enter Tryz.func95, Tryz.ntmps95
    go_wp2
    go_ret
    exact ⟨rfl, rfl⟩
  · have hs : bits BinOp.xor IntKind.u32 ((r : Int) / 2) 3988292384 = ((Fr.st r : Nat) : Int) := by
      have := u32_xor_nat (r / 2) 3988292384 (by omega) (by decide)
      rw [show Fr.st r = r / 2 ^^^ 3988292384 from if_pos q, ← this]
      rfl
    have Hs := Lib.hid hs
    rw [q] at ha
    clear hs
    go_enter Tryz.func95, Tryz.ntmps95
    go_wp2
    go_ret
    exact ⟨congrArg (fun x => Ending.returned (.int .u32 x)) Hs.out, rfl⟩
theorem info_eff : (Tryz.prog.info? 85).map (fun i => (i.zero, i.size)) = some (some (.agg (Array.replicate 256 (.int .u32 0))), 256) := by kernel_rfl
set_option maxRecDepth 100000 in
set_option maxHeartbeats 1000000 in
theorem newEffects_any (w : World) :
    Calls Tryz.prog 49 #[] w fun e w' => e = .returned (.agg (tab.map (Value.int .u32)).toArray) ∧ Below w.heap.size w w' := by
  obtain ⟨hz, hsz⟩ := zero_of_info info_eff
  obtain ⟨zc, hzc⟩ : ∃ zc : Array Value, zc = Array.replicate 256 (Value.int .u32 0) := ⟨_, rfl⟩
  rw [← hzc] at hz
  have hz1 : zc = ((Wd.fill tab 0).map (Value.int .u32)).toArray := by rw [hzc, Wd.fill_zero, tab_len, List.map_replicate, List.toArray_replicate]
  have hzs : zc.size = 256 := by rw [hzc]; exact Array.size_replicate
  clear hzc
  have Hz1 := Lib.hid hz1
  have Hzs := Lib.hid hzs
  have Hsz := Lib.hid hsz
  clear hz1 hzs hsz
  obtain ⟨tc, htc⟩ : ∃ tc : Array Value, tc = (tab.map (Value.int .u32)).toArray := ⟨_, rfl⟩
  have hts : tc.size = 256 := by rw [htc, List.size_toArray, List.length_map, tab_len]
  have ht1 : tc.all (·.oneCell') = true := by rw [htc]; exact ints_all _ _
  rw [← htc]
  have Htc := Lib.hid htc
  have Ht := Lib.hid ht1
  have Hts := Lib.hid hts
  clear htc ht1 hts
  go_enter Tryz.func49, Tryz.ntmps49
  go_wp2_with fail
  go_loopw [4] (fun i wr => ∃ k : Nat, i = .int .i64 k ∧ k ≤ 256 ∧ Wd.Row wr (w.heap.size + 1) .u32 85 (Wd.fill tab k) ∧ Wd.Bx wr w.heap.size 85 zc ∧ Below w.heap.size w wr) (fun i _ => 256 - (intOf i).toNat)
  case atStart =>
    refine ⟨0, rfl, Nat.zero_le _, ?_, (Wd.Bx.new w _ zc).alloc _, ((Below.refl _ _).alloc (Nat.le_refl _) _).alloc (by simp) _⟩
    have := Wd.Bx.new (w.alloc (.cells zc 85)) 85 zc
    rw [World.size_alloc] at this
    unfold Wd.Bx at this
    unfold Wd.Row
    rw [this, ← Hz1.out]
  case round =>
    obtain ⟨k, rfl, hk, hR, hB, hbel⟩ := hrel
    have hsz := hbel.size
    by_cases hlt : k < 256
    · obtain ⟨wo, rfl⟩ : ∃ wo : World, wo = wr := ⟨_, rfl⟩
      have hkI : (k : Int) < 256 := by omega
      have hfl : (Wd.fill tab k).length = 256 := by rw [Wd.fill_len, tab_len]
      have cR := hR.cell k (by rw [hfl]; exact hlt)
      have fR := hR.free k
      clear hfl
      go_wp2_with fail
      go_loopw [3, 9] (fun r j wr => ∃ (i x : Nat), j = .int .i64 i ∧ r = .int .u32 x ∧ i ≤ 8 ∧ x < 4294967296 ∧ Hid (Fr.stN (8 - i) x = Fr.stN 8 k) ∧ wr = wo) (fun _ j _ => 8 - (intOf j).toNat)
      case atStart => exact ⟨0, k, rfl, rfl, Nat.zero_le _, by omega, Lib.hid rfl, rfl⟩
      case round =>
        obtain ⟨i, x, rfl, rfl, hi, hx, hst, rfl⟩ := hrel
        by_cases hi8 : i < 8
        · have hiI : (i : Int) < 8 := by omega
          go_wp2_with fail
          refine (step_any x wr hx).mono ?_
          rintro e w1 ⟨rfl, rfl⟩
          go_wp2_with fail
          go_roundw
          case rel =>
            refine ⟨i + 1, Fr.st x, by go_num, rfl, by omega, Fr.st_lt hx, Lib.hid ?_, trivial⟩
            have := hst.out
            rw [show 8 - i = (8 - (i + 1)) + 1 by omega] at this
            exact this
          case measure => simp [intOf]; omega
        · have hiI : ¬ (i : Int) < 8 := by omega
          have hxs : x = Fr.stN 8 k := by
            have := hst.out
            rw [show 8 - i = 0 by omega] at this
            exact this
          have Hx := Lib.hid hxs
          clear hxs hst
          go_wp2_with fail
          go_roundw
          case rel =>
            refine ⟨k + 1, by go_num, by omega, ?_, ?_, ?_⟩
            · have := hR.set k x
              rw [← Wd.fill_set tab k (by rw [tab_len]; exact hlt), tab_get k hlt, ← Hx.out]
              exact this
            · unfold Wd.Bx
              rw [heap_setCell_other _ _ _ _ (by simp)]
              exact hB
            · exact hbel.setCell (p := ⟨w.heap.size + 1, k, none⟩) (by simp) _
          case measure => simp [intOf]; omega
    · have hkI : ¬ (k : Int) < 256 := by omega
      have hk256 : k = 256 := by omega
      have hR2 : wr.heap[w.heap.size + 1]? = some (.cells (tab.map (Value.int .u32)).toArray 85 (0, 0)) := by
        have : Wd.Row wr (w.heap.size + 1) .u32 85 (Wd.fill tab tab.length) := by rw [tab_len, ← hk256]; exact hR
        rw [Wd.fill_all] at this
        exact this
      have hB2 : wr.heap[w.heap.size]? = some (.cells zc 85 (0, 0)) := hB
      rw [← Htc.out] at hR2
      clear hR hB hk256
      go_wp2_with fail
      refine wp_load_row 85 (.tmp 1) rfl (w.heap.size + 1) rfl 85 tc (0, 0) _ hR2 Tryz.underlying85 rfl (by rw [Hsz.out, Hts.out]) ?_
      rename_i hK
      refine hK _ _ ?_
      clear hK
      refine wpList_store_row rfl 85 (.tmp 0) (.tmp 18) rfl w.heap.size tc rfl rfl 85 zc hB2 (by rw [Hsz.out, Hts.out]) (by rw [Hzs.out, Hts.out]) Ht.out ?_
      go_wp2_with fail
      refine bodyPost_ret (v := .agg tc) (results_cell_row rfl _ _ w.heap.size 85 tc (0, 0) _ rfl (setRow_heap wr w.heap.size zc tc _ _ hB2) Tryz.underlying85 rfl (by rw [Hsz.out, Hts.out])) rfl ⟨rfl, below_setRow hbel (Nat.le_refl _) tc⟩
end Fc
namespace Fc
def Tb (w : World) (g : Nat) : Prop := Wd.Row w g .u32 85 tab
theorem byt_get {b : List Int} (h : Nm.Byt b) (k : Nat) (hk : k < b.length) : 0 ≤ b.getD k 0 ∧ b.getD k 0 ≤ 255 := h _ (by simp [List.getD, hk])
theorem take_next (l : List Int) (k : Nat) (h : k < l.length) : l.take (k + 1) = l.take k ++ [l.getD k 0] := by
  rw [List.take_succ_eq_append_getElem h]
  simp [List.getD, h]
theorem xor_byte (x : Nat) (c : Int) (h0 : 0 ≤ c) (h1 : c ≤ 255) : bits BinOp.xor IntKind.u8 ((x : Int) % 256) c = ((x % 256 ^^^ c.toNat : Nat) : Int) ∧ x % 256 ^^^ c.toNat < 256 := by
  have e : ((x : Int) % 256) = ((x % 256 : Nat) : Int) := by omega
  refine ⟨?_, Fr.xor_lt (n := 8) (by omega) (by omega)⟩
  rw [e, u8_xor _ _ (by omega) (by omega) h0 (by omega)]
  rfl
set_option maxHeartbeats 1000000 in
theorem sum_any (g : Nat) (A : Option Addr) (n c : Nat) (b : List Int) (w : World) (hT : Tb w g) (hS : Wd.Sl w .u8 A n c b) (hB : Nm.Byt b) :
    Calls Tryz.prog 98 #[.pointer (some ⟨g, 0, none⟩), .slice A n c] w fun e w' => e = .returned (.int .u32 (Fr.sum b)) ∧ w = w' := by
  obtain ⟨hl, hc, hx, hA, hr⟩ := hS
  unfold maxLen at hx
  have Hl := Lib.hid hl
  have HB := Lib.hid hB
  have HT := Lib.hid hT
  clear hl hB hT
  go_enter Tryz.func98, Tryz.ntmps98
  go_wp2
  go_loop [5, 10] (fun r i => ∃ (k x : Nat), i = .int .i64 k ∧ r = .int .u32 x ∧ k ≤ n ∧ x < 4294967296 ∧ Hid (Fr.reg 4294967295 (b.take k) = x)) (fun _ i => n - (intOf i).toNat)
  case atStart => exact ⟨0, 4294967295, rfl, rfl, Nat.zero_le _, by decide, Lib.hid rfl⟩
  case round =>
    obtain ⟨k, x, rfl, rfl, hk, hxl, hR⟩ := hrel
    by_cases hlt : k < n
    · have hlt' : k < b.length := by rw [← Hl.out]; exact hlt
      obtain ⟨B, o, rfl, _, hcell⟩ := hr k hlt'
      obtain ⟨q0, q1⟩ := byt_get HB.out k hlt'
      have hnx := take_next b k hlt'
      obtain ⟨y, hy⟩ : ∃ y, y = b.getD k 0 := ⟨_, rfl⟩
      rw [← hy] at hcell q0 q1 hnx
      obtain ⟨e1, e2⟩ := xor_byte x y q0 q1
      obtain ⟨j, hj⟩ : ∃ j, j = x % 256 ^^^ y.toNat := ⟨_, rfl⟩
      rw [← hj] at e1 e2
      have hct := HT.out.cell j (by rw [tab_len]; exact e2)
      rw [tab_get j e2] at hct
      have Hj := Lib.hid hj
      have Hn := Lib.hid hnx
      have e2' : (j : Int) < 256 := by omega
      clear hy hj hnx
      have hst := Fr.stN_lt 8 (r := j) (by omega)
      have hX : bits BinOp.xor IntKind.u32 ((x : Int) / 256) ((Fr.stN 8 j : Nat) : Int) = ((Fr.bt x y.toNat : Nat) : Int) := by
        have := u32_xor_nat (x / 256) (Fr.stN 8 j) (by omega) (by omega)
        rw [Fr.bt_tab, ← Hj.out, ← this]
        rfl
      have hbt : Fr.bt x y.toNat < 4294967296 := Fr.bt_lt (by omega) (by omega)
      have HX := Lib.hid hX
      clear hX
      go_wp2
      rw [HX.out]
      refine ⟨⟨k + 1, _, by go_num, rfl, by omega, hbt, Lib.hid ?_⟩, by simp [intOf]; omega⟩
      rw [Hn.out, Fr.reg_snoc, hR.out]
    · have hkn : k = b.length := by rw [← Hl.out]; omega
      have hX : bits BinOp.xor IntKind.u32 IntKind.u32.max (x : Int) = ((Fr.sum b : Nat) : Int) := by
        have e1 : IntKind.u32.max = ((4294967295 : Nat) : Int) := by decide
        have h := hR.out
        rw [hkn, List.take_length] at h
        rw [e1, u32_xor_nat _ _ (by decide) hxl, Nat.xor_comm, Fr.sum_xor b HB.out, h]
      have HX := Lib.hid hX
      clear hX hkn
      go_wp2
      go_ret
      exact ⟨congrArg (fun z => Ending.returned (.int .u32 z)) HX.out, rfl⟩
theorem le4_get (s k : Nat) (hk : k < 4) : (Fr.le4 s).getD k 0 = ((s / 256 ^ k % 256 : Nat) : Int) := by
  rcases (show k = 0 ∨ k = 1 ∨ k = 2 ∨ k = 3 by omega) with rfl | rfl | rfl | rfl <;> simp [Fr.le4]
set_option maxHeartbeats 1000000 in
theorem tail_any (g : Nat) (A : Option Addr) (n c : Nat) (b : List Int) (w : World) (hT : Tb w g) (hS : Wd.Sl w .u8 A n c b) (hB : Nm.Byt b) :
    Calls Tryz.prog 51 #[.pointer (some ⟨g, 0, none⟩), .slice A n c] w (Wd.Out w .u8 (Fr.le4 (Fr.sum b))) := by
  have hgl := hT.lt
  have C := Lib.hid fun (w' : World) (hb : Below w.heap.size w w') => sum_any g A n c b w' (hT.below hgl hb) (hS.below hb) hB
  have hsl := Fr.sum_lt b
  generalize Fr.sum b = s at *
  have hmk : ∀ w : World, (Instr.makeSlice 32 (.int .i64 4) (.int .i64 4)).run Tryz.prog w = .ok (.slice (some ⟨w.heap.size, 0, none⟩) 4 4) (w.alloc (.cells #[.int .u8 0, .int .u8 0, .int .u8 0, .int .u8 0] 5)) := fun _ => by kernel_rfl
  clear hT hS hB hgl
  go_enter Tryz.func51, Tryz.ntmps51
  go_upto_region 1 with fail
  go_cut [5, 6] (fun u v wx => u = .slice (some ⟨w.heap.size, 0, none⟩) 4 4 ∧ v = .int .u32 (s : Int) ∧ Wd.Row wx w.heap.size .u8 5 [0, 0, 0, 0] ∧ Below w.heap.size w wx)
  case first =>
    go_region_with (first | (go_at_call 98; refine (C.out _ (by first | exact (Below.refl _ _).drew | exact ((Below.refl _ _).alloc (Nat.le_refl _) _).drew)).mono ?_; rintro e w2 ⟨rfl, rfl⟩))
    all_goals (go_wp2_with fail; go_meet; exact ⟨rfl, rfl, heap_alloc_new w _, ((Below.refl _ _).alloc (Nat.le_refl _) _).drew⟩)
  case rest =>
    obtain ⟨rfl, rfl, hR, hb⟩ := hcut
    have hR0 := (show Wd.Row _ w.heap.size .u8 5 (Wd.fill (Fr.le4 s) 0) from hR)
    clear hR hmk C
    go_wp2_with fail
    go_loopw [6, 14] (fun r i wr => ∃ k : Nat, i = .int .i64 k ∧ k ≤ 4 ∧ r = .int .u32 ((s / 256 ^ k : Nat) : Int) ∧ Wd.Row wr w.heap.size .u8 5 (Wd.fill (Fr.le4 s) k) ∧ Below w.heap.size w wr) (fun _ i _ => 4 - (intOf i).toNat)
    case atStart => exact ⟨0, rfl, Nat.zero_le _, by simp, hR0, hb⟩
    case round =>
      clear hR0 hb
      obtain ⟨k, rfl, hk, rfl, hR, hb⟩ := hrel
      by_cases hlt : k < 4
      · have hfl : (Wd.fill (Fr.le4 s) k).length = 4 := by rw [Wd.fill_len]; rfl
        have cR := hR.cell k (by rw [hfl]; exact hlt)
        have fR := hR.free k
        have hkI : (k : Int) < 4 := by omega
        obtain ⟨y, hy⟩ : ∃ y : Nat, y = s / 256 ^ k := ⟨_, rfl⟩
        have hyl : y < 4294967296 := by
          have := Nat.div_le_self s (256 ^ k)
          omega
        have hnx : y / 256 = s / 256 ^ (k + 1) := by rw [hy, Nat.div_div_eq_div_mul, Nat.pow_succ]
        have hst := Wd.fill_set (Fr.le4 s) k hlt
        rw [le4_get s k hlt, ← hy] at hst
        rw [← hy]
        have Hn := Lib.hid hnx
        have Hs := Lib.hid hst
        clear hy hnx hst hfl
        go_wp2_with fail
        go_roundw
        case rel =>
          refine ⟨k + 1, by go_num, by omega, ?_, ?_, hb.setCell (p := ⟨w.heap.size, k, none⟩) (Nat.le_refl _) _⟩
          · rw [← Hn.out]; rfl
          · have := hR.set k ((y : Int) % 256)
            rw [← Hs.out]
            exact this
        case measure => simp [intOf]; omega
      · have hR4 : Wd.Row wr w.heap.size .u8 5 (Fr.le4 s) := by
          have : Wd.Row wr w.heap.size .u8 5 (Wd.fill (Fr.le4 s) (Fr.le4 s).length) := by
            have e : k = (Fr.le4 s).length := by show k = 4; omega
            rw [← e]; exact hR
          rw [Wd.fill_all] at this
          exact this
        clear hR
        go_wp2_with fail
        go_ret
        exact ⟨_, _, _, rfl, hR4.sl 4 rfl (by simp [maxLen]), hb⟩
end Fc
end Go.Proofs.YtaoeipehpakngaaGreatDoor
