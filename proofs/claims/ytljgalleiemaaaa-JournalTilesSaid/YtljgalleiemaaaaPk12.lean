/- Package journal: Entries. The laws of layer 14 are awake. -/
import Derived.Test.YtljgalleiemaaaaPk11
import Derived.Test.YtljgalleiemaaaaPk10
namespace Go.Proofs.Ytljgalleiemaaaa
set_option maxRecDepth 20000
open Go.RowKit
namespace Jr
open Jo (En May Wf Rg Pt endOf last app1 ents)
open Wd (Pv Pc Es Lv Bx)
/-- What is told of the first k partitions. -/
def upTo (j : Jo.Jn) (k : Nat) : List En := (List.range k).flatMap fun i => ents i (j.getD i default)
theorem upTo_next (j : Jo.Jn) (k : Nat) : upTo j (k + 1) = upTo j k ++ ents k (j.getD k default) := by simp [upTo, List.range_succ]
theorem upTo_all (j : Jo.Jn) : upTo j 4 = Jo.entries j := by simp [upTo, Jo.entries, List.range_succ]
/-- The round's invariant. -/
structure TI (w0 wr : World) (v : Value) (l : List En) : Prop where
  own : wr.ownsRow w0.heap.size 32 7 v l.length (Jo.flatE l)
  bel : Below w0.heap.size w0 wr
  wf : ∀ x ∈ l, Wf x
theorem TI.app {w0 w6 w7 : World} {v v7 : Value} {l m : List En} (hw : ∀ x ∈ l, Wf x) (hb : Below w0.heap.size w0 w6) (ho : w6.ownsRow w0.heap.size 32 7 v l.length (Jo.flatE l)) (hO : w7.ownsRow w0.heap.size 32 7 v7 (l ++ m).length (Jo.flatE (l ++ m))) (hg : w6.grownBy w7 v.ownBlock) (hm : ∀ x ∈ m, Wf x) : TI w0 w7 v7 (l ++ m) :=
  ⟨hO, hb.grown hg hb.size fun g e => (ho.lt g e).1, fun x hx => by
    rcases List.mem_append.1 hx with q | q
    · exact hw x q
    · exact hm x q⟩
/-- The Base of a partition. -/
def bs (k : Nat) (p : Pv) : En := ⟨3, k, p.g, 0, p.b, 0, 0⟩
theorem ents_no {k : Nat} {p : Pv} (h : p.g = 0) : ents k p.pt = p.l := by
  show (if p.g = 0 then [] else _) ++ p.l = p.l
  rw [if_pos h]
  rfl
theorem ents_yes {k : Nat} {p : Pv} (h : p.g ≠ 0) : ents k p.pt = [bs k p] ++ p.l := by
  show (if p.g = 0 then [] else _) ++ p.l = _
  rw [if_neg h]
  rfl
theorem ents_len (k : Nat) (p : Pv) : (ents k p.pt).length ≤ p.l.length + 1 := by
  by_cases h : p.g = 0
  · rw [ents_no h]; omega
  · rw [ents_yes h]; simp
theorem bs_wf {k : Nat} {p : Pv} (hk : k < 4) (h1 : Rg p.g) (h2 : Rg p.b) : ∀ x ∈ [bs k p], Wf x := by
  intro x hx
  rw [List.mem_singleton.1 hx]
  refine ⟨?_, ?_, h1, ?_, h2, ?_, ?_⟩ <;> simp only [Rg, bs] <;> omega
theorem upTo_len {w : World} {p0 p1 p2 p3 : Pv} {j : Jo.Jn} {m : Nat} (hj : Jv w p0 p1 p2 p3 j) (hl : Len p0 p1 p2 p3 m) : ∀ k, k ≤ 4 → (upTo j k).length ≤ k * (m + 1)
  | 0, _ => by simp [upTo]
  | k + 1, hk => by
    have ih := upTo_len hj hl k (by omega)
    rw [upTo_next, List.length_append, hj.e, pt_sel (by omega), ← hj.e]
    have h1 := ents_len k (sel p0 p1 p2 p3 k)
    have h2 := (hj.sel k).1.len
    have h3 : (sel p0 p1 p2 p3 k).n ≤ m := by
      obtain ⟨l0, l1, l2, l3⟩ := hl
      unfold sel
      split <;> omega
    rw [Nat.succ_mul]
    omega
set_option maxHeartbeats 8000000 in
theorem entries_any (p0 p1 p2 p3 : Pv) (j : Jo.Jn) (w : World) (hj : Jv w p0 p1 p2 p3 j) (hl : Len p0 p1 p2 p3 100000) :
    Calls Try.prog 11 #[.agg #[.int .i64 p0.g, .int .i64 p0.b, .slice p0.A p0.n p0.c, .int .i64 p1.g, .int .i64 p1.b, .slice p1.A p1.n p1.c, .int .i64 p2.g, .int .i64 p2.b, .slice p2.A p2.n p2.c, .int .i64 p3.g, .int .i64 p3.b, .slice p3.A p3.n p3.c]] w fun e w' => ∃ A n c, e = .returned (.slice A n c) ∧ Es w' A n c (Jo.entries j) ∧ Below w.heap.size w w' := by
  have b1 := alS (Below.refl w.heap.size w) (.cells #[.int .i64 p0.g, .int .i64 p0.b, .slice p0.A p0.n p0.c, .int .i64 p1.g, .int .i64 p1.b, .slice p1.A p1.n p1.c, .int .i64 p2.g, .int .i64 p2.b, .slice p2.A p2.n p2.c, .int .i64 p3.g, .int .i64 p3.b, .slice p3.A p3.n p3.c] 27)
  have jb := Bx.new w 27 #[.int .i64 p0.g, .int .i64 p0.b, .slice p0.A p0.n p0.c, .int .i64 p1.g, .int .i64 p1.b, .slice p1.A p1.n p1.c, .int .i64 p2.g, .int .i64 p2.b, .slice p2.A p2.n p2.c, .int .i64 p3.g, .int .i64 p3.b, .slice p3.A p3.n p3.c]
  obtain ⟨w1, hw1⟩ : ∃ w1, w1 = w.alloc (.cells #[.int .i64 p0.g, .int .i64 p0.b, .slice p0.A p0.n p0.c, .int .i64 p1.g, .int .i64 p1.b, .slice p1.A p1.n p1.c, .int .i64 p2.g, .int .i64 p2.b, .slice p2.A p2.n p2.c, .int .i64 p3.g, .int .i64 p3.b, .slice p3.A p3.n p3.c] 27) := ⟨_, rfl⟩
  rw [← hw1] at b1 jb
  have x0 : ∀ w, (Instr.index 27 (.agg #[.int .i64 p0.g, .int .i64 p0.b, .slice p0.A p0.n p0.c, .int .i64 p1.g, .int .i64 p1.b, .slice p1.A p1.n p1.c, .int .i64 p2.g, .int .i64 p2.b, .slice p2.A p2.n p2.c, .int .i64 p3.g, .int .i64 p3.b, .slice p3.A p3.n p3.c]) (.int .i64 0)).run Try.prog w = .ok (.agg #[.int .i64 p0.g, .int .i64 p0.b, .slice p0.A p0.n p0.c]) w := fun _ => by kernel_rfl
  have x1 : ∀ w, (Instr.index 27 (.agg #[.int .i64 p0.g, .int .i64 p0.b, .slice p0.A p0.n p0.c, .int .i64 p1.g, .int .i64 p1.b, .slice p1.A p1.n p1.c, .int .i64 p2.g, .int .i64 p2.b, .slice p2.A p2.n p2.c, .int .i64 p3.g, .int .i64 p3.b, .slice p3.A p3.n p3.c]) (.int .i64 1)).run Try.prog w = .ok (.agg #[.int .i64 p1.g, .int .i64 p1.b, .slice p1.A p1.n p1.c]) w := fun _ => by kernel_rfl
  have x2 : ∀ w, (Instr.index 27 (.agg #[.int .i64 p0.g, .int .i64 p0.b, .slice p0.A p0.n p0.c, .int .i64 p1.g, .int .i64 p1.b, .slice p1.A p1.n p1.c, .int .i64 p2.g, .int .i64 p2.b, .slice p2.A p2.n p2.c, .int .i64 p3.g, .int .i64 p3.b, .slice p3.A p3.n p3.c]) (.int .i64 2)).run Try.prog w = .ok (.agg #[.int .i64 p2.g, .int .i64 p2.b, .slice p2.A p2.n p2.c]) w := fun _ => by kernel_rfl
  have x3 : ∀ w, (Instr.index 27 (.agg #[.int .i64 p0.g, .int .i64 p0.b, .slice p0.A p0.n p0.c, .int .i64 p1.g, .int .i64 p1.b, .slice p1.A p1.n p1.c, .int .i64 p2.g, .int .i64 p2.b, .slice p2.A p2.n p2.c, .int .i64 p3.g, .int .i64 p3.b, .slice p3.A p3.n p3.c]) (.int .i64 3)).run Try.prog w = .ok (.agg #[.int .i64 p3.g, .int .i64 p3.b, .slice p3.A p3.n p3.c]) w := fun _ => by kernel_rfl
  have HJ := Lib.hid hj
  have HL := Lib.hid hl
  have B1 := Lib.hid b1
  have Hw1 := Lib.hid hw1
  obtain ⟨⟨d0, d1, d2, d3, d4, d5, d6, d7, d8, d9, d10, d11⟩, -⟩ := twelve jb
  have TL := Lib.hid (upTo_len hj hl)
  clear hj hl b1 hw1 jb
  go_enter Try.func11, Try.ntmps11
  go_upto_region 1 with fail
  rw [← Hw1.out]
  go_wp2_with fail
  clear d0 d1 d2 d3 d4 d5 d6 d7 d8 d9 d10 d11
  go_loopw [3, 4, 7] (fun v _ i wr => ∃ k : Nat, i = .int .i64 k ∧ k ≤ 4 ∧ Hid (TI w wr v (upTo j k))) (fun _ _ i _ => 4 - (intOf i).toNat)
  case atStart => exact ⟨0, rfl, Nat.zero_le _, Lib.hid ⟨World.ownsRow_nil _ _ _ _, B1.out, fun x hx => by simp [upTo] at hx⟩⟩
  case round =>
    obtain ⟨k, rfl, hk, hI⟩ := hrel
    match k, hk with
    | 0, _ =>
      have al := alS hI.out.bel (.cells #[.int .i64 p0.g, .int .i64 p0.b, .slice p0.A p0.n p0.c] 25)
      have pb := Bx.new wr 25 #[.int .i64 p0.g, .int .i64 p0.b, .slice p0.A p0.n p0.c]
      have ow := hI.out.own.alloc (.cells #[.int .i64 p0.g, .int .i64 p0.b, .slice p0.A p0.n p0.c] 25)
      have nx := upTo_next j 0
      rw [show j.getD 0 default = p0.pt by rw [HJ.out.e]; rfl] at nx
      have hlen := TL.out 0 (by omega)
      have hpl := HJ.out.s0.len
      have hpn : p0.n ≤ 100000 := by obtain ⟨l0, l1, l2, l3⟩ := HL.out; omega
      have hwf := hI.out.wf
      by_cases hg : p0.g = 0
      · rw [ents_no hg] at nx
        have j1 : (p0.g == 0) = true := by simpa using hg
        have j2 : (p0.g != 0) = false := by simpa using hg
        have NX := Lib.hid nx
        have E6 := HJ.out.s0.below al
        have hz := al.size
        have hnl : (upTo j 0).length + p0.l.length ≤ 1000000 := by rw [← hpl]; omega
        have AL := Lib.hid al
        have OW := Lib.hid ow
        have HW := Lib.hid hwf
        clear al nx hg hpl hlen pb hwf
        go_wp2_with (at_builtin; refine Wd.wpList_appEs _ rfl (.tmp 23) (.tmp 25) rfl w.heap.size u3 (upTo j 0) rfl ow p0.A p0.n p0.c p0.l rfl E6 hnl hz ?_; intro v7 w7 hO7 hg7; have T7 := Lib.hid (TI.app HW.out AL.out OW.out hO7 hg7 HJ.out.s0.wf); clear hO7 hg7 ow E6 hz)
        go_roundw
        case rel => exact ⟨1, by go_num, by omega, by rw [NX.out]; exact T7⟩
        case measure => simp [intOf]
      · rw [ents_yes hg, ← List.append_assoc] at nx
        have j1 : (p0.g == 0) = false := by simpa using hg
        have j2 : (p0.g != 0) = true := by simpa using hg
        have NX := Lib.hid nx
        have al2 := alS al (.cells #[.int .i64 3, .int .i64 0, .int .i64 p0.g, .int .i64 0, .int .i64 p0.b, .int .i64 0, .int .i64 0] 32)
        have pb2 := pb.alloc (.cells #[.int .i64 3, .int .i64 0, .int .i64 p0.g, .int .i64 0, .int .i64 p0.b, .int .i64 0, .int .i64 0] 32)
        have ow2 := ow.alloc (.cells #[.int .i64 3, .int .i64 0, .int .i64 p0.g, .int .i64 0, .int .i64 p0.b, .int .i64 0, .int .i64 0] 32)
        have E5 := Es.of_bx (l := [bs 0 p0]) (Bx.new (wr.alloc (.cells #[.int .i64 p0.g, .int .i64 p0.b, .slice p0.A p0.n p0.c] 25)) 32 #[.int .i64 3, .int .i64 0, .int .i64 p0.g, .int .i64 0, .int .i64 p0.b, .int .i64 0, .int .i64 0]) rfl rfl (by simp [maxLen]) (bs_wf (by omega) HJ.out.r0.1 HJ.out.r0.2)
        have hz := al2.size
        have hnl : (upTo j 0).length + [bs 0 p0].length ≤ 1000000 := by simp; omega
        have hnl2 : (upTo j 0 ++ [bs 0 p0]).length + p0.l.length ≤ 1000000 := by rw [← hpl]; simp; omega
        have AL := Lib.hid al2
        have OW := Lib.hid ow2
        have HW := Lib.hid hwf
        have PB := Lib.hid pb2
        have ez : (wr.alloc (.cells #[.int .i64 p0.g, .int .i64 p0.b, .slice p0.A p0.n p0.c] 25)).heap.size = wr.heap.size + 1 := by simp
        rw [ez] at E5
        clear al al2 nx hg hpl hlen pb pb2 hwf ow ez
        go_wp2_with (first
          | (at_builtin; refine Wd.wpList_appEs _ rfl (.tmp 14) (.tmp 21) rfl w.heap.size u3 (upTo j 0) rfl ow2 (some ⟨wr.heap.size + 1, 0, none⟩) 1 1 [bs 0 p0] rfl E5 hnl hz ?_; intro v6 w6 hO6 hg6; have T6 := Lib.hid (TI.app HW.out AL.out OW.out hO6 hg6 (bs_wf (by omega) HJ.out.r0.1 HJ.out.r0.2)); have PB6 := PB.out.grown hg6 (PB.out.apart OW.out (by decide)); have g2 := PB6.cell 2; have hz6 := T6.out.bel.size; have ow6 := T6.out.own; have E6 := HJ.out.s0.below T6.out.bel; clear hO6 hg6 PB6 ow2 E5 hz)
          | (at_builtin; refine Wd.wpList_appEs _ rfl (.tmp 23) (.tmp 25) rfl w.heap.size v6 (upTo j 0 ++ [bs 0 p0]) rfl ow6 p0.A p0.n p0.c p0.l rfl E6 hnl2 hz6 ?_; intro v7 w7 hO7 hg7; have T7 := Lib.hid (TI.app T6.out.wf T6.out.bel T6.out.own hO7 hg7 HJ.out.s0.wf); clear hO7 hg7 ow6 E6 hz6 g2))
        go_roundw
        case rel => exact ⟨1, by go_num, by omega, by rw [NX.out]; exact T7⟩
        case measure => simp [intOf]
    | 1, _ =>
      have al := alS hI.out.bel (.cells #[.int .i64 p1.g, .int .i64 p1.b, .slice p1.A p1.n p1.c] 25)
      have pb := Bx.new wr 25 #[.int .i64 p1.g, .int .i64 p1.b, .slice p1.A p1.n p1.c]
      have ow := hI.out.own.alloc (.cells #[.int .i64 p1.g, .int .i64 p1.b, .slice p1.A p1.n p1.c] 25)
      have nx := upTo_next j 1
      rw [show j.getD 1 default = p1.pt by rw [HJ.out.e]; rfl] at nx
      have hlen := TL.out 1 (by omega)
      have hpl := HJ.out.s1.len
      have hpn : p1.n ≤ 100000 := by obtain ⟨l0, l1, l2, l3⟩ := HL.out; omega
      have hwf := hI.out.wf
      by_cases hg : p1.g = 0
      · rw [ents_no hg] at nx
        have j1 : (p1.g == 0) = true := by simpa using hg
        have j2 : (p1.g != 0) = false := by simpa using hg
        have NX := Lib.hid nx
        have E6 := HJ.out.s1.below al
        have hz := al.size
        have hnl : (upTo j 1).length + p1.l.length ≤ 1000000 := by rw [← hpl]; omega
        have AL := Lib.hid al
        have OW := Lib.hid ow
        have HW := Lib.hid hwf
        clear al nx hg hpl hlen pb hwf
        go_wp2_with (at_builtin; refine Wd.wpList_appEs _ rfl (.tmp 23) (.tmp 25) rfl w.heap.size u3 (upTo j 1) rfl ow p1.A p1.n p1.c p1.l rfl E6 hnl hz ?_; intro v7 w7 hO7 hg7; have T7 := Lib.hid (TI.app HW.out AL.out OW.out hO7 hg7 HJ.out.s1.wf); clear hO7 hg7 ow E6 hz)
        go_roundw
        case rel => exact ⟨2, by go_num, by omega, by rw [NX.out]; exact T7⟩
        case measure => simp [intOf]
      · rw [ents_yes hg, ← List.append_assoc] at nx
        have j1 : (p1.g == 0) = false := by simpa using hg
        have j2 : (p1.g != 0) = true := by simpa using hg
        have NX := Lib.hid nx
        have al2 := alS al (.cells #[.int .i64 3, .int .i64 1, .int .i64 p1.g, .int .i64 0, .int .i64 p1.b, .int .i64 0, .int .i64 0] 32)
        have pb2 := pb.alloc (.cells #[.int .i64 3, .int .i64 1, .int .i64 p1.g, .int .i64 0, .int .i64 p1.b, .int .i64 0, .int .i64 0] 32)
        have ow2 := ow.alloc (.cells #[.int .i64 3, .int .i64 1, .int .i64 p1.g, .int .i64 0, .int .i64 p1.b, .int .i64 0, .int .i64 0] 32)
        have E5 := Es.of_bx (l := [bs 1 p1]) (Bx.new (wr.alloc (.cells #[.int .i64 p1.g, .int .i64 p1.b, .slice p1.A p1.n p1.c] 25)) 32 #[.int .i64 3, .int .i64 1, .int .i64 p1.g, .int .i64 0, .int .i64 p1.b, .int .i64 0, .int .i64 0]) rfl rfl (by simp [maxLen]) (bs_wf (by omega) HJ.out.r1.1 HJ.out.r1.2)
        have hz := al2.size
        have hnl : (upTo j 1).length + [bs 1 p1].length ≤ 1000000 := by simp; omega
        have hnl2 : (upTo j 1 ++ [bs 1 p1]).length + p1.l.length ≤ 1000000 := by rw [← hpl]; simp; omega
        have AL := Lib.hid al2
        have OW := Lib.hid ow2
        have HW := Lib.hid hwf
        have PB := Lib.hid pb2
        have ez : (wr.alloc (.cells #[.int .i64 p1.g, .int .i64 p1.b, .slice p1.A p1.n p1.c] 25)).heap.size = wr.heap.size + 1 := by simp
        rw [ez] at E5
        clear al al2 nx hg hpl hlen pb pb2 hwf ow ez
        go_wp2_with (first
          | (at_builtin; refine Wd.wpList_appEs _ rfl (.tmp 14) (.tmp 21) rfl w.heap.size u3 (upTo j 1) rfl ow2 (some ⟨wr.heap.size + 1, 0, none⟩) 1 1 [bs 1 p1] rfl E5 hnl hz ?_; intro v6 w6 hO6 hg6; have T6 := Lib.hid (TI.app HW.out AL.out OW.out hO6 hg6 (bs_wf (by omega) HJ.out.r1.1 HJ.out.r1.2)); have PB6 := PB.out.grown hg6 (PB.out.apart OW.out (by decide)); have g2 := PB6.cell 2; have hz6 := T6.out.bel.size; have ow6 := T6.out.own; have E6 := HJ.out.s1.below T6.out.bel; clear hO6 hg6 PB6 ow2 E5 hz)
          | (at_builtin; refine Wd.wpList_appEs _ rfl (.tmp 23) (.tmp 25) rfl w.heap.size v6 (upTo j 1 ++ [bs 1 p1]) rfl ow6 p1.A p1.n p1.c p1.l rfl E6 hnl2 hz6 ?_; intro v7 w7 hO7 hg7; have T7 := Lib.hid (TI.app T6.out.wf T6.out.bel T6.out.own hO7 hg7 HJ.out.s1.wf); clear hO7 hg7 ow6 E6 hz6 g2))
        go_roundw
        case rel => exact ⟨2, by go_num, by omega, by rw [NX.out]; exact T7⟩
        case measure => simp [intOf]
    | 2, _ =>
      have al := alS hI.out.bel (.cells #[.int .i64 p2.g, .int .i64 p2.b, .slice p2.A p2.n p2.c] 25)
      have pb := Bx.new wr 25 #[.int .i64 p2.g, .int .i64 p2.b, .slice p2.A p2.n p2.c]
      have ow := hI.out.own.alloc (.cells #[.int .i64 p2.g, .int .i64 p2.b, .slice p2.A p2.n p2.c] 25)
      have nx := upTo_next j 2
      rw [show j.getD 2 default = p2.pt by rw [HJ.out.e]; rfl] at nx
      have hlen := TL.out 2 (by omega)
      have hpl := HJ.out.s2.len
      have hpn : p2.n ≤ 100000 := by obtain ⟨l0, l1, l2, l3⟩ := HL.out; omega
      have hwf := hI.out.wf
      by_cases hg : p2.g = 0
      · rw [ents_no hg] at nx
        have j1 : (p2.g == 0) = true := by simpa using hg
        have j2 : (p2.g != 0) = false := by simpa using hg
        have NX := Lib.hid nx
        have E6 := HJ.out.s2.below al
        have hz := al.size
        have hnl : (upTo j 2).length + p2.l.length ≤ 1000000 := by rw [← hpl]; omega
        have AL := Lib.hid al
        have OW := Lib.hid ow
        have HW := Lib.hid hwf
        clear al nx hg hpl hlen pb hwf
        go_wp2_with (at_builtin; refine Wd.wpList_appEs _ rfl (.tmp 23) (.tmp 25) rfl w.heap.size u3 (upTo j 2) rfl ow p2.A p2.n p2.c p2.l rfl E6 hnl hz ?_; intro v7 w7 hO7 hg7; have T7 := Lib.hid (TI.app HW.out AL.out OW.out hO7 hg7 HJ.out.s2.wf); clear hO7 hg7 ow E6 hz)
        go_roundw
        case rel => exact ⟨3, by go_num, by omega, by rw [NX.out]; exact T7⟩
        case measure => simp [intOf]
      · rw [ents_yes hg, ← List.append_assoc] at nx
        have j1 : (p2.g == 0) = false := by simpa using hg
        have j2 : (p2.g != 0) = true := by simpa using hg
        have NX := Lib.hid nx
        have al2 := alS al (.cells #[.int .i64 3, .int .i64 2, .int .i64 p2.g, .int .i64 0, .int .i64 p2.b, .int .i64 0, .int .i64 0] 32)
        have pb2 := pb.alloc (.cells #[.int .i64 3, .int .i64 2, .int .i64 p2.g, .int .i64 0, .int .i64 p2.b, .int .i64 0, .int .i64 0] 32)
        have ow2 := ow.alloc (.cells #[.int .i64 3, .int .i64 2, .int .i64 p2.g, .int .i64 0, .int .i64 p2.b, .int .i64 0, .int .i64 0] 32)
        have E5 := Es.of_bx (l := [bs 2 p2]) (Bx.new (wr.alloc (.cells #[.int .i64 p2.g, .int .i64 p2.b, .slice p2.A p2.n p2.c] 25)) 32 #[.int .i64 3, .int .i64 2, .int .i64 p2.g, .int .i64 0, .int .i64 p2.b, .int .i64 0, .int .i64 0]) rfl rfl (by simp [maxLen]) (bs_wf (by omega) HJ.out.r2.1 HJ.out.r2.2)
        have hz := al2.size
        have hnl : (upTo j 2).length + [bs 2 p2].length ≤ 1000000 := by simp; omega
        have hnl2 : (upTo j 2 ++ [bs 2 p2]).length + p2.l.length ≤ 1000000 := by rw [← hpl]; simp; omega
        have AL := Lib.hid al2
        have OW := Lib.hid ow2
        have HW := Lib.hid hwf
        have PB := Lib.hid pb2
        have ez : (wr.alloc (.cells #[.int .i64 p2.g, .int .i64 p2.b, .slice p2.A p2.n p2.c] 25)).heap.size = wr.heap.size + 1 := by simp
        rw [ez] at E5
        clear al al2 nx hg hpl hlen pb pb2 hwf ow ez
        go_wp2_with (first
          | (at_builtin; refine Wd.wpList_appEs _ rfl (.tmp 14) (.tmp 21) rfl w.heap.size u3 (upTo j 2) rfl ow2 (some ⟨wr.heap.size + 1, 0, none⟩) 1 1 [bs 2 p2] rfl E5 hnl hz ?_; intro v6 w6 hO6 hg6; have T6 := Lib.hid (TI.app HW.out AL.out OW.out hO6 hg6 (bs_wf (by omega) HJ.out.r2.1 HJ.out.r2.2)); have PB6 := PB.out.grown hg6 (PB.out.apart OW.out (by decide)); have g2 := PB6.cell 2; have hz6 := T6.out.bel.size; have ow6 := T6.out.own; have E6 := HJ.out.s2.below T6.out.bel; clear hO6 hg6 PB6 ow2 E5 hz)
          | (at_builtin; refine Wd.wpList_appEs _ rfl (.tmp 23) (.tmp 25) rfl w.heap.size v6 (upTo j 2 ++ [bs 2 p2]) rfl ow6 p2.A p2.n p2.c p2.l rfl E6 hnl2 hz6 ?_; intro v7 w7 hO7 hg7; have T7 := Lib.hid (TI.app T6.out.wf T6.out.bel T6.out.own hO7 hg7 HJ.out.s2.wf); clear hO7 hg7 ow6 E6 hz6 g2))
        go_roundw
        case rel => exact ⟨3, by go_num, by omega, by rw [NX.out]; exact T7⟩
        case measure => simp [intOf]
    | 3, _ =>
      have al := alS hI.out.bel (.cells #[.int .i64 p3.g, .int .i64 p3.b, .slice p3.A p3.n p3.c] 25)
      have pb := Bx.new wr 25 #[.int .i64 p3.g, .int .i64 p3.b, .slice p3.A p3.n p3.c]
      have ow := hI.out.own.alloc (.cells #[.int .i64 p3.g, .int .i64 p3.b, .slice p3.A p3.n p3.c] 25)
      have nx := upTo_next j 3
      rw [show j.getD 3 default = p3.pt by rw [HJ.out.e]; rfl] at nx
      have hlen := TL.out 3 (by omega)
      have hpl := HJ.out.s3.len
      have hpn : p3.n ≤ 100000 := by obtain ⟨l0, l1, l2, l3⟩ := HL.out; omega
      have hwf := hI.out.wf
      by_cases hg : p3.g = 0
      · rw [ents_no hg] at nx
        have j1 : (p3.g == 0) = true := by simpa using hg
        have j2 : (p3.g != 0) = false := by simpa using hg
        have NX := Lib.hid nx
        have E6 := HJ.out.s3.below al
        have hz := al.size
        have hnl : (upTo j 3).length + p3.l.length ≤ 1000000 := by rw [← hpl]; omega
        have AL := Lib.hid al
        have OW := Lib.hid ow
        have HW := Lib.hid hwf
        clear al nx hg hpl hlen pb hwf
        go_wp2_with (at_builtin; refine Wd.wpList_appEs _ rfl (.tmp 23) (.tmp 25) rfl w.heap.size u3 (upTo j 3) rfl ow p3.A p3.n p3.c p3.l rfl E6 hnl hz ?_; intro v7 w7 hO7 hg7; have T7 := Lib.hid (TI.app HW.out AL.out OW.out hO7 hg7 HJ.out.s3.wf); clear hO7 hg7 ow E6 hz)
        go_roundw
        case rel => exact ⟨4, by go_num, by omega, by rw [NX.out]; exact T7⟩
        case measure => simp [intOf]
      · rw [ents_yes hg, ← List.append_assoc] at nx
        have j1 : (p3.g == 0) = false := by simpa using hg
        have j2 : (p3.g != 0) = true := by simpa using hg
        have NX := Lib.hid nx
        have al2 := alS al (.cells #[.int .i64 3, .int .i64 3, .int .i64 p3.g, .int .i64 0, .int .i64 p3.b, .int .i64 0, .int .i64 0] 32)
        have pb2 := pb.alloc (.cells #[.int .i64 3, .int .i64 3, .int .i64 p3.g, .int .i64 0, .int .i64 p3.b, .int .i64 0, .int .i64 0] 32)
        have ow2 := ow.alloc (.cells #[.int .i64 3, .int .i64 3, .int .i64 p3.g, .int .i64 0, .int .i64 p3.b, .int .i64 0, .int .i64 0] 32)
        have E5 := Es.of_bx (l := [bs 3 p3]) (Bx.new (wr.alloc (.cells #[.int .i64 p3.g, .int .i64 p3.b, .slice p3.A p3.n p3.c] 25)) 32 #[.int .i64 3, .int .i64 3, .int .i64 p3.g, .int .i64 0, .int .i64 p3.b, .int .i64 0, .int .i64 0]) rfl rfl (by simp [maxLen]) (bs_wf (by omega) HJ.out.r3.1 HJ.out.r3.2)
        have hz := al2.size
        have hnl : (upTo j 3).length + [bs 3 p3].length ≤ 1000000 := by simp; omega
        have hnl2 : (upTo j 3 ++ [bs 3 p3]).length + p3.l.length ≤ 1000000 := by rw [← hpl]; simp; omega
        have AL := Lib.hid al2
        have OW := Lib.hid ow2
        have HW := Lib.hid hwf
        have PB := Lib.hid pb2
        have ez : (wr.alloc (.cells #[.int .i64 p3.g, .int .i64 p3.b, .slice p3.A p3.n p3.c] 25)).heap.size = wr.heap.size + 1 := by simp
        rw [ez] at E5
        clear al al2 nx hg hpl hlen pb pb2 hwf ow ez
        go_wp2_with (first
          | (at_builtin; refine Wd.wpList_appEs _ rfl (.tmp 14) (.tmp 21) rfl w.heap.size u3 (upTo j 3) rfl ow2 (some ⟨wr.heap.size + 1, 0, none⟩) 1 1 [bs 3 p3] rfl E5 hnl hz ?_; intro v6 w6 hO6 hg6; have T6 := Lib.hid (TI.app HW.out AL.out OW.out hO6 hg6 (bs_wf (by omega) HJ.out.r3.1 HJ.out.r3.2)); have PB6 := PB.out.grown hg6 (PB.out.apart OW.out (by decide)); have g2 := PB6.cell 2; have hz6 := T6.out.bel.size; have ow6 := T6.out.own; have E6 := HJ.out.s3.below T6.out.bel; clear hO6 hg6 PB6 ow2 E5 hz)
          | (at_builtin; refine Wd.wpList_appEs _ rfl (.tmp 23) (.tmp 25) rfl w.heap.size v6 (upTo j 3 ++ [bs 3 p3]) rfl ow6 p3.A p3.n p3.c p3.l rfl E6 hnl2 hz6 ?_; intro v7 w7 hO7 hg7; have T7 := Lib.hid (TI.app T6.out.wf T6.out.bel T6.out.own hO7 hg7 HJ.out.s3.wf); clear hO7 hg7 ow6 E6 hz6 g2))
        go_roundw
        case rel => exact ⟨4, by go_num, by omega, by rw [NX.out]; exact T7⟩
        case measure => simp [intOf]
    | 4, _ =>
      obtain ⟨A, c, rfl, hE⟩ := Es.of_own hI.out.own hI.out.wf
      have HE : Hid (Es wr A (upTo j 4).length c (Jo.entries j)) := Lib.hid (by rw [← upTo_all]; exact hE)
      clear hE
      go_wp2_with fail
      go_ret
      exact ⟨_, _, _, rfl, HE.out, hI.out.bel⟩
end Jr
end Go.Proofs.Ytljgalleiemaaaa
namespace Go.Proofs.Ytljgalleiemaaaa
set_option maxRecDepth 20000
open Go.RowKit
namespace Jr
open Jo (En May Wf Rg Pt endOf last app1)
open Wd (Pv Pc Es Lv Bx)
/-- The chapter's example. -/
def exL : List En := [⟨1, 0, 1, 0, 5, 0, 0⟩, ⟨1, 0, 2, 5, 9, 0, 0⟩, ⟨2, 0, 1, 0, 0, 0, 0⟩]
def exJ : Jo.Jn := [⟨1, 5, [⟨1, 0, 2, 5, 9, 0, 0⟩]⟩, default, default, default]
theorem ex_made : Jo.made Jo.nil_ exL = some exJ := by decide
theorem ex_wf : ∀ x ∈ exL, Wf x := by
  intro x hx
  simp only [exL, List.mem_cons, List.not_mem_nil, or_false] at hx
  rcases hx with rfl | rfl | rfl <;> (unfold Wf Rg; simp)
set_option maxHeartbeats 4000000 in
theorem awake_any (w : World) : Calls Try.prog 6 #[] w fun e w' => e = .returned (.bool true) ∧ Below w.heap.size w w' := by
  have al := (Below.refl w.heap.size w).alloc (Nat.le_refl _) (.cells #[.int .i64 1, .int .i64 0, .int .i64 1, .int .i64 0, .int .i64 5, .int .i64 0, .int .i64 0, .int .i64 1, .int .i64 0, .int .i64 2, .int .i64 5, .int .i64 9, .int .i64 0, .int .i64 0, .int .i64 2, .int .i64 0, .int .i64 1, .int .i64 0, .int .i64 0, .int .i64 0, .int .i64 0] 32)
  have bx := Bx.new w 32 #[.int .i64 1, .int .i64 0, .int .i64 1, .int .i64 0, .int .i64 5, .int .i64 0, .int .i64 0, .int .i64 1, .int .i64 0, .int .i64 2, .int .i64 5, .int .i64 9, .int .i64 0, .int .i64 0, .int .i64 2, .int .i64 0, .int .i64 1, .int .i64 0, .int .i64 0, .int .i64 0, .int .i64 0]
  obtain ⟨w1, hw1⟩ : ∃ w1, w1 = w.alloc (.cells #[.int .i64 1, .int .i64 0, .int .i64 1, .int .i64 0, .int .i64 5, .int .i64 0, .int .i64 0, .int .i64 1, .int .i64 0, .int .i64 2, .int .i64 5, .int .i64 9, .int .i64 0, .int .i64 0, .int .i64 2, .int .i64 0, .int .i64 1, .int .i64 0, .int .i64 0, .int .i64 0, .int .i64 0] 32) := ⟨_, rfl⟩
  rw [← hw1] at al bx
  have C := Lib.hid (made_any _ 3 3 exL w1 (Es.of_bx (l := exL) bx rfl rfl (by simp [maxLen]) ex_wf) (by omega))
  have AL := Lib.hid al
  have Hw1 := Lib.hid hw1
  clear al bx hw1
  go_enter Try.func6, Try.ntmps6
  go_wp2_with fail
  rw [← Hw1.out]
  refine C.out.mono ?_
  rintro e w2 ⟨q0, q1, q2, q3, ok, rfl, hok, hno, hB2⟩
  cases ok with
  | false =>
    have := hno rfl
    rw [ex_made] at this
    cases this
  | true =>
    obtain ⟨j, hm, hJ⟩ := hok rfl
    rw [ex_made] at hm
    cases hm
    have B2 := Lib.hid (AL.out.trans (hB2.mono AL.out.size))
    have al := alS B2.out (.cells #[.int .i64 q0.g, .int .i64 q0.b, .slice q0.A q0.n q0.c, .int .i64 q1.g, .int .i64 q1.b, .slice q1.A q1.n q1.c, .int .i64 q2.g, .int .i64 q2.b, .slice q2.A q2.n q2.c, .int .i64 q3.g, .int .i64 q3.b, .slice q3.A q3.n q3.c] 27)
    have al2 := (Below.refl w2.heap.size w2).alloc (Nat.le_refl _) (.cells #[.int .i64 q0.g, .int .i64 q0.b, .slice q0.A q0.n q0.c, .int .i64 q1.g, .int .i64 q1.b, .slice q1.A q1.n q1.c, .int .i64 q2.g, .int .i64 q2.b, .slice q2.A q2.n q2.c, .int .i64 q3.g, .int .i64 q3.b, .slice q3.A q3.n q3.c] 27)
    have jb := Bx.new w2 27 #[.int .i64 q0.g, .int .i64 q0.b, .slice q0.A q0.n q0.c, .int .i64 q1.g, .int .i64 q1.b, .slice q1.A q1.n q1.c, .int .i64 q2.g, .int .i64 q2.b, .slice q2.A q2.n q2.c, .int .i64 q3.g, .int .i64 q3.b, .slice q3.A q3.n q3.c]
    obtain ⟨w3, hw3⟩ : ∃ w3, w3 = w2.alloc (.cells #[.int .i64 q0.g, .int .i64 q0.b, .slice q0.A q0.n q0.c, .int .i64 q1.g, .int .i64 q1.b, .slice q1.A q1.n q1.c, .int .i64 q2.g, .int .i64 q2.b, .slice q2.A q2.n q2.c, .int .i64 q3.g, .int .i64 q3.b, .slice q3.A q3.n q3.c] 27) := ⟨_, rfl⟩
    rw [← hw3] at al al2 jb
    have e0 := hJ.e
    simp only [exJ, Pv.pt, List.cons.injEq, Pt.mk.injEq] at e0
    have k1 : (q0.b == 5) = true := by simp; omega
    have J3 := Lib.hid (hJ.below al2)
    have JB := Lib.hid jb
    have B3 := Lib.hid al
    have Hw3 := Lib.hid hw3
    have LN := Lib.hid (jv_len (m := 1) hJ (fun q hq => by
      simp only [exJ, List.mem_cons, List.not_mem_nil, or_false] at hq
      rcases hq with rfl | rfl | rfl | rfl <;> simp [default]))
    have eE : endOf (exJ.getD (0 : Int).toNat default) = 9 := by decide
    have eL : last (exJ.getD (0 : Int).toNat default) = 2 := by decide
    have eN : (Jo.entries exJ).length = 2 := by decide
    have C1 := end_any q0 q1 q2 q3 exJ 0 w3 J3.out (by omega) (by omega)
    rw [eE] at C1
    have C1 := Lib.hid C1
    have C2 := Lib.hid (fun w' (h : Below w3.heap.size w3 w') => last_any q0 q1 q2 q3 exJ 0 w' (J3.out.below h) (by omega) (by omega))
    rw [eL] at C2
    have C3 := Lib.hid (fun w' (h : Below w3.heap.size w3 w') => entries_any q0 q1 q2 q3 exJ w' (J3.out.below h) (by obtain ⟨a, b, c, d⟩ := LN.out; exact ⟨by omega, by omega, by omega, by omega⟩))
    have EN := Lib.hid eN
    obtain ⟨⟨d0, d1, d2, d3, d4, d5, d6, d7, d8, d9, d10, d11⟩, -⟩ := twelve JB.out
    clear al al2 jb hw3 e0 eE eL eN hJ hB2 hok hno
    go_upto_region 2 with fail
    rw [← Hw3.out]
    go_wp2_with fail
    refine C1.out.mono ?_
    rintro e w4 ⟨rfl, hB4⟩
    clear d0 d1 d2 d3 d4 d5 d6 d7 d8 d9 d10 d11
    obtain ⟨⟨d0, d1, d2, d3, d4, d5, d6, d7, d8, d9, d10, d11⟩, -⟩ := twelve (JB.out.below JB.out.lt hB4)
    go_wp2_with fail
    refine (C2.out _ hB4).mono ?_
    rintro e w5 ⟨rfl, hB5⟩
    have hB5' := hB4.trans (hB5.mono hB4.size)
    clear d0 d1 d2 d3 d4 d5 d6 d7 d8 d9 d10 d11
    obtain ⟨⟨d0, d1, d2, d3, d4, d5, d6, d7, d8, d9, d10, d11⟩, -⟩ := twelve (JB.out.below JB.out.lt hB5')
    go_wp2_with fail
    refine (C3.out _ hB5').mono ?_
    rintro e w6 ⟨A6, n6, c6, rfl, hE6, hB6⟩
    have hn6 : n6 = 2 := by rw [hE6.len, EN.out]
    subst hn6
    have B6 := Lib.hid (B3.out.trans ((hB5'.trans (hB6.mono hB5'.size)).mono B3.out.size))
    clear hE6 hB6 hB5' hB5 hB4
    go_wp2_with fail
    go_ret
    exact ⟨rfl, B6.out⟩
end Jr
end Go.Proofs.Ytljgalleiemaaaa
