/- The walk of the statement DiskApart of layer 5. -/
import Derived.Test.YthangnhccbnfbaaDkAwake
import Derived.Test.YthangnhccbnfbaaDkFacts
import Derived.Test.YthangnhccbnfbaaDkCopy
import Derived.Test.YthangnhccbnfbaaDkDoes
namespace Go.Proofs.Ythangnhccbnfbaa
open Go.RowKit Go.Maps
namespace Lw
open Dk
theorem nm_eq2 {s t : ByteArray} (h : s = t) : (s.toList == t.toList) = true := by simp [h]
theorem nm_ne2 {s t : ByteArray} (h : s ≠ t) : (s.toList == t.toList) = false := by
  rw [ByteArray.toList_eq, ByteArray.toList_eq, beq_eq_false_iff_ne]
  intro e
  exact h (WideShapes.bytes_inj e)
/-- What is done to one file leaves every other. -/
theorem apart_step {S : Pd} {o : Wd.Opr} {s : ByteArray} (h0 : 0 ≤ o.kind) (h3 : o.kind ≤ 3) (hn : o.name ≠ s) : fnd Pf.name s (doesS S o).2.fs = fnd Pf.name s S.fs := by
  rcases does_kind (S := S) (o := o) with ⟨e, k⟩ | ⟨e, k⟩ | ⟨e, k⟩ | ⟨e, k⟩ | ⟨e, k⟩ | ⟨e, k⟩ | ⟨e, k⟩ | ⟨e, k⟩
  · rw [e]
    unfold create
    rcases gate_fs (S := S) (er := erC S o.name) (g := ins Pf.name ⟨o.name, [], 0⟩) with q | ⟨_, _, q⟩
    · rw [q]
    · rw [q, fnd_ins (nm := Pf.name) (by exact hn)]
  · rw [e]
    unfold append
    rcases gate_fs (S := S) (er := erA S o.name o.b) (g := upd Pf.name o.name fun f => { f with data := f.data ++ o.b }) with q | ⟨_, _, q⟩
    · rw [q]
    · rw [q, fnd_upd (nm := Pf.name) (g := fun f => { f with data := f.data ++ o.b }) (fun _ => rfl) hn]
  · rw [e]
    unfold sync
    rcases gate_fs (S := S) (er := erN S o.name) (g := upd Pf.name o.name fun f => { f with syn := f.data.length }) with q | ⟨_, _, q⟩
    · rw [q]
    · rw [q, fnd_upd (nm := Pf.name) (g := fun f => { f with syn := f.data.length }) (fun _ => rfl) hn]
  · rw [e]
    unfold delete
    rcases gate_fs (S := S) (er := erN S o.name) (g := del Pf.name o.name) with q | ⟨_, _, q⟩
    · rw [q]
    · rw [q, fnd_del (nm := Pf.name) hn]
  · omega
  · omega
  · omega
  · omega
/-- The names of a disk that lives, and what is read there. -/
theorem read_there {S : Pd} (hd : S.dead = false) {s : ByteArray} (hs : s ∈ S.fs.map Pf.name) (up : Up Pf.name S.fs) : ∃ f, fnd Pf.name s S.fs = some f ∧ Dk.read S s = (f.data, 0) := by
  obtain ⟨f, hf, rfl⟩ := List.mem_map.1 hs
  have h1 := up.mem_fnd hf
  refine ⟨f, h1, ?_⟩
  unfold Dk.read
  rw [hd, h1]
  simp
theorem read_same {S' : Pd} (hd : S'.dead = false) {s : ByteArray} {f : Pf} (h : fnd Pf.name s S'.fs = some f) : Dk.read S' s = (f.data, 0) := by
  unfold Dk.read
  rw [hd, h]
  simp
/-- A slice of one call that was just laid. -/
theorem os_lit {w : World} {o : Wd.Opr} (h : Wd.Op1 w o) (t : TypeId) (cs : Array Value) (hc : cs = o.vals.toArray) : Wd.Os (w.alloc (.cells cs t)) (some ⟨w.heap.size, 0, none⟩) 1 1 [o] := by
  subst hc
  refine ⟨rfl, Nat.le_refl _, by simp [maxLen], by simp, fun j hj => ?_⟩
  obtain rfl : j = 0 := by simpa using hj
  refine ⟨w.heap.size, 0, rfl, by simp, fun i v hv => ?_, h.below ((Below.refl _ _).alloc (Nat.le_refl _) _)⟩
  have h2 := (Wd.Bx.new w t o.vals.toArray).cell i
  rw [show 0 + (0 * 5 + i) = i by omega, h2]
  simpa using hv

set_option maxRecDepth 100000 in
set_option maxHeartbeats 8000000 in
theorem diskApart_in (A : Option Addr) (n c : Nat) (os : List Wd.Opr) (x : Wd.Opr) (w : World) (hO : Wd.Os w A n c os) (hx : Wd.Op1 w x) (x0 : 0 ≤ x.kind) (x3 : x.kind ≤ 3) :
    Calls Try.prog 7 #[.slice A n c, .agg x.vals.toArray] w fun e w' => e = .returned (.bool true) ∧ Below w.heap.size w w' := by
  have hl := hO.len
  have hcp := hO.cap
  have hmx := hO.max
  unfold maxLen at hmx
  have g1 : decide (x.kind < 0) = false := decide_eq_false (by omega)
  have g2 : decide (3 < x.kind) = false := decide_eq_false (by omega)
  obtain ⟨w0, hw0⟩ : ∃ w0, w0 = w.alloc (.cells #[.int .i64 x.kind, .int .i64 x.num, .string x.name, .slice x.bA x.bn x.bc, .slice x.kA x.kn x.kc] 36) := ⟨_, rfl⟩
  have hb0 : Below w.heap.size w w0 := by rw [hw0]; exact (Below.refl _ _).alloc (Nat.le_refl _) _
  have hbx : Wd.Bx w0 w.heap.size 36 #[.int .i64 x.kind, .int .i64 x.num, .string x.name, .slice x.bA x.bn x.bc, .slice x.kA x.kn x.kc] := by rw [hw0]; exact Wd.Bx.new w _ _
  have hO0 := hO.below hb0
  have hx0 := hx.below hb0
  have hl' := Lib.hid hl
  have hw0' := Lib.hid hw0
  have hx0' := Lib.hid hx0
  clear hl hw0 hO hx hx0
  simp only [Wd.Opr.vals]
  go_enter Try.func7, Try.ntmps7
  go_wp2_with fail
  rw [← hw0'.out]
  refine (awake_any w0).mono ?_
  rintro e w1 ⟨rfl, hB1⟩
  have hO1 := hO0.below hB1
  have hbx1 := hbx.below hbx.lt hB1
  have b10 := hbx1.cell 0
  have b11 := hbx1.cell 1
  have b12 := hbx1.cell 2
  have b13 := hbx1.cell 3
  have b14 := hbx1.cell 4
  simp at b10 b11 b12 b13 b14
  clear hO0 hbx
  go_wp2_with fail
  refine (few_any A n c os 60 w1 hO1 (by omega)).mono ?_
  rintro e w2 ⟨q, rfl⟩
  rcases q with ⟨rfl, hFw⟩ | rfl
  · have hn60 : n ≤ 60 := by rw [hl'.out]; exact hFw.1
    have hFw' := Lib.hid hFw
    clear hFw
    go_wp2_with fail
    have hx2 := hx0'.out.below hB1
    have hbl := (Below.refl w2.heap.size w2).alloc (Nat.le_refl _) (.cells #[.int .i64 x.kind, .int .i64 x.num, .string x.name, .slice x.bA x.bn x.bc, .slice x.kA x.kn x.kc] 36)
    refine (few_any _ 1 1 [x] 1 _ (os_lit hx2 36 #[.int .i64 x.kind, .int .i64 x.num, .string x.name, .slice x.bA x.bn x.bc, .slice x.kA x.kn x.kc] rfl) (by omega)).mono ?_
    rintro e w3 ⟨q, rfl⟩
    rcases q with ⟨rfl, hFx⟩ | rfl
    · have hsx : Sm x := hFx.2 x (by simp)
      obtain ⟨w3, hw3⟩ : ∃ w3, w3 = w2.alloc (.cells #[.int .i64 x.kind, .int .i64 x.num, .string x.name, .slice x.bA x.bn x.bc, .slice x.kA x.kn x.kc] 36) := ⟨_, rfl⟩
      rw [← hw3] at hbl
      have hbx3 := hbx1.below hbx1.lt hbl
      have hO3 := hO1.below hbl
      have hx3 := hx2.below hbl
      have hw3' := Lib.hid hw3
      have d10 := hbx3.cell 0
      simp at d10
      have hB3 : Below w.heap.size w w3 := (hb0.trans (hB1.mono hb0.size)).trans (hbl.mono (Nat.le_trans hb0.size hB1.size))
      clear hw3 hbl hO1 hbx1 hx2 b10 b11 b12 b13 b14 hFx hB1 hw0' hx0' hb0
      rw [← hw3'.out]
      go_wp2_with fail
      refine (new_ok 100000 w3 (by omega) (by omega)).mono ?_
      rintro e w4 ⟨d, rfl, hB4, hD4⟩
      have h4 : At w3 w4 d ⟨[], 100000, -1, false⟩ := At.new hB4 hD4
      clear hB4 hD4
      go_wp2_with fail
      go_loopw [8] (fun iv wr => ∃ (k : Nat) (S : Pd), iv = .int .i64 (k : Int) ∧ k ≤ n ∧ At w3 wr d S) (fun iv _ => n - (intOf iv).toNat)
      case atStart => exact ⟨0, _, rfl, Nat.zero_le _, h4⟩
      case round =>
        obtain ⟨k, S, rfl, hk, hAt⟩ := hrel
        obtain ⟨wo, rfl⟩ : ∃ wo : World, wo = wr := ⟨_, rfl⟩
        clear h4
        by_cases hlt : k < n
        · have hko : k < os.length := by rw [← hl'.out]; exact hlt
          obtain ⟨o, ho⟩ : ∃ o, o = os.getD k default := ⟨_, rfl⟩
          have hsm : Sm o := hFw'.out.2 o (by rw [ho]; simp [List.getD, hko])
          have i1 : (k : Int) < (n : Int) := by omega
          obtain ⟨b, f, rfl, hb, d0, d1, d2, d3, d4, -⟩ := (hO3.below hAt.base).cells hko ho
          obtain ⟨b', f', hbf, hb', -, -, -, -, -, h1'⟩ := hO3.cells hko ho
          obtain ⟨rfl, rfl⟩ : b = b' ∧ f = f' := by simpa using hbf
          clear hbf ho hko
          have hD := does_any hAt o h1' hsm
          change Calls Try.prog 12 #[pt d, .agg #[.int .i64 o.kind, .int .i64 o.num, .string o.name, .slice o.bA o.bn o.bc, .slice o.kA o.kn o.kc]] wo _ at hD
          have hD' := Lib.hid hD
          clear hD d10
          go_wp2_with fail
          refine hD'.out.mono ?_
          rintro e w7 ⟨rfl, h7⟩
          clear d0 d1 d2 d3 d4
          go_wp2_with fail
          go_roundw
          case rel => exact ⟨k + 1, _, by simp, hlt, h7⟩
          case measure => simp [intOf]; omega
        · clear d10 hO3
          go_wp2_with fail
          refine (at_dead hAt).mono ?_
          rintro e w5 ⟨rfl, rfl⟩
          have hbase := hAt.base
          have hBw := hB3.trans (hbase.mono hB3.size)
          cases hd : S.dead
          · obtain ⟨G, hD, hG, -⟩ := id hAt
            have C := at_list hAt
            rw [hd] at C
            simp only [Bool.false_eq_true, if_false] at C
            go_wp2_with fail
            refine C.mono ?_
            clear C
            rintro e w6 ⟨v, rfl, ho, hb6⟩
            obtain ⟨A9, c9, rfl, hN6, hA9⟩ := Ns.of_own ho
            have hD6 := hD.below hb6
            clear ho hAt
            go_wp2_with fail
            refine (copy_any hD6).mono ?_
            rintro e w7 ⟨d2, rfl, hb7, hC7⟩
            have hD7 := hD6.below hb7
            have hN7 := hN6.below hb7
            have hz6 := hb6.size
            have hB37 : Below w3.heap.size w3 w7 := (hbase.trans (hb6.mono hbase.size)).trans (hb7.mono (Nat.le_trans hbase.size hb6.size))
            have hbx7 := ((hbx3.below hbx3.lt hbase).below (Nat.lt_of_lt_of_le hbx3.lt hbase.size) hb6).below (Nat.lt_of_lt_of_le (Nat.lt_of_lt_of_le hbx3.lt hbase.size) hb6.size) hb7
            have b10 := hbx7.cell 0
            have b11 := hbx7.cell 1
            have b12 := hbx7.cell 2
            have b13 := hbx7.cell 3
            have b14 := hbx7.cell 4
            simp at b10 b11 b12 b13 b14
            clear hD6 hN6
            have hbd := hD.bd
            have hE := does_mv hD7 x (fun W hW => hx3.below (hB37.trans (hW.below hG hB37.size))) hsx
            change Calls Try.prog 12 #[pt d, .agg #[.int .i64 x.kind, .int .i64 x.num, .string x.name, .slice x.bA x.bn x.bc, .slice x.kA x.kn x.kc]] w7 _ at hE
            have hE' := Lib.hid hE
            clear hE
            go_wp2_with fail
            refine hE'.out.mono ?_
            rintro e w8 ⟨rfl, mv8, hD8⟩
            have hap : ∀ s, x.name ≠ s → fnd Pf.name s (doesS S x).2.fs = fnd Pf.name s S.fs := fun s hs => apart_step x0 x3 hs
            have hap' := Lib.hid hap
            generalize (doesS S x).2 = S' at hD8 hap'
            generalize (doesS S x).1 = r1
            have hC8 := hC7.other mv8 (fun g hg k => by have := hbd g k; omega)
            have hN8 := hN7.mv (fun a ha k => by have := hA9 a ha; have := hbd _ k; omega) mv8
            have hbx8 := hbx7.at_ (mv8.keep w.heap.size hbx7.lt (fun k => by have := hG _ k; have := hbx3.lt; omega))
            have hup := hC8.ok.up
            have hnm := hC8.ok.name
            have hB8 : Below w.heap.size w w8 := (hB3.trans (hB37.mono hB3.size)).trans ((mv8.below hG hB37.size).mono hB3.size)
            simp only [List.length_map] at hN8
            have hup' := Lib.hid hup
            have hnm' := Lib.hid hnm
            clear hap b10 b11 b12 b13 b14 hE' hD7 hC7 hN7 hbx7 mv8 hD hbx3 hx3 hb6 hb7 hB37 hbase hBw hz6 hG hbd hup hnm hw3'
            go_wp2_with fail
            refine (ddead_any hD8).mono ?_
            rintro e w9 ⟨rfl, rfl⟩
            cases hd' : S'.dead
            · have hdd := Lib.hid hd
              have hdd' := Lib.hid hd'
              clear hd hd'
              have hfs : (S.fs.map Pf.name).length = S.fs.length := by simp
              have hfs' := Lib.hid hfs
              clear hfs
              have hfm := hN8.max
              have hfc := hN8.cap
              unfold maxLen at hfm
              go_wp2_with fail
              go_loopw [11] (fun iv wr => ∃ j : Nat, iv = .int .i64 (j : Int) ∧ j ≤ S.fs.length ∧ Below w9.heap.size w9 wr) (fun iv _ => S.fs.length - (intOf iv).toNat)
              case atStart => exact ⟨0, rfl, Nat.zero_le _, Below.refl _ _⟩
              case round =>
                obtain ⟨j, rfl, hj, hbr⟩ := hrel
                obtain ⟨wo, rfl⟩ : ∃ wo : World, wo = wr := ⟨_, rfl⟩
                by_cases hlt : j < S.fs.length
                · have i1 : (j : Int) < (S.fs.length : Int) := by omega
                  have hNo := hN8.below hbr
                  obtain ⟨b, rfl, hblt, hcell⟩ := hNo.rd j (by rw [hfs'.out]; exact hlt)
                  obtain ⟨s, hs⟩ : ∃ s, s = (S.fs.map Pf.name).getD j ByteArray.empty := ⟨_, rfl⟩
                  rw [← hs] at hcell
                  have hmem : s ∈ S.fs.map Pf.name := by
                    rw [hs]
                    simp only [List.getD, List.getElem?_eq_getElem (show j < (S.fs.map Pf.name).length by rw [hfs'.out]; exact hlt), Option.getD_some]
                    exact List.getElem_mem _
                  have hs100 : s.size ≤ 100 := by
                    obtain ⟨f, hf, e⟩ := List.mem_map.1 hmem
                    have := hnm'.out f hf
                    rw [← e]
                    omega
                  have hbo := hbx8.below hbx8.lt hbr
                  have b12 := hbo.cell 2
                  simp at b12
                  have hmem' := Lib.hid hmem
                  clear hmem hs
                  by_cases hq : s = x.name
                  · have q0 := nm_eq2 hq
                    clear hq
                    go_wp2_with fail
                    go_quiet (fail)
                    go_wp2_with fail
                    go_roundw
                    case rel => exact ⟨j + 1, by simp, hlt, Wd.below_drewN hbr _⟩
                    case measure => simp [intOf]; omega
                  · have q0 := nm_ne2 hq
                    obtain ⟨f, hf, hr1⟩ := read_there hdd.out hmem'.out hup'.out
                    have hr2 := read_same hdd'.out ((hap'.out s (fun e => hq e.symm)).trans hf)
                    have hr1' := Lib.hid hr1
                    have hr2' := Lib.hid hr2
                    clear hq hf hr1 hr2
                    go_wp2_with fail
                    go_quiet (fail)
                    go_wp2_with fail
                    have hbq : Below w9.heap.size w9 (wo.drewN nq) := Wd.below_drewN hbr nq
                    have C := read_any (hC8.below hbq) s hs100
                    rw [hr1'.out] at C
                    refine C.mono ?_
                    clear C
                    rintro e wa ⟨va, rfl, hoa, hba⟩
                    obtain ⟨Aa, na, ca, rfl, hSa⟩ := Wd.Sl.of_own hoa
                    have hb9 := hbq.trans (hba.mono hbq.size)
                    have hcell' := (hba.cell (p := ⟨b, j, none⟩) hblt).trans hcell
                    clear hoa hcell b12 hba q0
                    go_wp2_with fail
                    have C := read_any (hD8.below hb9) s hs100
                    rw [hr2'.out] at C
                    refine C.mono ?_
                    clear C
                    rintro e wb ⟨vb, rfl, hob, hbb⟩
                    obtain ⟨Ab, nb, cb, rfl, hSb⟩ := Wd.Sl.of_own hob
                    have hSa' := hSa.below hbb
                    have hb10 := hb9.trans (hbb.mono hb9.size)
                    clear hob hcell' hbb hSa
                    go_wp2_with fail
                    refine (Nc.same_yes _ _ _ _ _ _ f.data f.data _ hSa' hSb rfl).mono ?_
                    rintro e wc ⟨rfl, hbc⟩
                    have hb11 := hb10.trans (hbc.mono hb10.size)
                    clear hSa' hSb
                    go_wp2_with fail
                    go_roundw
                    case rel => exact ⟨j + 1, by simp, hlt, hb11⟩
                    case measure => simp [intOf]; omega
                · go_wp2_with fail
                  go_ret
                  exact ⟨rfl, hB8.trans (hbr.mono hB8.size)⟩
            · go_wp2_with fail
              go_ret
              exact ⟨rfl, hB8⟩
          · go_wp2_with fail
            go_ret
            exact ⟨rfl, hBw⟩
    · go_wp2_with fail
      go_ret
      exact ⟨rfl, (hb0.trans (hB1.mono hb0.size)).trans (hbl.mono (Nat.le_trans hb0.size hB1.size))⟩
  · go_wp2_with fail
    go_ret
    exact ⟨rfl, hb0.trans (hB1.mono hb0.size)⟩
set_option maxRecDepth 100000 in
set_option maxHeartbeats 4000000 in
theorem diskApart_out (A : Option Addr) (n c : Nat) (os : List Wd.Opr) (x : Wd.Opr) (w : World) (hO : Wd.Os w A n c os) (hx : Wd.Op1 w x) (r : ¬ (0 ≤ x.kind ∧ x.kind ≤ 3)) :
    Calls Try.prog 7 #[.slice A n c, .agg x.vals.toArray] w fun e w' => e = .returned (.bool true) ∧ Below w.heap.size w w' := by
  have hcp := hO.cap
  have hmx := hO.max
  unfold maxLen at hmx
  have g : decide (x.kind < 0) = true ∨ decide (x.kind < 0) = false ∧ decide (3 < x.kind) = true := by
    by_cases q : x.kind < 0
    · exact .inl (decide_eq_true q)
    · exact .inr ⟨decide_eq_false q, decide_eq_true (by omega)⟩
  clear r
  obtain ⟨w0, hw0⟩ : ∃ w0, w0 = w.alloc (.cells #[.int .i64 x.kind, .int .i64 x.num, .string x.name, .slice x.bA x.bn x.bc, .slice x.kA x.kn x.kc] 36) := ⟨_, rfl⟩
  have hb0 : Below w.heap.size w w0 := by rw [hw0]; exact (Below.refl _ _).alloc (Nat.le_refl _) _
  have hbx : Wd.Bx w0 w.heap.size 36 #[.int .i64 x.kind, .int .i64 x.num, .string x.name, .slice x.bA x.bn x.bc, .slice x.kA x.kn x.kc] := by rw [hw0]; exact Wd.Bx.new w _ _
  have hO0 := hO.below hb0
  have hx0 := hx.below hb0
  have hw0' := Lib.hid hw0
  have hx0' := Lib.hid hx0
  clear hw0 hO hx hx0
  simp only [Wd.Opr.vals]
  go_enter Try.func7, Try.ntmps7
  go_wp2_with fail
  rw [← hw0'.out]
  refine (awake_any w0).mono ?_
  rintro e w1 ⟨rfl, hB1⟩
  have hO1 := hO0.below hB1
  have hbx1 := hbx.below hbx.lt hB1
  have b10 := hbx1.cell 0
  have b11 := hbx1.cell 1
  have b12 := hbx1.cell 2
  have b13 := hbx1.cell 3
  have b14 := hbx1.cell 4
  simp at b10 b11 b12 b13 b14
  clear hO0 hbx
  go_wp2_with fail
  refine (few_any A n c os 60 w1 hO1 (by omega)).mono ?_
  rintro e w2 ⟨q, rfl⟩
  rcases q with ⟨rfl, -⟩ | rfl
  · go_wp2_with fail
    have hx2 := hx0'.out.below hB1
    have hbl := (Below.refl w2.heap.size w2).alloc (Nat.le_refl _) (.cells #[.int .i64 x.kind, .int .i64 x.num, .string x.name, .slice x.bA x.bn x.bc, .slice x.kA x.kn x.kc] 36)
    refine (few_any _ 1 1 [x] 1 _ (os_lit hx2 36 #[.int .i64 x.kind, .int .i64 x.num, .string x.name, .slice x.bA x.bn x.bc, .slice x.kA x.kn x.kc] rfl) (by omega)).mono ?_
    rintro e w3 ⟨q, rfl⟩
    have hB3 := (hb0.trans (hB1.mono hb0.size)).trans (hbl.mono (Nat.le_trans hb0.size hB1.size))
    obtain ⟨w3, hw3⟩ : ∃ w3, w3 = w2.alloc (.cells #[.int .i64 x.kind, .int .i64 x.num, .string x.name, .slice x.bA x.bn x.bc, .slice x.kA x.kn x.kc] 36) := ⟨_, rfl⟩
    rw [← hw3] at hbl hB3 ⊢
    have hbx3 := hbx1.below hbx1.lt hbl
    have d10 := hbx3.cell 0
    simp at d10
    clear b10 b11 b12 b13 b14 hw3 hbl
    rcases q with ⟨rfl, -⟩ | rfl <;> rcases g with g1 | ⟨g1, g2⟩
    all_goals
      go_wp2_with fail
      go_ret
      exact ⟨rfl, hB3⟩
  · rcases g with g1 | ⟨g1, g2⟩
    all_goals
      go_wp2_with fail
      go_ret
      exact ⟨rfl, hb0.trans (hB1.mono hb0.size)⟩
theorem diskApart_ok (A : Option Addr) (n c : Nat) (os : List Wd.Opr) (x : Wd.Opr) (w : World) (hO : Wd.Os w A n c os) (hx : Wd.Op1 w x) :
    Calls Try.prog 7 #[.slice A n c, .agg x.vals.toArray] w fun e w' => e = .returned (.bool true) ∧ Below w.heap.size w w' := by
  by_cases h : 0 ≤ x.kind ∧ x.kind ≤ 3
  · exact diskApart_in A n c os x w hO hx h.1 h.2
  · exact diskApart_out A n c os x w hO hx h
end Lw
end Go.Proofs.Ythangnhccbnfbaa
