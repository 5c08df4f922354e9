/- What the statement's function same does: a disk and the reference's that are the same. -/
import Derived.Test.YthangnhccbnfbaaDkRefI
import Derived.Test.YthangnhccbnfbaaDkDoes
import Derived.Test.YthangnhccbnfbaaRefSame
import Derived.BigQuiet
namespace Go.Proofs.Ythangnhccbnfbaa
open Go.RowKit Go.Maps
namespace Dk
/-- The same tape, the empty memory. -/
def w0 (w : World) : World := { w with heap := #[] }
theorem at0 {w : World} {d : Nat} {G : Nat → Prop} {S : Pd} (h : Dsk w d G S) : At (w0 w) w d S :=
  ⟨G, h, fun _ _ => Nat.zero_le _, ⟨rfl, rfl, rfl, Nat.zero_le _, fun k hk => absurd hk (Nat.not_lt_zero k)⟩⟩
section
variable {w : World} {d r : Nat} {G H : Nat → Prop} {S : Pd}
set_option maxRecDepth 100000 in
set_option maxHeartbeats 4000000 in
theorem same_disk (h : Dsk w d G S) (k : Rsk w r H S) :
    Calls Try.prog 14 #[pt d, pt r] w fun e w' => e = .returned (.bool true) ∧ Below w.heap.size w w' := by
  obtain ⟨v, L, am, lf, hl, hp, ok, hA, hw⟩ := k
  have few := ok.few
  have hL : L.length ≤ 256 := by rw [← hp] at few; simpa using few
  have hu : used S.fs = usedF L := by rw [← hp]; exact usedF_pf L
  have hfull := ok.full
  rw [hu] at hfull
  have CD : ∀ W, Below w.heap.size w W → Calls Try.prog 24 #[pt d] W fun e w' => e = .returned (.bool S.dead) ∧ w' = W := fun W hW => at_dead (at0 (h.below hW))
  have CU : ∀ W, Below w.heap.size w W → Calls Try.prog 23 #[pt d] W fun e w' => e = .returned (.int .i64 (usedF L : Int)) ∧ Below W.heap.size W w' := fun W hW => by rw [← hu]; exact at_used (at0 (h.below hW))
  have CR : ∀ W, Below w.heap.size w W → Calls Try.prog 36 #[pt r] W fun e w' => e = .returned (.int .i64 (usedF L : Int)) ∧ w' = W := fun W hW => rUsed_any (hl.below hW) (by omega)
  have CL : ∀ W, Below w.heap.size w W → Calls Try.prog 25 #[pt d] W fun e w' => ∃ v, e = .returned v ∧ w'.ownsRow W.heap.size 9 1 v (if S.dead then [] else S.fs.map Pf.name).length ((if S.dead then [] else S.fs.map Pf.name).map Value.string) ∧ Below W.heap.size W w' := fun W hW => at_list (at0 (h.below hW))
  have c4 := hl.box.cell 4
  simp at c4
  have hrlt := hl.box.lt
  obtain ⟨u, hu'⟩ : ∃ u, u = usedF L := ⟨_, rfl⟩
  rw [← hu'] at CU CR
  have CU' := Lib.hid CU
  have CR' := Lib.hid CR
  have CD' := Lib.hid CD
  have CL' := Lib.hid CL
  have hp' := Lib.hid hp
  have hA' := Lib.hid hA
  have few' := Lib.hid few
  obtain ⟨dd, hdd⟩ : ∃ dd, dd = S.dead := ⟨_, rfl⟩
  rw [← hdd] at c4
  have hdd' := Lib.hid hdd
  clear CU CR CD CL hp hA few hu hu' hfull hdd
  go_enter Try.func14, Try.ntmps14
  go_upto_region 1 with fail
  go_cut [23] (fun bv wx => bv = .bool false ∧ Below w.heap.size w wx)
  case first =>
    have hb0 : Below w.heap.size w w.drew := ⟨rfl, rfl, rfl, Nat.le_refl _, fun _ _ => rfl⟩
    have hbd : Below w.heap.size w w.drew := hb0
    go_region_held3 (fun w' => w'.cell? ⟨r, 4, none⟩ = some (.bool dd)) (first | exact c46 | exact c4 | go_keep) (first
      | (go_at_call 24; (with_reducible refine (CD'.out _ hb0).mono ?_); rw [← hdd'.out]; rintro e w5 ⟨rfl, rfl⟩)
      | (go_at_call 23; (with_reducible refine (CU'.out _ hb0).mono ?_); rintro e w6 ⟨rfl, hB6⟩; have hb0 : Below w.heap.size w w6 := hbd.trans (hB6.mono (Nat.le_refl _)); have c46 := (hb0.cell (p := ⟨r, 4, none⟩) hrlt).trans c4)
      | (go_at_call 36; (with_reducible refine (CR'.out _ hb0).mono ?_); rintro e w7 ⟨rfl, rfl⟩))
    all_goals (go_wp2_with fail; go_meet; exact ⟨rfl, hb0⟩)
  case rest =>
    obtain ⟨rfl, hB⟩ := hcut
    obtain ⟨wx, rfl⟩ : ∃ wx : World, wx = wc := ⟨_, rfl⟩
    have CL := CL'.out wx hB
    have c4x := (hB.cell (p := ⟨r, 4, none⟩) hrlt).trans c4
    have hlx := hl.below hB
    have hx := h.below hB
    clear c4 hl h CU' CR' CD' CL'
    cases dd
    · rw [← hdd'.out, if_neg (by simp)] at CL
      go_wp2_with fail
      refine CL.mono ?_
      rintro e w1 ⟨v1, rfl, hown, hb1⟩
      obtain ⟨A1, k1, rfl, hN, -⟩ := Ns.of_own hown
      have hl1 := hlx.below hb1
      have h1 := hx.below hb1
      have hnl : (S.fs.map Pf.name).length = L.length := by rw [← hp'.out]; simp
      rw [hnl] at hN ⊢
      have hB1 : Below w.heap.size w w1 := hB.trans (hb1.mono hB.size)
      obtain ⟨-, A0, k0, hv0, hF0, -⟩ := Fs.of_own hl1.row
      subst hv0
      have b0 := hl1.box.cell 0
      have b4 := hl1.box.cell 4
      simp at b0 b4
      rw [← hdd'.out] at b4
      have hcp := hF0.cap
      have hmx := hF0.max
      have hcp2 := hN.cap
      have hmx2 := hN.max
      unfold maxLen at hmx hmx2
      have hrl1 := hl1.box.lt
      clear c4x hx hlx hown hb1 hF0 CL
      go_wp2_with fail
      go_loopw [6] (fun iv wr => ∃ j : Nat, iv = .int .i64 (j : Int) ∧ j ≤ L.length ∧ Below w1.heap.size w1 wr) (fun iv _ => L.length - (intOf iv).toNat)
      case atStart => exact ⟨0, rfl, Nat.zero_le _, Below.refl _ _⟩
      case round =>
        obtain ⟨j, rfl, hj, hBr⟩ := hrel
        obtain ⟨wo, rfl⟩ : ∃ wo : World, wo = wr := ⟨_, rfl⟩
        by_cases hlt : j < L.length
        · have i1 : (j : Int) < (L.length : Int) := by omega
          have ho := hl1.below hBr
          have hd := h1.below hBr
          obtain ⟨bn, rfl, hbn, n0⟩ := (hN.below hBr).rd j (by rw [hnl]; exact hlt)
          obtain ⟨nm, hnm⟩ : ∃ nm, nm = (S.fs.map Pf.name).getD j ByteArray.empty := ⟨_, rfl⟩
          rw [← hnm] at n0
          have hnm2 : nm = (L[j]).name := by
            rw [hnm, ← hp'.out, List.map_map]
            simp [List.getD, hlt]
            rfl
          have hfm := List.getElem_mem hlt
          have hup : Up Fil.name L := by
            have := ok.up
            rw [← hp'.out] at this
            exact List.pairwise_map.1 this
          have hsz : nm.size ≤ 32 := by
            have := ok.name (L[j]).pf (by rw [← hp'.out]; exact List.mem_map.2 ⟨_, hfm, rfl⟩)
            rw [hnm2]
            exact this
          have hrd : Dk.read S nm = ((L[j]).data, 0) := by
            unfold Dk.read
            rw [← hdd'.out, if_neg (by simp), ← hp'.out, fnd_pf, hnm2, hup.mem_fnd hfm]
            rfl
          have CRd := read_any hd nm (by omega)
          rw [hrd] at CRd
          obtain ⟨-, A', c', hv', hFs, -⟩ := Fs.of_own ho.row
          obtain ⟨rfl, -, rfl⟩ : A0 = A' ∧ L.length = L.length ∧ k0 = c' := by simpa using hv'
          obtain ⟨b, rfl, hblt, d0, d1, d2⟩ := hFs.rd j hlt
          rw [← hnm2] at d0
          obtain ⟨A2, n2, c2, hv, hs2⟩ := Wd.Sl.of_own (ho.fil _ hfm)
          rw [hv] at d1
          have r0 := (hBr.cell (p := ⟨r, 0, none⟩) hrl1).trans b0
          obtain ⟨dt, hdt⟩ : ∃ dt, dt = (L[j]).data := ⟨_, rfl⟩
          rw [← hdt] at CRd hs2
          have hrlo := ho.box.lt
          clear hnm hnm2 hrd hv hv' hFs hdt d2 hup
          go_wp2_with fail
          refine CRd.mono ?_
          rintro e w8 ⟨v8, rfl, ho8, hb8⟩
          obtain ⟨A8, n8, c8, rfl, hS8⟩ := Wd.Sl.of_own ho8
          have s0 := (hb8.cell (p := ⟨r, 0, none⟩) hrlo).trans r0
          have s1 := (hb8.cell (p := ⟨b, j * 3, none⟩) hblt).trans d0
          have s2 := (hb8.cell (p := ⟨b, j * 3 + 1, none⟩) hblt).trans d1
          have s3 := (hb8.cell (p := ⟨bn, j, none⟩) hbn).trans n0
          have hs28 := hs2.below hb8
          clear r0 d0 d1 n0 ho8 hs2 CRd
          go_wp2_with fail
          refine (Nc.same_yes _ _ _ _ _ _ dt dt _ hS8 hs28 rfl).mono ?_
          rintro e w9 ⟨rfl, hb9⟩
          have hb09 := hb8.trans (hb9.mono hb8.size)
          have t0 := (hb9.cell (p := ⟨r, 0, none⟩) (Nat.lt_of_lt_of_le hrlo hb8.size)).trans s0
          have t1 := (hb9.cell (p := ⟨b, j * 3, none⟩) (Nat.lt_of_lt_of_le hblt hb8.size)).trans s1
          have t3 := (hb9.cell (p := ⟨bn, j, none⟩) (Nat.lt_of_lt_of_le hbn hb8.size)).trans s3
          have hnn : (nm.toList == nm.toList) = true := by simp
          clear s0 s1 s2 s3 hS8 hs28
          go_wp2_with fail
          go_quiet (fail)
          go_wp2_with fail
          go_roundw
          case rel => exact ⟨j + 1, by simp, hlt, hBr.trans ((Wd.below_drewN hb09 _).mono hBr.size)⟩
          case measure => simp [intOf]; omega
        · go_wp2_with fail
          go_ret
          exact ⟨rfl, hB1.trans (hBr.mono hB1.size)⟩
    · rw [← hdd'.out, if_pos rfl] at CL
      go_wp2_with fail
      refine CL.mono ?_
      rintro e w1 ⟨v1, rfl, hown, hb1⟩
      obtain ⟨A1, k1, rfl, -, -⟩ := Ns.of_own (ns := []) hown
      have c4y := (hb1.cell (p := ⟨r, 4, none⟩) hlx.box.lt).trans c4x
      go_wp2_with fail
      go_ret
      exact ⟨rfl, hB.trans (hb1.mono hB.size)⟩
end
end Dk
end Go.Proofs.Ythangnhccbnfbaa
