/- What Create of the reference's disk does. -/
import Derived.Test.YthangnhccbnfbaaDkRefD
import Derived.Test.YthangnhccbnfbaaDkRefF
import Derived.WalkLawsBesides
namespace Go.Proofs.Ythangnhccbnfbaa
open Go.RowKit Go.Maps
namespace Dk
theorem less_ne {s t : ByteArray} (h : t ≠ s) : Op.bytesLess t.toList s.toList = !bef s t := by
  rw [less_bef]
  rcases bef_total h with q | q
  · rw [q]
    cases k : bef s t
    · rfl
    · have := bef_trans q k
      rw [bef_irrefl] at this
      cases this
  · rw [q]
    cases k : bef t s
    · rfl
    · have := bef_trans q k
      rw [bef_irrefl] at this
      cases this
theorem own_shape {w : World} {B : Nat} {e : TypeId} {v : Value} {n : Nat} {xs : List Value} (h : w.ownsRow B e 3 v n xs) : ∃ A m c, v = .slice A m c := by
  rcases h.2 with ⟨rfl, _⟩ | ⟨g, cap, cur, rfl, _⟩
  · exact ⟨_, _, _, rfl⟩
  · exact ⟨_, _, _, rfl⟩
/-- The end of Create: the row that was built is stored. -/
theorem create_fin {w2 wz : World} {r : Nat} {v ov : Value} {L M : List Fil} {cap lf : Int} {am dead : Bool} {H : Nat → Prop} {s : ByteArray} (hl : Ref w2 r v L cap am lf dead H)
    (hown : wz.ownsRow 0 64 3 ov M.length (flat3 M)) (hnew : ∀ x, ov.ownBlock = some x → w2.heap.size ≤ x) (hB : Below w2.heap.size w2 wz) (hM : M = ins Fil.name (nf s) L) :
    Wd.Mv H w2 (wz.setCell ⟨r, 0, none⟩ ov) ∧ Ref (wz.setCell ⟨r, 0, none⟩ ov) r ov (ins Fil.name (nf s) L) cap am lf dead (Wd.Gr H w2 (wz.setCell ⟨r, 0, none⟩ ov)) := by
  have hrl := hl.box.lt
  have hbz : Wd.Bx wz r 61 #[v, .int .i64 cap, .bool am, .int .i64 lf, .bool dead] := hl.box.at_ (hB.block r hrl)
  have hset := hbz.set 0 ov
  obtain ⟨w5, hw5⟩ : ∃ w5, w5 = wz.setCell ⟨r, 0, none⟩ ov := ⟨_, rfl⟩
  rw [← hw5] at hset ⊢
  have hg5 : wz.grownBy w5 (some r) := by subst hw5; exact ⟨rfl, rfl, rfl, by simp [World.setCell], fun k _ hk => Below.heap_setCell _ _ _ _ (by simpa using hk)⟩
  have hold : ∀ g, g < w2.heap.size → g ≠ r → w5.heap[g]? = w2.heap[g]? := fun g hg hne => (hg5.block g (Nat.lt_of_lt_of_le hg hB.size) (by simpa using hne)).trans (hB.block g hg)
  have mv : Wd.Mv H w2 w5 := ⟨hg5.os.trans hB.os, hg5.tape.trans hB.tape, hg5.output.trans hB.output, Nat.le_trans hB.size hg5.size, fun g hg hn => hold g hg (fun e => hn (by rw [e]; exact hl.hr))⟩
  refine ⟨mv, ?_⟩
  subst hM
  refine hl.turn (w' := w5) (by simpa using hset) (Wd.own_keep hown fun x hx => hg5.block x (Wd.own_lt hown hx).1 (fun e => by cases e; have := hnew _ hx; omega)) (fun f hf => ?_) mv.size (fun x hx => .inr (hnew x hx)) (fun f hf x hx => ?_)
  · rcases mem_ins.1 hf with rfl | hf
    · exact World.ownsRow_nil _ _ _ _
    · exact Wd.own_keep (hl.fil f hf) fun x hx => hold x (Wd.own_lt (hl.fil f hf) hx).1 (fun e => hl.rf hf (by rw [hx, e]))
  · rcases mem_ins.1 hf with rfl | hf
    · simp [nf, Value.ownBlock] at hx
    · exact .inl (hl.hf f hf x hx)
theorem cr_step {w2 wr w4 : World} {o : Obj} {x : Option Nat} {v4 : Value} (hB : Below w2.heap.size w2 wr) (hnew : ∀ g, x = some g → w2.heap.size ≤ g) (hg : (wr.alloc o).grownBy w4 x)
    (hloc : v4.ownBlock = x ∨ v4.ownBlock = some (wr.alloc o).heap.size) : Below w2.heap.size w2 w4 ∧ ∀ g, v4.ownBlock = some g → w2.heap.size ≤ g := by
  have hB2 : Below w2.heap.size w2 (wr.alloc o) := hB.alloc hB.size _
  refine ⟨⟨hg.os.trans hB2.os, hg.tape.trans hB2.tape, hg.output.trans hB2.output, Nat.le_trans hB2.size hg.size, fun k hk => (hg.block k (Nat.lt_of_lt_of_le hk hB2.size) (fun e => by have := hnew k e.symm; omega)).trans (hB2.block k hk)⟩, fun g hq => ?_⟩
  rcases hloc with q | q
  · exact hnew g (q ▸ hq)
  · rw [q] at hq
    cases hq
    exact hB2.size
theorem create_end {w1 w2 wz : World} {r : Nat} {v ov : Value} {L M : List Fil} {S : Pd} {lf : Int} {am : Bool} {H : Nat → Prop} {s : ByteArray} (hbd : ∀ g, H g → g < w1.heap.size) (mv2 : Wd.Mv H w1 w2) (hl : Ref w2 r v L S.cap am lf false H)
    (hd : S.dead = false) (hp : L.map Fil.pf = S.fs) (okC : (create S s).2.Ok) (hE : erC S s = 0) (ha : S.arm ≠ 0) (hA : Am am lf (if 0 < S.arm then S.arm - 1 else S.arm)) (hw : (Lit.int .i64 lf).wf = true)
    (hown : wz.ownsRow 0 64 3 ov M.length (flat3 M)) (hnew : ∀ x, ov.ownBlock = some x → w2.heap.size ≤ x) (hB : Below w2.heap.size w2 wz) (hM : M = ins Fil.name (nf s) L) :
    RDid w1 r H (create S s) (.returned (.int .i64 0)) (wz.setCell ⟨r, 0, none⟩ ov) := by
  obtain ⟨m1, h1⟩ := create_fin hl hown hnew hB hM
  have mv := mv2.then m1
  have e1 : create S s = (0, { S with fs := ins Pf.name ⟨s, [], 0⟩ S.fs, arm := if 0 < S.arm then S.arm - 1 else S.arm }) := by unfold create; rw [hE]; exact gate_go ha
  rw [e1] at okC ⊢
  refine ⟨rfl, mv, ov, ins Fil.name (nf s) L, am, lf, ?_, ?_, okC, hA, hw⟩
  · show Ref _ r _ _ S.cap am lf S.dead _
    rw [hd]
    refine h1.grow (fun g hg => ?_) (Wd.Gr.lt hbd mv.size)
    have := mv2.size
    rcases hg with q | q
    · exact .inl q
    · exact .inr (by omega)
  · rw [map_ins (nm := Fil.name) (nm' := Pf.name) Fil.pf (fun _ => rfl), hp]
    rfl
section
variable {w : World} {r : Nat} {H : Nat → Prop} {S : Pd}
set_option maxHeartbeats 4000000 in
theorem rcreate_any (h : Rsk w r H S) (s : ByteArray) :
    Calls Try.prog 30 #[pt r, .string s] w (RDid w r H (create S s)) := by
  obtain ⟨v, L, am, lf, hl, hp, ok, hA, hw⟩ := h
  obtain ⟨i0, hi0, hz0, hz1, hz2⟩ := info_parts info_fl
  have Z := Lib.hid (And.intro hi0 (And.intro hz0 (And.intro hz1 hz2)))
  clear hi0 hz0 hz1 hz2
  have okC := ok.create s
  have few := ok.few
  have hL : L.length ≤ 256 := by rw [← hp] at few; simpa using few
  have hE : erC S s = if S.dead then 12 else if ¬ (1 ≤ s.size ∧ s.size ≤ 32) then 1 else if (fnd Fil.name s L).isSome then 8 else if 256 ≤ L.length then 4 else 0 := by
    unfold erC
    rw [← hp, fnd_pf]
    simp
  have c4 := hl.box.cell 4
  simp at c4
  have hd' := Lib.hid (Eq.refl S.dead)
  cases hd : S.dead
  · rw [hd] at hE c4 hl hd'
    rw [if_neg (by simp)] at hE
    by_cases hn : 1 ≤ s.size ∧ s.size ≤ 32
    · rw [if_neg (by simpa using hn)] at hE
      have n1 : decide ((s.size : Int) < 1) = false := decide_eq_false (by omega)
      have n2 : decide ((32 : Int) < (s.size : Int)) = false := decide_eq_false (by omega)
      have n3 : (s.size : Int) ≤ 32 := by omega
      clear hn
      cases q : fnd Fil.name s L
      · rw [q, if_neg (by simp)] at hE
        have hN := rAt_none hl s q
        by_cases hl2 : 256 ≤ L.length
        · rw [if_pos hl2] at hE
          have e1 : create S s = (4, S) := by unfold create; rw [hE]; exact gate_err (by decide)
          rw [e1]
          obtain ⟨-, A, c, rfl, hF, -⟩ := Fs.of_own hl.row
          have c0 := hl.box.cell 0
          simp at c0
          have i1 : (256 : Int) ≤ (L.length : Int) := by omega
          have hd2 := Lib.hid hd
          clear e1 hE hd hd' okC q hF hl2
          go_enter Try.func30, Try.ntmps30
          go_wp2_with fail
          refine hN.mono ?_
          rintro e w1 ⟨rfl, rfl⟩
          go_wp2_with fail
          go_ret
          exact ⟨rfl, Wd.Mv.refl _ _, Rsk.gr ⟨_, L, am, lf, by rw [hd2.out]; exact hl, hp, ok, hA, hw⟩ (Nat.le_refl _) hl.bd⟩
        · rw [if_neg hl2] at hE
          have g1 : decide ((256 : Int) ≤ (L.length : Int)) = false := decide_eq_false (by omega)
          have hE' := Lib.hid hE
          have hd2 := Lib.hid hd
          have okC' := Lib.hid okC
          have hp' := Lib.hid hp
          have hvf := Fs.of_own hl.row
          obtain ⟨-, A, c, rfl, hF, -⟩ := hvf
          have c0 := hl.box.cell 0
          simp at c0
          have hnn := Lib.hid (fnd_none q)
          clear hE hd hd' okC q hl2 hp few
          by_cases ha : S.arm = 0
          · obtain ⟨ham, hlf⟩ : am = true ∧ lf = 0 := by
              cases am
              · have := hA.2 rfl; omega
              · exact ⟨rfl, (hA.1 rfl).1.trans ha⟩
            subst ham hlf
            have hS := rdies_yes hl
            have hA' := Lib.hid hA
            have ha' := Lib.hid ha
            clear hA ha hF
            go_enter Try.func30, Try.ntmps30
            go_wp2_with fail
            refine hN.mono ?_
            rintro e w1 ⟨rfl, rfl⟩
            go_wp2_with fail
            refine hS.mono ?_
            rintro e w2 ⟨rfl, hl2, hg2⟩
            go_wp2_with fail
            go_ret
            have e1 : create S s = (12, { S with dead := true }) := by unfold create; rw [hE'.out]; exact gate_die ha'.out
            rw [e1]
            refine ⟨rfl, mv_one hg2 hl.hr, Rsk.gr ⟨_, L, true, 0, hl2, hp'.out, ?_, hA'.out, hw⟩ hg2.size hl.bd⟩
            have := okC'.out
            rw [e1] at this
            exact this
          · have hS := rdies_no hl hA ha hw _ (Lib.hid rfl)
            have ha' := Lib.hid ha
            have hA' := Lib.hid hA
            clear ha hA hF
            go_enter Try.func30, Try.ntmps30
            go_wp2_with fail
            refine hN.mono ?_
            rintro e w1 ⟨rfl, rfl⟩
            go_wp2_with fail
            refine hS.mono ?_
            rintro e w2 ⟨rfl, lf', hl2, hg2, hA2, hw2⟩
            have mv2 : Wd.Mv H w1 w2 := mv_one hg2 hl.hr
            have hbd1 := hl.bd
            clear c0 c4
            have hrow := hl2.row
            have hvf := Fs.of_own hl2.row
            obtain ⟨-, A', c', hv', hF, -⟩ := hvf
            obtain ⟨rfl, -, rfl⟩ : A = A' ∧ L.length = L.length ∧ c = c' := by simpa using hv'
            have c0 := hl2.box.cell 0
            simp at c0
            have hrlt := hl2.box.lt
            have f02 : w2.frozen? ⟨r, 0, none⟩ = false := hl2.box.free 0
            have hsh : ∀ f ∈ L, ∃ A n c, f.v = .slice A n c := fun f hf => by
              obtain ⟨A1, n1, c1, hv, _⟩ := Wd.Sl.of_own (hl2.fil f hf)
              exact ⟨A1, n1, c1, hv⟩
            have hcp := hF.cap
            have hmx := hF.max
            unfold maxLen at hmx
            have hA2' := Lib.hid hA2
            have hg2' := Lib.hid hg2
            clear hv' hN hS hl n1 n2 hA2 hg2
            go_wp2_with fail
            go_loopw [5, 6, 7] (fun ov dv iv wr => ∃ (k : Nat) (dn : Bool) (M : List Fil), iv = .int .i64 (k : Int) ∧ k ≤ L.length ∧ dv = .bool dn ∧ wr.ownsRow 0 64 3 ov M.length (flat3 M) ∧ (∀ x, ov.ownBlock = some x → w2.heap.size ≤ x) ∧ Below w2.heap.size w2 wr ∧ Hid (Cr s L k dn M)) (fun _ _ iv _ => L.length - (intOf iv).toNat)
            case atStart => exact ⟨0, false, [], rfl, Nat.zero_le _, rfl, World.ownsRow_nil _ _ _ _, by simp [Value.ownBlock], Below.refl _ _, ⟨fun _ => ⟨rfl, by simp⟩, fun q => by cases q⟩⟩
            case round =>
              obtain ⟨k, dn, M, rfl, hk, rfl, hown, hnew, hB, hR⟩ := hrel
              have hML := hR.out.len
              have c0r := (hB.cell (p := ⟨r, 0, none⟩) hrlt).trans c0
              have f0r := (World.frozen?_of_block (a := ⟨r, 0, none⟩) (hB.block r hrlt)).trans f02
              obtain ⟨ov, hov⟩ : ∃ ov, ov = u5 := ⟨_, rfl⟩
              rw [← hov] at hown hnew ⊢
              clear hov
              by_cases hkl : k < L.length
              · obtain ⟨b, rfl, hlt, d0, d1, d2⟩ := hF.rd k hkl
                have i1 : (k : Int) < (L.length : Int) := by omega
                obtain ⟨f, hf⟩ : ∃ f, f = L[k] := ⟨_, rfl⟩
                obtain ⟨A1, n1, c1, hv⟩ := hsh L[k] (List.getElem_mem hkl)
                rw [← hf] at d0 d1 d2 hv
                rw [hv] at d1
                have e0 := (hB.cell (p := ⟨b, k * 3, none⟩) hlt).trans d0
                have e1 := (hB.cell (p := ⟨b, k * 3 + 1, none⟩) hlt).trans d1
                have e2 := (hB.cell (p := ⟨b, k * 3 + 2, none⟩) hlt).trans d2
                have D := Lib.hid (And.intro d0 (And.intro d1 d2))
                have hne := str_ne (hnn.out L[k] (List.getElem_mem hkl))
                rw [← hf] at hne
                have hbl : Op.bytesLess f.name.toList s.toList = !bef s f.name := less_ne (by have := hnn.out L[k] (List.getElem_mem hkl); rw [← hf] at this; exact this)
                obtain ⟨nm, hnm⟩ : ∃ nm, nm = f.name := ⟨_, rfl⟩
                rw [← hnm] at e0 hne hbl D
                have hv' := Lib.hid hv
                have hf' := Lib.hid hf
                have hnm' := Lib.hid hnm
                have hs1 : ∀ g ∈ [f], ∃ A n c, g.v = .slice A n c := fun g hg => by rw [List.mem_singleton.1 hg]; exact ⟨A1, n1, c1, hv'.out⟩
                clear d0 d1 d2 hv hf hF hnm
                cases dn
                · by_cases hb : bef s nm = true
                  · rw [hb, Bool.not_true] at hbl
                    have tok1 : True := trivial
                    go_wp2_with (first
                      | (at_builtin; have _t := tok1; refine wpList_app3 _ rfl (.tmp 55) (.tmp 58) 59 rfl 0 64 i0 _ 48 Try.underlying59 Z.out.1 Z.out.2.1 Z.out.2.2.1 Z.out.2.2.2 rfl ov M rfl (hown.alloc _) (some ⟨wr.heap.size, 0, none⟩) 1 1 [nf s] rfl rfl (fun e => by cases e) (one_cells wr (nf s) _ rfl) (fun g hg => by rw [List.mem_singleton.1 hg]; exact ⟨none, 0, 0, rfl⟩) (by simp only [List.length_singleton]; omega) (by simp only [List.length_singleton]; unfold maxLen; omega) (Nat.zero_le _) ?_; intro v3 w3 hown3 hg3 hloc3; have h3 := Lib.hid (cr_step hB hnew hg3 hloc3); have c03 := (h3.out.1.cell (p := ⟨r, 0, none⟩) hrlt).trans c0; have e03 := (h3.out.1.cell (p := ⟨b, k * 3, none⟩) hlt).trans D.out.1; have e13 := (h3.out.1.cell (p := ⟨b, k * 3 + 1, none⟩) hlt).trans D.out.2.1; have e23 := (h3.out.1.cell (p := ⟨b, k * 3 + 2, none⟩) hlt).trans D.out.2.2; clear tok1)
                      | (at_builtin; refine wpList_app3 _ rfl (.tmp 60) (.tmp 68) 59 rfl 0 64 i0 _ 48 Try.underlying59 Z.out.1 Z.out.2.1 Z.out.2.2.1 Z.out.2.2.2 rfl v3 (M ++ [nf s]) rfl (hown3.alloc _) (some ⟨w3.heap.size, 0, none⟩) 1 1 [f] rfl rfl (fun e => by cases e) (one_cells w3 f _ (by unfold fl3; rw [hv'.out, hnm'.out])) hs1 (by simp only [List.length_singleton, List.length_append]; omega) (by simp only [List.length_singleton, List.length_append]; unfold maxLen; omega) (Nat.zero_le _) ?_; intro v4 w4 hown4 hg4 hloc4)
                      | fail)
                    go_roundw
                    case rel =>
                      have h4 := cr_step h3.out.1 h3.out.2 hg4 hloc4
                      refine ⟨k + 1, true, (M ++ [nf s]) ++ [f], by simp, by omega, rfl, hown4, h4.2, h4.1, ?_⟩
                      rw [hf'.out]
                      exact hR.out.put hkl (by rw [← hf'.out, ← hnm'.out]; exact hb)
                    case measure => simp [intOf]; omega
                  · rw [Bool.not_eq_true] at hb
                    rw [hb, Bool.not_false] at hbl
                    go_wp2_with (first
                      | (at_builtin; refine wpList_app3 _ rfl (.tmp 60) (.tmp 68) 59 rfl 0 64 i0 _ 48 Try.underlying59 Z.out.1 Z.out.2.1 Z.out.2.2.1 Z.out.2.2.2 rfl ov M rfl (hown.alloc _) (some ⟨wr.heap.size, 0, none⟩) 1 1 [f] rfl rfl (fun e => by cases e) (one_cells wr f _ (by unfold fl3; rw [hv'.out, hnm'.out])) hs1 (by simp only [List.length_singleton]; omega) (by simp only [List.length_singleton]; unfold maxLen; omega) (Nat.zero_le _) ?_; intro v4 w4 hown4 hg4 hloc4)
                      | fail)
                    go_roundw
                    case rel =>
                      have h4 := cr_step hB hnew hg4 hloc4
                      refine ⟨k + 1, false, M ++ [f], by simp, by omega, rfl, hown4, h4.2, h4.1, ?_⟩
                      rw [hf'.out]
                      exact hR.out.stay hkl (fun _ => by rw [← hf'.out, ← hnm'.out]; exact hb)
                    case measure => simp [intOf]; omega
                · clear hbl
                  go_wp2_with (first
                    | (at_builtin; refine wpList_app3 _ rfl (.tmp 60) (.tmp 68) 59 rfl 0 64 i0 _ 48 Try.underlying59 Z.out.1 Z.out.2.1 Z.out.2.2.1 Z.out.2.2.2 rfl ov M rfl (hown.alloc _) (some ⟨wr.heap.size, 0, none⟩) 1 1 [f] rfl rfl (fun e => by cases e) (one_cells wr f _ (by unfold fl3; rw [hv'.out, hnm'.out])) hs1 (by simp only [List.length_singleton]; omega) (by simp only [List.length_singleton]; unfold maxLen; omega) (Nat.zero_le _) ?_; intro v4 w4 hown4 hg4 hloc4)
                    | fail)
                  go_roundw
                  case rel =>
                    have h4 := cr_step hB hnew hg4 hloc4
                    refine ⟨k + 1, true, M ++ [f], by simp, by omega, rfl, hown4, h4.2, h4.1, ?_⟩
                    rw [hf'.out]
                    exact hR.out.stay hkl (fun q => by cases q)
                  case measure => simp [intOf]; omega
              · have hend := hR.out.end_ (by omega : L.length ≤ k)
                have hend' := Lib.hid hend
                clear hend
                cases dn
                · go_wp2_with (first
                    | (at_builtin; refine wpList_app3 _ rfl (.tmp 72) (.tmp 75) 59 rfl 0 64 i0 _ 48 Try.underlying59 Z.out.1 Z.out.2.1 Z.out.2.2.1 Z.out.2.2.2 rfl ov M rfl (hown.alloc _) (some ⟨wr.heap.size, 0, none⟩) 1 1 [nf s] rfl rfl (fun e => by cases e) (one_cells wr (nf s) _ rfl) (fun g hg => by rw [List.mem_singleton.1 hg]; exact ⟨none, 0, 0, rfl⟩) (by simp only [List.length_singleton]; omega) (by simp only [List.length_singleton]; unfold maxLen; omega) (Nat.zero_le _) ?_; intro v3 w3 hown3 hg3 hloc3; have h3 := Lib.hid (cr_step hB hnew hg3 hloc3); have c03 := (h3.out.1.cell (p := ⟨r, 0, none⟩) hrlt).trans c0; have f03 := (World.frozen?_of_block (a := ⟨r, 0, none⟩) (h3.out.1.block r hrlt)).trans f02; obtain ⟨A3, m3, k3, rfl⟩ := own_shape hown3)
                    | fail)
                  go_ret
                  exact create_end hbd1 mv2 hl2 hd2.out hp'.out okC'.out hE'.out ha'.out hA2'.out hw2 hown3 h3.out.2 h3.out.1 hend'.out.symm
                · obtain ⟨A3, m3, k3, rfl⟩ := own_shape hown
                  go_wp2_with fail
                  go_ret
                  exact create_end hbd1 mv2 hl2 hd2.out hp'.out okC'.out hE'.out ha'.out hA2'.out hw2 hown hnew hB hend'.out.symm
      · rename_i f
        have e1 : create S s = (8, S) := by unfold create; rw [hE, q, if_pos (by simp)]; exact gate_err (by decide)
        rw [e1]
        obtain ⟨i, hi, hif, hfs, hbf⟩ := place q
        have hN := rAt_some hl s i hi (by rw [hif]; exact hfs) hbf
        have i2 : (0 : Int) ≤ (i : Int) := by omega
        have hd2 := Lib.hid hd
        clear e1 hE hd hd' okC q hif hfs hbf
        go_enter Try.func30, Try.ntmps30
        go_wp2_with fail
        refine hN.mono ?_
        rintro e w1 ⟨rfl, rfl⟩
        go_wp2_with fail
        go_ret
        exact ⟨rfl, Wd.Mv.refl _ _, Rsk.gr ⟨_, L, am, lf, by rw [hd2.out]; exact hl, hp, ok, hA, hw⟩ (Nat.le_refl _) hl.bd⟩
    · have e1 : create S s = (1, S) := by unfold create; rw [hE, if_pos hn]; exact gate_err (by decide)
      rw [e1]
      have g : decide ((s.size : Int) < 1) = true ∨ decide ((s.size : Int) < 1) = false ∧ decide ((32 : Int) < (s.size : Int)) = true := by
        by_cases q : (s.size : Int) < 1
        · exact .inl (decide_eq_true q)
        · exact .inr ⟨decide_eq_false q, decide_eq_true (by omega)⟩
      have hd2 := Lib.hid hd
      clear e1 hE hd hd' okC hn
      rcases g with n1 | ⟨n1, n2⟩
      all_goals
        go_enter Try.func30, Try.ntmps30
        go_wp2_with fail
        go_ret
        exact ⟨rfl, Wd.Mv.refl _ _, Rsk.gr ⟨_, L, am, lf, by rw [hd2.out]; exact hl, hp, ok, hA, hw⟩ (Nat.le_refl _) hl.bd⟩
  · rw [hd] at hE c4 hl
    have e1 : create S s = (12, S) := by unfold create; rw [hE, if_pos rfl]; exact gate_err (by decide)
    rw [e1]
    have hd2 := Lib.hid hd
    clear e1 hE hd hd' okC
    go_enter Try.func30, Try.ntmps30
    go_wp2_with fail
    go_ret
    exact ⟨rfl, Wd.Mv.refl _ _, Rsk.gr ⟨_, L, am, lf, by rw [hd2.out]; exact hl, hp, ok, hA, hw⟩ (Nat.le_refl _) hl.bd⟩
end
end Dk
end Go.Proofs.Ythangnhccbnfbaa
