/- What lose and Crash of package disk do. -/
import Derived.Test.YthangnhccbnfbaaDkNames
import Derived.Test.YthangnhccbnfbaaDkOf
namespace Go.Proofs.Ythangnhccbnfbaa
open Go.RowKit Go.Maps
namespace Dk
theorem upd_set {L : List Fil} (h : Up Fil.name L) {j : Nat} (hj : j < L.length) (f' : Fil) : upd Fil.name (L[j]).name (fun _ => f') L = L.set j f' := by
  refine List.ext_getElem (by simp [upd]) fun i h1 h2 => ?_
  have hi : i < L.length := by simpa [upd] using h1
  simp only [upd, List.getElem_map, List.getElem_set]
  by_cases e : j = i
  · subst e
    simp
  · rw [if_neg e, if_neg]
    intro q
    have hp := List.pairwise_iff_getElem.1 h.apart
    rcases Nat.lt_or_gt_of_ne e with k | k
    · exact hp j i hj hi k q.symm
    · exact hp i j hi hj k q
theorem crash_same {keep : List Int} {i : Nat} {f : Pf} {r : List Pf} (h : f.data.length = f.syn) : crashF keep i (f :: r) = f :: crashF keep i r := by
  rw [crashF, if_pos h]
theorem crash_turn {keep : List Int} {i : Nat} {f : Pf} {r : List Pf} (h : f.data.length ≠ f.syn) :
    crashF keep i (f :: r) = ⟨f.name, f.data.take (f.syn + kept keep i (f.data.length - f.syn)), f.syn + kept keep i (f.data.length - f.syn)⟩ :: crashF keep (i + 1) r := by
  rw [crashF, if_neg h]
/-- Behind j of the names: the first j files are as the crash leaves them, the others as they were. -/
structure Rl (keep : List Int) (fs : List Pf) (L : List Fil) (j i : Nat) : Prop where
  rest : (L.map Fil.pf).drop j = fs.drop j
  done : crashF keep 0 fs = (L.map Fil.pf).take j ++ crashF keep i (fs.drop j)
  syn : ∀ f ∈ L, f.syn ≤ f.data.length ∧ f.data.length ≤ 16777216
  len : L.length = fs.length
  ij : i ≤ j
section
variable {keep : List Int} {fs : List Pf} {L : List Fil} {j i : Nat}
theorem Rl.start {S : Pd} (ok : S.Ok) (hp : L.map Fil.pf = S.fs) : Rl keep S.fs L 0 0 := by
  have hu : used S.fs = usedF L := by rw [← hp]; exact usedF_pf L
  refine ⟨by rw [hp], by simp, fun f hf => ⟨?_, ?_⟩, by rw [← hp]; simp, Nat.le_refl _⟩
  · exact ok.syn f.pf (by rw [← hp]; exact List.mem_map.2 ⟨f, hf, rfl⟩)
  · have := le_usedF hf
    have := ok.full
    omega
theorem Rl.cons (h : Rl keep fs L j i) (hj : j < L.length) : fs.drop j = (L[j]).pf :: fs.drop (j + 1) := by
  have hj' : j < fs.length := by rw [← h.len]; exact hj
  rw [List.drop_eq_getElem_cons hj']
  congr 1
  have h1 := h.rest
  rw [List.drop_eq_getElem_cons hj', List.drop_eq_getElem_cons (by simpa using hj)] at h1
  have := (List.cons.inj h1).1
  rw [← this]
  simp
theorem Rl.next (h : Rl keep fs L j i) : (L.map Fil.pf).drop (j + 1) = fs.drop (j + 1) := by
  have := congrArg (List.drop 1) h.rest
  simpa [List.drop_drop, Nat.add_comm] using this
theorem Rl.same (h : Rl keep fs L j i) (hj : j < L.length) (h0 : (L[j]).data.length = (L[j]).syn) : Rl keep fs L (j + 1) i := by
  refine ⟨h.next, ?_, h.syn, h.len, Nat.le_succ_of_le h.ij⟩
  rw [h.done, h.cons hj]
  rw [crash_same (show (L[j]).pf.data.length = (L[j]).pf.syn from h0), List.take_succ_eq_append_getElem (by simpa using hj)]
  simp
theorem Rl.turn (h : Rl keep fs L j i) (hj : j < L.length) (h0 : (L[j]).data.length ≠ (L[j]).syn) (f' : Fil)
    (hf : f'.pf = ⟨(L[j]).name, (L[j]).data.take ((L[j]).syn + kept keep i ((L[j]).data.length - (L[j]).syn)), (L[j]).syn + kept keep i ((L[j]).data.length - (L[j]).syn)⟩) : Rl keep fs (L.set j f') (j + 1) (i + 1) := by
  have hk := kept_le keep i ((L[j]).data.length - (L[j]).syn)
  have hs := h.syn (L[j]) (List.getElem_mem hj)
  refine ⟨?_, ?_, fun f hf' => ?_, by rw [List.length_set, h.len], by have := h.ij; omega⟩
  · rw [← h.next, List.map_set, List.drop_set_of_lt (by omega)]
  · rw [h.done, h.cons hj]
    rw [crash_turn (show (L[j]).pf.data.length ≠ (L[j]).pf.syn from h0), List.map_set, List.take_succ_eq_append_getElem (by simpa using hj), List.take_set_of_le (Nat.le_refl _), hf]
    simp [Fil.pf]
  · rcases List.mem_or_eq_of_mem_set hf' with q | rfl
    · exact h.syn f q
    · have e1 := congrArg Pf.data hf
      have e2 := congrArg Pf.syn hf
      simp only [Fil.pf] at e1 e2
      rw [e1, e2]
      simp only [List.length_take]
      omega
theorem Rl.all (h : Rl keep fs L j i) (hj : L.length ≤ j) : L.map Fil.pf = crashF keep 0 fs := by
  rw [h.done, List.take_of_length_le (by simpa using hj), List.drop_of_length_le (by rw [← h.len]; exact hj)]
  simp [crashF]
end
section
variable {w : World} {d m : Nat} {L : List Fil} {cap arm : Int} {dead : Bool} {G : Nat → Prop}
set_option maxHeartbeats 4000000 in
theorem lose_any (S : Pd) (ok : S.Ok) (h : Lay w d m L cap arm dead G) (hp : L.map Fil.pf = S.fs) (A : Option Addr) (n c : Nat) (keep : List Int) (hS : ∀ W, Wd.Mv G w W → Wd.Sl W .i64 A n c keep) (hF : Wd.Fits .i64 keep) :
    Calls Try.prog 42 #[pt d, .func (.func 43) #[.slice A n c] #[]] w fun e w' => e = .returned (.tuple #[]) ∧ Wd.Mv G w w' ∧ ∃ L', Lay w' d m L' cap arm dead G ∧ L'.map Fil.pf = crashF keep 0 S.fs := by
  have hst := Rl.start (keep := keep) ok hp
  have few := ok.few
  have hL : L.length ≤ 256 := by rw [← hp] at few; simpa using few
  have hnm := names_any h (by omega)
  have hnm2 : ∀ f ∈ L, f.name.size ≤ 32 := fun f hf => ok.name f.pf (by rw [← hp]; exact List.mem_map.2 ⟨f, hf, rfl⟩)
  have hnm2 := Lib.hid hnm2
  have hbd := h.bd
  have hbd' := Lib.hid hbd
  have hS' := Lib.hid hS
  have hst' := Lib.hid hst
  clear hst hbd hS hp few
  go_enter Try.func42, Try.ntmps42
  go_wp2_with fail
  refine hnm.mono ?_
  rintro e w1 ⟨v, rfl, ho, hb1⟩
  rw [show (L.map fun f => Value.string f.name) = (L.map Fil.name).map Value.string by rw [List.map_map]; rfl] at ho
  obtain ⟨A1, c1, rfl, hN1, hA1⟩ := Ns.of_own ho
  have hml : (L.map Fil.name).length = L.length := by simp
  have hml' := Lib.hid hml
  rw [hml] at hN1 ⊢
  clear ho hml
  have hl1 := h.below hb1
  have mv1 : Wd.Mv G w w1 := Wd.Mv.of_below hb1
  go_wp2_with fail
  go_loopw [4, 12] (fun iv jv wr => ∃ (Lc : List Fil) (j i : Nat), iv = .int .i64 (i : Int) ∧ jv = .int .i64 (j : Int) ∧ j ≤ L.length ∧ Lay wr d m Lc cap arm dead G ∧ Wd.Mv G w1 wr ∧ Hid (Rl keep S.fs Lc j i) ∧ Hid (Lc.map Fil.name = L.map Fil.name)) (fun _ jv _ => L.length - (intOf jv).toNat)
  case atStart => exact ⟨L, 0, 0, rfl, rfl, Nat.zero_le _, hl1, Wd.Mv.refl _ _, hst'.out, rfl⟩
  case round =>
    obtain ⟨Lc, j, i, rfl, rfl, hj, hl, mv, hR, hNm⟩ := hrel
    obtain ⟨wo, rfl⟩ : ∃ wo : World, wo = wr := ⟨_, rfl⟩
    have hLc : Lc.length = L.length := by
      have := congrArg List.length hNm.out
      simpa using this
    have hLc' := Lib.hid hLc
    clear hLc
    by_cases hlt : j < L.length
    · have hjc : j < Lc.length := by rw [hLc'.out]; exact hlt
      obtain ⟨f, hf⟩ : ∃ f, f = Lc[j] := ⟨_, rfl⟩
      have hfm : f ∈ Lc := by rw [hf]; exact List.getElem_mem hjc
      have hN := hN1.mv (fun a ha hg => by have := hA1 a ha; have := hbd'.out _ hg; omega) mv
      obtain ⟨b, rfl, hblt, hcell⟩ := hN.rd j (by rw [hml'.out]; exact hlt)
      have hname : (L.map Fil.name).getD j ByteArray.empty = f.name := by
        rw [← hNm.out, hf]
        simp [List.getD, hjc]
      rw [hname] at hcell
      have c0 := hl.box.cell 0
      simp at c0
      have hfn : fnd Fil.name f.name Lc = some f := hl.up.mem_fnd hfm
      have hsz := hR.out.syn f hfm
      obtain ⟨fv, ps, hrun, hv0⟩ := hl.own.lookup law Try.underlying56 (zeroF wo) (zd := .nil) (zp := []) rfl (key_of (s := f.name) (by
        have : f.name ∈ L.map Fil.name := by rw [← hNm.out]; exact List.mem_map.2 ⟨f, hfm, rfl⟩
        obtain ⟨g, hg, e⟩ := List.mem_map.1 this
        have := hnm2.out g hg
        rw [← e]
        exact small (by omega)))
      rw [at_Dm, hfn] at hv0
      obtain rfl := fp_inv hv0
      obtain ⟨A0, c2, hv, hsl, -⟩ := hl.shape hfm
      have hBf := hl.fil f hfm
      rw [hv] at hBf
      have b0 := hBf.cell 0
      have b1 := hBf.cell 1
      simp at b0 b1
      have hv' := Lib.hid hv
      have hf' := Lib.hid hf
      have hfn' := Lib.hid hfn
      have hname' := Lib.hid hname
      have i1 : (j : Int) < (L.length : Int) := by omega
      have i2 : (f.syn : Int) ≤ (f.data.length : Int) := by omega
      have i3 : (f.data.length : Int) ≤ 16777216 := by omega
      clear hv hf hfn hv0 hname hsz
      by_cases h0 : f.data.length = f.syn
      · have hq : ((f.data.length : Int) - (f.syn : Int) == 0) = true := by rw [h0]; simp
        have h0' := Lib.hid h0
        clear h0
        go_wp2_with fail
        go_quiet (fail)
        go_wp2_with fail
        go_roundw
        case rel => exact ⟨Lc, j + 1, i, rfl, by simp, hlt, hl.below (Wd.below_drewN (Below.refl _ _) _), mv.then ⟨rfl, rfl, rfl, Nat.le_refl _, fun _ _ _ => rfl⟩, hR.out.same hjc (by rw [← hf'.out]; exact h0'.out), hNm⟩
        case measure => simp [intOf]; omega
      · have hq : ((f.data.length : Int) - (f.syn : Int) == 0) = false := by simp; omega
        have hC : ∀ W, Wd.Mv G w W → Calls Try.prog 43 #[.slice A n c, .int .i64 (i : Int), .int .i64 ((f.data.length : Int) - (f.syn : Int))] W fun e w' => e = .returned (.int .i64 (kept keep i (f.data.length - f.syn) : Int)) ∧ w' = W := by
          intro W hW
          have := of_any A n c keep i (f.data.length - f.syn) W (hS'.out W hW) hF (by have := hR.out.ij; omega) (by omega)
          rwa [Int.natCast_sub (by omega)] at this
        have hmq : ∀ q, Wd.Mv G w (wo.drewN q) := fun q => (mv1.then mv).then ⟨rfl, rfl, rfl, Nat.le_refl _, fun _ _ _ => rfl⟩
        have hBq : ∀ q, Wd.Bx (wo.drewN q) f.blk 70 #[.slice A0 f.data.length c2, .int .i64 (f.syn : Int)] := fun _ => hBf
        have h0' := Lib.hid h0
        have hkl := kept_le keep i (f.data.length - f.syn)
        obtain ⟨k, hk⟩ : ∃ k, k = kept keep i (f.data.length - f.syn) := ⟨_, rfl⟩
        rw [← hk] at hkl
        simp only [← hk] at hC
        have hC' := Lib.hid hC
        have hk' := Lib.hid hk
        have i4 : (f.syn : Int) + (k : Int) ≤ (f.data.length : Int) := by omega
        have fr0 := hBf.free 0
        have fr1 := hBf.free 1
        have iw : IntKind.i64.wrap ((f.syn : Int) + (k : Int)) = (f.syn : Int) + (k : Int) := IntWalk.i64_in _ (by omega)
        clear hC hk h0
        go_wp2_with fail
        go_quiet (fail)
        go_upto_region 7 with fail
        go_cut [7] (fun fv wx => fv = pt f.blk ∧ Wd.Bx wx f.blk 70 #[.slice A0 f.data.length c2, .int .i64 ((f.syn : Int) + (k : Int))] ∧ wo.grownBy wx (some f.blk) ∧ wx.heap.size = wo.heap.size)
        case first =>
          go_region_with (first | (go_at_call 43; (with_reducible refine (hC'.out _ (hmq _)).mono ?_); rintro e w5 ⟨rfl, rfl⟩))
          all_goals (go_wp2_with fail; go_meet; exact ⟨rfl, by simpa using (hBq _).set 1 (.int .i64 ((f.syn : Int) + (k : Int))), ⟨rfl, rfl, rfl, by simp [World.setCell, World.drewN], fun g _ hg => Below.heap_setCell _ _ _ _ (by simpa using hg)⟩, by simp [World.setCell, World.drewN]⟩)
        case rest =>
          obtain ⟨rfl, hB7, hg7, hz7⟩ := hcut
          obtain ⟨wx, rfl⟩ : ∃ wx : World, wx = wc := ⟨_, rfl⟩
          have hz7' := Lib.hid hz7
          have e0 := hB7.cell 0
          have e1 := hB7.cell 1
          simp at e0 e1
          have g0 := hB7.free 0
          have i5 : (f.data.length : Int) ≤ (c2 : Int) := by have := hsl.cap; omega
          clear hz7 hrun hcell c0 b0 b1 fr0 fr1 iw hq
          go_upto_region 8 with fail
          go_cut [7] (fun fv wy => fv = pt f.blk ∧ Wd.Bx wy f.blk 70 #[.slice A0 (f.syn + k) c2, .int .i64 ((f.syn : Int) + (k : Int))] ∧ wx.grownBy wy (some f.blk) ∧ wy.heap.size = wx.heap.size)
          case first =>
            go_region
            all_goals (go_wp2_with fail; go_meet; exact ⟨rfl, Wd.Bx.drew (by simpa using hB7.set 0 (.slice A0 (f.syn + k) c2)), ⟨rfl, rfl, rfl, by simp [World.setCell], fun g _ hg => Below.heap_setCell _ _ _ _ (by simpa using hg)⟩, by simp [World.setCell]⟩)
          case rest =>
            obtain ⟨rfl, hB8, hg8, hz8⟩ := hcut
            obtain ⟨wy, rfl⟩ : ∃ wy : World, wy = wc := ⟨_, rfl⟩
            have i6 : (i : Int) ≤ 256 := by have := hR.out.ij; omega
            have hz8' := Lib.hid hz8
            clear hz8 e0 e1 g0
            go_wp2_with fail
            go_roundw
            case rel =>
              have hzz : wy.heap.size = wo.heap.size := hz8'.out.trans hz7'.out
              have hgg : ∀ g, g < wo.heap.size → g ≠ f.blk → wy.heap[g]? = wo.heap[g]? := fun g hg hne => (hg8.block g (by rw [hz7'.out]; exact hg) (by simpa using hne)).trans (hg7.block g hg (by simpa using hne))
              have hown := hl.row f hfm
              have hfv := hl.fv hfm hfm
              have hvv := hv'.out
              rw [hvv] at hown hfv
              have hle : f.syn + k ≤ f.data.length := by omega
              have hcut := Wd.own_head hown hle
              rw [← List.map_take, show f.syn + k = (f.data.take (f.syn + k)).length by simp [hle]] at hcut
              have hlk : (f.data.take (f.syn + k)).length = f.syn + k := by simp [hle]
              have ht := hl.turn_file (w' := wy) (f' := ⟨f.name, f.data.take (f.syn + k), f.syn + k, f.blk, .slice A0 (f.syn + k) c2⟩) hfm rfl rfl (by simpa using hB8)
                (by
                  refine Wd.own_keep (w := wo) (by simpa [hlk] using hcut) fun x hx => ?_
                  have hx' : (Value.slice A0 f.data.length c2).ownBlock = some x := by
                    cases A0 with
                    | none => simp [Value.ownBlock] at hx
                    | some a => simpa [Value.ownBlock] using hx
                  exact hgg x (Wd.own_lt hown hx').1 (fun e => hfv (by rw [hx', e])))
                (fun x hx => by
                  left
                  rw [hvv]
                  cases A0 with
                  | none => simp [Value.ownBlock] at hx
                  | some a => simpa [Value.ownBlock] using hx)
                (fun g hg hne _ => hgg g hg hne) (by omega)
              have hset := upd_set hl.up hjc ⟨f.name, f.data.take (f.syn + k), f.syn + k, f.blk, .slice A0 (f.syn + k) c2⟩
              rw [← hf'.out] at hset
              rw [hset] at ht
              refine ⟨_, j + 1, i + 1, by simp, by simp, hlt, ht.grow (fun g hg => ?_) (fun g hg => ?_), (mv.then (mv_one hg7 (hl.gf f hfm))).then (mv_one hg8 (hl.gf f hfm)), hR.out.turn hjc (by rw [← hf'.out]; exact h0'.out) _ ?_, ?_⟩
              · rcases hg with q | q
                · exact q
                · omega
              · have := hl.bd g hg
                omega
              · rw [← hf'.out, ← hk'.out]
                rfl
              · have := hNm.out
                show _ = _
                rw [← this, List.map_set, show (f.name : ByteArray) = (Lc.map Fil.name)[j]'(by simpa using hjc) by simp [hf'.out], List.set_getElem_self]
            case measure => simp [intOf]; omega
    · go_wp2_with fail
      go_end0
      refine ⟨rfl, mv1.then mv, Lc, hl, hR.out.all (by rw [hLc'.out]; omega)⟩
theorem crash_any {S : Pd} (h : Dsk w d G S) (A : Option Addr) (n c : Nat) (keep : List Int) (hS : ∀ W, Wd.Mv G w W → Wd.Sl W .i64 A n c keep) (hF : Wd.Fits .i64 keep) :
    Calls Try.prog 21 #[pt d, .slice A n c] w (Did0 w d G (crash S keep)) := by
  obtain ⟨m, L, hl, hp, ok⟩ := h
  have okC := ok.crash keep
  have c2 := hl.box.cell 2
  have c3 := hl.box.cell 3
  have f2 := hl.box.free 2
  have f3 := hl.box.free 3
  simp at c2 c3
  have hb := (hl.box.set 3 (.bool false)).set 2 (.int .i64 (-1))
  obtain ⟨w1, hw1⟩ : ∃ w1, w1 = (w.setCell ⟨d, 3, none⟩ (.bool false)).setCell ⟨d, 2, none⟩ (.int .i64 (-1)) := ⟨_, rfl⟩
  rw [← hw1] at hb
  have hg : w.grownBy w1 (some d) := by
    subst hw1
    exact ⟨rfl, rfl, rfl, by simp [World.setCell], fun k _ hk => (Below.heap_setCell _ _ _ _ (by simpa using hk)).trans (Below.heap_setCell _ _ _ _ (by simpa using hk))⟩
  have hl1 : Lay w1 d m L S.cap (-1) false G := hl.turn_box (by simpa using hb) hg
  have mv1 : Wd.Mv G w w1 := mv_one hg hl.gd
  have hC := lose_any S ok hl1 hp A n c keep (fun W hW => hS W (mv1.then hW)) hF
  have hC' := Lib.hid hC
  have hw1' := Lib.hid hw1
  have hp' := Lib.hid hp
  clear hC hw1 hp hS
  go_enter Try.func21, Try.ntmps21
  go_wp2_with fail
  rw [← hw1'.out]
  refine hC'.out.mono ?_
  rintro e w2 ⟨rfl, mv2, L', hl2, hp2⟩
  go_wp2_with fail
  go_end0
  exact ⟨rfl, mv1.then mv2, Dsk.gr ⟨m, L', hl2, hp2, okC⟩ (mv1.then mv2).size hl.bd⟩
end
end Dk
end Go.Proofs.Ythangnhccbnfbaa
