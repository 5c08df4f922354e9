/- What Crash of the reference's disk does. -/
import Derived.Test.YthangnhccbnfbaaDkRefD
import Derived.Test.YthangnhccbnfbaaDkOpT
import Derived.WalkLawsBesides
namespace Go.Proofs.Ythangnhccbnfbaa
open Go.RowKit Go.Maps
namespace Dk
theorem flat3_both : ∀ (L : List Fil) (i : Nat) (hi : i < L.length) (u : Value) (k : Nat) (da : List Int) (bl : Nat), ((flat3 L).set (i * 3 + 1) u).set (i * 3 + 2) (.int .i64 (k : Int)) = flat3 (L.set i ⟨L[i].name, da, k, bl, u⟩)
  | f :: r, 0, _, u, k, da, bl => by simp [flat3_cons, fl3]
  | f :: r, i + 1, hi, u, k, da, bl => by
    have := flat3_both r i (by simpa using hi) u k da bl
    rw [flat3_cons, List.set_cons_succ, flat3_cons, show (i + 1) * 3 + 1 = (i * 3 + 1) + 3 by omega, show (i + 1) * 3 + 2 = (i * 3 + 2) + 3 by omega]
    simp only [fl3, List.cons_append, List.nil_append, List.set_cons_succ, List.getElem_cons_succ]
    rw [this]
/-- One file cut short in the reference's row. -/
theorem ref_cut {w wz : World} {r b m c0 j q n1 c1 : Nat} {A1 : Option Addr} {Lc : List Fil} {room lf : Int} {am dead : Bool} {H : Nat → Prop} (hl : Ref w r (.slice (some ⟨b, 0, none⟩) m c0) Lc room am lf dead H) (hj : j < Lc.length)
    (hbox : Wd.Bx wz r 61 #[.slice (some ⟨b, 0, none⟩) m c0, .int .i64 room, .bool am, .int .i64 lf, .bool dead])
    (hrow : wz.ownsRow 0 64 3 (.slice (some ⟨b, 0, none⟩) m c0) Lc.length (((flat3 Lc).set (j * 3 + 1) (.slice A1 q c1)).set (j * 3 + 2) (.int .i64 (q : Int))))
    (hk : ∀ g, g < w.heap.size → g ≠ b → wz.heap[g]? = w.heap[g]?) (hs : w.heap.size ≤ wz.heap.size) (hv : (Lc[j]).v = .slice A1 n1 c1) (hn1 : n1 = (Lc[j]).data.length) (hq : q ≤ n1) :
    Ref wz r (.slice (some ⟨b, 0, none⟩) m c0) (Lc.set j ⟨(Lc[j]).name, (Lc[j]).data.take q, q, (Lc[j]).blk, .slice A1 q c1⟩) room am lf dead H := by
  have hfm := List.getElem_mem hj
  rw [flat3_both Lc j hj _ _ ((Lc[j]).data.take q) (Lc[j]).blk] at hrow
  have hown := hl.fil _ hfm
  have hvb : ∀ f ∈ Lc, ∀ x, f.v.ownBlock = some x → x < w.heap.size ∧ x ≠ b := fun f hf x hx => ⟨(Wd.own_lt (hl.fil f hf) hx).1, fun e => by subst e; exact hl.vf hf (x := x) rfl hx⟩
  have hold : ∀ x, (Value.slice A1 q c1).ownBlock = some x → (Lc[j]).v.ownBlock = some x := fun x hx => by
    rw [hv]
    cases A1 with
    | none => simp [Value.ownBlock] at hx
    | some a => simpa [Value.ownBlock] using hx
  have hcut := hown
  rw [hv, ← hn1] at hcut
  have hcut := Wd.own_head hcut hq
  rw [← List.map_take] at hcut
  have hlq : ((Lc[j]).data.take q).length = q := by rw [List.length_take]; omega
  refine ⟨hbox, by rw [List.length_set]; exact hrow, fun f hf => ?_, hl.hr, hl.hv, fun f hf x hx => ?_, fun g hg => Nat.lt_of_lt_of_le (hl.bd g hg) hs⟩
  · rcases List.mem_or_eq_of_mem_set hf with p | rfl
    · exact Wd.own_keep (hl.fil f p) fun x hx => hk x (hvb f p x hx).1 (hvb f p x hx).2
    · refine Wd.own_keep (w := w) (by simpa [hlq] using hcut) fun x hx => ?_
      have := hvb _ hfm x (hold x hx)
      exact hk x this.1 this.2
  · rcases List.mem_or_eq_of_mem_set hf with p | rfl
    · exact hl.hf f p x hx
    · exact hl.hf _ hfm x (hold x hx)
section
variable {w : World} {r : Nat} {H : Nat → Prop} {S : Pd}
set_option maxRecDepth 100000 in
set_option maxHeartbeats 4000000 in
theorem rcrash_any (h : Rsk w r H S) (A : Option Addr) (n c : Nat) (keep : List Int) (hS : ∀ W, Wd.Mv H w W → Wd.Sl W .i64 A n c keep) (hF : Wd.Fits .i64 keep) :
    Calls Try.prog 35 #[pt r, .slice A n c] w (RDid0 w r H (crash S keep)) := by
  obtain ⟨v, L, am, lf, hl, hp, ok, hA, hw⟩ := h
  have okC := ok.crash keep
  have hst := Rl.start (keep := keep) ok hp
  have few := ok.few
  have hL : L.length ≤ 256 := by rw [← hp] at few; simpa using few
  have f2 := hl.box.free 2
  have f4 := hl.box.free 4
  have hb := (hl.box.set 4 (.bool false)).set 2 (.bool false)
  obtain ⟨w1, hw1⟩ : ∃ w1, w1 = (w.setCell ⟨r, 4, none⟩ (.bool false)).setCell ⟨r, 2, none⟩ (.bool false) := ⟨_, rfl⟩
  rw [← hw1] at hb
  have hg : w.grownBy w1 (some r) := by
    subst hw1
    exact ⟨rfl, rfl, rfl, by simp [World.setCell], fun k _ hk => (Below.heap_setCell _ _ _ _ (by simpa using hk)).trans (Below.heap_setCell _ _ _ _ (by simpa using hk))⟩
  have hl1 : Ref w1 r v L S.cap false lf false H := hl.turn_box (by simpa using hb) hg
  have mv1 : Wd.Mv H w w1 := mv_one hg hl.hr
  have hbd := hl.bd
  have c2 := hl.box.cell 2
  have c4 := hl.box.cell 4
  simp at c2 c4
  obtain ⟨-, A0, c0, rfl, hF0, -⟩ := Fs.of_own hl1.row
  have hcp := hF0.cap
  have hmx := hF0.max
  have hlen := (hS w (Wd.Mv.refl _ _)).len
  have hkc := (hS w (Wd.Mv.refl _ _)).cap
  have hkm := (hS w (Wd.Mv.refl _ _)).max
  unfold maxLen at hmx hkm
  have hw1' := Lib.hid hw1
  have hS' := Lib.hid hS
  have hst' := Lib.hid hst
  have hbd' := Lib.hid hbd
  have hp' := Lib.hid hp
  have hlen' := Lib.hid hlen
  have hA' := Lib.hid hA
  clear hS hst hbd hp hw1 hF0 few hb hl hlen hg hA
  go_enter Try.func35, Try.ntmps35
  go_wp2_with fail
  rw [← hw1'.out]
  go_loopw [4, 5] (fun iv jv wr => ∃ (Lc : List Fil) (j i : Nat), iv = .int .i64 (i : Int) ∧ jv = .int .i64 (j : Int) ∧ j ≤ L.length ∧ Ref wr r (.slice A0 L.length c0) Lc S.cap false lf false H ∧ Wd.Mv H w1 wr ∧ Hid (Rl keep S.fs Lc j i) ∧ Hid (Lc.length = L.length)) (fun _ jv _ => L.length - (intOf jv).toNat)
  case atStart => exact ⟨L, 0, 0, rfl, rfl, Nat.zero_le _, hl1, Wd.Mv.refl _ _, hst'.out, Lib.hid rfl⟩
  case round =>
    obtain ⟨Lc, j, i, rfl, rfl, hj, hl, mv, hR, hLc⟩ := hrel
    have b0 := hl.box.cell 0
    simp at b0
    by_cases hlt : j < L.length
    · have hjc : j < Lc.length := by rw [hLc.out]; exact hlt
      have hrow := hl.row
      rw [hLc.out] at hrow
      obtain ⟨-, A', c', hv', hFs, -⟩ := Fs.of_own hl.row
      obtain ⟨rfl, -, rfl⟩ : A0 = A' ∧ L.length = Lc.length ∧ c0 = c' := by simpa using hv'
      obtain ⟨b, rfl, hblt, d0, d1, d2⟩ := hFs.rd j hjc
      obtain ⟨f, hf⟩ : ∃ f, f = Lc[j] := ⟨_, rfl⟩
      have hfm : f ∈ Lc := by rw [hf]; exact List.getElem_mem hjc
      rw [← hf] at d0 d1 d2
      obtain ⟨A1, n1, c1, hv, hs1⟩ := Wd.Sl.of_own (hl.fil f hfm)
      have hn1 := hs1.len
      rw [hv] at d1
      obtain ⟨nm, hnm⟩ : ∃ nm, nm = f.name := ⟨_, rfl⟩
      rw [← hnm] at d0
      obtain ⟨sy, hsy⟩ : ∃ sy, sy = f.syn := ⟨_, rfl⟩
      rw [← hsy] at d2
      have hsz := hR.out.syn f hfm
      rw [← hn1, ← hsy] at hsz
      have i1 : (j : Int) < (L.length : Int) := by omega
      have i2 : (sy : Int) ≤ (n1 : Int) := by omega
      have i3 : (n1 : Int) ≤ 16777216 := by omega
      have fr1 := hrow.frozenAt (j * 3 + 1)
      have fr2 := hrow.frozenAt (j * 3 + 2)
      have hv' := Lib.hid hv
      have hf' := Lib.hid hf
      have hnm' := Lib.hid hnm
      have hsy' := Lib.hid hsy
      have hn1' := Lib.hid hn1
      clear hv hf hnm hsy hn1 hFs hsz
      go_upto_region 6 with fail
      go_cut [6] (fun sv wx => sv = pt wr.heap.size ∧ Wd.Bx wx wr.heap.size 64 #[.string nm, .slice A1 n1 c1, .int .i64 (sy : Int)] ∧ Below wr.heap.size wr wx)
      case first =>
        go_wp2_with fail
        go_meet
        exact ⟨rfl, Wd.Bx.new wr _ _, (Below.refl _ _).alloc (Nat.le_refl _) _⟩
      case rest =>
        obtain ⟨rfl, hBx, hBl⟩ := hcut
        obtain ⟨wx, rfl⟩ : ∃ wx : World, wx = wc := ⟨_, rfl⟩
        have hrlt := hl.box.lt
        obtain ⟨x, hx⟩ : ∃ x, x = wr.heap.size := ⟨_, rfl⟩
        rw [← hx] at hBx hBl hblt hrlt ⊢
        have q1 := hBx.cell 1
        have q2 := hBx.cell 2
        simp at q1 q2
        have p0 := (hBl.cell (p := ⟨r, 0, none⟩) hrlt).trans b0
        have p1 := (hBl.cell (p := ⟨b, j * 3 + 1, none⟩) hblt).trans d1
        have p2 := (hBl.cell (p := ⟨b, j * 3 + 2, none⟩) hblt).trans d2
        have hxw : x < wx.heap.size := hBx.lt
        have hx' := Lib.hid hx
        have hmvx : Wd.Mv H w wx := mv1.then (mv.then (Wd.Mv.of_below (hx ▸ hBl)))
        have hlx := hl.below (hx ▸ hBl)
        clear b0 d0 d1 d2 fr1 fr2 hx
        by_cases h0 : n1 = sy
        · have hq : ((n1 : Int) == (sy : Int)) = true := by rw [h0]; simp
          have h0' := Lib.hid h0
          clear h0
          go_wp2_with fail
          go_roundw
          case rel =>
            refine ⟨Lc, j + 1, i, rfl, by simp, hlt, hlx, mv.then (Wd.Mv.of_below (hx'.out ▸ hBl)), hR.out.same hjc ?_, hLc⟩
            rw [← hf'.out, ← hn1'.out, ← hsy'.out]
            exact h0'.out
          case measure => simp [intOf]; omega
        · have hq : ((n1 : Int) == (sy : Int)) = false := by simp; omega
          have hkl := kept_le keep i (n1 - sy)
          obtain ⟨k, hk⟩ : ∃ k, k = kept keep i (n1 - sy) := ⟨_, rfl⟩
          rw [← hk] at hkl
          have hk' := Lib.hid hk
          have h0' := Lib.hid h0
          have hi9 : (i : Int) ≤ 256 := by have := hR.out.ij; omega
          clear h0
          obtain ⟨bb, hbb⟩ : ∃ bb : Bool, bb = (decide (0 < n) && decide (0 < keep.getD (i % keep.length) 0)) := ⟨_, rfl⟩
          have hbb' := Lib.hid hbb
          clear hk hbb
          go_upto_region 9 with fail
          go_cut [48] (fun bv wz => bv = .bool bb ∧ wz = wx)
          case first =>
            by_cases h0 : n = 0
            · have hb0 : bb = false := by rw [hbb'.out, h0]; simp
              subst h0
              go_wp2_with fail
              go_meet
              exact ⟨by rw [hb0], rfl⟩
            · have hn0 : ((n : Int) == 0) = false := by simp; omega
              have g1 : decide (0 < (n : Int)) = true := decide_eq_true (by omega)
              have hpos : 0 < keep.length := by have := hlen'.out; omega
              have hkl2 : i % keep.length < keep.length := Nat.mod_lt _ hpos
              obtain ⟨b2, o2, rfl, _, hcell⟩ := (hS'.out wx hmvx).rd (i % keep.length) hkl2
              have hwf := hF (keep.getD (i % keep.length) 0) (by simp [List.getD, List.getElem?_eq_getElem hkl2])
              have hbb2 := hbb'.out
              rw [decide_eq_true (by omega : 0 < n), Bool.true_and] at hbb2
              obtain ⟨y, hy⟩ : ∃ y, y = keep.getD (i % keep.length) 0 := ⟨_, rfl⟩
              rw [← hy] at hcell hwf hbb2
              obtain ⟨q, hq⟩ : ∃ q, q = i % keep.length := ⟨_, rfl⟩
              rw [← hq] at hcell
              have hqn : (q : Int) < (n : Int) := by have := hlen'.out; omega
              have ht : (i : Int) % (n : Int) = (q : Int) := by rw [hlen'.out, hq, ← Int.natCast_emod]
              have hbn := bounds_i64 hwf
              have i7 : 1 ≤ (n : Int) := by omega
              have hbb2' := Lib.hid hbb2
              clear hbb2 hy hq hpos hkl2 h0
              go_wp2_with fail
              go_meet
              exact ⟨by rw [hbb2'.out], rfl⟩
          case rest =>
            obtain ⟨rfl, hwz⟩ := hcut
            rw [hwz]
            clear hwz
            go_upto_if 48 with fail
            go_cut [7] (fun kv wy => kv = .int .i64 (k : Int) ∧ Below wx.heap.size wx wy)
            case first =>
              cases bb
              · have hk0 : k = 0 := by
                  have h1 := hbb'.out
                  rw [hk'.out]
                  unfold kept
                  split
                  · rfl
                  · rename_i hne
                    have : 0 < n := by
                      rw [hlen'.out]
                      exact List.length_pos_iff.2 hne
                    rw [decide_eq_true this, Bool.true_and] at h1
                    have h2 := of_decide_eq_false h1.symm
                    rw [show (max 0 (keep.getD (i % keep.length) 0)).toNat = 0 by omega, Nat.zero_mod]
                have hk0' := Lib.hid hk0
                clear hk0
                go_wp2_with fail
                go_meet
                exact ⟨by rw [hk0'.out]; rfl, Below.refl _ _⟩
              · have h1 := hbb'.out.symm
                rw [Bool.and_eq_true] at h1
                have hn1 := of_decide_eq_true h1.1
                have hn2 := of_decide_eq_true h1.2
                have hpos : 0 < keep.length := by have := hlen'.out; omega
                have hkl2 : i % keep.length < keep.length := Nat.mod_lt _ hpos
                have hE : (k : Int) = (keep.getD (i % keep.length) 0) % ((n1 : Int) - (sy : Int) + 1) := by
                  rw [hk'.out]
                  unfold kept
                  rw [if_neg (by intro e; rw [e] at hpos; simp at hpos), Int.natCast_emod, show ((max 0 (keep.getD (i % keep.length) 0)).toNat : Int) = keep.getD (i % keep.length) 0 by omega]
                  congr 1
                  omega
                obtain ⟨b2, o2, rfl, _, hcell⟩ := (hS'.out wx hmvx).rd (i % keep.length) hkl2
                have hwf := hF (keep.getD (i % keep.length) 0) (by simp [List.getD, List.getElem?_eq_getElem hkl2])
                obtain ⟨y, hy⟩ : ∃ y, y = keep.getD (i % keep.length) 0 := ⟨_, rfl⟩
                rw [← hy] at hcell hwf hE hn2
                obtain ⟨q, hq⟩ : ∃ q, q = i % keep.length := ⟨_, rfl⟩
                rw [← hq] at hcell
                have hqn : (q : Int) < (n : Int) := by have := hlen'.out; omega
                have ht : (i : Int) % (n : Int) = (q : Int) := by rw [hlen'.out, hq, ← Int.natCast_emod]
                have hbn := bounds_i64 hwf
                have i7 : 1 ≤ (n : Int) := by omega
                have hn0 : ((n : Int) == 0) = false := by simp; omega
                have hm0 : ((n1 : Int) - (sy : Int) + 1 == 0) = false := by simp; omega
                have i8 : 1 ≤ (n1 : Int) - (sy : Int) + 1 := by omega
                have hE' := Lib.hid hE
                clear hE hy hq hpos hkl2 h1 hn1
                go_wp2_with fail
                go_quiet (fail)
                go_wp2_with fail
                go_meet
                exact ⟨by rw [hE'.out], Wd.below_drewN (Below.refl _ _) _⟩
            case rest =>
              obtain ⟨rfl, hBy⟩ := hcut
              obtain ⟨wy, rfl⟩ : ∃ wy : World, wy = wc := ⟨_, rfl⟩
              have hxy : x < wy.heap.size := Nat.lt_of_lt_of_le hxw hBy.size
              have hsz : x ≤ wx.heap.size := Nat.le_of_lt hxw
              have hBxy : Wd.Bx wy x 64 #[.string nm, .slice A1 n1 c1, .int .i64 (sy : Int)] := hBx.below hxw hBy
              have hB2 : ∀ g, g < x → wy.heap[g]? = wr.heap[g]? := fun g hg => (hBy.block g (Nat.lt_of_lt_of_le hg hsz)).trans (hBl.block g hg)
              have y0 := (hBy.cell (p := ⟨r, 0, none⟩) (Nat.lt_of_lt_of_le hrlt hsz)).trans p0
              have y1 := (hBy.cell (p := ⟨b, j * 3 + 1, none⟩) (Nat.lt_of_lt_of_le hblt hsz)).trans p1
              have z1 := hBxy.cell 1
              have z2 := hBxy.cell 2
              simp at z1 z2
              have hrb : r ≠ b := fun e => hl.rv (by rw [e]; rfl)
              have hbx : b ≠ x := by omega
              have hby : b < wy.heap.size := by omega
              have hboxy : Wd.Bx wy r 61 #[.slice (some ⟨b, 0, none⟩) L.length c0, .int .i64 S.cap, .bool false, .int .i64 lf, .bool false] := hl.box.at_ (hB2 r hrlt)
              have hrowy := Wd.own_keep hrow fun g hg => hB2 g (by have := (Wd.own_lt hrow hg).1; rw [← hx'.out] at this; exact this)
              have fr1 := hrowy.frozenAt (j * 3 + 1)
              have hc1 := hs1.cap
              have i4 : (sy : Int) + (k : Int) ≤ (n1 : Int) := by omega
              have i5 : (sy : Int) + (k : Int) ≤ (c1 : Int) := by omega
              have iw : IntKind.i64.wrap ((sy : Int) + (k : Int)) = (sy : Int) + (k : Int) := IntWalk.i64_in _ (by omega)
              have hst1 := hrowy.stored (j * 3 + 1) (.slice A1 (sy + k) c1)
              clear p0 p1 p2 q1 q2
              go_upto_region 12 with fail
              go_cut [7] (fun kv wz => kv = .int .i64 (k : Int) ∧ Wd.Bx wz x 64 #[.string nm, .slice A1 n1 c1, .int .i64 (sy : Int)] ∧ Wd.Bx wz r 61 #[.slice (some ⟨b, 0, none⟩) L.length c0, .int .i64 S.cap, .bool false, .int .i64 lf, .bool false] ∧
                wz.ownsRow 0 64 3 (.slice (some ⟨b, 0, none⟩) L.length c0) L.length ((flat3 Lc).set (j * 3 + 1) (.slice A1 (sy + k) c1)) ∧ wy.grownBy wz (some b))
              case first =>
                go_region
                all_goals (go_wp2_with fail; go_meet; exact ⟨rfl, Wd.Bx.drew (hBxy.other (Ne.symm hbx) _), Wd.Bx.drew (hboxy.other hrb _), hst1.1, ⟨rfl, rfl, rfl, by simp [World.setCell], fun g _ hg => Below.heap_setCell _ _ _ _ (by simpa using hg)⟩⟩)
              case rest =>
                obtain ⟨rfl, hBz, hboxz, hrowz, hgz⟩ := hcut
                obtain ⟨wz, rfl⟩ : ∃ wz : World, wz = wc := ⟨_, rfl⟩
                have v2 := hBz.cell 2
                have v0 := hboxz.cell 0
                simp at v0 v2
                have fr2 := hrowz.frozenAt (j * 3 + 2)
                have e2 := hrowz.cellAt (j * 3 + 2) (by have := hLc.out; omega)
                have hst2 := hrowz.stored (j * 3 + 2) (.int .i64 ((sy : Int) + (k : Int)))
                rw [show ((flat3 Lc).set (j * 3 + 1) (Value.slice A1 (sy + k) c1))[j * 3 + 2]? = some (.int .i64 (f.syn : Int)) by rw [List.getElem?_set_ne (by omega), (flat3_get Lc j hjc).2.2, hf'.out]] at e2
                clear y0 y1 z1 z2 fr1 hst1
                go_upto_region 13 with fail
                go_region
                all_goals
                  go_wp2_with fail
                  have hboxu := Wd.Bx.drew (hboxz.other hrb (a := ⟨b, j * 3 + 2, none⟩) (.int .i64 ((sy : Int) + (k : Int))))
                  have hrowu := hst2.1
                  have hgu : wz.grownBy (wz.setCell ⟨b, j * 3 + 2, none⟩ (.int .i64 ((sy : Int) + (k : Int)))).drew (some b) := ⟨rfl, rfl, rfl, by simp [World.setCell], fun g _ hg => Below.heap_setCell _ _ _ _ (by simpa using hg)⟩
                  obtain ⟨wu, hwu⟩ : ∃ wu, wu = (wz.setCell ⟨b, j * 3 + 2, none⟩ (.int .i64 ((sy : Int) + (k : Int)))).drew := ⟨_, rfl⟩
                  go_roundw
                  case rel =>
                    have hxr := hx'.out
                    rw [← hwu]
                    rw [← hwu] at hboxu hgu
                    have hrowu : wu.ownsRow 0 64 3 (.slice (some ⟨b, 0, none⟩) L.length c0) L.length (((flat3 Lc).set (j * 3 + 1) (.slice A1 (sy + k) c1)).set (j * 3 + 2) (.int .i64 ((sy : Int) + (k : Int)))) := by rw [hwu]; exact hrowu
                    have hk3 : ∀ g, g < wr.heap.size → g ≠ b → wu.heap[g]? = wr.heap[g]? := fun g hg hne =>
                      ((hgu.block g (by have := hgz.size; omega) (by simpa using hne)).trans (hgz.block g (by omega) (by simpa using hne))).trans (hB2 g (by omega))
                    have hs3 : wr.heap.size ≤ wu.heap.size := by have := hgz.size; have := hgu.size; omega
                    have hsyk : ((sy + k : Nat) : Int) = (sy : Int) + (k : Int) := Int.natCast_add _ _
                    have hcutf := ref_cut (wz := wu) (q := sy + k) (n1 := n1) (c1 := c1) (A1 := A1) hl hjc hboxu (by rw [hsyk, hLc.out]; exact hrowu) hk3 hs3 (by rw [← hf'.out]; exact hv'.out) (by rw [← hf'.out]; exact hn1'.out) (by omega)
                    have hmr : Wd.Mv H wr wu := ⟨hgu.os.trans (hgz.os.trans (hBy.os.trans hBl.os)), hgu.tape.trans (hgz.tape.trans (hBy.tape.trans hBl.tape)), hgu.output.trans (hgz.output.trans (hBy.output.trans hBl.output)), hs3, fun g hg hn => hk3 g hg (fun e => hn (by rw [e]; exact hl.hv b rfl))⟩
                    refine ⟨_, j + 1, i + 1, by simp, by simp, hlt, hcutf, mv.then hmr, hR.out.turn hjc (by rw [← hf'.out, ← hn1'.out, ← hsy'.out]; exact h0'.out) _ ?_, Lib.hid (by rw [List.length_set]; exact hLc.out)⟩
                    rw [← hf'.out, ← hn1'.out, ← hsy'.out, ← hk'.out]
                    rfl
                  case measure => simp [intOf]; omega
    · go_wp2_with fail
      go_end0
      refine ⟨rfl, mv1.then mv, Rsk.gr ⟨_, Lc, false, lf, hl, hR.out.all (by rw [hLc.out]; omega), okC, ?_, hw⟩ (mv1.then mv).size hbd'.out⟩
      exact ⟨fun q => (by cases q), fun _ => (show (-1 : Int) < 0 by omega)⟩
end
end Dk
end Go.Proofs.Ythangnhccbnfbaa
