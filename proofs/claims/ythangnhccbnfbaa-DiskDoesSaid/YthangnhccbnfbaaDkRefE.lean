/- What Append of the reference's disk does. -/
import Derived.Test.YthangnhccbnfbaaDkRefC
namespace Go.Proofs.Ythangnhccbnfbaa
open Go.RowKit Go.Maps
namespace Wd
/-- append(out, xs...) as one step of a region that draws; where the outcome lies. -/
theorem step_app_at {P : Program} (w : World) {ops : Array Oper} {o : Oper} {a : Act} {K : Act → World → Prop} {Q : Exit → Act → World → Prop} {E : Prop} (hgd : o.guard = none) (s x : Operand) (t : TypeId)
    (ho : o.op = .call { callee := .builtin .append, args := #[s, x], argTypes := #[t, t] })
    (B : Nat) (e : TypeId) (i : TypeInfo) (z : Value) (k : IntKind) (bytes : Nat) (ht : P.underlying t = some (.slice e)) (hi : P.info? e = some i) (hz : i.zero = some z)
    (hsize : i.size = 1) (hby : i.bytes = bytes) (hzs : z.cells.size = 1)
    (v : Value) (xs : List Int) (hs : a.eval s = v) (hown : w.ownsRow B e 1 v xs.length (xs.map (Value.int k)))
    (A : Option Addr) (m c : Nat) (ys : List Int) (hx : a.eval x = .slice A m c) (hS : Sl w k A m c ys)
    (hbytes : (xs.length + ys.length) * bytes ≤ 140737488355328) (h63 : xs.length + ys.length ≤ maxLen) (hB : B ≤ w.heap.size)
    (h : ∀ v' w', w'.ownsRow B e 1 v' (xs ++ ys).length ((xs ++ ys).map (Value.int k)) → w.grownBy w' v.ownBlock → (v'.ownBlock = v.ownBlock ∨ v'.ownBlock = some w.heap.size) → K (a.put o.dst v') w') : if Region.wanted o (yielded ops a.tmps) = true then Oper.wp P o a w K Q else E := by
  rw [if_pos (by simp [Region.wanted, hgd])]
  obtain ⟨hm, hc, hmx, hA, hr⟩ := hS
  subst hm
  have key : ∃ v' w', (Builtin.append_ #[t, t] o.type #[v, .slice A ys.length c]).run P w = .ok v' w' ∧ w'.ownsRow B e 1 v' (xs ++ ys).length ((xs ++ ys).map (Value.int k)) ∧ w.grownBy w' v.ownBlock ∧ (v'.ownBlock = v.ownBlock ∨ v'.ownBlock = some w.heap.size) := by
    rcases A with _ | ad
    · obtain rfl := hA rfl
      obtain rfl := hr.none_
      refine ⟨v, w, ?_, by simpa using hown, World.grownBy.refl w _, .inl rfl⟩
      exact run_append_owned_none (P := P) w B t o.type e i 1 ht hi v xs.length _ hown
    · have hcells : ∀ j u, (ys.map (Value.int k))[j]? = some u → w.cell? (ad.add j) = some u := by
        intro j u hu
        have hj : j < ys.length := by simpa using (List.getElem?_eq_some_iff.1 hu).1
        obtain ⟨b, o, e1, _, hc⟩ := hr j hj
        cases e1
        rw [Addr.add_lit, hc, ← hu]
        simp [List.getD, List.getElem?_eq_getElem hj]
      obtain ⟨v', w', hrun, h2, h3, _, h5⟩ := run_append_own_at (P := P) w B t o.type e i z 1 bytes ht hi hz hsize hby hzs (by omega) v xs.length _ hown ad ys.length c (ys.map (Value.int k)) (by simp) hcells (ints_oneCell _ _) h63 hbytes hB
      exact ⟨v', w', hrun, by simpa using h2, h3, h5⟩
  obtain ⟨v', w', hrun, h2, h3, h4⟩ := key
  unfold Oper.wp
  simp [execOp, ho, resolve, invoke, builtin, hs, hx, hrun, Result.andThen]
  exact h v' w' h2 h3 h4
end Wd
namespace Dk
section
variable {w : World} {r : Nat} {H : Nat → Prop} {S : Pd}
set_option maxHeartbeats 4000000 in
theorem rappend_any (h : Rsk w r H S) (s : ByteArray) (A : Option Addr) (n c : Nat) (y : List Int) (hS : ∀ W, Wd.Mv H w W → Wd.Sl W .u8 A n c y) (hn : n ≤ 1000000) :
    Calls Try.prog 31 #[pt r, .string s, .slice A n c] w (RDid w r H (append S s y)) := by
  obtain ⟨v, L, am, lf, hl, hp, ok, hA, hw⟩ := h
  obtain ⟨i0, hi0, hz0, hz1, hz2⟩ := info_parts info_b
  have Z := Lib.hid (And.intro hi0 (And.intro hz0 (And.intro hz1 hz2)))
  clear hi0 hz0 hz1 hz2
  have okC := ok.append s y
  have hyn := (hS w (Wd.Mv.refl _ _)).len
  have hync := (hS w (Wd.Mv.refl _ _)).cap
  have hyx := (hS w (Wd.Mv.refl _ _)).max
  unfold maxLen at hyx
  have hu : used S.fs = usedF L := by rw [← hp]; exact usedF_pf L
  have hfull := ok.full
  rw [hu] at hfull
  have hcap := ok.cap1
  have hE : erA S s y = if S.dead then 12 else if (fnd Fil.name s L).isNone then 3 else if S.cap < (usedF L + y.length : Int) then 4 else 0 := by
    unfold erA
    rw [hu, ← hp, fnd_pf]
    simp
  have c4 := hl.box.cell 4
  have c1 := hl.box.cell 1
  simp at c4 c1
  cases hd : S.dead
  · rw [hd] at hE c4 hl
    rw [if_neg (by simp)] at hE
    cases q : fnd Fil.name s L
    · have e1 : append S s y = (3, S) := by
        unfold append
        rw [hE, q, if_pos (by simp)]
        exact gate_err (by decide)
      rw [e1]
      have hN := rAt_none hl s q
      have hd' := Lib.hid hd
      clear q e1 hE hd okC hyn hu hS c1
      go_enter Try.func31, Try.ntmps31
      go_wp2_with fail
      refine hN.mono ?_
      rintro e w1 ⟨rfl, rfl⟩
      go_wp2_with fail
      go_ret
      exact ⟨rfl, Wd.Mv.refl _ _, Rsk.gr ⟨v, L, am, lf, by rw [hd'.out]; exact hl, hp, ok, hA, hw⟩ (Nat.le_refl _) hl.bd⟩
    · rename_i f
      rw [q, if_neg (by simp)] at hE
      obtain ⟨i, hi, hif, hfs, hbf⟩ := place q
      have hN := rAt_some hl s i hi (by rw [hif]; exact hfs) hbf
      have i1 : (i : Int) < (L.length : Int) := by omega
      have i2 : (0 : Int) ≤ (i : Int) := by omega
      have hle := le_usedF (fnd_some q).1
      have CU : ∀ W, Below w.heap.size w W → Calls Try.prog 36 #[pt r] W fun e w' => e = .returned (.int .i64 (usedF L : Int)) ∧ Below W.heap.size W w' := fun W hW => (rUsed_any (hl.below hW) (by omega)).mono fun _ _ ⟨h1, h2⟩ => ⟨h1, h2 ▸ Below.refl _ _⟩
      have CU' := Lib.hid CU
      have hrlt := hl.box.lt
      have okC' := Lib.hid okC
      have hp' := Lib.hid hp
      have hd' := Lib.hid hd
      have hE' := Lib.hid hE
      have hq' := Lib.hid q
      have hif' := Lib.hid hif
      have hS' := Lib.hid hS
      have hyn' := Lib.hid hyn
      have hyl : y.length ≤ 1000000 := by omega
      have iw : IntKind.i64.wrap ((usedF L : Int) + (n : Int)) = (usedF L : Int) + (n : Int) := IntWalk.i64_in _ (by omega)
      have hfl : f.data.length ≤ 16777216 := by omega
      have hnu : usedF L ≤ 16777216 := hfull
      by_cases hc : S.cap < (usedF L : Int) + (n : Int)
      · have gd : decide (S.cap < (usedF L : Int) + (n : Int)) = true := decide_eq_true hc
        have e1 : append S s y = (4, S) := by
          unfold append
          rw [hE, if_pos (by omega)]
          exact gate_err (by decide)
        have e1' := Lib.hid e1
        clear okC hE hp hd q hif hfs hbf CU hu hyn hS hc e1 hfull
        go_enter Try.func31, Try.ntmps31
        go_wp2_with fail
        refine hN.mono ?_
        rintro e w1 ⟨rfl, rfl⟩
        go_upto_region 6 with fail
        go_cut [27] (fun s wx => s = .bool true ∧ Below w1.heap.size w1 wx)
        case first =>
          go_region_held3 (fun w' => w'.cell? ⟨r, 1, none⟩ = some (.int .i64 S.cap)) (first | exact hc5 | go_keep) (first | (go_at_call 36; (with_reducible refine (CU'.out _ (Wd.of_drew (Below.refl _ _))).mono ?_); rintro e w5 ⟨rfl, hB5⟩; have hB5' : Below w1.heap.size w1 w5 := Wd.of_drew hB5; have hc5 := (hB5'.cell (p := ⟨r, 1, none⟩) hrlt).trans c1))
          all_goals (go_wp2_with fail; go_meet; exact ⟨by simp, hB5'⟩)
        case rest =>
          obtain ⟨rfl, hB⟩ := hcut
          go_wp2_with fail
          go_ret
          rw [e1'.out]
          exact ⟨rfl, Wd.Mv.of_below hB, Rsk.gr ⟨v, L, am, lf, by rw [hd'.out]; exact hl.below hB, hp'.out, ok, hA, hw⟩ hB.size hl.bd⟩
      · have gd : decide (S.cap < (usedF L : Int) + (n : Int)) = false := decide_eq_false hc
        have e0 : erA S s y = 0 := by rw [hE, if_neg (by omega)]
        have e0' := Lib.hid e0
        clear okC hE hp hd q hif hfs hbf CU hu hyn hS hc e0 hfull
        go_enter Try.func31, Try.ntmps31
        go_wp2_with fail
        refine hN.mono ?_
        rintro e w1 ⟨rfl, rfl⟩
        go_upto_region 6 with fail
        go_cut [27] (fun s wx => s = .bool false ∧ Below w1.heap.size w1 wx)
        case first =>
          go_region_held3 (fun w' => w'.cell? ⟨r, 1, none⟩ = some (.int .i64 S.cap)) (first | exact hc5 | go_keep) (first | (go_at_call 36; (with_reducible refine (CU'.out _ (Wd.of_drew (Below.refl _ _))).mono ?_); rintro e w5 ⟨rfl, hB5⟩; have hB5' : Below w1.heap.size w1 w5 := Wd.of_drew hB5; have hc5 := (hB5'.cell (p := ⟨r, 1, none⟩) hrlt).trans c1))
          all_goals (go_wp2_with fail; go_meet; exact ⟨by simp, hB5'⟩)
        case rest =>
          obtain ⟨rfl, hB⟩ := hcut
          obtain ⟨wx, rfl⟩ : ∃ wx : World, wx = wc := ⟨_, rfl⟩
          have hlx := hl.below hB
          have hHr := hl.hr
          have hbd := hl.bd
          clear gd iw c1 hcap hN CU' c4 hl
          by_cases ha : S.arm = 0
          · obtain ⟨ham, hlf⟩ : am = true ∧ lf = 0 := by
              cases am
              · have := hA.2 rfl; omega
              · exact ⟨rfl, (hA.1 rfl).1.trans ha⟩
            subst ham hlf
            have hD := rdies_yes hlx
            have hA' := Lib.hid hA
            have ha' := Lib.hid ha
            clear hA ha
            go_wp2_with fail
            refine hD.mono ?_
            rintro e w2 ⟨rfl, hl2, hg2⟩
            go_wp2_with fail
            go_ret
            have e1 : append S s y = (12, { S with dead := true }) := by unfold append; rw [e0'.out]; exact gate_die ha'.out
            rw [e1]
            refine ⟨rfl, (Wd.Mv.of_below hB).then (mv_one hg2 hHr), Rsk.gr ⟨v, L, true, 0, hl2, hp'.out, ?_, hA'.out, hw⟩ (Nat.le_trans hB.size hg2.size) hbd⟩
            have := okC'.out
            rw [e1] at this
            exact this
          · have hD := rdies_no hlx hA ha hw _ (Lib.hid rfl)
            have ha' := Lib.hid ha
            have hA' := Lib.hid hA
            clear ha hA
            go_wp2_with fail
            refine hD.mono ?_
            rintro e w2 ⟨rfl, lf', hl2, hg2, hA2, hw2⟩
            have mv2 : Wd.Mv H w1 w2 := (Wd.Mv.of_below hB).then (mv_one hg2 hHr)
            have hsy := hS'.out w2 mv2
            have hfil := hl2.fil f (fnd_some hq'.out).1
            have hrow := hl2.row
            obtain ⟨-, A0, k0, rfl, hF, -⟩ := Fs.of_own hl2.row
            have c0 := hl2.box.cell 0
            simp at c0
            have hrlt2 := hl2.box.lt
            obtain ⟨b, rfl, hlt, d0, d1, d2⟩ := hF.rd i hi
            obtain ⟨A1, n1, c1, hv, hs1⟩ := Wd.Sl.of_own hfil
            rw [hif'.out, hv] at d1
            have hcp := hF.cap
            have hmx := hF.max
            unfold maxLen at hmx
            have hfr := hrow.frozenAt (i * 3 + 1)
            have hv' := Lib.hid hv
            clear hv hF hD d0 d2 hlx
            go_upto_region 11 with (first
              | (at_builtin; refine Wd.wpList_app_at _ rfl (.const (.slice none 0 0)) (.tmp 37) 33 rfl 0 5 i0 _ .u8 1 Try.underlying33 Z.out.1 Z.out.2.1 Z.out.2.2.1 Z.out.2.2.2 rfl (.slice none 0 0) [] rfl (World.ownsRow_nil _ _ _ _) A1 n1 c1 f.data rfl hs1 (by simp only [List.length_nil]; omega) (by simp only [List.length_nil]; unfold maxLen; omega) (Nat.zero_le _) ?_; intro v3 w3 hown3 hg3 hloc3)
              | fail)
            rw [List.nil_append] at hown3
            have hbel3 : Below w2.heap.size w2 w3 := ⟨hg3.os, hg3.tape, hg3.output, hg3.size, fun k hk => hg3.block k hk (by simp [Value.ownBlock])⟩
            have hv3 : ∀ x, v3.ownBlock = some x → w2.heap.size ≤ x := fun x hx => by
              rcases hloc3 with q | q
              · rw [q] at hx; simp [Value.ownBlock] at hx
              · rw [q] at hx; cases hx; exact Nat.le_refl _
            have hsy3 := (hsy.below hbel3).below ((Below.refl w3.heap.size w3).drew)
            have c03 := (hbel3.cell (p := ⟨r, 0, none⟩) hrlt2).trans c0
            have hbx := hl2.box
            have hz23 := hbel3.size
            have hyn2 := hyn'.out
            have hyb : (f.data.length + y.length) * 1 ≤ 140737488355328 := by omega
            have hyc : f.data.length + y.length ≤ maxLen := by unfold maxLen; omega
            have hnn : n ≤ 1000000 := hn
            have hrb : r ≠ b := fun e => hl2.rv (by rw [e]; rfl)
            clear hg3 hloc3 hsy hs1 hyn2
            go_cut [7] (fun iv wz => iv = .int .i64 (i : Int) ∧ ∃ v9, Wd.Bx wz r 61 #[.slice (some ⟨b, 0, none⟩) L.length k0, .int .i64 S.cap, .bool am, .int .i64 lf', .bool false] ∧
              wz.ownsRow 0 64 3 (.slice (some ⟨b, 0, none⟩) L.length k0) L.length ((flat3 L).set (i * 3 + 1) v9) ∧ wz.ownsRow 0 5 1 v9 (f.data ++ y).length ((f.data ++ y).map (Value.int .u8)) ∧ (∀ x, v9.ownBlock = some x → w2.heap.size ≤ x) ∧ Wd.Mv (fun g => g = b) w2 wz)
            case first =>
              go_region_held3 (fun w' => w'.cell? ⟨r, 0, none⟩ = some (.slice (some ⟨b, 0, none⟩) L.length k0)) (first | exact c05 | exact c04 | exact c03 | go_keep) (first | (refine Wd.step_app_at _ rfl (.tmp 44) (.tmp 45) 33 rfl 0 5 i0 _ .u8 1 Try.underlying33 Z.out.1 Z.out.2.1 Z.out.2.2.1 Z.out.2.2.2 rfl v3 f.data rfl hown3.drew A n c y rfl hsy3 hyb hyc (Nat.zero_le _) ?_; intro v4 w4 hown4 hg4 hloc4; have h24 : ∀ g, g < w2.heap.size → w4.heap[g]? = w2.heap[g]? := (fun g hg => (hg4.block g (Nat.lt_of_lt_of_le hg hz23) (fun e => by have := hv3 g e.symm; omega)).trans (hbel3.block g hg)); have c04 : w4.cell? ⟨r, 0, none⟩ = some (.slice (some ⟨b, 0, none⟩) L.length k0) := (World.cell?_of_block (a := ⟨r, 0, none⟩) (h24 r hrlt2)).trans c0; have d14 : w4.cell? ⟨b, i * 3 + 1, none⟩ = some (.slice A1 n1 c1) := (World.cell?_of_block (a := ⟨b, i * 3 + 1, none⟩) (h24 b hlt)).trans d1; have f14 : w4.frozen? ⟨b, i * 3 + 1, none⟩ = false := (World.frozen?_of_block (a := ⟨b, i * 3 + 1, none⟩) (h24 b hlt)).trans hfr; obtain ⟨A4, n4, k4, rfl, hS4⟩ := Wd.Sl.of_own hown4; have c05 : (w4.setCell ⟨b, i * 3 + 1, none⟩ (.slice A4 n4 k4)).cell? ⟨r, 0, none⟩ = some (.slice (some ⟨b, 0, none⟩) L.length k0) := (World.cell?_of_block (a := ⟨r, 0, none⟩) (Below.heap_setCell w4 ⟨b, i * 3 + 1, none⟩ (.slice A4 n4 k4) r hrb)).trans c04))
              all_goals go_wp2_with fail
              all_goals go_meet
              all_goals
                have hrow4 := Wd.own_keep hrow fun x hx => h24 x (Wd.own_lt hrow hx).1
                have hst := hrow4.stored (i * 3 + 1) (.slice A4 n4 k4)
                have hb4 : ∀ x, (Value.slice A4 n4 k4).ownBlock = some x → w2.heap.size ≤ x := fun x hx => by
                  rcases hloc4 with q | q
                  · rw [q] at hx; exact hv3 x hx
                  · rw [q] at hx; cases hx; exact hz23
                refine ⟨rfl, .slice A4 n4 k4, (hbx.at_ (h24 r hrlt2)).other (fun e => hl2.rv (by rw [e]; rfl)) _, hst.1, Wd.own_keep hown4 (fun x hx => hst.2.block x (Wd.own_lt hown4 hx).1 (fun e => by cases e; have := hb4 _ hx; omega)), hb4, ?_⟩
                exact ⟨hg4.os.trans hbel3.os, hg4.tape.trans hbel3.tape, hg4.output.trans hbel3.output, Nat.le_trans hz23 (Nat.le_trans hg4.size hst.2.size), fun g hg hne => (hst.2.block g (Nat.lt_of_lt_of_le hg (Nat.le_trans hz23 hg4.size)) (by simpa using hne)).trans (h24 g hg)⟩
            case rest =>
              obtain ⟨rfl, v9, hb9, hrw, hown9, hnew9, mv9⟩ := hcut
              obtain ⟨wy, rfl⟩ : ∃ wy : World, wy = wc := ⟨_, rfl⟩
              clear c0 d1 hfr c03 hown3 hsy3
              go_wp2_with fail
              go_ret
              have e1 : append S s y = (0, { S with fs := upd Pf.name s (fun f => { f with data := f.data ++ y }) S.fs, arm := if 0 < S.arm then S.arm - 1 else S.arm }) := by unfold append; rw [e0'.out]; exact gate_go ha'.out
              rw [e1]
              have hHb : H b := hl2.hv b rfl
              have mv : Wd.Mv H w1 wy := mv2.then (mv9.mono fun g e => by rw [e]; exact hHb)
              have hrw2 : wy.ownsRow 0 64 3 (.slice (some ⟨b, 0, none⟩) L.length k0) L.length (flat3 (L.set i ⟨f.name, f.data ++ y, f.syn, f.blk, v9⟩)) := by
                have e3 := flat3_set1 L i hi v9
                rw [hif'.out] at e3
                rw [e3] at hrw
                have e4 : flat3 (L.set i { f with v := v9 }) = flat3 (L.set i ⟨f.name, f.data ++ y, f.syn, f.blk, v9⟩) := by
                  unfold flat3
                  rw [List.flatMap_def, List.flatMap_def, List.map_set, List.map_set]
                  rfl
                rw [← e4]
                exact hrw
              have hfo : ∀ f ∈ L, wy.ownsRow 0 5 1 f.v f.data.length (f.data.map (Value.int .u8)) := fun f hf => Wd.own_keep (hl2.fil f hf) fun x hx => mv9.keep x (Wd.own_lt (hl2.fil f hf) hx).1 (fun e => by subst e; exact hl2.vf hf (x := x) rfl hx)
              have ht := hl2.turn (w' := wy) (L' := L.set i ⟨f.name, f.data ++ y, f.syn, f.blk, v9⟩) hb9 (by rw [List.length_set]; exact hrw2) (fun g hg => by
                  rcases List.mem_or_eq_of_mem_set hg with q | rfl
                  · exact hfo g q
                  · exact hown9) mv9.size (fun x hx => .inl (hl2.hv x hx)) (fun g hg x hx => by
                  rcases List.mem_or_eq_of_mem_set hg with q | rfl
                  · exact .inl (hl2.hf g q x hx)
                  · exact .inr (hnew9 x hx))
              refine ⟨rfl, mv, .slice (some ⟨b, 0, none⟩) L.length k0, L.set i ⟨f.name, f.data ++ y, f.syn, f.blk, v9⟩, am, lf', ?_, set_pf ok hp'.out hq'.out hi hif'.out _ (fun f => { f with data := f.data ++ y }) rfl, ?_, hA2, hw2⟩
              · show Ref wy r _ _ S.cap am lf' S.dead _
                rw [hd'.out]
                refine ht.grow (fun g hg => ?_) (Wd.Gr.lt hbd mv.size)
                have := mv2.size
                rcases hg with q | q
                · exact .inl q
                · exact .inr (by omega)
              · have := okC'.out
                rw [e1] at this
                exact this
  · rw [hd] at hE c4 hl
    have e1 : append S s y = (12, S) := by unfold append; rw [hE, if_pos rfl]; exact gate_err (by decide)
    rw [e1]
    have hd' := Lib.hid hd
    clear e1 hE hd okC hyn hu hS c1
    go_enter Try.func31, Try.ntmps31
    go_wp2_with fail
    go_ret
    exact ⟨rfl, Wd.Mv.refl _ _, Rsk.gr ⟨v, L, am, lf, by rw [hd'.out]; exact hl, hp, ok, hA, hw⟩ (Nat.le_refl _) hl.bd⟩
end
end Dk
end Go.Proofs.Ythangnhccbnfbaa
