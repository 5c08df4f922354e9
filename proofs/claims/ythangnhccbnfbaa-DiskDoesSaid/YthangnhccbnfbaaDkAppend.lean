/- What Append of package disk does. -/
import Derived.Deep.RegionWith
import Derived.Deep.RegionHeld3
import Derived.Deep.DeepCutAuto
import Derived.IntWalk
import Derived.Test.YthangnhccbnfbaaDkUsed
namespace Go.Proofs.Ythangnhccbnfbaa
open Go.RowKit Go.Maps
namespace Wd
section
variable {P : Program} (w : World)
/-- append onto a row of the call's own, whatever the source; where the outcome lies. -/
theorem wpList_app_at {ops : Array Oper} {rest : List Oper} {o : Oper} {a : Act} {Q : Exit → Act → World → Prop} (hgd : o.guard = none) (s x : Operand) (t : TypeId)
    (ho : o.op = .call { callee := .builtin .append, args := #[s, x], argTypes := #[t, t] })
    (B : Nat) (e : TypeId) (i : TypeInfo) (z : Value) (k : IntKind) (bytes : Nat) (ht : P.underlying t = some (.slice e)) (hi : P.info? e = some i) (hz : i.zero = some z)
    (hsize : i.size = 1) (hby : i.bytes = bytes) (hzs : z.cells.size = 1)
    (v : Value) (xs : List Int) (hs : a.eval s = v) (hown : w.ownsRow B e 1 v xs.length (xs.map (Value.int k)))
    (A : Option Addr) (m c : Nat) (ys : List Int) (hx : a.eval x = .slice A m c) (hS : Sl w k A m c ys)
    (hbytes : (xs.length + ys.length) * bytes ≤ 140737488355328) (h63 : xs.length + ys.length ≤ maxLen) (hB : B ≤ w.heap.size)
    (h : ∀ v' w', w'.ownsRow B e 1 v' (xs ++ ys).length ((xs ++ ys).map (Value.int k)) → w.grownBy w' v.ownBlock → (v'.ownBlock = v.ownBlock ∨ v'.ownBlock = some w.heap.size) → wpList P ops Q rest (a.put o.dst v') w') : wpList P ops Q (o :: rest) a w := by
  obtain ⟨hm, hc, hmx, hA, hr⟩ := hS
  subst hm
  have key : ∃ v' w', (Builtin.append_ #[t, t] o.type #[v, .slice A ys.length c]).run P w = .ok v' w' ∧ w'.ownsRow B e 1 v' (xs ++ ys).length ((xs ++ ys).map (Value.int k)) ∧ w.grownBy w' v.ownBlock ∧ (v'.ownBlock = v.ownBlock ∨ v'.ownBlock = some w.heap.size) := by
    rcases A with _ | ad
    · obtain rfl := hA rfl
      obtain rfl := hr.none_
      refine ⟨v, w, ?_, by simpa using hown, World.grownBy.refl w _, .inl rfl⟩
      exact run_append_owned_none (P := P) w B t o.type e i 1 ht hi v xs.length _ hown
    · have hcells : ∀ j u, (ys.map (Value.int k))[j]? = some u → w.cell? (ad.add j) = some u := by
        intro j u hu
        have hj : j < ys.length := by simpa using (List.getElem?_eq_some_iff.1 hu).1
        obtain ⟨b, o, e1, _, hc⟩ := hr j hj
        cases e1
        rw [Addr.add_lit, hc, ← hu]
        simp [List.getD, List.getElem?_eq_getElem hj]
      obtain ⟨v', w', hrun, h2, h3, _, h5⟩ := run_append_own_at (P := P) w B t o.type e i z 1 bytes ht hi hz hsize hby hzs (by omega) v xs.length _ hown ad ys.length c (ys.map (Value.int k)) (by simp) hcells (ints_oneCell _ _) h63 hbytes hB
      exact ⟨v', w', hrun, by simpa using h2, h3, h5⟩
  refine wpList_plain hgd fun K hK => ?_
  obtain ⟨v', w', hrun, h2, h3, h4⟩ := key
  unfold Oper.wp
  simp [execOp, ho, resolve, invoke, builtin, hs, hx, hrun, Result.andThen]
  exact hK _ _ (h v' w' h2 h3 h4)
end
/-- A slice that does not lie in G reads as it did while G turns. -/
theorem Sl.mv {w w' : World} {G : Nat → Prop} {k : IntKind} {A : Option Addr} {n c : Nat} {ys : List Int} (h : Sl w k A n c ys) (hA : ∀ a, A = some a → ¬ G a.block) (m : Mv G w w') : Sl w' k A n c ys := by
  obtain ⟨h1, h2, h3, h4, h5⟩ := h
  refine ⟨h1, h2, h3, h4, fun j hj => ?_⟩
  obtain ⟨b, o, e, hlt, hc⟩ := h5 j hj
  refine ⟨b, o, e, Nat.lt_of_lt_of_le hlt m.size, ?_⟩
  rw [← hc]
  exact World.cell?_of_block (a := ⟨b, o + j, none⟩) (m.keep b hlt (hA _ e))
end Wd
namespace Dk
theorem info_b : (Try.prog.info? 5).map (fun i => (i.zero, i.size, i.bytes)) = some (some (.int .u8 0), 1, 1) := by kernel_rfl
theorem le_usedF {f : Fil} : ∀ {l : List Fil}, f ∈ l → f.data.length ≤ usedF l
  | [], h => by simp at h
  | g :: r, h => by
    unfold usedF
    rw [List.map_cons, List.sum_cons]
    rcases List.mem_cons.1 h with rfl | h
    · omega
    · have := le_usedF h
      unfold usedF at this
      omega
section
variable {w : World} {d : Nat} {G : Nat → Prop} {S : Pd}
set_option maxHeartbeats 1000000 in
theorem append_any (h : Dsk w d G S) (s : ByteArray) (hs : s.size ≤ 100) (A : Option Addr) (n c : Nat) (b : List Int) (hS : ∀ W, Wd.Mv G w W → Wd.Sl W .u8 A n c b) (hn : n ≤ 1000000) :
    Calls Try.prog 19 #[pt d, .string s, .slice A n c] w (Did w d G (append S s b)) := by
  obtain ⟨m, L, hl, hp, ok⟩ := h
  obtain ⟨i0, hi, hz0, hz1, hz2⟩ := info_parts info_b
  have okC := ok.append s b
  have hbn := (hS w (Wd.Mv.refl _ _)).len
  have hu : used S.fs = usedF L := by rw [← hp]; exact usedF_pf L
  have hfull := ok.full
  rw [hu] at hfull
  have hcap := ok.cap1
  have hE := erN_erF (S := S) hp s
  by_cases he : erN S s = 0
  · obtain ⟨hd, f, hf⟩ := erF_ok (hE.symm.trans he)
    have hfm := (fnd_some hf).1
    have hl0 := hl
    rw [hd] at hl0
    have hF := find_some hl0 s (small hs) f hf
    have c1 := hl.box.cell 1
    simp at c1
    have CU : ∀ W, Below w.heap.size w W → Calls Try.prog 23 #[pt d] W fun e w' => e = .returned (.int .i64 (usedF L : Int)) ∧ Below W.heap.size W w' := fun W hW => used_any (hl.below hW) (by omega)
    have CU' := Lib.hid CU
    have hdlt := hl.box.lt
    have hA : erA S s b = if S.cap < (usedF L + b.length : Int) then 4 else 0 := by
      unfold erA
      rw [hd, hu, ← hp, fnd_pf, hf]
      simp
    have okC' := Lib.hid okC
    have hp' := Lib.hid hp
    have hd' := Lib.hid hd
    have hf' := Lib.hid hf
    have hS' := Lib.hid hS
    have hA' := Lib.hid hA
    have hbn' := Lib.hid hbn
    have hle := le_usedF hfm
    have hbl : b.length ≤ 1000000 := by omega
    have iw : IntKind.i64.wrap ((usedF L : Int) + (n : Int)) = (usedF L : Int) + (n : Int) := IntWalk.i64_in _ (by omega)
    by_cases hc : S.cap < (usedF L : Int) + (n : Int)
    · have gd : decide (S.cap < (usedF L : Int) + (n : Int)) = true := decide_eq_true hc
      have e1 : append S s b = (4, S) := by
        unfold append
        rw [hA, if_pos (by omega)]
        exact gate_err (by decide)
      have e1' := Lib.hid e1
      clear okC hp hd hf hS hA he hl0 CU hu e1 hc hE hbn
      go_enter Try.func19, Try.ntmps19
      go_wp2_with fail
      refine hF.mono ?_
      rintro e w0 ⟨rfl, rfl⟩
      go_upto_region 4 with fail
      go_cut [27] (fun s wx => s = .bool true ∧ Below w0.heap.size w0 wx)
      case first =>
        go_region_held3 (fun w' => w'.cell? ⟨d, 1, none⟩ = some (.int .i64 S.cap)) (first | exact hc5 | go_keep) (first | (go_at_call 23; (with_reducible refine (CU'.out _ (Wd.of_drew (Below.refl _ _))).mono ?_); rintro e w5 ⟨rfl, hB5⟩; have hB5' : Below w0.heap.size w0 w5 := Wd.of_drew hB5; have hc5 := (hB5'.cell (p := ⟨d, 1, none⟩) hdlt).trans c1))
        all_goals (go_wp2_with fail; go_meet; exact ⟨by simp, hB5'⟩)
      case rest =>
        obtain ⟨rfl, hB⟩ := hcut
        go_wp2_with fail
        go_ret
        rw [e1'.out]
        exact ⟨rfl, Wd.Mv.of_below hB, Dsk.gr ⟨m, L, hl.below hB, hp'.out, ok⟩ hB.size hl.bd⟩
    · have gd : decide (S.cap < (usedF L : Int) + (n : Int)) = false := decide_eq_false hc
      have e0 : erA S s b = 0 := by rw [hA, if_neg (by omega)]
      have e0' := Lib.hid e0
      clear okC hp hd hf hS hA he hl0 CU hu e0 hc hE hbn
      go_enter Try.func19, Try.ntmps19
      go_wp2_with fail
      refine hF.mono ?_
      rintro e w0 ⟨rfl, rfl⟩
      go_upto_region 4 with fail
      go_cut [27] (fun s wx => s = .bool false ∧ Below w0.heap.size w0 wx)
      case first =>
        go_region_held3 (fun w' => w'.cell? ⟨d, 1, none⟩ = some (.int .i64 S.cap)) (first | exact hc5 | go_keep) (first | (go_at_call 23; (with_reducible refine (CU'.out _ (Wd.of_drew (Below.refl _ _))).mono ?_); rintro e w5 ⟨rfl, hB5⟩; have hB5' : Below w0.heap.size w0 w5 := Wd.of_drew hB5; have hc5 := (hB5'.cell (p := ⟨d, 1, none⟩) hdlt).trans c1))
        all_goals (go_wp2_with fail; go_meet; exact ⟨by simp, hB5'⟩)
      case rest =>
        obtain ⟨rfl, hB⟩ := hcut
        obtain ⟨wx, rfl⟩ : ∃ wx : World, wx = wc := ⟨_, rfl⟩
        have hfl : f.data.length ≤ 16777216 := by omega
        clear gd iw hcap hfull
        have hlx := hl.below hB
        have hg0 := hl.gd
        have hgf := hl.gf f hfm
        have hgv := hl.gv f hfm
        have hbd := hl.bd
        clear hl c1 hF
        by_cases ha : S.arm = 0
        · rw [ha] at hlx
          have hS := step_no hlx
          go_wp2_with fail
          refine hS.mono ?_
          rintro e w1 ⟨rfl, hl1, hg1, -⟩
          go_wp2_with fail
          go_ret
          have e1 : append S s b = (12, { S with dead := true }) := by unfold append; rw [e0'.out]; exact gate_die ha
          rw [e1]
          refine ⟨rfl, (Wd.Mv.of_below hB).then (mv_one hg1 hg0), Dsk.gr ⟨m, L, ?_, hp'.out, ?_⟩ (Nat.le_trans hB.size hg1.size) hbd⟩
          · show Lay w1 d m L S.cap S.arm true G
            rw [ha]; exact hl1
          · have := okC'.out
            rw [e1] at this
            exact this
        · have hS := step_yes hlx ha ok.arm0 ok.arm1 _ rfl
          have ha' := Lib.hid ha
          clear ha
          go_wp2_with fail
          refine hS.mono ?_
          rintro e w1 ⟨rfl, hl1, hg1, -⟩
          have mv1 : Wd.Mv G w0 w1 := (Wd.Mv.of_below hB).then (mv_one hg1 hg0)
          have hsb := hS'.out w1 mv1
          obtain ⟨A0, k0, hv, hsl, -⟩ := hl1.shape hfm
          have hrow := hl1.row f hfm
          have hBf := hl1.fil f hfm
          rw [hv] at hBf hrow
          have b0 := hBf.cell 0
          simp at b0
          have hfv := hl1.fv hfm hfm
          rw [hv] at hfv
          have hv' := Lib.hid hv
          clear hv hS hlx
          go_wp2_with (first
            | (at_builtin; refine Wd.wpList_app_at _ rfl (.tmp 35) (.tmp 36) 33 rfl 0 5 i0 _ .u8 1 Try.underlying33 hi hz0 hz1 hz2 rfl (.slice A0 f.data.length k0) f.data rfl hrow A n c b rfl hsb (by omega) (by unfold maxLen; omega) (Nat.zero_le _) ?_; intro v2 w2 hown2 hg2 hloc2; obtain ⟨A2, n2, k2, rfl, hS2⟩ := Wd.Sl.of_own hown2; have hB2 := hBf.grown hg2 (fun e => hfv e.symm); have b2 := hB2.cell 0; simp at b2; have fr2 := hB2.free 0)
            | fail)
          go_ret
          have e1 : append S s b = (0, { S with fs := upd Pf.name s (fun f => { f with data := f.data ++ b }) S.fs, arm := if 0 < S.arm then S.arm - 1 else S.arm }) := by unfold append; rw [e0'.out]; exact gate_go ha'.out
          rw [e1]
          have hset := hB2.set 0 (.slice A2 n2 k2)
          obtain ⟨w3, hw3⟩ : ∃ w3, w3 = w2.setCell ⟨f.blk, 0, none⟩ (.slice A2 n2 k2) := ⟨_, rfl⟩
          rw [← hw3] at hset ⊢
          have hg3 : w2.grownBy w3 (some f.blk) := by subst hw3; exact ⟨rfl, rfl, rfl, by simp [World.setCell], fun k _ hk => Below.heap_setCell _ _ _ _ (by simpa using hk)⟩
          have hblk2 : (Value.slice A2 n2 k2).ownBlock ≠ some f.blk := by
            rcases hloc2 with q | q
            · rw [q]; exact hfv
            · rw [q]
              have := hBf.lt
              simp
              omega
          have hown3 : w3.ownsRow 0 5 1 (.slice A2 n2 k2) (f.data ++ b).length ((f.data ++ b).map (Value.int .u8)) :=
            Wd.own_keep hown2 fun x hx => hg3.block x (Wd.own_lt hown2 hx).1 (fun e => hblk2 (by rw [hx, e]))
          have hvB := hv'.out
          have ht := hl1.turn_file (w' := w3) (f' := ⟨f.name, f.data ++ b, f.syn, f.blk, .slice A2 n2 k2⟩) hfm rfl rfl (by simpa using hset) hown3
            (fun x hx => by
              rcases hloc2 with q | q
              · left; rw [hvB, ← q]; exact hx
              · right; rw [q] at hx; cases hx; exact Nat.le_refl _)
            (fun g hg hne hno => (hg3.block g (Nat.lt_of_lt_of_le hg hg2.size) (by simpa using hne)).trans (hg2.block g hg (fun e => hno (by rw [hvB]; exact e.symm)))) (Nat.le_trans hg2.size hg3.size)
          have mv : Wd.Mv G w0 w3 := (mv1.then (Wd.Mv.of_grown hg2 fun g e => hgv g (by rw [hvB]; exact e))).then (mv_one hg3 hgf)
          refine ⟨rfl, mv, m, _, ht.grow (fun g hg => ?_) (Wd.Gr.lt hbd mv.size), turned_pf ok hp'.out hf'.out _ rfl, ?_⟩
          · have hs1 := mv1.size
            rcases hg with q | q
            · exact .inl q
            · exact .inr (by omega)
          · have := okC'.out
            rw [e1] at this
            exact this
  · have hne : (erN S s != 0) = true := by simpa using he
    have e1 : append S s b = (erN S s, S) := by
      have e2 : erA S s b = erN S s := by
        unfold erA
        unfold erN at he ⊢
        split
        · rfl
        · rename_i hd
          rw [if_neg hd] at he
          split
          · rfl
          · rename_i hq
            rw [if_neg hq] at he
            exact absurd rfl he
      unfold append
      rw [e2]
      exact gate_err he
    have hF := find_any hl s (small hs) (erN S s) _ hE rfl
    rw [e1]
    generalize erN S s = er at hF hne he
    have He := Lib.hid he
    clear he hE e1 hu hS
    go_enter Try.func19, Try.ntmps19
    go_wp2_with fail
    refine hF.mono ?_
    rintro e w' ⟨rfl, rfl⟩
    go_wp2_with fail
    go_ret
    exact ⟨rfl, Wd.Mv.refl _ _, Dsk.gr ⟨m, L, hl, hp, ok⟩ (Nat.le_refl _) hl.bd⟩
end
end Dk
end Go.Proofs.Ythangnhccbnfbaa
