/- What Sync and Delete of the reference's disk do. -/
import Derived.Test.YthangnhccbnfbaaDkRefB
namespace Go.Proofs.Ythangnhccbnfbaa
open Go.RowKit Go.Maps
namespace Dk
theorem info_fl : (Try.prog.info? 64).map (fun i => (i.zero, i.size, i.bytes)) = some (some (.agg #[.string ⟨#[]⟩, .slice none 0 0, .int .i64 0]), 3, 48) := by kernel_rfl
theorem fl3_one : ∀ L : List Fil, (∀ f ∈ L, ∃ A n c, f.v = .slice A n c) → ∀ u ∈ flat3 L, u.oneCell' = true := by
  intro L h u hu
  obtain ⟨f, hf, hu⟩ := List.mem_flatMap.1 hu
  obtain ⟨A, n, c, hv⟩ := h f hf
  simp only [fl3, List.mem_cons, List.not_mem_nil, or_false] at hu
  rcases hu with rfl | rfl | rfl
  · rfl
  · rw [hv]; rfl
  · rfl
section
variable {P : Program} (w : World)
/-- append of files onto a row of files of the call's own. -/
theorem wpList_app3 {ops : Array Oper} {rest : List Oper} {o : Oper} {a : Act} {Q : Exit → Act → World → Prop} (hgd : o.guard = none) (s x : Operand) (t : TypeId)
    (ho : o.op = .call { callee := .builtin .append, args := #[s, x], argTypes := #[t, t] })
    (B : Nat) (e : TypeId) (i : TypeInfo) (z : Value) (bytes : Nat) (ht : P.underlying t = some (.slice e)) (hi : P.info? e = some i) (hz : i.zero = some z)
    (hsize : i.size = 3) (hby : i.bytes = bytes) (hzs : z.cells.size = 3)
    (v : Value) (L : List Fil) (hs : a.eval s = v) (hown : w.ownsRow B e 3 v L.length (flat3 L))
    (A : Option Addr) (m c : Nat) (M : List Fil) (hx : a.eval x = .slice A m c) (hm : m = M.length) (hA : A = none → c = 0 ∧ M = []) (hc : ∀ ad, A = some ad → ∀ j u, (flat3 M)[j]? = some u → w.cell? (ad.add j) = some u)
    (h1 : ∀ f ∈ M, ∃ A n c, f.v = .slice A n c) (hbytes : (L.length + M.length) * bytes ≤ 140737488355328) (h63 : L.length + M.length ≤ maxLen) (hB : B ≤ w.heap.size)
    (h : ∀ v' w', w'.ownsRow B e 3 v' (L ++ M).length (flat3 (L ++ M)) → w.grownBy w' v.ownBlock → (v'.ownBlock = v.ownBlock ∨ v'.ownBlock = some w.heap.size) → wpList P ops Q rest (a.put o.dst v') w') : wpList P ops Q (o :: rest) a w := by
  subst hm
  have key : ∃ v' w', (Builtin.append_ #[t, t] o.type #[v, .slice A M.length c]).run P w = .ok v' w' ∧ w'.ownsRow B e 3 v' (L ++ M).length (flat3 (L ++ M)) ∧ w.grownBy w' v.ownBlock ∧ (v'.ownBlock = v.ownBlock ∨ v'.ownBlock = some w.heap.size) := by
    rcases A with _ | ad
    · obtain ⟨rfl, rfl⟩ := hA rfl
      refine ⟨v, w, ?_, by simpa using hown, World.grownBy.refl w _, .inl rfl⟩
      exact run_append_owned_none (P := P) w B t o.type e i 3 ht hi v L.length _ hown
    · obtain ⟨v', w', hrun, h2, h3, _, h5⟩ := run_append_own_at (P := P) w B t o.type e i z 3 bytes ht hi hz hsize hby hzs (by omega) v L.length _ hown ad M.length c (flat3 M) (flat3_len M) (hc ad rfl) (fl3_one M h1) h63 hbytes hB
      exact ⟨v', w', hrun, by rw [List.length_append, flat3_app]; exact h2, h3, h5⟩
  refine wpList_plain hgd fun K hK => ?_
  obtain ⟨v', w', hrun, h2, h3, h4⟩ := key
  unfold Oper.wp
  simp [execOp, ho, resolve, invoke, builtin, hs, hx, hrun, Result.andThen]
  exact hK _ _ (h v' w' h2 h3 h4)
end
/-- The cells of files from the k-th on. -/
theorem fs_cells {w : World} {g n c : Nat} {L : List Fil} (h : w.ownsRow 0 64 3 (.slice (some ⟨g, 0, none⟩) n c) n (flat3 L)) (k : Nat) (M : List Fil) (hM : ∀ j u, (flat3 M)[j]? = some u → (flat3 L)[k * 3 + j]? = some u) : ∀ j u, (flat3 M)[j]? = some u → w.cell? ((⟨g, k * 3, none⟩ : Addr).add j) = some u := by
  intro j u hu
  have h1 := hM j u hu
  have hlt := (List.getElem?_eq_some_iff.1 h1).1
  have hl := h.1
  rw [Addr.add_lit]
  exact (h.cellAt (k * 3 + j) (by omega)).trans h1
/-- One file turned in the reference's row. -/
theorem set_pf {S : Pd} (ok : S.Ok) {L : List Fil} (hp : L.map Fil.pf = S.fs) {s : ByteArray} {f : Fil} (hf : fnd Fil.name s L = some f) {i : Nat} (hi : i < L.length) (hif : L[i] = f) (f' : Fil) (g : Pf → Pf) (hg : f'.pf = g f.pf) : (L.set i f').map Fil.pf = upd Pf.name s g S.fs := by
  have hup : Up Fil.name L := by
    have := ok.up
    rw [← hp] at this
    exact List.pairwise_map.1 this
  have := turned_pf ok hp hf (f' := f') g hg
  rwa [← hif, upd_set hup hi f'] at this
section
variable {w : World} {r : Nat} {H : Nat → Prop} {S : Pd}
set_option maxHeartbeats 4000000 in
theorem rsync_any (h : Rsk w r H S) (s : ByteArray) :
    Calls Try.prog 32 #[pt r, .string s] w (RDid w r H (sync S s)) := by
  obtain ⟨v, L, am, lf, hl, hp, ok, hA, hw⟩ := h
  have okC := ok.sync s
  have hE := erN_erF (S := S) hp s
  have c4 := hl.box.cell 4
  simp at c4
  cases hd : S.dead
  · rw [hd] at hE c4 hl
    cases q : fnd Fil.name s L
    · have he : erN S s = 3 := by rw [hE]; unfold erF; rw [if_neg (by simp), q]; rfl
      have e1 : sync S s = (3, S) := by unfold sync; rw [he]; exact gate_err (by decide)
      rw [e1]
      have hN := rAt_none hl s q
      have hd' := Lib.hid hd
      clear q he e1 hE hd okC
      go_enter Try.func32, Try.ntmps32
      go_wp2_with fail
      refine hN.mono ?_
      rintro e w1 ⟨rfl, rfl⟩
      go_wp2_with fail
      go_ret
      exact ⟨rfl, Wd.Mv.refl _ _, Rsk.gr ⟨v, L, am, lf, by rw [hd'.out]; exact hl, hp, ok, hA, hw⟩ (Nat.le_refl _) hl.bd⟩
    · rename_i f
      have he : erN S s = 0 := by rw [hE]; unfold erF; rw [if_neg (by simp), q]; rfl
      obtain ⟨i, hi, hif, hfs, hbf⟩ := place q
      have hN := rAt_some hl s i hi (by rw [hif]; exact hfs) hbf
      have i1 : (i : Int) < (L.length : Int) := by omega
      have i2 : (0 : Int) ≤ (i : Int) := by omega
      have okC' := Lib.hid okC
      have hp' := Lib.hid hp
      have hd' := Lib.hid hd
      have he' := Lib.hid he
      have hq' := Lib.hid q
      have hif' := Lib.hid hif
      clear okC hE hp hd he q hif hfs hbf
      by_cases ha : S.arm = 0
      · obtain ⟨ham, hlf⟩ : am = true ∧ lf = 0 := by
          cases am
          · have := hA.2 rfl; omega
          · exact ⟨rfl, (hA.1 rfl).1.trans ha⟩
        subst ham hlf
        have hS := rdies_yes hl
        have hA' := Lib.hid hA
        have ha' := Lib.hid ha
        clear hA ha
        go_enter Try.func32, Try.ntmps32
        go_wp2_with fail
        refine hN.mono ?_
        rintro e w1 ⟨rfl, rfl⟩
        go_wp2_with fail
        refine hS.mono ?_
        rintro e w2 ⟨rfl, hl2, hg2⟩
        go_wp2_with fail
        go_ret
        have e1 : sync S s = (12, { S with dead := true }) := by unfold sync; rw [he'.out]; exact gate_die ha'.out
        rw [e1]
        refine ⟨rfl, mv_one hg2 hl.hr, Rsk.gr ⟨v, L, true, 0, hl2, hp'.out, ?_, hA'.out, hw⟩ hg2.size hl.bd⟩
        have := okC'.out
        rw [e1] at this
        exact this
      · have hS := rdies_no hl hA ha hw _ (Lib.hid rfl)
        have ha' := Lib.hid ha
        have hA' := Lib.hid hA
        clear ha hA
        go_enter Try.func32, Try.ntmps32
        go_wp2_with fail
        refine hN.mono ?_
        rintro e w1 ⟨rfl, rfl⟩
        go_wp2_with fail
        refine hS.mono ?_
        rintro e w2 ⟨rfl, lf', hl2, hg2, hA2, hw2⟩
        have hfil := hl2.fil f (fnd_some hq'.out).1
        have hrow := hl2.row
        obtain ⟨-, A, c, rfl, hF, hvb⟩ := Fs.of_own hl2.row
        have c0 := hl2.box.cell 0
        simp at c0
        obtain ⟨b, rfl, hlt, d0, d1, d2⟩ := hF.rd i hi
        obtain ⟨A1, n1, c1, hv, hs1⟩ := Wd.Sl.of_own hfil
        have hn1 := hs1.len
        rw [hif'.out, hv] at d1
        have fr := hrow.frozenAt (i * 3 + 2)
        have hcp := hF.cap
        have hmx := hF.max
        unfold maxLen at hmx
        have hst := hrow.stored (i * 3 + 2) (.int .i64 (n1 : Int))
        have hn1' := Lib.hid hn1
        have hv' := Lib.hid hv
        clear hn1 hv hF hS d0 hvb
        go_upto_region 8 with fail
        go_cut [5] (fun iv wx => iv = .int .i64 (i : Int) ∧ Wd.Bx wx r 61 #[.slice (some ⟨b, 0, none⟩) L.length c, .int .i64 S.cap, .bool am, .int .i64 lf', .bool false] ∧
          wx.ownsRow 0 64 3 (.slice (some ⟨b, 0, none⟩) L.length c) L.length ((flat3 L).set (i * 3 + 2) (.int .i64 (n1 : Int))) ∧ w2.grownBy wx (some b))
        case first =>
          go_region
          all_goals (go_wp2_with fail; go_meet; exact ⟨rfl, Wd.Bx.drew (hl2.box.other (fun e => hl2.rv (by rw [e]; rfl)) _), hst.1, ⟨rfl, rfl, rfl, by simp [World.setCell], fun g _ hg => Below.heap_setCell _ _ _ _ (by simpa using hg)⟩⟩)
        case rest =>
          obtain ⟨rfl, hbx, hrw, hgx⟩ := hcut
          obtain ⟨wx, rfl⟩ : ∃ wx : World, wx = wc := ⟨_, rfl⟩
          clear c0 d1 d2 fr hst
          go_wp2_with fail
          go_ret
          have e1 : sync S s = (0, { S with fs := upd Pf.name s (fun f => { f with syn := f.data.length }) S.fs, arm := if 0 < S.arm then S.arm - 1 else S.arm }) := by unfold sync; rw [he'.out]; exact gate_go ha'.out
          rw [e1]
          rw [flat3_set2 L i hi] at hrw
          have hwv : (Value.slice (some ⟨b, 0, none⟩) L.length c).ownBlock = some b := rfl
          have mv : Wd.Mv H w1 wx := (mv_one hg2 hl.hr).then (mv_one hgx (hl2.hv b rfl))
          have hfo : ∀ f ∈ L, wx.ownsRow 0 5 1 f.v f.data.length (f.data.map (Value.int .u8)) := fun f hf => Wd.own_keep (hl2.fil f hf) fun x hx => hgx.block x (Wd.own_lt (hl2.fil f hf) hx).1 (fun e => by cases e; exact hl2.vf hf hwv hx)
          have ht := hl2.turn (w' := wx) (L' := L.set i { L[i] with syn := n1 }) hbx (by rw [List.length_set]; exact hrw) (fun f hf => by
              rcases List.mem_or_eq_of_mem_set hf with q | rfl
              · exact hfo f q
              · exact hfo L[i] (List.getElem_mem hi)) hgx.size (fun x hx => .inl (hl2.hv x hx)) (fun f hf x hx => by
              rcases List.mem_or_eq_of_mem_set hf with q | rfl
              · exact .inl (hl2.hf f q x hx)
              · exact .inl (hl2.hf L[i] (List.getElem_mem hi) x hx))
          refine ⟨rfl, mv, .slice (some ⟨b, 0, none⟩) L.length c, L.set i { L[i] with syn := n1 }, am, lf', ?_, set_pf ok hp'.out hq'.out hi hif'.out _ (fun f => { f with syn := f.data.length }) ?_, ?_, hA2, hw2⟩
          · show Ref wx r _ _ S.cap am lf' S.dead _
            rw [hd'.out]
            refine ht.grow (fun g hg => ?_) (Wd.Gr.lt hl.bd mv.size)
            have := hg2.size
            rcases hg with q | q
            · exact .inl q
            · exact .inr (by omega)
          · have h1 := hif'.out
            rw [h1, hn1'.out]
            rfl
          · have := okC'.out
            rw [e1] at this
            exact this
  · rw [hd] at hE c4 hl
    have he : erN S s = 12 := by rw [hE]; unfold erF; rw [if_pos rfl]
    have e1 : sync S s = (12, S) := by unfold sync; rw [he]; exact gate_err (by decide)
    rw [e1]
    have hd' := Lib.hid hd
    clear he e1 hE hd okC
    go_enter Try.func32, Try.ntmps32
    go_wp2_with fail
    go_ret
    exact ⟨rfl, Wd.Mv.refl _ _, Rsk.gr ⟨v, L, am, lf, by rw [hd'.out]; exact hl, hp, ok, hA, hw⟩ (Nat.le_refl _) hl.bd⟩
end
end Dk
end Go.Proofs.Ythangnhccbnfbaa
