/- What Delete of the reference's disk does. -/
import Derived.Test.YthangnhccbnfbaaDkRefC
namespace Go.Proofs.Ythangnhccbnfbaa
open Go.RowKit Go.Maps
namespace Dk
theorem del_place {α : Type} {nm : α → ByteArray} {s : ByteArray} {L : List α} (h : Up nm L) {i : Nat} (hi : i < L.length) (hs : nm L[i] = s) : L.take i ++ L.drop (i + 1) = del nm s L := by
  have e : L = L.take i ++ L[i] :: L.drop (i + 1) := by rw [← List.drop_eq_getElem_cons hi, List.take_append_drop]
  have hp := h.apart
  have hd : del nm s L = del nm s (L.take i) ++ del nm s (L[i] :: L.drop (i + 1)) := by
    conv => lhs; rw [e]
    exact List.filter_append ..
  rw [hd]
  rw [e] at hp
  obtain ⟨h1, h2, h3⟩ := List.pairwise_append.1 hp
  obtain ⟨h4, h5⟩ := List.pairwise_cons.1 h2
  have e1 : del nm s (L.take i) = L.take i := List.filter_eq_self.2 fun x hx => by simpa [hs] using h3 x hx L[i] List.mem_cons_self
  have e2 : del nm s (L[i] :: L.drop (i + 1)) = L.drop (i + 1) := by
    unfold del
    rw [List.filter_cons, if_neg (by simp [hs])]
    exact List.filter_eq_self.2 fun x hx => by
      have := h4 x hx
      simp only [decide_eq_true_eq]
      intro q
      exact this (hs.trans q.symm)
  rw [e1, e2]
section
variable {w : World} {r : Nat} {H : Nat → Prop} {S : Pd}
set_option maxHeartbeats 4000000 in
theorem rdelete_any (h : Rsk w r H S) (s : ByteArray) :
    Calls Try.prog 33 #[pt r, .string s] w (RDid w r H (delete S s)) := by
  obtain ⟨v, L, am, lf, hl, hp, ok, hA, hw⟩ := h
  obtain ⟨i0, hi0, hz0, hz1, hz2⟩ := info_parts info_fl
  have Z := Lib.hid (And.intro hi0 (And.intro hz0 (And.intro hz1 hz2)))
  clear hi0 hz0 hz1 hz2
  have okC := ok.delete s
  have hE := erN_erF (S := S) hp s
  have c4 := hl.box.cell 4
  simp at c4
  cases hd : S.dead
  · rw [hd] at hE c4 hl
    cases q : fnd Fil.name s L
    · have he : erN S s = 3 := by rw [hE]; unfold erF; rw [if_neg (by simp), q]; rfl
      have e1 : delete S s = (3, S) := by unfold delete; rw [he]; exact gate_err (by decide)
      rw [e1]
      have hN := rAt_none hl s q
      have hd' := Lib.hid hd
      clear q he e1 hE hd okC
      go_enter Try.func33, Try.ntmps33
      go_wp2_with fail
      refine hN.mono ?_
      rintro e w1 ⟨rfl, rfl⟩
      go_wp2_with fail
      go_ret
      exact ⟨rfl, Wd.Mv.refl _ _, Rsk.gr ⟨v, L, am, lf, by rw [hd'.out]; exact hl, hp, ok, hA, hw⟩ (Nat.le_refl _) hl.bd⟩
    · rename_i f
      have he : erN S s = 0 := by rw [hE]; unfold erF; rw [if_neg (by simp), q]; rfl
      obtain ⟨i, hi, hif, hfs, hbf⟩ := place q
      have hN := rAt_some hl s i hi (by rw [hif]; exact hfs) hbf
      have i1 : (i : Int) < (L.length : Int) := by omega
      have i2 : (0 : Int) ≤ (i : Int) := by omega
      have hLl : L.length ≤ 256 := by have := ok.few; rw [← hp] at this; simpa using this
      have hLl' := Lib.hid hLl
      clear hLl
      have hup : Up Fil.name L := by
        have := ok.up
        rw [← hp] at this
        exact List.pairwise_map.1 this
      have hdl := del_place hup hi (s := s) (by rw [hif]; exact hfs)
      have okC' := Lib.hid okC
      have hp' := Lib.hid hp
      have hd' := Lib.hid hd
      have he' := Lib.hid he
      have hq' := Lib.hid q
      have hdl' := Lib.hid hdl
      have hup' := Lib.hid hup
      clear okC hE hp hd he q hif hfs hbf hdl hup
      by_cases ha : S.arm = 0
      · obtain ⟨ham, hlf⟩ : am = true ∧ lf = 0 := by
          cases am
          · have := hA.2 rfl; omega
          · exact ⟨rfl, (hA.1 rfl).1.trans ha⟩
        subst ham hlf
        have hS := rdies_yes hl
        have hA' := Lib.hid hA
        have ha' := Lib.hid ha
        clear hA ha
        go_enter Try.func33, Try.ntmps33
        go_wp2_with fail
        refine hN.mono ?_
        rintro e w1 ⟨rfl, rfl⟩
        go_wp2_with fail
        refine hS.mono ?_
        rintro e w2 ⟨rfl, hl2, hg2⟩
        go_wp2_with fail
        go_ret
        have e1 : delete S s = (12, { S with dead := true }) := by unfold delete; rw [he'.out]; exact gate_die ha'.out
        rw [e1]
        refine ⟨rfl, mv_one hg2 hl.hr, Rsk.gr ⟨v, L, true, 0, hl2, hp'.out, ?_, hA'.out, hw⟩ hg2.size hl.bd⟩
        have := okC'.out
        rw [e1] at this
        exact this
      · have hS := rdies_no hl hA ha hw _ (Lib.hid rfl)
        have ha' := Lib.hid ha
        have hA' := Lib.hid hA
        clear ha hA
        go_enter Try.func33, Try.ntmps33
        go_wp2_with fail
        refine hN.mono ?_
        rintro e w1 ⟨rfl, rfl⟩
        go_wp2_with fail
        refine hS.mono ?_
        rintro e w2 ⟨rfl, lf', hl2, hg2, hA2, hw2⟩
        have hrow := hl2.row
        obtain ⟨-, A, c, rfl, hF, hvb⟩ := Fs.of_own hl2.row
        have hbx := hl2.box
        have c0 := hl2.box.cell 0
        have f0 := hl2.box.free 0
        simp at c0
        obtain ⟨b, rfl, hlt, -, -, -⟩ := hF.rd i hi
        have hcp := hF.cap
        have hmx := hF.max
        unfold maxLen at hmx
        have hsh : ∀ f ∈ L, ∃ A n c, f.v = .slice A n c := fun f hf => by
          obtain ⟨A1, n1, c1, hv, _⟩ := Wd.Sl.of_own (hl2.fil f hf)
          exact ⟨A1, n1, c1, hv⟩
        have hc1 := fs_cells hrow 0 (L.take i) (fun j u hu => by
          rw [← flat3_take, List.getElem?_take] at hu
          split at hu
          · rw [Nat.zero_mul, Nat.zero_add]; exact hu
          · cases hu)
        have ht1 : (L.take i).length = i := by simp; omega
        have ht1' := Lib.hid ht1
        have hrb : r ≠ b := fun e => hl2.rv (by rw [e]; rfl)
        have hi9 : i ≤ 1000 := by have := hLl'.out; omega
        clear hF hS hvb ht1
        have hbxl := hbx.lt
        have hd2 : ∀ ad, (if c = i + 1 then some (⟨b, 0, none⟩ : Addr) else some ⟨b, (i + 1) * 3, none⟩) = some ad → ∀ W : World, W.heap[b]? = w2.heap[b]? → ∀ j u, (flat3 (L.drop (i + 1)))[j]? = some u → W.cell? (ad.add j) = some u := by
          intro ad had W hW j u hu
          split at had
          · rename_i e
            rw [List.drop_of_length_le (by omega)] at hu
            simp [flat3] at hu
          · cases had
            rw [← fs_cells hrow (i + 1) (L.drop (i + 1)) (fun j u hu => by rw [← flat3_drop, List.getElem?_drop] at hu; exact hu) j u hu]
            rw [Addr.add_lit]
            exact World.cell?_of_block (a := ⟨b, (i + 1) * 3 + j, none⟩) hW
        have hbf : w2.frozen? ⟨r, 0, none⟩ = false := f0
        have tok1 : True := trivial
        go_wp2_with (first
          | (at_builtin; have _t := tok1; refine wpList_app3 _ rfl (.const (.slice none 0 0)) (.tmp 23) 59 rfl 0 64 i0 _ 48 Try.underlying59 Z.out.1 Z.out.2.1 Z.out.2.2.1 Z.out.2.2.2 rfl (.slice none 0 0) [] rfl (World.ownsRow_nil _ _ _ _) (some ⟨b, 0, none⟩) i c (L.take i) rfl ht1'.out.symm (by simp) (fun ad had => by cases had; simpa using hc1) (fun f hf => hsh f (List.mem_of_mem_take hf)) (by simp only [List.length_nil]; rw [ht1'.out]; omega) (by simp only [List.length_nil]; rw [ht1'.out]; unfold maxLen; omega) (Nat.zero_le _) ?_; intro v3 w3 hown3 hg3 hloc3; rw [List.nil_append] at hown3; have c03 : w3.cell? ⟨r, 0, none⟩ = some (.slice (some ⟨b, 0, none⟩) L.length c) := (World.cell?_of_block (a := ⟨r, 0, none⟩) (hg3.block r hbxl (by simp [Value.ownBlock]))).trans c0; have hv3 : ∀ x, v3.ownBlock = some x → w2.heap.size ≤ x := (fun x hx => by (rcases hloc3 with q | q); (rw [q] at hx; simp [Value.ownBlock] at hx); (rw [q] at hx; cases hx; exact Nat.le_refl _)); clear hc1 tok1)
          | (at_builtin; refine wpList_app3 _ rfl (.tmp 26) (.tmp 33) 59 rfl 0 64 i0 _ 48 Try.underlying59 Z.out.1 Z.out.2.1 Z.out.2.2.1 Z.out.2.2.2 rfl v3 (L.take i) rfl hown3 (if c = i + 1 then some ⟨b, 0, none⟩ else some ⟨b, (i + 1) * 3, none⟩) (L.length - (i + 1)) (c - (i + 1)) (L.drop (i + 1)) rfl (by simp) (fun e => by split at e <;> cases e) (fun ad had => hd2 ad had w3 (hg3.block b hlt (by simp [Value.ownBlock]))) (fun f hf => hsh f (List.mem_of_mem_drop hf)) (by rw [ht1'.out, List.length_drop]; have := hLl'.out; omega) (by rw [ht1'.out, List.length_drop]; have := hLl'.out; unfold maxLen; omega) (Nat.zero_le _) ?_; intro v4 w4 hown4 hg4 hloc4; have hr4 : w4.heap[r]? = w2.heap[r]? := ((hg4.block r (Nat.lt_of_lt_of_le hbxl hg3.size) (fun e => by have := hv3 r e.symm; omega)).trans (hg3.block r hbxl (by simp [Value.ownBlock]))); obtain ⟨-, A4, k4, rfl, hF4, -⟩ := Fs.of_own hown4; have c04 : w4.cell? ⟨r, 0, none⟩ = some (.slice (some ⟨b, 0, none⟩) L.length c) := (World.cell?_of_block (a := ⟨r, 0, none⟩) hr4).trans c0; have f04 : w4.frozen? ⟨r, 0, none⟩ = false := (World.frozen?_of_block (a := ⟨r, 0, none⟩) hr4).trans hbf)
          | fail)
        all_goals go_ret
        all_goals
          have e1 : delete S s = (0, { S with fs := del Pf.name s S.fs, arm := if 0 < S.arm then S.arm - 1 else S.arm }) := by unfold delete; rw [he'.out]; exact gate_go ha'.out
          rw [e1]
          have hB4 := hbx.at_ hr4
          have hset := hB4.set 0 (.slice A4 (List.take i L ++ List.drop (i + 1) L).length k4)
          obtain ⟨w5, hw5⟩ : ∃ w5, w5 = w4.setCell ⟨r, 0, none⟩ (.slice A4 (List.take i L ++ List.drop (i + 1) L).length k4) := ⟨_, rfl⟩
          have hlen2 : min i L.length + (L.length - (i + 1)) = (List.take i L ++ List.drop (i + 1) L).length := by simp
          have hg5 : w4.grownBy w5 (some r) := by subst hw5; exact ⟨rfl, rfl, rfl, by simp [World.setCell], fun k _ hk => Below.heap_setCell _ _ _ _ (by simpa using hk)⟩
          have hx4 : ∀ x, (Value.slice A4 (List.take i L ++ List.drop (i + 1) L).length k4).ownBlock = some x → x ≠ r := fun x hx e => by
            obtain ⟨_, _, cur, hc⟩ := Wd.own_lt hown4 hx
            unfold Wd.Bx at hB4
            rw [e, hB4] at hc
            simp at hc
          have hold : ∀ g, g < w2.heap.size → g ≠ r → w5.heap[g]? = w2.heap[g]? := fun g hg hne =>
            ((hg5.block g (Nat.lt_of_lt_of_le hg (Nat.le_trans hg3.size hg4.size)) (by simpa using hne)).trans (hg4.block g (Nat.lt_of_lt_of_le hg hg3.size) (fun e => by have := hv3 g e.symm; omega))).trans (hg3.block g hg (by simp [Value.ownBlock]))
          have hsz : w2.heap.size ≤ w5.heap.size := Nat.le_trans hg3.size (Nat.le_trans hg4.size hg5.size)
          have mv : Wd.Mv H w1 w5 := ⟨hg5.os.trans (hg4.os.trans (hg3.os.trans hg2.os)), hg5.tape.trans (hg4.tape.trans (hg3.tape.trans hg2.tape)), hg5.output.trans (hg4.output.trans (hg3.output.trans hg2.output)), Nat.le_trans hg2.size hsz,
            fun g hg hn => (hold g (Nat.lt_of_lt_of_le hg hg2.size) (fun e => hn (by rw [e]; exact hl.hr))).trans (hg2.block g hg (fun e => hn (by cases e; exact hl.hr)))⟩
          have hsub : ∀ f ∈ List.take i L ++ List.drop (i + 1) L, f ∈ L := fun f hf => by
            rcases List.mem_append.1 hf with q | q
            · exact List.mem_of_mem_take q
            · exact List.mem_of_mem_drop q
          have ht := hl2.turn (w' := w5) (v' := .slice A4 (List.take i L ++ List.drop (i + 1) L).length k4) (L' := List.take i L ++ List.drop (i + 1) L) (by rw [hw5]; simpa using hset) (Wd.own_keep hown4 fun x hx => hg5.block x (Wd.own_lt hown4 hx).1 (by simpa using hx4 x hx))
            (fun f hf => Wd.own_keep (hl2.fil f (hsub f hf)) fun x hx => hold x (Wd.own_lt (hl2.fil f (hsub f hf)) hx).1 (fun e => hl2.rf (hsub f hf) (by rw [hx, e]))) hsz
            (fun x hx => .inr (by
              rcases hloc4 with q | q
              · rw [q] at hx; exact hv3 x hx
              · rw [q] at hx; cases hx; exact hg3.size)) (fun f hf x hx => .inl (hl2.hf f (hsub f hf) x hx))
          refine ⟨rfl, ?_⟩
          rw [hlen2, ← hw5]
          refine ⟨mv, .slice A4 (List.take i L ++ List.drop (i + 1) L).length k4, List.take i L ++ List.drop (i + 1) L, am, lf', ?_, ?_, ?_, hA2, hw2⟩
          · show Ref w5 r _ _ S.cap am lf' S.dead _
            rw [hd'.out]
            refine ht.grow (fun g hg => ?_) (Wd.Gr.lt hl.bd mv.size)
            have := hg2.size
            rcases hg with q | q
            · exact .inl q
            · exact .inr (by omega)
          · rw [hdl'.out, map_del (nm := Fil.name) (nm' := Pf.name) Fil.pf (fun _ => rfl), hp'.out]
          · have := okC'.out
            rw [e1] at this
            exact this
  · rw [hd] at hE c4 hl
    have he : erN S s = 12 := by rw [hE]; unfold erF; rw [if_pos rfl]
    have e1 : delete S s = (12, S) := by unfold delete; rw [he]; exact gate_err (by decide)
    rw [e1]
    have hd' := Lib.hid hd
    clear he e1 hE hd okC
    go_enter Try.func33, Try.ntmps33
    go_wp2_with fail
    go_ret
    exact ⟨rfl, Wd.Mv.refl _ _, Rsk.gr ⟨v, L, am, lf, by rw [hd'.out]; exact hl, hp, ok, hA, hw⟩ (Nat.le_refl _) hl.bd⟩
end
end Dk
end Go.Proofs.Ythangnhccbnfbaa
