/- What Sync, Delete, Room, Arm of package disk do. -/
import Derived.Test.YthangnhccbnfbaaDkCalls
namespace Go.Proofs.Ythangnhccbnfbaa
open Go.RowKit Go.Maps
namespace Dk
theorem upd_one {α : Type} {nm : α → ByteArray} {l : List α} (h : Up nm l) {s : ByteArray} {p : α} (hp : p ∈ l) (hs : nm p = s) (g : α → α) : upd nm s (fun _ => g p) l = upd nm s g l := by
  unfold upd
  refine List.map_congr_left fun x hx => ?_
  split
  · rename_i e
    rw [h.one hx hp (e.trans hs.symm)]
  · rfl
/-- One file turned, as the plain lists say it. -/
theorem turned_pf {S : Pd} (ok : S.Ok) {L : List Fil} (hp : L.map Fil.pf = S.fs) {s : ByteArray} {f f' : Fil} (hf : fnd Fil.name s L = some f) (g : Pf → Pf) (hg : f'.pf = g f.pf) :
    (upd Fil.name f.name (fun _ => f') L).map Fil.pf = upd Pf.name s g S.fs := by
  obtain ⟨hm, rfl⟩ := fnd_some hf
  rw [map_upd (nm := Fil.name) (nm' := Pf.name) Fil.pf (fun _ => rfl) f.name (g' := fun _ => f'.pf) (fun _ => rfl), hp, hg]
  exact upd_one (nm := Pf.name) ok.up (by rw [← hp]; exact List.mem_map.2 ⟨f, hm, rfl⟩) rfl g
section
variable {w : World} {d m : Nat} {L : List Fil} {cap arm : Int} {dead : Bool} {G : Nat → Prop}
theorem Lay.shape (h : Lay w d m L cap arm dead G) {f : Fil} (hf : f ∈ L) : ∃ A c, f.v = .slice A f.data.length c ∧ Wd.Sl w .u8 A f.data.length c f.data ∧ (∀ x, f.v.ownBlock = some x → ∃ b, A = some ⟨b, 0, none⟩ ∧ b = x) := by
  obtain ⟨A, n, c, hv, hs⟩ := Wd.Sl.of_own (h.row f hf)
  have := hs.len
  subst this
  refine ⟨A, c, hv, hs, fun x hx => ?_⟩
  rcases (h.row f hf).2 with ⟨h1, _⟩ | ⟨g, cap, cur, h1, _⟩
  · rw [h1] at hx; simp [Value.ownBlock] at hx
  · rw [hv] at h1
    simp only [Value.slice.injEq] at h1
    refine ⟨g, h1.1, ?_⟩
    rw [hv, h1.1] at hx
    simpa [Value.ownBlock] using hx
end
section
variable {w : World} {d : Nat} {G : Nat → Prop} {S : Pd}
theorem erN_erF {L : List Fil} (hp : L.map Fil.pf = S.fs) (s : ByteArray) : erN S s = erF S.dead s L := by
  unfold erN erF
  rw [← hp, fnd_pf]
  simp
theorem erF_ok {dead : Bool} {s : ByteArray} {L : List Fil} (h : erF dead s L = 0) : dead = false ∧ ∃ f, fnd Fil.name s L = some f := by
  unfold erF at h
  cases dead
  · refine ⟨rfl, ?_⟩
    cases q : fnd Fil.name s L
    · rw [q] at h; simp at h
    · exact ⟨_, rfl⟩
  · simp at h

theorem sync_any (h : Dsk w d G S) (s : ByteArray) (hs : s.size ≤ 100) :
    Calls Try.prog 20 #[pt d, .string s] w (Did w d G (sync S s)) := by
  obtain ⟨m, L, hl, hp, ok⟩ := h
  have okC := ok.sync s
  have hE := erN_erF (S := S) hp s
  by_cases he : erN S s = 0
  · obtain ⟨hd, f, hf⟩ := erF_ok (hE.symm.trans he)
    have hfm := (fnd_some hf).1
    have hl0 := hl
    rw [hd] at hl0
    have hF := find_some hl0 s (small hs) f hf
    have okC' := Lib.hid okC
    have hp' := Lib.hid hp
    have hd' := Lib.hid hd
    have he' := Lib.hid he
    have hf' := Lib.hid hf
    clear okC hE hp hd he hf hl0
    by_cases ha : S.arm = 0
    · rw [ha] at hl
      have hS := step_no hl
      go_enter Try.func20, Try.ntmps20
      go_wp2_with fail
      refine hF.mono ?_
      rintro e w' ⟨rfl, rfl⟩
      go_wp2_with fail
      refine hS.mono ?_
      rintro e w1 ⟨rfl, hl1, hg1, -⟩
      go_wp2_with fail
      go_ret
      have hp := hp'.out
      have e1 : sync S s = (12, { S with dead := true }) := by unfold sync; rw [he'.out]; exact gate_die ha
      rw [e1]
      refine ⟨rfl, mv_one hg1 hl.gd, Dsk.gr ⟨m, L, ?_, hp, ?_⟩ hg1.size hl.bd⟩
      · show Lay w1 d m L S.cap S.arm true G
        rw [ha]; exact hl1
      · have := okC'.out
        rw [e1] at this
        exact this
    · have hS := step_yes hl ha ok.arm0 ok.arm1 _ rfl
      have ha' := Lib.hid ha
      clear ha
      go_enter Try.func20, Try.ntmps20
      go_wp2_with fail
      refine hF.mono ?_
      rintro e w' ⟨rfl, rfl⟩
      go_wp2_with fail
      refine hS.mono ?_
      rintro e w1 ⟨rfl, hl1, hg1, -⟩
      obtain ⟨A, c, hv, hsl, -⟩ := hl1.shape hfm
      have hB := hl1.fil f hfm
      rw [hv] at hB
      have b0 := hB.cell 0
      have b1 := hB.cell 1
      have fr := hB.free 1
      simp at b0 b1
      have hset := hB.set 1 (.int .i64 (f.data.length : Int))
      have hv' := Lib.hid hv
      clear hv
      go_wp2_with fail
      go_ret
      have hp := hp'.out
      have hf := hf'.out
      have e1 : sync S s = (0, { S with fs := upd Pf.name s (fun f => { f with syn := f.data.length }) S.fs, arm := if 0 < S.arm then S.arm - 1 else S.arm }) := by unfold sync; rw [he'.out]; exact gate_go ha'.out
      rw [e1]
      obtain ⟨w2, hw2⟩ : ∃ w2, w2 = w1.setCell ⟨f.blk, 1, none⟩ (.int .i64 (f.data.length : Int)) := ⟨_, rfl⟩
      rw [← hw2] at hset ⊢
      have hg2 : w1.grownBy w2 (some f.blk) := by subst hw2; exact ⟨rfl, rfl, rfl, by simp [World.setCell], fun k _ hk => Below.heap_setCell _ _ _ _ (by simpa using hk)⟩
      have hz2 : w2.heap.size = w1.heap.size := by subst hw2; simp [World.setCell]
      have mv : Wd.Mv G w' w2 := (mv_one hg1 hl.gd).then (mv_one hg2 (hl1.gf f hfm))
      have ht := hl1.turn_file (w' := w2) (f' := ⟨f.name, f.data, f.data.length, f.blk, f.v⟩) hfm rfl rfl (by rw [hv'.out]; simpa using hset) (Wd.own_keep (hl1.row f hfm) fun x hx => hg2.block x (Wd.own_lt (hl1.row f hfm) hx).1 (fun e => hl1.fv hfm hfm (by rw [hx, e])))
        (fun x hx => .inl hx) (fun g hg hne _ => hg2.block g hg (by simpa using hne)) hg2.size
      refine ⟨rfl, mv, m, _, ht.grow (fun g hg => ?_) (Wd.Gr.lt hl.bd (Nat.le_trans hg1.size hg2.size)), turned_pf ok hp hf _ rfl, ?_⟩
      · have hs1 : w'.heap.size ≤ w1.heap.size := hg1.size
        rcases hg with q | q
        · exact .inl q
        · exact .inr (by omega)
      · have := okC'.out
        rw [e1] at this
        exact this
  · have hne : (erN S s != 0) = true := by simpa using he
    have e1 : sync S s = (erN S s, S) := gate_err he
    have hF := find_any hl s (small hs) (erN S s) _ hE rfl
    rw [e1]
    generalize erN S s = er at hF hne he
    have He := Lib.hid he
    clear he hE e1
    go_enter Try.func20, Try.ntmps20
    go_wp2_with fail
    refine hF.mono ?_
    rintro e w' ⟨rfl, rfl⟩
    go_wp2_with fail
    go_ret
    exact ⟨rfl, Wd.Mv.refl _ _, Dsk.gr ⟨m, L, hl, hp, ok⟩ (Nat.le_refl _) hl.bd⟩

theorem delete_any (h : Dsk w d G S) (s : ByteArray) (hs : s.size ≤ 100) :
    Calls Try.prog 27 #[pt d, .string s] w (Did w d G (delete S s)) := by
  obtain ⟨m, L, hl, hp, ok⟩ := h
  have okC := ok.delete s
  have hE := erN_erF (S := S) hp s
  by_cases he : erN S s = 0
  · obtain ⟨hd, f, hf⟩ := erF_ok (hE.symm.trans he)
    have hl0 := hl
    rw [hd] at hl0
    have hF := find_some hl0 s (small hs) f hf
    have okC' := Lib.hid okC
    have hp' := Lib.hid hp
    have hd' := Lib.hid hd
    have he' := Lib.hid he
    clear okC hE hp hd he hf hl0
    by_cases ha : S.arm = 0
    · rw [ha] at hl
      have hS := step_no hl
      go_enter Try.func27, Try.ntmps27
      go_wp2_with fail
      refine hF.mono ?_
      rintro e w' ⟨rfl, rfl⟩
      go_wp2_with fail
      refine hS.mono ?_
      rintro e w1 ⟨rfl, hl1, hg1, -⟩
      go_wp2_with fail
      go_ret
      have hp := hp'.out
      have e1 : delete S s = (12, { S with dead := true }) := by unfold delete; rw [he'.out]; exact gate_die ha
      rw [e1]
      refine ⟨rfl, mv_one hg1 hl.gd, Dsk.gr ⟨m, L, ?_, hp, ?_⟩ hg1.size hl.bd⟩
      · show Lay w1 d m L S.cap S.arm true G
        rw [ha]; exact hl1
      · have := okC'.out
        rw [e1] at this
        exact this
    · have hS := step_yes hl ha ok.arm0 ok.arm1 _ rfl
      have ha' := Lib.hid ha
      clear ha
      go_enter Try.func27, Try.ntmps27
      go_wp2_with fail
      refine hF.mono ?_
      rintro e w' ⟨rfl, rfl⟩
      go_wp2_with fail
      refine hS.mono ?_
      rintro e w1 ⟨rfl, hl1, hg1, -⟩
      have c0 := hl1.box.cell 0
      simp at c0
      go_wp2_with (first
        | (at_delete; refine wpList_delete_own _ rfl _ _ 56 9 rfl 65 law Try.underlying56 fp m L.length (Dm L) rfl hl1.own _ (ky s) rfl (key_of (small hs)) ?_; intro w2 hown2 ht2)
        | fail)
      go_ret
      have hp := hp'.out
      have e1 : delete S s = (0, { S with fs := del Pf.name s S.fs, arm := if 0 < S.arm then S.arm - 1 else S.arm }) := by unfold delete; rw [he'.out]; exact gate_go ha'.out
      rw [e1]
      have hg2 := ht2.grown
      refine ⟨rfl, (mv_one hg1 hl.gd).then (mv_one hg2 hl.gm), Dsk.gr ⟨m, _, hl1.drop s hown2 hg2, ?_, ?_⟩ (Nat.le_trans hg1.size hg2.size) hl.bd⟩
      · rw [map_del (nm := Fil.name) (nm' := Pf.name) Fil.pf (fun _ => rfl), hp]
      · have := okC'.out
        rw [e1] at this
        exact this
  · have hne : (erN S s != 0) = true := by simpa using he
    have e1 : delete S s = (erN S s, S) := gate_err he
    have hF := find_any hl s (small hs) (erN S s) _ hE rfl
    rw [e1]
    generalize erN S s = er at hF hne he
    have He := Lib.hid he
    clear he hE e1
    go_enter Try.func27, Try.ntmps27
    go_wp2_with fail
    refine hF.mono ?_
    rintro e w' ⟨rfl, rfl⟩
    go_wp2_with fail
    go_ret
    exact ⟨rfl, Wd.Mv.refl _ _, Dsk.gr ⟨m, L, hl, hp, ok⟩ (Nat.le_refl _) hl.bd⟩

theorem room_any (h : Dsk w d G S) (n : Int) :
    Calls Try.prog 28 #[pt d, .int .i64 n] w (Did0 w d G (room S n)) := by
  obtain ⟨m, L, hl, hp, ok⟩ := h
  have okC := ok.roomed n
  by_cases hn : 0 ≤ n ∧ n ≤ 16777216
  · have hC := isCap_yes n w hn.1 hn.2
    have f1 := hl.box.free 1
    have c1 := hl.box.cell 1
    simp at c1
    have hb := hl.box.set 1 (.int .i64 n)
    have e1 : room S n = { S with cap := n } := if_pos hn
    rw [e1] at okC ⊢
    have hp' := Lib.hid hp
    clear e1 hp hn
    go_enter Try.func28, Try.ntmps28
    go_wp2_with fail
    refine hC.mono ?_
    rintro e w' ⟨rfl, rfl⟩
    go_wp2_with fail
    go_end0
    have hg : w'.grownBy (w'.setCell ⟨d, 1, none⟩ (.int .i64 n)) (some d) := ⟨rfl, rfl, rfl, by simp [World.setCell], fun k _ hk => Below.heap_setCell _ _ _ _ (by simpa using hk)⟩
    exact ⟨rfl, mv_one hg hl.gd, Dsk.gr ⟨m, L, hl.turn_box (by simpa [armed] using hb) hg, hp'.out, okC⟩ hg.size hl.bd⟩
  · have hC := isCap_no n w (by omega)
    have e1 : room S n = S := if_neg hn
    rw [e1]
    have hp' := Lib.hid hp
    clear e1 hp hn okC
    go_enter Try.func28, Try.ntmps28
    go_wp2_with fail
    refine hC.mono ?_
    rintro e w' ⟨rfl, rfl⟩
    go_wp2_with fail
    refine bodyPost_ret (results_none rfl _ _ _) rfl ?_
    exact ⟨rfl, Wd.Mv.refl _ _, Dsk.gr ⟨m, L, hl, hp'.out, ok⟩ (Nat.le_refl _) hl.bd⟩

theorem arm_any (h : Dsk w d G S) (n : Int) (h0 : -9223372036854775808 ≤ n) (h1 : n ≤ 9223372036854775807) :
    Calls Try.prog 29 #[pt d, .int .i64 n] w (Did0 w d G (armed S n)) := by
  obtain ⟨m, L, hl, hp, ok⟩ := h
  have okC := ok.armed h0 h1
  have f2 := hl.box.free 2
  have c2 := hl.box.cell 2
  simp at c2
  have hb := hl.box.set 2 (.int .i64 n)
  have hp' := Lib.hid hp
  clear hp
  go_enter Try.func29, Try.ntmps29
  go_wp2_with fail
  go_end0
  have hg : w.grownBy (w.setCell ⟨d, 2, none⟩ (.int .i64 n)) (some d) := ⟨rfl, rfl, rfl, by simp [World.setCell], fun k _ hk => Below.heap_setCell _ _ _ _ (by simpa using hk)⟩
  exact ⟨rfl, mv_one hg hl.gd, Dsk.gr ⟨m, L, hl.turn_box (by simpa [armed] using hb) hg, hp'.out, okC⟩ hg.size hl.bd⟩
end
end Dk
end Go.Proofs.Ythangnhccbnfbaa
