/- What Copy of package disk does. -/
import Derived.Test.YthangnhccbnfbaaDkLawW
namespace Go.Proofs.Ythangnhccbnfbaa
open Go.RowKit Go.Maps
namespace Dk
theorem mm (n : Nat) (w : World) : (Instr.makeMap 56 (some (.int .i64 (n : Int)))).run Try.prog w = .ok (.map (some w.heap.size)) (w.alloc (.map #[] 0)) := by
  simp [Instr.makeMap, asInt, asIntOf]
/-- The files of L that have come are those of L2, elsewhere. -/
structure Cp (left : Lit → Bool) (L L2 : List Fil) : Prop where
  fwd : ∀ f2 ∈ L2, ∃ f ∈ L, f2.pf = f.pf ∧ left (ky f.name) = false
  bwd : ∀ f ∈ L, left (ky f.name) = false → ∃ f2 ∈ L2, f2.pf = f.pf
theorem Cp.new {left : Lit → Bool} {L L2 : List Fil} {f : Fil} (h : Cp left L L2) (hl : left (ky f.name) = true) : fnd Fil.name f.name L2 = none := by
  cases q : fnd Fil.name f.name L2
  · rfl
  · rename_i f2
    obtain ⟨h1, h2⟩ := fnd_some q
    obtain ⟨g, hg, e, hg2⟩ := h.fwd f2 h1
    have : g.name = f.name := by
      have := congrArg Pf.name e
      simp only [Fil.pf] at this
      rw [← this, h2]
    rw [this, hl] at hg2
    cases hg2
theorem Cp.step {left : Lit → Bool} {L L2 : List Fil} {f f2 : Fil} (h : Cp left L L2) (hu : Up Fil.name L) (hf : f ∈ L) (he : f2.pf = f.pf) : Cp (fun z => left z && !z.sameKey (ky f.name)) L (ins Fil.name f2 L2) := by
  refine ⟨fun g hg => ?_, fun g hg hgl => ?_⟩
  · rcases mem_ins.1 hg with rfl | hg
    · exact ⟨f, hf, he, by simp [same_ky]⟩
    · obtain ⟨x, hx, e, hl⟩ := h.fwd g hg
      exact ⟨x, hx, e, by simp [hl]⟩
  · by_cases e : g.name = f.name
    · obtain rfl := hu.one hg hf e
      exact ⟨f2, mem_ins.2 (.inl rfl), he⟩
    · rw [same_ky, decide_eq_false e, Bool.not_false, Bool.and_true] at hgl
      obtain ⟨x, hx, e⟩ := h.bwd g hg hgl
      exact ⟨x, mem_ins.2 (.inr hx), e⟩
theorem Cp.all {left : Lit → Bool} {L L2 : List Fil} (h : Cp left L L2) (hu : Up Fil.name L) (hu2 : Up Fil.name L2) (hl : ∀ k, left k = false) : L2.map Fil.pf = L.map Fil.pf := by
  refine Up.eq (nm := Pf.name) (List.pairwise_map.2 hu2) (List.pairwise_map.2 hu) fun x => ?_
  simp only [List.mem_map]
  constructor
  · rintro ⟨f2, hf2, rfl⟩
    obtain ⟨f, hf, e, _⟩ := h.fwd f2 hf2
    exact ⟨f, hf, e.symm⟩
  · rintro ⟨f, hf, rfl⟩
    exact h.bwd f hf (hl _)
theorem grown_of_below {w w' : World} (h : Below w.heap.size w w') : w.grownBy w' none := ⟨h.os, h.tape, h.output, h.size, fun k hk _ => h.block k hk⟩
/-- What is new since w, but for block r. -/
def G2 (w : World) (r : Nat) (wr : World) (g : Nat) : Prop := (w.heap.size ≤ g ∧ g < wr.heap.size) ∧ g ≠ r
section
variable {w : World} {d m : Nat} {L : List Fil} {cap arm : Int} {dead : Bool} {G : Nat → Prop}
set_option maxHeartbeats 4000000 in
theorem copy_lay (h : Lay w d m L cap arm dead G) (hL : L.length ≤ 256) (hU : usedF L ≤ 100000000) (hN : ∀ f ∈ L, f.name.size ≤ 32) :
    Calls Try.prog 22 #[pt d] w fun e w' => ∃ d2 m2 L2, e = .returned (pt d2) ∧ Below w.heap.size w w' ∧ Lay w' d2 m2 L2 cap arm dead (fun g => w.heap.size ≤ g ∧ g < w'.heap.size) ∧ L2.map Fil.pf = L.map Fil.pf := by
  have c0 := h.box.cell 0
  have c1 := h.box.cell 1
  have c2 := h.box.cell 2
  have c3 := h.box.cell 3
  simp at c0 c1 c2 c3
  have hup := h.up
  have hdl := h.box.lt
  have c4 : ∀ o, (w.alloc o).cell? ⟨d, 0, none⟩ = some (.map (some m)) := fun o => (World.cell?_alloc_lt w o ⟨d, 0, none⟩ hdl).trans c0
  have c5 : ∀ o o', ((w.alloc o).alloc o').cell? ⟨d, 0, none⟩ = some (.map (some m)) := fun o o' => (World.cell?_alloc_lt (w.alloc o) o' ⟨d, 0, none⟩ (by simp; omega)).trans (c4 o)
  have hlen : ∀ o ty, (Builtin.len_ #[56] ty #[.map (some m)]).run Try.prog (w.alloc o) = .ok (.int .i64 (L.length : Int)) (w.alloc o) := fun o ty => by
    have := (h.own.alloc o).len Try.underlying56 ty
    rwa [size_Dm] at this
  have hmm := mm L.length
  go_enter Try.func22, Try.ntmps22
  go_wp2_with (first
    | (at_range; refine wpList_range_own _ rfl _ 56 rfl 9 65 law Try.underlying56 fp m L.length (Dm L) rfl ((h.own.alloc _).alloc _) ?_; intro w0 hrg0 hg0 hs0)
    | fail)
  go_frame
  obtain ⟨WA, hWA⟩ : ∃ WA, WA = w.alloc (.cells #[.map (some (w.heap.size + 1)), .int .i64 cap, .int .i64 arm, .bool dead] 58) := ⟨_, rfl⟩
  rw [← hWA] at hrg0 hg0 hs0 ⊢
  have hzA : WA.heap.size = w.heap.size + 1 := by rw [hWA]; simp
  have hzB : (WA.alloc (.map #[] 0)).heap.size = w.heap.size + 2 := by simp [hzA]
  have hBA : Wd.Bx WA w.heap.size 58 #[.map (some (w.heap.size + 1)), .int .i64 cap, .int .i64 arm, .bool dead] := by rw [hWA]; exact Wd.Bx.new w _ _
  have hbA : Below w.heap.size w WA := by rw [hWA]; exact (Below.refl _ _).alloc (Nat.le_refl _) _
  have hmA : (WA.alloc (.map #[] 0)).ownsMap Try.prog 9 fp (w.heap.size + 1) 0 (Dm []) := by
    have := World.ownsMap_made WA Try.prog 9 fp
    rwa [hzA] at this
  rw [hzB] at hrg0 hs0 ⊢
  have hb0 : Below w.heap.size w w0 := (hbA.alloc (by omega) _).grown hg0 (by omega) (by simp)
  have hl0 : Lay w0 w.heap.size (w.heap.size + 1) [] cap arm dead (G2 w (w.heap.size + 2) w0) :=
    ⟨(hBA.alloc _).grown hg0 (by simp), hmA.kept hg0 (by simp), by simp, by simp, by simp, by simp, ⟨⟨Nat.le_refl _, by omega⟩, by omega⟩, ⟨⟨by omega, by omega⟩, by omega⟩, by simp, by simp, fun g hg => hg.1.2⟩
  clear hWA hzA hzB hBA hbA hmA hg0 hs0 hlen hmm c4 c5 c0 c1 c2 c3
  go_loopw [4] (fun _ wr => ∃ (left : Lit → Bool) (cnt : Nat) (L2 : List Fil), wr.ranges Try.prog 9 fp m (w.heap.size + 2) L.length (Dm L) left cnt ∧ Below w.heap.size w wr ∧ Lay wr w.heap.size (w.heap.size + 1) L2 cap arm dead (G2 w (w.heap.size + 2) wr) ∧ Hid (Cp left L L2) ∧ L2.length + cnt ≤ L.length)
    (fun _ wr => wr.rangeLeft m (w.heap.size + 2))
  case atStart =>
    refine ⟨_, _, [], hrg0, hb0, hl0, ⟨by simp, fun f hf hl => ?_⟩, by rw [size_Dm]; simp⟩
    rw [has_Dm, hup.mem_fnd hf] at hl
    cases hl
  case round =>
    obtain ⟨left, cnt, L2, hrg, hb, hl, hC, hcn⟩ := hrel
    clear hrg0 hb0 hl0
    obtain ⟨wo, rfl⟩ : ∃ wo : World, wo = wr := ⟨_, rfl⟩
    go_wp2_with (first
      | (at_next; refine wpList_next_file _ rfl _ rfl m (w.heap.size + 2) L.length L left cnt rfl hrg ?_ ?_)
      | fail)
    · intro _ hl0
      have hl0' := Lib.hid hl0
      clear hl0
      go_wp2_with fail
      go_ret
      refine ⟨w.heap.size, w.heap.size + 1, L2, rfl, hb, hl.grow (fun g hg => hg.1) (fun g hg => hg.2), hC.out.all hup hl.up hl0'.out⟩
    · intro f w1 cnt1 hf hlk hrg1 hlt hg1 hs1 hen
      have hrl := hrg.lt
      have hb1 : Below w.heap.size w w1 := hb.grown hg1 hb.size (fun j hj => by cases hj; omega)
      have hl1 : Lay w1 w.heap.size (w.heap.size + 1) L2 cap arm dead (G2 w (w.heap.size + 2) wo) := hl.mv_other (Wd.Mv.of_grown (G := fun g => g = w.heap.size + 2) hg1 (fun g e => by cases e; rfl)) (fun g hg e => hg.2 e)
      have hlo := h.below hb1
      obtain ⟨A0, k0, hv, hsl, -⟩ := hlo.shape hf
      have hBf := hlo.fil f hf
      rw [hv] at hBf
      have b0 := hBf.cell 0
      have b1 := hBf.cell 1
      simp at b0 b1
      have e0 := hl1.box.cell 0
      simp at e0
      have hfl := hBf.lt
      have hdl := hl1.box.lt
      have hm2 : (w.heap.size + 1) < w1.heap.size := hl1.own.lt
      have hle := le_usedF hf
      have hCl : ∀ W, Below w1.heap.size w1 W → Calls Try.prog 38 #[.slice A0 f.data.length k0] W fun e w' => ∃ v, e = .returned v ∧ w'.ownsRow W.heap.size 5 1 v f.data.length (f.data.map (Value.int .u8)) ∧ Below W.heap.size W w' :=
        fun W hW => clone_own A0 f.data.length k0 f.data W (hsl.below hW) (by omega)
      have hCl' := Lib.hid hCl
      have hkey := key_of (s := f.name) (small (by have := hN f hf; omega))
      have hkey' := Lib.hid hkey
      have hlt' := Lib.hid hlt
      have hlk' := Lib.hid hlk
      have hs1' := Lib.hid hs1
      have hL2 : L2.length < maxLen := by unfold maxLen; omega
      have hcn' := Lib.hid hcn
      clear hv hCl hkey hlt hlk hs1 hcn
      have ra : ∀ w5, Below w1.heap.size w1 w5 → w5.cell? ⟨w.heap.size, 0, none⟩ = some (.map (some (w.heap.size + 1))) ∧ w5.cell? ⟨f.blk, 0, none⟩ = some (.slice A0 f.data.length k0) ∧ w5.cell? ⟨f.blk, 1, none⟩ = some (.int .i64 (f.syn : Int)) := by
        intro w5 hB
        exact ⟨(hB.cell (p := ⟨w.heap.size, 0, none⟩) hdl).trans e0, (hB.cell (p := ⟨f.blk, 0, none⟩) hfl).trans b0, (hB.cell (p := ⟨f.blk, 1, none⟩) hfl).trans b1⟩
      have hfw : f.blk < w.heap.size := (h.fil f hf).lt
      have rb : ∀ w5 w6, Below w1.heap.size w1 w5 → w5.grownBy w6 (some (w.heap.size + 1)) → w6.cell? ⟨w.heap.size, 0, none⟩ = some (.map (some (w.heap.size + 1))) ∧ w6.cell? ⟨f.blk, 0, none⟩ = some (.slice A0 f.data.length k0) ∧ w6.cell? ⟨f.blk, 1, none⟩ = some (.int .i64 (f.syn : Int)) := by
        intro w5 w6 hB hG
        obtain ⟨r1, r2, r3⟩ := ra w5 hB
        have hz := hB.size
        refine ⟨?_, ?_, ?_⟩
        · rw [← r1]; exact World.cell?_of_block (a := ⟨w.heap.size, 0, none⟩) (hG.block _ (by show w.heap.size < _; omega) (by simp))
        · rw [← r2]; exact World.cell?_of_block (a := ⟨f.blk, 0, none⟩) (hG.block _ (by show f.blk < _; omega) (by simp; omega))
        · rw [← r3]; exact World.cell?_of_block (a := ⟨f.blk, 1, none⟩) (hG.block _ (by show f.blk < _; omega) (by simp; omega))
      go_upto_region 8 with fail
      go_region_held3 (fun w' => w'.cell? ⟨w.heap.size, 0, none⟩ = some (.map (some (w.heap.size + 1))) ∧ w'.cell? ⟨f.blk, 0, none⟩ = some (.slice A0 f.data.length k0) ∧ w'.cell? ⟨f.blk, 1, none⟩ = some (.int .i64 (f.syn : Int)))
        (first | exact hc6 | exact hc5a | exact hc5 | go_keep)
        (first | (go_at_call 38; (with_reducible refine (hCl'.out _ (Wd.of_drew (Below.refl _ _))).mono ?_); rintro e w5 ⟨v5, rfl, ho5, hB5⟩; have hB5' : Below w1.heap.size w1 w5 := Wd.of_drew hB5; obtain ⟨A5, n5, c5, rfl, hS5⟩ := Wd.Sl.of_own ho5; have hc5 := ra w5 hB5'; have hB5a := hB5'.alloc hB5'.size (.cells #[.slice A5 n5 c5, .int .i64 (f.syn : Int)] 70); have hc5a := ra _ hB5a; have hown5 := (Wd.map_keep hl1.own (hB5'.block _ hm2)).alloc (.cells #[.slice A5 n5 c5, .int .i64 (f.syn : Int)] 70); obtain ⟨w6, hrun6, hown6, hg6⟩ := hown5.update law Try.underlying56 hL2 hkey'.out (fp_some w5.heap.size); have hc6 : w6.cell? ⟨w.heap.size, 0, none⟩ = some (.map (some (w.heap.size + 1))) ∧ w6.cell? ⟨f.blk, 0, none⟩ = some (.slice A0 f.data.length k0) ∧ w6.cell? ⟨f.blk, 1, none⟩ = some (.int .i64 (f.syn : Int)) := rb _ w6 hB5a hg6))
      go_wp2_with fail
      go_roundw
      case rel =>
        have hz5 := hB5'.size
        have hz6 := hg6.size
        have hza : (w5.alloc (.cells #[.slice A5 n5 c5, .int .i64 (f.syn : Int)] 70)).heap.size = w5.heap.size + 1 := by simp
        have hrl' := hs1'.out
        have hmw : m < w.heap.size := h.own.lt
        have hblk : ∀ x, x < w5.heap.size → x ≠ w.heap.size + 1 → w6.heap[x]? = w5.heap[x]? := fun x hx hne =>
          (hg6.block x (by omega) (by simpa using hne)).trans (Below.heap_alloc _ _ _ hx)
        refine ⟨_, cnt1, ins Fil.name ⟨f.name, f.data, f.syn, w5.heap.size, .slice A5 n5 c5⟩ L2, (hrg1.kept (grown_of_below hB5a) (by simp) (by simp)).kept hg6 (by simp; omega) (by simp), (hb1.trans (hB5a.mono hb1.size)).grown hg6 (by omega) (fun j hj => by cases hj; omega), ?_, hC.out.step hup hf rfl, ?_⟩
        · have ht := hl1.put (w' := w6) (f := ⟨f.name, f.data, f.syn, w5.heap.size, .slice A5 n5 c5⟩) (hC.out.new hlk'.out) hown6
            ((Wd.Bx.new w5 _ _).grown hg6 (by simp; omega))
            (Wd.own_keep (Wd.own_down ho5 (Nat.zero_le _)) fun x hx => by
              have h1 := Wd.own_lt ho5 hx
              have h2 : w1.heap.size ≤ x := h1.2.1
              exact hblk x h1.1 (by omega))
            hz5 (fun x hx => (Wd.own_lt ho5 hx).2.1) (fun g hg hne => (hblk g (by omega) hne).trans (hB5'.block g hg)) (by omega)
          refine ht.grow (fun g hg => ?_) (fun g hg => hg.1.2)
          rcases hg with ⟨⟨q1, q2⟩, q3⟩ | ⟨q1, q2⟩
          · exact ⟨⟨q1, by omega⟩, q3⟩
          · exact ⟨⟨by omega, q2⟩, by omega⟩
        · rw [length_ins]
          have := hcn'.out
          have := hlt'.out
          omega
      case measure =>
        have h6 := (hrg1.kept (grown_of_below hB5a) (by simp) (by simp)).kept hg6 (by have : m < w.heap.size := h.own.lt; simp; omega) (by simp)
        rw [h6.left_eq, hrg.left_eq]
        exact hlt'.out
theorem copy_any {S : Pd} (h : Dsk w d G S) :
    Calls Try.prog 22 #[pt d] w fun e w' => ∃ d2, e = .returned (pt d2) ∧ Below w.heap.size w w' ∧ Dsk w' d2 (fun g => w.heap.size ≤ g ∧ g < w'.heap.size) S := by
  obtain ⟨m, L, hl, hp, ok⟩ := h
  have few := ok.few
  have hL : L.length ≤ 256 := by rw [← hp] at few; simpa using few
  have hu : used S.fs = usedF L := by rw [← hp]; exact usedF_pf L
  have hfull := ok.full
  refine (copy_lay hl hL (by omega) (fun f hf => ok.name f.pf (by rw [← hp]; exact List.mem_map.2 ⟨f, hf, rfl⟩))).mono ?_
  rintro e w' ⟨d2, m2, L2, he, hb, hl2, hp2⟩
  exact ⟨d2, he, hb, m2, L2, hl2, hp2.trans hp, ok⟩
end
end Dk
end Go.Proofs.Ythangnhccbnfbaa
