/- A round of a range over a disk's files; what Used of package disk does. -/
import Derived.Maps.RangeWalk
import Derived.Test.YthangnhccbnfbaaDkCallsB
namespace Go.Proofs.Ythangnhccbnfbaa
open Go.RowKit Go.Maps
namespace Dk
/-- THE STEP of a range over the files: nothing is left, or one of them comes. -/
theorem wpList_next_file (w : World) {ops : Array Oper} {rest : List Oper} {o : Oper} {a : Act} {Q : Exit → Act → World → Prop} (hg : o.guard = none) (it : Operand) (hop : o.op = Op.next it false)
    (b r n : Nat) (L : List Fil) (left : Lit → Bool) (cnt : Nat) (hit : a.eval it = .pointer (some ⟨r, 0, none⟩)) (h : w.ranges Try.prog 9 fp b r n (Dm L) left cnt)
    (hDone : cnt = 0 → (∀ kl, left kl = false) → wpList Try.prog ops Q rest (a.put o.dst (.tuple #[.bool false])) w)
    (hMore : ∀ (f : Fil) (w' : World) (cnt' : Nat), f ∈ L → left (ky f.name) = true → w'.ranges Try.prog 9 fp b r n (Dm L) (fun z => left z && !z.sameKey (ky f.name)) cnt' → cnt' < cnt →
      w.grownBy w' (some r) → w'.heap.size = w.heap.size → (Instr.entry (.pointer (some ⟨r, 0, none⟩))).run Try.prog w' = .ok (.tuple #[.string f.name, pt f.blk]) w' → wpList Try.prog ops Q rest (a.put o.dst (.tuple #[.bool true, .string f.name, pt f.blk])) w') :
    wpList Try.prog ops Q (o :: rest) a w := by
  refine wpList_plain hg fun K' hK' => ?_
  unfold Oper.wp
  rcases h.next law o.type with ⟨h0, hl, hrun⟩ | ⟨key, v, kl, y, w', cnt', hkey, hlk, hv, hat, hrun, hrg, hlt, hgr, hsz, hen⟩
  · simp [execOp, hop, hit, hrun, Result.andThen]
    exact hK' _ _ (hDone h0 hl)
  · obtain ⟨x, rfl, rfl, _⟩ := Maps.keyOf_str Try.underlying9 hkey
    have hx : (.string x : Lit) = ky ⟨⟨x⟩⟩ := by simp [ky]
    rw [hx] at hlk hat hrg
    have hh := Maps.has_true_of_atKey hat
    rw [has_Dm] at hh
    obtain ⟨f, hf⟩ := fnd_of_map hh
    have h1 := hat .nil
    rw [at_Dm, hf] at h1
    obtain ⟨hm, hn⟩ := fnd_some hf
    have hv' : v = pt f.blk := by
      obtain ⟨y1, y2⟩ := y
      simp only at h1
      rw [← h1] at hv
      exact fp_inv hv
    subst hv'
    have hs : encStr x = .string f.name := by rw [hn]
    rw [hs] at hrun hen
    rw [← hn] at hlk hrg
    simp [execOp, hop, hit, hrun, Result.andThen]
    exact hK' _ _ (hMore f w' cnt' hm hlk hrg hlt hgr hsz hen)

/-- The bytes of those files that have come. -/
def sumL (left : Lit → Bool) (l : List Fil) : Nat := (l.map fun f => if left (ky f.name) then 0 else f.data.length).sum
def usedF (l : List Fil) : Nat := (l.map fun f => f.data.length).sum
theorem usedF_pf (l : List Fil) : used (l.map Fil.pf) = usedF l := by
  unfold used usedF
  rw [List.map_map]
  rfl
theorem sumL_zero {left : Lit → Bool} : ∀ {l : List Fil}, (∀ f ∈ l, left (ky f.name) = true) → sumL left l = 0
  | [], _ => rfl
  | f :: r, h => by
    have := sumL_zero (left := left) (l := r) fun g hg => h g (by simp [hg])
    unfold sumL at *
    rw [List.map_cons, List.sum_cons, h f (by simp), this]
    rfl
theorem sumL_end {left : Lit → Bool} (h : ∀ k, left k = false) (l : List Fil) : sumL left l = usedF l := by
  unfold sumL usedF
  simp [h]
theorem sumL_le (left : Lit → Bool) : ∀ l : List Fil, sumL left l ≤ usedF l
  | [] => Nat.le_refl _
  | f :: r => by
    have := sumL_le left r
    unfold sumL usedF at *
    simp only [List.map_cons, List.sum_cons]
    split <;> omega
theorem sumL_off {left : Lit → Bool} {f : Fil} : ∀ {l : List Fil}, (∀ g ∈ l, g.name ≠ f.name) → sumL (fun z => left z && !z.sameKey (ky f.name)) l = sumL left l
  | [], _ => rfl
  | g :: r, h => by
    have := sumL_off (left := left) (l := r) fun x hx => h x (by simp [hx])
    unfold sumL at *
    rw [List.map_cons, List.map_cons, List.sum_cons, List.sum_cons, this]
    simp only [same_ky, decide_eq_false (h g (by simp)), Bool.not_false, Bool.and_true]
theorem sumL_step {left : Lit → Bool} {f : Fil} (hl : left (ky f.name) = true) : ∀ {l : List Fil}, Up Fil.name l → f ∈ l → sumL (fun z => left z && !z.sameKey (ky f.name)) l = sumL left l + f.data.length
  | [], _, h => by simp at h
  | g :: r, hu, h => by
    have h1 := List.pairwise_cons.1 hu.apart
    have h2 := (List.pairwise_cons.1 hu).2
    rcases List.mem_cons.1 h with rfl | h
    · have := sumL_off (left := left) (f := f) (l := r) fun x hx e => h1.1 x hx e.symm
      unfold sumL at *
      rw [List.map_cons, List.map_cons, List.sum_cons, List.sum_cons, this]
      simp only [same_ky, hl]
      simp
      omega
    · have := sumL_step hl h2 h
      have hne : g.name ≠ f.name := h1.1 f h
      unfold sumL at *
      rw [List.map_cons, List.map_cons, List.sum_cons, List.sum_cons, this]
      simp only [same_ky, decide_eq_false hne, Bool.not_false, Bool.and_true]
      omega

section
variable {w : World} {d m : Nat} {L : List Fil} {cap arm : Int} {dead : Bool} {G : Nat → Prop}
theorem used_any (h : Lay w d m L cap arm dead G) (hL : usedF L ≤ 100000000) :
    Calls Try.prog 23 #[pt d] w fun e w' => e = .returned (.int .i64 (usedF L : Int)) ∧ Below w.heap.size w w' := by
  have c0 := h.box.cell 0
  simp at c0
  have hup := h.up
  go_enter Try.func23, Try.ntmps23
  go_wp2_with (first
    | (at_range; refine wpList_range_own _ rfl _ 56 rfl 9 65 law Try.underlying56 fp m L.length (Dm L) rfl h.own ?_; intro w0 hrg0 hg0 hs0)
    | fail)
  go_frame
  go_loopw [3] (fun v wr => ∃ (left : Lit → Bool) (cnt : Nat), v = .int .i64 (sumL left L : Int) ∧ wr.ranges Try.prog 9 fp m w.heap.size L.length (Dm L) left cnt ∧ Below w.heap.size w wr)
    (fun _ wr => wr.rangeLeft m w.heap.size)
  case atStart =>
    refine ⟨_, _, ?_, hrg0, (Below.refl _ _).grown hg0 (Nat.le_refl _) (by simp)⟩
    rw [sumL_zero fun f hf => by rw [has_Dm, hup.mem_fnd hf]; rfl]
    rfl
  case round =>
    obtain ⟨left, cnt, rfl, hrg, hb⟩ := hrel
    go_wp2_with (first
      | (at_next; refine wpList_next_file _ rfl _ rfl m w.heap.size L.length L left cnt rfl hrg ?_ ?_)
      | fail)
    · intro _ hl0
      have e1 := sumL_end hl0 L
      have E1 := Lib.hid e1
      clear e1 hrg0 hg0 hs0
      go_wp2_with fail
      go_ret
      exact ⟨by rw [E1.out]; rfl, hb⟩
    · intro f w1 cnt1 hf hlk hrg1 hlt hg1 hs1 hen
      have hb1 : Below w.heap.size w w1 := hb.grown hg1 hb.size (fun j hj => by cases hj; exact Nat.le_refl _)
      obtain ⟨A, c, hv, hsl, -⟩ := (h.below hb1).shape hf
      have hB := (h.below hb1).fil f hf
      rw [hv] at hB
      have b0 := hB.cell 0
      simp at b0
      have e1 := sumL_step hlk hup hf
      have e2 := sumL_le (fun z => left z && !z.sameKey (ky f.name)) L
      obtain ⟨s, hs⟩ : ∃ s, s = sumL left L := ⟨_, rfl⟩
      rw [← hs] at e1 ⊢
      have i1 : (s : Int) + (f.data.length : Int) ≤ 100000000 := by omega
      have i2 : 0 ≤ (s : Int) := by omega
      have E1 := Lib.hid e1
      have Hs := Lib.hid hs
      have Hlt := Lib.hid hlt
      clear e1 e2 hs hv hlk hlt hs1 hs0 hg0
      go_wp2_with fail
      go_roundw
      case rel => exact ⟨_, cnt1, by rw [E1.out]; simp, hrg1, hb1⟩
      case measure => rw [hrg1.left_eq, hrg.left_eq]; exact Hlt.out
end
end Dk
end Go.Proofs.Ythangnhccbnfbaa
