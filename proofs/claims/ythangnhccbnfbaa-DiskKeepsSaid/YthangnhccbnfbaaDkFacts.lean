/- Facts on what the calls of a simulated disk leave, in plain lists: other files stay; synced bytes stay; how many bytes there are. -/
import Derived.Test.YthangnhccbnfbaaDkLawW
namespace Go.Proofs.Ythangnhccbnfbaa
open Go.RowKit Go.Maps
namespace Dk
open Wd (Opr Op1)
section
variable {α : Type} {nm : α → ByteArray} {s t : ByteArray} {l : List α}
theorem fnd_cons (s : ByteArray) (f : α) (l : List α) : fnd nm s (f :: l) = if nm f = s then some f else fnd nm s l := by
  unfold fnd
  rw [List.find?_cons]
  by_cases h : nm f = s
  · rw [decide_eq_true h, if_pos h]
  · rw [decide_eq_false h, if_neg h]
theorem fnd_ins {f : α} (h : nm f ≠ s) : ∀ l : List α, fnd nm s (ins nm f l) = fnd nm s l
  | [] => by simp [ins, fnd_cons, h]
  | g :: r => by
    unfold ins
    split
    · rw [fnd_cons, if_neg h]
    · rw [fnd_cons, fnd_cons, fnd_ins h r]
theorem fnd_upd {g : α → α} (hg : ∀ f, nm (g f) = nm f) (h : t ≠ s) : ∀ l : List α, fnd nm s (upd nm t g l) = fnd nm s l
  | [] => rfl
  | f :: r => by
    have e : upd nm t g (f :: r) = (if nm f = t then g f else f) :: upd nm t g r := rfl
    rw [e, fnd_cons, fnd_cons, fnd_upd hg h r]
    by_cases q : nm f = t
    · rw [if_pos q, hg, if_neg (by rw [q]; exact h), if_neg (by rw [q]; exact h)]
    · rw [if_neg q]
theorem fnd_upd_same {g : α → α} (hg : ∀ f, nm (g f) = nm f) : ∀ l : List α, fnd nm s (upd nm s g l) = (fnd nm s l).map g
  | [] => rfl
  | f :: r => by
    have e : upd nm s g (f :: r) = (if nm f = s then g f else f) :: upd nm s g r := rfl
    rw [e, fnd_cons, fnd_cons, fnd_upd_same hg r]
    by_cases q : nm f = s
    · rw [if_pos q, hg, if_pos q, if_pos q]
      rfl
    · rw [if_neg q, if_neg q, if_neg q]
theorem fnd_del (h : t ≠ s) : ∀ l : List α, fnd nm s (del nm t l) = fnd nm s l
  | [] => rfl
  | f :: r => by
    have ih := fnd_del h r
    unfold del at ih ⊢
    rw [List.filter_cons]
    by_cases q : nm f = t
    · rw [if_neg (by simp [q]), ih, fnd_cons, if_neg (by rw [q]; exact h)]
    · rw [if_pos (by simp [q]), fnd_cons, fnd_cons, ih]
end
/-- All of whose bytes are synced stays as it is behind a crash. -/
theorem fnd_crash {keep : List Int} {s : ByteArray} {f : Pf} (h0 : f.data.length = f.syn) : ∀ (i : Nat) (l : List Pf), fnd Pf.name s l = some f → fnd Pf.name s (crashF keep i l) = some f
  | _, [], h => by simp [fnd] at h
  | i, g :: r, h => by
    rw [fnd_cons] at h
    by_cases q : g.name = s
    · rw [if_pos q] at h
      cases h
      rw [crash_same h0, fnd_cons, if_pos q]
    · rw [if_neg q] at h
      by_cases e : g.data.length = g.syn
      · rw [crash_same e, fnd_cons, if_neg q]
        exact fnd_crash h0 i r h
      · rw [crash_turn e, fnd_cons, if_neg q]
        exact fnd_crash h0 (i + 1) r h

theorem gate_fs {S : Pd} {er : Int} {g : List Pf → List Pf} : (gate S er g).2.fs = S.fs ∨ (er = 0 ∧ (gate S er g).1 = 0 ∧ (gate S er g).2.fs = g S.fs) := by
  unfold gate
  split
  · exact .inl rfl
  · rename_i h
    split
    · exact .inl rfl
    · exact .inr ⟨by simpa using h, rfl, rfl⟩
theorem gate_bad {S : Pd} {er : Int} {g : List Pf → List Pf} (h : (gate S er g).1 ≠ 0) : (gate S er g).2.fs = S.fs := by
  rcases gate_fs (S := S) (er := er) (g := g) with q | ⟨_, q, _⟩
  · exact q
  · exact absurd q h
theorem gate_good {S : Pd} {er : Int} {g : List Pf → List Pf} (h : (gate S er g).1 = 0) : er = 0 ∧ (gate S er g).2.fs = g S.fs := by
  unfold gate at h ⊢
  split
  · rename_i q
    rw [if_pos q] at h
    exact absurd h q
  · rename_i q
    rw [if_neg q] at h
    split
    · rename_i a
      rw [if_pos a] at h
      cases h
    · exact ⟨by simpa using q, rfl⟩
theorem gate_cap {S : Pd} {er : Int} {g : List Pf → List Pf} : (gate S er g).2.cap = S.cap := by
  unfold gate
  split
  · rfl
  · split <;> rfl
theorem erA_ok {S : Pd} {s : ByteArray} {b : List Int} (h : erA S s b = 0) : (fnd Pf.name s S.fs).isSome ∧ (used S.fs + b.length : Int) ≤ S.cap := by
  unfold erA at h
  split at h
  · cases h
  split at h
  · cases h
  rename_i hf
  split at h
  · cases h
  refine ⟨?_, by omega⟩
  cases q : fnd Pf.name s S.fs
  · rw [q] at hf; simp at hf
  · rfl

/-- A call of kind k. -/
theorem does_kind {S : Pd} {o : Opr} : doesS S o = create S o.name ∧ o.kind = 0 ∨ doesS S o = append S o.name o.b ∧ o.kind = 1 ∨ doesS S o = sync S o.name ∧ o.kind = 2 ∨ doesS S o = delete S o.name ∧ o.kind = 3 ∨
    doesS S o = (0, room S o.num) ∧ o.kind = 4 ∨ doesS S o = (0, armed S o.num) ∧ o.kind = 5 ∨ doesS S o = (0, crash S o.keep) ∧ o.kind = 6 ∨ doesS S o = (0, S) ∧ (o.kind < 0 ∨ 6 < o.kind) := by
  unfold doesS
  by_cases k0 : o.kind = 0
  · exact .inl ⟨if_pos k0, k0⟩
  by_cases k1 : o.kind = 1
  · exact .inr (.inl ⟨by rw [if_neg k0, if_pos k1], k1⟩)
  by_cases k2 : o.kind = 2
  · exact .inr (.inr (.inl ⟨by rw [if_neg k0, if_neg k1, if_pos k2], k2⟩))
  by_cases k3 : o.kind = 3
  · exact .inr (.inr (.inr (.inl ⟨by rw [if_neg k0, if_neg k1, if_neg k2, if_pos k3], k3⟩)))
  by_cases k4 : o.kind = 4
  · exact .inr (.inr (.inr (.inr (.inl ⟨by rw [if_neg k0, if_neg k1, if_neg k2, if_neg k3, if_pos k4], k4⟩))))
  by_cases k5 : o.kind = 5
  · exact .inr (.inr (.inr (.inr (.inr (.inl ⟨by rw [if_neg k0, if_neg k1, if_neg k2, if_neg k3, if_neg k4, if_pos k5], k5⟩)))))
  by_cases k6 : o.kind = 6
  · exact .inr (.inr (.inr (.inr (.inr (.inr (.inl ⟨by rw [if_neg k0, if_neg k1, if_neg k2, if_neg k3, if_neg k4, if_neg k5, if_pos k6], k6⟩))))))
  · exact .inr (.inr (.inr (.inr (.inr (.inr (.inr ⟨by rw [if_neg k0, if_neg k1, if_neg k2, if_neg k3, if_neg k4, if_neg k5, if_neg k6], by omega⟩))))))

/-- What is done to other files, and crashes, leave a file all of whose bytes are synced. -/
theorem keeps_step {S : Pd} {o : Opr} {s : ByteArray} {f : Pf} (hf : fnd Pf.name s S.fs = some f) (h0 : f.data.length = f.syn) (h : o.name ≠ s ∨ 3 < o.kind ∨ o.kind < 0) : fnd Pf.name s (doesS S o).2.fs = some f := by
  rcases does_kind (S := S) (o := o) with ⟨e, k⟩ | ⟨e, k⟩ | ⟨e, k⟩ | ⟨e, k⟩ | ⟨e, k⟩ | ⟨e, k⟩ | ⟨e, k⟩ | ⟨e, k⟩
  · rw [e]
    have hn : o.name ≠ s := by rcases h with h | h; exact h; omega
    unfold create
    rcases gate_fs (S := S) (er := erC S o.name) (g := ins Pf.name ⟨o.name, [], 0⟩) with q | ⟨_, _, q⟩
    · rw [q]; exact hf
    · rw [q, fnd_ins (nm := Pf.name) (by exact hn)]; exact hf
  · rw [e]
    have hn : o.name ≠ s := by rcases h with h | h; exact h; omega
    unfold append
    rcases gate_fs (S := S) (er := erA S o.name o.b) (g := upd Pf.name o.name fun f => { f with data := f.data ++ o.b }) with q | ⟨_, _, q⟩
    · rw [q]; exact hf
    · rw [q, fnd_upd (nm := Pf.name) (g := fun f => { f with data := f.data ++ o.b }) (fun _ => rfl) hn]; exact hf
  · rw [e]
    have hn : o.name ≠ s := by rcases h with h | h; exact h; omega
    unfold sync
    rcases gate_fs (S := S) (er := erN S o.name) (g := upd Pf.name o.name fun f => { f with syn := f.data.length }) with q | ⟨_, _, q⟩
    · rw [q]; exact hf
    · rw [q, fnd_upd (nm := Pf.name) (g := fun f => { f with syn := f.data.length }) (fun _ => rfl) hn]; exact hf
  · rw [e]
    have hn : o.name ≠ s := by rcases h with h | h; exact h; omega
    unfold delete
    rcases gate_fs (S := S) (er := erN S o.name) (g := del Pf.name o.name) with q | ⟨_, _, q⟩
    · rw [q]; exact hf
    · rw [q, fnd_del (nm := Pf.name) hn]; exact hf
  · rw [e]
    show fnd Pf.name s (room S o.num).fs = some f
    unfold room
    split <;> exact hf
  · rw [e]; exact hf
  · rw [e]
    exact fnd_crash h0 0 _ hf
  · rw [e]; exact hf

/-- How many bytes there are behind a call that doesn't turn the room. -/
theorem room_step {S : Pd} (ok : S.Ok) {o : Opr} (k4 : o.kind ≠ 4) (hu : (used S.fs : Int) ≤ S.cap) :
    (doesS S o).2.cap = S.cap ∧ (used (doesS S o).2.fs : Int) ≤ S.cap ∧ ((doesS S o).1 ≠ 0 → used (doesS S o).2.fs = used S.fs) ∧ (o.kind = 0 → used (doesS S o).2.fs = used S.fs) ∧
    (o.kind = 1 → (doesS S o).1 = 0 → used (doesS S o).2.fs = used S.fs + o.b.length) ∧ (o.kind = 3 → used (doesS S o).2.fs ≤ used S.fs) := by
  rcases does_kind (S := S) (o := o) with ⟨e, k⟩ | ⟨e, k⟩ | ⟨e, k⟩ | ⟨e, k⟩ | ⟨e, k⟩ | ⟨e, k⟩ | ⟨e, k⟩ | ⟨e, k⟩
  · rw [e]
    have hv : used (create S o.name).2.fs = used S.fs := by
      unfold create
      rcases gate_fs (S := S) (er := erC S o.name) (g := ins Pf.name ⟨o.name, [], 0⟩) with q | ⟨_, _, q⟩
      · rw [q]
      · rw [q, used_ins]; simp
    refine ⟨gate_cap, by rw [hv]; exact hu, fun _ => hv, fun _ => hv, fun h => by omega, fun _ => by omega⟩
  · rw [e]
    refine ⟨gate_cap, ?_, fun h => by unfold append at h ⊢; rw [gate_bad h], fun h => by omega, fun _ h => ?_, fun h => by omega⟩
    · by_cases h : (append S o.name o.b).1 = 0
      · unfold append at h ⊢
        obtain ⟨h1, h2⟩ := gate_good h
        obtain ⟨h3, h4⟩ := erA_ok h1
        rw [h2, used_upd_app ok.up h3]
        omega
      · unfold append at h ⊢
        rw [gate_bad h]
        exact hu
    · unfold append at h ⊢
      obtain ⟨h1, h2⟩ := gate_good h
      obtain ⟨h3, h4⟩ := erA_ok h1
      rw [h2, used_upd_app ok.up h3]
  · rw [e]
    have hv : used (sync S o.name).2.fs = used S.fs := by
      unfold sync
      rcases gate_fs (S := S) (er := erN S o.name) (g := upd Pf.name o.name fun f => { f with syn := f.data.length }) with q | ⟨_, _, q⟩
      · rw [q]
      · rw [q, used_upd_same (g := fun f => { f with syn := f.data.length }) fun _ => rfl]
    refine ⟨gate_cap, by rw [hv]; exact hu, fun _ => hv, fun _ => hv, fun h => by omega, fun _ => by omega⟩
  · rw [e]
    have hv : used (delete S o.name).2.fs ≤ used S.fs := by
      unfold delete
      rcases gate_fs (S := S) (er := erN S o.name) (g := del Pf.name o.name) with q | ⟨_, _, q⟩
      · rw [q]; exact Nat.le_refl _
      · rw [q]; exact used_del _ _
    refine ⟨gate_cap, by omega, fun h => by unfold delete at h ⊢; rw [gate_bad h], fun h => by omega, fun h => by omega, fun _ => hv⟩
  · omega
  · rw [e]
    exact ⟨rfl, hu, fun h => absurd rfl h, fun _ => rfl, fun h => by omega, fun h => by omega⟩
  · rw [e]
    have hv := crashF_used o.keep 0 S.fs ok.syn
    refine ⟨rfl, ?_, fun h => absurd rfl h, fun h => by omega, fun h => by omega, fun h => by omega⟩
    show (used (crashF o.keep 0 S.fs) : Int) ≤ S.cap
    omega
  · rw [e]
    exact ⟨rfl, hu, fun h => absurd rfl h, fun _ => rfl, fun h => by omega, fun h => by omega⟩
theorem does_ok {S : Pd} (ok : S.Ok) {o : Opr} (hw : (Lit.int .i64 o.num).wf = true) : (doesS S o).2.Ok := by
  rcases does_kind (S := S) (o := o) with ⟨e, k⟩ | ⟨e, k⟩ | ⟨e, k⟩ | ⟨e, k⟩ | ⟨e, k⟩ | ⟨e, k⟩ | ⟨e, k⟩ | ⟨e, k⟩ <;> rw [e]
  · exact ok.create _
  · exact ok.append _ _
  · exact ok.sync _
  · exact ok.delete _
  · exact ok.roomed _
  · have := bounds_i64 hw
    exact ok.armed this.1 this.2
  · exact ok.crash _
  · exact ok
end Dk
end Go.Proofs.Ythangnhccbnfbaa
