/- What each call of a simulated disk answers and leaves, in plain lists. -/
import Derived.Test.YthangnhccbnfbaaDkMem
namespace Go.Proofs.Ythangnhccbnfbaa
open Go.RowKit Go.Maps
namespace Dk
/-- A disk: its files in the order of their names, its capacity, how it is armed, whether it is dead. -/
structure Pd where
  fs : List Pf
  cap : Int
  arm : Int
  dead : Bool
def used (l : List Pf) : Nat := (l.map fun f => f.data.length).sum
/-- What every disk is. -/
structure Pd.Ok (S : Pd) : Prop where
  up : Up Pf.name S.fs
  syn : ∀ f ∈ S.fs, f.syn ≤ f.data.length
  name : ∀ f ∈ S.fs, f.name.size ≤ 32
  few : S.fs.length ≤ 256
  full : used S.fs ≤ 16777216
  cap0 : 0 ≤ S.cap
  cap1 : S.cap ≤ 16777216
  arm0 : -9223372036854775808 ≤ S.arm
  arm1 : S.arm ≤ 9223372036854775807

theorem mem_upd {α : Type} {nm : α → ByteArray} {s : ByteArray} {g : α → α} {l : List α} {x : α} (h : x ∈ upd nm s g l) : (x ∈ l ∧ nm x ≠ s) ∨ ∃ y, y ∈ l ∧ nm y = s ∧ x = g y := by
  obtain ⟨y, hy, rfl⟩ := List.mem_map.1 h
  by_cases e : nm y = s
  · rw [if_pos e]
    exact .inr ⟨y, hy, e, rfl⟩
  · rw [if_neg e]
    exact .inl ⟨hy, e⟩
theorem mem_del {α : Type} {nm : α → ByteArray} {s : ByteArray} {l : List α} {x : α} (h : x ∈ del nm s l) : x ∈ l := (List.mem_filter.1 h).1
theorem used_ins (f : Pf) (l : List Pf) : used (ins Pf.name f l) = f.data.length + used l := by
  unfold used
  rw [((perm_ins f l).map _).sum_nat]
  simp
theorem used_del (s : ByteArray) : ∀ l : List Pf, used (del Pf.name s l) ≤ used l
  | [] => Nat.le_refl _
  | f :: r => by
    have := used_del s r
    unfold used del at *
    rw [List.filter_cons]
    split <;> simp only [List.map_cons, List.sum_cons] <;> omega
theorem used_upd_same {s : ByteArray} {g : Pf → Pf} (hg : ∀ f, (g f).data = f.data) (l : List Pf) : used (upd Pf.name s g l) = used l := by
  unfold used upd
  rw [List.map_map]
  congr 1
  refine List.map_congr_left fun f _ => ?_
  simp only [Function.comp_apply]
  split <;> simp [hg]
theorem upd_none {α : Type} {nm : α → ByteArray} {s : ByteArray} {g : α → α} {l : List α} (h : ∀ x ∈ l, nm x ≠ s) : upd nm s g l = l := by
  unfold upd
  rw [List.map_congr_left (fun x hx => if_neg (h x hx)), List.map_id']
theorem used_upd_app {s : ByteArray} {b : List Int} : ∀ {l : List Pf}, Up Pf.name l → (fnd Pf.name s l).isSome → used (upd Pf.name s (fun f => { f with data := f.data ++ b }) l) = used l + b.length
  | [], _, h => by simp [fnd] at h
  | f :: r, hu, h => by
    have h1 := List.pairwise_cons.1 hu.apart
    have h2 := (List.pairwise_cons.1 hu).2
    by_cases e : f.name = s
    · have hr : upd Pf.name s (fun f => { f with data := f.data ++ b }) (f :: r) = { f with data := f.data ++ b } :: r := by
        show (if f.name = s then _ else _) :: upd Pf.name s _ r = _
        rw [if_pos e, upd_none fun x hx q => h1.1 x hx (e.trans q.symm)]
      rw [hr]
      simp [used]
      omega
    · have hr : upd Pf.name s (fun f => { f with data := f.data ++ b }) (f :: r) = f :: upd Pf.name s (fun f => { f with data := f.data ++ b }) r := by
        show (if f.name = s then _ else _) :: upd Pf.name s _ r = _
        rw [if_neg e]
      have ih := used_upd_app (b := b) h2 (by
        unfold fnd at h ⊢
        rw [List.find?_cons, decide_eq_false e] at h
        exact h)
      rw [hr]
      simp only [used, List.map_cons, List.sum_cons] at ih ⊢
      omega

/-- An operation: with an error er of its own; or it dies; or it happens. -/
def gate (S : Pd) (er : Int) (g : List Pf → List Pf) : Int × Pd :=
  if er ≠ 0 then (er, S) else if S.arm = 0 then (12, { S with dead := true }) else (0, { S with fs := g S.fs, arm := if 0 < S.arm then S.arm - 1 else S.arm })
def erC (S : Pd) (s : ByteArray) : Int := if S.dead then 12 else if ¬ (1 ≤ s.size ∧ s.size ≤ 32) then 1 else if (fnd Pf.name s S.fs).isSome then 8 else if 256 ≤ S.fs.length then 4 else 0
def erN (S : Pd) (s : ByteArray) : Int := if S.dead then 12 else if (fnd Pf.name s S.fs).isNone then 3 else 0
def erA (S : Pd) (s : ByteArray) (b : List Int) : Int := if S.dead then 12 else if (fnd Pf.name s S.fs).isNone then 3 else if S.cap < (used S.fs + b.length : Int) then 4 else 0
def create (S : Pd) (s : ByteArray) : Int × Pd := gate S (erC S s) (ins Pf.name ⟨s, [], 0⟩)
def append (S : Pd) (s : ByteArray) (b : List Int) : Int × Pd := gate S (erA S s b) (upd Pf.name s fun f => { f with data := f.data ++ b })
def sync (S : Pd) (s : ByteArray) : Int × Pd := gate S (erN S s) (upd Pf.name s fun f => { f with syn := f.data.length })
def delete (S : Pd) (s : ByteArray) : Int × Pd := gate S (erN S s) (del Pf.name s)
def room (S : Pd) (n : Int) : Pd := if 0 ≤ n ∧ n ≤ 16777216 then { S with cap := n } else S
def armed (S : Pd) (n : Int) : Pd := { S with arm := n }
/-- How many of its rest bytes the i-th file keeps at a crash. -/
def kept (keep : List Int) (i rest : Nat) : Nat := if keep = [] then 0 else (max 0 (keep.getD (i % keep.length) 0)).toNat % (rest + 1)
def crashF (keep : List Int) : Nat → List Pf → List Pf
  | _, [] => []
  | i, f :: r =>
    if f.data.length = f.syn then f :: crashF keep i r
    else ⟨f.name, f.data.take (f.syn + kept keep i (f.data.length - f.syn)), f.syn + kept keep i (f.data.length - f.syn)⟩ :: crashF keep (i + 1) r
def crash (S : Pd) (keep : List Int) : Pd := ⟨crashF keep 0 S.fs, S.cap, -1, false⟩
def read (S : Pd) (s : ByteArray) : List Int × Int := if S.dead then ([], 12) else match fnd Pf.name s S.fs with | none => ([], 3) | some f => (f.data, 0)

theorem kept_le (keep : List Int) (i rest : Nat) : kept keep i rest ≤ rest := by
  unfold kept
  split
  · exact Nat.zero_le _
  · have := Nat.mod_lt (max 0 (keep.getD (i % keep.length) 0)).toNat (show 0 < rest + 1 by omega)
    omega

/-- File by file the same name, a beginning of the bytes, which holds all that was synced, all of it synced. -/
theorem crashF_names (keep : List Int) : ∀ (i : Nat) (l : List Pf), (crashF keep i l).map Pf.name = l.map Pf.name
  | _, [] => rfl
  | i, f :: r => by
    unfold crashF
    split
    · simp [crashF_names keep i r]
    · simp [crashF_names keep (i + 1) r]
theorem crashF_used (keep : List Int) : ∀ (i : Nat) (l : List Pf), (∀ f ∈ l, f.syn ≤ f.data.length) → used (crashF keep i l) ≤ used l
  | _, [], _ => Nat.le_refl _
  | i, f :: r, h => by
    unfold crashF
    have hf := h f (by simp)
    split
    · have := crashF_used keep i r fun g hg => h g (by simp [hg])
      simp only [used, List.map_cons, List.sum_cons] at *
      omega
    · have := crashF_used keep (i + 1) r fun g hg => h g (by simp [hg])
      simp only [used, List.map_cons, List.sum_cons, List.length_take] at *
      omega
theorem crashF_mem (keep : List Int) : ∀ (i : Nat) (l : List Pf) (g : Pf), (∀ f ∈ l, f.syn ≤ f.data.length) → g ∈ crashF keep i l → ∃ f, f ∈ l ∧ g.name = f.name ∧ f.syn ≤ g.data.length ∧ g.data = f.data.take g.data.length ∧ g.syn = g.data.length
  | _, [], g, _, h => by simp [crashF] at h
  | i, f :: r, g, hs, h => by
    have hf := hs f (by simp)
    unfold crashF at h
    split at h
    · rename_i e
      rcases List.mem_cons.1 h with rfl | h
      · exact ⟨g, by simp, rfl, hf, by simp, e.symm⟩
      · obtain ⟨f', h1, h2⟩ := crashF_mem keep i r g (fun x hx => hs x (by simp [hx])) h
        exact ⟨f', by simp [h1], h2⟩
    · rcases List.mem_cons.1 h with rfl | h
      · have hk := kept_le keep i (f.data.length - f.syn)
        refine ⟨f, by simp, rfl, ?_, ?_, ?_⟩
        · simp only [List.length_take]; omega
        · simp
        · simp only [List.length_take]; omega
      · obtain ⟨f', h1, h2⟩ := crashF_mem keep (i + 1) r g (fun x hx => hs x (by simp [hx])) h
        exact ⟨f', by simp [h1], h2⟩

theorem fnd_of_map {α : Type} {nm : α → ByteArray} {l : List α} {s : ByteArray} (h : (fnd nm s l).isSome) : ∃ f, fnd nm s l = some f := Option.isSome_iff_exists.1 h
section
variable {S : Pd}
theorem Pd.Ok.gate (h : S.Ok) {er : Int} {g : List Pf → List Pf} (hg : er = 0 → Pd.Ok { S with fs := g S.fs }) : (gate S er g).2.Ok := by
  unfold Dk.gate
  split
  · exact h
  · rename_i he
    have he : er = 0 := by simpa using he
    split
    · exact ⟨h.up, h.syn, h.name, h.few, h.full, h.cap0, h.cap1, h.arm0, h.arm1⟩
    · have k := hg he
      refine ⟨k.up, k.syn, k.name, k.few, k.full, k.cap0, k.cap1, ?_, ?_⟩
      · show -9223372036854775808 ≤ (if 0 < S.arm then S.arm - 1 else S.arm)
        have := h.arm0
        split <;> omega
      · show (if 0 < S.arm then S.arm - 1 else S.arm) ≤ 9223372036854775807
        have := h.arm1
        split <;> omega
theorem Pd.Ok.create (h : S.Ok) (s : ByteArray) : (create S s).2.Ok := by
  refine h.gate fun he => ?_
  unfold erC at he
  split at he
  · cases he
  split at he
  · cases he
  rename_i hs
  split at he
  · cases he
  rename_i hf
  split at he
  · cases he
  rename_i hn
  have hf : fnd Pf.name s S.fs = none := by
    cases q : fnd Pf.name s S.fs
    · rfl
    · rw [q] at hf; simp at hf
  refine ⟨h.up.ins hf, fun f hf => ?_, fun f hf => ?_, ?_, ?_, h.cap0, h.cap1, h.arm0, h.arm1⟩
  · rcases mem_ins.1 hf with rfl | hf
    · exact Nat.le_refl _
    · exact h.syn f hf
  · rcases mem_ins.1 hf with rfl | hf
    · have := (Classical.not_not.1 hs).2
      exact this
    · exact h.name f hf
  · show (ins Pf.name _ S.fs).length ≤ 256
    rw [length_ins]; omega
  · show used (ins Pf.name _ S.fs) ≤ 16777216
    rw [used_ins]
    have := h.full
    simp
    exact this
theorem Pd.Ok.append (h : S.Ok) (s : ByteArray) (b : List Int) : (append S s b).2.Ok := by
  refine h.gate fun he => ?_
  unfold erA at he
  split at he
  · cases he
  split at he
  · cases he
  rename_i hf
  split at he
  · cases he
  rename_i hc
  have hf : (fnd Pf.name s S.fs).isSome := by
    cases q : fnd Pf.name s S.fs
    · rw [q] at hf; simp at hf
    · rfl
  refine ⟨h.up.upd fun _ => rfl, fun f hf => ?_, fun f hf => ?_, ?_, ?_, h.cap0, h.cap1, h.arm0, h.arm1⟩
  · rcases mem_upd hf with ⟨hf, _⟩ | ⟨y, hy, _, rfl⟩
    · exact h.syn f hf
    · have := h.syn y hy
      simp only [List.length_append]
      omega
  · rcases mem_upd hf with ⟨hf, _⟩ | ⟨y, hy, _, rfl⟩
    · exact h.name f hf
    · exact h.name y hy
  · have := h.few
    show (upd Pf.name s _ S.fs).length ≤ 256
    simp [upd]
    exact this
  · show used (upd Pf.name s _ S.fs) ≤ 16777216
    rw [used_upd_app h.up hf]
    have := h.cap1
    omega
theorem Pd.Ok.sync (h : S.Ok) (s : ByteArray) : (sync S s).2.Ok := by
  refine h.gate fun he => ?_
  refine ⟨h.up.upd fun _ => rfl, fun f hf => ?_, fun f hf => ?_, ?_, ?_, h.cap0, h.cap1, h.arm0, h.arm1⟩
  · rcases mem_upd hf with ⟨hf, _⟩ | ⟨y, hy, _, rfl⟩
    · exact h.syn f hf
    · exact Nat.le_refl _
  · rcases mem_upd hf with ⟨hf, _⟩ | ⟨y, hy, _, rfl⟩
    · exact h.name f hf
    · exact h.name y hy
  · have := h.few
    show (upd Pf.name s _ S.fs).length ≤ 256
    simp [upd]
    exact this
  · show used (upd Pf.name s _ S.fs) ≤ 16777216
    rw [used_upd_same (g := fun f => { f with syn := f.data.length }) fun _ => rfl]
    exact h.full
theorem Pd.Ok.delete (h : S.Ok) (s : ByteArray) : (delete S s).2.Ok := by
  refine h.gate fun he => ?_
  refine ⟨h.up.del s, fun f hf => h.syn f (mem_del hf), fun f hf => h.name f (mem_del hf), ?_, Nat.le_trans (used_del s _) h.full, h.cap0, h.cap1, h.arm0, h.arm1⟩
  exact Nat.le_trans (List.length_filter_le _ _) h.few
theorem Pd.Ok.roomed (h : S.Ok) (n : Int) : (Dk.room S n).Ok := by
  unfold Dk.room
  split
  · rename_i hn
    exact ⟨h.up, h.syn, h.name, h.few, h.full, hn.1, hn.2, h.arm0, h.arm1⟩
  · exact h
theorem Pd.Ok.armed (h : S.Ok) {n : Int} (h0 : -9223372036854775808 ≤ n) (h1 : n ≤ 9223372036854775807) : (armed S n).Ok :=
  ⟨h.up, h.syn, h.name, h.few, h.full, h.cap0, h.cap1, h0, h1⟩
theorem Pd.Ok.crash (h : S.Ok) (keep : List Int) : (crash S keep).Ok := by
  have hn := crashF_names keep 0 S.fs
  refine ⟨?_, fun f hf => ?_, fun f hf => ?_, ?_, Nat.le_trans (crashF_used keep 0 _ h.syn) h.full, h.cap0, h.cap1, show -9223372036854775808 ≤ (-1 : Int) by omega, show (-1 : Int) ≤ 9223372036854775807 by omega⟩
  · have : (S.fs.map Pf.name).Pairwise fun a b => bef a b = true := List.pairwise_map.2 h.up
    rw [← hn] at this
    exact List.pairwise_map.1 this
  · obtain ⟨g, _, _, _, _, h3⟩ := crashF_mem keep 0 S.fs f h.syn hf
    omega
  · obtain ⟨g, hg, h1, _⟩ := crashF_mem keep 0 S.fs f h.syn hf
    rw [h1]
    exact h.name g hg
  · have := congrArg List.length hn
    simp only [List.length_map] at this
    show (crashF keep 0 S.fs).length ≤ 256
    rw [this]
    exact h.few
end
theorem ok_new {n : Int} (h0 : 0 ≤ n) (h1 : n ≤ 16777216) : (Pd.mk [] n (-1) false).Ok := ⟨List.Pairwise.nil, by simp, by simp, by simp, by simp [used], h0, h1, by show -9223372036854775808 ≤ (-1 : Int); omega, by show (-1 : Int) ≤ 9223372036854775807; omega⟩

/-- A disk in memory that is the disk S; all of it lies in blocks of G. -/
def Dsk (w : World) (d : Nat) (G : Nat → Prop) (S : Pd) : Prop := ∃ m L, Lay w d m L S.cap S.arm S.dead G ∧ L.map Fil.pf = S.fs ∧ S.Ok
/-- An operation ended in w' with the answer r.1, and the disk is r.2. -/
def Did (w : World) (d : Nat) (G : Nat → Prop) (r : Int × Pd) (e : Ending) (w' : World) : Prop := e = .returned (.int .i64 r.1) ∧ Wd.Mv G w w' ∧ Dsk w' d (Wd.Gr G w w') r.2
def Did0 (w : World) (d : Nat) (G : Nat → Prop) (S : Pd) (e : Ending) (w' : World) : Prop := e = .returned (.tuple #[]) ∧ Wd.Mv G w w' ∧ Dsk w' d (Wd.Gr G w w') S
section
variable {w w' : World} {d : Nat} {G : Nat → Prop} {S : Pd}
theorem Dsk.below (h : Dsk w d G S) (hb : Below w.heap.size w w') : Dsk w' d G S := by
  obtain ⟨m, L, h1, h2⟩ := h
  exact ⟨m, L, h1.below hb, h2⟩
theorem Dsk.other {H : Nat → Prop} (h : Dsk w d G S) (k : Wd.Mv H w w') (hn : ∀ g, G g → ¬ H g) : Dsk w' d G S := by
  obtain ⟨m, L, h1, h2⟩ := h
  exact ⟨m, L, h1.mv_other k hn, h2⟩
theorem Dsk.grow (h : Dsk w d G S) {G' : Nat → Prop} (hG : ∀ g, G g → G' g) (hb : ∀ g, G' g → g < w.heap.size) : Dsk w d G' S := by
  obtain ⟨m, L, h1, h2⟩ := h
  exact ⟨m, L, h1.grow hG hb, h2⟩
theorem Dsk.bd (h : Dsk w d G S) : ∀ g, G g → g < w.heap.size := by
  obtain ⟨m, L, h1, h2⟩ := h
  exact h1.bd
theorem Dsk.ok (h : Dsk w d G S) : S.Ok := by
  obtain ⟨m, L, h1, h2, h3⟩ := h
  exact h3
theorem Dsk.gr (h : Dsk w' d G S) (hs : w.heap.size ≤ w'.heap.size) (hb : ∀ g, G g → g < w.heap.size) : Dsk w' d (Wd.Gr G w w') S := h.grow (fun _ hg => .inl hg) (Wd.Gr.lt hb hs)
end
end Dk
end Go.Proofs.Ythangnhccbnfbaa
