/- A simulated disk in plain lists: files in the order of their names, what each call answers and leaves; the map that a list of files reads as. -/
import Derived.Maps.Ext
import Derived.Sort.KeysCollected
namespace Go.Proofs.Ythangnhccbnfbaa
open Go.RowKit Go.Maps
namespace Dk

/-- A file as the document speaks of it. -/
structure Pf where
  name : ByteArray
  data : List Int
  syn : Nat
/-- A file, and where it lies: the block of its record, the value of its slice. -/
structure Fil where
  name : ByteArray
  data : List Int
  syn : Nat
  blk : Nat
  v : Value
def Fil.pf (f : Fil) : Pf := ⟨f.name, f.data, f.syn⟩

/-- A name as a key. -/
def ky (s : ByteArray) : Lit := .string s.data.toList
theorem ky_inj {s t : ByteArray} (h : ky s = ky t) : s = t := by
  simp only [ky, Lit.string.injEq] at h
  exact ByteArray.ext (Array.toList_inj.1 h)
/-- The one comes ahead of the other. -/
def bef (s t : ByteArray) : Bool := bytesBefore s.data.toList t.data.toList
theorem ky_key (s : ByteArray) : WideAt.IsKeyLit (ky s) := by simp [ky, WideAt.IsKeyLit]
theorem same_ky (s t : ByteArray) : (ky s).sameKey (ky t) = decide (s = t) := by
  by_cases h : s = t
  · subst h
    simp [WideAt.sameKey_self (ky_key s)]
  · rw [sameKey_ne (fun e => h (ky_inj e)), decide_eq_false h]

section
variable {α : Type} (nm : α → ByteArray)
/-- Put at its place among those that rise by name. -/
def ins (f : α) : List α → List α
  | [] => [f]
  | g :: r => if bef (nm f) (nm g) then f :: g :: r else g :: ins f r
/-- What stands at a name is turned. -/
def upd (s : ByteArray) (g : α → α) (l : List α) : List α := l.map fun f => if nm f = s then g f else f
def del (s : ByteArray) (l : List α) : List α := l.filter fun f => decide (nm f ≠ s)
def fnd (s : ByteArray) (l : List α) : Option α := l.find? fun f => decide (nm f = s)
/-- Names rise. -/
def Up (l : List α) : Prop := l.Pairwise fun f g => bef (nm f) (nm g) = true
variable {nm}
theorem mem_ins {f x : α} : ∀ {l : List α}, x ∈ ins nm f l ↔ x = f ∨ x ∈ l
  | [] => by simp [ins]
  | g :: r => by
    unfold ins
    split
    · simp
    · simp only [List.mem_cons, mem_ins (l := r)]
      constructor
      · rintro (h | h | h) <;> simp [h]
      · rintro (h | h | h) <;> simp [h]
theorem length_ins (f : α) : ∀ l : List α, (ins nm f l).length = l.length + 1
  | [] => rfl
  | g :: r => by
    unfold ins
    split
    · rfl
    · simp [length_ins f r]
theorem perm_ins (f : α) : ∀ l : List α, (ins nm f l).Perm (f :: l)
  | [] => List.Perm.refl _
  | g :: r => by
    unfold ins
    split
    · exact List.Perm.refl _
    · exact ((perm_ins f r).cons g).trans (List.Perm.swap f g r)
theorem fnd_some {s : ByteArray} {l : List α} {f : α} (h : fnd nm s l = some f) : f ∈ l ∧ nm f = s := ⟨List.mem_of_find?_eq_some h, by simpa using List.find?_some h⟩
theorem fnd_none {s : ByteArray} {l : List α} (h : fnd nm s l = none) : ∀ f ∈ l, nm f ≠ s := by
  intro f hf
  have := List.find?_eq_none.1 h f hf
  simpa using this
theorem bef_irrefl (s : ByteArray) : bef s s = false := WideAt.bytes_irrefl _
theorem bef_total {s t : ByteArray} (h : s ≠ t) : bef s t = true ∨ bef t s = true :=
  WideAt.bytes_total _ _ (fun e => h (ky_inj (congrArg Lit.string e)))
theorem bef_trans {s t u : ByteArray} (h : bef s t = true) (k : bef t u = true) : bef s u = true := WideShapes.bytes_trans _ _ _ h k
theorem Up.apart {l : List α} (h : Up nm l) : l.Pairwise fun f g => nm f ≠ nm g := h.imp fun {a b} hab e => by rw [e, bef_irrefl] at hab; cases hab
theorem Up.mem_fnd {l : List α} (h : Up nm l) {f : α} (hf : f ∈ l) : fnd nm (nm f) l = some f := by
  induction l with
  | nil => simp at hf
  | cons g r ih =>
    unfold fnd
    rw [List.find?_cons]
    rcases List.mem_cons.1 hf with rfl | hf
    · simp
    · have h2 := List.pairwise_cons.1 h.apart
      rw [decide_eq_false (h2.1 f hf)]
      exact ih (List.pairwise_cons.1 h).2 hf
theorem Up.one {l : List α} (h : Up nm l) {f g : α} (hf : f ∈ l) (hg : g ∈ l) (e : nm f = nm g) : f = g := by
  have h1 := h.mem_fnd hf
  have h2 := h.mem_fnd hg
  rw [e, h2] at h1
  exact (Option.some.inj h1).symm
theorem Up.ins {l : List α} (h : Up nm l) {f : α} (hn : fnd nm (nm f) l = none) : Up nm (ins nm f l) := by
  induction l with
  | nil => simp [Dk.ins, Up]
  | cons g r ih =>
    have hne := fnd_none hn
    have h1 := List.pairwise_cons.1 h
    unfold Dk.ins
    split
    · rename_i hb
      refine List.pairwise_cons.2 ⟨fun x hx => ?_, h⟩
      rcases List.mem_cons.1 hx with rfl | hx
      · exact hb
      · exact bef_trans hb (h1.1 x hx)
    · rename_i hb
      have hg : bef (nm g) (nm f) = true := by
        rcases bef_total (hne g (by simp)) with q | q
        · exact q
        · exact absurd q hb
      refine List.pairwise_cons.2 ⟨fun x hx => ?_, ih h1.2 ?_⟩
      · rcases mem_ins.1 hx with rfl | hx
        · exact hg
        · exact h1.1 x hx
      · exact List.find?_eq_none.2 fun x hx => by simpa using hne x (by simp [hx])
theorem Up.del {l : List α} (h : Up nm l) (s : ByteArray) : Up nm (del nm s l) := List.Pairwise.filter _ h
theorem Up.upd {l : List α} (h : Up nm l) {s : ByteArray} {g : α → α} (hg : ∀ f, nm (g f) = nm f) : Up nm (upd nm s g l) := by
  refine List.pairwise_map.2 (h.imp fun {a b} hab => ?_)
  have e : ∀ x, nm (if nm x = s then g x else x) = nm x := fun x => by split <;> simp [hg]
  rw [e, e]
  exact hab
/-- Two rising lists with the same members are one. -/
theorem Up.eq {l m : List α} (hl : Up nm l) (hm : Up nm m) (h : ∀ x, x ∈ l ↔ x ∈ m) : l = m := by
  refine List.Perm.eq_of_pairwise (le := fun f g => bef (nm f) (nm g) = true) (fun a b _ _ h1 h2 => ?_) hl hm ?_
  · have := bef_trans h1 h2
    rw [bef_irrefl] at this
    cases this
  · refine (List.perm_ext_iff_of_nodup ?_ ?_).2 h
    · exact hl.imp fun {a b} hab e => by rw [e, bef_irrefl] at hab; cases hab
    · exact hm.imp fun {a b} hab e => by rw [e, bef_irrefl] at hab; cases hab
end

section
variable {α β : Type} {nm : α → ByteArray} {nm' : β → ByteArray} (p : α → β)
theorem map_ins (hp : ∀ f, nm' (p f) = nm f) (f : α) : ∀ l : List α, (ins nm f l).map p = ins nm' (p f) (l.map p)
  | [] => rfl
  | g :: r => by
    unfold ins
    simp only [List.map_cons, hp]
    split
    · simp
    · rw [List.map_cons, map_ins hp f r]
theorem map_del (hp : ∀ f, nm' (p f) = nm f) (s : ByteArray) (l : List α) : (del nm s l).map p = del nm' s (l.map p) := by
  unfold del
  rw [List.filter_map]
  congr 1
  exact List.filter_congr fun x _ => by simp [hp]
theorem map_upd (hp : ∀ f, nm' (p f) = nm f) (s : ByteArray) {g : α → α} {g' : β → β} (hg : ∀ f, p (g f) = g' (p f)) (l : List α) : (upd nm s g l).map p = upd nm' s g' (l.map p) := by
  unfold upd
  rw [List.map_map, List.map_map]
  refine List.map_congr_left fun x _ => ?_
  simp only [Function.comp_apply, hp]
  split <;> simp [hg]
theorem map_fnd (hp : ∀ f, nm' (p f) = nm f) (s : ByteArray) (l : List α) : fnd nm' s (l.map p) = (fnd nm s l).map p := by
  unfold fnd
  rw [List.find?_map]
  congr 2
  funext x
  simp [hp]
end

/-- The map that a list of files reads as: each name with its record's block. -/
def en (f : Fil) : Lit × DataW Unit := (ky f.name, .lit (.int .i64 (f.blk : Int)))
def Dm (l : List Fil) : DataW Unit := .map (l.map en)
theorem has_Dm (l : List Fil) (s : ByteArray) : Maps.has (Dm l) (ky s) = (fnd Fil.name s l).isSome := by
  show (l.map en).any (fun q => q.1.sameKey (ky s)) = _
  rw [List.any_map, fnd, List.isSome_find?]
  congr 1
  funext f
  simp [en, same_ky]
theorem at_Dm (l : List Fil) (s : ByteArray) (z : DataW Unit) : (Dm l).atKey (ky s) z = match fnd Fil.name s l with | some f => .lit (.int .i64 (f.blk : Int)) | none => z := by
  simp only [DataW.atKey, Dm]
  rw [List.find?_map]
  have : ((fun q : Lit × DataW Unit => q.1.sameKey (ky s)) ∘ en) = fun f => decide (f.name = s) := by
    funext f
    simp [en, same_ky]
  rw [this]
  unfold fnd
  cases h : List.find? (fun f : Fil => decide (f.name = s)) l <;> simp [en]
theorem size_Dm (l : List Fil) : Maps.size (Dm l) = l.length := by simp [Dm, Maps.size]
theorem put_Dm {l : List Fil} {f : Fil} (h : fnd Fil.name f.name l = none) : (Dm l).put (ky f.name) (.lit (.int .i64 (f.blk : Int))) = Dm (ins Fil.name f l) := by
  show DataW.map (DataW.insert (ky f.name, _) ((l.map en).filter fun q => !q.1.sameKey (ky f.name))) = _
  rw [List.filter_eq_self.2 (fun q hq => by
    obtain ⟨g, hg, rfl⟩ := List.mem_map.1 hq
    simp [en, same_ky, fnd_none h g hg])]
  unfold Dm
  congr 1
  clear h
  induction l with
  | nil => rfl
  | cons g r ih =>
    simp only [List.map_cons]
    unfold DataW.insert ins
    show (if (ky f.name).before (ky g.name) = true then _ else _) = _
    have e : (ky f.name).before (ky g.name) = bef f.name g.name := rfl
    rw [e]
    split
    · rfl
    · rw [List.map_cons, ih]
theorem del_Dm (l : List Fil) (s : ByteArray) : (Dm l).del (ky s) = Dm (del Fil.name s l) := by
  show DataW.map ((l.map en).filter fun q => !q.1.sameKey (ky s)) = .map ((l.filter fun f => decide (f.name ≠ s)).map en)
  rw [List.filter_map]
  congr 2
  refine List.filter_congr fun f _ => ?_
  simp [en, same_ky]
theorem up_of_canon {l : List Fil} (h : Maps.Canon (Dm l)) : Up Fil.name l := by
  obtain ⟨es, he, hp, _⟩ := h
  have : l.map en = es := by simpa [Dm] using he
  subst this
  exact List.pairwise_map.1 hp
theorem keys_Dm (l : List Fil) : strKeys (Dm l) = l.map fun f => f.name.data.toList := by
  show (l.map en).map (fun q => strOf q.1) = _
  rw [List.map_map]
  rfl
theorem le_of_before : ∀ {a b : List UInt8}, bytesBefore a b = true → a ≤ b
  | [], _, _ => List.nil_le _
  | _ :: _, [], h => by simp [bytesBefore] at h
  | a :: r, b :: s, h => by
    simp only [bytesBefore, Bool.or_eq_true, decide_eq_true_eq, Bool.and_eq_true, beq_iff_eq] at h
    rcases h with h | ⟨rfl, h⟩
    · exact Std.le_of_lt (List.cons_lt_cons_iff.2 (.inl h))
    · exact List.cons_le_cons_iff.2 (.inr ⟨rfl, le_of_before h⟩)
theorem names_sorted {l : List Fil} (h : Up Fil.name l) {ss : List (List UInt8)} (hs : ss.Perm (strKeys (Dm l))) : (ss.mergeSort leB).map encStr = l.map fun f => .string f.name := by
  rw [mergeSort_of_perm hs, keys_Dm, List.mergeSort_of_pairwise (List.pairwise_map.2 (h.imp fun {a b} hab => by simpa [leB] using le_of_before hab)), List.map_map]
  refine List.map_congr_left fun f _ => ?_
  simp [encStr]
end Dk
end Go.Proofs.Ythangnhccbnfbaa
