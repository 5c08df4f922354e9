/- The reference's disk in memory: its record, its row of files; what At, Used, dies, New, SetRoom of the reference do. -/
import Derived.Test.YthangnhccbnfbaaDkLawW
namespace Go.Proofs.Ythangnhccbnfbaa
open Go.RowKit Go.Maps
namespace Dk
/-- The cells of a file in the reference's row. -/
def fl3 (f : Fil) : List Value := [.string f.name, f.v, .int .i64 (f.syn : Int)]
def flat3 (L : List Fil) : List Value := L.flatMap fl3
theorem flat3_cons (f : Fil) (L : List Fil) : flat3 (f :: L) = fl3 f ++ flat3 L := rfl
theorem flat3_app (L M : List Fil) : flat3 (L ++ M) = flat3 L ++ flat3 M := List.flatMap_append
theorem flat3_len : ∀ L : List Fil, (flat3 L).length = L.length * 3
  | [] => rfl
  | f :: r => by rw [flat3_cons, List.length_append, flat3_len r, List.length_cons]; simp [fl3]; omega
theorem flat3_get : ∀ (L : List Fil) (i : Nat) (hi : i < L.length), (flat3 L)[i * 3]? = some (.string L[i].name) ∧ (flat3 L)[i * 3 + 1]? = some L[i].v ∧ (flat3 L)[i * 3 + 2]? = some (.int .i64 (L[i].syn : Int))
  | f :: r, 0, _ => by simp [flat3_cons, fl3]
  | f :: r, i + 1, hi => by
    have := flat3_get r i (by simpa using hi)
    rw [flat3_cons]
    rw [show (i + 1) * 3 = i * 3 + 3 by omega, show i * 3 + 3 + 1 = (i * 3 + 1) + 3 by omega, show i * 3 + 3 + 2 = (i * 3 + 2) + 3 by omega]
    simpa [fl3] using this
theorem flat3_set1 : ∀ (L : List Fil) (i : Nat) (hi : i < L.length) (u : Value), (flat3 L).set (i * 3 + 1) u = flat3 (L.set i { L[i] with v := u })
  | f :: r, 0, _, u => by simp [flat3_cons, fl3]
  | f :: r, i + 1, hi, u => by
    have := flat3_set1 r i (by simpa using hi) u
    rw [flat3_cons, List.set_cons_succ, flat3_cons, show (i + 1) * 3 + 1 = (i * 3 + 1) + 3 by omega]
    simp only [fl3, List.cons_append, List.nil_append, List.set_cons_succ, List.getElem_cons_succ]
    rw [this]
theorem flat3_set2 : ∀ (L : List Fil) (i : Nat) (hi : i < L.length) (k : Nat), (flat3 L).set (i * 3 + 2) (.int .i64 (k : Int)) = flat3 (L.set i { L[i] with syn := k })
  | f :: r, 0, _, u => by simp [flat3_cons, fl3]
  | f :: r, i + 1, hi, u => by
    have := flat3_set2 r i (by simpa using hi) u
    rw [flat3_cons, List.set_cons_succ, flat3_cons, show (i + 1) * 3 + 2 = (i * 3 + 2) + 3 by omega]
    simp only [fl3, List.cons_append, List.nil_append, List.set_cons_succ, List.getElem_cons_succ]
    rw [this]
theorem flat3_take (L : List Fil) (k : Nat) : (flat3 L).take (k * 3) = flat3 (L.take k) := by
  have h : flat3 L = flat3 (L.take k) ++ flat3 (L.drop k) := by rw [← flat3_app, List.take_append_drop]
  by_cases hk : k ≤ L.length
  · rw [h, List.take_left' (by rw [flat3_len, List.length_take]; congr 1; omega)]
  · rw [List.take_of_length_le (by rw [flat3_len]; omega), List.take_of_length_le (by omega)]
theorem flat3_drop (L : List Fil) (k : Nat) : (flat3 L).drop (k * 3) = flat3 (L.drop k) := by
  have h : flat3 L = flat3 (L.take k) ++ flat3 (L.drop k) := by rw [← flat3_app, List.take_append_drop]
  by_cases hk : k ≤ L.length
  · rw [h, List.drop_left' (by rw [flat3_len, List.length_take]; congr 1; omega)]
  · rw [List.drop_of_length_le (by rw [flat3_len]; omega), List.drop_of_length_le (by omega)]
    rfl
/-- The slice value of address A, length n and capacity c holds the files L. -/
structure Fs (w : World) (A : Option Addr) (n c : Nat) (L : List Fil) : Prop where
  len : n = L.length
  cap : n ≤ c
  max : c ≤ maxLen
  nil : A = none → c = 0
  rd : ∀ j (hj : j < L.length), ∃ b, A = some ⟨b, 0, none⟩ ∧ b < w.heap.size ∧ w.cell? ⟨b, j * 3, none⟩ = some (.string L[j].name) ∧ w.cell? ⟨b, j * 3 + 1, none⟩ = some L[j].v ∧ w.cell? ⟨b, j * 3 + 2, none⟩ = some (.int .i64 (L[j].syn : Int))
theorem Fs.of_own {w : World} {base : Nat} {e : TypeId} {v : Value} {n : Nat} {L : List Fil} (h : w.ownsRow base e 3 v n (flat3 L)) : n = L.length ∧ ∃ A c, v = .slice A L.length c ∧ Fs w A L.length c L ∧ (A = none ∨ ∃ b, A = some ⟨b, 0, none⟩ ∧ v.ownBlock = some b) := by
  have hl : n = L.length := by have := h.1; rw [flat3_len] at this; omega
  subst hl
  refine ⟨rfl, ?_⟩
  rcases h.2 with ⟨rfl, h0⟩ | ⟨g, cap, cur, rfl, hb, hg, h1, h2, h3, h4⟩
  · have : L = [] := List.eq_nil_of_length_eq_zero h0
    subst this
    exact ⟨none, 0, rfl, ⟨rfl, by simp, by simp [maxLen], fun _ => rfl, fun j hj => by simp at hj⟩, .inl rfl⟩
  · refine ⟨_, _, rfl, ⟨rfl, h1, h2, by simp, fun j hj => ⟨g, rfl, (Array.getElem?_eq_some_iff.1 hg).1, ?_⟩⟩, .inr ⟨g, rfl, rfl⟩⟩
    obtain ⟨q0, q1, q2⟩ := flat3_get L j hj
    exact ⟨(h.cellAt (j * 3) (by omega)).trans q0, (h.cellAt (j * 3 + 1) (by omega)).trans q1, (h.cellAt (j * 3 + 2) (by omega)).trans q2⟩

/-- The reference's disk in memory: record r, row of files v. -/
structure Ref (w : World) (r : Nat) (v : Value) (L : List Fil) (room : Int) (am : Bool) (lf : Int) (dead : Bool) (H : Nat → Prop) : Prop where
  box : Wd.Bx w r 61 #[v, .int .i64 room, .bool am, .int .i64 lf, .bool dead]
  row : w.ownsRow 0 64 3 v L.length (flat3 L)
  fil : ∀ f ∈ L, w.ownsRow 0 5 1 f.v f.data.length (f.data.map (Value.int .u8))
  hr : H r
  hv : ∀ x, v.ownBlock = some x → H x
  hf : ∀ f ∈ L, ∀ x, f.v.ownBlock = some x → H x
  bd : ∀ g, H g → g < w.heap.size
section
variable {w w' : World} {r : Nat} {v : Value} {L : List Fil} {room lf : Int} {am dead : Bool} {H : Nat → Prop}
theorem Ref.at_ (h : Ref w r v L room am lf dead H) (hs : w.heap.size ≤ w'.heap.size) (hk : ∀ g, H g → w'.heap[g]? = w.heap[g]?) : Ref w' r v L room am lf dead H :=
  ⟨h.box.at_ (hk r h.hr), Wd.own_keep h.row fun x hx => hk x (h.hv x hx), fun f hf => Wd.own_keep (h.fil f hf) (fun x hx => hk x (h.hf f hf x hx)), h.hr, h.hv, h.hf, fun g hg => Nat.lt_of_lt_of_le (h.bd g hg) hs⟩
theorem Ref.below (h : Ref w r v L room am lf dead H) (hb : Below w.heap.size w w') : Ref w' r v L room am lf dead H := h.at_ hb.size fun g hg => hb.block g (h.bd g hg)
theorem Ref.other {G : Nat → Prop} (h : Ref w r v L room am lf dead H) (k : Wd.Mv G w w') (hn : ∀ g, H g → ¬ G g) : Ref w' r v L room am lf dead H := h.at_ k.size fun g hg => k.keep g (h.bd g hg) (hn g hg)
theorem Ref.grow (h : Ref w r v L room am lf dead H) {H' : Nat → Prop} (hH : ∀ g, H g → H' g) (hb : ∀ g, H' g → g < w.heap.size) : Ref w r v L room am lf dead H' :=
  ⟨h.box, h.row, h.fil, hH _ h.hr, fun x hx => hH _ (h.hv x hx), fun f hf x hx => hH _ (h.hf f hf x hx), hb⟩
theorem Ref.rv (h : Ref w r v L room am lf dead H) : v.ownBlock ≠ some r := by
  intro e
  obtain ⟨_, _, cur, hc⟩ := Wd.own_lt h.row e
  have h2 := h.box
  unfold Wd.Bx at h2
  rw [h2] at hc
  simp at hc
theorem Ref.rf (h : Ref w r v L room am lf dead H) {f : Fil} (hf : f ∈ L) : f.v.ownBlock ≠ some r := by
  intro e
  obtain ⟨_, _, cur, hc⟩ := Wd.own_lt (h.fil f hf) e
  have h2 := h.box
  unfold Wd.Bx at h2
  rw [h2] at hc
  simp at hc
theorem Ref.vf (h : Ref w r v L room am lf dead H) {f : Fil} (hf : f ∈ L) {x : Nat} (hx : v.ownBlock = some x) : f.v.ownBlock ≠ some x := by
  intro e
  obtain ⟨_, _, cur, hc⟩ := Wd.own_lt (h.fil f hf) e
  obtain ⟨_, _, cur', hc'⟩ := Wd.own_lt h.row hx
  rw [hc] at hc'
  simp at hc'
/-- Its record turns, but for the row of files. -/
theorem Ref.turn_box (h : Ref w r v L room am lf dead H) {room' lf' : Int} {am' dead' : Bool} (hb : Wd.Bx w' r 61 #[v, .int .i64 room', .bool am', .int .i64 lf', .bool dead']) (hg : w.grownBy w' (some r)) : Ref w' r v L room' am' lf' dead' H :=
  ⟨hb, Wd.own_keep h.row fun x hx => hg.block x (Wd.own_lt h.row hx).1 (fun e => h.rv (by rw [hx]; exact e)), fun f hf => Wd.own_keep (h.fil f hf) (fun x hx => hg.block x (Wd.own_lt (h.fil f hf) hx).1 (fun e => h.rf hf (by rw [hx]; exact e))),
    h.hr, h.hv, h.hf, fun g hG => Nat.lt_of_lt_of_le (h.bd g hG) hg.size⟩
end

/-- A place of a name. -/
theorem place {s : ByteArray} : ∀ {L : List Fil} {f : Fil}, fnd Fil.name s L = some f → ∃ i, ∃ hi : i < L.length, L[i] = f ∧ f.name = s ∧ ∀ j (hj : j < L.length), j < i → L[j].name ≠ s
  | g :: r, f, h => by
    unfold fnd at h
    rw [List.find?_cons] at h
    by_cases q : g.name = s
    · rw [decide_eq_true q] at h
      cases h
      exact ⟨0, by simp, rfl, q, fun j _ hj => by omega⟩
    · rw [decide_eq_false q] at h
      obtain ⟨i, hi, h1, h2, h3⟩ := place (L := r) h
      refine ⟨i + 1, by simp; omega, by simpa using h1, h2, fun j hj hji => ?_⟩
      match j, hj, hji with
      | 0, _, _ => simpa using q
      | j + 1, hj, hji => simpa using h3 j (by simpa using hj) (by omega)
theorem str_eq {s t : ByteArray} (h : s = t) : (s.toList == t.toList) = true := by simp [h]
theorem str_ne {s t : ByteArray} (h : s ≠ t) : (s.toList == t.toList) = false := by
  rw [ByteArray.toList_eq, ByteArray.toList_eq, beq_eq_false_iff_ne]
  intro e
  exact h (WideShapes.bytes_inj e)

section
variable {w : World} {r : Nat} {v : Value} {L : List Fil} {room lf : Int} {am dead : Bool} {H : Nat → Prop}
theorem rAt_some (h : Ref w r v L room am lf dead H) (s : ByteArray) (i : Nat) (hi : i < L.length) (hs : L[i].name = s) (hb : ∀ j (hj : j < L.length), j < i → L[j].name ≠ s) :
    Calls Try.prog 39 #[pt r, .string s] w fun e w' => e = .returned (.int .i64 (i : Int)) ∧ w' = w := by
  obtain ⟨-, A, c, rfl, hF, -⟩ := Fs.of_own h.row
  have c0 := h.box.cell 0
  simp at c0
  have hcp := hF.cap
  have hmx := hF.max
  unfold maxLen at hmx
  have hb' := Lib.hid hb
  have hs' := Lib.hid hs
  clear hb hs
  go_enter Try.func39, Try.ntmps39
  go_wp2_with fail
  go_loopw [5] (fun iv wr => ∃ k : Nat, iv = .int .i64 (k : Int) ∧ k ≤ i ∧ wr = w) (fun iv _ => L.length - (intOf iv).toNat)
  case atStart => exact ⟨0, rfl, Nat.zero_le _, rfl⟩
  case round =>
    obtain ⟨k, rfl, hk, rfl⟩ := hrel
    have hkl : k < L.length := by omega
    obtain ⟨b, rfl, hlt, d0, d1, d2⟩ := hF.rd k hkl
    have i1 : (k : Int) < (L.length : Int) := by omega
    by_cases hki : k = i
    · subst hki
      rw [hs'.out] at d0
      clear d1 d2 hF
      go_wp2_with fail
      go_ret
      exact ⟨rfl, rfl⟩
    · have q0 := str_ne (hb'.out k hkl (by omega))
      obtain ⟨t, ht⟩ : ∃ t, t = L[k].name := ⟨_, rfl⟩
      rw [← ht] at d0 q0
      clear ht d1 d2 hF
      go_wp2_with fail
      go_roundw
      case rel => exact ⟨k + 1, by simp, by omega, by trivial⟩
      case measure => simp [intOf]; omega
theorem rAt_none (h : Ref w r v L room am lf dead H) (s : ByteArray) (hn : fnd Fil.name s L = none) :
    Calls Try.prog 39 #[pt r, .string s] w fun e w' => e = .returned (.int .i64 (-1)) ∧ w' = w := by
  obtain ⟨-, A, c, rfl, hF, -⟩ := Fs.of_own h.row
  have c0 := h.box.cell 0
  simp at c0
  have hcp := hF.cap
  have hmx := hF.max
  unfold maxLen at hmx
  have hn' := Lib.hid (fnd_none hn)
  clear hn
  go_enter Try.func39, Try.ntmps39
  go_wp2_with fail
  go_loopw [5] (fun iv wr => ∃ k : Nat, iv = .int .i64 (k : Int) ∧ k ≤ L.length ∧ wr = w) (fun iv _ => L.length - (intOf iv).toNat)
  case atStart => exact ⟨0, rfl, Nat.zero_le _, rfl⟩
  case round =>
    obtain ⟨k, rfl, hk, rfl⟩ := hrel
    by_cases hkl : k < L.length
    · obtain ⟨b, rfl, hlt, d0, d1, d2⟩ := hF.rd k hkl
      have i1 : (k : Int) < (L.length : Int) := by omega
      have q0 := str_ne (hn'.out L[k] (List.getElem_mem hkl))
      obtain ⟨t, ht⟩ : ∃ t, t = L[k].name := ⟨_, rfl⟩
      rw [← ht] at d0 q0
      clear ht d1 d2 hF
      go_wp2_with fail
      go_roundw
      case rel => exact ⟨k + 1, by simp, by omega, by trivial⟩
      case measure => simp [intOf]; omega
    · go_wp2_with fail
      go_ret
      exact ⟨rfl, rfl⟩
theorem usedF_app (L M : List Fil) : usedF (L ++ M) = usedF L + usedF M := by
  unfold usedF
  rw [List.map_append, List.sum_append]
theorem usedF_take (L : List Fil) (k : Nat) (hk : k < L.length) : usedF (L.take (k + 1)) = usedF (L.take k) + L[k].data.length := by
  rw [List.take_succ_eq_append_getElem hk, usedF_app]
  simp [usedF]
theorem usedF_take_le (L : List Fil) (k : Nat) : usedF (L.take k) ≤ usedF L := by
  have : usedF L = usedF (L.take k) + usedF (L.drop k) := by
    conv => lhs; rw [← List.take_append_drop k L]
    exact usedF_app _ _
  omega
theorem rUsed_any (h : Ref w r v L room am lf dead H) (hU : usedF L ≤ 100000000) :
    Calls Try.prog 36 #[pt r] w fun e w' => e = .returned (.int .i64 (usedF L : Int)) ∧ w' = w := by
  have hfil := h.fil
  obtain ⟨-, A, c, rfl, hF, -⟩ := Fs.of_own h.row
  have c0 := h.box.cell 0
  simp at c0
  have hcp := hF.cap
  have hmx := hF.max
  unfold maxLen at hmx
  go_enter Try.func36, Try.ntmps36
  go_wp2_with fail
  go_loopw [3, 4] (fun sv iv wr => ∃ k : Nat, iv = .int .i64 (k : Int) ∧ k ≤ L.length ∧ sv = .int .i64 (usedF (L.take k) : Int) ∧ wr = w) (fun _ iv _ => L.length - (intOf iv).toNat)
  case atStart => exact ⟨0, rfl, Nat.zero_le _, by simp [usedF], rfl⟩
  case round =>
    obtain ⟨k, rfl, hk, rfl, rfl⟩ := hrel
    by_cases hkl : k < L.length
    · obtain ⟨b, rfl, hlt, d0, d1, d2⟩ := hF.rd k hkl
      have i1 : (k : Int) < (L.length : Int) := by omega
      have e1 := usedF_take L k hkl
      have e2 := usedF_take_le L (k + 1)
      obtain ⟨A1, n1, c1, hv, hs⟩ := Wd.Sl.of_own (hfil L[k] (List.getElem_mem hkl))
      have hl1 := hs.len
      rw [hv] at d1
      obtain ⟨u, hu⟩ : ∃ u, u = usedF (L.take k) := ⟨_, rfl⟩
      rw [← hu] at e1 ⊢
      have i2 : (u : Int) + (n1 : Int) ≤ 100000000 := by omega
      have i3 : 0 ≤ (u : Int) := by omega
      have E1 := Lib.hid e1
      have Hl1 := Lib.hid hl1
      clear e1 e2 hl1 hv hs hu d0 d2 hF
      go_wp2_with fail
      go_roundw
      case rel => exact ⟨k + 1, by simp, by omega, by rw [E1.out, Hl1.out]; simp, by trivial⟩
      case measure => simp [intOf]; omega
    · have e1 : L.take k = L := List.take_of_length_le (by omega)
      rw [e1]
      clear e1
      go_wp2_with fail
      go_ret
      exact ⟨rfl, rfl⟩
end
end Dk
end Go.Proofs.Ythangnhccbnfbaa
