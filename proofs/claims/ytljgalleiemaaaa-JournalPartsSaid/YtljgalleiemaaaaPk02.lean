/- What is kept while other blocks turn: blocks known whole, rows, maps; a world where nothing but given blocks has turned. The plain arithmetic of layer 1: the digits of a number to the base 128, reading them back, the fold of signed numbers. No program, no memory. The plain arithmetic of layer 4: the checksum's register, step by step and byte by byte; that it is linear and loses nothing. No program, no memory. -/
import Derived.Maps.AppendAt
import Derived.Maps.Own
import Derived.Maps.Views
import Derived.Test.YtljgalleiemaaaaProg
import Derived.Test.YtljgalleiemaaaaPk01
namespace Go.Proofs.Ytljgalleiemaaaa
set_option maxRecDepth 20000
open Go.RowKit Go.Maps
namespace Wd
section
variable {w w' : World} {g : Nat} {t : TypeId} {cs : Array Value}
theorem Bx.set (h : Bx w g t cs) (j : Nat) (u : Value) : Bx (w.setCell ⟨g, j, none⟩ u) g t (cs.setIfInBounds j u) := by
  unfold Bx
  rw [heap_setCell_same w g j cs t _ h]
theorem Bx.other (h : Bx w g t cs) {a : Addr} (ha : g ≠ a.block) (u : Value) : Bx (w.setCell a u) g t cs := by
  unfold Bx
  rw [heap_setCell_other w a g u ha]
  exact h
theorem Bx.drew (h : Bx w g t cs) : Bx w.drew g t cs := h
theorem Bx.at_ (h : Bx w g t cs) (e : w'.heap[g]? = w.heap[g]?) : Bx w' g t cs := e.trans h
theorem own_keep {B : Nat} {e : TypeId} {size n : Nat} {v : Value} {xs : List Value} (h : w.ownsRow B e size v n xs) (hk : ∀ x, v.ownBlock = some x → w'.heap[x]? = w.heap[x]?) : w'.ownsRow B e size v n xs := by
  obtain ⟨h1, h2⟩ := h
  refine ⟨h1, ?_⟩
  rcases h2 with h2 | ⟨g, cap, cur, hv, hg, hh, r⟩
  · exact .inl h2
  · exact .inr ⟨g, cap, cur, hv, hg, by rw [hk g (by rw [hv]; rfl)]; exact hh, r⟩
theorem own_lt {B : Nat} {e : TypeId} {size n : Nat} {v : Value} {xs : List Value} (h : w.ownsRow B e size v n xs) {x : Nat} (hx : v.ownBlock = some x) : x < w.heap.size ∧ B ≤ x ∧ ∃ cur, w.heap[x]? = some (.cells cur e (0, 0)) := by
  rcases h.2 with ⟨rfl, _⟩ | ⟨g, cap, cur, rfl, hg, hh, r⟩
  · simp [Value.ownBlock] at hx
  · have : g = x := by simpa [Value.ownBlock] using hx
    subst this
    exact ⟨lt_of_block hh, hg, cur, hh⟩
/-- The cut 'v[:k]' of a row of the call's own. -/
theorem own_head {B : Nat} {e : TypeId} {A : Option Addr} {n c k : Nat} {xs : List Value} (h : w.ownsRow B e 1 (.slice A n c) n xs) (hk : k ≤ n) : w.ownsRow B e 1 (.slice A k c) k (xs.take k) := by
  obtain ⟨h1, h2⟩ := h
  refine ⟨by simp; omega, ?_⟩
  rcases h2 with ⟨h2, h3⟩ | ⟨g, cap, cur, hv, hg, hh, r1, r2, r3, r4⟩
  · subst h3
    obtain rfl : k = 0 := by omega
    exact .inl ⟨h2, rfl⟩
  · simp only [Value.slice.injEq, true_and] at hv
    obtain ⟨rfl, rfl⟩ := hv
    refine .inr ⟨g, _, cur, rfl, hg, hh, by omega, r2, r3, ?_⟩
    rw [← r4, List.take_take]
    congr 1
    omega
theorem map_keep {H : Type} {P : Program} {k : TypeId} {R : Value → Option (DataW H × List MemPlace)} {b n : Nat} {D : DataW H} (h : w.ownsMap P k R b n D) (e : w'.heap[b]? = w.heap[b]?) : w'.ownsMap P k R b n D := by
  obtain ⟨es, clock, hb, r⟩ := h
  exact ⟨es, clock, e.trans hb, r⟩
/-- As tight as may be. -/
theorem map_tight {H : Type} {P : Program} {k : TypeId} {R : Value → Option (DataW H × List MemPlace)} {b n : Nat} {D : DataW H} (h : w.ownsMap P k R b n D) : w.ownsMap P k R b (Maps.size D) D := by
  obtain ⟨es, clock, hb, F, hs, rfl⟩ := h
  exact ⟨es, clock, hb, F, by simp [Maps.size, length_sorted], rfl⟩
end

/-- Nothing but the blocks of G has turned, and there may be new ones. -/
structure Mv (G : Nat → Prop) (w w' : World) : Prop where
  os : w'.os = w.os
  tape : w'.tape = w.tape
  output : w'.output = w.output
  size : w.heap.size ≤ w'.heap.size
  keep : ∀ g, g < w.heap.size → ¬ G g → w'.heap[g]? = w.heap[g]?
/-- G, and what is new. -/
def Gr (G : Nat → Prop) (w w' : World) (g : Nat) : Prop := G g ∨ (w.heap.size ≤ g ∧ g < w'.heap.size)
section
variable {G : Nat → Prop} {w w' w'' : World} {B : Nat}
theorem Mv.refl (G : Nat → Prop) (w : World) : Mv G w w := ⟨rfl, rfl, rfl, Nat.le_refl _, fun _ _ _ => rfl⟩
theorem Mv.mono {G' : Nat → Prop} (h : Mv G w w') (hG : ∀ g, G g → G' g) : Mv G' w w' := ⟨h.os, h.tape, h.output, h.size, fun g hg hn => h.keep g hg (fun k => hn (hG g k))⟩
theorem Mv.trans (h : Mv G w w') (k : Mv (Gr G w w') w' w'') : Mv G w w'' :=
  ⟨k.os.trans h.os, k.tape.trans h.tape, k.output.trans h.output, Nat.le_trans h.size k.size, fun g hg hn =>
    (k.keep g (Nat.lt_of_lt_of_le hg h.size) (fun q => by rcases q with q | q; exact hn q; omega)).trans (h.keep g hg hn)⟩
theorem Mv.then (h : Mv G w w') (k : Mv G w' w'') : Mv G w w'' := h.trans (k.mono fun _ hg => .inl hg)
theorem Gr.trans (h : w.heap.size ≤ w'.heap.size) (k : w'.heap.size ≤ w''.heap.size) (g : Nat) : Gr (Gr G w w') w' w'' g ↔ Gr G w w'' g := by
  unfold Gr
  constructor
  · rintro ((q | q) | q)
    · exact .inl q
    · exact .inr (by omega)
    · exact .inr (by omega)
  · rintro (q | q)
    · exact .inl (.inl q)
    · by_cases e : g < w'.heap.size
      · exact .inl (.inr (by omega))
      · exact .inr (by omega)
theorem Gr.eq (h : w.heap.size ≤ w'.heap.size) (k : w'.heap.size ≤ w''.heap.size) : Gr (Gr G w w') w' w'' = Gr G w w'' := funext fun g => propext (Gr.trans h k g)
theorem Mv.of_below (h : Below w.heap.size w w') : Mv G w w' := ⟨h.os, h.tape, h.output, h.size, fun g hg _ => h.block g hg⟩
theorem Mv.of_grown {row : Option Nat} (h : w.grownBy w' row) (hr : ∀ g, row = some g → G g) : Mv G w w' :=
  ⟨h.os, h.tape, h.output, h.size, fun g hg hn => h.block g hg (fun e => hn (hr g e.symm))⟩
theorem Mv.below (h : Mv G w w') (hG : ∀ g, G g → B ≤ g) (hB : B ≤ w.heap.size) : Below B w w' :=
  ⟨h.os, h.tape, h.output, h.size, fun g hg => h.keep g (by omega) (fun k => by have := hG g k; omega)⟩
theorem Mv.alloc (h : Mv G w w') (o : Obj) : Mv G w (w'.alloc o) := h.then (Mv.of_grown (World.grownBy_alloc w' o none) (by simp))
theorem Mv.set (h : Mv G w w') {a : Addr} (ha : G a.block) (u : Value) : Mv G w (w'.setCell a u) :=
  h.then ⟨rfl, rfl, rfl, by simp [World.setCell], fun g hg hn => Below.heap_setCell _ _ _ _ (fun e => hn (e ▸ ha))⟩
theorem Mv.drew (h : Mv G w w') : Mv G w w'.drew := ⟨h.os, h.tape, h.output, h.size, h.keep⟩
theorem Gr.ge (hG : ∀ g, G g → B ≤ g) (hB : B ≤ w.heap.size) : ∀ g, Gr G w w' g → B ≤ g := by
  rintro g (q | q)
  · exact hG g q
  · omega
theorem Gr.lt (hG : ∀ g, G g → g < w.heap.size) (h : w.heap.size ≤ w'.heap.size) : ∀ g, Gr G w w' g → g < w'.heap.size := by
  rintro g (q | q)
  · exact Nat.lt_of_lt_of_le (hG g q) h
  · exact q.2
end
end Wd
end Go.Proofs.Ytljgalleiemaaaa
namespace Go.Proofs.Ytljgalleiemaaaa
set_option maxRecDepth 20000
namespace Nm

/-- The digits of u, least first, 128 added to all but the last; at most f + 1 of them. -/
def vdF : Nat → Int → List Int
  | 0, u => [u]
  | f + 1, u => if u < 128 then [u] else (u % 128 + 128) :: vdF f (u / 128)
/-- The digits of a number below 2^64. -/
def vd (u : Int) : List Int := vdF 9 u
/-- The fold of a signed number. -/
def zz (n : Int) : Int := if n < 0 then -2 * n - 1 else 2 * n
/-- Its way back. -/
def unz (u : Int) : Int := if u % 2 = 1 then -(u / 2) - 1 else u / 2
/-- Reading digits: the place, what was read so far, what is left. Answers the number, how many digits, the error. -/
def gvF : Nat → Int → List Int → Int × Int × Int
  | _, _, [] => (0, 0, 6)
  | i, acc, c :: r =>
    if i = 9 ∧ 1 < c then (0, 0, 7)
    else if 128 ≤ c then gvF (i + 1) (acc + c % 128 * 128 ^ i) r
    else if c = 0 ∧ 0 < i then (0, 0, 7)
    else (acc + c * 128 ^ i, i + 1, 0)
def gv (b : List Int) : Int × Int × Int := gvF 0 0 b
/-- What Get answers. -/
def getI (b : List Int) : Int × Int × Int := if (gv b).2.2 = 0 then (unz (gv b).1, (gv b).2.1, 0) else (0, 0, (gv b).2.2)
/-- What GetLen answers. -/
def getL (b : List Int) : Int × Int × Int := if (gv b).2.2 = 0 then (if 9223372036854775807 < (gv b).1 then (0, 0, 7) else ((gv b).1, (gv b).2.1, 0)) else (0, 0, (gv b).2.2)
/-- Every number of the list is a byte. -/
def Byt (b : List Int) : Prop := ∀ x, x ∈ b → 0 ≤ x ∧ x ≤ 255

theorem zz_lo (n : Int) : 0 ≤ zz n := by unfold zz; split <;> omega
theorem zz_hi (n : Int) (h1 : -9223372036854775808 ≤ n) (h2 : n ≤ 9223372036854775807) : zz n ≤ 18446744073709551615 := by unfold zz; split <;> omega
theorem unz_zz (n : Int) : unz (zz n) = n := by
  unfold unz zz
  by_cases h : n < 0
  · rw [if_pos h, if_pos (by omega)]; omega
  · rw [if_neg h, if_neg (by omega)]; omega
theorem zz_unz (u : Int) (h : 0 ≤ u) : zz (unz u) = u := by
  unfold unz zz
  by_cases h : u % 2 = 1
  · rw [if_pos h, if_pos (by omega)]; omega
  · rw [if_neg h, if_neg (by omega)]; omega
theorem unz_bd (u : Int) (h : 0 ≤ u) (h' : u ≤ 18446744073709551615) : -9223372036854775808 ≤ unz u ∧ unz u ≤ 9223372036854775807 := by
  unfold unz; split <;> omega

theorem vdF_lo (f : Nat) (u : Int) (h : u < 128) : vdF f u = [u] := by
  cases f with
  | zero => rfl
  | succ f => exact if_pos h
theorem vdF_hi (f : Nat) (u : Int) (h : ¬ u < 128) : vdF (f + 1) u = (u % 128 + 128) :: vdF f (u / 128) := if_neg h
theorem pow_up {a b : Nat} (h : a ≤ b) : (128 : Int) ^ a ≤ 128 ^ b := by
  induction b with
  | zero => obtain rfl : a = 0 := by omega
            exact Int.le_refl _
  | succ b ih =>
    rcases Nat.lt_or_ge b a with q | q
    · obtain rfl : a = b + 1 := by omega
      exact Int.le_refl _
    · have := ih q
      have hp : (0 : Int) < 128 ^ b := Int.pow_pos (by omega)
      rw [Int.pow_succ]; omega
theorem vdF_len (f : Nat) : ∀ u : Int, 1 ≤ (vdF f u).length ∧ (vdF f u).length ≤ f + 1 := by
  induction f with
  | zero => intro u; simp [vdF]
  | succ f ih =>
    intro u
    rw [vdF]
    split
    · simp
    · have := ih (u / 128); simp only [List.length_cons]; omega
theorem vd_len (u : Int) : 1 ≤ (vd u).length ∧ (vd u).length ≤ 10 := vdF_len 9 u
theorem vdF_byt (f : Nat) : ∀ u : Int, 0 ≤ u → u < 128 ^ (f + 1) → Byt (vdF f u) := by
  induction f with
  | zero => intro u h0 h1 x hx; simp [vdF] at hx; subst hx; simp at h1; omega
  | succ f ih =>
    intro u h0 h1
    rw [vdF]
    split
    · intro x hx; simp at hx; subst hx; omega
    · have e : (128 : Int) ^ (f + 1 + 1) = 128 ^ (f + 1) * 128 := Int.pow_succ 128 (f + 1)
      have := ih (u / 128) (by omega) (by rw [e] at h1; omega)
      intro x hx
      rcases List.mem_cons.1 hx with rfl | hx
      · omega
      · exact this x hx
theorem pow10 : (128 : Int) ^ (9 + 1) = 1180591620717411303424 := by decide
theorem vd_byt (u : Int) (h0 : 0 ≤ u) (h1 : u ≤ 18446744073709551615) : Byt (vd u) := vdF_byt 9 u h0 (by rw [pow10]; omega)

/-- With one digit of fuel more nothing changes. -/
theorem vdF_more (f : Nat) : ∀ u : Int, 0 ≤ u → u < 128 ^ (f + 1) → vdF (f + 1) u = vdF f u := by
  induction f with
  | zero => intro u h0 h1; simp at h1; simp [vdF, h1]
  | succ f ih =>
    intro u h0 h1
    by_cases h : u < 128
    · rw [vdF_lo _ _ h, vdF_lo _ _ h]
    · have e : (128 : Int) ^ (f + 1 + 1) = 128 ^ (f + 1) * 128 := Int.pow_succ 128 (f + 1)
      rw [vdF_hi _ _ h, vdF_hi _ _ h, ih (u / 128) (by omega) (by rw [e] at h1; omega)]
theorem vdF_eq (f : Nat) (u : Int) (h0 : 0 ≤ u) (h1 : u < 128 ^ (f + 1)) : ∀ g, f ≤ g → vdF g u = vdF f u := by
  intro g hg
  induction g with
  | zero => obtain rfl : f = 0 := by omega
            rfl
  | succ g ih =>
    rcases Nat.lt_or_ge g f with h | h
    · obtain rfl : f = g + 1 := by omega
      rfl
    · rw [vdF_more g u h0 (Int.lt_of_lt_of_le h1 (pow_up (by omega))), ih h]

theorem vdF_mono (f : Nat) : ∀ u v : Int, u ≤ v → (vdF f u).length ≤ (vdF f v).length := by
  induction f with
  | zero => intro u v _; simp [vdF]
  | succ f ih =>
    intro u v h
    rw [vdF]
    split
    · have := (vdF_len (f + 1) v).1; simpa using this
    · rw [vdF, if_neg (by omega)]
      simpa using ih (u / 128) (v / 128) (by omega)
theorem vdF_next (f : Nat) : ∀ u : Int, 0 ≤ u → (vdF f (u + 1)).length ≤ (vdF f u).length + 1 := by
  induction f with
  | zero => intro u _; simp [vdF]
  | succ f ih =>
    intro u h
    by_cases h1 : u + 1 < 128
    · rw [vdF, if_pos h1]; simp
    · by_cases h2 : u < 128
      · obtain rfl : u = 127 := by omega
        rw [vdF, if_neg (by omega), vdF, if_pos (by omega)]
        cases f with
        | zero => simp [vdF]
        | succ f => simp [vdF]
      · rw [vdF, if_neg h1, vdF, if_neg h2]
        simp only [List.length_cons]
        by_cases h3 : (u + 1) / 128 = u / 128
        · rw [h3]; omega
        · have e : (u + 1) / 128 = u / 128 + 1 := by omega
          rw [e]
          have := ih (u / 128) (by omega)
          omega

/-- Reading what was written, whatever stands behind. -/
theorem gvF_vdF (f : Nat) : ∀ (i : Nat) (acc u : Int) (more : List Int), i + f = 9 → 0 ≤ u → u * 128 ^ i ≤ 18446744073709551615 → (0 < i → 0 < u) →
    gvF i acc (vdF f u ++ more) = (acc + u * 128 ^ i, ((i + (vdF f u).length : Nat) : Int), 0) := by
  induction f with
  | zero =>
    intro i acc u more hi h0 h1 hp
    obtain rfl : i = 9 := by omega
    have hu : u ≤ 1 := by
      have e : (128 : Int) ^ 9 = 9223372036854775808 := by decide
      rw [e] at h1; omega
    have hu1 := hp (by omega)
    simp only [vdF, List.cons_append, List.nil_append, gvF]
    rw [if_neg (by omega), if_neg (by omega), if_neg (by omega)]
    rfl
  | succ f ih =>
    intro i acc u more hi h0 h1 hp
    rw [vdF]
    by_cases hu : u < 128
    · rw [if_pos hu]
      simp only [List.cons_append, List.nil_append, gvF]
      rw [if_neg (by omega), if_neg (by omega), if_neg (by omega)]
      rfl
    · rw [if_neg hu]
      simp only [List.cons_append, gvF]
      rw [if_neg (by omega), if_pos (by omega)]
      have e : (128 : Int) ^ (i + 1) = 128 ^ i * 128 := Int.pow_succ 128 i
      have hpos : (0 : Int) < 128 ^ i := Int.pow_pos (by omega)
      have hd : u / 128 * 128 ^ (i + 1) ≤ u * 128 ^ i := by
        rw [e, Int.mul_comm (128 ^ i) 128, ← Int.mul_assoc]
        exact Int.mul_le_mul_of_nonneg_right (by omega) (by omega)
      rw [ih (i + 1) _ (u / 128) more (by omega) (by omega) (by omega) (by omega)]
      have em : (u % 128 + 128) % 128 = u % 128 := by omega
      have es : u % 128 * 128 ^ i + u / 128 * 128 ^ (i + 1) = u * 128 ^ i := by
        rw [e, Int.mul_comm (128 ^ i) 128, ← Int.mul_assoc, ← Int.add_mul]
        congr 1; omega
      rw [em]
      simp only [List.length_cons, Prod.mk.injEq, and_true]
      refine ⟨by omega, by omega⟩
theorem gv_vd (u : Int) (more : List Int) (h0 : 0 ≤ u) (h1 : u ≤ 18446744073709551615) : gv (vd u ++ more) = (u, ((vd u).length : Int), 0) := by
  have := gvF_vdF 9 0 0 u more rfl h0 (by simpa using h1) (by omega)
  unfold gv vd
  rw [this]; simp

/-- What is read was written so; a beginning of it is too short. -/
theorem gvF_only : ∀ (b : List Int) (i : Nat) (acc : Int), Byt b → i ≤ 9 → (gvF i acc b).2.2 = 0 →
    ∃ (k : Nat) (u : Int), gvF i acc b = (acc + u * 128 ^ i, ((i + k : Nat) : Int), 0) ∧ 1 ≤ k ∧ k ≤ b.length ∧ i + k ≤ 10 ∧ 0 ≤ u ∧ u * 128 ^ i ≤ 18446744073709551615 - (128 ^ i - 1) ∧ (0 < i → 0 < u) ∧ b.take k = vdF (9 - i) u ∧
      ∀ j, j < k → gvF i acc (b.take j) = (0, 0, 6) := by
  intro b
  induction b with
  | nil => intro i acc _ _ h; simp [gvF] at h
  | cons c r ih =>
    intro i acc hb hi h
    have hc := hb c (by simp)
    have hr : Byt r := fun x hx => hb x (by simp [hx])
    have e : (128 : Int) ^ (i + 1) = 128 ^ i * 128 := Int.pow_succ 128 i
    have hpos : (0 : Int) < 128 ^ i := Int.pow_pos (by omega)
    have h9 : (128 : Int) ^ 9 = 9223372036854775808 := by decide
    rw [gvF] at h ⊢
    by_cases q1 : i = 9 ∧ 1 < c
    · rw [if_pos q1] at h; simp at h
    · rw [if_neg q1] at h ⊢
      by_cases q2 : 128 ≤ c
      · rw [if_pos q2] at h ⊢
        have hi' : i + 1 ≤ 9 := by omega
        obtain ⟨k, u, hk, k1, k2, k3, u0, u1, up, ht, hj⟩ := ih (i + 1) _ hr hi' h
        have up := up (by omega)
        have es : c % 128 * 128 ^ i + u * 128 ^ (i + 1) = (u * 128 + c % 128) * 128 ^ i := by
          rw [e, Int.mul_comm (128 ^ i) 128, ← Int.mul_assoc, ← Int.add_mul]
          congr 1; omega
        refine ⟨k + 1, u * 128 + c % 128, ?_, by omega, by simp; omega, by omega, by omega, ?_, by omega, ?_, ?_⟩
        · rw [hk]
          simp only [Prod.mk.injEq, and_true]
          exact ⟨by omega, by omega⟩
        · have hle : c % 128 * 128 ^ i ≤ 127 * 128 ^ i := Int.mul_le_mul_of_nonneg_right (by omega) (by omega)
          rw [← es]
          omega
        · have e9 : 9 - i = (9 - (i + 1)) + 1 := by omega
          rw [e9, vdF, if_neg (by omega), List.take_succ_cons, ht]
          have a1 : (u * 128 + c % 128) % 128 + 128 = c := by omega
          have a2 : (u * 128 + c % 128) / 128 = u := by omega
          rw [a1, a2]
        · intro j hjk
          cases j with
          | zero => simp [gvF]
          | succ j =>
            rw [List.take_succ_cons, gvF, if_neg q1, if_pos q2]
            exact hj j (by omega)
      · rw [if_neg q2] at h ⊢
        by_cases q3 : c = 0 ∧ 0 < i
        · rw [if_pos q3] at h; simp at h
        · rw [if_neg q3]
          refine ⟨1, c, rfl, by omega, by simp, by omega, by omega, ?_, by omega, ?_, ?_⟩
          · rcases Nat.lt_or_ge i 9 with h8 | h8
            · have hle : c * 128 ^ i ≤ 127 * 128 ^ i := Int.mul_le_mul_of_nonneg_right (by omega) (by omega)
              have hm : (128 : Int) ^ i ≤ 128 ^ 8 := pow_up (by omega)
              have h8' : (128 : Int) ^ 8 = 72057594037927936 := by decide
              omega
            · obtain rfl : i = 9 := by omega
              rw [h9]
              have : c ≤ 1 := by omega
              omega
          · rw [List.take_succ_cons, List.take_zero]
            generalize 9 - i = f
            cases f with
            | zero => rfl
            | succ f => rw [vdF, if_pos (by omega)]
          · intro j hj
            obtain rfl : j = 0 := by omega
            simp [gvF]
theorem gv_only (b : List Int) (hb : Byt b) (h : (gv b).2.2 = 0) :
    ∃ (k : Nat) (u : Int), gv b = (u, (k : Int), 0) ∧ 1 ≤ k ∧ k ≤ b.length ∧ k ≤ 10 ∧ 0 ≤ u ∧ u ≤ 18446744073709551615 ∧ b.take k = vd u ∧ ∀ j, j < k → gv (b.take j) = (0, 0, 6) := by
  obtain ⟨k, u, hk, k1, k2, k3, u0, u1, _, ht, hj⟩ := gvF_only b 0 0 hb (by omega) h
  exact ⟨k, u, by unfold gv; rw [hk]; simp, k1, k2, by omega, u0, by simpa using u1, ht, hj⟩
/-- Where there is an error, nothing else is told. -/
theorem gvF_err : ∀ (b : List Int) (i : Nat) (acc : Int), (gvF i acc b).2.2 = 0 ∨ gvF i acc b = (0, 0, 6) ∨ gvF i acc b = (0, 0, 7) := by
  intro b
  induction b with
  | nil => intro i acc; exact .inr (.inl rfl)
  | cons c r ih =>
    intro i acc
    rw [gvF]
    split
    · exact .inr (.inr rfl)
    · split
      · exact ih _ _
      · split
        · exact .inr (.inr rfl)
        · exact .inl rfl
theorem gv_err (b : List Int) : (gv b).2.2 = 0 ∨ gv b = (0, 0, 6) ∨ gv b = (0, 0, 7) := gvF_err b 0 0
end Nm
end Go.Proofs.Ytljgalleiemaaaa
namespace Go.Proofs.Ytljgalleiemaaaa
set_option maxRecDepth 20000
namespace Fr

/-- One step of the register. -/
def st (r : Nat) : Nat := if r % 2 = 1 then (r / 2) ^^^ 3988292384 else r / 2
/-- n steps. -/
def stN : Nat → Nat → Nat
  | 0, r => r
  | n + 1, r => stN n (st r)
/-- The register behind one byte more. -/
def bt (r c : Nat) : Nat := stN 8 (r ^^^ c)
/-- The register behind the bytes b. -/
def reg (r : Nat) (b : List Int) : Nat := b.foldl (fun r c => bt r c.toNat) r
/-- The checksum. -/
def sum (b : List Int) : Nat := 4294967295 - reg 4294967295 b
/-- A number of 32 bits as four bytes, the least first. -/
def le4 (n : Nat) : List Int := [((n % 256 : Nat) : Int), ((n / 256 % 256 : Nat) : Int), ((n / 65536 % 256 : Nat) : Int), ((n / 16777216 % 256 : Nat) : Int)]

theorem xor_div (a b : Nat) : (a ^^^ b) / 2 = a / 2 ^^^ b / 2 := by
  have := Nat.shiftRight_xor_distrib (a := a) (b := b) (i := 1)
  simpa [Nat.shiftRight_eq_div_pow] using this
theorem xor_mod (a b : Nat) : (a ^^^ b) % 2 = (a + b) % 2 := by
  have h : (a ^^^ b).testBit 0 = (a.testBit 0 ^^ b.testBit 0) := Nat.testBit_xor ..
  simp only [Nat.testBit_zero] at h
  generalize a ^^^ b = c at h ⊢
  rcases Nat.mod_two_eq_zero_or_one a with p | p <;> rcases Nat.mod_two_eq_zero_or_one b with q | q <;> rcases Nat.mod_two_eq_zero_or_one c with z | z <;> simp [p, q, z] at h <;> omega
theorem xor_lt {n a b : Nat} (ha : a < 2 ^ n) (hb : b < 2 ^ n) : a ^^^ b < 2 ^ n := Nat.xor_lt_two_pow ha hb
theorem xor4 (a b c d : Nat) : (a ^^^ b) ^^^ (c ^^^ d) = (a ^^^ c) ^^^ (b ^^^ d) := by
  rw [Nat.xor_assoc, Nat.xor_assoc, ← Nat.xor_assoc b c d, Nat.xor_comm b c, Nat.xor_assoc c b d]

theorem st_xor (a b : Nat) : st (a ^^^ b) = st a ^^^ st b := by
  have hd := xor_div a b
  have hm := xor_mod a b
  unfold st
  by_cases h1 : a % 2 = 1 <;> by_cases h2 : b % 2 = 1
  · rw [if_neg (by omega), if_pos h1, if_pos h2, hd, xor4, Nat.xor_self, Nat.xor_zero]
  · rw [if_pos (by omega), if_pos h1, if_neg h2, hd, Nat.xor_assoc, Nat.xor_assoc, Nat.xor_comm (b / 2)]
  · rw [if_pos (by omega), if_neg h1, if_pos h2, hd, Nat.xor_assoc]
  · rw [if_neg (by omega), if_neg h1, if_neg h2, hd]
theorem stN_xor (n : Nat) : ∀ a b, stN n (a ^^^ b) = stN n a ^^^ stN n b := by
  induction n with
  | zero => intro a b; rfl
  | succ n ih => intro a b; rw [stN, st_xor, ih]; rfl
theorem st_zero : st 0 = 0 := by decide
theorem stN_zero (n : Nat) : stN n 0 = 0 := by
  induction n with
  | zero => rfl
  | succ n ih => rw [stN, st_zero, ih]
theorem stN_add (m : Nat) : ∀ n r, stN (m + n) r = stN n (stN m r) := by
  induction m with
  | zero => intro n r; rw [Nat.zero_add]; rfl
  | succ m ih => intro n r; rw [show m + 1 + n = (m + n) + 1 by omega, stN, ih]; rfl
theorem stN_snoc (n r : Nat) : stN (n + 1) r = st (stN n r) := by rw [stN_add n 1]; rfl
theorem st_lt {r : Nat} (h : r < 2 ^ 32) : st r < 2 ^ 32 := by
  unfold st
  split
  · exact xor_lt (by omega) (by decide)
  · omega
theorem stN_lt (n : Nat) : ∀ {r : Nat}, r < 2 ^ 32 → stN n r < 2 ^ 32 := by
  induction n with
  | zero => intro r h; exact h
  | succ n ih => intro r h; exact ih (st_lt h)
/-- Nothing is lost: the highest bit of the register tells whether the polynomial was taken. -/
theorem st_inj0 {r : Nat} (h : r < 2 ^ 32) (h0 : st r = 0) : r = 0 := by
  unfold st at h0
  split at h0
  · rename_i q
    have e : r / 2 = 3988292384 := by
      have := congrArg (· ^^^ 3988292384) h0
      simpa [Nat.xor_assoc] using this
    omega
  · omega
theorem stN_inj0 (n : Nat) : ∀ {r : Nat}, r < 2 ^ 32 → stN n r = 0 → r = 0 := by
  induction n with
  | zero => intro r _ h; exact h
  | succ n ih => intro r h h0; exact st_inj0 h (ih (st_lt h) h0)

/-- Eight steps of a number whose low 8 bits are 0 shift it. -/
theorem stN_up (n : Nat) : ∀ k, stN n (k * 2 ^ n) = k := by
  induction n with
  | zero => intro k; simp [stN]
  | succ n ih =>
    intro k
    rw [stN]
    have e : k * 2 ^ (n + 1) = 2 * (k * 2 ^ n) := by rw [Nat.pow_succ]; rw [← Nat.mul_assoc, Nat.mul_comm]
    have : st (k * 2 ^ (n + 1)) = k * 2 ^ n := by
      unfold st
      rw [e, if_neg (by omega)]
      omega
    rw [this, ih]
theorem xor_split (r : Nat) : r = (r / 256 * 256) ^^^ (r % 256) := by
  refine Nat.eq_of_testBit_eq fun i => ?_
  rw [Nat.testBit_xor]
  have e1 : r / 256 * 256 = 2 ^ 8 * (r / 256) := by omega
  have e2 : r % 256 = r % 2 ^ 8 := rfl
  rw [e1, Nat.testBit_two_pow_mul, e2, Nat.testBit_mod_two_pow]
  by_cases hi : 8 ≤ i
  · have : r / 256 = r >>> 8 := by rw [Nat.shiftRight_eq_div_pow]
    rw [this, Nat.testBit_shiftRight]
    simp [hi, show ¬ i < 8 by omega, show 8 + (i - 8) = i by omega]
  · simp [hi, show i < 8 by omega]
/-- A byte at a time, by the effect of eight steps. -/
theorem bt_tab (r c : Nat) : bt r c = r / 256 ^^^ stN 8 (r % 256 ^^^ c) := by
  unfold bt
  have e : r ^^^ c = (r / 256 * 2 ^ 8) ^^^ (r % 256 ^^^ c) := by
    have h := xor_split r
    rw [← Nat.xor_assoc]
    exact congrArg (· ^^^ c) h
  rw [e, stN_xor, stN_up]
theorem bt_lt {r c : Nat} (hr : r < 2 ^ 32) (hc : c < 2 ^ 32) : bt r c < 2 ^ 32 := stN_lt 8 (xor_lt hr hc)

theorem reg_nil (r : Nat) : reg r [] = r := rfl
theorem reg_cons (r : Nat) (c : Int) (b : List Int) : reg r (c :: b) = reg (bt r c.toNat) b := rfl
theorem reg_app (r : Nat) (a b : List Int) : reg r (a ++ b) = reg (reg r a) b := by simp [reg]
theorem reg_snoc (r : Nat) (a : List Int) (c : Int) : reg r (a ++ [c]) = bt (reg r a) c.toNat := by simp [reg]
theorem reg_lt : ∀ (b : List Int) {r : Nat}, Nm.Byt b → r < 2 ^ 32 → reg r b < 2 ^ 32
  | [], _, _, h => h
  | c :: b, r, hb, h => by
    have hc := hb c (by simp)
    exact reg_lt b (fun x hx => hb x (by simp [hx])) (bt_lt h (by omega))
theorem ones_xor (x : Nat) (h : x < 2 ^ 32) : x ^^^ 4294967295 = 4294967295 - x := by
  have e : x ^^^ (2 ^ 32 - 1) = ((BitVec.ofNat 32 x) ^^^ (BitVec.allOnes 32)).toNat := by
    rw [BitVec.toNat_xor, BitVec.toNat_allOnes, BitVec.toNat_ofNat, Nat.mod_eq_of_lt h]
  have e2 : (2 ^ 32 - 1 : Nat) = 4294967295 := by decide
  rw [← e2, e, BitVec.xor_allOnes, BitVec.toNat_not, BitVec.toNat_ofNat, Nat.mod_eq_of_lt h]
theorem sum_xor (b : List Int) (hb : Nm.Byt b) : sum b = reg 4294967295 b ^^^ 4294967295 := (ones_xor _ (reg_lt b hb (by decide))).symm
theorem sum_lt (b : List Int) : sum b < 2 ^ 32 := by unfold sum; omega

/-- The register is linear: of bytes and of what it began with. -/
theorem reg_xor : ∀ (a b c : List Int) (r s : Nat), a.length = b.length → c.length = a.length → (∀ j, j < a.length → (c.getD j 0).toNat = (a.getD j 0).toNat ^^^ (b.getD j 0).toNat) → reg (r ^^^ s) c = reg r a ^^^ reg s b
  | [], [], [], r, s, _, _, _ => rfl
  | [], _ :: _, _, _, _, h, _, _ => by simp at h
  | _ :: _, [], _, _, _, h, _, _ => by simp at h
  | [], [], _ :: _, _, _, _, h, _ => by simp at h
  | _ :: _, _ :: _, [], _, _, _, h, _ => by simp at h
  | x :: a, y :: b, z :: c, r, s, h1, h2, h3 => by
    have h0 := h3 0 (by simp)
    simp at h0
    rw [reg_cons, reg_cons, reg_cons]
    have e : bt (r ^^^ s) z.toNat = bt r x.toNat ^^^ bt s y.toNat := by
      unfold bt
      rw [h0, xor4, stN_xor]
    rw [e]
    refine reg_xor a b c _ _ (by simpa using h1) (by simpa using h2) fun j hj => ?_
    have := h3 (j + 1) (by simp; omega)
    simpa using this
end Fr
end Go.Proofs.Ytljgalleiemaaaa
