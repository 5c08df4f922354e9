/- What is kept while other blocks turn: blocks known whole, rows, maps; a world where nothing but given blocks has turned. What the statements of layer 8 ask of a dictionary in memory: contracts of its methods, as one word; the chapter's example. What cmp.Compare does at numbers, texts and bytes, and cmp.Or. What value.Order does. -/
import Derived.Maps.AppendAt
import Derived.Maps.Own
import Derived.Maps.Views
import Derived.WalkLawsBesides
import Derived.WalkSpells
import Derived.BigRegion
import Derived.Deep.RegionHeld3
import Derived.Deep.RegionWith
import Derived.Deep.DeepCutAuto
import Derived.StillTailTactics
import Derived.BigQuiet
import Derived.Deep.QuietTactic
import Derived.Test.YtnhgijlhnamolaaGreatDoorProg
import Derived.Test.YtnhgijlhnamolaaGreatDoorPk07
import Derived.Test.YtnhgijlhnamolaaGreatDoorPk10
import Derived.Test.YtnhgijlhnamolaaGreatDoorPk11
import Derived.Test.YtnhgijlhnamolaaGreatDoorPk08
namespace Go.Proofs.YtnhgijlhnamolaaGreatDoor
set_option maxRecDepth 20000
open Go.RowKit Go.Maps
namespace Wd
section
variable {w w' : World} {g : Nat} {t : TypeId} {cs : Array Value}
theorem Bx.set (h : Bx w g t cs) (j : Nat) (u : Value) : Bx (w.setCell ⟨g, j, none⟩ u) g t (cs.setIfInBounds j u) := by
  unfold Bx
  rw [heap_setCell_same w g j cs t _ h]
theorem Bx.other (h : Bx w g t cs) {a : Addr} (ha : g ≠ a.block) (u : Value) : Bx (w.setCell a u) g t cs := by
  unfold Bx
  rw [heap_setCell_other w a g u ha]
  exact h
theorem Bx.drew (h : Bx w g t cs) : Bx w.drew g t cs := h
theorem Bx.at_ (h : Bx w g t cs) (e : w'.heap[g]? = w.heap[g]?) : Bx w' g t cs := e.trans h
theorem own_keep {B : Nat} {e : TypeId} {size n : Nat} {v : Value} {xs : List Value} (h : w.ownsRow B e size v n xs) (hk : ∀ x, v.ownBlock = some x → w'.heap[x]? = w.heap[x]?) : w'.ownsRow B e size v n xs := by
  obtain ⟨h1, h2⟩ := h
  refine ⟨h1, ?_⟩
  rcases h2 with h2 | ⟨g, cap, cur, hv, hg, hh, r⟩
  · exact .inl h2
  · exact .inr ⟨g, cap, cur, hv, hg, by rw [hk g (by rw [hv]; rfl)]; exact hh, r⟩
theorem own_lt {B : Nat} {e : TypeId} {size n : Nat} {v : Value} {xs : List Value} (h : w.ownsRow B e size v n xs) {x : Nat} (hx : v.ownBlock = some x) : x < w.heap.size ∧ B ≤ x ∧ ∃ cur, w.heap[x]? = some (.cells cur e (0, 0)) := by
  rcases h.2 with ⟨rfl, _⟩ | ⟨g, cap, cur, rfl, hg, hh, r⟩
  · simp [Value.ownBlock] at hx
  · have : g = x := by simpa [Value.ownBlock] using hx
    subst this
    exact ⟨lt_of_block hh, hg, cur, hh⟩
/-- The cut 'v[:k]' of a row of the call's own. -/
theorem own_head {B : Nat} {e : TypeId} {A : Option Addr} {n c k : Nat} {xs : List Value} (h : w.ownsRow B e 1 (.slice A n c) n xs) (hk : k ≤ n) : w.ownsRow B e 1 (.slice A k c) k (xs.take k) := by
  obtain ⟨h1, h2⟩ := h
  refine ⟨by simp; omega, ?_⟩
  rcases h2 with ⟨h2, h3⟩ | ⟨g, cap, cur, hv, hg, hh, r1, r2, r3, r4⟩
  · subst h3
    obtain rfl : k = 0 := by omega
    exact .inl ⟨h2, rfl⟩
  · simp only [Value.slice.injEq, true_and] at hv
    obtain ⟨rfl, rfl⟩ := hv
    refine .inr ⟨g, _, cur, rfl, hg, hh, by omega, r2, r3, ?_⟩
    rw [← r4, List.take_take]
    congr 1
    omega
theorem map_keep {H : Type} {P : Program} {k : TypeId} {R : Value → Option (DataW H × List MemPlace)} {b n : Nat} {D : DataW H} (h : w.ownsMap P k R b n D) (e : w'.heap[b]? = w.heap[b]?) : w'.ownsMap P k R b n D := by
  obtain ⟨es, clock, hb, r⟩ := h
  exact ⟨es, clock, e.trans hb, r⟩
/-- As tight as may be. -/
theorem map_tight {H : Type} {P : Program} {k : TypeId} {R : Value → Option (DataW H × List MemPlace)} {b n : Nat} {D : DataW H} (h : w.ownsMap P k R b n D) : w.ownsMap P k R b (Maps.size D) D := by
  obtain ⟨es, clock, hb, F, hs, rfl⟩ := h
  exact ⟨es, clock, hb, F, by simp [Maps.size, length_sorted], rfl⟩
end

/-- Nothing but the blocks of G has turned, and there may be new ones. -/
structure Mv (G : Nat → Prop) (w w' : World) : Prop where
  os : w'.os = w.os
  tape : w'.tape = w.tape
  output : w'.output = w.output
  size : w.heap.size ≤ w'.heap.size
  keep : ∀ g, g < w.heap.size → ¬ G g → w'.heap[g]? = w.heap[g]?
/-- G, and what is new. -/
def Gr (G : Nat → Prop) (w w' : World) (g : Nat) : Prop := G g ∨ (w.heap.size ≤ g ∧ g < w'.heap.size)
section
variable {G : Nat → Prop} {w w' w'' : World} {B : Nat}
theorem Mv.refl (G : Nat → Prop) (w : World) : Mv G w w := ⟨rfl, rfl, rfl, Nat.le_refl _, fun _ _ _ => rfl⟩
theorem Mv.mono {G' : Nat → Prop} (h : Mv G w w') (hG : ∀ g, G g → G' g) : Mv G' w w' := ⟨h.os, h.tape, h.output, h.size, fun g hg hn => h.keep g hg (fun k => hn (hG g k))⟩
theorem Mv.trans (h : Mv G w w') (k : Mv (Gr G w w') w' w'') : Mv G w w'' :=
  ⟨k.os.trans h.os, k.tape.trans h.tape, k.output.trans h.output, Nat.le_trans h.size k.size, fun g hg hn =>
    (k.keep g (Nat.lt_of_lt_of_le hg h.size) (fun q => by rcases q with q | q; exact hn q; omega)).trans (h.keep g hg hn)⟩
theorem Mv.then (h : Mv G w w') (k : Mv G w' w'') : Mv G w w'' := h.trans (k.mono fun _ hg => .inl hg)
theorem Gr.trans (h : w.heap.size ≤ w'.heap.size) (k : w'.heap.size ≤ w''.heap.size) (g : Nat) : Gr (Gr G w w') w' w'' g ↔ Gr G w w'' g := by
  unfold Gr
  constructor
  · rintro ((q | q) | q)
    · exact .inl q
    · exact .inr (by omega)
    · exact .inr (by omega)
  · rintro (q | q)
    · exact .inl (.inl q)
    · by_cases e : g < w'.heap.size
      · exact .inl (.inr (by omega))
      · exact .inr (by omega)
theorem Gr.eq (h : w.heap.size ≤ w'.heap.size) (k : w'.heap.size ≤ w''.heap.size) : Gr (Gr G w w') w' w'' = Gr G w w'' := funext fun g => propext (Gr.trans h k g)
theorem Mv.of_below (h : Below w.heap.size w w') : Mv G w w' := ⟨h.os, h.tape, h.output, h.size, fun g hg _ => h.block g hg⟩
theorem Mv.of_grown {row : Option Nat} (h : w.grownBy w' row) (hr : ∀ g, row = some g → G g) : Mv G w w' :=
  ⟨h.os, h.tape, h.output, h.size, fun g hg hn => h.block g hg (fun e => hn (hr g e.symm))⟩
theorem Mv.below (h : Mv G w w') (hG : ∀ g, G g → B ≤ g) (hB : B ≤ w.heap.size) : Below B w w' :=
  ⟨h.os, h.tape, h.output, h.size, fun g hg => h.keep g (by omega) (fun k => by have := hG g k; omega)⟩
theorem Mv.alloc (h : Mv G w w') (o : Obj) : Mv G w (w'.alloc o) := h.then (Mv.of_grown (World.grownBy_alloc w' o none) (by simp))
theorem Mv.set (h : Mv G w w') {a : Addr} (ha : G a.block) (u : Value) : Mv G w (w'.setCell a u) :=
  h.then ⟨rfl, rfl, rfl, by simp [World.setCell], fun g hg hn => Below.heap_setCell _ _ _ _ (fun e => hn (e ▸ ha))⟩
theorem Mv.drew (h : Mv G w w') : Mv G w w'.drew := ⟨h.os, h.tape, h.output, h.size, h.keep⟩
theorem Gr.ge (hG : ∀ g, G g → B ≤ g) (hB : B ≤ w.heap.size) : ∀ g, Gr G w w' g → B ≤ g := by
  rintro g (q | q)
  · exact hG g q
  · omega
theorem Gr.lt (hG : ∀ g, G g → g < w.heap.size) (h : w.heap.size ≤ w'.heap.size) : ∀ g, Gr G w w' g → g < w'.heap.size := by
  rintro g (q | q)
  · exact Nat.lt_of_lt_of_le (hG g q) h
  · exact q.2
end
end Wd
end Go.Proofs.YtnhgijlhnamolaaGreatDoor
namespace Go.Proofs.YtnhgijlhnamolaaGreatDoor
set_option maxRecDepth 20000
open Go.RowKit
namespace Dx
open Va (Vl May ord null)
open Sc (tr tr_yes tr_no tr_iff)
open Dc
/-- A value as the machine holds it. -/
def ag (v : Vl) : Value := .agg #[.int .i64 v.kind, .int .i64 v.i, .string v.s, .bool v.b]
/-- Values whose numbers are the machine's, and whose texts are no longer than any. -/
def Okv (v : Vl) : Prop := Wd.V1 v ∧ v.s.size ≤ maxLen
variable {D : World → Nat → List Vl → Int → (Nat → Prop) → Prop}
end Dx
end Go.Proofs.YtnhgijlhnamolaaGreatDoor
namespace Go.Proofs.YtnhgijlhnamolaaGreatDoor
set_option maxRecDepth 20000
open Go.RowKit
namespace Vc
open Va
theorem nanI_any (x : Int) (w : World) :
    Calls Tryz.prog 86 #[.int .i64 x] w fun e w' => e = .returned (.bool false) ∧ w' = w := by
  go_enter Tryz.func86, Tryz.ntmps86
  go_wp2_with fail
  go_ret
  exact ⟨by simp, rfl⟩
theorem nanB_any (x : Int) (w : World) :
    Calls Tryz.prog 88 #[.int .u8 x] w fun e w' => e = .returned (.bool false) ∧ w' = w := by
  go_enter Tryz.func88, Tryz.ntmps88
  go_wp2_with fail
  go_ret
  exact ⟨by simp, rfl⟩
theorem nanS_any (x : ByteArray) (w : World) :
    Calls Tryz.prog 87 #[.string x] w fun e w' => e = .returned (.bool false) ∧ w' = w := by
  go_enter Tryz.func87, Tryz.ntmps87
  go_wp2_with fail
  go_ret
  exact ⟨by simp, rfl⟩
theorem cmpI_any (x y : Int) (w : World) :
    Calls Tryz.prog 78 #[.int .i64 x, .int .i64 y] w fun e w' => e = .returned (.int .i64 (cmpI x y)) ∧ w' = w := by
  have n1 := nanI_any x w
  have n2 := nanI_any y w
  by_cases h1 : x < y
  · have e : cmpI x y = -1 := by unfold cmpI; simp [h1, way]
    rw [e]
    go_enter Tryz.func78, Tryz.ntmps78
    go_wp2_with fail
    refine n1.mono ?_
    rintro _ _ ⟨rfl, rfl⟩
    go_wp2_with fail
    refine n2.mono ?_
    rintro _ _ ⟨rfl, rfl⟩
    go_wp2_with fail
    go_ret
    exact ⟨rfl, rfl⟩
  by_cases h2 : y < x
  · have e : cmpI x y = 1 := by unfold cmpI; simp [h1, h2, way]
    rw [e]
    go_enter Tryz.func78, Tryz.ntmps78
    go_wp2_with fail
    refine n1.mono ?_
    rintro _ _ ⟨rfl, rfl⟩
    go_wp2_with fail
    refine n2.mono ?_
    rintro _ _ ⟨rfl, rfl⟩
    go_wp2_with fail
    go_ret
    exact ⟨rfl, rfl⟩
  · have e : cmpI x y = 0 := by unfold cmpI; simp [h1, h2, way]
    rw [e]
    go_enter Tryz.func78, Tryz.ntmps78
    go_wp2_with fail
    refine n1.mono ?_
    rintro _ _ ⟨rfl, rfl⟩
    go_wp2_with fail
    refine n2.mono ?_
    rintro _ _ ⟨rfl, rfl⟩
    go_wp2_with fail
    go_ret
    exact ⟨rfl, rfl⟩
theorem cmpD_any (x y : Int) (w : World) :
    Calls Tryz.prog 80 #[.int .u8 x, .int .u8 y] w fun e w' => e = .returned (.int .i64 (cmpI x y)) ∧ w' = w := by
  have n1 := nanB_any x w
  have n2 := nanB_any y w
  by_cases h1 : x < y
  · have e : cmpI x y = -1 := by unfold cmpI; simp [h1, way]
    rw [e]
    go_enter Tryz.func80, Tryz.ntmps80
    go_wp2_with fail
    refine n1.mono ?_
    rintro _ _ ⟨rfl, rfl⟩
    go_wp2_with fail
    refine n2.mono ?_
    rintro _ _ ⟨rfl, rfl⟩
    go_wp2_with fail
    go_ret
    exact ⟨rfl, rfl⟩
  by_cases h2 : y < x
  · have e : cmpI x y = 1 := by unfold cmpI; simp [h1, h2, way]
    rw [e]
    go_enter Tryz.func80, Tryz.ntmps80
    go_wp2_with fail
    refine n1.mono ?_
    rintro _ _ ⟨rfl, rfl⟩
    go_wp2_with fail
    refine n2.mono ?_
    rintro _ _ ⟨rfl, rfl⟩
    go_wp2_with fail
    go_ret
    exact ⟨rfl, rfl⟩
  · have e : cmpI x y = 0 := by unfold cmpI; simp [h1, h2, way]
    rw [e]
    go_enter Tryz.func80, Tryz.ntmps80
    go_wp2_with fail
    refine n1.mono ?_
    rintro _ _ ⟨rfl, rfl⟩
    go_wp2_with fail
    refine n2.mono ?_
    rintro _ _ ⟨rfl, rfl⟩
    go_wp2_with fail
    go_ret
    exact ⟨rfl, rfl⟩
theorem cmpS_any (x y : ByteArray) (w : World) :
    Calls Tryz.prog 79 #[.string x, .string y] w fun e w' => e = .returned (.int .i64 (cmpS x y)) ∧ w' = w := by
  have n1 := nanS_any x w
  have n2 := nanS_any y w
  cases h1 : bef x y
  case true =>
    have e : cmpS x y = -1 := by unfold cmpS; simp [h1, way]
    have g1 : Op.bytesLess x.toList y.toList = true := h1
    rw [e]
    go_enter Tryz.func79, Tryz.ntmps79
    go_wp2_with fail
    refine n1.mono ?_
    rintro _ _ ⟨rfl, rfl⟩
    go_wp2_with fail
    refine n2.mono ?_
    rintro _ _ ⟨rfl, rfl⟩
    go_wp2_with fail
    go_ret
    exact ⟨rfl, rfl⟩
  cases h2 : bef y x
  case true =>
    have e : cmpS x y = 1 := by unfold cmpS; simp [h1, h2, way]
    have g1 : Op.bytesLess x.toList y.toList = false := h1
    have g2 : Op.bytesLess y.toList x.toList = true := h2
    have ne : ¬ x = y := fun q => by rw [q, bef_irrefl] at h2; cases h2
    have g3 : (x.toList == y.toList) = false := by
      rw [ByteArray.toList_eq, ByteArray.toList_eq]
      simpa using fun q => ne (WideShapes.bytes_inj q)
    clear h1 h2 ne
    rw [e]
    go_enter Tryz.func79, Tryz.ntmps79
    go_wp2_with fail
    refine n1.mono ?_
    rintro _ _ ⟨rfl, rfl⟩
    go_wp2_with fail
    refine n2.mono ?_
    rintro _ _ ⟨rfl, rfl⟩
    go_wp2_with fail
    go_ret
    exact ⟨rfl, rfl⟩
  case false =>
    have e : cmpS x y = 0 := by unfold cmpS; simp [h1, h2, way]
    have g0 : x = y := by
      by_cases q : x = y
      · exact q
      · rcases bef_total q with p | p
        · rw [p] at h1; cases h1
        · rw [p] at h2; cases h2
    subst g0
    have g1 : Op.bytesLess x.toList x.toList = false := h1
    have g3 : (x.toList == x.toList) = true := by simp
    clear h1 h2
    rw [e]
    go_enter Tryz.func79, Tryz.ntmps79
    go_wp2_with fail
    refine n1.mono ?_
    rintro _ _ ⟨rfl, rfl⟩
    go_wp2_with fail
    refine n2.mono ?_
    rintro _ _ ⟨rfl, rfl⟩
    go_wp2_with fail
    go_ret
    exact ⟨rfl, rfl⟩
/-- The first of some numbers that is not zero. -/
def fstN : List Int → Int
  | [] => 0
  | x :: r => if x = 0 then fstN r else x
theorem fstN_drop (l : List Int) (k : Nat) (h : k < l.length) : fstN (l.drop k) = if l.getD k 0 = 0 then fstN (l.drop (k + 1)) else l.getD k 0 := by
  rw [List.drop_eq_getElem_cons h, fstN]
  simp [List.getD, List.getElem?_eq_getElem h]
theorem or_any (A : Option Addr) (n c : Nat) (l : List Int) (w : World) (hS : Wd.Sl w .i64 A n c l) (hm : n ≤ 1000000) :
    Calls Tryz.prog 77 #[.slice A n c] w fun e w' => e = .returned (.int .i64 (fstN l)) ∧ w' = w := by
  have Hl := Lib.hid hS.len
  have hcap := hS.cap
  obtain ⟨z, hz⟩ : ∃ z, z = fstN l := ⟨_, rfl⟩
  rw [← hz]
  have Hz := Lib.hid hz
  clear hz
  go_enter Tryz.func77, Tryz.ntmps77
  go_wp2
  go_loopw [5, 8] (fun _ i wr => ∃ k : Nat, i = .int .i64 k ∧ k ≤ n ∧ Hid (fstN (l.drop k) = z) ∧ wr = w) (fun _ i _ => n - (intOf i).toNat)
  case atStart => exact ⟨0, rfl, Nat.zero_le _, Lib.hid (by rw [Hz.out]; rfl), rfl⟩
  case round =>
    obtain ⟨k, rfl, hk, hf, rfl⟩ := hrel
    by_cases hlt : k < n
    · obtain ⟨b, o, rfl, hbB, hcell⟩ := hS.rd k (by rw [← Hl.out]; exact hlt)
      have hst := fstN_drop l k (by rw [← Hl.out]; exact hlt)
      rw [hf.out] at hst
      obtain ⟨x, hx⟩ : ∃ x, x = l.getD k 0 := ⟨_, rfl⟩
      rw [← hx] at hcell hst
      have Hx := Lib.hid hst
      clear hst hx hf
      by_cases h0 : x = 0
      · go_wp2_with fail
        go_roundw
        case rel => exact ⟨k + 1, by go_num, by omega, Lib.hid (by rw [Hx.out, if_pos h0]), by first | rfl | trivial⟩
        case measure => simp [intOf]; omega
      · go_wp2_with fail
        go_ret
        exact ⟨by rw [Hx.out, if_neg h0]; rfl, rfl⟩
    · have hkI : ¬ (k : Int) < n := by omega
      have e : z = 0 := by
        rw [← hf.out, List.drop_of_length_le (by rw [← Hl.out]; omega)]
        rfl
      have He := Lib.hid e
      clear e
      go_wp2_with fail
      go_ret
      exact ⟨by rw [He.out]; rfl, rfl⟩
end Vc
end Go.Proofs.YtnhgijlhnamolaaGreatDoor
namespace Go.Proofs.YtnhgijlhnamolaaGreatDoor
set_option maxRecDepth 20000
open Go.RowKit
namespace Vc
open Va
theorem ord_own (k i : Int) (s : ByteArray) (b : Bool) (k' i' : Int) (s' : ByteArray) (b' : Bool) :
    fstN [cmpI k k', cmpI (ownI k i) (ownI k' i'), cmpS (ownS k s) (ownS k' s'), cmpI (dg (ownB k b)) (dg (ownB k' b'))] = ord ⟨k, i, s, b⟩ ⟨k', i', s', b'⟩ := by
  have zI : cmpI 0 0 = 0 := cmpI_zero.2 rfl
  have zS : cmpS ⟨#[]⟩ ⟨#[]⟩ = 0 := cmpS_zero.2 rfl
  by_cases e : k = k'
  · subst e
    rw [ord_same (a := ⟨k, i, s, b⟩) (b := ⟨k, i', s', b'⟩) rfl]
    unfold ownI ownS ownB dg
    have zk : cmpI k k = 0 := by unfold cmpI; simp [way]
    by_cases h1 : k = 1
    · subst h1
      simp [fstN, zI, zS, zk]
      intro h; exact h.symm
    by_cases h2 : k = 2
    · subst h2
      simp [fstN, zI, zk]
      intro h; exact h.symm
    by_cases h3 : k = 3
    · subst h3
      simp [fstN, zI, zS, zk]
      cases b <;> cases b' <;> decide
    · simp [fstN, zI, zS, zk, h1, h2, h3]
  · unfold ord
    by_cases h : k < k'
    · have : cmpI k k' = -1 := by unfold cmpI; simp [h, way]
      simp [fstN, this, h]
    · have h' : k' < k := by omega
      have : cmpI k k' = 1 := by unfold cmpI; simp [h, h', way]
      simp [fstN, this, h, h']

set_option maxHeartbeats 2000000 in
theorem order_any (k i : Int) (s : ByteArray) (b : Bool) (k' i' : Int) (s' : ByteArray) (b' : Bool) (w : World) :
    Calls Tryz.prog 64 #[.agg #[.int .i64 k, .int .i64 i, .string s, .bool b], .agg #[.int .i64 k', .int .i64 i', .string s', .bool b']] w fun e w' => e = .returned (.int .i64 (ord ⟨k, i, s, b⟩ ⟨k', i', s', b'⟩)) ∧ Below w.heap.size w w' := by
  have Co := Lib.hid own_any
  go_enter Tryz.func64, Tryz.ntmps64
  go_wp2_with fail
  have hb0 : Below w.heap.size w ((w.alloc (.cells #[.int .i64 k, .int .i64 i, .string s, .bool b] 34)).alloc (.cells #[.int .i64 k', .int .i64 i', .string s', .bool b'] 34)) := ((Below.refl _ _).alloc (Nat.le_refl _) _).alloc (by simp) _
  have hz0 : ((w.alloc (.cells #[.int .i64 k, .int .i64 i, .string s, .bool b] 34)).alloc (.cells #[.int .i64 k', .int .i64 i', .string s', .bool b'] 34)).heap.size = w.heap.size + 1 + 1 := by simp
  have v0 : Vb ((w.alloc (.cells #[.int .i64 k, .int .i64 i, .string s, .bool b] 34)).alloc (.cells #[.int .i64 k', .int .i64 i', .string s', .bool b'] 34)) w.heap.size k i s b := (Wd.Bx.new w _ _).alloc _
  have v1 : Vb ((w.alloc (.cells #[.int .i64 k, .int .i64 i, .string s, .bool b] 34)).alloc (.cells #[.int .i64 k', .int .i64 i', .string s', .bool b'] 34)) (w.heap.size + 1) k' i' s' b' := by
    have := Wd.Bx.new (w.alloc (.cells #[.int .i64 k, .int .i64 i, .string s, .bool b] 34)) 34 #[.int .i64 k', .int .i64 i', .string s', .bool b']
    simpa [Vb] using this
  generalize (w.alloc (.cells #[.int .i64 k, .int .i64 i, .string s, .bool b] 34)).alloc (.cells #[.int .i64 k', .int .i64 i', .string s', .bool b'] 34) = w1 at *
  go_cut [] (fun wx => Vb wx w.heap.size k (ownI k i) (ownS k s) (ownB k b) ∧ Vb wx (w.heap.size + 1) k' (ownI k' i') (ownS k' s') (ownB k' b') ∧ Below w.heap.size w wx)
  case first =>
    obtain ⟨⟨u0, u1, u2, u3⟩, -⟩ := four v0
    obtain ⟨⟨u4, u5, u6, u7⟩, -⟩ := four v1
    have tok1 : True := trivial
    have hl0 : w.heap.size < w1.heap.size := by omega
    have hl1 : w.heap.size + 1 < w1.heap.size := by omega
    go_region_with (first | (go_at_call 71; (with_reducible refine (Co.out _ _ _ _ _).mono ?_); have _t := tok1; clear tok1; rintro e w2 ⟨rfl, hB2⟩; have hb2 : Below w1.heap.size w1 w2 := Wd.of_drew hB2; have hz2 := hb2.size; obtain ⟨⟨_, _, _, _⟩, -⟩ := four (Wd.Bx.below v1 hl1 hb2)) | (go_at_call 71; (with_reducible refine (Co.out _ _ _ _ _).mono ?_); rintro e w3 ⟨rfl, hB3⟩; have hb3 : Below w1.heap.size w1 w3 := hb2.trans (hB3.mono hz2); have x0 := Wd.Bx.below v0 hl0 hb3; have x1 := Wd.Bx.below v1 hl1 hb3; obtain ⟨⟨_, _, _, _⟩, _, _, _, _⟩ := four x0; obtain ⟨⟨_, _, _, _⟩, _, _, _, _⟩ := four x1))
    all_goals (go_wp2_with fail; go_meet; exact ⟨(Vb.set x0).other (by omega), (Vb.other x1 (by omega)).set, below_setV (below_setV (hb0.trans (hb3.mono (by omega))) (Nat.le_refl _)) (by omega)⟩)
  case rest =>
    obtain ⟨y0, y1, hB⟩ := hcut
    obtain ⟨⟨c0, c1, c2, c3⟩, -⟩ := four y0
    obtain ⟨⟨c4, c5, c6, c7⟩, -⟩ := four y1
    go_wp2_with fail
    refine wp_region_still_tail 22 (by kernel_rfl) (by kernel_rfl) ?_
    simp only [List.take_succ_cons, List.take_zero, List.drop_succ_cons, List.drop_zero]
    repeat (first | still_call (cmpI_any _ _ _) | still_call (cmpS_any _ _ _) | still_call (digit_any _ _) | still_call (cmpD_any _ _ _) | still_step)
    try refine wpStill_nil ?_
    change wpList _ _ _ _ _ wc.drew
    clear c0 c1 c2 c3 c4 c5 c6 c7 y0 y1
    obtain ⟨r1, hr1⟩ : ∃ r, r = cmpI k k' := ⟨_, rfl⟩
    obtain ⟨r2, hr2⟩ : ∃ r, r = cmpI (ownI k i) (ownI k' i') := ⟨_, rfl⟩
    obtain ⟨r3, hr3⟩ : ∃ r, r = cmpS (ownS k s) (ownS k' s') := ⟨_, rfl⟩
    obtain ⟨r4, hr4⟩ : ∃ r, r = cmpI (dg (ownB k b)) (dg (ownB k' b')) := ⟨_, rfl⟩
    have Hr := Lib.hid (ord_own k i s b k' i' s' b')
    rw [← hr1, ← hr2, ← hr3, ← hr4] at *
    clear hr1 hr2 hr3 hr4
    go_wp2_with fail
    refine (or_any _ 4 4 [r1, r2, r3, r4] _ ((Wd.Sl.lit wc .i64 [r1, r2, r3, r4] _ _ 4 rfl rfl (by decide)).below ((Below.refl _ _).drew)) (by decide)).mono ?_
    rintro e w5 ⟨rfl, rfl⟩
    rw [Hr.out]
    go_wp2_with fail
    go_ret
    exact ⟨rfl, (hB.alloc hB.size _).drew⟩
end Vc
end Go.Proofs.YtnhgijlhnamolaaGreatDoor
