/- The walk of the statement DiskHeads of layer 5. -/
import Derived.Test.YthangnhccbnfbaaDkAwake
import Derived.Test.YthangnhccbnfbaaDkFacts
import Derived.Test.YthangnhccbnfbaaDkCopy
import Derived.Test.YthangnhccbnfbaaLists
namespace Go.Proofs.Ythangnhccbnfbaa
open Go.RowKit Go.Maps
namespace Lw
open Dk
/-- A disk of one file. -/
def oneD (b : List Int) (k : Nat) : Pd := ⟨[⟨nmA, b, k⟩], 100000, -1, false⟩
theorem one1 : create ⟨[], 100000, -1, false⟩ nmA = (0, oneD [] 0) := rfl
theorem one2 {b c : List Int} {k : Nat} (h : b.length + c.length ≤ 100000) : append (oneD b k) nmA c = (0, oneD (b ++ c) k) := by
  have e : erA (oneD b k) nmA c = 0 := by
    unfold erA oneD
    rw [if_neg (by simp), if_neg (by simp [fnd]), if_neg (by simp [used]; omega)]
  unfold append
  rw [e, gate_go (by simp [oneD])]
  simp [upd, oneD]
theorem one3 {b : List Int} {k : Nat} : sync (oneD b k) nmA = (0, oneD b b.length) := by
  have e : erN (oneD b k) nmA = 0 := by
    unfold erN oneD
    rw [if_neg (by simp), if_neg (by simp [fnd])]
  unfold sync
  rw [e, gate_go (by simp [oneD])]
  simp [upd, oneD]
theorem one4 {b : List Int} {k : Nat} (keep : List Int) (h : k ≤ b.length) : ∃ q, k ≤ q ∧ q ≤ b.length ∧ crash (oneD b k) keep = oneD (b.take q) q := by
  by_cases e : b.length = k
  · refine ⟨k, Nat.le_refl _, h, ?_⟩
    show Pd.mk (crashF keep 0 [⟨nmA, b, k⟩]) _ _ _ = _
    rw [crash_same e, List.take_of_length_le (by omega)]
    rfl
  · have hk := kept_le keep 0 (b.length - k)
    refine ⟨k + kept keep 0 (b.length - k), by omega, by omega, ?_⟩
    show Pd.mk (crashF keep 0 [⟨nmA, b, k⟩]) _ _ _ = _
    rw [crash_turn (by simpa using e)]
    rfl
theorem one5 {b : List Int} {keep : List Int} : crash (oneD b b.length) keep = oneD b b.length := by
  show Pd.mk (crashF keep 0 [⟨nmA, b, b.length⟩]) _ _ _ = _
  rw [crash_same rfl]
  rfl
theorem one7 {b : List Int} {k : Nat} {keep : List Int} (h : b.length = k) : crash (oneD b k) keep = oneD b k := by
  subst h
  exact one5
theorem one6 {b : List Int} {k : Nat} : Dk.read (oneD b k) nmA = (b, 0) := by
  unfold Dk.read oneD
  simp [fnd]
/-- What the loop of DiskHeads holds: the disk, and the row of all bytes beside it. -/
structure Hd (wo w : World) (d : Nat) (v : Value) (xs : List Int) (k : Nat) (G : Nat → Prop) : Prop where
  dsk : Dsk w d G (oneD xs k)
  new : ∀ g, G g → wo.heap.size ≤ g
  bel : Below wo.heap.size wo w
  row : w.ownsRow wo.heap.size 5 1 v xs.length (xs.map (Value.int .u8))
  off : ∀ x, v.ownBlock = some x → ¬ G x
  le : k ≤ xs.length
theorem Hd.did {wo w w' : World} {d : Nat} {v : Value} {xs xs' : List Int} {k k' : Nat} {G : Nat → Prop} (h : Hd wo w d v xs k G) (mv : Wd.Mv G w w') (hD : Dsk w' d (Wd.Gr G w w') (oneD xs' k')) (e : xs' = xs) (hk : k' ≤ xs.length) : Hd wo w' d v xs k' (Wd.Gr G w w') := by
  subst e
  refine ⟨hD, Wd.Gr.ge h.new h.bel.size, h.bel.trans (mv.below h.new h.bel.size), Wd.own_keep h.row fun x hx => mv.keep x (Wd.own_lt h.row hx).1 (h.off x hx), fun x hx q => ?_, hk⟩
  have := (Wd.own_lt h.row hx).1
  rcases q with q | q
  · exact h.off x hx q
  · omega
theorem Hd.app {wo w w6 w7 : World} {d : Nat} {v v7 : Value} {xs y : List Int} {k : Nat} {G : Nat → Prop} (h : Hd wo w d v xs k G) (mv : Wd.Mv G w w6) (hD : Dsk w6 d (Wd.Gr G w w6) (oneD (xs ++ y) k))
    (hown : w7.ownsRow wo.heap.size 5 1 v7 (xs ++ y).length ((xs ++ y).map (Value.int .u8))) (hg : w6.grownBy w7 v.ownBlock) (hloc : v7.ownBlock = v.ownBlock ∨ v7.ownBlock = some w6.heap.size) : Hd wo w7 d v7 (xs ++ y) k (Wd.Gr G w w6) := by
  have hoff : ∀ x, v.ownBlock = some x → ¬ Wd.Gr G w w6 x := fun x hx q => by
    have := (Wd.own_lt h.row hx).1
    rcases q with q | q
    · exact h.off x hx q
    · omega
  have hbase : ∀ x, v.ownBlock = some x → wo.heap.size ≤ x := fun x hx => (Wd.own_lt h.row hx).2.1
  have hb6 : Below wo.heap.size wo w6 := h.bel.trans (mv.below h.new h.bel.size)
  refine ⟨hD.other (Wd.Mv.of_grown (G := fun g => v.ownBlock = some g) hg fun g e => e) (fun g hG e => hoff g e hG), Wd.Gr.ge h.new h.bel.size, hb6.grown hg hb6.size hbase, hown, fun x hx q => ?_, by have := h.le; simp; omega⟩
  rcases hloc with e | e
  · exact hoff x (by rw [← e]; exact hx) q
  · rw [e] at hx
    cases hx
    have := hD.bd _ q
    omega
set_option maxRecDepth 100000 in
set_option maxHeartbeats 8000000 in
theorem diskHeads_in (A : Option Addr) (n c : Nat) (ys : List (List Int)) (p : Nat) (B : Option Addr) (m k : Nat) (keep : List Int) (w : World) (hS : Wd.Ss w A n c ys) (hK : Wd.Sl w .i64 B m k keep) (hF : Wd.Fits .i64 keep) (hn : n ≤ 40) (hm : m ≤ 20) (hp : p ≤ n) :
    Calls Try.prog 5 #[.slice A n c, .int .i64 (p : Int), .slice B m k] w fun e w' => e = .returned (.bool true) ∧ Below w.heap.size w w' := by
  obtain ⟨i0, hi, hz0, hz1, hz2⟩ := info_parts info_b
  have hl := hS.len
  have hcp := hS.cap
  have hmx := hS.max
  have hcp1 := hK.cap
  have hmx1 := hK.max
  unfold maxLen at hmx hmx1
  have g1 : decide ((40 : Int) < (n : Int)) = false := decide_eq_false (by omega)
  have g2 : decide ((20 : Int) < (m : Int)) = false := decide_eq_false (by omega)
  have g3 : decide ((p : Int) < 0) = false := decide_eq_false (by omega)
  have g4 : decide ((n : Int) < (p : Int)) = false := decide_eq_false (by omega)
  have a1 : nmA.size ≤ 100 := by decide
  have hl' := Lib.hid hl
  have O1 := Lib.hid one1
  clear hl
  go_enter Try.func5, Try.ntmps5
  go_wp2_with fail
  refine (awake_any w).mono ?_
  rintro e w1 ⟨rfl, hB1⟩
  have hS1 := hS.below hB1
  have hK1 := hK.below hB1
  clear hS hK
  go_wp2_with fail
  refine (new_ok 100000 w1 (by omega) (by omega)).mono ?_
  rintro e w2 ⟨d, rfl, hB2, hD2⟩
  go_wp2_with fail
  have C := create_any hD2 nmA a1
  rw [O1.out] at C
  refine C.mono ?_
  clear C
  rintro e w3 ⟨rfl, mv3, hD3⟩
  have hz2' := hB2.size
  have hH3 : Hd w1 w3 d (.slice none 0 0) [] 0 (Wd.Gr (fun g => w1.heap.size ≤ g ∧ g < w2.heap.size) w2 w3) :=
    ⟨hD3, Wd.Gr.ge (fun g hg => hg.1) hz2', hB2.trans (mv3.below (fun g hg => hg.1) hz2'), World.ownsRow_nil _ _ _ _, by simp [Value.ownBlock], Nat.le_refl _⟩
  clear hD2 hD3 mv3 hB2 O1
  go_wp2_with fail
  go_loopw [10, 11, 12] (fun av lv iv wr => ∃ (j s : Nat) (xs : List Int) (G : Nat → Prop), iv = .int .i64 (j : Int) ∧ j ≤ n ∧ lv = .int .i64 (s : Int) ∧ xs.length ≤ 300 * j ∧ Hd w1 wr d av xs s G) (fun _ _ iv _ => n - (intOf iv).toNat)
  case atStart => exact ⟨0, 0, [], _, rfl, Nat.zero_le _, rfl, by simp, hH3⟩
  case round =>
    obtain ⟨j, s, xs, G, rfl, hj, rfl, hxl, hH⟩ := hrel
    obtain ⟨wo, rfl⟩ : ∃ wo : World, wo = wr := ⟨_, rfl⟩
    clear hH3
    obtain ⟨Av, nv, cv, rfl, hSv⟩ := Wd.Sl.of_own hH.row
    have hvl := hSv.len
    have hvl' := Lib.hid hvl
    have hvc := hSv.cap
    have hvm := hSv.max
    unfold maxLen at hvm
    have hnv : nv ≤ 300 * j := by rw [hvl]; exact hxl
    clear hvl
    by_cases hlt : j < n
    · have hjy : j < ys.length := by rw [← hl'.out]; exact hlt
      obtain ⟨b, o, A', n', c', rfl, hblt, hcell, hS'⟩ := (hS1.below hH.bel).at_ j hjy
      obtain ⟨b2, o2, A2, n2, c2, hbe, hblt2, hcell2, hS2⟩ := hS1.at_ j hjy
      obtain ⟨rfl, rfl⟩ : b = b2 ∧ o = o2 := by simpa using hbe
      obtain ⟨rfl, rfl, rfl⟩ : A' = A2 ∧ n' = n2 ∧ c' = c2 := by
        have := (hH.bel.cell (p := ⟨b, o + j, none⟩) hblt2).trans hcell2
        rw [hcell] at this
        simpa using this
      obtain ⟨y, hy⟩ : ∃ y, y = ys.getD j [] := ⟨_, rfl⟩
      rw [← hy] at hS' hS2
      have i1 : (j : Int) < (n : Int) := by omega
      have hcn := hS'.cap
      have hcx := hS'.max
      unfold maxLen at hcx
      have hyl := Lib.hid hS'.len
      have hcell2' := Lib.hid hcell2
      clear hbe hcell2 hy hjy hS'
      by_cases hbig : 300 < n'
      · have q1 : decide ((300 : Int) < (n' : Int)) = true := decide_eq_true (by omega)
        go_wp2_with fail
        go_ret
        exact ⟨rfl, hB1.trans (hH.bel.mono hB1.size)⟩
      · have q1 : decide ((300 : Int) < (n' : Int)) = false := decide_eq_false (by omega)
        by_cases hsy : j = p
        · have q2 : ((j : Int) == (p : Int)) = true := by simp [hsy]
          have hsy' := Lib.hid hsy
          clear hsy
          have C := sync_any hH.dsk nmA a1
          rw [one3] at C
          have C' := Lib.hid C
          clear C
          go_wp2_with fail
          refine C'.out.mono ?_
          rintro e w5 ⟨rfl, mv5, hD5⟩
          have hH5 := hH.did mv5 hD5 rfl (Nat.le_refl _)
          clear hH mv5 hD5 C'
          have hce := (hH5.bel.cell (p := ⟨b, o + j, none⟩) hblt2).trans hcell2'.out
          have C := append_any hH5.dsk nmA a1 A' n' c' y (old_sl hH5.new hH5.bel hS2) (by omega)
          rw [one2 (by have := hyl.out; omega)] at C
          have C' := Lib.hid C
          clear C
          go_wp2_with fail
          refine C'.out.mono ?_
          rintro e w6 ⟨rfl, mv6, hD6⟩
          clear C' hce
          have hrow6 := Wd.own_keep hH5.row fun x hx => mv6.keep x (Wd.own_lt hH5.row hx).1 (hH5.off x hx)
          have hb6 : Below w1.heap.size w1 w6 := hH5.bel.trans (mv6.below hH5.new hH5.bel.size)
          have hce := (hb6.cell (p := ⟨b, o + j, none⟩) hblt2).trans hcell2'.out
          have hSy := hS2.below hb6
          have hz6 := hb6.size
          have hyb : y.length ≤ 300 := by have := hyl.out; omega
          go_wp2_with (first
            | (at_builtin; refine Wd.wpList_app_at _ rfl (.tmp 77) (.tmp 81) 33 rfl w1.heap.size 5 i0 _ .u8 1 Try.underlying33 hi hz0 hz1 hz2 rfl (.slice Av nv cv) xs rfl hrow6 A' n' c' y rfl hSy (by omega) (by unfold maxLen; omega) hz6 ?_; intro v7 w7 hown7 hg7 hloc7)
            | fail)
          go_roundw
          case rel => exact ⟨j + 1, xs.length, xs ++ y, _, by simp, hlt, by rw [hvl'.out], by simp; omega, hH5.app mv6 hD6 hown7 hg7 hloc7⟩
          case measure => simp [intOf]; omega
        · have q2 : ((j : Int) == (p : Int)) = false := by simp; omega
          have hce := (hH.bel.cell (p := ⟨b, o + j, none⟩) hblt2).trans hcell2'.out
          have C := append_any hH.dsk nmA a1 A' n' c' y (old_sl hH.new hH.bel hS2) (by omega)
          rw [one2 (by have := hyl.out; omega)] at C
          have C' := Lib.hid C
          clear C
          go_wp2_with fail
          refine C'.out.mono ?_
          rintro e w6 ⟨rfl, mv6, hD6⟩
          clear C' hce
          have hrow6 := Wd.own_keep hH.row fun x hx => mv6.keep x (Wd.own_lt hH.row hx).1 (hH.off x hx)
          have hb6 : Below w1.heap.size w1 w6 := hH.bel.trans (mv6.below hH.new hH.bel.size)
          have hce := (hb6.cell (p := ⟨b, o + j, none⟩) hblt2).trans hcell2'.out
          have hSy := hS2.below hb6
          have hz6 := hb6.size
          have hyb : y.length ≤ 300 := by have := hyl.out; omega
          go_wp2_with (first
            | (at_builtin; refine Wd.wpList_app_at _ rfl (.tmp 77) (.tmp 81) 33 rfl w1.heap.size 5 i0 _ .u8 1 Try.underlying33 hi hz0 hz1 hz2 rfl (.slice Av nv cv) xs rfl hrow6 A' n' c' y rfl hSy (by omega) (by unfold maxLen; omega) hz6 ?_; intro v7 w7 hown7 hg7 hloc7)
            | fail)
          go_roundw
          case rel => exact ⟨j + 1, s, xs ++ y, _, by simp, hlt, rfl, by simp; omega, hH.app mv6 hD6 hown7 hg7 hloc7⟩
          case measure => simp [intOf]; omega
    · have hjn : j = n := by omega
      by_cases hsy : p = n
      · have q2 : ((p : Int) == (n : Int)) = true := by simp [hsy]
        clear hsy hjn
        have C := sync_any hH.dsk nmA a1
        rw [one3] at C
        have C' := Lib.hid C
        clear C
        go_wp2_with fail
        refine C'.out.mono ?_
        rintro e w5 ⟨rfl, mv5, hD5⟩
        have hH5 := hH.did mv5 hD5 rfl (Nat.le_refl _)
        have hSv5 := hSv.mv (fun a ha g => hH.off a.block (by rw [ha]; rfl) g) mv5
        clear hH mv5 hD5 C' hSv
        generalize Wd.Gr G wo w5 = G5 at hH5
        have C := crash_any hH5.dsk B m k keep (old_sl hH5.new hH5.bel hK1) hF
        obtain ⟨q, hq1, hq2, hq3⟩ := one4 keep hH5.le
        rw [hq3] at C
        have hq4 : (xs.take q).length = q := by simp [hq2]
        have hq4' := Lib.hid hq4
        have hbd5 := hH5.dsk.bd
        clear hq3 hq4
        have C' := Lib.hid C
        clear C
        go_wp2_with fail
        refine C'.out.mono ?_
        rintro e w6 ⟨rfl, mv6, hD6⟩
        have hb6 : Below w1.heap.size w1 w6 := hH5.bel.trans (mv6.below hH5.new hH5.bel.size)
        have hoff : ∀ a, Av = some a → ¬ Wd.Gr G5 w5 w6 a.block := fun a ha g => by
          have hx : (Value.slice Av nv cv).ownBlock = some a.block := by rw [ha]; rfl
          have := (Wd.own_lt hH5.row hx).1
          rcases g with g | g
          · exact hH5.off _ hx g
          · omega
        have hSv6 := hSv5.mv (fun a ha g => hoff a ha (.inl g)) mv6
        have hnew6 := Wd.Gr.ge (w' := w6) hH5.new hH5.bel.size
        generalize Wd.Gr G5 w5 w6 = G6 at hD6 hoff hnew6
        clear C' mv6 hH5 hSv5 hbd5
        have hbd6 := hD6.bd
        go_wp2_with fail
        have C := read_any hD6 nmA a1
        rw [one6] at C
        refine C.mono ?_
        clear C
        rintro e w7 ⟨v7, rfl, ho7, hb7⟩
        obtain ⟨A7, n7, c7, rfl, hS7⟩ := Wd.Sl.of_own ho7
        have hn7 : n7 = q := by rw [hS7.len]; exact hq4'.out
        have hoff7 : ∀ a, A7 = some a → w6.heap.size ≤ a.block := fun a ha => (Wd.own_lt ho7 (x := a.block) (by rw [ha]; rfl)).2.1
        have hD7 := hD6.below hb7
        have hSv7 := hSv6.below hb7
        have hz7 := hb7.size
        clear ho7 hD6 hSv6
        subst hn7
        go_wp2_with fail
        refine (copy_any hD7).mono ?_
        rintro e w8 ⟨d2, rfl, hb8, hC8⟩
        have hD8 := hD7.below hb8
        have hSv8 := hSv7.below hb8
        have hS8 := hS7.below hb8
        have hz8 := hb8.size
        have hl8 := (Below.refl w8.heap.size w8).alloc (Nat.le_refl _) (.cells #[.int .i64 1, .int .i64 2, .int .i64 3] 3)
        have hb68 := (hb6.trans (hb7.mono hb6.size)).trans (hb8.mono (Nat.le_trans hb6.size hz7))
        have C := crash_any (hD8.below hl8) _ 3 3 [1, 2, 3] (fun W hW => (Wd.Sl.lit w8 .i64 [1, 2, 3] 3 #[.int .i64 1, .int .i64 2, .int .i64 3] 3 rfl rfl (by simp [maxLen])).mv (fun a ha g => by cases ha; have := hbd6 _ g; simp at this; omega) hW) (fun x hx => by simp only [List.mem_cons, List.not_mem_nil, or_false] at hx; rcases hx with rfl | rfl | rfl <;> decide)
        rw [one7 hq4'.out] at C
        have C' := Lib.hid C
        clear C hD7 hSv7 hS7 hb7 hb8
        go_wp2_with fail
        refine C'.out.mono ?_
        rintro e w9 ⟨rfl, mv9, hD9⟩
        have hl8b : Below w1.heap.size w1 (w8.alloc (.cells #[.int .i64 1, .int .i64 2, .int .i64 3] 3)) := hb68.trans (hl8.mono hb68.size)
        have hb9 : Below w1.heap.size w1 w9 := hl8b.trans (mv9.below hnew6 hl8b.size)
        have hC9 := (hC8.below hl8).other mv9 (fun g hg k => by have := hbd6 g k; omega)
        have hS9 := (hS8.below hl8).mv (fun a ha g => by have := hoff7 a ha; have := hbd6 _ g; omega) mv9
        have hSv9 := (hSv8.below hl8).mv hoff mv9
        clear C' mv9 hl8 hl8b hC8 hS8 hSv8 hD8 hb68 hnew6 hoff hoff7 hbd6 hz7 hz8
        go_wp2_with fail
        have C := read_any hD9 nmA a1
        rw [one6] at C
        refine C.mono ?_
        clear C
        rintro e w10 ⟨v10, rfl, ho10, hb10⟩
        obtain ⟨A10, n10, c10, rfl, hS10⟩ := Wd.Sl.of_own ho10
        have hC10 := hC9.below hb10
        have hS910 := hS9.below hb10
        have hSv10 := hSv9.below hb10
        have hbb10 := hb9.trans (hb10.mono hb9.size)
        clear ho10 hC9 hS9 hSv9 hb10 hb9 hD9
        go_wp2_with fail
        have C := read_any hC10 nmA a1
        rw [one6] at C
        refine C.mono ?_
        clear C
        rintro e w11 ⟨v11, rfl, ho11, hb11⟩
        obtain ⟨A11, n11, c11, rfl, hS11⟩ := Wd.Sl.of_own ho11
        have hS911 := hS910.below hb11
        have hS1011 := hS10.below hb11
        have hSv11 := hSv10.below hb11
        have hbb11 := hbb10.trans (hb11.mono hbb10.size)
        clear ho11 hC10 hS910 hSv10 hb11 hbb10 hS10
        go_wp2_with fail
        refine (Nc.same_yes _ _ _ _ _ _ _ _ _ hS911 hS1011 rfl).mono ?_
        rintro e w12 ⟨rfl, hb12⟩
        have hS912 := hS911.below hb12
        have hS1112 := hS11.below hb12
        have hSv12 := hSv11.below hb12
        have hbb12 := hbb11.trans (hb12.mono hbb11.size)
        clear hS911 hS1011 hS11 hSv11 hbb11 hb12
        go_wp2_with fail
        refine (Nc.same_yes _ _ _ _ _ _ _ _ _ hS912 hS1112 rfl).mono ?_
        rintro e w13 ⟨rfl, hb13⟩
        have hS13 := hS912.below hb13
        have hSv13 := hSv12.below hb13
        have hbb13 := hbb12.trans (hb13.mono hbb12.size)
        clear hS912 hS1112 hSv12 hbb12 hb13
        have hvl := hvl'.out
        have q7 : n7 ≤ nv := by omega
        have gd1 : decide ((nv : Int) ≤ (n7 : Int)) = true := decide_eq_true (by omega)
        have i9 : nv ≤ n7 := by omega
        have gd2 : decide ((n7 : Int) ≤ (nv : Int)) = true := decide_eq_true (by omega)
        have i7 : (n7 : Int) ≤ (cv : Int) := by omega
        clear hvl
        go_wp2_with fail
        refine (Nc.same_yes _ _ _ _ _ _ _ _ _ hS13 (hSv13.head n7 q7) rfl).mono ?_
        rintro e w14 ⟨rfl, hb14⟩
        go_wp2_with fail
        go_ret
        exact ⟨rfl, hB1.trans ((hbb13.trans (hb14.mono hbb13.size)).mono hB1.size)⟩
      · have q2 : ((p : Int) == (n : Int)) = false := by simp; omega
        clear hsy hjn
        have hSv5 := hSv
        clear hSv
        have C := crash_any hH.dsk B m k keep (old_sl hH.new hH.bel hK1) hF
        obtain ⟨q, hq1, hq2, hq3⟩ := one4 keep hH.le
        rw [hq3] at C
        have hq4 : (xs.take q).length = q := by simp [hq2]
        have hq4' := Lib.hid hq4
        have hbd5 := hH.dsk.bd
        clear hq3 hq4
        have C' := Lib.hid C
        clear C
        go_wp2_with fail
        refine C'.out.mono ?_
        rintro e w6 ⟨rfl, mv6, hD6⟩
        have hb6 : Below w1.heap.size w1 w6 := hH.bel.trans (mv6.below hH.new hH.bel.size)
        have hoff : ∀ a, Av = some a → ¬ Wd.Gr G wo w6 a.block := fun a ha g => by
          have hx : (Value.slice Av nv cv).ownBlock = some a.block := by rw [ha]; rfl
          have := (Wd.own_lt hH.row hx).1
          rcases g with g | g
          · exact hH.off _ hx g
          · omega
        have hSv6 := hSv5.mv (fun a ha g => hoff a ha (.inl g)) mv6
        have hnew6 := Wd.Gr.ge (w' := w6) hH.new hH.bel.size
        generalize Wd.Gr G wo w6 = G6 at hD6 hoff hnew6
        clear C' mv6 hH hSv5 hbd5
        have hbd6 := hD6.bd
        go_wp2_with fail
        have C := read_any hD6 nmA a1
        rw [one6] at C
        refine C.mono ?_
        clear C
        rintro e w7 ⟨v7, rfl, ho7, hb7⟩
        obtain ⟨A7, n7, c7, rfl, hS7⟩ := Wd.Sl.of_own ho7
        have hn7 : n7 = q := by rw [hS7.len]; exact hq4'.out
        have hoff7 : ∀ a, A7 = some a → w6.heap.size ≤ a.block := fun a ha => (Wd.own_lt ho7 (x := a.block) (by rw [ha]; rfl)).2.1
        have hD7 := hD6.below hb7
        have hSv7 := hSv6.below hb7
        have hz7 := hb7.size
        clear ho7 hD6 hSv6
        subst hn7
        go_wp2_with fail
        refine (copy_any hD7).mono ?_
        rintro e w8 ⟨d2, rfl, hb8, hC8⟩
        have hD8 := hD7.below hb8
        have hSv8 := hSv7.below hb8
        have hS8 := hS7.below hb8
        have hz8 := hb8.size
        have hl8 := (Below.refl w8.heap.size w8).alloc (Nat.le_refl _) (.cells #[.int .i64 1, .int .i64 2, .int .i64 3] 3)
        have hb68 := (hb6.trans (hb7.mono hb6.size)).trans (hb8.mono (Nat.le_trans hb6.size hz7))
        have C := crash_any (hD8.below hl8) _ 3 3 [1, 2, 3] (fun W hW => (Wd.Sl.lit w8 .i64 [1, 2, 3] 3 #[.int .i64 1, .int .i64 2, .int .i64 3] 3 rfl rfl (by simp [maxLen])).mv (fun a ha g => by cases ha; have := hbd6 _ g; simp at this; omega) hW) (fun x hx => by simp only [List.mem_cons, List.not_mem_nil, or_false] at hx; rcases hx with rfl | rfl | rfl <;> decide)
        rw [one7 hq4'.out] at C
        have C' := Lib.hid C
        clear C hD7 hSv7 hS7 hb7 hb8
        go_wp2_with fail
        refine C'.out.mono ?_
        rintro e w9 ⟨rfl, mv9, hD9⟩
        have hl8b : Below w1.heap.size w1 (w8.alloc (.cells #[.int .i64 1, .int .i64 2, .int .i64 3] 3)) := hb68.trans (hl8.mono hb68.size)
        have hb9 : Below w1.heap.size w1 w9 := hl8b.trans (mv9.below hnew6 hl8b.size)
        have hC9 := (hC8.below hl8).other mv9 (fun g hg k => by have := hbd6 g k; omega)
        have hS9 := (hS8.below hl8).mv (fun a ha g => by have := hoff7 a ha; have := hbd6 _ g; omega) mv9
        have hSv9 := (hSv8.below hl8).mv hoff mv9
        clear C' mv9 hl8 hl8b hC8 hS8 hSv8 hD8 hb68 hnew6 hoff hoff7 hbd6 hz7 hz8
        go_wp2_with fail
        have C := read_any hD9 nmA a1
        rw [one6] at C
        refine C.mono ?_
        clear C
        rintro e w10 ⟨v10, rfl, ho10, hb10⟩
        obtain ⟨A10, n10, c10, rfl, hS10⟩ := Wd.Sl.of_own ho10
        have hC10 := hC9.below hb10
        have hS910 := hS9.below hb10
        have hSv10 := hSv9.below hb10
        have hbb10 := hb9.trans (hb10.mono hb9.size)
        clear ho10 hC9 hS9 hSv9 hb10 hb9 hD9
        go_wp2_with fail
        have C := read_any hC10 nmA a1
        rw [one6] at C
        refine C.mono ?_
        clear C
        rintro e w11 ⟨v11, rfl, ho11, hb11⟩
        obtain ⟨A11, n11, c11, rfl, hS11⟩ := Wd.Sl.of_own ho11
        have hS911 := hS910.below hb11
        have hS1011 := hS10.below hb11
        have hSv11 := hSv10.below hb11
        have hbb11 := hbb10.trans (hb11.mono hbb10.size)
        clear ho11 hC10 hS910 hSv10 hb11 hbb10 hS10
        go_wp2_with fail
        refine (Nc.same_yes _ _ _ _ _ _ _ _ _ hS911 hS1011 rfl).mono ?_
        rintro e w12 ⟨rfl, hb12⟩
        have hS912 := hS911.below hb12
        have hS1112 := hS11.below hb12
        have hSv12 := hSv11.below hb12
        have hbb12 := hbb11.trans (hb12.mono hbb11.size)
        clear hS911 hS1011 hS11 hSv11 hbb11 hb12
        go_wp2_with fail
        refine (Nc.same_yes _ _ _ _ _ _ _ _ _ hS912 hS1112 rfl).mono ?_
        rintro e w13 ⟨rfl, hb13⟩
        have hS13 := hS912.below hb13
        have hSv13 := hSv12.below hb13
        have hbb13 := hbb12.trans (hb13.mono hbb12.size)
        clear hS912 hS1112 hSv12 hbb12 hb13
        have hvl := hvl'.out
        have q7 : n7 ≤ nv := by omega
        have gd1 : decide ((s : Int) ≤ (n7 : Int)) = true := decide_eq_true (by omega)
        have i9 : s ≤ n7 := by omega
        have gd2 : decide ((n7 : Int) ≤ (nv : Int)) = true := decide_eq_true (by omega)
        have i7 : (n7 : Int) ≤ (cv : Int) := by omega
        clear hvl
        go_wp2_with fail
        refine (Nc.same_yes _ _ _ _ _ _ _ _ _ hS13 (hSv13.head n7 q7) rfl).mono ?_
        rintro e w14 ⟨rfl, hb14⟩
        go_wp2_with fail
        go_ret
        exact ⟨rfl, hB1.trans ((hbb13.trans (hb14.mono hbb13.size)).mono hB1.size)⟩
set_option maxRecDepth 100000 in
set_option maxHeartbeats 4000000 in
theorem diskHeads_out (A : Option Addr) (n c : Nat) (p : Int) (B : Option Addr) (m k : Nat) (w : World) (_ : n ≤ c) (_ : c ≤ 9223372036854775807) (_ : m ≤ k) (_ : k ≤ 9223372036854775807) (r : ¬ (n ≤ 40 ∧ m ≤ 20 ∧ 0 ≤ p ∧ p ≤ n)) :
    Calls Try.prog 5 #[.slice A n c, .int .i64 p, .slice B m k] w fun e w' => e = .returned (.bool true) ∧ Below w.heap.size w w' := by
  have g : decide ((40 : Int) < (n : Int)) = true ∨ decide ((40 : Int) < (n : Int)) = false ∧ decide ((20 : Int) < (m : Int)) = true ∨ decide ((40 : Int) < (n : Int)) = false ∧ decide ((20 : Int) < (m : Int)) = false ∧ decide (p < 0) = true ∨
      decide ((40 : Int) < (n : Int)) = false ∧ decide ((20 : Int) < (m : Int)) = false ∧ decide (p < 0) = false ∧ decide ((n : Int) < p) = true := by
    by_cases q1 : n ≤ 40
    · by_cases q2 : m ≤ 20
      · by_cases q3 : p < 0
        · exact .inr (.inr (.inl ⟨decide_eq_false (by omega), decide_eq_false (by omega), decide_eq_true q3⟩))
        · exact .inr (.inr (.inr ⟨decide_eq_false (by omega), decide_eq_false (by omega), decide_eq_false q3, decide_eq_true (by omega)⟩))
      · exact .inr (.inl ⟨decide_eq_false (by omega), decide_eq_true (by omega)⟩)
    · exact .inl (decide_eq_true (by omega))
  clear r
  go_enter Try.func5, Try.ntmps5
  go_wp2_with fail
  refine (awake_any w).mono ?_
  rintro e w1 ⟨rfl, hB1⟩
  rcases g with g1 | ⟨g1, g2⟩ | ⟨g1, g2, g3⟩ | ⟨g1, g2, g3, g4⟩
  all_goals
    go_wp2_with fail
    go_ret
    exact ⟨rfl, hB1⟩
theorem diskHeads_ok (A : Option Addr) (n c : Nat) (ys : List (List Int)) (p : Int) (B : Option Addr) (m k : Nat) (keep : List Int) (w : World) (hS : Wd.Ss w A n c ys) (_ : ∀ y, y ∈ ys → Wd.Fits .u8 y) (_ : -9223372036854775808 ≤ p) (_ : p ≤ 9223372036854775807) (hK : Wd.Sl w .i64 B m k keep) (hF : Wd.Fits .i64 keep) :
    Calls Try.prog 5 #[.slice A n c, .int .i64 p, .slice B m k] w fun e w' => e = .returned (.bool true) ∧ Below w.heap.size w w' := by
  by_cases h : n ≤ 40 ∧ m ≤ 20 ∧ 0 ≤ p ∧ p ≤ n
  · have := diskHeads_in A n c ys p.toNat B m k keep w hS hK hF h.1 h.2.1 (by omega)
    rwa [show ((p.toNat : Nat) : Int) = p by omega] at this
  · have h1 := hS.max
    have h2 := hK.max
    unfold maxLen at h1 h2
    exact diskHeads_out A n c p B m k w hS.cap (by omega) hK.cap (by omega) h
end Lw
end Go.Proofs.Ythangnhccbnfbaa
