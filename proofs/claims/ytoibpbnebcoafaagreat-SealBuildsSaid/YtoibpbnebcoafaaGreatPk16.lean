/- slices.insertionSortCmpFunc of a row of numbers that rise: they come to stand by the comparison, and where it knows no difference as they stood. slices.symMergeCmpFunc of a row of numbers, where one of the two sides has one number alone. -/
import Derived.WalkKit
import Derived.Shelf.SlSortCmp.QuietGrown
import Derived.Shelf.RegionOpen
import Derived.Sort.WalkA
import Derived.Sort.WalkB2
import Derived.Sort.WalkB12
import Derived.Deep.LoopGhost
import Derived.Lib.Hide
import Derived.Test.YtoibpbnebcoafaaGreatPk15
import Derived.Test.YtoibpbnebcoafaaGreatProg
namespace Go.Proofs.YtoibpbnebcoafaaGreat
set_option maxRecDepth 20000
open Go.RowKit Go.Sort
namespace Ssm
theorem mixed : Tryz.prog.follows .mixedOrders = true := by kernel_rfl
/-- Ahead of place i all of B is sorted. -/
def InsO (cf : Nat → Nat → Int) (P B S : List Nat) (a i : Nat) (L : List Nat) : Prop :=
  ∃ T R, L = P ++ (T ++ (R ++ S)) ∧ So cf T ∧ T.Perm (B.take (i - a)) ∧ R = B.drop (i - a)
/-- e is on its way into T: it stands at place j. -/
def InsI (cf : Nat → Nat → Int) (P T : List Nat) (e : Nat) (Z : List Nat) (a j : Nat) (L : List Nat) : Prop :=
  ∃ A D, L = P ++ (A ++ e :: (D ++ Z)) ∧ j = a + A.length ∧ T = A ++ D ∧ ∀ d ∈ D, cf e d < 0
section
variable {cf : Nat → Nat → Int} {P B S : List Nat} {a i j : Nat} {L : List Nat}
theorem insO_start : InsO cf P B S a (a + 1) (P ++ (B ++ S)) := by
  refine ⟨B.take 1, B.drop 1, by rw [← List.append_assoc (B.take 1), List.take_append_drop], ?_, by rw [show a + 1 - a = 1 by omega], by rw [show a + 1 - a = 1 by omega]⟩
  cases B with
  | nil => exact List.Pairwise.nil
  | cons x r => exact List.pairwise_singleton _ _
theorem insO_end (W : Wk cf) (h : InsO cf P B S a i L) (hi : a + B.length ≤ i) : L = P ++ (srt cf B ++ S) := by
  obtain ⟨T, R, rfl, h1, h2, rfl⟩ := h
  rw [List.take_of_length_le (by omega)] at h2
  rw [List.drop_of_length_le (by omega), srt_only W h2 h1, List.nil_append]
theorem insO_len (h : InsO cf P B S a i L) : L.length = (P ++ (B ++ S)).length := by
  obtain ⟨T, R, rfl, h1, h2, rfl⟩ := h
  have := h2.length_eq
  rw [List.length_take] at this
  simp only [List.length_append, List.length_drop]
  omega
/-- The next one begins its way. -/
theorem insO_next (ha : a = P.length) (h : InsO cf P B S a i L) (hai : a < i) (hi : i < a + B.length) : ∃ T e Z, InsI cf P T e Z a i L ∧ So cf T ∧ T.Perm (B.take (i - a)) ∧ e = B.getD (i - a) 0 ∧ Z = B.drop (i + 1 - a) ++ S := by
  obtain ⟨T, R, rfl, h1, h2, rfl⟩ := h
  have hl := h2.length_eq
  rw [List.length_take] at hl
  have hd : B.drop (i - a) = B.getD (i - a) 0 :: B.drop (i + 1 - a) := by
    rw [List.drop_eq_getElem_cons (by omega), show i - a + 1 = i + 1 - a by omega]
    simp [List.getD, List.getElem?_eq_getElem (show i - a < B.length by omega)]
  refine ⟨T, _, _, ⟨T, [], ?_, by omega, by simp, fun _ q => by cases q⟩, h1, h2, rfl, rfl⟩
  rw [hd]
  simp
theorem insI_at {T : List Nat} {e : Nat} {Z : List Nat} (ha : a = P.length) (h : InsI cf P T e Z a j L) : L.getD j 0 = e ∧ j < L.length ∧ a ≤ j := by
  obtain ⟨A, D, rfl, hj, _, _⟩ := h
  have q : P ++ (A ++ e :: (D ++ Z)) = (P ++ A) ++ e :: (D ++ Z) := by simp
  have hl : j = (P ++ A).length := by simp; omega
  refine ⟨?_, ?_, by omega⟩
  · rw [q, hl]
    exact getD_at _ _ _
  · simp only [List.length_append, List.length_cons]
    omega
theorem insI_step {T : List Nat} {e : Nat} {Z : List Nat} (ha : a = P.length) (h : InsI cf P T e Z a j L) (haj : a < j) (hc : cf e (L.getD (j - 1) 0) < 0) : InsI cf P T e Z a (j - 1) (swp L j (j - 1)) := by
  obtain ⟨A, D, rfl, hj, hT, hD⟩ := h
  rcases List.eq_nil_or_concat A with rfl | ⟨A', d, rfl⟩
  · simp at hj; omega
  · rw [List.concat_eq_append] at *
    have q : P ++ ((A' ++ [d]) ++ e :: (D ++ Z)) = (P ++ A') ++ d :: e :: (D ++ Z) := by simp
    have hl : j = (P ++ A').length + 1 := by simp at hj ⊢; omega
    rw [q] at hc ⊢
    rw [show j - 1 = (P ++ A').length by omega, getD_at] at hc
    rw [show j - 1 = (P ++ A').length by omega, hl, swp_next]
    refine ⟨A', d :: D, by simp, by simp; omega, by rw [hT]; simp, fun x hx => ?_⟩
    rcases List.mem_cons.1 hx with rfl | hx
    · exact hc
    · exact hD x hx
theorem insI_stop (W : Wk cf) {T : List Nat} (hb : B.Pairwise (· ≤ ·)) (h : InsI cf P T (B.getD (i - a) 0) (B.drop (i + 1 - a) ++ S) a j L) (hs : So cf T) (hp : T.Perm (B.take (i - a))) (hai : a < i) (hi : i < a + B.length) (ha : a = P.length)
    (hc : j = a ∨ ¬ cf (B.getD (i - a) 0) (L.getD (j - 1) 0) < 0) : InsO cf P B S a (i + 1) L := by
  obtain ⟨A, D, rfl, hj, hT, hD⟩ := h
  have hbt : ∀ x ∈ T, x ≤ B.getD (i - a) 0 := fun x hx => by
    obtain ⟨k, hk1, hk2, rfl⟩ := take_mem (hp.mem_iff.1 hx)
    have := List.pairwise_iff_getElem.1 hb k (i - a) (by omega) (by omega) hk1
    simpa [List.getD, List.getElem?_eq_getElem hk2, List.getElem?_eq_getElem (show i - a < B.length by omega)] using this
  generalize he : B.getD (i - a) 0 = e at *
  refine ⟨A ++ e :: D, B.drop (i + 1 - a), by simp, ins_done W (hT ▸ hs) hD (fun x hx => hbt x (by rw [hT]; simp [hx])) (fun A' d hA => ?_), ?_, rfl⟩
  · rcases hc with hc | hc
    · rw [hA] at hj
      simp at hj
      omega
    · subst hA
      have q : P ++ ((A' ++ [d]) ++ e :: (D ++ (B.drop (i + 1 - a) ++ S))) = (P ++ A') ++ d :: e :: (D ++ (B.drop (i + 1 - a) ++ S)) := by simp
      rw [q, show j - 1 = (P ++ A').length by simp at hj ⊢; omega, getD_at] at hc
      exact hc
  · have ht : B.take (i + 1 - a) = B.take (i - a) ++ [e] := by
      rw [show i + 1 - a = i - a + 1 by omega, List.take_succ_eq_append_getElem (by omega), ← he]
      simp [List.getD, List.getElem?_eq_getElem (show i - a < B.length by omega)]
    rw [ht]
    refine List.Perm.trans List.perm_middle ?_
    rw [← hT]
    exact (List.Perm.cons e hp).trans (List.perm_append_singleton e _).symm
end
set_option maxHeartbeats 8000000 in
theorem insertion_any {f : Nat} {cap : Array Value} {cf : Nat → Nat → Int} (W : Wk cf) {g N : Nat} {w0 : World} (C : Cmp f cap cf g N w0) (P B S : List Nat) (a b n c : Nat) (w : World) (ha : a = P.length) (hb : b = a + B.length) (hB : B.Pairwise (· ≤ ·))
    (hn : n = (P ++ (B ++ S)).length) (hm : n ≤ 1000000000) (h : Sw w0 g N (P ++ (B ++ S)) w) :
    Calls Tryz.prog 109 #[.slice (some ⟨g, 0, none⟩) n c, .int .i64 (a : Int), .int .i64 (b : Int), .func (.func f) #[] cap] w fun e w' => e = .returned (.tuple #[]) ∧ Sw w0 g N (P ++ (srt cf B ++ S)) w' := by
  have mixed := mixed
  have eg := C.goes
  have HC := Lib.hid C
  have Ha := Lib.hid ha
  have hbn : b ≤ n := by simp only [List.length_append] at hn; omega
  have Hb := Lib.hid hb
  have Hl := Lib.hid (fun i L (q : InsO cf P B S a i L) => (insO_len q).trans hn.symm)
  have H0 := Lib.hid (And.intro (insO_start (cf := cf) (P := P) (B := B) (S := S) (a := a)) h)
  have hab : a ≤ b := by omega
  clear C h ha hb hn
  go_enter Tryz.func109, Tryz.ntmps109
  go_wp2_with fail
  go_loopg [8] (b - a) (fun g1 vi wr => ∃ (i : Nat) (L : List Nat), vi = .int .i64 i ∧ a < i ∧ i ≤ b + 1 ∧ b + 1 - i ≤ g1 + 1 ∧ Hid (InsO cf P B S a i L ∧ Sw w0 g N L wr))
  case atStart => exact ⟨a + 1, _, by go_num, by omega, by omega, by omega, H0⟩
  case round =>
    obtain ⟨i, L, rfl, hai, hib, hg1, HO⟩ := hrel
    by_cases hlt : i < b
    · have hI : (i : Int) < (b : Int) := by omega
      obtain ⟨T, e, Z, hI0, hs, hp, he, hZ⟩ := insO_next Ha.out HO.out.1 hai (by have := Hb.out; omega)
      have HT := Lib.hid (And.intro hs (And.intro hp (And.intro he hZ)))
      have HI0 := Lib.hid (And.intro hI0 HO.out.2)
      have hll := Hl.out i L HO.out.1
      have Hll := Lib.hid hll
      clear hI0 hs hp he hZ HO hll
      go_wp2_with fail
      go_loopg [9] i (fun g2 vj wr2 => ∃ (j : Nat) (L' : List Nat), vj = .int .i64 j ∧ a ≤ j ∧ j ≤ i ∧ j ≤ g2 ∧ Hid (InsI cf P T e Z a j L' ∧ Sw w0 g N L' wr2 ∧ L'.length = n))
      case atStart => exact ⟨i, L, rfl, by omega, Nat.le_refl _, Nat.le_refl _, ⟨HI0.out.1, HI0.out.2, Hll.out⟩⟩
      case round =>
        clear HI0 Hll
        obtain ⟨j, L', rfl, haj, hji, hg2, HJ⟩ := hrel
        have OUT : ∀ W', Sw w0 g N L' W' → (j = a ∨ ¬ cf e (L'.getD (j - 1) 0) < 0) → Hid (InsO cf P B S a (i + 1) L' ∧ Sw w0 g N L' W') := fun W' hW hc => by
          obtain ⟨hs, hp, he, hZ⟩ := HT.out
          have h1 := HJ.out.1
          subst he hZ
          exact ⟨insI_stop W hB h1 hs hp hai (by have := Hb.out; omega) Ha.out hc, hW⟩
        have OUT := Lib.hid OUT
        obtain ⟨at1, at2, _⟩ := insI_at Ha.out HJ.out.1
        by_cases hja : a < j
        · have hjaz : (a : Int) < (j : Int) := by omega
          obtain ⟨jp, hjp⟩ : ∃ q, q + 1 = j := ⟨j - 1, by omega⟩
          have zjp : (j : Int) = (jp : Int) + 1 := by omega
          have hjad : decide ((jp : Int) + 1 > (a : Int)) = true := decide_eq_true (by omega)
          have hjaz' : (a : Int) < (jp : Int) + 1 := by omega
          have hlen := HJ.out.2.2
          obtain ⟨iN, hiN⟩ : ∃ q, q = j := ⟨_, rfl⟩
          obtain ⟨jN, hjN⟩ : ∃ q, q = j - 1 := ⟨_, rfl⟩
          have hjn : j < n := by omega
          have ea : ((jp : Int) + 1).toNat = iN := by omega
          have pa : (0 : Int) ≤ (jp : Int) + 1 := by omega
          have ba : (jp : Int) + 1 < (n : Int) := by omega
          have ra : IntKind.i64.wrap ((jp : Int) + 1) = (jp : Int) + 1 := by rw [IntKind.wrap_i64]; omega
          have ec : ((jp : Int)).toNat = jN := by omega
          have pc : (0 : Int) ≤ (jp : Int) := by omega
          have bc : (jp : Int) < (n : Int) := by omega
          have rc : IntKind.i64.wrap ((jp : Int)) = (jp : Int) := by rw [IntKind.wrap_i64]; omega
          have l1 := HJ.out.2.1.cells iN (by omega)
          have l2 := HJ.out.2.1.cells jN (by omega)
          have b1 := HJ.out.2.1.bd iN (by omega)
          have b2 := HJ.out.2.1.bd jN (by omega)
          have hst := fun (q : cf e (L'.getD (j - 1) 0) < 0) => insI_step Ha.out HJ.out.1 hja q
          have swl := fun (wz : World) (q : Sw w0 g N L' wz) => q.swapped iN jN (by omega) (by omega)
          have sc1 := fun (wz : World) (q : Sw w0 g N L' wz) => q.cell iN (by omega)
          have sc2 := fun (wz : World) (q : Sw w0 g N L' wz) => q.cell jN (by omega)
          have sc3 := fun (wz : World) (q : Sw w0 g N L' wz) (v : Value) => q.c2 iN jN (by omega) (by omega) v
          have hwl : ∀ x y, (swp L' x y).length = n := fun x y => by rw [swp_len]; exact hlen
          have e1 : L'.getD iN 0 = e := by rw [hiN]; exact at1
          have e2 : L'.getD (j - 1) 0 = L'.getD jN 0 := by rw [hjN]
          rw [e2] at hst OUT
          rw [e1] at l1 b1
          obtain ⟨d, hd⟩ : ∃ d, d = L'.getD jN 0 := ⟨_, rfl⟩
          rw [← hd] at l2 b2 hst OUT
          have Hst := Lib.hid hst
          have HSw := Lib.hid HJ.out.2.1
          have Hwl := Lib.hid hwl
          have sc1' := fun (wz : World) (q : Sw w0 g N L' wz) => (e1 ▸ sc1 wz q : wz.cell? ⟨g, iN, none⟩ = some (.int .i64 (e : Nat)))
          have sc2' := fun (wz : World) (q : Sw w0 g N L' wz) => (hd ▸ sc2 wz q : wz.cell? ⟨g, jN, none⟩ = some (.int .i64 (d : Nat)))
          have sc3' := fun (wz : World) (q : Sw w0 g N L' wz) (v : Value) => (hd ▸ sc3 wz q v : (wz.setCell ⟨g, iN, none⟩ v).cell? ⟨g, jN, none⟩ = some (.int .i64 (d : Nat)))
          have swl' := fun (wz : World) (q : Sw w0 g N L' wz) => (by have := swl wz q; rw [e1, ← hd, hiN, hjN] at this; rw [hiN, hjN]; exact this : Sw w0 g N (swp L' j (j - 1)) ((wz.setCell ⟨g, iN, none⟩ (.int .i64 (d : Nat))).setCell ⟨g, jN, none⟩ (.int .i64 (e : Nat))).drew)
          have HX := Lib.hid (And.intro sc1' (And.intro sc2' (And.intro sc3' swl')))
          clear sc1 sc2 sc3 swl sc1' sc2' sc3' swl' hst hwl e1 e2 hd at1 at2 HJ hlen
          have hc := HSw.out.cmp HC.out b1 b2
          clear hiN hjN
          by_cases hv : cf e d < 0
          · have hdv : decide (cf e d < 0) = true := decide_eq_true hv
            go_wp2_with fail
            go_quiet_grown (first | (go_at_fn f; refine Calls.grown_of (hc _ _)))
            have S2 := HSw.out.grown nq osq
            clear l1 l2 hc HSw
            generalize grow (wr.drewN nq) osq = w2 at S2 ⊢
            clear nq osq
            obtain ⟨x1, x2, x3, x4⟩ := HX.out
            have c1 := x1 w2 S2
            have c2 := x2 w2 S2
            have c3 := x3 w2 S2 (.int .i64 (d : Int))
            have f1 := S2.free iN
            have f2 := S2.free jN
            have S3 := Lib.hid (x4 w2 S2)
            clear x1 x2 x3 x4 S2
            go_wp2_with fail
            go_big_region_o
            clear c1 c2 c3 f1 f2
            generalize ((w2.setCell ⟨g, iN, none⟩ (.int .i64 (d : Int))).setCell ⟨g, jN, none⟩ (.int .i64 (e : Int))).drew = w3 at S3 ⊢
            clear ea ec
            go_wp2
            go_roundg (j - 1)
            case measure => omega
            case rel => exact ⟨j - 1, _, by first | rfl | go_num | (congr 1; omega), by omega, by omega, Nat.le_refl _, ⟨Hst.out hv, S3.out, Hwl.out _ _⟩⟩
          · have hdv : decide (cf e d < 0) = false := decide_eq_false hv
            go_wp2_with fail
            go_quiet_grown (first | (go_at_fn f; refine Calls.grown_of (hc _ _)))
            have S2 := OUT.out _ (HSw.out.grown nq osq) (.inr hv)
            clear l1 l2 hc HSw
            generalize grow (wr.drewN nq) osq = w2 at S2 ⊢
            clear nq osq
            clear ea ec
            go_wp2
            go_roundg (b - (i + 1))
            case measure => omega
            case rel => exact ⟨i + 1, _, by go_num, by omega, by omega, by omega, S2⟩
        · have hjaz : decide ((j : Int) > (a : Int)) = false := decide_eq_false (by omega)
          have hjaz' : ¬ (a : Int) < (j : Int) := by omega
          have S2 := OUT.out _ HJ.out.2.1.drew (.inl (by omega))
          clear at1 at2
          go_wp2_with fail
          go_big_region_o
          generalize wr.drew = w2 at S2 ⊢
          go_wp2
          go_roundg (b - (i + 1))
          case measure => omega
          case rel => exact ⟨i + 1, _, by go_num, by omega, by omega, by omega, S2⟩
    · have hI : ¬ (i : Int) < (b : Int) := by omega
      have hS := HO.out
      clear HO
      have hEnd := insO_end W hS.1 (by have := Hb.out; omega)
      have S1 := Lib.hid (hEnd ▸ hS.2)
      clear hS hEnd
      go_wp2
      go_end0
      exact ⟨rfl, S1.out⟩
end Ssm
end Go.Proofs.YtoibpbnebcoafaaGreat
namespace Go.Proofs.YtoibpbnebcoafaaGreat
set_option maxRecDepth 20000
open Go.RowKit Go.Sort
namespace Ssm
/-- e stands behind q of R. -/
def wy (P : List Nat) (e : Nat) (R S : List Nat) (q : Nat) : List Nat := P ++ (R.take q ++ e :: (R.drop q ++ S))
section
variable (P : List Nat) (e : Nat) (R S : List Nat)
theorem wy_len (q : Nat) : (wy P e R S q).length = P.length + 1 + R.length + S.length := by
  simp only [wy, List.length_append, List.length_cons, List.length_take, List.length_drop]
  omega
theorem wy_next {q : Nat} (h : q < R.length) : (wy P e R S q).getD (P.length + q) 0 = e ∧ (wy P e R S q).getD (P.length + q + 1) 0 = R.getD q 0 ∧ swp (wy P e R S q) (P.length + q) (P.length + q + 1) = wy P e R S (q + 1) ∧
    (wy P e R S (q + 1)).getD (P.length + q) 0 = R.getD q 0 ∧ (wy P e R S (q + 1)).getD (P.length + q + 1) 0 = e ∧ swp (wy P e R S (q + 1)) (P.length + q + 1) (P.length + q) = wy P e R S q := by
  have hd : R.drop q = R.getD q 0 :: R.drop (q + 1) := by
    rw [List.drop_eq_getElem_cons h]
    simp [List.getD, List.getElem?_eq_getElem h]
  have ht : R.take (q + 1) = R.take q ++ [R.getD q 0] := by
    rw [List.take_succ_eq_append_getElem h]
    simp [List.getD, List.getElem?_eq_getElem h]
  have e1 : wy P e R S q = (P ++ R.take q) ++ e :: R.getD q 0 :: (R.drop (q + 1) ++ S) := by
    unfold wy
    rw [hd]
    simp
  have e2 : wy P e R S (q + 1) = (P ++ R.take q) ++ R.getD q 0 :: e :: (R.drop (q + 1) ++ S) := by
    unfold wy
    rw [ht]
    simp
  have hl : P.length + q = (P ++ R.take q).length := by simp; omega
  have snd : ∀ (X Y : List Nat) (x y : Nat), (X ++ x :: y :: Y).getD (X.length + 1) 0 = y := fun X Y x y => by
    simp only [List.getD]
    rw [List.getElem?_append_right (by omega)]
    simp
  rw [e1, e2, hl]
  exact ⟨getD_at _ _ _, snd _ _ _ _, swp_next' _ _ _ _, getD_at _ _ _, snd _ _ _ _, swp_next _ _ _ _⟩
end
set_option maxHeartbeats 8000000 in
theorem sym_one {f : Nat} {cap : Array Value} {cf : Nat → Nat → Int} (W : Wk cf) {g N : Nat} {w0 : World} (C : Cmp f cap cf g N w0) (P R S : List Nat) (e : Nat) (a m b n c : Nat) (w : World) (ha : a = P.length) (hmm : m = a + 1) (hb : b = m + R.length)
    (hR : So cf R) (hi : ∀ y ∈ R, e ≤ y) (hn : n = (P ++ (e :: (R ++ S))).length) (hm : n ≤ 1000000000) (h : Sw w0 g N (P ++ (e :: (R ++ S))) w) :
    Calls Tryz.prog 110 #[.slice (some ⟨g, 0, none⟩) n c, .int .i64 (a : Int), .int .i64 (m : Int), .int .i64 (b : Int), .func (.func f) #[] cap] w fun e' w' => e' = .returned (.tuple #[]) ∧ Sw w0 g N (P ++ (srt cf (e :: R) ++ S)) w' := by
  have mixed := mixed
  have eg := C.goes
  have HC := Lib.hid C
  have hbn : b ≤ n := by simp only [List.length_append, List.length_cons] at hn; omega
  have am : (m : Int) - (a : Int) = 1 := by omega
  obtain ⟨t, ht0, ht, hcut⟩ := cut_at (fun q => decide (cf (R.getD (q - m) 0) e < 0)) m b (by omega) (fun c d h1 h2 h3 h4 => by
    simp only [decide_eq_true_eq] at *
    exact one_ahead_anti W hR (by omega) (by omega) h4)
  have hEnd : P ++ (srt cf (e :: R) ++ S) = wy P e R S (t - m) := by
    rw [one_ahead W hR hi (t := t - m) (fun q hq => by
      have := hcut (q + m) (by omega) (by omega)
      simp only [decide_eq_true_eq, Nat.add_sub_cancel] at this
      omega)]
    simp [wy]
  rw [hEnd]
  obtain ⟨X, hX⟩ : ∃ X, X = P ++ (e :: (R ++ S)) := ⟨_, rfl⟩
  have hX0 : X = wy P e R S 0 := by rw [hX]; simp [wy]
  have xe : X.getD a 0 = e := by rw [hX, ha]; exact getD_at _ _ _
  have xr : ∀ q, m ≤ q → q < b → X.getD q 0 = R.getD (q - m) 0 := fun q h1 h2 => by
    rw [hX0, wy]
    simp only [List.take_zero, List.drop_zero, List.nil_append, List.getD]
    rw [List.getElem?_append_right (by omega), show q - P.length = q - m + 1 by omega, List.getElem?_cons_succ, List.getElem?_append_left (by omega)]
  rw [← hX] at h hn
  have Hcut := Lib.hid (fun q (h1 : m ≤ q) (h2 : q < b) => by
    have := hcut q h1 h2
    simp only [decide_eq_true_eq] at this
    rw [← xr q h1 h2] at this
    exact this)
  have Hxe := Lib.hid xe
  have Hn := Lib.hid hn
  have HX0 := Lib.hid hX0
  have Hw := Lib.hid (fun q (hq : q < b - m) => ha ▸ wy_next P e R S (q := q) (by omega))
  have Hwl := Lib.hid (fun q => show (wy P e R S q).length = n by rw [wy_len, hn, hX0, wy_len])
  have H0 := Lib.hid h
  have amb : a < m ∧ m ≤ b ∧ m ≤ a + 1 := by omega
  clear hcut C h ha hmm hb hn hX hX0 xe xr hEnd
  go_enter Tryz.func110, Tryz.ntmps110
  go_wp2_with fail
  go_loopw [10, 11] (fun vi vj wr => ∃ (i j : Nat), vi = .int .i64 i ∧ vj = .int .i64 j ∧ m ≤ i ∧ i ≤ t ∧ t ≤ j ∧ j ≤ b ∧ Hid (Sw w0 g N X wr)) (fun vi vj _ => (intOf vj - intOf vi).toNat)
  case atStart => exact ⟨m, b, rfl, rfl, Nat.le_refl _, ht0, ht, Nat.le_refl _, H0⟩
  case round =>
    obtain ⟨i, j, rfl, rfl, h1, h2, h3, h4, HS⟩ := hrel
    by_cases hlt : i < j
    · have hI : (i : Int) < (j : Int) := by omega
      obtain ⟨hN, hhN⟩ : ∃ q, q = (i + j) / 2 := ⟨_, rfl⟩
      have zh : i ≤ hN ∧ hN < j := by omega
      have eh : (((i : Int) + (j : Int)) / 2).toNat = hN := by omega
      have ph : (0 : Int) ≤ ((i : Int) + (j : Int)) / 2 := by omega
      have bh : ((i : Int) + (j : Int)) / 2 < (n : Int) := by omega
      have an : (a : Int) < (n : Int) := by omega
      have l1 := HS.out.cells hN (by have := Hn.out; omega)
      have l2 := HS.out.cells a (by have := Hn.out; omega)
      have b1 := HS.out.bd hN (by have := Hn.out; omega)
      have b2 := HS.out.bd a (by have := Hn.out; omega)
      have hc0 := Hcut.out hN (by omega) (by omega)
      rw [Hxe.out] at l2 b2
      generalize X.getD hN 0 = y at *
      have hc := HS.out.cmp HC.out b1 b2
      have Hh := Lib.hid hhN
      clear hhN
      by_cases hv : cf y e < 0
      · have hdv : decide (cf y e < 0) = true := decide_eq_true hv
        have hht : hN < t := hc0.1 hv
        clear hc0
        go_wp2_with fail
        go_quiet_grown (first | (go_at_fn f; refine Calls.grown_of (hc _ _)))
        have S2 := Lib.hid (HS.out.grown nq osq)
        clear l1 l2 hc HS eh
        generalize grow (wr.drewN nq) osq = w2 at S2 ⊢
        clear nq osq
        go_wp2_with fail
        go_roundw
        case rel => exact ⟨hN + 1, j, by congr 1; have := Hh.out; omega, rfl, by omega, by omega, h3, h4, S2⟩
        case measure => simp [intOf]; omega
      · have hdv : decide (cf y e < 0) = false := decide_eq_false hv
        have hht : t ≤ hN := by
          rcases Nat.lt_or_ge hN t with q | q
          · exact absurd (hc0.2 q) hv
          · exact q
        clear hc0
        go_wp2_with fail
        go_quiet_grown (first | (go_at_fn f; refine Calls.grown_of (hc _ _)))
        have S2 := Lib.hid (HS.out.grown nq osq)
        clear l1 l2 hc HS eh
        generalize grow (wr.drewN nq) osq = w2 at S2 ⊢
        clear nq osq
        go_wp2_with fail
        go_roundw
        case rel => exact ⟨i, hN, rfl, by congr 1; have := Hh.out; omega, h1, h2, hht, by omega, S2⟩
        case measure => simp [intOf]; omega
    · have hI : ¬ (i : Int) < (j : Int) := by omega
      obtain rfl : t = i := by omega
      have S0 : Hid (Sw w0 g N (wy P e R S 0) wr) := by have := HS.out; rw [HX0.out] at this; exact Lib.hid this
      clear HS Hcut Hxe
      go_wp2_with fail
      obtain ⟨w9, rfl⟩ : ∃ w9 : World, w9 = wr := ⟨_, rfl⟩
      go_loopw [13] (fun vk wr => ∃ (q : Nat), vk = .int .i64 ((a : Int) + (q : Int)) ∧ q ≤ t - m ∧ Hid (Sw w0 g N (wy P e R S q) wr)) (fun vk _ => ((t : Int) - intOf vk).toNat)
      case atStart => exact ⟨0, by congr 1 <;> omega, by omega, S0⟩
      case round =>
        obtain ⟨q, rfl, hq, HS⟩ := hrel
        by_cases hlq : q < t - m
        · have hI2 : (a : Int) + (q : Int) < (t : Int) - 1 := by omega
          obtain ⟨x1, x2, x3, _⟩ := Hw.out q (by omega)
          obtain ⟨iN, hiN⟩ : ∃ z, z = a + q := ⟨_, rfl⟩
          obtain ⟨jN, hjN⟩ : ∃ z, z = a + q + 1 := ⟨_, rfl⟩
          rw [← hjN, ← hiN] at x3
          rw [← hiN] at x1
          rw [← hjN] at x2
          have hL := Hwl.out q
          have ea : ((a : Int) + (q : Int)).toNat = iN := by omega
          have pa : (0 : Int) ≤ (a : Int) + (q : Int) := by omega
          have ba : (a : Int) + (q : Int) < (n : Int) := by omega
          have ra : IntKind.i64.wrap ((a : Int) + (q : Int)) = (a : Int) + (q : Int) := by rw [IntKind.wrap_i64]; omega
          have eb : ((a : Int) + (q : Int) + 1).toNat = jN := by omega
          have pb : (0 : Int) ≤ (a : Int) + (q : Int) + 1 := by omega
          have bb : (a : Int) + (q : Int) + 1 < (n : Int) := by omega
          have rb : IntKind.i64.wrap ((a : Int) + (q : Int) + 1) = (a : Int) + (q : Int) + 1 := by rw [IntKind.wrap_i64]; omega
          have c1 := HS.out.cell iN (by omega)
          have c2 := HS.out.cell jN (by omega)
          have f1 := HS.out.free iN
          have f2 := HS.out.free jN
          have s1 := HS.out.swapped iN jN (by omega) (by omega)
          rw [x1] at c1
          rw [x2] at c2
          rw [x1, x2, x3] at s1
          generalize R.getD q 0 = y at *
          have c3 := HS.out.c2 iN jN (by omega) (by omega) (.int .i64 (y : Int))
          rw [x2] at c3
          have S1 := Lib.hid s1
          clear x1 x2 x3 s1 hiN hjN HS hL
          go_wp2_with fail
          go_big_region_o
          clear c1 c2 c3 f1 f2
          generalize ((wr.setCell ⟨g, iN, none⟩ (.int .i64 (y : Int))).setCell ⟨g, jN, none⟩ (.int .i64 (e : Int))).drew = w3 at S1 ⊢
          clear ea eb
          go_wp2_with fail
          go_roundw
          case rel => exact ⟨q + 1, by congr 1 <;> omega, by omega, S1⟩
          case measure => simp [intOf]; omega
        · have hI2 : ¬ (a : Int) + (q : Int) < (t : Int) - 1 := by omega
          obtain rfl : q = t - m := by omega
          go_wp2_with fail
          (try simp only [Exit.inBlock, Exit.then])
          refine bodyPost_ret (results_none rfl _ _ _) rfl ?_
          exact ⟨rfl, HS.out⟩
end Ssm
end Go.Proofs.YtoibpbnebcoafaaGreat
