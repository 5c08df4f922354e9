/- What runs.Flat and its reference do: the list that runs make up, or the error's number. -/
import Derived.Test.YtejhnmahmnbmkaaRunNums
import Derived.Deep.QuietTactic
import Derived.BigQuiet
namespace Go.Proofs.Ytejhnmahmnbmkaa
open Go.RowKit
namespace Rc

/-- What Flat has done when k runs are through. -/
def FlI (w : World) (rs : Rn.Rs) (k : Nat) (v : Value) (wr : World) : Prop :=
  ∃ ys : List Int, ys = Rn.flat (rs.take k) ∧ Rn.flE ys.length (rs.drop k) = Rn.flE 0 rs ∧ ys.length ≤ 4096 ∧ wr.ownsRow w.heap.size 3 1 v ys.length (ys.map (Value.int .i64)) ∧ Below w.heap.size w wr

set_option maxHeartbeats 1000000 in
theorem flat_any (A : Option Addr) (n c : Nat) (rs : Rn.Rs) (w : World) (hS : Wd.Sr w A n c rs) (hn : n ≤ 100000) :
    Calls Try.prog 13 #[.slice A n c] w (Wd.Out2 w .i64 (Rn.flL rs) (Rn.flE 0 rs)) := by
  have hl := hS.len
  have Hl := Lib.hid hl
  have hcap := hS.cap
  clear hl
  go_enter Try.func13, Try.ntmps13
  go_wp2_with fail
  go_loopw [4, 9] (fun v i wr => ∃ (k : Nat), i = .int .i64 k ∧ k ≤ n ∧ FlI w rs k v wr) (fun _ i _ => n - (intOf i).toNat)
  case atStart => exact ⟨0, rfl, Nat.zero_le _, [], rfl, rfl, by simp, World.ownsRow_nil _ _ _ _, Below.refl _ _⟩
  case round =>
    obtain ⟨k, rfl, hk, ys, hys, hE, hyl, hown, hB⟩ := hrel
    have hsz := hB.size
    obtain ⟨t, ht⟩ : ∃ t, t = ys.length := ⟨_, rfl⟩
    obtain ⟨A4, c4, rfl⟩ := Wd.own_slice hown ht.symm
    by_cases hlt : k < n
    · have hkl : k < rs.length := by rw [← Hl.out]; exact hlt
      obtain ⟨b, o, rfl, hb, c0, c1⟩ := (hS.below hB).at_ k hlt
      rw [Rn.drop_get rs k hkl, Rn.flE] at hE
      have hnx := Rn.flat_next rs k hkl
      rw [← hys] at hnx
      obtain ⟨⟨x, q⟩, hxq⟩ : ∃ p, p = rs.getD k (0, 0) := ⟨_, rfl⟩
      rw [← hxq] at hE hnx c0 c1
      dsimp only at hE hnx c0 c1
      rw [← Nat.add_assoc] at c1
      rw [← ht] at hE hyl
      have Hys := Lib.hid hys
      have Hnx := Lib.hid hnx
      have HE := Lib.hid hE
      have Ht := Lib.hid ht
      have hbW := (hS.below hB).rd
      clear hys hnx hE hxq ht hbW
      obtain ⟨wo, rfl⟩ : ∃ wo : World, wo = wr := ⟨_, rfl⟩
      by_cases h1 : q < 1
      · go_wp2_with fail
        go_ret2
        have e := HE.out
        rw [if_pos h1] at e
        rw [Rn.flL, ← e, if_neg (by omega)]
        exact Wd.Out2.err _ _ _ _ (hB.alloc hsz _)
      · have h1' : 1 ≤ q := by omega
        by_cases h2 : 4096 - (t : Int) < q
        · go_wp2_with fail
          go_ret2
          have e := HE.out
          rw [if_neg (by omega), if_pos h2] at e
          rw [Rn.flL, ← e, if_neg (by omega)]
          exact Wd.Out2.err _ _ _ _ (hB.alloc hsz _)
        · have h2' : q ≤ 4096 - (t : Int) := by omega
          go_wp2_with fail
          refine (appendRun_any w.heap.size _ ys x q _ (hown.alloc _) (by simp; omega) (by have := Ht.out; omega) (by omega) (by omega)).mono ?_
          rintro e w4 ⟨v4, rfl, hown4, hB4⟩
          have hW4 : Below w.heap.size w w4 := (hB.alloc hsz _).trans hB4
          go_wp2_with fail
          go_roundw
          case rel =>
            refine ⟨k + 1, by go_num, by omega, ys ++ List.replicate q.toNat x, Hnx.out.symm, ?_, ?_, hown4, hW4⟩
            · have e := HE.out
              rw [if_neg (by omega), if_neg (by omega)] at e
              rw [List.length_append, List.length_replicate, ← Ht.out]
              exact e
            · rw [List.length_append, List.length_replicate, ← Ht.out]; omega
          case measure => simp [intOf]; omega
    · go_wp2_with fail
      go_ret2
      rw [List.drop_of_length_le (by have := Hl.out; omega)] at hE
      have e : Rn.flE 0 rs = 0 := hE.symm
      rw [List.take_of_length_le (by have := Hl.out; omega)] at hys
      rw [Rn.flL, e, if_pos rfl, ← hys]
      obtain ⟨A', n', c', e2, hS'⟩ := Wd.Sl.of_own hown
      cases e2
      exact ⟨_, _, _, rfl, hS', hB⟩

set_option maxHeartbeats 2000000 in
theorem refFlat_any (A : Option Addr) (n c : Nat) (rs : Rn.Rs) (w : World) (hS : Wd.Sr w A n c rs) (hn : n ≤ 100000) :
    Calls Try.prog 14 #[.slice A n c] w (Wd.Out2 w .i64 (Rn.flL rs) (Rn.flE 0 rs)) := by
  obtain ⟨i0, hi, hz0, hz1, hz2⟩ := info_parts info_int
  have hl := hS.len
  have Hl := Lib.hid hl
  have hcap := hS.cap
  clear hl
  go_enter Try.func14, Try.ntmps14
  go_wp2_with fail
  go_loopw [4, 5] (fun v i wr => ∃ (k : Nat), i = .int .i64 k ∧ k ≤ n ∧ FlI w rs k v wr) (fun _ i _ => n - (intOf i).toNat)
  case atStart => exact ⟨0, rfl, Nat.zero_le _, [], rfl, rfl, by simp, World.ownsRow_nil _ _ _ _, Below.refl _ _⟩
  case round =>
    obtain ⟨k, rfl, hk, ys, hys, hE, hyl, hown, hB⟩ := hrel
    have hsz := hB.size
    obtain ⟨t, ht⟩ : ∃ t, t = ys.length := ⟨_, rfl⟩
    obtain ⟨A4, c4, rfl⟩ := Wd.own_slice hown ht.symm
    by_cases hlt : k < n
    · have hkl : k < rs.length := by rw [← Hl.out]; exact hlt
      obtain ⟨b, o, rfl, hb, c0, c1⟩ := hS.at_ k hlt
      have cc0 := (hB.cell (p := ⟨b, o + k * 2, none⟩) hb).trans c0
      have cc1 := (hB.cell (p := ⟨b, o + (k * 2 + 1), none⟩) hb).trans c1
      rw [Rn.drop_get rs k hkl, Rn.flE] at hE
      have hnx := Rn.flat_next rs k hkl
      rw [← hys] at hnx
      obtain ⟨⟨x, q⟩, hxq⟩ : ∃ p, p = rs.getD k (0, 0) := ⟨_, rfl⟩
      rw [← hxq] at hE hnx cc0 cc1 c0
      dsimp only at hE hnx cc0 cc1 c0
      rw [← Nat.add_assoc] at cc1
      rw [← ht] at hE hyl
      have Hys := Lib.hid hys
      have Hnx := Lib.hid hnx
      have HE := Lib.hid hE
      have Ht := Lib.hid ht
      have i1 : (k : Int) < (n : Int) := by omega
      have Hc0 := Lib.hid c0
      have Hcq := Lib.hid c1
      clear hys hnx hE ht c0 c1
      obtain ⟨wo, rfl⟩ : ∃ wo : World, wo = wr := ⟨_, rfl⟩
      by_cases h1 : q < 1
      · clear hxq
        go_wp2_with fail
        go_ret2
        have e := HE.out
        rw [if_pos h1] at e
        rw [Rn.flL, ← e, if_neg (by omega)]
        exact Wd.Out2.err _ _ _ _ hB
      · have h1' : 1 ≤ q := by omega
        by_cases h2 : 4096 - (t : Int) < q
        · clear hxq
          by_cases h3 : 4096 < q
          · go_wp2_with fail
            go_ret2
            have e := HE.out
            rw [if_neg (by omega), if_pos h2] at e
            rw [Rn.flL, ← e, if_neg (by omega)]
            exact Wd.Out2.err _ _ _ _ hB
          · have h4 : 4096 < (t : Int) + q := by omega
            go_wp2_with fail
            go_ret2
            have e := HE.out
            rw [if_neg (by omega), if_pos h2] at e
            rw [Rn.flL, ← e, if_neg (by omega)]
            exact Wd.Out2.err _ _ _ _ hB
        · have h2' : q ≤ 4096 - (t : Int) := by omega
          have h3 : ¬ 4096 < q := by omega
          have h4 : (t : Int) + q ≤ 4096 := by omega
          have cV : ∀ w', Below w.heap.size w w' → w'.cell? ⟨b, o + k * 2, none⟩ = some (.int .i64 x) := fun w' hb' => (hb'.cell (p := ⟨b, o + k * 2, none⟩) hb).trans Hc0.out
          have cN : ∀ w', Below w.heap.size w w' → w'.cell? ⟨b, o + k * 2 + 1, none⟩ = some (.int .i64 q) := fun w' hb' => by
            have h := (hb'.cell (p := ⟨b, o + (k * 2 + 1), none⟩) hb).trans Hcq.out
            rw [← hxq, ← Nat.add_assoc] at h
            exact h
          have CV := Lib.hid cV
          have CN := Lib.hid cN
          clear hxq cV cN
          have hown' : wo.ownsRow w.heap.size 3 1 (.slice A4 t c4) (ys ++ List.replicate 0 x).length ((ys ++ List.replicate 0 x).map (Value.int .i64)) := by simpa using hown
          go_wp2_with fail
          go_loopw [4, 6] (fun v i wr => ∃ (j : Nat), i = .int .i64 j ∧ (j : Int) ≤ q ∧ wr.ownsRow w.heap.size 3 1 v (ys ++ List.replicate j x).length ((ys ++ List.replicate j x).map (Value.int .i64)) ∧ Below w.heap.size w wr) (fun _ i _ => (q - intOf i).toNat)
          case atStart => exact ⟨0, rfl, by omega, hown', hB⟩
          case round =>
            clear hown' hown cc0 cc1
            obtain ⟨j, rfl, hj, hown, hW⟩ := hrel
            have hsz2 := hW.size
            have d0 := CV.out wr hW
            have d1 := CN.out wr hW
            by_cases hjq : (j : Int) < q
            · have hnj : ys ++ List.replicate (j + 1) x = (ys ++ List.replicate j x) ++ [x] := by rw [List.replicate_succ', List.append_assoc]
              have hyl2 : (ys ++ List.replicate j x).length ≤ 10000 := by rw [List.length_append, List.length_replicate, ← Ht.out]; omega
              obtain ⟨zs, hzs⟩ : ∃ zs, zs = ys ++ List.replicate j x := ⟨_, rfl⟩
              rw [← hzs] at hnj hyl2 hown
              have Hnj := Lib.hid hnj
              clear hnj hzs
              obtain ⟨wq, rfl⟩ : ∃ wq : World, wq = wr := ⟨_, rfl⟩
              go_wp2_with (at_builtin; refine Wd.wpList_app _ rfl (.tmp 45) (.tmp 51) 22 rfl w.heap.size 3 i0 _ .i64 8 Try.underlying22 hi hz0 hz1 hz2 rfl _ zs rfl (hown.alloc _) (wq.heap.size + 1) _ 1 1 [x] rfl rfl (by simp) (Wd.Rd.lit wq .i64 [x] _ _ rfl) (by simp; omega) (by simp [maxLen]; omega) (by simp; omega) ?_; intro v' w1 hown1 hg1)
              go_roundw
              case rel => exact ⟨j + 1, by go_num, by omega, by rw [Hnj.out]; exact hown1, (hW.alloc hsz2 _).grown hg1 (by simp; omega) (fun g hg => (hown.lt g hg).1)⟩
              case measure => simp [intOf]; omega
            · go_wp2_with fail
              go_roundw
              case rel =>
                have ej : q.toNat = j := by omega
                refine ⟨k + 1, by go_num, by omega, ys ++ List.replicate j x, by rw [← ej]; exact Hnx.out.symm, ?_, ?_, hown, hW⟩
                · have e := HE.out
                  rw [if_neg (by omega), if_neg (by omega), ej] at e
                  rw [List.length_append, List.length_replicate, ← Ht.out]
                  exact e
                · rw [List.length_append, List.length_replicate, ← Ht.out]; omega
              case measure => simp [intOf]; omega
    · go_wp2_with fail
      go_ret2
      rw [List.drop_of_length_le (by have := Hl.out; omega)] at hE
      have e : Rn.flE 0 rs = 0 := hE.symm
      rw [List.take_of_length_le (by have := Hl.out; omega)] at hys
      rw [Rn.flL, e, if_pos rfl, ← hys]
      obtain ⟨A', n', c', e2, hS'⟩ := Wd.Sl.of_own hown
      cases e2
      exact ⟨_, _, _, rfl, hS', hB⟩
end Rc
end Go.Proofs.Ytejhnmahmnbmkaa
