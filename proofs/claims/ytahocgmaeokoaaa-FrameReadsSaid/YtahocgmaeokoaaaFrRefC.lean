/- What the reference function Read of layer 4 does. -/
import Derived.Test.YtahocgmaeokoaaaFrRefA
import Derived.Test.YtahocgmaeokoaaaNumRefAll
import Derived.Test.YtahocgmaeokoaaaLists
namespace Go.Proofs.Ytahocgmaeokoaaa
open Go.RowKit
namespace Fc
open Nc
theorem info_bs' : (Try.prog.info? 22).map (fun i => (i.zero, i.size, i.bytes)) = some (some (.slice none 0 0), 1, 24) := by kernel_rfl

/-- How far the reference has read. -/
def AtR (b : List Int) (k : Nat) (pre : List (List Int)) : Prop := Fr.rd b = (pre ++ (Fr.rd (b.drop k)).1, k + (Fr.rd (b.drop k)).2)
theorem atR_zero (b : List Int) : AtR b 0 [] := by simp [AtR]
theorem atR_next {b p : List Int} {k s : Nat} {pre : List (List Int)} (h : AtR b k pre) (ho : Fr.openF (b.drop k) = some (p, s)) : AtR b (k + s) (pre ++ [p]) := by
  unfold AtR at h ⊢
  rw [h, Fr.rd_some ho, List.drop_drop, List.append_assoc, List.singleton_append, Nat.add_assoc]
theorem atR_end {b : List Int} {k : Nat} {pre : List (List Int)} (h : AtR b k pre) (ho : Fr.openF (b.drop k) = none) : Fr.rd b = (pre, k) := by
  unfold AtR at h
  rw [h, Fr.rd_none ho, List.append_nil]
  rfl

set_option maxRecDepth 100000 in
set_option maxHeartbeats 2000000 in
theorem refRead_any (A : Option Addr) (n c : Nat) (b : List Int) (w : World) (hS : Wd.Sl w .u8 A n c b) (hB : Nm.Byt b) (hm : n ≤ 1000000) :
    Calls Try.prog 15 #[.slice A n c] w (Wd.OutSs w (Fr.rd b).1 (Fr.rd b).2) := by
  obtain ⟨i0, hi, hz0, hz1, hz2⟩ := info_parts info_u8
  obtain ⟨i1, hi1, hy0, hy1, hy2⟩ := info_parts info_bs'
  have Hl := Lib.hid hS.len
  have HS := Lib.hid hS
  have HB := Lib.hid hB
  have hcap := hS.cap
  have hmx := hS.max
  unfold maxLen at hmx
  obtain ⟨R, hR⟩ : ∃ R, R = Fr.rd b := ⟨_, rfl⟩
  rw [← hR]
  have HR := Lib.hid hR
  clear hS hB hR
  go_enter Try.func15, Try.ntmps15
  go_wp2_with fail
  go_loopw [4, 5] (fun v i wr => ∃ (k : Nat) (pre : List (List Int)) (vs : List Value), i = .int .i64 (k : Int) ∧ k ≤ n ∧ pre.length ≤ k ∧ Hid (AtR b k pre) ∧ wr.ownsRow w.heap.size 22 1 v pre.length vs ∧ Wd.Hs wr 5 vs pre ∧ Below w.heap.size w wr) (fun _ i _ => n - (intOf i).toNat)
  case atStart => exact ⟨0, [], [], rfl, Nat.zero_le _, Nat.le_refl _, Lib.hid (atR_zero b), World.ownsRow_nil _ _ _ _, Wd.Hs.nil _ _, Below.refl _ _⟩
  case round =>
    obtain ⟨k, pre, vs, rfl, hk, hpl, hAt, hO, hH, hb⟩ := hrel
    have hSw := HS.out.below hb
    have hcut := hSw.cut k hk
    have hBd : Nm.Byt (b.drop k) := fun x hx => HB.out x (List.mem_of_mem_drop hx)
    have hdl : (b.drop k).length = n - k := by rw [List.length_drop, ← Hl.out]
    rcases Nat.lt_or_ge k c with hck | hck
    · rw [if_neg (by omega)] at hcut
      have C1 := refGetLen_all _ (n - k) (c - k) (b.drop k) wr hcut hBd
      by_cases h0 : (Nm.getL (b.drop k)).2.2 ≠ 0 ∨ 65536 < (Nm.getL (b.drop k)).1
      · have hN : Fr.openF (b.drop k) = none := if_pos h0
        have hend := atR_end hAt.out hN
        rw [← HR.out] at hend
        generalize Nm.getL (b.drop k) = q at *
        obtain ⟨v, g, er⟩ := q
        have C := Lib.hid C1
        have He := Lib.hid hend
        clear C1 hend hN hcut hSw
        by_cases h1 : er = 0
        · subst h1
          have h2 : 65536 < v := by simpa using h0
          clear h0
          go_wp2_with fail
          refine C.out.mono ?_
          rintro e w1 ⟨rfl, rfl⟩
          unfold three
          go_wp2_with fail
          go_ret2
          obtain ⟨A', n', c', rfl, hSs⟩ := Wd.Ss.of_own hO hH
          rw [He.out]
          exact ⟨A', n', c', rfl, hSs, hb⟩
        · have hne : (er != 0) = true := by rw [bne_iff_ne]; exact h1
          clear h0
          go_wp2_with fail
          refine C.out.mono ?_
          rintro e w1 ⟨rfl, rfl⟩
          unfold three
          go_wp2_with fail
          go_ret2
          obtain ⟨A', n', c', rfl, hSs⟩ := Wd.Ss.of_own hO hH
          rw [He.out]
          exact ⟨A', n', c', rfl, hSs, hb⟩
      · have hz : (Nm.gv (b.drop k)).2.2 = 0 := by
          refine Classical.byContradiction fun q => h0 (.inl ?_)
          unfold Nm.getL
          rw [if_neg q]
          exact q
        obtain ⟨g, u, hgv, g1, g2, g3, u0, u1, htk, _⟩ := Nm.gv_only (b.drop k) hBd hz
        have hu : ¬ 9223372036854775807 < u := by
          intro q
          refine h0 (.inl ?_)
          unfold Nm.getL
          rw [hgv]
          simp only [if_pos q]
          decide
        have hg : Nm.getL (b.drop k) = (u, (g : Int), 0) := by
          unfold Nm.getL
          rw [hgv]
          exact if_neg hu
        have hu2 : u ≤ 65536 := by rw [hg] at h0; simp at h0; exact h0
        obtain ⟨N, rfl⟩ := Int.eq_ofNat_of_zero_le u0
        have hN : N ≤ 65536 := by omega
        have hof : Fr.openF (b.drop k) = if (b.drop k).length < g + N + 4 then none else if Fr.le4 (Fr.sum (((b.drop k).drop g).take N)) = ((b.drop k).drop (g + N)).take 4 then some (((b.drop k).drop g).take N, g + N + 4) else none := by
          unfold Fr.openF
          rw [if_neg h0, hg]
          simp only [Int.toNat_natCast]
        rw [hg] at C1
        rw [hdl] at hof g2
        clear h0 hz hgv hu hg u0 u1 hu2
        have C := Lib.hid C1
        clear C1
        by_cases h1 : n - k < g + N + 4
        · rw [if_pos h1] at hof
          have hend := atR_end hAt.out hof
          rw [← HR.out] at hend
          have He := Lib.hid hend
          have hI : (n : Int) < (k : Int) + (g : Int) + (N : Int) + 4 := by omega
          clear hend hof hcut hSw htk
          go_wp2_with fail
          refine C.out.mono ?_
          rintro e w1 ⟨rfl, rfl⟩
          unfold three
          go_wp2_with fail
          go_ret2
          obtain ⟨A', n', c', rfl, hSs⟩ := Wd.Ss.of_own hO hH
          rw [He.out]
          exact ⟨A', n', c', rfl, hSs, hb⟩
        · rw [if_neg h1] at hof
          have hI : (k : Int) + (g : Int) + (N : Int) + 4 ≤ (n : Int) := by omega
          obtain ⟨p, hp⟩ : ∃ p, p = ((b.drop k).drop g).take N := ⟨_, rfl⟩
          have hfi := Fr.frame_iff htk (by rw [hdl]; omega) hp
          rw [← hp] at hof
          have hSp := hSw.mid' (k + g) (k + g + N) (by omega) (by omega) (by omega)
          have hSt := hSw.mid k (k + g + N + 4) (by omega) (by omega)
          rw [if_neg (by omega)] at hSt
          rw [← List.drop_drop, show k + g + N - (k + g) = N by omega, ← hp] at hSp
          rw [show k + g + N + 4 - k = g + N + 4 by omega] at hSt
          have hBp : Nm.Byt p := fun x hx => hBd x (List.mem_of_mem_drop (List.mem_of_mem_take (hp ▸ hx)))
          have Cs := refSeal_own _ N _ p wr hSp hBp hN
          have hC := Lib.hid Cs
          have HSp := Lib.hid hSp
          have HSt := Lib.hid hSt
          clear Cs hSp hSt
          go_wp2_with fail
          refine C.out.mono ?_
          rintro e w1 ⟨rfl, rfl⟩
          unfold three
          go_wp2_with fail
          refine hC.out.mono ?_
          rintro e w2 ⟨A2, n2, c2, rfl, hS2, hb2⟩
          obtain ⟨γ, hγ⟩ : ∃ γ, γ = decide (Fr.frame p = (b.drop k).take (g + N + 4)) := ⟨_, rfl⟩
          have Cq := same_any A2 _ n2 (k + g + N + 4 - k) c2 (c - k) _ _ w2 hS2 (by rw [show k + g + N + 4 - k = g + N + 4 by omega]; exact HSt.out.below hb2)
          rw [← hγ] at Cq
          have HCq := Lib.hid Cq
          have Hγ := Lib.hid hγ
          have Hof := Lib.hid hof
          have Hfi := Lib.hid hfi
          have Htk := Lib.hid htk
          have Hp := Lib.hid hp
          clear Cq hγ hof hfi htk hp hS2 hC C hBd hcut hSw
          go_wp2_with fail
          refine HCq.out.mono ?_
          rintro e w3 ⟨rfl, q, rfl⟩
          have hb23 : Below wr.heap.size wr (w2.drewN q) := Wd.below_drewN hb2 q
          have hb3 : Below w.heap.size w (w2.drewN q) := hb.trans (hb23.mono hb.size)
          have hO3 := Wd.own_below hO hb23
          have hH3 := hH.below hb23
          have hSp3 := HSp.out.below hb23
          generalize w2.drewN q = w3 at *
          clear hb23 hb2 HCq HSt HSp hO hH hb
          cases γ with
          | false =>
            have hn : Fr.openF (b.drop k) = none := by
              rw [Hof.out, if_neg (fun h => of_decide_eq_false Hγ.out.symm (Hfi.out.2 h))]
            have hend := atR_end hAt.out hn
            rw [← HR.out] at hend
            have He := Lib.hid hend
            clear hn hend
            go_wp2_with fail
            go_ret2
            obtain ⟨A', n', c', rfl, hSs⟩ := Wd.Ss.of_own hO3 hH3
            rw [He.out]
            exact ⟨A', n', c', rfl, hSs, hb3⟩
          | true =>
            have hs : Fr.openF (b.drop k) = some (p, g + N + 4) := by
              rw [Hof.out, if_pos (Hfi.out.1 (of_decide_eq_true Hγ.out.symm))]
            have hnx := atR_next hAt.out hs
            have Hnx := Lib.hid hnx
            have hpl2 := Lib.hid hSp3.len
            clear hs hnx
            have hs3 := hb3.size
            go_wp2_with (at_builtin; first | (refine Wd.wpList_app _ rfl (.const (.slice none 0 0)) (.tmp 71) 22 rfl w3.heap.size 5 i0 _ .u8 1 Try.underlying22 hi hz0 hz1 hz2 rfl (.slice none 0 0) [] rfl (World.ownsRow_nil _ _ _ _) w3.heap.size _ N _ p rfl hpl2.out hSp3.nil hSp3.rd (by simp only [List.length_nil]; rw [← hpl2.out]; omega) (by simp only [List.length_nil]; rw [← hpl2.out]; unfold maxLen; omega) (Nat.le_refl _) ?_; intro v4 w4 hO4 hg4; obtain ⟨A4, n4, c4, rfl, _⟩ := Wd.Sl.of_own hO4; have hb34 : Below w3.heap.size w3 w4 := (Below.refl _ _).grown hg4 (Nat.le_refl _) (by simp [Value.ownBlock]); have hO34 := Wd.own_below hO3 hb34; have hs34 := hb34.size) | (refine Wd.wpList_app1v _ rfl (.tmp 70) (.tmp 73) 30 rfl w.heap.size 22 i1 _ 24 Try.underlying30 hi1 hy0 hy1 hy2 rfl _ pre.length vs rfl (hO34.alloc _) ⟨w4.heap.size, 0, none⟩ (.slice A4 n4 c4) rfl (Wd.Var.new w4 _ _).cell (Addr.add_lit _ _ _) rfl (by unfold maxLen; omega) (by omega) (by simp; omega) ?_; intro v6 w6 hO6 hg6))
            go_roundw
            case rel =>
              have hO4' : w4.ownsRow 0 5 1 (.slice A4 n4 c4) p.length (p.map (Value.int .u8)) := Wd.own_down hO4 (Nat.zero_le _)
              have hHs : Wd.Hs w6 5 (vs ++ [.slice A4 n4 c4]) (pre ++ [p]) := by
                refine Wd.Hs.grown (w := w4.alloc _) ?_ (hO34.alloc _) (by decide) hg6
                exact ((hH3.below hb34).below ((Below.refl _ _).alloc (Nat.le_refl _) _)).snoc (hO4'.alloc _)
              refine ⟨k + (g + N + 4), pre ++ [p], _, by go_num, by omega, by simp; omega, Hnx, by rw [List.length_append]; exact hO6, hHs, ?_⟩
              exact (hb3.trans ((hb34.alloc hb34.size _).mono hs3)).grown hg6 (by simp; omega) fun g hg => (hO34.lt g hg).1
            case measure => simp [intOf]; omega
    · have hkn : k = n := by omega
      have hcn : c = n := by omega
      have hbd : b.drop k = [] := List.drop_of_length_le (by rw [← Hl.out]; omega)
      have hN : Fr.openF (b.drop k) = none := by rw [hbd]; exact Fr.openF_nil
      have hend := atR_end hAt.out hN
      rw [← HR.out] at hend
      have He := Lib.hid hend
      subst hkn hcn
      rw [if_pos rfl, Nat.sub_self] at hcut
      have C1 := refGetLen_all _ 0 0 (b.drop c) wr hcut hBd
      rw [hbd, show Nm.getL [] = (0, 0, 6) from rfl] at C1
      have C := Lib.hid C1
      clear C1 hend hN hbd hcut hSw hdl hBd
      go_wp2_with fail
      refine C.out.mono ?_
      rintro e w1 ⟨rfl, rfl⟩
      unfold three
      go_wp2_with fail
      go_ret2
      obtain ⟨A', n', c', rfl, hSs⟩ := Wd.Ss.of_own hO hH
      rw [He.out]
      exact ⟨A', n', c', rfl, hSs, hb⟩
end Fc
end Go.Proofs.Ytahocgmaeokoaaa
