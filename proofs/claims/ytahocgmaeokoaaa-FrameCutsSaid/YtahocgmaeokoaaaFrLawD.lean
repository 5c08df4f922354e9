/- The walk of the statement FrameCuts of layer 4. -/
import Derived.Test.YtahocgmaeokoaaaFrAwake
import Derived.Test.YtahocgmaeokoaaaFrRefB
import Derived.Test.YtahocgmaeokoaaaFrCuts
import Derived.Test.YtahocgmaeokoaaaNumRead
namespace Go.Proofs.Ytahocgmaeokoaaa
open Go.RowKit
namespace Lw
open Fc Nc

/-- Two rows of different types are two blocks. -/
theorem own_apart {w : World} {B B' : Nat} {e e' : TypeId} {s s' n n' : Nat} {v v' : Value} {xs xs' : List Value} (h : w.ownsRow B e s v n xs) (h' : w.ownsRow B' e' s' v' n' xs') (hne : e ≠ e') : v.ownBlock = none ∨ v.ownBlock ≠ v'.ownBlock := by
  rcases h.2 with ⟨rfl, _⟩ | ⟨g, cap, cur, rfl, _, hg, _⟩
  · exact .inl rfl
  · right
    rcases h'.2 with ⟨rfl, _⟩ | ⟨g', cap', cur', rfl, _, hg', _⟩
    · simp [Value.ownBlock]
    · intro e1
      obtain rfl : g = g' := by simpa [Value.ownBlock] using e1
      rw [hg] at hg'
      simp only [Option.some.injEq, Obj.cells.injEq] at hg'
      exact hne hg'.2.1
theorem info_int : (Try.prog.info? 3).map (fun i => (i.zero, i.size, i.bytes)) = some (some (.int .i64 0), 1, 8) := by kernel_rfl
/-- Where the first k frames end. -/
def edsL (l : List (List Int)) (k : Nat) : List Int := (List.range k).map fun i => ((Fr.ed l (i + 1) : Nat) : Int)
theorem edsL_len (l : List (List Int)) (k : Nat) : (edsL l k).length = k := by simp [edsL]
theorem edsL_succ (l : List (List Int)) (k : Nat) : edsL l (k + 1) = edsL l k ++ [((Fr.ed l (k + 1) : Nat) : Int)] := by simp [edsL, List.range_succ]
theorem edsL_get (l : List (List Int)) (k j : Nat) (h : j < k) : (edsL l k).getD j 0 = ((Fr.ed l (j + 1) : Nat) : Int) := by simp [edsL, List.getD, h]
theorem fine_of {l : List (List Int)} (h : fewB l = true) (hF : ∀ y, y ∈ l → Wd.Fits .u8 y) : Fr.Fine l := fun p hp => ⟨by have := (fewB_of h).2 p hp; omega, byt_of (hF p hp)⟩
theorem few_len {l : List (List Int)} (h : fewB l = true) (k : Nat) : Fr.ed l k ≤ 6280 := by
  have h1 := fewB_of h
  have h2 := Fr.cat_len (l := l.take k) (n := 300) (fun p hp => h1.2 p (List.mem_of_mem_take hp))
  rw [List.length_take] at h2
  have : min k l.length * (300 + 14) ≤ 20 * (300 + 14) := Nat.mul_le_mul_right _ (by omega)
  unfold Fr.ed
  omega
theorem ed_mono (l : List (List Int)) (k : Nat) (hk : k < l.length) : Fr.ed l k ≤ Fr.ed l (k + 1) := by rw [Fr.ed_succ l k hk]; omega
theorem nextC {a x y : World} (h : Below a.heap.size a x) (k : Below x.heap.size x y) : Below a.heap.size a y := h.trans (k.mono h.size)

set_option maxRecDepth 100000 in
set_option maxHeartbeats 2000000 in
theorem cuts_ok (A : Option Addr) (n c : Nat) (l : List (List Int)) (cut : Nat) (w : World) (hS : Wd.Ss w A n c l) (hF : ∀ y, y ∈ l → Wd.Fits .u8 y) (hf : fewB l = true) (hcut : (cut : Int) ≤ 9223372036854775807) :
    Calls Try.prog 5 #[.slice A n c, .int .i64 (cut : Int)] w fun e w' => e = .returned (.bool true) ∧ Below w.heap.size w w' := by
  obtain ⟨i0, hi, hz0, hz1, hz2⟩ := info_parts info_u8
  obtain ⟨i1, hi1, hy0, hy1, hy2⟩ := info_parts info_int
  have Hl := Lib.hid hS.len
  have HS := Lib.hid hS
  have Hf := Lib.hid hf
  have HF := Lib.hid hF
  have hfine := Lib.hid (fine_of hf hF)
  have hn20 : n ≤ 20 := by rw [Hl.out]; exact (fewB_of hf).1
  have hcap := hS.cap
  have hmx := hS.max
  unfold maxLen at hmx
  have Cf := Lib.hid fun w' hb => few_any A n c l w' (hS.below hb)
  rw [hf] at Cf
  clear hS hf hF
  go_enter Try.func5, Try.ntmps5
  go_wp2_with fail
  refine (awake_any w).mono ?_
  rintro e w1 ⟨rfl, hb1⟩
  go_wp2_with fail
  refine (Cf.out w1 hb1).mono ?_
  rintro e w2 ⟨rfl, rfl⟩
  clear Cf
  go_wp2_with fail
  go_loopw [7, 8, 9] (fun va ve i wr => ∃ k : Nat, i = .int .i64 (k : Int) ∧ k ≤ n ∧ wr.ownsRow w.heap.size 5 1 va (Fr.cat (l.take k)).length ((Fr.cat (l.take k)).map (Value.int .u8)) ∧ wr.ownsRow w.heap.size 3 1 ve (edsL l k).length ((edsL l k).map (Value.int .i64)) ∧ Below w.heap.size w wr) (fun _ _ i _ => n - (intOf i).toNat)
  case atStart => exact ⟨0, rfl, Nat.zero_le _, World.ownsRow_nil _ _ _ _, World.ownsRow_nil _ _ _ _, hb1⟩
  case round =>
    clear hb1
    obtain ⟨k, rfl, hk, hOa, hOe, hb⟩ := hrel
    have hsz := hb.size
    by_cases hlt : k < n
    · have hkl : k < l.length := by rw [← Hl.out]; exact hlt
      obtain ⟨b1, o1, A1, n1, c1, rfl, hlt1, cc1, hS1⟩ := (HS.out.below hb).at_ k hkl
      have hp3 := fewB_get Hf.out k hkl
      have hpB : Nm.Byt (l.getD k []) := byt_of (HF.out _ (by simp [List.getD, hkl]))
      have hn1 : n1 ≤ 65536 := by rw [hS1.len]; omega
      have Cs := Lib.hid (Seal_any A1 n1 c1 (l.getD k []) wr hS1 hpB hn1)
      have hnx := Fr.cat_take l k hkl
      have hl1 := few_len Hf.out k
      have hl2 := few_len Hf.out (k + 1)
      have hed : Fr.ed l (k + 1) = (Fr.cat (l.take (k + 1))).length := rfl
      have hes := edsL_succ l k
      have hel := edsL_len l k
      have iI : (k : Int) < (n : Int) := by omega
      rw [hnx] at hed
      unfold Fr.ed at hl1
      generalize Fr.frame (l.getD k []) = fr at *
      obtain ⟨E, hE⟩ : ∃ E, E = Fr.ed l (k + 1) := ⟨_, rfl⟩
      rw [← hE] at hed hes hl2
      rw [List.length_append] at hed
      have Hnx := Lib.hid hnx
      have Hes := Lib.hid hes
      have Hed := Lib.hid hed
      have Hel := Lib.hid hel
      clear hnx hed hes hE hel hS1 hpB hp3
      generalize Fr.cat (l.take k) = cs at *
      generalize edsL l k = es at *
      go_wp2_with fail
      refine Cs.out.mono ?_
      rintro e w3 ⟨A3, n3, c3, rfl, hS3, hb3⟩
      have hOa3 := Wd.own_below hOa hb3
      have hOe3 := Wd.own_below hOe hb3
      have hW3 := nextC hb hb3
      have H3 := Lib.hid hS3.len
      have hs3 := hW3.size
      clear hOa hOe hb hb3 Cs
      go_wp2_with (at_builtin; first | (refine Wd.wpList_app _ rfl (.tmp 49) (.tmp 50) 22 rfl w.heap.size 5 i0 _ .u8 1 Try.underlying22 hi hz0 hz1 hz2 rfl _ cs rfl hOa3 w3.heap.size A3 n3 c3 fr rfl H3.out hS3.nil hS3.rd (by rw [← Hed.out]; omega) (by rw [← Hed.out]; unfold maxLen; omega) hs3 ?_; intro v4 w4 hO4 hg4; have hOe4 := hOe3.kept hg4 (own_apart hOe3 hOa3 (by decide)); have hW4 : Below w.heap.size w w4 := hW3.grown hg4 hs3 (fun g hg => (hOa3.lt g hg).1); have hs4 := hW4.size; obtain ⟨A4, n4, c4, rfl, hS4⟩ := Wd.Sl.of_own hO4; have h4 : n4 = E := (by rw [hS4.len, List.length_append]; exact Hed.out.symm); subst h4) | (refine Wd.wpList_app _ rfl (.tmp 52) (.tmp 55) 36 rfl w.heap.size 3 i1 _ .i64 8 Try.underlying36 hi1 hy0 hy1 hy2 rfl _ es rfl (hOe4.alloc _) (w4.heap.size + 1) _ 1 1 [(n4 : Int)] rfl rfl (by simp) (Wd.Rd.lit w4 .i64 [(n4 : Int)] _ _ rfl) (by rw [Hel.out]; simp; omega) (by rw [Hel.out]; simp [maxLen]; omega) (by simp; omega) ?_; intro v6 w6 hO6 hg6))
      go_roundw
      case rel =>
        have hO4a := hO4.alloc (.cells #[.int .i64 (n4 : Int)] 3)
        refine ⟨k + 1, by go_num, by omega, ?_, ?_, ?_⟩
        · rw [Hnx.out]
          exact hO4a.kept hg6 (own_apart hO4a (hOe4.alloc _) (by decide))
        · rw [Hes.out]
          exact hO6
        · exact (hW4.alloc hs4 _).grown hg6 (by simp; omega) fun g hg => (hOe4.lt g hg).1
      case measure => simp [intOf]; omega
    · have hkn : k = n := by omega
      subst hkn
      have htk : l.take k = l := List.take_of_length_le (by rw [← Hl.out]; exact Nat.le_refl _)
      rw [htk] at hOa
      have hcl : (Fr.cat l).length = Fr.ed l k := by rw [Hl.out, Fr.ed_all]
      have hl1 := few_len Hf.out k
      obtain ⟨Aa, na, ca, rfl, hSa⟩ := Wd.Sl.of_own hOa
      obtain ⟨Ae, ne, ce, rfl, hSe⟩ := Wd.Sl.of_own hOe
      have hna : na = Fr.ed l k := by rw [hSa.len, hcl]
      have hne : ne = k := by rw [hSe.len, edsL_len]
      have hna2 : na ≤ 6280 := by rw [hna]; exact hl1
      have hca := hSa.cap
      have hce := hSe.cap
      have hcm := hSa.max
      have hcm2 := hSe.max
      unfold maxLen at hcm hcm2
      subst hne
      obtain ⟨at_, hat⟩ : ∃ a, a = cut % (na + 1) := ⟨_, rfl⟩
      have hatl : at_ ≤ na := by
        have := Nat.mod_lt cut (show 0 < na + 1 by omega)
        omega
      have hatI : (cut : Int) % ((na : Int) + 1) = (at_ : Int) := by rw [hat]; exact (Int.natCast_emod cut (na + 1)).symm
      have Hna := Lib.hid hna
      have hkI : ¬ (ne : Int) < (ne : Int) := by omega
      clear hna hat hcl htk hOa hOe hl1
      go_wp2_with fail
      go_loop [13, 14, 15] (fun vw vu vi => ∃ k q u : Nat, vw = .int .i64 (q : Int) ∧ vu = .int .i64 (u : Int) ∧ vi = .int .i64 (k : Int) ∧ q ≤ k ∧ k ≤ ne ∧ Hid (u = Fr.ed l q ∧ Fr.ed l q ≤ at_ ∧ (q < k → at_ < Fr.ed l (q + 1)))) (fun _ _ i => ne - (intOf i).toNat)
      case atStart => exact ⟨0, 0, 0, rfl, rfl, rfl, Nat.le_refl _, Nat.zero_le _, Lib.hid ⟨rfl, Nat.zero_le _, fun h => by omega⟩⟩
      case round =>
        obtain ⟨k, q, u, rfl, rfl, rfl, hqk, hk2, hQ⟩ := hrel
        by_cases hlt : k < ne
        · obtain ⟨b2, o2, rfl, _, hce2⟩ := hSe.rd k (by rw [edsL_len]; exact hlt)
          rw [edsL_get l ne k hlt] at hce2
          obtain ⟨E, hE⟩ : ∃ E, E = Fr.ed l (k + 1) := ⟨_, rfl⟩
          rw [← hE] at hce2
          have hEb : E ≤ 6280 := by rw [hE]; exact few_len Hf.out _
          have HE := Lib.hid hE
          have iI : (k : Int) < (ne : Int) := by omega
          clear hE
          by_cases hle : E ≤ at_
          · have hleI : (E : Int) ≤ (at_ : Int) := by omega
            go_wp2_with fail
            go_round
            case rel => exact ⟨k + 1, k + 1, E, by go_num, rfl, by go_num, Nat.le_refl _, by omega, Lib.hid ⟨HE.out, by rw [← HE.out]; exact hle, fun h => by omega⟩⟩
            case measure => simp [intOf]; omega
          · have hleI : ¬ (E : Int) ≤ (at_ : Int) := by omega
            go_wp2_with fail
            go_round
            case rel =>
              refine ⟨k + 1, q, u, rfl, rfl, by go_num, by omega, by omega, Lib.hid ⟨hQ.out.1, hQ.out.2.1, fun _ => ?_⟩⟩
              rcases Nat.lt_or_ge q k with h | h
              · exact hQ.out.2.2 h
              · have : q = k := by omega
                rw [this, ← HE.out]; omega
            case measure => simp [intOf]; omega
        · have hkn : k = ne := by omega
          subst hkn
          have hrd : Fr.rd ((Fr.cat l).take at_) = (l.take q, u) := by
            rw [hQ.out.1]
            exact Fr.rd_cut l at_ q hfine.out (by rw [← Hl.out]; exact hqk) hQ.out.2.1 (fun h => hQ.out.2.2 (by rw [Hl.out]; exact h))
          have Cr := read_any Aa at_ ca ((Fr.cat l).take at_) wr (hSa.head at_ hatl) (by omega) (fun x hx => Fr.cat_byt hfine.out x (List.mem_of_mem_take hx))
          rw [hrd] at Cr
          have HCr := Lib.hid Cr
          have hSq := (HS.out.below hb).head q hqk
          have Cl := Lib.hid fun B m d w' hb' (hB : Wd.Ss w' B m d (l.take q)) => lists_any B A m q d c (l.take q) (l.take q) w' hB (hSq.below hb')
          rw [decide_eq_true rfl] at Cl
          have huu : ((u : Int) == (u : Int)) = true := by simp
          have hqI : (q : Int) ≤ (k : Int) := by omega
          have haI : (at_ : Int) ≤ (na : Int) := by omega
          clear hrd Cr hSq hSa hSe hQ
          go_wp2_with fail
          refine HCr.out.mono ?_
          rintro e w3 ⟨B3, m3, d3, rfl, hS3, hb3⟩
          go_wp2_with fail
          refine (Cl.out B3 m3 d3 w3 hb3 hS3).mono ?_
          rintro e w4 ⟨rfl, hb4⟩
          go_wp2_with fail
          go_ret
          exact ⟨rfl, nextC (nextC hb hb3) hb4⟩

set_option maxRecDepth 100000 in
set_option maxHeartbeats 1000000 in
theorem frameCuts_any (A : Option Addr) (n c : Nat) (l : List (List Int)) (cut : Int) (w : World) (hS : Wd.Ss w A n c l) (hF : ∀ y, y ∈ l → Wd.Fits .u8 y) (n0 : -9223372036854775808 ≤ cut) (n1 : cut ≤ 9223372036854775807) :
    Calls Try.prog 5 #[.slice A n c, .int .i64 cut] w fun e w' => e = .returned (.bool true) ∧ Below w.heap.size w w' := by
  have Cf := Lib.hid fun w' hb => few_any A n c l w' (hS.below hb)
  cases hf : fewB l with
  | false =>
    rw [hf] at Cf
    clear hS hF hf
    go_enter Try.func5, Try.ntmps5
    go_wp2_with fail
    refine (awake_any w).mono ?_
    rintro e w1 ⟨rfl, hb1⟩
    go_wp2_with fail
    refine (Cf.out w1 hb1).mono ?_
    rintro e w2 ⟨rfl, rfl⟩
    go_wp2_with fail
    go_ret
    exact ⟨rfl, hb1⟩
  | true =>
    by_cases hc : cut < 0
    · rw [hf] at Cf
      clear hS hF hf
      go_enter Try.func5, Try.ntmps5
      go_wp2_with fail
      refine (awake_any w).mono ?_
      rintro e w1 ⟨rfl, hb1⟩
      go_wp2_with fail
      refine (Cf.out w1 hb1).mono ?_
      rintro e w2 ⟨rfl, rfl⟩
      go_wp2_with fail
      go_ret
      exact ⟨rfl, hb1⟩
    · obtain ⟨k, rfl⟩ := Int.eq_ofNat_of_zero_le (show 0 ≤ cut by omega)
      exact cuts_ok A n c l k w hS hF hf (by omega)
end Lw
end Go.Proofs.Ytahocgmaeokoaaa
