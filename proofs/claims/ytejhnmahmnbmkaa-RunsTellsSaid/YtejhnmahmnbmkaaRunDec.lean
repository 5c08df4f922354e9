/- What runs.Decode does with what Encode has written, whatever stands behind: readBlock, Decode. -/
import Derived.Test.YtejhnmahmnbmkaaRunEnc
import Derived.Test.YtejhnmahmnbmkaaRunGet
namespace Go.Proofs.Ytejhnmahmnbmkaa
open Go.RowKit
namespace Rc
open Nc Lw

theorem goes_get (k : Nat) (hk : k < 3) : Goes (fget k) := by
  match k, hk with
  | 0, _ => exact fun args w => by kernel_rfl
  | 1, _ => exact fun args w => by kernel_rfl
  | 2, _ => exact fun args w => by kernel_rfl
theorem fget_any (k : Nat) (hk : k < 3) (A : Option Addr) (n c : Nat) (l more : List Int) (N : Nat) (w : World) (hS : Wd.Sl w .u8 A n c (Rn.body l k ++ more)) (hby : Nm.Byt (Rn.body l k ++ more)) (hN : N = l.length) (hN2 : N ≤ 4096) (hF : Rn.Fits l) :
    Calls Try.prog (fget k) #[.slice A n c, .int .i64 N] w (Wd.Out3 w l (Rn.body l k).length 0) := by
  match k, hk with
  | 0, _ => exact getPlain_any A n c l more N w hS hby hN (by omega) hF
  | 1, _ =>
    have h := getRuns_any A n c (Rn.runs l) more N w hS hby (by rw [Rn.flat_runs]; exact hN) hN2 (Rn.runs_fit hF (by omega)) (by have := Rn.runs_len l; omega)
    rw [Rn.flat_runs] at h
    exact h
  | 2, _ => exact getDeltas_any A n c l more N w hS hby hN (by omega) hF

set_option maxRecDepth 100000 in
set_option maxHeartbeats 2000000 in
theorem readBlock_any (A : Option Addr) (n c : Nat) (l more : List Int) (w : World) (hS : Wd.Sl w .u8 A n c (Rn.enc l ++ more)) (hby : Nm.Byt more) (hN : l.length ≤ 4096) (hF : Rn.Fits l) :
    Calls Try.prog 33 #[.slice A n c] w (Wd.Out3 w l (Rn.enc l).length 0) := by
  obtain ⟨k, hk⟩ : ∃ k, k = Rn.bi l 3 := ⟨_, rfl⟩
  have hk3 : k < 3 := by rw [hk]; exact Nat.lt_succ_of_le (Rn.bi_le l 2)
  have hbb := Rn.byt_app (Rn.body_byt hF hN k) hby
  have hlb := Rn.byt_app (Nm.vd_byt (l.length : Int) (by omega) (by omega)) hbb
  have hfg := fun A n c w hS => fget_any k hk3 A n c l more l.length w hS hbb rfl hN hF
  have hbl := Rn.body_len l k
  have hcg := fun A n c w hS => getLen_any A n c (Nm.vd (l.length : Int) ++ (Rn.body l k ++ more)) w hS hlb
  rw [getL_vd _ _ (by omega) (by omega)] at hcg
  have hvl := Nm.vd_len (l.length : Int)
  have hel : (Rn.enc l).length = 1 + (Nm.vd (l.length : Int)).length + (Rn.body l k).length := by unfold Rn.enc; rw [← hk]; exact Rn.block_len l k
  have hbs : Rn.enc l ++ more = (k : Int) :: (Nm.vd (l.length : Int) ++ (Rn.body l k ++ more)) := by unfold Rn.enc Rn.block; rw [← hk]; simp
  rw [hbs] at hS
  have hnl : 1 + (Nm.vd (l.length : Int)).length + (Rn.body l k).length ≤ n := by rw [hS.len]; simp; omega
  have hcap := hS.cap
  have hmax := hS.max
  unfold maxLen at hmax
  have e2 : List.drop (1 + (Nm.vd (l.length : Int)).length) ((k : Int) :: (Nm.vd (l.length : Int) ++ (Rn.body l k ++ more))) = Rn.body l k ++ more := by
    rw [Nat.add_comm, List.drop_succ_cons, List.drop_left]
  obtain ⟨b, o, rfl, hbB, hcell⟩ := hS.rd 0 (by simp)
  rw [Nat.add_zero] at hcell
  have hcell' : w.cell? ⟨b, o, none⟩ = some (.int .u8 (k : Int)) := hcell
  rw [hel]
  have hcg2 := fun (w' : World) (hb : Below w.heap.size w w') => hcg _ _ _ w' ((hS.below hb).cut_at 1 (by omega) (by omega))
  have hfg2 := fun (w' : World) (hb : Below w.heap.size w w') => hfg _ _ _ w' (by
    have h := (hS.below hb).cut (1 + (Nm.vd (l.length : Int)).length) (by omega)
    rw [e2] at h
    exact h)
  clear hfg hcg
  generalize (Nm.vd (l.length : Int)).length = D at *
  generalize (Rn.body l k).length = E at *
  obtain ⟨N, hNN⟩ : ∃ N, N = l.length := ⟨_, rfl⟩
  rw [← hNN] at hfg2 hcg2 hN hbl
  have Hfg := Lib.hid hfg2
  have Hcg := Lib.hid hcg2
  have hgo := goes_get k hk3
  unfold Goes at hgo
  have hd3 : decide ((3 : Int) ≤ (k : Int)) = false := by simp; omega
  have hdN : decide ((4096 : Int) < (N : Int)) = false := by simp; omega
  have hn0 : (0 : Int) < (n : Int) := by omega
  have hne : ((n : Int) == 0) = false := by rw [beq_eq_false_iff_ne]; omega
  have hwk : IntKind.i64.wrap (k : Int) = (k : Int) := by
    match k, hk3 with
    | 0, _ => rfl
    | 1, _ => rfl
    | 2, _ => rfl
  have cK1 : kindCells[k * 2 + 1]? = some (fnv (fget k)) := by
    match k, hk3 with
    | 0, _ => rfl
    | 1, _ => rfl
    | 2, _ => rfl
  unfold fnv at cK1
  have HK1 := Lib.hid cK1
  generalize fget k = f at *
  have hn1 : 0 < n := by omega
  clear hk hbb hlb hfg2 hcg2 e2 hcell hS hNN hel hbs hby hF cK1
  go_enter Try.func33, Try.ntmps33
  go_upto_region 3 with fail
  go_cut [5, 6] (fun s t wx => s = .slice (some ⟨w.heap.size, 0, none⟩) 3 3 ∧ t = .int .i64 (k : Int) ∧ Wd.Bx wx w.heap.size 56 kindCells ∧ Below w.heap.size w wx)
  case first =>
    go_region_held3 (fun w' => w'.cell? ⟨b, o, none⟩ = some (.int .u8 (k : Int))) (first | exact hc2 | go_keep) (first | (go_at_call 28; (with_reducible refine (kinds_any _).mono ?_); rintro e w2 ⟨rfl, rfl⟩; have hc2 := (World.cell?_alloc_lt w.drew (.cells kindCells 56) ⟨b, o, none⟩ hbB).trans hcell'))
    all_goals (go_wp2_with fail; go_meet; exact ⟨rfl, rfl, Wd.Bx.new _ _ _, ((Below.refl _ _).alloc (Nat.le_refl _) _).drew⟩)
  case rest =>
    obtain ⟨rfl, rfl, hX, hB⟩ := hcut
    go_wp2_with fail
    refine (Hcg.out _ hB).mono ?_
    rintro e w3 ⟨rfl, rfl⟩
    unfold three
    have hfb := Hfg.out _ hB.drew
    have cK : _ = _ := hX.cell (k * 2 + 1)
    rw [HK1.out] at cK
    have hxl := hX.lt
    have hsz := hB.size
    have HX := Lib.hid hX
    clear hX
    have j1 : (k : Int) < 3 := by omega
    have j2 : (0 : Int) ≤ (k : Int) := by omega
    have j3 : (0 : Int) ≤ 1 + (D : Int) := by omega
    have j4 : 1 + (D : Int) ≤ (n : Int) := by omega
    have j5 : (1 + (D : Int)).toNat = 1 + D := by omega
    by_cases hcD : c = 1 + D
    · subst hcD
      rw [if_pos rfl, Nat.sub_self, show n - (1 + D) = 0 by omega] at hfb
      have Hfb := Lib.hid hfb
      clear hfb
      go_upto_region 12 with fail
      go_cut [9, 11, 12] (fun u s t wx => ∃ A5 n5 c5, u = .int .i64 0 ∧ s = .slice A5 n5 c5 ∧ t = .int .i64 (E : Int) ∧ Wd.Sl wx .i64 A5 n5 c5 l ∧ Below w.heap.size w wx)
      case first =>
        go_region_held3 (fun w' => w'.cell? ⟨w.heap.size, k * 2 + 1, none⟩ = some (.func (.func f) #[] #[])) (first | exact hc5 | go_keep) (first | ((with_reducible refine Hfb.out.mono ?_); rintro e w5 ⟨A5, n5, c5, rfl, hS5, hB5⟩; have hc5 := (hB5.cell (p := ⟨w.heap.size, k * 2 + 1, none⟩) hxl).trans cK))
        all_goals (go_wp2_with fail; go_meet; exact ⟨A5, n5, c5, rfl, rfl, rfl, hS5, hB.drew.trans (hB5.mono hsz)⟩)
      case rest =>
        obtain ⟨A5, n5, c5, rfl, rfl, rfl, hS5, hB5⟩ := hcut
        go_wp2_with fail
        go_ret3
        exact ⟨A5, n5, c5, rfl, hS5, hB5⟩
    · rw [if_neg hcD, Option.map_some, Addr.add_lit] at hfb
      have Hfb := Lib.hid hfb
      clear hfb
      go_upto_region 12 with fail
      go_cut [9, 11, 12] (fun u s t wx => ∃ A5 n5 c5, u = .int .i64 0 ∧ s = .slice A5 n5 c5 ∧ t = .int .i64 (E : Int) ∧ Wd.Sl wx .i64 A5 n5 c5 l ∧ Below w.heap.size w wx)
      case first =>
        go_region_held3 (fun w' => w'.cell? ⟨w.heap.size, k * 2 + 1, none⟩ = some (.func (.func f) #[] #[])) (first | exact hc5 | go_keep) (first | ((with_reducible refine Hfb.out.mono ?_); rintro e w5 ⟨A5, n5, c5, rfl, hS5, hB5⟩; have hc5 := (hB5.cell (p := ⟨w.heap.size, k * 2 + 1, none⟩) hxl).trans cK))
        all_goals (go_wp2_with fail; go_meet; exact ⟨A5, n5, c5, rfl, rfl, rfl, hS5, hB.drew.trans (hB5.mono hsz)⟩)
      case rest =>
        obtain ⟨A5, n5, c5, rfl, rfl, rfl, hS5, hB5⟩ := hcut
        go_wp2_with fail
        go_ret3
        exact ⟨A5, n5, c5, rfl, hS5, hB5⟩

set_option maxHeartbeats 1000000 in
theorem decode_any (A : Option Addr) (n c : Nat) (l more : List Int) (w : World) (hS : Wd.Sl w .u8 A n c (Rn.enc l ++ more)) (hby : Nm.Byt more) (hN : l.length ≤ 4096) (hF : Rn.Fits l) :
    Calls Try.prog 23 #[.slice A n c] w (Wd.Out3 w l (Rn.enc l).length 0) := by
  have c1 := readBlock_any A n c l more w hS hby hN hF
  have c2 := fun A m c w hS hm => encode_ok A m c l w hS hm hF
  have hge : 2 ≤ (Rn.enc l).length := Rn.block_ge l _
  have hle : (Rn.enc l).length ≤ 100000 := by have := Rn.block_le l (Rn.bi l 3); unfold Rn.enc; omega
  have hnl : (Rn.enc l).length ≤ n := by rw [hS.len, List.length_append]; omega
  have hh := hS.head (Rn.enc l).length hnl
  rw [List.take_left] at hh
  have hcap := hS.cap
  have hmax := hS.max
  unfold maxLen at hmax
  obtain ⟨L, hL⟩ : ∃ L, L = (Rn.enc l).length := ⟨_, rfl⟩
  rw [← hL] at c1 hge hle hnl hh ⊢
  generalize Rn.enc l = bs at *
  have C1 := Lib.hid c1
  have C2 := Lib.hid c2
  have HL := Lib.hid hL
  have Hh := Lib.hid hh
  clear c1 c2 hL hh hS hby hF
  go_enter Try.func23, Try.ntmps23
  go_wp2_with fail
  refine C1.out.mono ?_
  rintro e w1 ⟨A1, n1, c1, rfl, hS1, hB1⟩
  have hn1 : n1 ≤ 4096 := by rw [hS1.len]; exact hN
  go_wp2_with fail
  refine (C2.out A1 n1 c1 w1 hS1 hn1).mono ?_
  rintro e w2 ⟨A2, n2, c2, rfl, hS2, hB2⟩
  have hW2 : Below w.heap.size w w2 := hB1.trans (hB2.mono hB1.size)
  have hS12 := hS1.below hB2
  have hA2 := Hh.out.below hW2
  obtain rfl : n2 = L := hS2.len.trans HL.out.symm
  clear hB1 hB2 hS1
  go_wp2_with fail
  refine (equal_same A2 A n2 c2 c bs w2 hS2 hA2 (by omega)).mono ?_
  rintro e w3 ⟨rfl, rfl⟩
  go_wp2_with fail
  go_ret3
  exact ⟨A1, n1, c1, rfl, hS12, hW2⟩
end Rc
end Go.Proofs.Ytejhnmahmnbmkaa
