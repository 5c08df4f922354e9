/- What runs.Decode does with what Encode has written, whatever stands behind: readBlock, Decode. Package file: the offsets of a segment, read from the payloads. A row of columns of the call's own that grows, known whole with its spare room. -/
import Derived.WalkKit
import Derived.WalkSpells
import Derived.Lib.Hide
import Derived.IntWalk
import Derived.Maps.AppendAt
import Derived.Test.YtaoeipehpakngaaGreatDoorPb27
import Derived.Test.YtaoeipehpakngaaGreatDoorPb24
import Derived.Test.YtaoeipehpakngaaGreatDoorPb08
namespace Go.Proofs.YtaoeipehpakngaaGreatDoor
open Go.RowKit
namespace Rc
open Nc Lw
set_option maxRecDepth 1000000 in
theorem goes_get (k : Nat) (hk : k < 3) : Goes (fget k) := by
  match k, hk with
  | 0, _ => exact fun args w => by kernel_rfl
  | 1, _ => exact fun args w => by kernel_rfl
  | 2, _ => exact fun args w => by kernel_rfl
theorem fget_any (k : Nat) (hk : k < 3) (A : Option Addr) (n c : Nat) (l more : List Int) (N : Nat) (w : World) (hS : Wd.Sl w .u8 A n c (Rn.body l k ++ more)) (hby : Nm.Byt (Rn.body l k ++ more)) (hN : N = l.length) (hN2 : N ≤ 4096) (hF : Rn.Fits l) :
    Calls Tryz.prog (fget k) #[.slice A n c, .int .i64 N] w (Wd.Out3N w l (Rn.body l k).length 0) := by
  match k, hk with
  | 0, _ => exact getPlain_any A n c l more N w hS hby hN (by omega) hF
  | 1, _ =>
    have h := getRuns_any A n c (Rn.runs l) more N w hS hby (by rw [Rn.flat_runs]; exact hN) hN2 (Rn.runs_fit hF (by omega)) (by have := Rn.runs_len l; omega)
    rw [Rn.flat_runs] at h
    exact h
  | 2, _ => exact getDeltas_any A n c l more N w hS hby hN (by omega) hF
set_option maxRecDepth 100000 in
set_option maxHeartbeats 2000000 in
theorem readBlock_any (A : Option Addr) (n c : Nat) (l more : List Int) (w : World) (hS : Wd.Sl w .u8 A n c (Rn.enc l ++ more)) (hby : Nm.Byt more) (hN : l.length ≤ 4096) (hF : Rn.Fits l) :
    Calls Tryz.prog 161 #[.slice A n c] w (Wd.Out3N w l (Rn.enc l).length 0) := by
  obtain ⟨k, hk⟩ : ∃ k, k = Rn.bi l 3 := ⟨_, rfl⟩
  have hk3 : k < 3 := by rw [hk]; exact Nat.lt_succ_of_le (Rn.bi_le l 2)
  have hbb := Rn.byt_app (Rn.body_byt hF hN k) hby
  have hlb := Rn.byt_app (Nm.vd_byt (l.length : Int) (by omega) (by omega)) hbb
  have hfg := fun A n c w hS => fget_any k hk3 A n c l more l.length w hS hbb rfl hN hF
  have hbl := Rn.body_len l k
  have hcg := fun A n c w hS => getLen_any A n c (Nm.vd (l.length : Int) ++ (Rn.body l k ++ more)) w hS hlb
  rw [getL_vd _ _ (by omega) (by omega)] at hcg
  have hvl := Nm.vd_len (l.length : Int)
  have hel : (Rn.enc l).length = 1 + (Nm.vd (l.length : Int)).length + (Rn.body l k).length := by unfold Rn.enc; rw [← hk]; exact Rn.block_len l k
  have hbs : Rn.enc l ++ more = (k : Int) :: (Nm.vd (l.length : Int) ++ (Rn.body l k ++ more)) := by unfold Rn.enc Rn.block; rw [← hk]; simp
  rw [hbs] at hS
  have hnl : 1 + (Nm.vd (l.length : Int)).length + (Rn.body l k).length ≤ n := by rw [hS.len]; simp; omega
  have hcap := hS.cap
  have hmax := hS.max
  unfold maxLen at hmax
  have e2 : List.drop (1 + (Nm.vd (l.length : Int)).length) ((k : Int) :: (Nm.vd (l.length : Int) ++ (Rn.body l k ++ more))) = Rn.body l k ++ more := by
    rw [Nat.add_comm, List.drop_succ_cons, List.drop_left]
  obtain ⟨b, o, rfl, hbB, hcell⟩ := hS.rd 0 (by simp)
  rw [Nat.add_zero] at hcell
  have hcell' : w.cell? ⟨b, o, none⟩ = some (.int .u8 (k : Int)) := hcell
  rw [hel]
  have hcg2 := fun (w' : World) (hb : Below w.heap.size w w') => hcg _ _ _ w' ((hS.below hb).cut_at 1 (by omega) (by omega))
  have hfg2 := fun (w' : World) (hb : Below w.heap.size w w') => hfg _ _ _ w' (by
    have h := (hS.below hb).cut (1 + (Nm.vd (l.length : Int)).length) (by omega)
    rw [e2] at h
    exact h)
  clear hfg hcg
  generalize (Nm.vd (l.length : Int)).length = D at *
  generalize (Rn.body l k).length = E at *
  obtain ⟨N, hNN⟩ : ∃ N, N = l.length := ⟨_, rfl⟩
  rw [← hNN] at hfg2 hcg2 hN hbl
  have Hfg := Lib.hid hfg2
  have Hcg := Lib.hid hcg2
  have hgo := goes_get k hk3
  unfold Goes at hgo
  have hd3 : decide ((3 : Int) ≤ (k : Int)) = false := by simp; omega
  have hdN : decide ((4096 : Int) < (N : Int)) = false := by simp; omega
  have hn0 : (0 : Int) < (n : Int) := by omega
  have hne : ((n : Int) == 0) = false := by rw [beq_eq_false_iff_ne]; omega
  have hwk : IntKind.i64.wrap (k : Int) = (k : Int) := by
    match k, hk3 with
    | 0, _ => rfl
    | 1, _ => rfl
    | 2, _ => rfl
  have cK1 : kindCells[k * 2 + 1]? = some (fnv (fget k)) := by
    match k, hk3 with
    | 0, _ => rfl
    | 1, _ => rfl
    | 2, _ => rfl
  unfold fnv at cK1
  have HK1 := Lib.hid cK1
  generalize fget k = f at *
  have hn1 : 0 < n := by omega
  clear hk hbb hlb hfg2 hcg2 e2 hcell hS hNN hel hbs hby hF cK1
  go_enter Tryz.func161, Tryz.ntmps161
  go_upto_region 3 with fail
  go_cut [5, 6] (fun s t wx => s = .slice (some ⟨w.heap.size, 0, none⟩) 3 3 ∧ t = .int .i64 (k : Int) ∧ Wd.Bx wx w.heap.size 127 kindCells ∧ Below w.heap.size w wx)
  case first =>
    go_region_held3 (fun w' => w'.cell? ⟨b, o, none⟩ = some (.int .u8 (k : Int))) (first | exact hc2 | go_keep) (first | (go_at_call 93; (with_reducible refine (kinds_any _).mono ?_); rintro e w2 ⟨rfl, rfl⟩; have hc2 := (World.cell?_alloc_lt w.drew (.cells kindCells 127) ⟨b, o, none⟩ hbB).trans hcell'))
    all_goals (go_wp2_with fail; go_meet; exact ⟨rfl, rfl, Wd.Bx.new _ _ _, ((Below.refl _ _).alloc (Nat.le_refl _) _).drew⟩)
  case rest =>
    obtain ⟨rfl, rfl, hX, hB⟩ := hcut
    go_wp2_with fail
    refine (Hcg.out _ hB).mono ?_
    rintro e w3 ⟨rfl, rfl⟩
    unfold three
    have hfb := Hfg.out _ hB.drew
    have cK : _ = _ := hX.cell (k * 2 + 1)
    rw [HK1.out] at cK
    have hxl := hX.lt
    have hsz := hB.size
    have HX := Lib.hid hX
    clear hX
    have j1 : (k : Int) < 3 := by omega
    have j2 : (0 : Int) ≤ (k : Int) := by omega
    have j3 : (0 : Int) ≤ 1 + (D : Int) := by omega
    have j4 : 1 + (D : Int) ≤ (n : Int) := by omega
    have j5 : (1 + (D : Int)).toNat = 1 + D := by omega
    by_cases hcD : c = 1 + D
    · subst hcD
      rw [if_pos rfl, Nat.sub_self, show n - (1 + D) = 0 by omega] at hfb
      have Hfb := Lib.hid hfb
      clear hfb
      go_upto_region 12 with fail
      go_cut [9, 11, 12] (fun u s t wx => ∃ A5 n5 c5, u = .int .i64 0 ∧ s = .slice A5 n5 c5 ∧ t = .int .i64 (E : Int) ∧ Wd.SlB w.heap.size wx .i64 A5 n5 c5 l ∧ Below w.heap.size w wx)
      case first =>
        go_region_held3 (fun w' => w'.cell? ⟨w.heap.size, k * 2 + 1, none⟩ = some (.func (.func f) #[] #[])) (first | exact hc5 | go_keep) (first | ((with_reducible refine Hfb.out.mono ?_); rintro e w5 ⟨A5, n5, c5, rfl, hS5, hB5⟩; have hc5 := (hB5.cell (p := ⟨w.heap.size, k * 2 + 1, none⟩) hxl).trans cK))
        all_goals (go_wp2_with fail; go_meet; exact ⟨A5, n5, c5, rfl, rfl, rfl, hS5.up hsz, hB.drew.trans (hB5.mono hsz)⟩)
      case rest =>
        obtain ⟨A5, n5, c5, rfl, rfl, rfl, hS5, hB5⟩ := hcut
        go_wp2_with fail
        go_ret3
        exact ⟨A5, n5, c5, rfl, hS5, hB5⟩
    · rw [if_neg hcD, Option.map_some, Addr.add_lit] at hfb
      have Hfb := Lib.hid hfb
      clear hfb
      go_upto_region 12 with fail
      go_cut [9, 11, 12] (fun u s t wx => ∃ A5 n5 c5, u = .int .i64 0 ∧ s = .slice A5 n5 c5 ∧ t = .int .i64 (E : Int) ∧ Wd.SlB w.heap.size wx .i64 A5 n5 c5 l ∧ Below w.heap.size w wx)
      case first =>
        go_region_held3 (fun w' => w'.cell? ⟨w.heap.size, k * 2 + 1, none⟩ = some (.func (.func f) #[] #[])) (first | exact hc5 | go_keep) (first | ((with_reducible refine Hfb.out.mono ?_); rintro e w5 ⟨A5, n5, c5, rfl, hS5, hB5⟩; have hc5 := (hB5.cell (p := ⟨w.heap.size, k * 2 + 1, none⟩) hxl).trans cK))
        all_goals (go_wp2_with fail; go_meet; exact ⟨A5, n5, c5, rfl, rfl, rfl, hS5.up hsz, hB.drew.trans (hB5.mono hsz)⟩)
      case rest =>
        obtain ⟨A5, n5, c5, rfl, rfl, rfl, hS5, hB5⟩ := hcut
        go_wp2_with fail
        go_ret3
        exact ⟨A5, n5, c5, rfl, hS5, hB5⟩
set_option maxHeartbeats 1000000 in
theorem decode_new (A : Option Addr) (n c : Nat) (l more : List Int) (w : World) (hS : Wd.Sl w .u8 A n c (Rn.enc l ++ more)) (hby : Nm.Byt more) (hN : l.length ≤ 4096) (hF : Rn.Fits l) :
    Calls Tryz.prog 112 #[.slice A n c] w (Wd.Out3N w l (Rn.enc l).length 0) := by
  have c1 := readBlock_any A n c l more w hS hby hN hF
  have c2 := fun A m c w hS hm => encode_ok A m c l w hS hm hF
  have hge : 2 ≤ (Rn.enc l).length := Rn.block_ge l _
  have hle : (Rn.enc l).length ≤ 100000 := by have := Rn.block_le l (Rn.bi l 3); unfold Rn.enc; omega
  have hnl : (Rn.enc l).length ≤ n := by rw [hS.len, List.length_append]; omega
  have hh := hS.head (Rn.enc l).length hnl
  rw [List.take_left] at hh
  have hcap := hS.cap
  have hmax := hS.max
  unfold maxLen at hmax
  obtain ⟨L, hL⟩ : ∃ L, L = (Rn.enc l).length := ⟨_, rfl⟩
  rw [← hL] at c1 hge hle hnl hh ⊢
  generalize Rn.enc l = bs at *
  have C1 := Lib.hid c1
  have C2 := Lib.hid c2
  have HL := Lib.hid hL
  have Hh := Lib.hid hh
  clear c1 c2 hL hh hS hby hF
  go_enter Tryz.func112, Tryz.ntmps112
  go_wp2_with fail
  refine C1.out.mono ?_
  rintro e w1 ⟨A1, n1, c1, rfl, hS1, hB1⟩
  have hn1 : n1 ≤ 4096 := by rw [hS1.1.len]; exact hN
  go_wp2_with fail
  refine (C2.out A1 n1 c1 w1 hS1.1 hn1).mono ?_
  rintro e w2 ⟨A2, n2, c2, rfl, hS2, hB2⟩
  have hW2 : Below w.heap.size w w2 := hB1.trans (hB2.mono hB1.size)
  have hS12 := hS1.below hB2
  have hA2 := Hh.out.below hW2
  obtain rfl : n2 = L := hS2.len.trans HL.out.symm
  clear hB1 hB2 hS1
  go_wp2_with fail
  refine (equal_same A2 A n2 c2 c bs w2 hS2 hA2 (by omega)).mono ?_
  rintro e w3 ⟨rfl, rfl⟩
  go_wp2_with fail
  go_ret3
  exact ⟨A1, n1, c1, rfl, hS12, hW2⟩
end Rc
end Go.Proofs.YtaoeipehpakngaaGreatDoor
namespace Go.Proofs.YtaoeipehpakngaaGreatDoor
set_option maxRecDepth 20000
open Go.RowKit
namespace Wd
theorem Sl.box {w w' : World} {p : Nat} {t : TypeId} {cs cs' : Array Value} {k : IntKind} {A : Option Addr} {n c : Nat} {ys : List Int} (h : Sl w k A n c ys) (mv : Mv (fun g => g = p) w w') (b : Bx w p t cs) (b' : Bx w' p t cs')
    (hk : ∀ (j : Nat) (v : Int), cs[j]? = some (Value.int k v) → cs'[j]? = some (Value.int k v)) : Sl w' k A n c ys :=
  ⟨h.len, h.cap, h.max, h.nil, fun j hj => by
    obtain ⟨g, o, e, hlt, hc⟩ := h.rd j hj
    refine ⟨g, o, e, Nat.lt_of_lt_of_le hlt mv.size, ?_⟩
    by_cases q : g = p
    · subst q
      rw [b.cell] at hc
      rw [b'.cell]
      exact hk _ _ hc
    · have hb := mv.keep g hlt q
      simp only [World.cell?, hb] at hc ⊢
      exact hc⟩
end Wd
namespace Fi
open Se (Seg Sg Gb)
open Nc
theorem seven_ints {a b c d e f g e' f' g' : Value} (he : ∀ x, e ≠ .int .i64 x) (hf : ∀ x, f ≠ .int .i64 x) (hg : ∀ x, g ≠ .int .i64 x) : ∀ (j : Nat) (v : Int), (#[a, b, c, d, e, f, g] : Array Value)[j]? = some (.int .i64 v) → (#[a, b, c, d, e', f', g'] : Array Value)[j]? = some (.int .i64 v) := by
  intro j v h
  match j with
  | 0 => exact h
  | 1 => exact h
  | 2 => exact h
  | 3 => exact h
  | 4 => exact absurd (by simpa using h) (he v)
  | 5 => exact absurd (by simpa using h) (hf v)
  | 6 => exact absurd (by simpa using h) (hg v)
  | j + 7 => simp at h
set_option maxHeartbeats 1000000 in
theorem readBlock_nil (w : World) : Calls Tryz.prog 161 #[.slice none 0 0] w fun e w' => e = .returned (.tuple #[.slice none 0 0, .int .i64 0, .int .i64 6]) ∧ w' = w := by
  go_enter Tryz.func161, Tryz.ntmps161
  go_wp2_with fail
  go_ret3
  exact ⟨rfl, rfl⟩
set_option maxHeartbeats 1000000 in
theorem decode_nil (w : World) : Calls Tryz.prog 112 #[.slice none 0 0] w fun e w' => e = .returned (.tuple #[.slice none 0 0, .int .i64 0, .int .i64 6]) ∧ w' = w := by
  have C := Lib.hid (readBlock_nil w)
  go_enter Tryz.func112, Tryz.ntmps112
  go_wp2_with fail
  refine C.out.mono ?_
  rintro e w1 ⟨rfl, rfl⟩
  go_wp2_with fail
  go_ret3
  exact ⟨rfl, rfl⟩
section
variable {w0 w : World} {p : Nat} {a b c d : Int} {OA : Option Addr} {on oc : Nat} {CA : Option Addr} {cn cc : Nat}
set_option maxHeartbeats 4000000 in
theorem readOffsets_nil (h : Lb w0 w p a b c d OA on oc CA cn cc []) :
    Calls Tryz.prog 66 #[.pointer (some ⟨p, 0, none⟩)] w fun e w' => e = .returned (.bool false) ∧ Lb w0 w' p a b c d none 0 0 CA cn cc [] := by
  have Cn := Lib.hid (next_nil h)
  have Cd := Lib.hid (decode_nil w)
  obtain ⟨⟨PA, pn, pc, hs, hb⟩, hp, hbel⟩ := h
  have d4 : w.cell? ⟨p, 4, none⟩ = some (.slice OA on oc) := hb.cell 4
  have f4 := hb.free 4
  have HE := Lib.hid (show Lb w0 (w.setCell ⟨p, 4, none⟩ (.slice none 0 0)) p a b c d none 0 0 CA cn cc [] from ⟨⟨PA, pn, pc, hs, hb.set 4 _⟩, hp, hbel.setCell (p := ⟨p, 4, none⟩) hp _⟩)
  clear hs hb hbel hp
  go_enter Tryz.func66, Tryz.ntmps66
  go_wp2_with fail
  refine Cn.out.mono ?_
  rintro e w1 ⟨rfl, rfl⟩
  go_wp2_with fail
  refine Cd.out.mono ?_
  rintro e w2 ⟨rfl, rfl⟩
  go_wp2_with fail
  go_ret
  exact ⟨rfl, HE.out⟩
set_option maxHeartbeats 4000000 in
theorem readOffsets_yes {l : List Int} {r : List (List Int)} (h : Lb w0 w p a b c d OA on oc CA cn cc (Rn.enc l :: r)) (hr : r.length ≤ 1000000) (hN : l.length ≤ 4096) (hF : Rn.Fits l) :
    Calls Tryz.prog 66 #[.pointer (some ⟨p, 0, none⟩)] w fun e w' => e = .returned (.bool true) ∧ ∃ YA yn yc, Lb w0 w' p a b c d YA yn yc CA cn cc r ∧ Wd.SlB w.heap.size w' .i64 YA yn yc l ∧ Wd.Mv (fun g => g = p) w w' := by
  have Cn := Lib.hid (next_cons h hr)
  have Cd := Lib.hid (fun A n m w hS => Rc.decode_new A n m l [] w hS (fun _ h => by cases h) hN hF)
  clear h
  rw [List.append_nil] at Cd
  go_enter Tryz.func66, Tryz.ntmps66
  go_wp2_with fail
  refine Cn.out.mono ?_
  rintro e w1 ⟨A1, n1, c1, rfl, hS1, hL1, hM1⟩
  have Hl := Lib.hid hS1.len
  have Cd1 := Lib.hid (Cd.out A1 n1 c1 w1 (hS1.below hL1.bel))
  rw [← Hl.out] at Cd1
  have HL1 := Lib.hid hL1
  have HM1 := Lib.hid hM1
  clear hS1 hL1 hM1 Cn Cd
  go_wp2_with fail
  refine Cd1.out.mono ?_
  rintro e w2 ⟨YA, yn, yc, rfl, hS2, hB2⟩
  have hL2 := HL1.out.below hB2
  obtain ⟨⟨PA, pn, pc, hs, hb⟩, hp, hbel⟩ := hL2
  have d4 : w2.cell? ⟨p, 4, none⟩ = some (.slice OA on oc) := hb.cell 4
  have f4 := hb.free 4
  have m2 := (Wd.Mv.refl (fun g => g = p) w2).set (G := fun g => g = p) (a := ⟨p, 4, none⟩) rfl (.slice YA yn yc)
  have b2 : Wd.Bx (w2.setCell ⟨p, 4, none⟩ (.slice YA yn yc)) p 103 #[.int .i64 a, .int .i64 b, .int .i64 c, .int .i64 d, .slice YA yn yc, .slice CA cn cc, .slice PA pn pc] := hb.set 4 _
  have HE := Lib.hid (show Lb w0 (w2.setCell ⟨p, 4, none⟩ (.slice YA yn yc)) p a b c d YA yn yc CA cn cc r from ⟨⟨PA, pn, pc, hs, b2⟩, hp, hbel.setCell (p := ⟨p, 4, none⟩) hp _⟩)
  have HS2 := Lib.hid (show Wd.SlB w.heap.size (w2.setCell ⟨p, 4, none⟩ (.slice YA yn yc)) .i64 YA yn yc l from ⟨hS2.1.box m2 hb b2 (seven_ints (by simp) (by simp) (by simp)), (hS2.up HM1.out.size).2⟩)
  have HM2 := Lib.hid ((HM1.out.then (Wd.Mv.of_below hB2)).then m2)
  have q0 : ((n1 : Int) == (n1 : Int)) = true := by simp
  clear hs hb hbel hp hS2 hB2 m2 b2 Cd1
  go_wp2_with fail
  go_ret
  exact ⟨rfl, YA, yn, yc, HE.out, HS2.out, HM2.out⟩
end
end Fi
end Go.Proofs.YtaoeipehpakngaaGreatDoor
namespace Go.Proofs.YtaoeipehpakngaaGreatDoor
set_option maxRecDepth 20000
open Go.RowKit Go.Maps
namespace Wd
open Va (Vl null)
def OwC (w : World) (B : Nat) (v : Value) (L : List Cr) : Prop :=
  (v = .slice none 0 0 ∧ L = []) ∨ ∃ g cap, v = .slice (some ⟨g, 0, none⟩) L.length cap ∧ B ≤ g ∧ L.length ≤ cap ∧ cap ≤ maxLen ∧ Bx w g 57 (flatC (L ++ List.replicate (cap - L.length) default)).toArray
theorem OwC.nil (w : World) (B : Nat) : OwC w B (.slice none 0 0) [] := .inl ⟨rfl, rfl⟩
theorem OwC.block {w : World} {B : Nat} {v : Value} {L : List Cr} (h : OwC w B v L) {g : Nat} (hg : v.ownBlock = some g) : B ≤ g ∧ ∃ M, Bx w g 57 (flatC M).toArray := by
  rcases h with ⟨rfl, -⟩ | ⟨g', cap, rfl, h1, _, _, h2⟩
  · cases hg
  · cases hg
    exact ⟨h1, _, h2⟩
theorem OwC.keep {w w' : World} {B : Nat} {v : Value} {L : List Cr} {G : Nat → Prop} (h : OwC w B v L) (mv : Mv G w w') (hn : ∀ g, v.ownBlock = some g → ¬ G g) : OwC w' B v L := by
  rcases h with ⟨rfl, h⟩ | ⟨g, cap, rfl, h1, h2, h3, h4⟩
  · exact .inl ⟨rfl, h⟩
  · exact .inr ⟨g, cap, rfl, h1, h2, h3, (mv.keep g h4.lt (hn g rfl)).trans h4⟩
theorem OwC.below {w w' : World} {B : Nat} {v : Value} {L : List Cr} (h : OwC w B v L) (hb : Below w.heap.size w w') : OwC w' B v L := h.keep (Mv.of_below (G := fun _ => False) hb) fun _ _ z => z
theorem OwC.cms {w : World} {B : Nat} {A : Option Addr} {n c : Nat} {L : List Cr} (h : OwC w B (.slice A n c) L) (h1 : ∀ j, j < L.length → Cr1 w (L.getD j default)) : Cms w A n c L := by
  rcases h with ⟨e, rfl⟩ | ⟨g, cap, e, h2, h3, h4, h5⟩
  · cases e
    exact Cms.none_ _
  · cases e
    refine ⟨rfl, h3, h4, by simp, fun j hj => ⟨g, 0, rfl, h5.lt, fun i v hv => ?_, h1 j hj⟩⟩
    rw [Nat.zero_add, h5.cell, List.getElem?_toArray]
    refine flatC_get _ j (by simp; omega) i v ?_
    have e : (L ++ List.replicate (c - L.length) default).getD j default = L.getD j default := by simp only [List.getD]; rw [List.getElem?_append_left hj]
    rw [e]
    exact hv
theorem flatC_nos (L : List Cr) : ∀ v ∈ flatC L, ∀ x, v ≠ .string x := by
  intro v hv x
  obtain ⟨o, _, h⟩ := List.mem_flatMap.1 hv
  simp only [Cr.vals, List.mem_cons, List.not_mem_nil, or_false] at h
  rcases h with rfl | rfl | rfl <;> simp
theorem Cr1.keep {w w' : World} {o : Cr} {G : Nat → Prop} (h : Cr1 w o) (mv : Mv G w w') (hG : ∀ g, G g → ∃ (t : TypeId) (cs : List Value), Bx w g t cs.toArray ∧ (∀ v ∈ cs, ∀ x, v ≠ .string x) ∧ ∀ v ∈ cs, ∀ x, v ≠ .int .u8 x) : Cr1 w' o :=
  ⟨h.dict.keep mv fun a ha hn q => by
    obtain ⟨t, cs, hb, h1, _⟩ := hG _ q
    exact h.dict.apart hb h1 a ha hn rfl, h.ids.keep mv fun a ha hn q => by
    obtain ⟨t, cs, hb, _, h2⟩ := hG _ q
    exact h.ids.apart hb h2 a ha hn rfl, h.byt, h.n0, h.n1, h.str⟩
theorem Cr1.grown {w w' : World} {B : Nat} {v : Value} {L : List Cr} {o : Cr} (h : Cr1 w o) (k : OwC w B v L) (hg : w.grownBy w' v.ownBlock) : Cr1 w' o :=
  h.keep (Mv.of_grown (G := fun x => v.ownBlock = some x) hg fun _ e => e) fun g q => by
    obtain ⟨_, M, hb⟩ := k.block q
    exact ⟨_, _, hb, flatC_nos M, flatC_no M⟩
theorem zeros_col (n : Nat) : (Builtin.zeroCells (Value.agg #[.int .i64 0, .slice none 0 0, .slice none 0 0]).cells n).toList = flatC (List.replicate n default) := made_col n
theorem Cr.vals_one (o : Cr) : ∀ u ∈ o.vals, u.oneCell' = true := by
  intro u hu
  simp only [Cr.vals, List.mem_cons, List.not_mem_nil, or_false] at hu
  rcases hu with rfl | rfl | rfl <;> rfl
theorem flatC_repl (k : Nat) : flatC (List.replicate (k + 1) default) = (default : Cr).vals ++ flatC (List.replicate k default) := by
  rw [List.replicate_succ]
  rfl
set_option maxHeartbeats 2000000 in
theorem run_appC (w : World) (ty : TypeId) (B : Nat) (v : Value) (L : List Cr) (hown : OwC w B v L) (ad : Addr) (o : Cr) (hc : ∀ j u, o.vals[j]? = some u → w.cell? (ad.add j) = some u) (hL : L.length ≤ 1000000) (hB : B ≤ w.heap.size) :
    ∃ A c w', (Builtin.append_ #[26, 26] ty #[v, .slice (some ad) 1 1]).run Tryz.prog w = .ok (.slice A (L.length + 1) c) w' ∧ OwC w' B (.slice A (L.length + 1) c) (L ++ [o]) ∧ w.grownBy w' v.ownBlock := by
  obtain ⟨i0, hi, hz0, hz1, hz2⟩ := info_parts info_col
  have hsz : (L ++ [o]).length = L.length + 1 := by simp
  have hvs : o.vals.length = 1 * i0.size := by rw [hz1]; rfl
  -- what growing leaves
  have grown : ∀ (old : Nat), B ≤ w.heap.size → OwC (w.drew.alloc (.cells ((flatC L).toArray ++ o.vals.toArray ++ Builtin.zeroCells (Value.agg #[.int .i64 0, .slice none 0 0, .slice none 0 0]).cells (grownCap w (L.length + 1) old 57 - (L.length + 1))) 57)) B (.slice (some ⟨w.heap.size, 0, none⟩) (L.length + 1) (grownCap w (L.length + 1) old 57)) (L ++ [o]) := by
    intro old hb
    refine .inr ⟨w.heap.size, grownCap w (L.length + 1) old 57, by rw [hsz], hb, by rw [hsz]; exact grownCap_ge _ _ _ _, grownCap_le_maxLen w _ _ _ (by unfold maxLen; omega), ?_⟩
    rw [hsz, flatC_app, flatC_app, flatC_one]
    have e : (flatC L).toArray ++ o.vals.toArray ++ Builtin.zeroCells (Value.agg #[.int .i64 0, .slice none 0 0, .slice none 0 0]).cells (grownCap w (L.length + 1) old 57 - (L.length + 1)) = (flatC L ++ o.vals ++ flatC (List.replicate (grownCap w (L.length + 1) old 57 - (L.length + 1)) default)).toArray := by
      apply Array.ext'
      rw [Array.toList_append, Array.toList_append, zeros_col]
    rw [e]
    exact Bx.new w.drew _ _
  have grb : ∀ (o' : Obj) (row : Option Nat), w.grownBy (w.drew.alloc o') row := fun o' row => ⟨rfl, rfl, rfl, by simp, fun k hk _ => Below.heap_alloc w.drew _ k hk⟩
  rcases hown with ⟨rfl, rfl⟩ | ⟨g, cap, rfl, h1, h2, h3, h4⟩
  · have hr := run_append_nil (P := Tryz.prog) w 26 ty 57 i0 _ Tryz.underlying26 hi hz0 ad 1 1 o.vals hvs hc (by omega) (by omega) (by rw [hz2]; omega)
    have := grown 0 hB
    simp only [List.length_nil, Nat.zero_add] at this
    refine ⟨_, _, _, hr, ?_, grb _ _⟩
    simpa [flatC] using this
  · by_cases hroom : L.length + 1 ≤ cap
    · obtain ⟨q, hq⟩ : ∃ q, cap - L.length = q + 1 := ⟨cap - L.length - 1, by omega⟩
      have hb : w.heap[g]? = some (.cells (flatC (L ++ List.replicate (cap - L.length) default)).toArray 57 (0, 0)) := h4
      have hr := run_append_room (P := Tryz.prog) w 26 ty 57 i0 Tryz.underlying26 hi g L.length cap _ hb ad 1 1 o.vals hvs hc o.vals_one hroom (by
        rw [hz1]
        simp only [List.size_toArray, flatC_len, List.length_append, List.length_replicate, Cr.vals, List.length_cons, List.length_nil]
        omega)
      refine ⟨_, _, _, hr, .inr ⟨g, cap, by rw [hsz], h1, by rw [hsz]; exact hroom, h3, ?_⟩, ⟨rfl, rfl, rfl, by simp, fun k _ hk => setRow_other w g k _ (fun e => hk (by simp [Value.ownBlock, e]))⟩⟩
      have := setRow_heap w g _ (List.take (L.length * i0.size) (flatC (L ++ List.replicate (cap - L.length) default)).toArray.toList ++ o.vals ++ List.drop (L.length * i0.size + o.vals.length) (flatC (L ++ List.replicate (cap - L.length) default)).toArray.toList).toArray _ _ hb
      unfold Bx
      rw [this]
      congr 3
      rw [hz1, hsz, show cap - (L.length + 1) = q by omega, hq, flatC_app, flatC_app, flatC_app, flatC_one, flatC_repl]
      have hl3 : (flatC L).length = L.length * 3 := flatC_len L
      rw [← hl3, List.take_left, ← List.append_assoc, show (flatC L).length + o.vals.length = (flatC L ++ (default : Cr).vals).length by simp [Cr.vals], List.drop_left]
    · have holds : ∀ j u, (flatC L)[j]? = some u → w.cell? ((⟨g, 0, none⟩ : Addr).add j) = some u := fun j u hu => by
        rw [Addr.add_lit, Nat.zero_add, h4.cell, List.getElem?_toArray, flatC_app, List.getElem?_append_left (List.getElem?_eq_some_iff.1 hu).1]
        exact hu
      have hr := run_append_grow (P := Tryz.prog) w 26 ty 57 i0 _ Tryz.underlying26 hi hz0 ⟨g, 0, none⟩ L.length cap (flatC L) (by rw [hz1]; exact flatC_len L) holds ad 1 1 o.vals hvs hc (by omega) (by omega) (growslice_fits (by omega) (by rw [hz2]; omega))
      exact ⟨_, _, _, hr, grown cap hB, grb _ _⟩
theorem wpList_appC (w : World) {ops : Array Oper} {rest : List Oper} {o : Oper} {a : Act} {Q : Exit → Act → World → Prop} (hgd : o.guard = none) (s x : Operand)
    (ho : o.op = .call { callee := .builtin .append, args := #[s, x], argTypes := #[26, 26] })
    (B : Nat) (v : Value) (L : List Cr) (hs : a.eval s = v) (hown : OwC w B v L) (ad : Addr) (y : Cr) (hx : a.eval x = .slice (some ad) 1 1) (hc : ∀ j u, y.vals[j]? = some u → w.cell? (ad.add j) = some u) (hL : L.length ≤ 1000000) (hB : B ≤ w.heap.size)
    (h : ∀ A c w', OwC w' B (.slice A (L.length + 1) c) (L ++ [y]) → w.grownBy w' v.ownBlock → wpList Tryz.prog ops Q rest (a.put o.dst (.slice A (L.length + 1) c)) w') : wpList Tryz.prog ops Q (o :: rest) a w := by
  refine wpList_plain hgd fun K hK => ?_
  obtain ⟨A, c, w', hrun, h2, h3⟩ := run_appC w o.type B v L hown ad y hc hL hB
  unfold Oper.wp
  simp [execOp, ho, resolve, invoke, builtin, hs, hx, hrun, Result.andThen]
  exact hK _ _ (h A c w' h2 h3)
end Wd
end Go.Proofs.YtaoeipehpakngaaGreatDoor
