/- Package file: the payloads of a segment's file. What Seal of package frame does. What slices.Sorted and slices.Sort of integers are at this program: the numbers of what the library speaks of, as its contracts ask them. slices.Values, AppendSeq, Collect and Sorted at a row of integers. Package seal: and what goes with it. -/
import Derived.Shelf.SlIterI.Sorted
import Derived.Shelf.SortM.Plain
import Derived.Shelf.SortM.SortNone
import Derived.Ground.GgzProg
import Derived.Ground.SlgmProg
import Derived.RangeFuncBox
import Derived.RangeFuncNested
import Derived.RangeFuncLeaves
import Derived.Shelf.Abstract
import Derived.Shelf.AbstractIn
import Derived.WalkKit
import Derived.OwnWalkIn
import Derived.TacticsInMore
import Derived.Maps.AppendAt
import Derived.LoopNIn
import Derived.LoopIn
import Derived.Deep.RegionHeld3
import Derived.Deep.DeepCutAuto
import Derived.Lib.Hide
import Derived.Test.YtaoeipehpakngaaGreatDoorPb23
import Derived.Test.YtaoeipehpakngaaGreatDoorPb24
import Derived.Test.YtaoeipehpakngaaGreatDoorPb27
import Derived.Test.YtaoeipehpakngaaGreatDoorPb35
import Derived.Test.YtaoeipehpakngaaGreatDoorPb32
import Derived.Test.YtaoeipehpakngaaGreatDoorPb05
import Derived.Test.YtaoeipehpakngaaGreatDoorProg
import Derived.Test.YtaoeipehpakngaaGreatDoorPb01
import Derived.Test.YtaoeipehpakngaaGreatDoorPb12
import Derived.Test.YtaoeipehpakngaaGreatDoorPb21
namespace Go.Proofs.YtaoeipehpakngaaGreatDoor
set_option maxRecDepth 20000
open Go.RowKit
namespace Fi
open Se (Seg Sg Gb Lt)
open Wd (Cr)
theorem pays_get (x : Seg) {k : Nat} (h : k < x.cols.length) : (pays x).getD (2 + k) [] = Co.puts (x.cols.getD k Co.none_) := by
  unfold pays
  rw [show 2 + k = k + 1 + 1 by omega, List.getD_cons_succ, List.getD_cons_succ]
  simp [List.getD, h]
theorem pays_next (x : Seg) {k : Nat} (h : k < x.cols.length) : (pays x).take (2 + (k + 1)) = (pays x).take (2 + k) ++ [Co.puts (x.cols.getD k Co.none_)] := by
  rw [show 2 + (k + 1) = 2 + k + 1 by omega, Rn.take_next (pays x) (2 + k) [] (by rw [pays_len]; omega), pays_get x h]
theorem cr_at {w : World} {OA : Option Addr} {on oc : Nat} {CA : Option Addr} {cn cc : Nat} {os : List Cr} {x : Seg} (h : Sg w OA on oc CA cn cc os x) {k : Nat} (hk : k < os.length) : x.cols.getD k Co.none_ = (os.getD k default).C ∧ (os.getD k default).C ∈ x.cols := by
  have e : x.cols.getD k Co.none_ = (os.getD k default).C := by rw [h.eq, Wd.cols_get]
  refine ⟨e, ?_⟩
  rw [← e, List.getD_eq_getElem?_getD, List.getElem?_eq_getElem (by rw [h.eq, Wd.cols_len]; exact hk)]
  exact List.getElem_mem _
set_option maxHeartbeats 8000000 in
theorem payloadsOf_any (OA : Option Addr) (on oc : Nat) (CA : Option Addr) (cn cc : Nat) (os : List Cr) (x : Seg) (w : World) (hX : Sg w OA on oc CA cn cc os x) (hG : Good x) (hlt : Lt os) (hcn : cn ≤ 100000) :
    Calls Tryz.prog 20 #[.agg #[.int .i64 x.part, .int .i64 x.id, .int .i64 x.st, .int .i64 x.en, .slice OA on oc, .slice CA cn cc]] w fun e w' => ∃ A c, e = .returned (.tuple #[.slice A (2 + cn) c, .int .i64 0]) ∧ Wd.Ss w' A (2 + cn) c (pays x) ∧ Below w.heap.size w w' := by
  have x0 := Gb.new w x.part x.id x.st x.en OA on oc CA cn cc
  have b0 := (Below.refl w.heap.size w).alloc (Nat.le_refl _) (.cells #[.int .i64 x.part, .int .i64 x.id, .int .i64 x.st, .int .i64 x.en, .slice OA on oc, .slice CA cn cc] 28)
  obtain ⟨w1, hw1⟩ : ∃ w1, w1 = w.alloc (.cells #[.int .i64 x.part, .int .i64 x.id, .int .i64 x.st, .int .i64 x.en, .slice OA on oc, .slice CA cn cc] 28) := ⟨_, rfl⟩
  rw [← hw1] at x0 b0
  obtain ⟨-, -, -, -, d4, -⟩ := Gb.six x0
  have Ce := Lib.hid (Rc.encode_ok OA on oc x.offs w1 (hX.below b0).offs (by have := hX.offs.len; have := hG.nice.len; omega) hG.nice.fit)
  have X0 := Lib.hid x0
  have B0 := Lib.hid b0
  have HX := Lib.hid hX
  have HG := Lib.hid hG
  have Hcn := Lib.hid hX.num
  have Hco := Lib.hid hX.cols.len
  have Hlt := Lib.hid hlt
  have Hw1 := Lib.hid hw1
  clear hw1 x0 b0 hX hG hlt
  go_enter Tryz.func20, Tryz.ntmps20
  go_upto_region 1 with fail
  rw [← Hw1.out]
  go_wp2_with fail
  refine Ce.out.mono ?_
  rintro e w2 ⟨A2, n2, c2, rfl, hS2, hB2⟩
  have X2 := Lib.hid (X0.out.below X0.out.lt hB2)
  have B2 := Lib.hid (B0.out.trans (hB2.mono B0.out.size))
  have HS2 := Lib.hid hS2
  clear hS2 hB2 d4 Ce
  obtain ⟨d0, d1, d2, d3, d4, d5⟩ := Gb.six X2.out
  have Ch := Lib.hid (head_any OA on oc CA cn cc x w2 Hcn.out (by omega) HG.out.nice.head)
  go_wp2_with fail
  refine Ch.out.mono ?_
  rintro e w3 ⟨A3, n3, c3, rfl, hS3, hB3⟩
  have X3 := Lib.hid (X2.out.below X2.out.lt hB3)
  have B3 := Lib.hid (B2.out.trans (hB3.mono B2.out.size))
  have HS23 := Lib.hid (HS2.out.below hB3)
  have HS3 := Lib.hid hS3
  clear hS3 hB3 d0 d1 d2 d3 d4 d5 Ch
  have al := (Below.refl w3.heap.size w3).alloc (Nat.le_refl _) (.cells #[.slice A3 n3 c3, .slice A2 n2 c2] 32)
  have o4 := Wd.OwB.lit w3 w.heap.size [.slice A3 n3 c3, .slice A2 n2 c2] B3.out.size (by simp [maxLen])
  obtain ⟨w4, hw4⟩ : ∃ w4, w4 = w3.alloc (.cells #[.slice A3 n3 c3, .slice A2 n2 c2] 32) := ⟨_, rfl⟩
  have o4 : Wd.OwB w4 w.heap.size (.slice (some ⟨w3.heap.size, 0, none⟩) 2 2) [.slice A3 n3 c3, .slice A2 n2 c2] := by rw [hw4]; exact o4
  rw [← hw4] at al
  have O4 := Lib.hid o4
  have G4 := Lib.hid (show Wd.Gs w4 [.slice A3 n3 c3, .slice A2 n2 c2] ((pays x).take (2 + 0)) from Wd.Gs.two (HS3.out.below al) (HS23.out.below al))
  have X4 := Lib.hid (X3.out.below X3.out.lt al)
  have B4 := Lib.hid (B3.out.trans (al.mono B3.out.size))
  have Hw4 := Lib.hid hw4
  clear al o4 hw4
  obtain ⟨-, -, -, -, -, d5⟩ := Gb.six X4.out
  go_upto_region 5 with fail
  rw [← Hw4.out]
  go_wp2_with fail
  go_loopw [6, 27] (fun v i wr => ∃ k : Nat, i = .int .i64 k ∧ k ≤ cn ∧ ∃ A c us, v = .slice A (2 + k) c ∧ Hid (us.length = 2 + k) ∧ Hid (Wd.OwB wr w.heap.size v us ∧ Wd.Gs wr us ((pays x).take (2 + k)) ∧ Below w.heap.size w wr)) (fun _ i _ => cn - (intOf i).toNat)
  case atStart => exact ⟨0, rfl, Nat.zero_le _, _, _, _, rfl, Lib.hid rfl, Lib.hid ⟨O4.out, G4.out, B4.out⟩⟩
  case round =>
    clear d5
    obtain ⟨k, rfl, hk, A, c, us, rfl, hus, hI⟩ := hrel
    by_cases hltk : k < cn
    · have hkI : (k : Int) < (cn : Int) := by omega
      have hko : k < os.length := by rw [← Hco.out]; exact hltk
      obtain ⟨b, f, hA, _, c0, c1, c2, h1⟩ := (HX.out.cols.below hI.out.2.2).cells hko rfl
      subst hA
      have hsz := Hlt.out k hko
      obtain ⟨hce, hcm⟩ := cr_at HX.out hko
      have hv := (HG.out.v1 _ hcm).1
      have hnx := pays_next x (k := k) (by rw [← Hcn.out]; exact hltk)
      rw [hce] at hnx
      obtain ⟨o, ho⟩ : ∃ o, o = os.getD k default := ⟨_, rfl⟩
      rw [← ho] at c0 c1 c2 h1 hsz hnx hv
      have hal := (Below.refl wr.heap.size wr).alloc (Nat.le_refl _) (.cells #[.int .i64 o.C.n, .slice o.A o.n o.c, .slice o.B o.m o.d] 57)
      have bx := Cx.Cb.new wr o.C.n o.A o.n o.c o.B o.m o.d
      have Cv := Cx.cput_any o.A o.n o.c o.B o.m o.d o.C _ (h1.below hal) hsz.1 hsz.2
      rw [Co.put_yes hv] at Cv
      have Cv := Lib.hid Cv
      obtain ⟨b0, b1, b2⟩ := And.intro bx.c0 (And.intro bx.c1 bx.c2)
      have Hal := Lib.hid hal
      have Hnx := Lib.hid hnx
      clear hal bx h1 hsz ho hko hce hcm hv hnx
      go_wp2_with fail
      refine Cv.out.mono ?_
      rintro e w5 ⟨A5, n5, c5, rfl, hS5, hB5⟩
      have hB5' := Hal.out.trans (hB5.mono Hal.out.size)
      have hB6 := hB5'.alloc hB5'.size (.cells #[.slice A5 n5 c5] 32)
      have hown := hI.out.1.below hB6
      have hgs := hI.out.2.1.below hB6
      have h5 := Wd.Gs.one_ (hS5.below ((Below.refl w5.heap.size w5).alloc (Nat.le_refl _) (.cells #[.slice A5 n5 c5] 32)))
      have hnew := (Wd.Bx.new w5 32 #[.slice A5 n5 c5]).cell 0
      have hbel := hI.out.2.2.trans (hB6.mono hI.out.2.2.size)
      have HH := Lib.hid (And.intro hgs (And.intro h5 hbel))
      have hbs := hbel.size
      have hul := hus.out
      clear hB5 hB5' hB6 hI hgs h5 hbel hS5 Cv b0 b1 b2 c0 c1 c2
      go_wp2_with (at_builtin; refine Wd.wpList_appB _ rfl (.tmp 39) (.tmp 41) rfl w.heap.size (.slice A (2 + k) c) us rfl hown ⟨w5.heap.size, 0, none⟩ (.slice A5 n5 c5) rfl hnew rfl (by omega) hbs ?_; intro A7 c7 w7 hown7 hg7)
      have HI7 := Lib.hid (show Wd.OwB w7 w.heap.size (.slice A7 (2 + (k + 1)) c7) (us ++ [.slice A5 n5 c5]) ∧ Wd.Gs w7 (us ++ [.slice A5 n5 c5]) ((pays x).take (2 + (k + 1))) ∧ Below w.heap.size w w7 from ⟨by rw [show 2 + (k + 1) = us.length + 1 by omega]; exact hown7, by
        rw [Hnx.out]
        exact (HH.out.1.app HH.out.2.1).grown hown HH.out.1 hg7, HH.out.2.2.grown hg7 hbs fun g hg => (hown.block hg).1⟩)
      clear hown hown7 hg7 hnew HH hul
      exact ⟨⟨k + 1, by go_num, by omega, A7, c7, _, rfl, Lib.hid (by rw [List.length_append, hus.out]; rfl), HI7⟩, by simp [intOf]; omega⟩
    · have hkI : ¬ (k : Int) < (cn : Int) := by omega
      obtain rfl : k = cn := by omega
      go_wp2_with fail
      go_ret2
      have h := hI.out.1.ss hI.out.2.1
      rw [List.take_of_length_le (by rw [pays_len, ← Hcn.out]; omega)] at h
      exact ⟨A, c, rfl, h, hI.out.2.2⟩
end Fi
end Go.Proofs.YtaoeipehpakngaaGreatDoor
namespace Go.Proofs.YtaoeipehpakngaaGreatDoor
open Go.RowKit
namespace Fc
open Nc
set_option maxRecDepth 100000 in
set_option maxHeartbeats 1000000 in
theorem Seal_any (A : Option Addr) (n c : Nat) (b : List Int) (w : World) (hS : Wd.Sl w .u8 A n c b) (hB : Nm.Byt b) (hn : n ≤ 65536) :
    Calls Tryz.prog 21 #[.slice A n c] w (Wd.Out2 w .u8 (Fr.frame b) 0) := by
  obtain ⟨i0, hi, hz0, hz1, hz2⟩ := info_parts info_u8
  obtain ⟨hz, hsz⟩ := zero_of_info info_eff
  obtain ⟨zc, hzc⟩ : ∃ zc : Array Value, zc = Array.replicate 256 (Value.int .u32 0) := ⟨_, rfl⟩
  rw [← hzc] at hz
  have hzs : zc.size = 256 := by rw [hzc]; exact Array.size_replicate
  have C1 := newEffects_any w
  obtain ⟨tc, htc⟩ : ∃ tc : Array Value, tc = (tab.map (Value.int .u32)).toArray := ⟨_, rfl⟩
  have hts : tc.size = 256 := by rw [htc, List.size_toArray, List.length_map, tab_len]
  have ht1 : tc.all (·.oneCell') = true := by rw [htc]; exact ints_all _ _
  rw [← htc] at C1
  have hsc := fun w : World => run_storeCells_new (P := Tryz.prog) w 85 zc tc (by rw [hsz, hts]) (by rw [hzs, hts]) ht1
  have hl := hS.len
  have hvl := Nm.vd_len (b.length : Int)
  have HC1 := Lib.hid C1
  have Hl := Lib.hid hl
  have C2 := fun w' => putLen0_own (n : Int) w' (by omega) (by omega)
  have hfr : Fr.frame b = (Nm.vd (n : Int) ++ b) ++ Fr.le4 (Fr.sum b) := by rw [hl]; rfl
  rw [← hl] at hvl
  have HC2 := Lib.hid C2
  have Hfr := Lib.hid hfr
  have HS := Lib.hid hS
  have HB := Lib.hid hB
  have Htc := Lib.hid htc
  have hcn := hS.cap
  have hmx := hS.max
  have hnil := Lib.hid hS.nil
  unfold maxLen at hmx
  clear C1 C2 htc ht1 hzs hzc hsz hl hfr hS hB
  generalize Nm.vd (n : Int) = vs at *
  go_enter Tryz.func21, Tryz.ntmps21
  go_wp2_with fail
  refine HC1.out.mono ?_
  rintro e w1 ⟨rfl, hb1⟩
  have hb2 : Below w.heap.size w (w1.alloc (.cells tc 85)) := hb1.alloc hb1.size _
  have hT2 : Tb (w1.alloc (.cells tc 85)) w1.heap.size := by rw [Htc.out]; exact heap_alloc_new w1 _
  clear HC1
  go_wp2_with fail
  generalize hw2 : w1.alloc (.cells tc 85) = w2 at hb2 hT2 ⊢
  have hg2 := hT2.lt
  refine (HC2.out w2).mono ?_
  rintro e w3 ⟨v3, rfl, hO3, hb3⟩
  clear hw2 HC2
  have hW3 : Below w.heap.size w w3 := hb2.trans (hb3.mono hb2.size)
  have hS3 := HS.out.below hW3
  go_wp2_with (at_builtin; refine Wd.wpList_app _ rfl (.tmp 12) (.tmp 13) 32 rfl w2.heap.size 5 i0 _ .u8 1 Tryz.underlying32 hi hz0 hz1 hz2 rfl v3 vs rfl hO3 w3.heap.size A n c b rfl Hl.out hnil.out hS3.rd (by rw [← Hl.out]; omega) (by rw [← Hl.out]; unfold maxLen; omega) hb3.size ?_; intro v4 w4 hO4 hg4)
  have hb4 : Below w2.heap.size w2 w4 := hb3.grown hg4 hb3.size fun g hg => (hO3.lt g hg).1
  have hW4 : Below w.heap.size w w4 := hb2.trans (hb4.mono hb2.size)
  clear hO3 hg4 hb3 hW3 hS3
  refine (tail_any w1.heap.size A n c b w4 (hT2.below hg2 hb4) (HS.out.below hW4) HB.out).mono ?_
  rintro e w5 ⟨A5, n5, c5, rfl, hS5, hb5⟩
  have hO5 := Wd.own_below hO4 hb5
  have hb25 : Below w2.heap.size w2 w5 := hb4.trans (hb5.mono hb4.size)
  have hs5 := hb25.size
  clear hO4 hb4 hW4 hb5
  have hvb : (vs ++ b).length ≤ 65546 := by rw [List.length_append, ← Hl.out]; omega
  have h4 : (Fr.le4 (Fr.sum b)).length = 4 := rfl
  generalize Fr.le4 (Fr.sum b) = qs at *
  have Hn5 := Lib.hid hS5.len
  go_wp2_with (at_builtin; refine Wd.wpList_app _ rfl (.tmp 15) (.tmp 17) 32 rfl w2.heap.size 5 i0 _ .u8 1 Tryz.underlying32 hi hz0 hz1 hz2 rfl v4 (vs ++ b) rfl hO5 w5.heap.size A5 n5 c5 qs rfl Hn5.out hS5.nil hS5.rd (by omega) (by unfold maxLen; omega) hs5 ?_; intro v6 w6 hO6 hg6)
  go_ret2
  obtain ⟨A6, n6, c6, rfl, hS6⟩ := Wd.Sl.of_own hO6
  rw [Hfr.out]
  exact ⟨A6, n6, c6, rfl, hS6, hb2.trans ((hb25.grown hg6 hb25.size fun g hg => (hO5.lt g hg).1).mono hb2.size)⟩
end Fc
end Go.Proofs.YtaoeipehpakngaaGreatDoor
namespace Go.Proofs.YtaoeipehpakngaaGreatDoor
open Go.Shelf
def Tryz.sortI_ren : Go.Shelf.Ren := ⟨fun | 5 => 133 | 8 => 186 | 7 => 185 | 19 => 231 | 20 => 210 | 10 => 222 | 11 => 223 | 12 => 224 | 13 => 225 | 14 => 226 | 15 => 227 | 16 => 228 | 17 => 229 | 18 => 230 | 30 => 249 | 31 => 250 | 32 => 251 | 33 => 252 | 34 => 253 | 35 => 142 | 40 => 263 | n => n, fun | 23 => 25 | 25 => 3 | 3 => 3 | 32 => 134 | 22 => 25 | 0 => 0 | 44 => 83 | 46 => 131 | 4 => 4 | 36 => 248 | 35 => 247 | 41 => 252 | 5 => 5 | 9 => 9 | 53 => 267 | 57 => 152 | 63 => 281 | 64 => 282 | n => n, fun | n => n⟩
theorem Tryz.sortI : Go.Proofs.SlLaysM.n5 Tryz.prog Tryz.sortI_ren := {
  mixed := by kernel_rfl
  f5 := ⟨Tryz.f133.name, by decide, Tryz.func133.trans (congrArg some (by kernel_rfl))⟩
  f7 := ⟨Tryz.f185.name, by decide, Tryz.func185.trans (congrArg some (by kernel_rfl))⟩
  f8 := Tryz.func186.trans (congrArg some (by kernel_rfl))
  f10 := ⟨Tryz.f222.name, by decide, Tryz.func222.trans (congrArg some (by kernel_rfl))⟩
  f11 := ⟨Tryz.f223.name, by decide, Tryz.func223.trans (congrArg some (by kernel_rfl))⟩
  f12 := ⟨Tryz.f224.name, by decide, Tryz.func224.trans (congrArg some (by kernel_rfl))⟩
  f13 := ⟨Tryz.f225.name, by decide, Tryz.func225.trans (congrArg some (by kernel_rfl))⟩
  f14 := ⟨Tryz.f226.name, by decide, Tryz.func226.trans (congrArg some (by kernel_rfl))⟩
  f15 := ⟨Tryz.f227.name, by decide, Tryz.func227.trans (congrArg some (by kernel_rfl))⟩
  f16 := ⟨Tryz.f228.name, by decide, Tryz.func228.trans (congrArg some (by kernel_rfl))⟩
  f17 := ⟨Tryz.f229.name, by decide, Tryz.func229.trans (congrArg some (by kernel_rfl))⟩
  f18 := ⟨Tryz.f230.name, by decide, Tryz.func230.trans (congrArg some (by kernel_rfl))⟩
  f19 := Tryz.func231.trans (congrArg some (by kernel_rfl))
  f20 := Tryz.func210.trans (congrArg some (by kernel_rfl))
  f30 := ⟨Tryz.f249.name, by decide, Tryz.func249.trans (congrArg some (by kernel_rfl))⟩
  f31 := Tryz.func250.trans (congrArg some (by kernel_rfl))
  f32 := Tryz.func251.trans (congrArg some (by kernel_rfl))
  f33 := ⟨Tryz.f252.name, by decide, Tryz.func252.trans (congrArg some (by kernel_rfl))⟩
  f34 := ⟨Tryz.f253.name, by decide, Tryz.func253.trans (congrArg some (by kernel_rfl))⟩
  f35 := ⟨Tryz.f142.name, by decide, Tryz.func142.trans (congrArg some (by kernel_rfl))⟩
  f40 := ⟨Tryz.f263.name, by decide, Tryz.func263.trans (congrArg some (by kernel_rfl))⟩
  t0 := Tryz.underlying0
  a0 := Tryz.isAgg0
  z0 := Tryz.sizeOf0
  v0 := Tryz.zeroValue0
  t3 := Tryz.underlying3
  a3 := Tryz.isAgg3
  z3 := Tryz.sizeOf3
  v3 := Tryz.zeroValue3
  t4 := Tryz.underlying4
  a4 := Tryz.isAgg4
  z4 := Tryz.sizeOf4
  v4 := Tryz.zeroValue4
  t5 := Tryz.underlying5
  a5 := Tryz.isAgg5
  z5 := Tryz.sizeOf5
  v5 := Tryz.zeroValue5
  t9 := Tryz.underlying9
  a9 := Tryz.isAgg9
  z9 := Tryz.sizeOf9
  v9 := Tryz.zeroValue9
  t22 := Tryz.underlying25
  a22 := Tryz.isAgg25
  z22 := Tryz.sizeOf25
  v22 := Tryz.zeroValue25
  t23 := Tryz.underlying25
  a23 := Tryz.isAgg25
  z23 := Tryz.sizeOf25
  v23 := Tryz.zeroValue25
  t25 := Tryz.underlying3
  a25 := Tryz.isAgg3
  z25 := Tryz.sizeOf3
  v25 := Tryz.zeroValue3
  t32 := Tryz.underlying134
  a32 := Tryz.isAgg134
  z32 := Tryz.sizeOf134
  v32 := Tryz.zeroValue134
  t35 := Tryz.underlying247
  a35 := Tryz.isAgg247
  z35 := Tryz.sizeOf247
  v35 := Tryz.zeroValue247
  t36 := Tryz.underlying248
  a36 := Tryz.isAgg248
  z36 := Tryz.sizeOf248
  v36 := Tryz.zeroValue248
  t41 := Tryz.underlying252
  a41 := Tryz.isAgg252
  z41 := Tryz.sizeOf252
  v41 := Tryz.zeroValue252
  t44 := Tryz.underlying83
  a44 := Tryz.isAgg83
  z44 := Tryz.sizeOf83
  v44 := Tryz.zeroValue83
  t46 := Tryz.underlying131
  a46 := Tryz.isAgg131
  z46 := Tryz.sizeOf131
  v46 := Tryz.zeroValue131
  t53 := Tryz.underlying267
  a53 := Tryz.isAgg267
  z53 := Tryz.sizeOf267
  v53 := Tryz.zeroValue267
  t57 := Tryz.underlying152
  a57 := Tryz.isAgg152
  z57 := Tryz.sizeOf152
  v57 := Tryz.zeroValue152
  t63 := Tryz.underlying281
  a63 := Tryz.isAgg281
  z63 := Tryz.sizeOf281
  v63 := Tryz.zeroValue281
  t64 := Tryz.underlying282
  a64 := Tryz.isAgg282
  z64 := Tryz.sizeOf282
  v64 := Tryz.zeroValue282 }
end Go.Proofs.YtaoeipehpakngaaGreatDoor
namespace Go.Proofs.YtaoeipehpakngaaGreatDoor
set_option maxRecDepth 100000
open Go.RowKit Go.Maps Go.Sort Go.Shelf
attribute [local go_sem] Oper.semAt_some
namespace Se
set_option maxHeartbeats 2000000 in
theorem values1_in {w : World} {A : Option Addr} {m c : Nat} {zs : List Int} (hS : Wd.Sl w .i64 A m c zs) (n : Nat) (hn : 1 ≤ n) (l B : Nat) (J Jx : List Int → World → Prop)
    (hY : ∀ pre x W, J pre W → pre.length < zs.length → YieldAt Fence.wide (n - 1) Tryz.prog l #[.int .i64 x] W fun e W' =>
      (e = .returned (.bool true) ∧ J (pre ++ [x]) W' ∧ Below w.heap.size W W') ∨ (e = .returned (.bool false) ∧ Jx (pre ++ [x]) W'))
    (W : World) (hW : Below w.heap.size w W) (hB : W.cell? ⟨B, 0, none⟩ = some (.slice A m c)) (h0 : J [] W) :
    CallsIn Fence.wide n Tryz.prog 134 #[.func (.yield l) #[] #[], .pointer (some ⟨B, 0, none⟩)] W fun e W' => (∃ v, e = .returned v) ∧
      ((∃ ys, ys = zs ∧ J ys W') ∨ (∃ pre, pre <+: zs ∧ Jx pre W')) := by
  have hlen := hS.len
  have hcap := hS.cap
  have hmax := hS.max
  unfold maxLen at hmax
  refine callsIn_of_wp Tryz.func134 rfl trivial ?_ rfl
  simp only [Tryz.ntmps134, List.size_toArray, List.length_cons, List.length_nil, Nat.reduceAdd, Nat.reduceSub, Array.replicate_succ, Array.replicate_zero, List.push_toArray, List.append_toArray, List.nil_append, List.cons_append]
  gi_wp2
  gi_loopw [7] (fun i wr => ∃ k : Nat, k ≤ m ∧ i = .int .i64 k ∧ J (zs.take k) wr ∧ Below w.heap.size w wr) (fun i _ => m - (intOf i).toNat)
  case atStart => exact ⟨0, Nat.zero_le _, rfl, h0, hW⟩
  case round =>
    obtain ⟨k, hk, rfl, hJs, hnx⟩ := hrel
    by_cases hlt : k < m
    · obtain ⟨b, f, hA, hb, hx⟩ := (hS.below hnx).rd k (by omega)
      subst hA
      obtain ⟨fn, tmps, assign, body, hy, hR⟩ := hY _ (zs.getD k 0) wr hJs (by rw [List.length_take]; omega)
      have hs : zs.take k ++ [zs.getD k 0] = zs.take (k + 1) := by
        rw [List.getD_eq_getElem?_getD, List.getElem?_eq_getElem (by omega), List.take_add_one, List.getElem?_eq_getElem (by omega)]
        rfl
      rw [hs] at hR
      generalize zs.getD k 0 = z at *
      gi_wp2
      refine hR.mono ?_
      rintro e W3 (⟨rfl, hJ3, hk3⟩ | ⟨rfl, hJx3⟩)
      · gi_wp2
        go_roundw
        case rel => exact ⟨k + 1, by omega, by simp, hJ3, hnx.trans hk3⟩
        case measure => simp [intOf]; omega
      · gi_wp2
        refine bodyPost_ret (results_none rfl _ _ _) rfl ?_
        exact ⟨⟨_, rfl⟩, .inr ⟨_, List.take_prefix _ _, hJx3⟩⟩
    · obtain rfl : k = m := by omega
      gi_wp2
      go_end0
      exact ⟨⟨_, rfl⟩, .inl ⟨_, by rw [hlen]; exact List.take_length, hJs⟩⟩
theorem values_stops {w : World} {A : Option Addr} {m c : Nat} {zs : List Int} (hS : Wd.Sl w .i64 A m c zs) (n : Nat) (hn : 1 ≤ n) (B : Nat) (w1 : World) (hB : B < w1.heap.size) (hw : Below w.heap.size w w1) (hc : w1.cell? ⟨B, 0, none⟩ = some (.slice A m c)) :
    SeqStopsK Fence.wide n Tryz.prog 134 #[.pointer (some ⟨B, 0, none⟩)] (fun x : Int => #[Value.int .i64 x]) (Below w.heap.size) (fun ys => ys = zs) (fun pre => pre <+: zs) zs.length w1 := fun l J Jx W hW _ _ hY h0 =>
  values1_in hS n hn l B J Jx hY W (hw.trans (hW.mono hw.size)) ((hW.cell (p := ⟨B, 0, none⟩) hB).trans hc) h0
theorem values_in (n : Nat) (A : Option Addr) (m c : Nat) (w : World) :
    CallsIn Fence.wide n Tryz.prog 87 #[.slice A m c] w fun e w' => e = .returned (.func (.func 134) #[] #[.pointer (some ⟨w.heap.size, 0, none⟩)]) ∧ w' = w.alloc (.cells #[.slice A m c] 25) := by
  refine callsIn_of_wp Tryz.func87 rfl trivial ?_ rfl
  simp only [Tryz.ntmps87, List.size_toArray, List.length_cons, List.length_nil, Nat.reduceAdd, Nat.reduceSub, Array.replicate_succ, Array.replicate_zero, List.push_toArray, List.append_toArray, List.nil_append, List.cons_append]
  gi_wp2
  go_ret
  exact ⟨rfl, rfl⟩
theorem info_int : (Tryz.prog.info? 3).map (fun i => (i.zero, i.size, i.bytes)) = some (some (.int .i64 0), 1, 8) := by kernel_rfl
set_option maxHeartbeats 4000000 in
theorem append_in {w0 : World} {A : Option Addr} {m c : Nat} {zs : List Int} (hS : Wd.Sl w0 .i64 A m c zs) (hm : m ≤ 1000000) (n : Nat) (hn : 3 ≤ n) (B : Nat) (w : World) (hB : B < w.heap.size) (hw : Below w0.heap.size w0 w) (hc : w.cell? ⟨B, 0, none⟩ = some (.slice A m c)) :
    CallsIn Fence.wide n Tryz.prog 184 #[.slice none 0 0, .func (.func 134) #[] #[.pointer (some ⟨B, 0, none⟩)]] w fun e W' => ∃ v, e = .returned v ∧ W'.ownsRow w.heap.size 3 1 v zs.length (zs.map (Value.int .i64)) ∧ Below w.heap.size w W' := by
  have h1 : 1 ≤ n := by omega
  have hlen := hS.len
  obtain ⟨i0, hi, hz0, hz1, hz2⟩ := info_parts info_int
  have hu := Tryz.underlying25
  refine callsIn_of_wp_marks Tryz.func184 rfl trivial ?_ rfl
  simp only [Tryz.ntmps184, List.size_toArray, List.length_cons, List.length_nil, Nat.reduceAdd, Nat.reduceSub, Array.replicate_succ, Array.replicate_zero, List.push_toArray, List.append_toArray, List.nil_append, List.cons_append]
  gi_wp2
  have bO := Boxed.new w 25 (.slice none 0 0)
  have hB0 : Below w.heap.size w (w.alloc (.cells #[.slice none 0 0] 25)) := (Below.refl _ w).alloc (Nat.le_refl _) _
  refine wpIn_rangeFunc_ownG rfl h1 (gf := 134) (lb := #[.pointer (some ⟨B, 0, none⟩)]) rfl trivial (enters_of Tryz.func134 (by kernel_rfl) rfl)
    (values_stops hS (n - 1) (by omega) B _ (by simp; omega) (hw.trans (hB0.mono hw.size)) ((hB0.cell (p := ⟨B, 0, none⟩) hB).trans hc)) belowK_t (belowK_b (by have := hw.size; simp; omega)) (Below.refl _ _) (fun _ => rfl)
    (fun pre W => (∃ v, Boxed W w.heap.size 25 v ∧ W.ownsRow w.heap.size 3 1 v pre.length (pre.map (Value.int .i64)) ∧ (v = .slice none 0 0 ↔ pre = [])) ∧ Below w.heap.size w W)
    (fun _ _ _ => False)
    (OwnFrom.and (Own.from (holdsRow_own w.heap.size w.heap.size 25 3 1 (fun pre => pre.length) (fun pre => pre.map (Value.int .i64)) (fun pre v => v = .slice none 0 0 ↔ pre = [])) _) (ownFrom_below (Nat.le_refl _) (by simp)))
    (fun _ _ _ _ _ hs _ _ => hs)
    ⟨⟨_, bO, World.ownsRow_nil _ _ _ _, by simp⟩, hB0⟩
    (fun x => { tmps := #[.slice none 0 0, .func (.func 134) #[] #[.pointer (some ⟨B, 0, none⟩)], .pointer (some ⟨w.heap.size, 0, none⟩), undef, .slice none 0 0, .int .i64 x, .func (.func 134) #[] #[.pointer (some ⟨B, 0, none⟩)], .int .i64 x, undef, undef, undef, undef, undef], defers := [] }) ?assign ?body ?done ?stop
  case assign =>
    intro l x W K hK
    gi_wp2
    exact hK
  case body =>
    rintro l pre x W ⟨⟨v, hv, hrow, hnil⟩, hB⟩ hlt
    have hc := hv.cell
    gi_wp2_with (gi_at_builtin; refine wpListIn_append_own _ rfl _ _ 25 rfl w.heap.size 3 i0 (.int .i64 0) 1 8 hu hi hz0 hz1 hz2 rfl (by decide) _ _ _ rfl (hrow.alloc _) ⟨W.heap.size, 0, none⟩ 1 1 [.int .i64 x] rfl rfl (cell_one_new _ _ _) (by simp [Value.oneCell']) (by unfold maxLen; omega) (by omega) (by have := hB.size; simp; omega) ?_; intro v' w1 hown' hgrow _; obtain ⟨g', cap', rfl⟩ := ownsRow_succ hown'; obtain ⟨hv1, hv2, hr2, hk2, hb2⟩ := hv.appended (by decide) hrow hB.size (Nat.le_refl _) hown' hgrow; have hc1 := hv1.cell; have hf1 := hv1.frozen)
    exact ⟨hk2.from _, hb2.mono (by have := hw.size; omega), ⟨_, hv2, by simpa using hr2, by simp⟩, hB.trans hb2⟩
  case done =>
    rintro D ys W hD rfl ⟨⟨v, hv, hrow, hnil⟩, hB⟩ hK
    have hc := hv.cell
    gi_wp2
    refine ⟨by simp, .inl ⟨_, _, rfl, run_takeDeferred hK, ?_⟩⟩
    exact ⟨_, results_tmp rfl _ _ _, v, rfl, ownsRow_putObj hrow _ hK rfl, hB.trans (belowK_b (w := w) (Nat.le_refl _) W D _ _ (by simp at hD; omega) hK rfl rfl)⟩
  case stop =>
    rintro D c pre W _ _ h _
    exact h.elim
set_option maxHeartbeats 1000000 in
theorem collect_in {w0 : World} {A : Option Addr} {m c : Nat} {zs : List Int} (hS : Wd.Sl w0 .i64 A m c zs) (hm : m ≤ 1000000) (n : Nat) (hn : 4 ≤ n) (B : Nat) (w : World) (hB : B < w.heap.size) (hw : Below w0.heap.size w0 w) (hc : w.cell? ⟨B, 0, none⟩ = some (.slice A m c)) :
    CallsIn Fence.wide n Tryz.prog 132 #[.func (.func 134) #[] #[.pointer (some ⟨B, 0, none⟩)]] w fun e W' => ∃ v, e = .returned v ∧ W'.ownsRow w.heap.size 3 1 v zs.length (zs.map (Value.int .i64)) ∧ Below w.heap.size w W' := by
  have h1 : 1 ≤ n := by omega
  have Ca := append_in hS hm (n - 1) (by omega) B w hB hw hc
  have hf : Fence.wide.fn 184 := trivial
  refine callsIn_of_wp Tryz.func132 rfl trivial ?_ rfl
  simp only [Tryz.ntmps132, List.size_toArray, List.length_cons, List.length_nil, Nat.reduceAdd, Nat.reduceSub, Array.replicate_succ, Array.replicate_zero, List.push_toArray, List.append_toArray, List.nil_append, List.cons_append]
  gi_wp2_with (gi_at_call 184; refine Ca.mono ?_; rintro e w' ⟨v, rfl, hrow, hb⟩)
  go_ret
  exact ⟨v, rfl, hrow, hb⟩
set_option maxHeartbeats 1000000 in
theorem sorted_in {w0 : World} {A : Option Addr} {m c : Nat} {zs : List Int} (hS : Wd.Sl w0 .i64 A m c zs) (hm : m ≤ 1000000) (n : Nat) (hn : 5 ≤ n) (B : Nat) (w : World) (hB : B < w.heap.size) (hw : Below w0.heap.size w0 w) (hc : w.cell? ⟨B, 0, none⟩ = some (.slice A m c)) :
    CallsIn Fence.wide n Tryz.prog 86 #[.func (.func 134) #[] #[.pointer (some ⟨B, 0, none⟩)]] w (Wd.Out w .i64 (zs.mergeSort fun x y => decide (x ≤ y))) := by
  have h1 : 1 ≤ n := by omega
  have hlen := hS.len
  have Cc := collect_in hS hm (n - 1) (by omega) B w hB hw hc
  have hf : Fence.wide.fn 132 := trivial
  have hf2 : Fence.wide.fn 133 := trivial
  refine callsIn_of_wp Tryz.func86 rfl trivial ?_ rfl
  simp only [Tryz.ntmps86, List.size_toArray, List.length_cons, List.length_nil, Nat.reduceAdd, Nat.reduceSub, Array.replicate_succ, Array.replicate_zero, List.push_toArray, List.append_toArray, List.nil_append, List.cons_append]
  gi_wp2_with (gi_at_call 132; refine Cc.mono ?_; rintro e W ⟨v, rfl, hrow, hb⟩)
  rcases hrow.2 with ⟨rfl, hz⟩ | ⟨gb, cap, cur, rfl, hbase, hgb, r1, r2, r3, r4⟩
  · have hss : zs = [] := List.eq_nil_of_length_eq_zero hz
    subst hss
    gi_wp2_with (gi_at_call 133; refine (callsIn_wide.2 (AnyM.slices_Sort_int_none Tryz.sortI none 0 W)).mono ?_; rintro e w' ⟨rfl, rfl⟩)
    go_ret
    exact ⟨none, 0, 0, rfl, by rw [List.mergeSort_nil]; exact Wd.Sl.none_ _ _, hb⟩
  · have hH : Holds (Value.int .i64) W gb 0 zs.toArray := holds_of_block_i hgb (by simpa using r4)
    have hgl : gb < W.heap.size := (Array.getElem?_eq_some_iff.1 hgb).1
    have cS := AnyM.slices_Sort_int Tryz.sortI gb 0 cap zs W hH hgl (by omega)
    change Calls _ 133 _ _ _ at cS
    gi_wp2_with (gi_at_call 133; refine (callsIn_wide.2 cS).mono ?_; rintro e w' ⟨rfl, nn, os, rfl⟩)
    go_ret
    exact Wd.Out.of_own (ownsRow_sorted_i (ss := zs) (by simp) hbase hgb r1 r2 r3) (hb.grown (grownBy_sorted_i _) hb.size (fun j hj => by cases hj; exact hbase))
end Se
end Go.Proofs.YtaoeipehpakngaaGreatDoor
namespace Go.Proofs.YtaoeipehpakngaaGreatDoor
set_option maxRecDepth 20000
open Go.RowKit
namespace Se
open Sc (Sch tr tr_yes tr_no tr_iff tr_congr)
open Wd (Cr)
def OffOk (x : Seg) : Prop := x.offs.Nodup ∧ ∀ o ∈ x.offs, x.st ≤ o ∧ o < x.en
theorem off_iff (x : Seg) : Rise x.st x.en (x.offs.mergeSort fun a b => decide (a ≤ b)) ↔ OffOk x := by
  have hp := List.mergeSort_perm x.offs (fun a b => decide (a ≤ b))
  have hs : (x.offs.mergeSort fun a b => decide (a ≤ b)).Pairwise (fun a b => decide (a ≤ b) = true) :=
    List.pairwise_mergeSort (fun a b c h k => by simp at *; omega) (fun a b => by simp; omega) x.offs
  rw [rise_iff, OffOk, ← hp.nodup_iff]
  constructor
  · rintro ⟨h1, h2⟩
    exact ⟨h1.imp fun {a b} h => by omega, fun o ho => h2 o (hp.mem_iff.2 ho)⟩
  · rintro ⟨h1, h2⟩
    refine ⟨?_, fun o ho => h2 o (hp.mem_iff.1 ho)⟩
    exact (hs.and h1).imp fun {a b} h => by
      have := h.2
      have := of_decide_eq_true h.1
      omega
theorem values_any (A : Option Addr) (m c : Nat) (w : World) :
    Calls Tryz.prog 87 #[.slice A m c] w fun e w' => ∃ B, e = .returned (.func (.func 134) #[] #[.pointer (some ⟨B, 0, none⟩)]) ∧ B < w'.heap.size ∧ w'.cell? ⟨B, 0, none⟩ = some (.slice A m c) ∧ Below w.heap.size w w' := by
  refine ((callsIn_wide (n := 6)).1 (values_in 6 A m c w)).mono ?_
  rintro e w' ⟨rfl, rfl⟩
  exact ⟨_, rfl, by simp, (Boxed.new w 25 (.slice A m c)).cell, (Below.refl _ _).alloc (Nat.le_refl _) _⟩
set_option maxHeartbeats 4000000 in
theorem mayOffsets_any (OA : Option Addr) (on oc : Nat) (CA : Option Addr) (cn cc : Nat) (os : List Cr) (x : Seg) (w : World) (hX : Sg w OA on oc CA cn cc os x) (hon : on ≤ 1000000) (hst : 0 ≤ x.st) (hst2 : x.st ≤ 1099511627776) (hen : x.en ≤ 1099511627776) :
    Calls Tryz.prog 44 #[.agg #[.int .i64 x.part, .int .i64 x.id, .int .i64 x.st, .int .i64 x.en, .slice OA on oc, .slice CA cn cc]] w fun e w' => e = .returned (.bool (tr (OffOk x))) ∧ Below w.heap.size w w' := by
  have x1 : Gb (w.alloc (.cells #[.int .i64 x.part, .int .i64 x.id, .int .i64 x.st, .int .i64 x.en, .slice OA on oc, .slice CA cn cc] 28)) w.heap.size x.part x.id x.st x.en OA on oc CA cn cc := Gb.new _ _ _ _ _ _ _ _ _ _ _
  have hb1 : Below w.heap.size w (w.alloc (.cells #[.int .i64 x.part, .int .i64 x.id, .int .i64 x.st, .int .i64 x.en, .slice OA on oc, .slice CA cn cc] 28)) := (Below.refl _ _).alloc (Nat.le_refl _) _
  obtain ⟨w1, hw1⟩ : ∃ w1, w1 = w.alloc (.cells #[.int .i64 x.part, .int .i64 x.id, .int .i64 x.st, .int .i64 x.en, .slice OA on oc, .slice CA cn cc] 28) := ⟨_, rfl⟩
  rw [← hw1] at x1 hb1
  have HO := Lib.hid (fun W (hb : Below w.heap.size w W) => hX.offs.below hb)
  have Cv := Lib.hid (fun W => values_any OA on oc W)
  have hS := hX.offs
  have Cs := Lib.hid (fun B W (hB : B < W.heap.size) (hw : Below w.heap.size w W) (hc : W.cell? ⟨B, 0, none⟩ = some (.slice OA on oc)) => (callsIn_wide (n := 6)).1 (sorted_in hS hon 6 (by omega) B W hB hw hc))
  have Cr := Lib.hid (fun (R : Option Addr) (m d : Nat) (W : World) (hl : Wd.Sl W .i64 R m d (x.offs.mergeSort fun a b => decide (a ≤ b))) => rise_any OA on oc CA cn cc x.part x.id x.st x.en R m d _ W hl hst hst2 hen)
  rw [tr_congr (off_iff x)] at Cr
  obtain ⟨r, hr⟩ : ∃ r, r = tr (OffOk x) := ⟨_, rfl⟩
  rw [← hr] at Cr ⊢
  have z10 := Gb.six (w := w1.drew) (Wd.Bx.drew x1)
  have hdd : Below w1.heap.size w1 w1.drew := (Below.refl _ _).drew
  have Hw1 := Lib.hid hw1
  have HB1 := Lib.hid hb1
  have X1 := Lib.hid x1
  clear x1 hw1 hX hS hr hb1
  go_enter Tryz.func44, Tryz.ntmps44
  go_upto_region 1 with fail
  rw [← Hw1.out]
  go_region_held3 (fun w' => w'.cell? ⟨w.heap.size, 0, none⟩ = some (.int .i64 x.part) ∧ w'.cell? ⟨w.heap.size, 1, none⟩ = some (.int .i64 x.id) ∧ w'.cell? ⟨w.heap.size, 2, none⟩ = some (.int .i64 x.st) ∧ w'.cell? ⟨w.heap.size, 3, none⟩ = some (.int .i64 x.en) ∧ w'.cell? ⟨w.heap.size, 4, none⟩ = some (.slice OA on oc) ∧ w'.cell? ⟨w.heap.size, 5, none⟩ = some (.slice CA cn cc)) (with_reducible first | exact z10) (first
    | (go_at_call 87; (with_reducible refine (Cv.out _).mono ?_); rintro e w2 ⟨B, rfl, hBl, hBc, hB2⟩; have hb2 : Below w1.heap.size w1 w2 := hdd.trans hB2; have z10 := Gb.six (X1.out.below X1.out.lt hb2))
    | (go_at_call 86; (with_reducible refine (Cs.out _ _ hBl (HB1.out.trans (hb2.mono HB1.out.size)) hBc).mono ?_); rintro e w3 ⟨R, m, d, rfl, hL3, hB3⟩; have hb3 : Below w1.heap.size w1 w3 := hb2.trans (hB3.mono hb2.size); have z10 := Gb.six (X1.out.below X1.out.lt hb3))
    | (go_at_call 85; (with_reducible refine (Cr.out R m d _ hL3).mono ?_); rintro e w4 ⟨rfl, hB4⟩; have hb4 : Below w1.heap.size w1 w4 := hb3.trans (hB4.mono hb3.size); have z10 := Gb.six (X1.out.below X1.out.lt hb4)))
  all_goals (
    have H3 := Lib.hid (HB1.out.trans (hb4.mono HB1.out.size))
    clear hb4 hB4 hb3 hB3 hb2 hB2 hL3 hBl hBc
    go_wp2_with fail
    go_ret
    exact ⟨rfl, H3.out⟩)
end Se
end Go.Proofs.YtaoeipehpakngaaGreatDoor
