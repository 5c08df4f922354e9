/- What Read of package frame does: it collects copies of the payloads that eachFrame hands on. Package seal: fit: do all rows fit a schema that may be? A row of numbers that a sort turns: its memory, what a comparison may leave of the world, an exchange. slices.insertionSortCmpFunc of a row of and what goes with it. -/
import Derived.Maps.AppendAt
import Derived.Sort.QuietIn
import Derived.Deep.RegionHeld3
import Derived.Lib.Hide
import Derived.Sort.Grow
import Derived.WalkKit
import Derived.Shelf.SlSortCmp.QuietGrown
import Derived.Shelf.RegionOpen
import Derived.Sort.WalkA
import Derived.Sort.WalkB2
import Derived.Sort.WalkB12
import Derived.Deep.LoopGhost
import Derived.Test.YtaoeipehpakngaaGreatDoorPb25
import Derived.Test.YtaoeipehpakngaaGreatDoorPb06
import Derived.Test.YtaoeipehpakngaaGreatDoorPb32
import Derived.Test.YtaoeipehpakngaaGreatDoorPb12
import Derived.Test.YtaoeipehpakngaaGreatDoorPb01
import Derived.Test.YtaoeipehpakngaaGreatDoorPb07
import Derived.Test.YtaoeipehpakngaaGreatDoorProg
namespace Go.Proofs.YtaoeipehpakngaaGreatDoor
open Go.RowKit Go.Shelf
attribute [local go_sem] Oper.semAt_some
namespace Fc
open Nc
theorem bclone_own (A : Option Addr) (m c : Nat) (bs : List Int) (w : World) (hb : Wd.Sl w .u8 A m c bs) (hm : m ≤ 10000000) :
    Calls Tryz.prog 109 #[.slice A m c] w fun e w' => ∃ v, e = .returned v ∧ w'.ownsRow w.heap.size 5 1 v bs.length (bs.map (Value.int .u8)) ∧ Below w.heap.size w w' := by
  obtain ⟨i0, hi, hz0, hz1, hz2⟩ := info_parts info_u8
  obtain ⟨rfl, hc, hx, hA, hr⟩ := hb
  rcases A with _ | ad
  · obtain rfl := hA rfl
    obtain rfl := hr.none_
    have hnil : ∀ (w : World) (n c : Nat), (binOp .eql 32 (.slice none n c) (.slice none 0 0)).run Tryz.prog w = .ok (.bool true) w := fun _ _ _ => by kernel_rfl
    go_enter Tryz.func109, Tryz.ntmps109
    go_wp2
    go_ret
    exact ⟨_, rfl, World.ownsRow_nil _ _ _ _, Below.refl _ _⟩
  · have hnil : ∀ (w : World) (n c : Nat) , (binOp .eql 32 (.slice (some ad) n c) (.slice none 0 0)).run Tryz.prog w = .ok (.bool false) w := fun _ _ _ => by kernel_rfl
    go_enter Tryz.func109, Tryz.ntmps109
    go_wp2_with (at_builtin; refine Wd.wpList_app _ rfl (.tmp 5) (.tmp 6) 32 rfl w.heap.size 5 i0 _ .u8 1 Tryz.underlying32 hi hz0 hz1 hz2 rfl (.slice (some ⟨w.heap.size, 0, none⟩) 0 0) [] rfl (World.ownsRow_lit w #[] 0 (Nat.le_refl _) (by simp [maxLen]) rfl) w.heap.size _ _ c bs rfl rfl (by simp) (hr.below ((Below.refl _ _).alloc (Nat.le_refl _) _)) (by simp; omega) (by simp [maxLen]; omega) (by simp) ?_; intro v' w1 hown hbel)
    go_ret
    exact ⟨v', rfl, by simpa using hown, ((Below.refl _ _).alloc (Nat.le_refl _) _).grown hbel (by simp) (by simp [Value.ownBlock])⟩
theorem eachFrame_in (n : Nat) (A : Option Addr) (m c : Nat) (w : World) :
    CallsIn Fence.wide n Tryz.prog 108 #[.slice A m c] w fun e w' => e = .returned (.func (.func 158) #[] #[.pointer (some ⟨w.heap.size, 0, none⟩)]) ∧ w' = w.alloc (.cells #[.slice A m c] 32) := by
  refine callsIn_of_wp Tryz.func108 rfl trivial ?_ rfl
  simp only [Tryz.ntmps108, List.size_toArray, List.length_cons, List.length_nil, Nat.reduceAdd, Nat.reduceSub, Array.replicate_succ, Array.replicate_zero, List.push_toArray, List.append_toArray, List.nil_append, List.cons_append]
  gi_wp2
  go_ret
  exact ⟨rfl, rfl⟩
theorem each_stops (n : Nat) (hn : 1 ≤ n) (Bl : Nat) (w0 : World) (A : Option Addr) (m c : Nat) (b : List Int) (hB : Nm.Byt b) (hm : m ≤ 1000000) (h0S : Wd.Sl w0 .u8 A m c b) (w : World) (hBl : Wd.Bx w Bl 32 #[.slice A m c]) (hbel : Below w0.heap.size w0 w) :
    SeqStopsK Fence.wide n Tryz.prog 158 #[.pointer (some ⟨Bl, 0, none⟩)] (encF (w := w0)) (KeepF w0.heap.size Bl) (fun ys => Fr.rd b = (vals ys, lst ys)) (fun _ => True) m w :=
  fun l J Jx W hW hJ _ hY h0 => each1_in n hn l Bl w0.heap.size w0 A m c b hB hm h0S rfl J Jx W hJ hY (hBl.below hBl.lt hW) (hbel.trans (hW.mono hbel.size)) h0
theorem keepF_b {n₀ Bl : Nat} {w : World} (hn : n₀ ≤ w.heap.size) (hb : Bl < w.heap.size) (W : World) (l : Nat) (o o' : Obj) (hl : w.heap.size ≤ l) (h : W.heap[l]? = some o) (h1 : o.isCells = false) (h2 : o.isWalk = false) : KeepF n₀ Bl W (W.putObj l o') :=
  ⟨belowK_b hn W l o o' hl h h1 h2, World.putObj_heap_other (by omega), fun g t => by
    have hne : g ≠ l := fun e => by
      subst e
      unfold Tb Wd.Row at t
      rw [t] at h
      cases h
      cases h1
    show (W.putObj l o').heap[g]? = _
    rw [World.putObj_heap_other hne]
    exact t⟩
theorem info_bs : (Tryz.prog.info? 32).map (fun i => (i.zero, i.size, i.bytes)) = some (some (.slice none 0 0), 1, 24) := by kernel_rfl
def ReadI (w : World) (A : Option Addr) (m c : Nat) (pre : List (Fm w)) (W : World) : Prop :=
  (∃ v vs, Boxed W w.heap.size 58 v ∧ W.ownsRow (w.heap.size + 1 + 1 + 1) 32 1 v pre.length vs ∧ Wd.Hs W 5 vs (vals pre)) ∧ Boxed W (w.heap.size + 1) 3 (.int .i64 (lst pre : Int)) ∧ Boxed W (w.heap.size + 1 + 1) 32 (.slice A m c) ∧ Below w.heap.size w W
theorem readI_own (w : World) (A : Option Addr) (m c : Nat) (B : Nat) (hB : w.heap.size ≤ B) : OwnFrom B (ReadI w A m c) :=
  OwnFrom.and (Own.from (fun _ X Y row ⟨v, vs, h1, h2, h3⟩ hg hrow => ⟨v, vs, boxed_own (β := Unit) w.heap.size _ (fun _ => v) () X Y row h1 hg hrow, Wd.own_others h2 hg hrow, h3.others hg hrow⟩) _)
    (OwnFrom.and (Own.from (boxed_own _ _ _) _) (OwnFrom.and (Own.from (boxed_own _ _ _) _) (ownFrom_below (Nat.le_refl _) hB)))
def ReadAx (w : World) (A : Option Addr) (m c : Nat) (x : Fm w) (a' : Act) (_ : World) : Prop :=
  a' = { tmps := #[.slice A m c, undef, .slice none 0 0, .int .i64 0, .pointer (some ⟨w.heap.size, 0, none⟩), .pointer (some ⟨w.heap.size + 1, 0, none⟩), .int .i64 (x.1.e : Int), .slice x.1.A x.1.n x.1.c, .slice A m c, .func (.func 158) #[] #[.pointer (some ⟨w.heap.size + 1 + 1, 0, none⟩)], .int .i64 (x.1.e : Int), .slice x.1.A x.1.n x.1.c, undef, undef, undef, undef, undef, undef, undef, undef], defers := [] }
theorem keepsFrom_below {B : Nat} {W W' : World} (h : Below W.heap.size W W') : KeepsFrom B W W' := ⟨h.size, fun k _ _ hk _ => (h.block k (Array.getElem?_eq_some_iff.1 hk).1).trans hk⟩
theorem read_end {w W w2 w3 : World} {A : Option Addr} {m c : Nat} {pre : List (Fm w)} {x : Fm w} {v v' vc u : Value} {vs : List Value}
    (bV : Boxed W w.heap.size 58 v) (hrow : W.ownsRow (w.heap.size + 1 + 1 + 1) 32 1 v pre.length vs) (hHs : Wd.Hs W 5 vs (vals pre)) (bP : Boxed W (w.heap.size + 1) 3 u) (bS : Boxed W (w.heap.size + 1 + 1) 32 (.slice A m c)) (hB : Below w.heap.size w W)
    (hW : Below W.heap.size W w2) (hvc : w2.ownsRow 0 5 1 vc x.1.p.length (x.1.p.map (Value.int .u8)))
    (hown : w3.ownsRow (w.heap.size + 1 + 1 + 1) 32 1 v' (pre.length + 1) (vs ++ [vc])) (hgr : w2.grownBy w3 v.ownBlock) :
    Boxed w3 w.heap.size 58 v ∧ Boxed (w3.setCell ⟨w.heap.size, 0, none⟩ v') (w.heap.size + 1) 3 u ∧
      KeepsFrom (w.heap.size + 1 + 1 + 1) W ((w3.setCell ⟨w.heap.size, 0, none⟩ v').setCell ⟨w.heap.size + 1, 0, none⟩ (.int .i64 (x.1.e : Int))) ∧
      KeepF w.heap.size (w.heap.size + 1 + 1) W ((w3.setCell ⟨w.heap.size, 0, none⟩ v').setCell ⟨w.heap.size + 1, 0, none⟩ (.int .i64 (x.1.e : Int))) ∧
      ReadI w A m c (pre ++ [x]) ((w3.setCell ⟨w.heap.size, 0, none⟩ v').setCell ⟨w.heap.size + 1, 0, none⟩ (.int .i64 (x.1.e : Int))) := by
  have hsz := hB.size
  have hrow2 := Wd.own_below hrow hW
  have hne : ∀ k, k < w.heap.size + 1 + 1 + 1 → some k ≠ v.ownBlock := fun k hk e => by have := (hrow2.lt k e.symm).1; omega
  have hne' : ∀ k, k < w.heap.size + 1 + 1 + 1 → v'.ownBlock ≠ some k := fun k hk e => by have := (hown.lt k e).1; omega
  have bV2 : Boxed w2 w.heap.size _ v := (hW.block _ bV.lt).trans bV
  have bP2 : Boxed w2 (w.heap.size + 1) _ u := (hW.block _ bP.lt).trans bP
  have bS2 : Boxed w2 (w.heap.size + 1 + 1) _ _ := (hW.block _ bS.lt).trans bS
  have bV3 : Boxed w3 w.heap.size _ v := bV2.kept hgr (hne _ (by omega))
  have bP3 : Boxed w3 (w.heap.size + 1) _ u := bP2.kept hgr (hne _ (by omega))
  have bS3 : Boxed w3 (w.heap.size + 1 + 1) _ _ := bS2.kept hgr (hne _ (by omega))
  have bP4 : Boxed (w3.setCell ⟨w.heap.size, 0, none⟩ v') (w.heap.size + 1) _ u := bP3.other (by omega) _
  have bS5 := (bS3.other (B' := w.heap.size) (by omega) v').other (B' := w.heap.size + 1) (by omega) (.int .i64 (x.1.e : Int))
  have hbl : Below w.heap.size W ((w3.setCell ⟨w.heap.size, 0, none⟩ v').setCell ⟨w.heap.size + 1, 0, none⟩ (.int .i64 (x.1.e : Int))) :=
    (((hW.mono hsz).grown hgr (Nat.le_trans hsz hW.size) (fun k hk => by have := (hrow2.lt k hk).1; omega)).setCell (p := ⟨w.heap.size, 0, none⟩) (Nat.le_refl _) _).setCell (p := ⟨w.heap.size + 1, 0, none⟩) (by simp) _
  refine ⟨bV3, bP4, ?_, ⟨hbl, ?_, ?_⟩, ⟨⟨v', vs ++ [vc], (bV3.set v').other (by omega) _, ?_, ?_⟩, ?_, bS5, hB.trans hbl⟩⟩
  · have k1 : KeepsFrom (w.heap.size + 1 + 1 + 1) W w2 := keepsFrom_below hW
    have k2 : KeepsOthers w2 w3 := KeepsOthers.of_grownBy hgr fun j o ej hj => by
      rcases hrow2.2 with ⟨rfl, _⟩ | ⟨g', cap, cur, rfl, _, hgb, _⟩
      · simp [Value.ownBlock] at ej
      · obtain rfl : g' = j := by simpa [Value.ownBlock] using ej
        rw [hgb] at hj; cases hj; rfl
    exact ((k1.trans (k2.from _)).trans ((KeepsOthers.setCell _ _ _).from _)).trans ((KeepsOthers.setCell _ _ _).from _)
  · exact (show _ = some _ from bS5).trans (Eq.symm bS)
  · intro g tg
    have t2 : Tb w2 g := tg.below tg.lt hW
    have t3 : Tb w3 g := (show Wd.Bx w2 g 85 _ from t2).grown hgr ((show Wd.Bx w2 g 85 _ from t2).apart hrow2 (by decide))
    have n1 : g ≠ w.heap.size := fun e => by
      subst e
      have := (show w3.heap[w.heap.size]? = _ from t3).symm.trans bV3
      simp only [Option.some.injEq, Obj.cells.injEq] at this
      exact absurd this.2.1 (by decide)
    have n2 : g ≠ w.heap.size + 1 := fun e => by
      subst e
      have := (show w3.heap[w.heap.size + 1]? = _ from t3).symm.trans bP3
      simp only [Option.some.injEq, Obj.cells.injEq] at this
      exact absurd this.2.1 (by decide)
    exact (Wd.Row.other (a := ⟨w.heap.size, 0, none⟩) t3 n1).other n2
  · rw [List.length_append]
    exact (hown.kept (grownBy_setCell' w3 w.heap.size v') (.inr (hne' _ (by omega)))).kept (grownBy_setCell' _ (w.heap.size + 1) _) (.inr (hne' _ (by omega)))
  · rw [vals_snoc]
    exact ((((hHs.below hW).snoc hvc).grown hrow2 (by decide) hgr).set bV3 (by decide)).set bP4 (by decide)
  · rw [lst_snoc]
    exact bP4.set _
set_option maxRecDepth 100000 in
set_option maxHeartbeats 2000000 in
theorem read_in (n : Nat) (hn : 3 ≤ n) (A : Option Addr) (m c : Nat) (b : List Int) (w : World) (hS : Wd.Sl w .u8 A m c b) (hm : m ≤ 1000000) (hB : Nm.Byt b) :
    CallsIn Fence.wide n Tryz.prog 64 #[.slice A m c] w (Wd.OutSs w (Fr.rd b).1 (Fr.rd b).2) := by
  have h1 : 1 ≤ n := by omega
  obtain ⟨i0, hi, hz0, hz1, hz2⟩ := info_parts info_bs
  refine callsIn_of_wp_marks Tryz.func64 rfl trivial ?_ rfl
  simp only [Tryz.ntmps64, List.size_toArray, List.length_cons, List.length_nil, Nat.reduceAdd, Nat.reduceSub, Array.replicate_succ, Array.replicate_zero, List.push_toArray, List.append_toArray, List.nil_append, List.cons_append]
  gi_wp2_with (refine ⟨trivial, ?_⟩; gi_at_call 108; refine (eachFrame_in (n - 1) _ _ _ _).mono ?_; rintro e w' ⟨rfl, rfl⟩)
  have hI0 : ReadI w A m c [] (((w.alloc (.cells #[.slice none 0 0] 58)).alloc (.cells #[.int .i64 0] 3)).alloc (.cells #[.slice A m c] 32)) := by
    have b1 := Boxed.new w 58 (.slice none 0 0)
    have b2 := Boxed.new (w.alloc (.cells #[.slice none 0 0] 58)) 3 (.int .i64 0)
    have b3 := Boxed.new ((w.alloc (.cells #[.slice none 0 0] 58)).alloc (.cells #[.int .i64 0] 3)) 32 (.slice A m c)
    rw [World.size_alloc] at b2
    rw [World.size_alloc, World.size_alloc] at b3
    exact ⟨⟨_, [], (b1.alloc _).alloc _, World.ownsRow_nil _ _ _ _, Wd.Hs.nil _ _⟩, b2.alloc _, b3, (((Below.refl _ w).alloc (Nat.le_refl _) _).alloc (by simp) _).alloc (by simp; omega) _⟩
  refine wpIn_rangeFunc_ownH rfl h1 (gf := 158) (lb := #[.pointer (some ⟨w.heap.size + 1 + 1, 0, none⟩)]) rfl trivial (enters_of Tryz.func158 (by kernel_rfl) rfl)
    (each_stops (n - 1) (by omega) (w.heap.size + 1 + 1) w A m c b hB hm hS _ hI0.2.2.1 hI0.2.2.2) KeepF.trans (keepF_b (by simp; omega) (by simp)) (Below.refl _ _) (fun _ => rfl)
    (ReadI w A m c) (fun _ _ _ => False) (readI_own w A m c _ (by simp; omega)) (fun _ _ _ _ _ hs _ _ => hs) hI0 (ReadAx w A m c) (fun _ _ _ _ _ _ h _ _ => h) ?assign ?body ?done ?stop
  case assign =>
    rintro l' pre x W K hI hK
    dsimp only [encF]
    gi_wp2
    exact hK _ _ (KeepsFrom.refl _ _) (KeepF.refl _ _ _) hI rfl
  case body =>
    rintro l' pre x a' W hl' ⟨r, hr⟩ ⟨⟨v, vs, bV, hrow, hHs⟩, bP, bS, hBl⟩ rfl hlt
    have hsz := hBl.size
    have cV := bV.cell
    have hxS := x.2.1.below hBl
    have hxn : x.1.n ≤ 10000000 := by have := x.2.2.1; omega
    have hvsz : w.heap.size + 1 + 1 + 1 ≤ W.heap.size := bS.lt
    have Cl := Lib.hid fun (w' : World) (hb : Below W.heap.size W w') => bclone_own x.1.A x.1.n x.1.c x.1.p w' (hxS.below hb) hxn
    clear hI0 hr hl' hxS
    gi_wp2
    refine wpIn_region_any (by kernel_rfl) ?_
    refine Rg.any_in (Rg.noDefer_spec (by kernel_rfl)) (fun ⟨a, w', h⟩ => h) _ _ _ _ ?_
    refine wpAny_of_held (S := fun _ => True) _ _ _ _ ?_
    change wpAnyH _ _ _ _ _ 6 (Array.replicate 6 false) _ W.drew
    refine wpAnyH_take (i := 1) (v := .slice x.1.A x.1.n x.1.c) rfl (by kernel_rfl) (by kernel_rfl) (by kernel_rfl) (fun _ _ _ h => h) (Or.inl ⟨by rfl, ?_⟩) trivial ?_
    · intro w' _
      go_simp
    refine wpAnyH_ready (rs := [0, 2]) (by kernel_rfl) (by simp) ?_
    refine AllReadyH.cons rfl (fun K hK => ?_) (AllReadyH.cons rfl (fun K hK => ?_) AllReadyH.nil)
    · go_simp
      refine hK.out _ _ trivial (fun _ => ?_)
      clear hK K
      refine wpAnyH_ready (rs := [2]) (by kernel_rfl) (by simp) ?_
      refine AllReadyH.cons rfl (fun K hK => ?_) AllReadyH.nil
      go_simp
      refine (Cl.out _ ((Below.refl _ _).drew)).mono ?_
      rintro e w1 ⟨vc, rfl, hvc, hb1⟩
      have hb1' : Below W.heap.size W w1 := Wd.of_drew hb1
      obtain ⟨Ac, nc, cc, rfl, _⟩ := Wd.Sl.of_own hvc
      have cV1 : w1.cell? ⟨w.heap.size, 0, none⟩ = some v := (hb1'.cell (p := ⟨w.heap.size, 0, none⟩) bV.lt).trans cV
      have hvc0 := Wd.own_down hvc (Nat.zero_le _)
      have hb2 : Below W.heap.size W (w1.alloc (.cells #[.slice Ac nc cc] 32)) := hb1'.alloc hb1'.size _
      have cV2 : (w1.alloc (.cells #[.slice Ac nc cc] 32)).cell? ⟨w.heap.size, 0, none⟩ = some v := (hb2.cell (p := ⟨w.heap.size, 0, none⟩) bV.lt).trans cV
      refine hK.out _ _ trivial (fun _ => ?_)
      clear hK K
      refine wpAnyH_ready (rs := [3]) (by kernel_rfl) (by simp) ?_
      refine AllReadyH.cons rfl (fun K hK => ?_) AllReadyH.nil
      go_simp
      refine hK.out _ _ trivial (fun _ => ?_)
      clear hK K
      refine wpAnyH_ready (rs := [4]) (by kernel_rfl) (by simp) ?_
      refine AllReadyH.cons rfl (fun K hK => ?_) AllReadyH.nil
      refine Wd.step_app1 (w1.alloc (.cells #[.slice Ac nc cc] 32)) rfl (.tmp 12) (.tmp 15) 58 rfl (w.heap.size + 1 + 1 + 1) 32 i0 _ 24 Tryz.underlying58 hi hz0 hz1 hz2 rfl v pre.length vs rfl (Wd.own_below hrow hb2) ⟨w1.heap.size, 0, none⟩ (.slice Ac nc cc) rfl (Wd.Var.new w1 _ _).cell (Addr.add_lit _ _ _) rfl (by unfold maxLen; omega) (by omega) (Nat.le_trans hvsz hb2.size) ?_
      intro v' w3 hown3 hg3
      obtain ⟨bV3, bP4, f1, f2, f3⟩ := read_end (x := x) bV hrow hHs bP bS hBl hb2 (hvc0.alloc _) hown3 hg3
      have c3 := bV3.cell
      have c4 := bV3.frozen
      obtain ⟨g', cap', rfl⟩ := ownsRow_succ hown3
      have c5 := bP4.cell
      have c6 := bP4.frozen
      refine hK.out _ _ trivial (fun _ => ?_)
      clear hK K
      refine wpAnyH_ready (rs := [5]) (by kernel_rfl) (by simp) ?_
      refine AllReadyH.cons rfl (fun K hK => ?_) AllReadyH.nil
      go_simp
      refine hK.out _ _ trivial (fun _ => ?_)
      refine wpAnyH_done (by kernel_rfl) ?_ _
      gi_wp2
      exact ⟨by simpa using f1, f2, f3⟩
    · go_simp
      refine (Cl.out _ ((Below.refl _ _).drew)).mono ?_
      rintro e w1 ⟨vc, rfl, hvc, hb1⟩
      have hb1' : Below W.heap.size W w1 := Wd.of_drew hb1
      obtain ⟨Ac, nc, cc, rfl, _⟩ := Wd.Sl.of_own hvc
      have cV1 : w1.cell? ⟨w.heap.size, 0, none⟩ = some v := (hb1'.cell (p := ⟨w.heap.size, 0, none⟩) bV.lt).trans cV
      have hvc0 := Wd.own_down hvc (Nat.zero_le _)
      have hb2 : Below W.heap.size W (w1.alloc (.cells #[.slice Ac nc cc] 32)) := hb1'.alloc hb1'.size _
      have cV2 : (w1.alloc (.cells #[.slice Ac nc cc] 32)).cell? ⟨w.heap.size, 0, none⟩ = some v := (hb2.cell (p := ⟨w.heap.size, 0, none⟩) bV.lt).trans cV
      refine hK.out _ _ trivial (fun _ => ?_)
      clear hK K
      refine wpAnyH_ready (rs := [0, 3]) (by kernel_rfl) (by simp) ?_
      refine AllReadyH.cons rfl (fun K hK => ?_) (AllReadyH.cons rfl (fun K hK => ?_) AllReadyH.nil)
      · go_simp
        refine hK.out _ _ trivial (fun _ => ?_)
        clear hK K
        refine wpAnyH_ready (rs := [3]) (by kernel_rfl) (by simp) ?_
        refine AllReadyH.cons rfl (fun K hK => ?_) AllReadyH.nil
        go_simp
        refine hK.out _ _ trivial (fun _ => ?_)
        clear hK K
        refine wpAnyH_ready (rs := [4]) (by kernel_rfl) (by simp) ?_
        refine AllReadyH.cons rfl (fun K hK => ?_) AllReadyH.nil
        refine Wd.step_app1 (w1.alloc (.cells #[.slice Ac nc cc] 32)) rfl (.tmp 12) (.tmp 15) 58 rfl (w.heap.size + 1 + 1 + 1) 32 i0 _ 24 Tryz.underlying58 hi hz0 hz1 hz2 rfl v pre.length vs rfl (Wd.own_below hrow hb2) ⟨w1.heap.size, 0, none⟩ (.slice Ac nc cc) rfl (Wd.Var.new w1 _ _).cell (Addr.add_lit _ _ _) rfl (by unfold maxLen; omega) (by omega) (Nat.le_trans hvsz hb2.size) ?_
        intro v' w3 hown3 hg3
        obtain ⟨bV3, bP4, f1, f2, f3⟩ := read_end (x := x) bV hrow hHs bP bS hBl hb2 (hvc0.alloc _) hown3 hg3
        have c3 := bV3.cell
        have c4 := bV3.frozen
        obtain ⟨g', cap', rfl⟩ := ownsRow_succ hown3
        have c5 := bP4.cell
        have c6 := bP4.frozen
        refine hK.out _ _ trivial (fun _ => ?_)
        clear hK K
        refine wpAnyH_ready (rs := [5]) (by kernel_rfl) (by simp) ?_
        refine AllReadyH.cons rfl (fun K hK => ?_) AllReadyH.nil
        go_simp
        refine hK.out _ _ trivial (fun _ => ?_)
        refine wpAnyH_done (by kernel_rfl) ?_ _
        gi_wp2
        exact ⟨by simpa using f1, f2, f3⟩
      · go_simp
        refine hK.out _ _ trivial (fun _ => ?_)
        clear hK K
        refine wpAnyH_ready (rs := [0]) (by kernel_rfl) (by simp) ?_
        refine AllReadyH.cons rfl (fun K hK => ?_) AllReadyH.nil
        go_simp
        refine hK.out _ _ trivial (fun _ => ?_)
        clear hK K
        refine wpAnyH_ready (rs := [4]) (by kernel_rfl) (by simp) ?_
        refine AllReadyH.cons rfl (fun K hK => ?_) AllReadyH.nil
        refine Wd.step_app1 (w1.alloc (.cells #[.slice Ac nc cc] 32)) rfl (.tmp 12) (.tmp 15) 58 rfl (w.heap.size + 1 + 1 + 1) 32 i0 _ 24 Tryz.underlying58 hi hz0 hz1 hz2 rfl v pre.length vs rfl (Wd.own_below hrow hb2) ⟨w1.heap.size, 0, none⟩ (.slice Ac nc cc) rfl (Wd.Var.new w1 _ _).cell (Addr.add_lit _ _ _) rfl (by unfold maxLen; omega) (by omega) (Nat.le_trans hvsz hb2.size) ?_
        intro v' w3 hown3 hg3
        obtain ⟨bV3, bP4, f1, f2, f3⟩ := read_end (x := x) bV hrow hHs bP bS hBl hb2 (hvc0.alloc _) hown3 hg3
        have c3 := bV3.cell
        have c4 := bV3.frozen
        obtain ⟨g', cap', rfl⟩ := ownsRow_succ hown3
        have c5 := bP4.cell
        have c6 := bP4.frozen
        refine hK.out _ _ trivial (fun _ => ?_)
        clear hK K
        refine wpAnyH_ready (rs := [5]) (by kernel_rfl) (by simp) ?_
        refine AllReadyH.cons rfl (fun K hK => ?_) AllReadyH.nil
        go_simp
        refine hK.out _ _ trivial (fun _ => ?_)
        refine wpAnyH_done (by kernel_rfl) ?_ _
        gi_wp2
        exact ⟨by simpa using f1, f2, f3⟩
  case done =>
    rintro D ys W hD hys ⟨⟨v, vs, bV, hrow, hHs⟩, bP, bS, hBl⟩ hK
    have cV := bV.cell
    have cP := bP.cell
    gi_wp2
    gi_quiet (fail)
    gi_wp2
    refine ⟨by simp, .inl ⟨_, _, rfl, run_takeDeferred hK, ?_⟩⟩
    have hrow' := ownsRow_putObj (W := W.drewN nq) hrow (.deferred none) hK rfl
    have hHs' : Wd.Hs ((W.drewN nq).putObj D (.deferred none)) 5 vs (vals ys) := Wd.Hs.others (X := W.drewN nq) hHs (grownBy_putObj' (W.drewN nq) D _) (fun r e => by cases e; exact ⟨_, hK, rfl⟩)
    obtain ⟨A', n', c', rfl, hSs⟩ := Wd.Ss.of_own hrow' hHs'
    rw [hys]
    exact ⟨_, results_tmp2 rfl _ _ _, ⟨_, _, _, rfl, hSs, (Wd.below_drewN hBl nq).trans (belowK_b (w := w) (Nat.le_refl _) (W.drewN nq) D _ _ (by simp at hD; omega) hK rfl rfl)⟩⟩
  case stop =>
    rintro D c pre W _ _ h _
    exact h.elim
theorem read_any (A : Option Addr) (m c : Nat) (b : List Int) (w : World) (hS : Wd.Sl w .u8 A m c b) (hm : m ≤ 1000000) (hB : Nm.Byt b) :
    Calls Tryz.prog 64 #[.slice A m c] w (Wd.OutSs w (Fr.rd b).1 (Fr.rd b).2) := (callsIn_wide (n := 3)).1 (read_in 3 (by omega) A m c b w hS hm hB)
end Fc
end Go.Proofs.YtaoeipehpakngaaGreatDoor
namespace Go.Proofs.YtaoeipehpakngaaGreatDoor
set_option maxRecDepth 20000
open Go.RowKit
namespace Se
open Va (Vl)
open Sc (Sch MayS FitS tr tr_yes tr_no tr_iff tr_congr)
open Sx (Sb five)
theorem fit1_any (A : Option Addr) (n c : Nat) (s : Sch) (p : Nat) (R : Option Addr) (m d : Nat) (r : List Vl) (w : World) (hB : Sb w p A n c s.key s.cmp s.del s.sort) (hS : Wd.Cs w A n c s.cols) (hV : Wd.Vs w R m d r) (hn : n ≤ 1000000) :
    Calls Tryz.prog 139 #[.slice R m d, .pointer (some ⟨p, 0, none⟩)] w fun e w' => e = .returned (.bool (!tr (FitS s r))) ∧ Below w.heap.size w w' := by
  obtain ⟨c0, c1, c2, c3, c4⟩ := five hB
  have C := Lib.hid (Sx.Fits_any A n c s R m d r w hS hV hn)
  clear hB hS hV
  go_enter Tryz.func139, Tryz.ntmps139
  go_wp2_with fail
  refine C.out.mono ?_
  rintro e w1 ⟨rfl, hB1⟩
  go_wp2_with fail
  go_ret
  exact ⟨rfl, hB1⟩
def FirstNo (s : Sch) (l : List (List Vl)) (w : World) (e : Ending) (w' : World) : Prop :=
  ∃ z : Int, e = .returned (.int .i64 z) ∧ decide (0 ≤ z) = (!tr (∀ r ∈ l, FitS s r)) ∧ Below w.heap.size w w'
theorem index_any (A : Option Addr) (n c : Nat) (s : Sch) (p : Nat) (R : Option Addr) (m d : Nat) (l : List (List Vl)) (w : World) (hB : Sb w p A n c s.key s.cmp s.del s.sort) (hS : Wd.Cs w A n c s.cols) (hL : Wd.Ls w R m d l) (hn : n ≤ 1000000) :
    Calls Tryz.prog 188 #[.slice R m d, .func (.func 139) #[] #[.pointer (some ⟨p, 0, none⟩)]] w (FirstNo s l w) := by
  have Hl := Lib.hid hL.len
  have HL := Lib.hid hL
  have HS := Lib.hid hS
  have HB := Lib.hid hB
  have hplt := hB.lt
  have hcap := hL.cap
  have hmx := hL.max
  unfold maxLen at hmx
  clear hB hS hL
  go_enter Tryz.func188, Tryz.ntmps188
  go_wp2
  go_loopw [5, 8] (fun _ i wr => ∃ k : Nat, i = .int .i64 k ∧ k ≤ m ∧ Hid (∀ j, j < k → FitS s (l.getD j [])) ∧ Below w.heap.size w wr) (fun _ i _ => m - (intOf i).toNat)
  case atStart => exact ⟨0, rfl, Nat.zero_le _, Lib.hid (fun j hj => by omega), Below.refl _ _⟩
  case round =>
    obtain ⟨k, rfl, hk, hf, hBw⟩ := hrel
    by_cases hlt : k < m
    · have hI : (k : Int) < (m : Int) := by omega
      have hkl : k < l.length := by rw [← Hl.out]; exact hlt
      obtain ⟨b, o, A', n', c', hA, hbB, c0, hV⟩ := (HL.out.below hBw).at_ k hkl
      subst hA
      have C := Lib.hid (fit1_any A n c s p A' n' c' _ wr (HB.out.below hplt hBw) (HS.out.below hBw) hV hn)
      have Hkl := Lib.hid hkl
      clear hV hkl
      by_cases he : FitS s (l.getD k [])
      · have q1 := Lib.hid (tr_yes he)
        have hf2 := Lib.hid (show ∀ j, j < k + 1 → FitS s (l.getD j []) from fun j hj => by
          by_cases z : j = k
          · rw [z]; exact he
          · exact hf.out j (by omega))
        clear he hf
        go_wp2_with fail
        refine C.out.mono ?_
        rintro e w1 ⟨rfl, hB1⟩
        rw [q1.out]
        have hB' := hBw.trans (hB1.mono hBw.size)
        clear hB1 C q1
        go_wp2_with fail
        go_roundw
        case rel => exact ⟨k + 1, by go_num, by omega, hf2, hB'⟩
        case measure => simp [intOf]; omega
      · have q1 := Lib.hid (tr_no he)
        have q2 := Lib.hid (show tr (∀ r ∈ l, FitS s r) = false from tr_no fun z => he (z _ (by
          rw [List.getD_eq_getElem?_getD, List.getElem?_eq_getElem Hkl.out]
          exact List.getElem_mem _)))
        clear he hf
        go_wp2_with fail
        refine C.out.mono ?_
        rintro e w1 ⟨rfl, hB1⟩
        rw [q1.out]
        have hB' := hBw.trans (hB1.mono hBw.size)
        clear hB1 C q1
        go_wp2_with fail
        go_ret
        exact ⟨_, rfl, by rw [q2.out]; simp, hB'⟩
    · have hI : ¬ (k : Int) < (m : Int) := by omega
      have q2 := Lib.hid (show tr (∀ r ∈ l, FitS s r) = true from tr_yes fun r hr => by
        obtain ⟨j, hj, rfl⟩ := List.getElem_of_mem hr
        have := hf.out j (by have := Hl.out; omega)
        simpa [List.getD, List.getElem?_eq_getElem hj] using this)
      clear hf
      go_wp2_with fail
      go_ret
      exact ⟨_, rfl, by rw [q2.out]; rfl, hBw⟩
theorem contains_any (A : Option Addr) (n c : Nat) (s : Sch) (p : Nat) (R : Option Addr) (m d : Nat) (l : List (List Vl)) (w : World) (hB : Sb w p A n c s.key s.cmp s.del s.sort) (hS : Wd.Cs w A n c s.cols) (hL : Wd.Ls w R m d l) (hn : n ≤ 1000000) :
    Calls Tryz.prog 138 #[.slice R m d, .func (.func 139) #[] #[.pointer (some ⟨p, 0, none⟩)]] w fun e w' => e = .returned (.bool (!tr (∀ r ∈ l, FitS s r))) ∧ Below w.heap.size w w' := by
  have C := Lib.hid (index_any A n c s p R m d l w hB hS hL hn)
  clear hB hS hL
  go_enter Tryz.func138, Tryz.ntmps138
  go_wp2_with fail
  refine C.out.mono ?_
  rintro e w1 ⟨z, rfl, hz, hB1⟩
  have Hz := Lib.hid hz
  clear hz C
  go_wp2_with fail
  go_ret
  exact ⟨by rw [← Hz.out]; rfl, hB1⟩
set_option maxHeartbeats 1000000 in
theorem fit_any (A : Option Addr) (n c : Nat) (s : Sch) (R : Option Addr) (m d : Nat) (l : List (List Vl)) (w : World) (hS : Wd.Cs w A n c s.cols) (hL : Wd.Ls w R m d l) (hn : n ≤ 1000000) :
    Calls Tryz.prog 89 #[.agg #[.slice A n c, .int .i64 s.key, .int .i64 s.cmp, .int .i64 s.del, .int .i64 s.sort], .slice R m d] w fun e w' => e = .returned (.bool (tr (Fit s l))) ∧ Below w.heap.size w w' := by
  have hb0 := (Below.refl w.heap.size w).alloc (Nat.le_refl _) (.cells #[.slice A n c, .int .i64 s.key, .int .i64 s.cmp, .int .i64 s.del, .int .i64 s.sort] 24)
  have s0 : Sb (w.alloc (.cells #[.slice A n c, .int .i64 s.key, .int .i64 s.cmp, .int .i64 s.del, .int .i64 s.sort] 24)) w.heap.size A n c s.key s.cmp s.del s.sort := Wd.Bx.new w _ _
  have Cm := Lib.hid (Sx.May_any A n c s _ (hS.below hb0) hn)
  have HS := Lib.hid (hS.below hb0)
  have HL := Lib.hid (hL.below hb0)
  have HB := Lib.hid s0
  have Hb0 := Lib.hid hb0
  obtain ⟨c0, c1, c2, c3, c4⟩ := five s0
  have hplt := s0.lt
  obtain ⟨r, hr⟩ : ∃ r, r = tr (Fit s l) := ⟨_, rfl⟩
  rw [← hr]
  have Hr := Lib.hid hr
  clear hr hb0 s0 hS hL
  go_enter Tryz.func89, Tryz.ntmps89
  by_cases hm : MayS s
  · have q1 := Lib.hid (tr_yes hm)
    have q2 := Lib.hid (show tr (∀ r ∈ l, FitS s r) = r by rw [Hr.out]; exact tr_congr ⟨fun z => ⟨hm, z⟩, fun z => z.2⟩)
    clear hm
    go_wp2_with fail
    refine Cm.out.mono ?_
    rintro e w1 ⟨rfl, hB1⟩
    rw [q1.out]
    have C := Lib.hid (contains_any A n c s w.heap.size R m d l w1 (HB.out.below hplt hB1) (HS.out.below hB1) (HL.out.below hB1) hn)
    rw [q2.out] at C
    have Hb1 := Lib.hid (Hb0.out.trans (hB1.mono Hb0.out.size))
    clear hB1 q1 q2 c0 c1 c2 c3 c4
    go_wp2_with fail
    refine C.out.mono ?_
    rintro e w2 ⟨rfl, hB2⟩
    have Hb2 := Lib.hid (Hb1.out.trans (hB2.mono Hb1.out.size))
    clear hB2
    go_wp2_with fail
    go_ret
    exact ⟨by simp, Hb2.out⟩
  · have q1 := Lib.hid (tr_no hm)
    have q2 := Lib.hid (show r = false by rw [Hr.out]; exact tr_no fun z => hm z.1)
    clear hm
    go_wp2_with fail
    refine Cm.out.mono ?_
    rintro e w1 ⟨rfl, hB1⟩
    rw [q1.out]
    have Hb1 := Lib.hid (Hb0.out.trans (hB1.mono Hb0.out.size))
    clear hB1 q1
    go_wp2_with fail
    go_ret
    exact ⟨by rw [q2.out]; rfl, Hb1.out⟩
end Se
end Go.Proofs.YtaoeipehpakngaaGreatDoor
namespace Go.Proofs.YtaoeipehpakngaaGreatDoor
set_option maxRecDepth 20000
open Go.RowKit Go.Sort
namespace Ssm
def ns (xs : List Nat) : List Int := xs.map fun (n : Nat) => (n : Int)
theorem ns_len (xs : List Nat) : (ns xs).length = xs.length := by simp [ns]
theorem ns_get (xs : List Nat) (j : Nat) : (ns xs).getD j 0 = ((xs.getD j 0 : Nat) : Int) := by
  simp only [ns, List.getD, List.getElem?_map]
  cases xs[j]? <;> rfl
section
variable {w0 W : World} {g N : Nat} {xs : List Nat}
theorem heap_grown {q : Nat} {os : Array Obj} {k : Nat} (h : k < W.heap.size) : (grow (W.drewN q) os).heap[k]? = W.heap[k]? := heap_grow_old (W.drewN q) os h
end
end Ssm
namespace Ssm
theorem mixed : Tryz.prog.follows .mixedOrders = true := by kernel_rfl
section
variable {cf : Nat → Nat → Int} {P B S : List Nat} {a i j : Nat} {L : List Nat}
end
end Ssm
end Go.Proofs.YtaoeipehpakngaaGreatDoor
