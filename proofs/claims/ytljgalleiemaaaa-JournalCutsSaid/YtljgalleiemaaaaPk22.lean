/- What Read of package frame does: it collects copies of the payloads that eachFrame hands on. -/
import Derived.Maps.AppendAt
import Derived.Sort.QuietIn
import Derived.Deep.RegionHeld3
import Derived.Test.YtljgalleiemaaaaPk20
import Derived.Test.YtljgalleiemaaaaPk15
import Derived.Test.YtljgalleiemaaaaPk21
namespace Go.Proofs.Ytljgalleiemaaaa
open Go.RowKit Go.Shelf
attribute [local go_sem] Oper.semAt_some
namespace Fc
open Nc

/-- bytes.Clone, with whose memory it is. -/
theorem bclone_own (A : Option Addr) (m c : Nat) (bs : List Int) (w : World) (hb : Wd.Sl w .u8 A m c bs) (hm : m ≤ 10000000) :
    Calls Try.prog 41 #[.slice A m c] w fun e w' => ∃ v, e = .returned v ∧ w'.ownsRow w.heap.size 5 1 v bs.length (bs.map (Value.int .u8)) ∧ Below w.heap.size w w' := by
  obtain ⟨i0, hi, hz0, hz1, hz2⟩ := info_parts info_u8
  obtain ⟨rfl, hc, hx, hA, hr⟩ := hb
  rcases A with _ | ad
  · obtain rfl := hA rfl
    obtain rfl := hr.none_
    have hnil : ∀ (w : World) (n c : Nat), (binOp .eql 39 (.slice none n c) (.slice none 0 0)).run Try.prog w = .ok (.bool true) w := fun _ _ _ => by kernel_rfl
    go_enter Try.func41, Try.ntmps41
    go_wp2
    go_ret
    exact ⟨_, rfl, World.ownsRow_nil _ _ _ _, Below.refl _ _⟩
  · have hnil : ∀ (w : World) (n c : Nat) , (binOp .eql 39 (.slice (some ad) n c) (.slice none 0 0)).run Try.prog w = .ok (.bool false) w := fun _ _ _ => by kernel_rfl
    go_enter Try.func41, Try.ntmps41
    go_wp2_with (at_builtin; refine Wd.wpList_app _ rfl (.tmp 5) (.tmp 6) 39 rfl w.heap.size 5 i0 _ .u8 1 Try.underlying39 hi hz0 hz1 hz2 rfl (.slice (some ⟨w.heap.size, 0, none⟩) 0 0) [] rfl (World.ownsRow_lit w #[] 0 (Nat.le_refl _) (by simp [maxLen]) rfl) w.heap.size _ _ c bs rfl rfl (by simp) (hr.below ((Below.refl _ _).alloc (Nat.le_refl _) _)) (by simp; omega) (by simp [maxLen]; omega) (by simp) ?_; intro v' w1 hown hbel)
    go_ret
    exact ⟨v', rfl, by simpa using hown, ((Below.refl _ _).alloc (Nat.le_refl _) _).grown hbel (by simp) (by simp [Value.ownBlock])⟩

theorem eachFrame_in (n : Nat) (A : Option Addr) (m c : Nat) (w : World) :
    CallsIn Fence.wide n Try.prog 40 #[.slice A m c] w fun e w' => e = .returned (.func (.func 47) #[] #[.pointer (some ⟨w.heap.size, 0, none⟩)]) ∧ w' = w.alloc (.cells #[.slice A m c] 39) := by
  refine callsIn_of_wp Try.func40 rfl trivial ?_ rfl
  simp only [Try.ntmps40, List.size_toArray, List.length_cons, List.length_nil, Nat.reduceAdd, Nat.reduceSub, Array.replicate_succ, Array.replicate_zero, List.push_toArray, List.append_toArray, List.nil_append, List.cons_append]
  gi_wp2
  go_ret
  exact ⟨rfl, rfl⟩

theorem each_stops (n : Nat) (hn : 1 ≤ n) (Bl : Nat) (w0 : World) (A : Option Addr) (m c : Nat) (b : List Int) (hB : Nm.Byt b) (hm : m ≤ 1000000) (h0S : Wd.Sl w0 .u8 A m c b) (w : World) (hBl : Wd.Bx w Bl 39 #[.slice A m c]) (hbel : Below w0.heap.size w0 w) :
    SeqStopsK Fence.wide n Try.prog 47 #[.pointer (some ⟨Bl, 0, none⟩)] (encF (w := w0)) (KeepF w0.heap.size Bl) (fun ys => Fr.rd b = (vals ys, lst ys)) (fun _ => True) m w :=
  fun l J Jx W hW hJ _ hY h0 => each1_in n hn l Bl w0.heap.size w0 A m c b hB hm h0S rfl J Jx W hJ hY (hBl.below hBl.lt hW) (hbel.trans (hW.mono hbel.size)) h0

theorem keepF_b {n₀ Bl : Nat} {w : World} (hn : n₀ ≤ w.heap.size) (hb : Bl < w.heap.size) (W : World) (l : Nat) (o o' : Obj) (hl : w.heap.size ≤ l) (h : W.heap[l]? = some o) (h1 : o.isCells = false) (h2 : o.isWalk = false) : KeepF n₀ Bl W (W.putObj l o') :=
  ⟨belowK_b hn W l o o' hl h h1 h2, World.putObj_heap_other (by omega), fun g t => by
    have hne : g ≠ l := fun e => by
      subst e
      unfold Tb Wd.Row at t
      rw [t] at h
      cases h
      cases h1
    show (W.putObj l o').heap[g]? = _
    rw [World.putObj_heap_other hne]
    exact t⟩
theorem info_bs : (Try.prog.info? 39).map (fun i => (i.zero, i.size, i.bytes)) = some (some (.slice none 0 0), 1, 24) := by kernel_rfl

/-- A round of Read: the box of what was collected, the box of the place, the box of the bytes. -/
def ReadI (w : World) (A : Option Addr) (m c : Nat) (pre : List (Fm w)) (W : World) : Prop :=
  (∃ v vs, Boxed W w.heap.size 63 v ∧ W.ownsRow (w.heap.size + 1 + 1 + 1) 39 1 v pre.length vs ∧ Wd.Hs W 5 vs (vals pre)) ∧ Boxed W (w.heap.size + 1) 3 (.int .i64 (lst pre : Int)) ∧ Boxed W (w.heap.size + 1 + 1) 39 (.slice A m c) ∧ Below w.heap.size w W
theorem readI_own (w : World) (A : Option Addr) (m c : Nat) (B : Nat) (hB : w.heap.size ≤ B) : OwnFrom B (ReadI w A m c) :=
  OwnFrom.and (Own.from (fun _ X Y row ⟨v, vs, h1, h2, h3⟩ hg hrow => ⟨v, vs, boxed_own (β := Unit) w.heap.size _ (fun _ => v) () X Y row h1 hg hrow, Wd.own_others h2 hg hrow, h3.others hg hrow⟩) _)
    (OwnFrom.and (Own.from (boxed_own _ _ _) _) (OwnFrom.and (Own.from (boxed_own _ _ _) _) (ownFrom_below (Nat.le_refl _) hB)))

/-- The loop's variables. -/
def ReadAx (w : World) (A : Option Addr) (m c : Nat) (x : Fm w) (a' : Act) (_ : World) : Prop :=
  a' = { tmps := #[.slice A m c, undef, .slice none 0 0, .int .i64 0, .pointer (some ⟨w.heap.size, 0, none⟩), .pointer (some ⟨w.heap.size + 1, 0, none⟩), .int .i64 (x.1.e : Int), .slice x.1.A x.1.n x.1.c, .slice A m c, .func (.func 47) #[] #[.pointer (some ⟨w.heap.size + 1 + 1, 0, none⟩)], .int .i64 (x.1.e : Int), .slice x.1.A x.1.n x.1.c, undef, undef, undef, undef, undef, undef, undef, undef], defers := [] }

theorem keepsFrom_below {B : Nat} {W W' : World} (h : Below W.heap.size W W') : KeepsFrom B W W' := ⟨h.size, fun k _ _ hk _ => (h.block k (Array.getElem?_eq_some_iff.1 hk).1).trans hk⟩

/-- What stands behind the append, and behind the stores into the boxes. -/
theorem read_end {w W w2 w3 : World} {A : Option Addr} {m c : Nat} {pre : List (Fm w)} {x : Fm w} {v v' vc u : Value} {vs : List Value}
    (bV : Boxed W w.heap.size 63 v) (hrow : W.ownsRow (w.heap.size + 1 + 1 + 1) 39 1 v pre.length vs) (hHs : Wd.Hs W 5 vs (vals pre)) (bP : Boxed W (w.heap.size + 1) 3 u) (bS : Boxed W (w.heap.size + 1 + 1) 39 (.slice A m c)) (hB : Below w.heap.size w W)
    (hW : Below W.heap.size W w2) (hvc : w2.ownsRow 0 5 1 vc x.1.p.length (x.1.p.map (Value.int .u8)))
    (hown : w3.ownsRow (w.heap.size + 1 + 1 + 1) 39 1 v' (pre.length + 1) (vs ++ [vc])) (hgr : w2.grownBy w3 v.ownBlock) :
    Boxed w3 w.heap.size 63 v ∧ Boxed (w3.setCell ⟨w.heap.size, 0, none⟩ v') (w.heap.size + 1) 3 u ∧
      KeepsFrom (w.heap.size + 1 + 1 + 1) W ((w3.setCell ⟨w.heap.size, 0, none⟩ v').setCell ⟨w.heap.size + 1, 0, none⟩ (.int .i64 (x.1.e : Int))) ∧
      KeepF w.heap.size (w.heap.size + 1 + 1) W ((w3.setCell ⟨w.heap.size, 0, none⟩ v').setCell ⟨w.heap.size + 1, 0, none⟩ (.int .i64 (x.1.e : Int))) ∧
      ReadI w A m c (pre ++ [x]) ((w3.setCell ⟨w.heap.size, 0, none⟩ v').setCell ⟨w.heap.size + 1, 0, none⟩ (.int .i64 (x.1.e : Int))) := by
  have hsz := hB.size
  have hrow2 := Wd.own_below hrow hW
  have hne : ∀ k, k < w.heap.size + 1 + 1 + 1 → some k ≠ v.ownBlock := fun k hk e => by have := (hrow2.lt k e.symm).1; omega
  have hne' : ∀ k, k < w.heap.size + 1 + 1 + 1 → v'.ownBlock ≠ some k := fun k hk e => by have := (hown.lt k e).1; omega
  have bV2 : Boxed w2 w.heap.size _ v := (hW.block _ bV.lt).trans bV
  have bP2 : Boxed w2 (w.heap.size + 1) _ u := (hW.block _ bP.lt).trans bP
  have bS2 : Boxed w2 (w.heap.size + 1 + 1) _ _ := (hW.block _ bS.lt).trans bS
  have bV3 : Boxed w3 w.heap.size _ v := bV2.kept hgr (hne _ (by omega))
  have bP3 : Boxed w3 (w.heap.size + 1) _ u := bP2.kept hgr (hne _ (by omega))
  have bS3 : Boxed w3 (w.heap.size + 1 + 1) _ _ := bS2.kept hgr (hne _ (by omega))
  have bP4 : Boxed (w3.setCell ⟨w.heap.size, 0, none⟩ v') (w.heap.size + 1) _ u := bP3.other (by omega) _
  have bS5 := (bS3.other (B' := w.heap.size) (by omega) v').other (B' := w.heap.size + 1) (by omega) (.int .i64 (x.1.e : Int))
  have hbl : Below w.heap.size W ((w3.setCell ⟨w.heap.size, 0, none⟩ v').setCell ⟨w.heap.size + 1, 0, none⟩ (.int .i64 (x.1.e : Int))) :=
    (((hW.mono hsz).grown hgr (Nat.le_trans hsz hW.size) (fun k hk => by have := (hrow2.lt k hk).1; omega)).setCell (p := ⟨w.heap.size, 0, none⟩) (Nat.le_refl _) _).setCell (p := ⟨w.heap.size + 1, 0, none⟩) (by simp) _
  refine ⟨bV3, bP4, ?_, ⟨hbl, ?_, ?_⟩, ⟨⟨v', vs ++ [vc], (bV3.set v').other (by omega) _, ?_, ?_⟩, ?_, bS5, hB.trans hbl⟩⟩
  · have k1 : KeepsFrom (w.heap.size + 1 + 1 + 1) W w2 := keepsFrom_below hW
    have k2 : KeepsOthers w2 w3 := KeepsOthers.of_grownBy hgr fun j o ej hj => by
      rcases hrow2.2 with ⟨rfl, _⟩ | ⟨g', cap, cur, rfl, _, hgb, _⟩
      · simp [Value.ownBlock] at ej
      · obtain rfl : g' = j := by simpa [Value.ownBlock] using ej
        rw [hgb] at hj; cases hj; rfl
    exact ((k1.trans (k2.from _)).trans ((KeepsOthers.setCell _ _ _).from _)).trans ((KeepsOthers.setCell _ _ _).from _)
  · exact (show _ = some _ from bS5).trans (Eq.symm bS)
  · intro g tg
    have t2 : Tb w2 g := tg.below tg.lt hW
    have t3 : Tb w3 g := (show Wd.Bx w2 g 96 _ from t2).grown hgr ((show Wd.Bx w2 g 96 _ from t2).apart hrow2 (by decide))
    have n1 : g ≠ w.heap.size := fun e => by
      subst e
      have := (show w3.heap[w.heap.size]? = _ from t3).symm.trans bV3
      simp only [Option.some.injEq, Obj.cells.injEq] at this
      exact absurd this.2.1 (by decide)
    have n2 : g ≠ w.heap.size + 1 := fun e => by
      subst e
      have := (show w3.heap[w.heap.size + 1]? = _ from t3).symm.trans bP3
      simp only [Option.some.injEq, Obj.cells.injEq] at this
      exact absurd this.2.1 (by decide)
    exact (Wd.Row.other (a := ⟨w.heap.size, 0, none⟩) t3 n1).other n2
  · rw [List.length_append]
    exact (hown.kept (grownBy_setCell' w3 w.heap.size v') (.inr (hne' _ (by omega)))).kept (grownBy_setCell' _ (w.heap.size + 1) _) (.inr (hne' _ (by omega)))
  · rw [vals_snoc]
    exact ((((hHs.below hW).snoc hvc).grown hrow2 (by decide) hgr).set bV3 (by decide)).set bP4 (by decide)
  · rw [lst_snoc]
    exact bP4.set _

set_option maxRecDepth 100000 in
set_option maxHeartbeats 2000000 in
theorem read_in (n : Nat) (hn : 3 ≤ n) (A : Option Addr) (m c : Nat) (b : List Int) (w : World) (hS : Wd.Sl w .u8 A m c b) (hm : m ≤ 1000000) (hB : Nm.Byt b) :
    CallsIn Fence.wide n Try.prog 26 #[.slice A m c] w (Wd.OutSs w (Fr.rd b).1 (Fr.rd b).2) := by
  have h1 : 1 ≤ n := by omega
  obtain ⟨i0, hi, hz0, hz1, hz2⟩ := info_parts info_bs
  refine callsIn_of_wp_marks Try.func26 rfl trivial ?_ rfl
  simp only [Try.ntmps26, List.size_toArray, List.length_cons, List.length_nil, Nat.reduceAdd, Nat.reduceSub, Array.replicate_succ, Array.replicate_zero, List.push_toArray, List.append_toArray, List.nil_append, List.cons_append]
  gi_wp2_with (refine ⟨trivial, ?_⟩; gi_at_call 40; refine (eachFrame_in (n - 1) _ _ _ _).mono ?_; rintro e w' ⟨rfl, rfl⟩)
  have hI0 : ReadI w A m c [] (((w.alloc (.cells #[.slice none 0 0] 63)).alloc (.cells #[.int .i64 0] 3)).alloc (.cells #[.slice A m c] 39)) := by
    have b1 := Boxed.new w 63 (.slice none 0 0)
    have b2 := Boxed.new (w.alloc (.cells #[.slice none 0 0] 63)) 3 (.int .i64 0)
    have b3 := Boxed.new ((w.alloc (.cells #[.slice none 0 0] 63)).alloc (.cells #[.int .i64 0] 3)) 39 (.slice A m c)
    rw [World.size_alloc] at b2
    rw [World.size_alloc, World.size_alloc] at b3
    exact ⟨⟨_, [], (b1.alloc _).alloc _, World.ownsRow_nil _ _ _ _, Wd.Hs.nil _ _⟩, b2.alloc _, b3, (((Below.refl _ w).alloc (Nat.le_refl _) _).alloc (by simp) _).alloc (by simp; omega) _⟩
  refine wpIn_rangeFunc_ownH rfl h1 (gf := 47) (lb := #[.pointer (some ⟨w.heap.size + 1 + 1, 0, none⟩)]) rfl trivial (enters_of Try.func47 (by kernel_rfl) rfl)
    (each_stops (n - 1) (by omega) (w.heap.size + 1 + 1) w A m c b hB hm hS _ hI0.2.2.1 hI0.2.2.2) KeepF.trans (keepF_b (by simp; omega) (by simp)) (Below.refl _ _) (fun _ => rfl)
    (ReadI w A m c) (fun _ _ _ => False) (readI_own w A m c _ (by simp; omega)) (fun _ _ _ _ _ hs _ _ => hs) hI0 (ReadAx w A m c) (fun _ _ _ _ _ _ h _ _ => h) ?assign ?body ?done ?stop
  case assign =>
    rintro l' pre x W K hI hK
    dsimp only [encF]
    gi_wp2
    exact hK _ _ (KeepsFrom.refl _ _) (KeepF.refl _ _ _) hI rfl
  case body =>
    rintro l' pre x a' W hl' ⟨r, hr⟩ ⟨⟨v, vs, bV, hrow, hHs⟩, bP, bS, hBl⟩ rfl hlt
    have hsz := hBl.size
    have cV := bV.cell
    have hxS := x.2.1.below hBl
    have hxn : x.1.n ≤ 10000000 := by have := x.2.2.1; omega
    have hvsz : w.heap.size + 1 + 1 + 1 ≤ W.heap.size := bS.lt
    have Cl := Lib.hid fun (w' : World) (hb : Below W.heap.size W w') => bclone_own x.1.A x.1.n x.1.c x.1.p w' (hxS.below hb) hxn
    clear hI0 hr hl' hxS
    gi_wp2
    refine wpIn_region_any (by kernel_rfl) ?_
    refine Rg.any_in (Rg.noDefer_spec (by kernel_rfl)) (fun ⟨a, w', h⟩ => h) _ _ _ _ ?_
    refine wpAny_of_held (S := fun _ => True) _ _ _ _ ?_
    change wpAnyH _ _ _ _ _ 6 (Array.replicate 6 false) _ W.drew
    refine wpAnyH_take (i := 1) (v := .slice x.1.A x.1.n x.1.c) rfl (by kernel_rfl) (by kernel_rfl) (by kernel_rfl) (fun _ _ _ h => h) (Or.inl ⟨by rfl, ?_⟩) trivial ?_
    · intro w' _
      go_simp
    refine wpAnyH_ready (rs := [0, 2]) (by kernel_rfl) (by simp) ?_
    refine AllReadyH.cons rfl (fun K hK => ?_) (AllReadyH.cons rfl (fun K hK => ?_) AllReadyH.nil)
    · go_simp
      refine hK.out _ _ trivial (fun _ => ?_)
      clear hK K
      refine wpAnyH_ready (rs := [2]) (by kernel_rfl) (by simp) ?_
      refine AllReadyH.cons rfl (fun K hK => ?_) AllReadyH.nil
      go_simp
      refine (Cl.out _ ((Below.refl _ _).drew)).mono ?_
      rintro e w1 ⟨vc, rfl, hvc, hb1⟩
      have hb1' : Below W.heap.size W w1 := Wd.of_drew hb1
      obtain ⟨Ac, nc, cc, rfl, _⟩ := Wd.Sl.of_own hvc
      have cV1 : w1.cell? ⟨w.heap.size, 0, none⟩ = some v := (hb1'.cell (p := ⟨w.heap.size, 0, none⟩) bV.lt).trans cV
      have hvc0 := Wd.own_down hvc (Nat.zero_le _)
      have hb2 : Below W.heap.size W (w1.alloc (.cells #[.slice Ac nc cc] 39)) := hb1'.alloc hb1'.size _
      have cV2 : (w1.alloc (.cells #[.slice Ac nc cc] 39)).cell? ⟨w.heap.size, 0, none⟩ = some v := (hb2.cell (p := ⟨w.heap.size, 0, none⟩) bV.lt).trans cV
      refine hK.out _ _ trivial (fun _ => ?_)
      clear hK K
      refine wpAnyH_ready (rs := [3]) (by kernel_rfl) (by simp) ?_
      refine AllReadyH.cons rfl (fun K hK => ?_) AllReadyH.nil
      go_simp
      refine hK.out _ _ trivial (fun _ => ?_)
      clear hK K
      refine wpAnyH_ready (rs := [4]) (by kernel_rfl) (by simp) ?_
      refine AllReadyH.cons rfl (fun K hK => ?_) AllReadyH.nil
      refine Wd.step_app1 (w1.alloc (.cells #[.slice Ac nc cc] 39)) rfl (.tmp 12) (.tmp 15) 63 rfl (w.heap.size + 1 + 1 + 1) 39 i0 _ 24 Try.underlying63 hi hz0 hz1 hz2 rfl v pre.length vs rfl (Wd.own_below hrow hb2) ⟨w1.heap.size, 0, none⟩ (.slice Ac nc cc) rfl (Wd.Var.new w1 _ _).cell (Addr.add_lit _ _ _) rfl (by unfold maxLen; omega) (by omega) (Nat.le_trans hvsz hb2.size) ?_
      intro v' w3 hown3 hg3
      obtain ⟨bV3, bP4, f1, f2, f3⟩ := read_end (x := x) bV hrow hHs bP bS hBl hb2 (hvc0.alloc _) hown3 hg3
      have c3 := bV3.cell
      have c4 := bV3.frozen
      obtain ⟨g', cap', rfl⟩ := ownsRow_succ hown3
      have c5 := bP4.cell
      have c6 := bP4.frozen
      refine hK.out _ _ trivial (fun _ => ?_)
      clear hK K
      refine wpAnyH_ready (rs := [5]) (by kernel_rfl) (by simp) ?_
      refine AllReadyH.cons rfl (fun K hK => ?_) AllReadyH.nil
      go_simp
      refine hK.out _ _ trivial (fun _ => ?_)
      refine wpAnyH_done (by kernel_rfl) ?_ _
      gi_wp2
      exact ⟨by simpa using f1, f2, f3⟩
    · go_simp
      refine (Cl.out _ ((Below.refl _ _).drew)).mono ?_
      rintro e w1 ⟨vc, rfl, hvc, hb1⟩
      have hb1' : Below W.heap.size W w1 := Wd.of_drew hb1
      obtain ⟨Ac, nc, cc, rfl, _⟩ := Wd.Sl.of_own hvc
      have cV1 : w1.cell? ⟨w.heap.size, 0, none⟩ = some v := (hb1'.cell (p := ⟨w.heap.size, 0, none⟩) bV.lt).trans cV
      have hvc0 := Wd.own_down hvc (Nat.zero_le _)
      have hb2 : Below W.heap.size W (w1.alloc (.cells #[.slice Ac nc cc] 39)) := hb1'.alloc hb1'.size _
      have cV2 : (w1.alloc (.cells #[.slice Ac nc cc] 39)).cell? ⟨w.heap.size, 0, none⟩ = some v := (hb2.cell (p := ⟨w.heap.size, 0, none⟩) bV.lt).trans cV
      refine hK.out _ _ trivial (fun _ => ?_)
      clear hK K
      refine wpAnyH_ready (rs := [0, 3]) (by kernel_rfl) (by simp) ?_
      refine AllReadyH.cons rfl (fun K hK => ?_) (AllReadyH.cons rfl (fun K hK => ?_) AllReadyH.nil)
      · go_simp
        refine hK.out _ _ trivial (fun _ => ?_)
        clear hK K
        refine wpAnyH_ready (rs := [3]) (by kernel_rfl) (by simp) ?_
        refine AllReadyH.cons rfl (fun K hK => ?_) AllReadyH.nil
        go_simp
        refine hK.out _ _ trivial (fun _ => ?_)
        clear hK K
        refine wpAnyH_ready (rs := [4]) (by kernel_rfl) (by simp) ?_
        refine AllReadyH.cons rfl (fun K hK => ?_) AllReadyH.nil
        refine Wd.step_app1 (w1.alloc (.cells #[.slice Ac nc cc] 39)) rfl (.tmp 12) (.tmp 15) 63 rfl (w.heap.size + 1 + 1 + 1) 39 i0 _ 24 Try.underlying63 hi hz0 hz1 hz2 rfl v pre.length vs rfl (Wd.own_below hrow hb2) ⟨w1.heap.size, 0, none⟩ (.slice Ac nc cc) rfl (Wd.Var.new w1 _ _).cell (Addr.add_lit _ _ _) rfl (by unfold maxLen; omega) (by omega) (Nat.le_trans hvsz hb2.size) ?_
        intro v' w3 hown3 hg3
        obtain ⟨bV3, bP4, f1, f2, f3⟩ := read_end (x := x) bV hrow hHs bP bS hBl hb2 (hvc0.alloc _) hown3 hg3
        have c3 := bV3.cell
        have c4 := bV3.frozen
        obtain ⟨g', cap', rfl⟩ := ownsRow_succ hown3
        have c5 := bP4.cell
        have c6 := bP4.frozen
        refine hK.out _ _ trivial (fun _ => ?_)
        clear hK K
        refine wpAnyH_ready (rs := [5]) (by kernel_rfl) (by simp) ?_
        refine AllReadyH.cons rfl (fun K hK => ?_) AllReadyH.nil
        go_simp
        refine hK.out _ _ trivial (fun _ => ?_)
        refine wpAnyH_done (by kernel_rfl) ?_ _
        gi_wp2
        exact ⟨by simpa using f1, f2, f3⟩
      · go_simp
        refine hK.out _ _ trivial (fun _ => ?_)
        clear hK K
        refine wpAnyH_ready (rs := [0]) (by kernel_rfl) (by simp) ?_
        refine AllReadyH.cons rfl (fun K hK => ?_) AllReadyH.nil
        go_simp
        refine hK.out _ _ trivial (fun _ => ?_)
        clear hK K
        refine wpAnyH_ready (rs := [4]) (by kernel_rfl) (by simp) ?_
        refine AllReadyH.cons rfl (fun K hK => ?_) AllReadyH.nil
        refine Wd.step_app1 (w1.alloc (.cells #[.slice Ac nc cc] 39)) rfl (.tmp 12) (.tmp 15) 63 rfl (w.heap.size + 1 + 1 + 1) 39 i0 _ 24 Try.underlying63 hi hz0 hz1 hz2 rfl v pre.length vs rfl (Wd.own_below hrow hb2) ⟨w1.heap.size, 0, none⟩ (.slice Ac nc cc) rfl (Wd.Var.new w1 _ _).cell (Addr.add_lit _ _ _) rfl (by unfold maxLen; omega) (by omega) (Nat.le_trans hvsz hb2.size) ?_
        intro v' w3 hown3 hg3
        obtain ⟨bV3, bP4, f1, f2, f3⟩ := read_end (x := x) bV hrow hHs bP bS hBl hb2 (hvc0.alloc _) hown3 hg3
        have c3 := bV3.cell
        have c4 := bV3.frozen
        obtain ⟨g', cap', rfl⟩ := ownsRow_succ hown3
        have c5 := bP4.cell
        have c6 := bP4.frozen
        refine hK.out _ _ trivial (fun _ => ?_)
        clear hK K
        refine wpAnyH_ready (rs := [5]) (by kernel_rfl) (by simp) ?_
        refine AllReadyH.cons rfl (fun K hK => ?_) AllReadyH.nil
        go_simp
        refine hK.out _ _ trivial (fun _ => ?_)
        refine wpAnyH_done (by kernel_rfl) ?_ _
        gi_wp2
        exact ⟨by simpa using f1, f2, f3⟩
  case done =>
    rintro D ys W hD hys ⟨⟨v, vs, bV, hrow, hHs⟩, bP, bS, hBl⟩ hK
    have cV := bV.cell
    have cP := bP.cell
    gi_wp2
    gi_quiet (fail)
    gi_wp2
    refine ⟨by simp, .inl ⟨_, _, rfl, run_takeDeferred hK, ?_⟩⟩
    have hrow' := ownsRow_putObj (W := W.drewN nq) hrow (.deferred none) hK rfl
    have hHs' : Wd.Hs ((W.drewN nq).putObj D (.deferred none)) 5 vs (vals ys) := Wd.Hs.others (X := W.drewN nq) hHs (grownBy_putObj' (W.drewN nq) D _) (fun r e => by cases e; exact ⟨_, hK, rfl⟩)
    obtain ⟨A', n', c', rfl, hSs⟩ := Wd.Ss.of_own hrow' hHs'
    rw [hys]
    exact ⟨_, results_tmp2 rfl _ _ _, ⟨_, _, _, rfl, hSs, (Wd.below_drewN hBl nq).trans (belowK_b (w := w) (Nat.le_refl _) (W.drewN nq) D _ _ (by simp at hD; omega) hK rfl rfl)⟩⟩
  case stop =>
    rintro D c pre W _ _ h _
    exact h.elim
theorem read_any (A : Option Addr) (m c : Nat) (b : List Int) (w : World) (hS : Wd.Sl w .u8 A m c b) (hm : m ≤ 1000000) (hB : Nm.Byt b) :
    Calls Try.prog 26 #[.slice A m c] w (Wd.OutSs w (Fr.rd b).1 (Fr.rd b).2) := (callsIn_wide (n := 3)).1 (read_in 3 (by omega) A m c b w hS hm hB)
end Fc
end Go.Proofs.Ytljgalleiemaaaa
