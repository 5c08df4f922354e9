/- A row of slices of bytes of the call's own that grows, known whole with its spare room; its elements are slices of whomever. What the functions of package num that read do: getVarint, GetLen. They leave memory as it is. What the functions of package num that read do: unzigzag, Get (getVarint, and what goes with it. -/
import Derived.WalkKit
import Derived.WalkSpells
import Derived.Lib.Hide
import Derived.IntWalk
import Derived.Maps.AppendAt
import Derived.Deep.RegionHeld3
import Derived.Deep.QuietTactic
import Derived.RegionTactic
import Derived.Test.YtaoeipehpakngaaGreatDoorPb08
import Derived.Test.YtaoeipehpakngaaGreatDoorPb23
import Derived.Test.YtaoeipehpakngaaGreatDoorProg
import Derived.Test.YtaoeipehpakngaaGreatDoorPb01
import Derived.Test.YtaoeipehpakngaaGreatDoorPb02
namespace Go.Proofs.YtaoeipehpakngaaGreatDoor
set_option maxRecDepth 20000
open Go.RowKit Go.Maps
namespace Wd
def nils : Value := .slice none 0 0
def OwB (w : World) (B : Nat) (v : Value) (us : List Value) : Prop :=
  ∃ g cap, v = .slice (some ⟨g, 0, none⟩) us.length cap ∧ B ≤ g ∧ us.length ≤ cap ∧ cap ≤ maxLen ∧ Bx w g 32 (us ++ List.replicate (cap - us.length) nils).toArray
theorem info_ls : (Tryz.prog.info? 32).map (fun i => (i.zero, i.size, i.bytes)) = some (some (.slice none 0 0), 1, 24) := by kernel_rfl
theorem OwB.block {w : World} {B : Nat} {v : Value} {us : List Value} (h : OwB w B v us) {g : Nat} (hg : v.ownBlock = some g) : B ≤ g ∧ ∃ k, Bx w g 32 (us ++ List.replicate k nils).toArray := by
  obtain ⟨g', cap, rfl, h1, _, _, h2⟩ := h
  cases hg
  exact ⟨h1, _, h2⟩
theorem OwB.keep {w w' : World} {B : Nat} {v : Value} {us : List Value} {G : Nat → Prop} (h : OwB w B v us) (mv : Mv G w w') (hn : ∀ g, v.ownBlock = some g → ¬ G g) : OwB w' B v us := by
  obtain ⟨g, cap, rfl, h1, h2, h3, h4⟩ := h
  exact ⟨g, cap, rfl, h1, h2, h3, (mv.keep g h4.lt (hn g rfl)).trans h4⟩
theorem OwB.below {w w' : World} {B : Nat} {v : Value} {us : List Value} (h : OwB w B v us) (hb : Below w.heap.size w w') : OwB w' B v us := h.keep (Mv.of_below (G := fun _ => False) hb) fun _ _ z => z
theorem OwB.lit (w : World) (B : Nat) (us : List Value) (hB : B ≤ w.heap.size) (hm : us.length ≤ maxLen) : OwB (w.alloc (.cells us.toArray 32)) B (.slice (some ⟨w.heap.size, 0, none⟩) us.length us.length) us :=
  ⟨_, _, rfl, hB, Nat.le_refl _, hm, by
    rw [Nat.sub_self, List.replicate_zero, List.append_nil]
    exact Bx.new w _ _⟩
theorem zeros_nil (n : Nat) : (Builtin.zeroCells (Value.slice none 0 0).cells n).toList = List.replicate n nils := by
  refine List.ext_getElem (by simp [Builtin.zeroCells, Value.cells]) fun i h1 h2 => ?_
  simp [Builtin.zeroCells, Value.cells, nils, Nat.mod_one]
theorem Gs.nob {w : World} {us : List Value} {ys : List (List Int)} (h : Gs w us ys) (k : Nat) : ∀ v ∈ us ++ List.replicate k nils, ∀ x, v ≠ .int .u8 x := fun v hv x => by
  rcases List.mem_append.1 hv with q | q
  · obtain ⟨j, hj, rfl⟩ := List.getElem_of_mem q
    obtain ⟨A, n, c, e, _⟩ := h.2 j (by rw [← h.1]; exact hj)
    rw [List.getElem?_eq_getElem hj, Option.some.injEq] at e
    rw [e]
    simp
  · rw [List.eq_of_mem_replicate q]
    simp [nils]
theorem Sl.stay {w w' : World} {A : Option Addr} {n c : Nat} {ys : List Int} {G : Nat → Prop} (h : Sl w .u8 A n c ys) (mv : Mv G w w') (hG : ∀ g, G g → ∃ (t : TypeId) (cs : List Value), Bx w g t cs.toArray ∧ ∀ v ∈ cs, ∀ x, v ≠ .int .u8 x) : Sl w' .u8 A n c ys :=
  h.keep mv fun a ha hn q => by
    obtain ⟨t, cs, hb, h1⟩ := hG _ q
    exact h.apart hb h1 a ha hn rfl
theorem Gs.stay {w w' : World} {us : List Value} {ys : List (List Int)} {G : Nat → Prop} (h : Gs w us ys) (mv : Mv G w w') (hG : ∀ g, G g → ∃ (t : TypeId) (cs : List Value), Bx w g t cs.toArray ∧ ∀ v ∈ cs, ∀ x, v ≠ .int .u8 x) : Gs w' us ys :=
  ⟨h.1, fun j hj => by
    obtain ⟨A, n, c, e, hs⟩ := h.2 j hj
    exact ⟨A, n, c, e, hs.stay mv hG⟩⟩
theorem Gs.grown {w w' : World} {B : Nat} {v : Value} {us vs : List Value} {ys zs : List (List Int)} (h : Gs w vs zs) (k : OwB w B v us) (hu : Gs w us ys) (hg : w.grownBy w' v.ownBlock) : Gs w' vs zs :=
  h.stay (Mv.of_grown (G := fun x => v.ownBlock = some x) hg fun _ e => e) fun g q => by
    obtain ⟨_, n, hb⟩ := k.block q
    exact ⟨_, _, hb, hu.nob n⟩
theorem Gs.one_ {w : World} {A : Option Addr} {n c : Nat} {y : List Int} (h : Sl w .u8 A n c y) : Gs w [.slice A n c] [y] := ⟨rfl, fun j hj => by
  obtain rfl : j = 0 := by simpa using hj
  exact ⟨A, n, c, rfl, h⟩⟩
theorem Gs.two {w : World} {A : Option Addr} {n c : Nat} {y : List Int} {B : Option Addr} {m d : Nat} {z : List Int} (h : Sl w .u8 A n c y) (k : Sl w .u8 B m d z) : Gs w [.slice A n c, .slice B m d] [y, z] := (Gs.one_ h).app (Gs.one_ k)
theorem OwB.ss {w : World} {B : Nat} {A : Option Addr} {n c : Nat} {us : List Value} {ys : List (List Int)} (h : OwB w B (.slice A n c) us) (k : Gs w us ys) : Ss w A n c ys := by
  obtain ⟨g, cap, e, h2, h3, h4, h5⟩ := h
  cases e
  refine ⟨k.1, h3, h4, by simp, fun j hj => ?_⟩
  obtain ⟨A', n', c', e, hs⟩ := k.2 j hj
  refine ⟨g, 0, A', n', c', rfl, h5.lt, ?_, hs⟩
  rw [Nat.zero_add, h5.cell, List.getElem?_toArray, List.getElem?_append_left (by rw [k.1]; exact hj)]
  exact e
set_option maxHeartbeats 2000000 in
theorem run_appB (w : World) (ty : TypeId) (B : Nat) (v : Value) (us : List Value) (hown : OwB w B v us) (ad : Addr) (u : Value) (hc : w.cell? (ad.add 0) = some u) (h1 : u.oneCell' = true) (hL : us.length ≤ 1000000) (hB : B ≤ w.heap.size) :
    ∃ A c w', (Builtin.append_ #[58, 58] ty #[v, .slice (some ad) 1 1]).run Tryz.prog w = .ok (.slice A (us.length + 1) c) w' ∧ OwB w' B (.slice A (us.length + 1) c) (us ++ [u]) ∧ w.grownBy w' v.ownBlock := by
  obtain ⟨i0, hi, hz0, hz1, hz2⟩ := info_parts info_ls
  have hsz : (us ++ [u]).length = us.length + 1 := by simp
  have hvs : [u].length = 1 * i0.size := by rw [hz1]; rfl
  have hc' : ∀ j x, [u][j]? = some x → w.cell? (ad.add j) = some x := fun j x hx => by
    have hj : j < 1 := by simpa using (List.getElem?_eq_some_iff.1 hx).1
    obtain rfl : j = 0 := by omega
    simp only [List.getElem?_cons_zero, Option.some.injEq] at hx
    rw [hc, hx]
  have h1' : ∀ x ∈ [u], x.oneCell' = true := fun x hx => by
    obtain rfl : x = u := by simpa using hx
    exact h1
  obtain ⟨g, cap, rfl, h1, h2, h3, h4⟩ := hown
  by_cases hroom : us.length + 1 ≤ cap
  · obtain ⟨q, hq⟩ : ∃ q, cap - us.length = q + 1 := ⟨cap - us.length - 1, by omega⟩
    have hb : w.heap[g]? = some (.cells (us ++ List.replicate (cap - us.length) nils).toArray 32 (0, 0)) := h4
    have hr := run_append_room (P := Tryz.prog) w 58 ty 32 i0 Tryz.underlying58 hi g us.length cap _ hb ad 1 1 [u] hvs hc' h1' hroom (by
      rw [hz1]
      simp only [List.size_toArray, List.length_append, List.length_replicate]
      omega)
    refine ⟨_, _, _, hr, ⟨g, cap, by rw [hsz], h1, by rw [hsz]; exact hroom, h3, ?_⟩, ⟨rfl, rfl, rfl, by simp, fun k _ hk => setRow_other w g k _ (fun e => hk (by simp [Value.ownBlock, e]))⟩⟩
    have := setRow_heap w g _ (List.take (us.length * i0.size) (us ++ List.replicate (cap - us.length) nils).toArray.toList ++ [u] ++ List.drop (us.length * i0.size + [u].length) (us ++ List.replicate (cap - us.length) nils).toArray.toList).toArray _ _ hb
    unfold Bx
    rw [this]
    congr 3
    rw [hz1, hsz, Nat.mul_one, show cap - (us.length + 1) = q by omega, hq, List.replicate_succ]
    rw [List.take_left, show us ++ nils :: List.replicate q nils = (us ++ [nils]) ++ List.replicate q nils by simp, show us.length + [u].length = (us ++ [nils]).length by simp, List.drop_left]
  · have holds : ∀ j x, us[j]? = some x → w.cell? ((⟨g, 0, none⟩ : Addr).add j) = some x := fun j x hx => by
      rw [Addr.add_lit, Nat.zero_add, h4.cell, List.getElem?_toArray, List.getElem?_append_left (List.getElem?_eq_some_iff.1 hx).1]
      exact hx
    have hr := run_append_grow (P := Tryz.prog) w 58 ty 32 i0 _ Tryz.underlying58 hi hz0 ⟨g, 0, none⟩ us.length cap us (by rw [hz1]; omega) holds ad 1 1 [u] hvs hc' (by omega) (by omega) (growslice_fits (by omega) (by rw [hz2]; omega))
    refine ⟨_, _, _, hr, ?_, ⟨rfl, rfl, rfl, by simp, fun k hk _ => Below.heap_alloc w.drew _ k hk⟩⟩
    refine ⟨w.heap.size, grownCap w (us.length + 1) cap 32, by rw [hsz], hB, by rw [hsz]; exact grownCap_ge _ _ _ _, grownCap_le_maxLen w _ _ _ (by unfold maxLen; omega), ?_⟩
    rw [hsz]
    have e : us.toArray ++ [u].toArray ++ Builtin.zeroCells (Value.slice none 0 0).cells (grownCap w (us.length + 1) cap 32 - (us.length + 1)) = (us ++ [u] ++ List.replicate (grownCap w (us.length + 1) cap 32 - (us.length + 1)) nils).toArray := by
      apply Array.ext'
      rw [Array.toList_append, Array.toList_append, zeros_nil]
    rw [e]
    exact Bx.new w.drew _ _
theorem wpList_appB (w : World) {ops : Array Oper} {rest : List Oper} {o : Oper} {a : Act} {Q : Exit → Act → World → Prop} (hgd : o.guard = none) (s x : Operand)
    (ho : o.op = .call { callee := .builtin .append, args := #[s, x], argTypes := #[58, 58] })
    (B : Nat) (v : Value) (us : List Value) (hs : a.eval s = v) (hown : OwB w B v us) (ad : Addr) (u : Value) (hx : a.eval x = .slice (some ad) 1 1) (hc : w.cell? (ad.add 0) = some u) (h1 : u.oneCell' = true) (hL : us.length ≤ 1000000) (hB : B ≤ w.heap.size)
    (h : ∀ A c w', OwB w' B (.slice A (us.length + 1) c) (us ++ [u]) → w.grownBy w' v.ownBlock → wpList Tryz.prog ops Q rest (a.put o.dst (.slice A (us.length + 1) c)) w') : wpList Tryz.prog ops Q (o :: rest) a w := by
  refine wpList_plain hgd fun K hK => ?_
  obtain ⟨A, c, w', hrun, h2, h3⟩ := run_appB w o.type B v us hown ad u hc h1 hL hB
  unfold Oper.wp
  simp [execOp, ho, resolve, invoke, builtin, hs, hx, hrun, Result.andThen]
  exact hK _ _ (h A c w' h2 h3)
end Wd
end Go.Proofs.YtaoeipehpakngaaGreatDoor
namespace Go.Proofs.YtaoeipehpakngaaGreatDoor
set_option maxRecDepth 20000
open Go.RowKit
namespace Nc
def three (k : IntKind) (p : Int × Int × Int) : Value := .tuple #[.int k p.1, .int .i64 p.2.1, .int .i64 p.2.2]
theorem three_eq {k : IntKind} {a b c : Int} {p : Int × Int × Int} (h : (a, b, c) = p) : Ending.returned (.tuple #[.int k a, .int .i64 b, .int .i64 c]) = .returned (three k p) := by subst h; rfl
set_option maxHeartbeats 400000 in
theorem getVarint_any (A : Option Addr) (n c : Nat) (bs : List Int) (w : World) (hb : Wd.Sl w .u8 A n c bs) (hB : Nm.Byt bs) :
    Calls Tryz.prog 160 #[.slice A n c] w fun e w' => e = .returned (three .u64 (Nm.gv bs)) ∧ w = w' := by
  obtain ⟨rfl, hc, hx, hA, hr⟩ := hb
  unfold maxLen at hx
  rcases Nat.eq_zero_or_pos bs.length with h0 | h0
  · obtain rfl : bs = [] := List.eq_nil_of_length_eq_zero h0
    go_enter Tryz.func160, Tryz.ntmps160
    go_wp2
    refine wp_loop_rounds 1 ?_
    rw [rounds_succ]
    go_wp2
    go_ret3
    exact ⟨rfl, rfl⟩
  · obtain ⟨b, o, rfl, hlt, hcell⟩ := hr.some_ h0
    clear hr hA
    go_enter Tryz.func160, Tryz.ntmps160
    go_wp2
    go_loop [5, 10] (fun a i => ∃ (k : Nat) (acc : Int), i = .int .i64 k ∧ a = .int .u64 acc ∧ k ≤ bs.length ∧ k ≤ 9 ∧ 0 ≤ acc ∧ acc < 128 ^ k ∧ Nm.gvF k acc (bs.drop k) = Nm.gv bs) (fun _ i => bs.length - (intOf i).toNat)
    case atStart => exact ⟨0, 0, rfl, rfl, Nat.zero_le _, Nat.zero_le _, Int.le_refl _, by decide, rfl⟩
    case round =>
      obtain ⟨k, acc, rfl, rfl, hk, hk9, ha0, ha1, hg⟩ := hrel
      have Hg := Lib.hid hg
      clear hg
      by_cases hlt : k < bs.length
      · obtain ⟨x, hx'⟩ : ∃ x, x = bs.getD k 0 := ⟨_, rfl⟩
        have hd : bs.drop k = x :: bs.drop (k + 1) := by
          rw [hx', List.drop_eq_getElem_cons hlt]; simp [List.getD, hlt]
        have hcx := hcell k hlt
        rw [← hx'] at hcx
        have hxb : 0 ≤ x ∧ x ≤ 255 := hB x (by rw [hx']; simp [List.getD, hlt])
        obtain ⟨hx0, hx1⟩ := hxb
        have Hd := Lib.hid hd
        clear hd hx' hcell
        rcases Nat.lt_or_ge k 9 with q1 | q1; rotate_left
        · by_cases q2 : 1 < x
          · go_wp2_with fail
            go_ret3
            refine ⟨three_eq (a := 0) (b := 0) (c := 7) ?_, rfl⟩
            rw [← Hg.out, Hd.out, Nm.gvF, if_pos ⟨by omega, q2⟩]
          · rcases (show x ≤ 0 ∨ 0 < x by omega) with q3 | q3
            · go_wp2_with fail
              go_ret3
              refine ⟨three_eq (a := 0) (b := 0) (c := 7) ?_, rfl⟩
              rw [← Hg.out, Hd.out, Nm.gvF, if_neg (by omega), if_neg (by omega), if_pos (by omega)]
            · go_wp2_with fail
              go_ret3
              refine ⟨three_eq (a := bits BinOp.or IntKind.u64 acc (x % 128 * 9223372036854775808)) (b := 10) (c := 0) ?_, rfl⟩
              rw [← Hg.out, Hd.out, Nm.gvF, if_neg (by omega), if_neg (by omega), if_neg (by omega)]
              obtain rfl : x = 1 := by omega
              obtain rfl : k = 9 := by omega
              have := Nm.or_last acc ha0 ha1
              simp only [Prod.mk.injEq, and_true]
              exact ⟨this, rfl⟩
        · by_cases q2 : 128 ≤ x
          · go_wp2_with fail
            have hs := Nm.or_step k acc x q1 ha0 ha1
            go_round
            case rel =>
              rw [hs]
              refine ⟨k + 1, _, by go_num, rfl, by omega, by omega, Nm.or_step_lo k acc x ha0, Nm.or_step_lt k acc x ha1, ?_⟩
              rw [← Hg.out, Hd.out, Nm.gvF, if_neg (by omega), if_pos q2]
            case measure => simp [intOf]; omega
          · rcases (show x ≤ 0 ∨ 0 < x by omega) with q3 | q3
            · rcases (show k ≤ 0 ∨ 0 < k by omega) with q4 | q4
              · go_wp2_with fail
                go_ret3
                refine ⟨three_eq (a := bits BinOp.or IntKind.u64 acc (IntKind.u64.wrap 0)) (b := (k : Int) + 1) (c := 0) ?_, rfl⟩
                have hs := Nm.or_step k acc 0 q1 ha0 ha1
                rw [← Hg.out, Hd.out, Nm.gvF, if_neg (by omega), if_neg (by omega), if_neg (by omega)]
                obtain rfl : x = 0 := by omega
                simpa using hs
              · go_wp2_with fail
                go_ret3
                refine ⟨three_eq (a := 0) (b := 0) (c := 7) ?_, rfl⟩
                rw [← Hg.out, Hd.out, Nm.gvF, if_neg (by omega), if_neg (by omega), if_pos (by omega)]
            · go_wp2_with fail
              go_ret3
              refine ⟨three_eq (a := bits BinOp.or IntKind.u64 acc (IntKind.u64.wrap (x % 128 * 2 ^ (7 * k)))) (b := (k : Int) + 1) (c := 0) ?_, rfl⟩
              have hs := Nm.or_step k acc x q1 ha0 ha1
              rw [← Hg.out, Hd.out, Nm.gvF, if_neg (by omega), if_neg (by omega), if_neg (by omega), hs]
              rw [Int.emod_eq_of_lt hx0 (by omega)]
      · go_wp2_with fail
        go_ret3
        refine ⟨three_eq (a := 0) (b := 0) (c := 6) ?_, rfl⟩
        rw [← Hg.out, List.drop_of_length_le (by omega)]
        rfl
theorem getLen_any (A : Option Addr) (n c : Nat) (bs : List Int) (w : World) (hb : Wd.Sl w .u8 A n c bs) (hB : Nm.Byt bs) :
    Calls Tryz.prog 111 #[.slice A n c] w fun e w' => e = .returned (three .i64 (Nm.getL bs)) ∧ w = w' := by
  by_cases h : (Nm.gv bs).2.2 = 0
  · obtain ⟨k, u, hk, k1, k2, k3, u0, u1, _⟩ := Nm.gv_only bs hB h
    have hc := (getVarint_any A n c bs w hb hB)
    by_cases hu : 9223372036854775807 < u
    · have hr : Nm.getL bs = (0, 0, 7) := by unfold Nm.getL; rw [hk]; exact if_pos hu
      rw [hk] at hc
      have Hr := Lib.hid hr
      have Hc := Lib.hid hc
      clear hk hr hc h
      go_enter Tryz.func111, Tryz.ntmps111
      go_wp2_with fail
      refine Hc.out.mono ?_
      rintro e w' ⟨rfl, rfl⟩
      unfold three
      go_wp2_with fail
      go_ret3
      rw [Hr.out]
      exact ⟨rfl, rfl⟩
    · have hr : Nm.getL bs = (u, (k : Int), 0) := by unfold Nm.getL; rw [hk]; exact if_neg hu
      rw [hk] at hc
      have Hr := Lib.hid hr
      have Hc := Lib.hid hc
      clear hk hr hc h
      go_enter Tryz.func111, Tryz.ntmps111
      go_wp2_with fail
      refine Hc.out.mono ?_
      rintro e w' ⟨rfl, rfl⟩
      unfold three
      go_wp2_with fail
      go_ret3
      rw [Hr.out]
      exact ⟨rfl, rfl⟩
  · rcases Nm.gv_err bs with q | q | q
    · exact absurd q h
    all_goals
      have hr : Nm.getL bs = Nm.gv bs := by unfold Nm.getL; rw [q]; rfl
      have hc := (getVarint_any A n c bs w hb hB)
      rw [q] at hc hr
      have Hc := Lib.hid hc
      have Hr := Lib.hid hr
      clear hc hr q h
      go_enter Tryz.func111, Tryz.ntmps111
      go_wp2_with fail
      refine Hc.out.mono ?_
      rintro e w' ⟨rfl, rfl⟩
      unfold three
      go_wp2_with fail
      go_ret3
      rw [Hr.out]
      exact ⟨rfl, rfl⟩
end Nc
namespace Nc
theorem unzigzag_any (u : Int) (w : World) (h1 : 0 ≤ u) (h2 : u ≤ 18446744073709551615) :
    Calls Tryz.prog 234 #[.int .u64 u] w fun e w' => e = .returned (.int .i64 (Nm.unz u)) ∧ w = w' := by
  go_enter Tryz.func234, Tryz.ntmps234
  go_wp2
  go_ret
  exact ⟨congrArg (fun x => Ending.returned (.int .i64 x)) (Nm.unzig_bits u h1 h2), rfl⟩
theorem get_any (A : Option Addr) (n c : Nat) (bs : List Int) (w : World) (hb : Wd.Sl w .u8 A n c bs) (hB : Nm.Byt bs) :
    Calls Tryz.prog 193 #[.slice A n c] w fun e w' => e = .returned (three .i64 (Nm.getI bs)) ∧ w = w' := by
  by_cases h : (Nm.gv bs).2.2 = 0
  · obtain ⟨k, u, hk, k1, k2, k3, u0, u1, _⟩ := Nm.gv_only bs hB h
    have hr : Nm.getI bs = (Nm.unz u, (k : Int), 0) := by unfold Nm.getI; rw [hk]; rfl
    have Hr := Lib.hid hr
    have hc := (getVarint_any A n c bs w hb hB)
    rw [hk] at hc
    have Hc := Lib.hid hc
    clear hk hr hc h
    go_enter Tryz.func193, Tryz.ntmps193
    go_wp2_with fail
    refine Hc.out.mono ?_
    rintro e w' ⟨rfl, rfl⟩
    unfold three
    go_wp2_with fail
    refine (unzigzag_any u w u0 u1).mono ?_
    rintro e w' ⟨rfl, rfl⟩
    go_wp2_with fail
    go_ret3
    rw [Hr.out]
    exact ⟨rfl, rfl⟩
  · rcases Nm.gv_err bs with q | q | q
    · exact absurd q h
    all_goals
      have hr : Nm.getI bs = Nm.gv bs := by unfold Nm.getI; rw [q]; rfl
      have hc := (getVarint_any A n c bs w hb hB)
      rw [q] at hc hr
      have Hc := Lib.hid hc
      have Hr := Lib.hid hr
      clear hc hr q h
      go_enter Tryz.func193, Tryz.ntmps193
      go_wp2_with fail
      refine Hc.out.mono ?_
      rintro e w' ⟨rfl, rfl⟩
      unfold three
      go_wp2_with fail
      go_ret3
      rw [Hr.out]
      exact ⟨rfl, rfl⟩
end Nc
namespace Wd
theorem Ss.cut1 {w : World} {b o n c : Nat} {y : List Int} {r : List (List Int)} (h : Ss w (some ⟨b, o, none⟩) n c (y :: r)) : Ss w (if c = 1 then some ⟨b, o, none⟩ else some ⟨b, o + 1, none⟩) (n - 1) (c - 1) r := by
  have hl := h.len
  rw [List.length_cons] at hl
  have hc := h.cap
  have hm := h.max
  refine ⟨by omega, by omega, by omega, (fun e => by split at e <;> cases e), fun j hj => ?_⟩
  obtain ⟨b', o', A', n', c', e, h1, h2, h3⟩ := h.at_ (j + 1) (by rw [List.length_cons]; omega)
  cases e
  rw [if_neg (by omega)]
  exact ⟨b, o + 1, A', n', c', rfl, h1, by rw [show o + 1 + j = o + (j + 1) by omega]; exact h2, by simpa using h3⟩
end Wd
namespace Fi
open Se (Seg Sg Gb)
open Wd (Cr)
open Nc
structure Lb (w0 w : World) (p : Nat) (a b c d : Int) (OA : Option Addr) (on oc : Nat) (CA : Option Addr) (cn cc : Nat) (ps : List (List Int)) : Prop where
  ex : ∃ PA pn pc, Wd.Ss w0 PA pn pc ps ∧ Wd.Bx w p 103 #[.int .i64 a, .int .i64 b, .int .i64 c, .int .i64 d, .slice OA on oc, .slice CA cn cc, .slice PA pn pc]
  p0 : w0.heap.size ≤ p
  bel : Below w0.heap.size w0 w
section
variable {w0 w : World} {p : Nat} {a b c d : Int} {OA : Option Addr} {on oc : Nat} {CA : Option Addr} {cn cc : Nat}
theorem Lb.below {w' : World} {ps : List (List Int)} (h : Lb w0 w p a b c d OA on oc CA cn cc ps) (hb : Below w.heap.size w w') : Lb w0 w' p a b c d OA on oc CA cn cc ps := by
  obtain ⟨⟨PA, pn, pc, h1, h2⟩, h3, h4⟩ := h
  exact ⟨⟨PA, pn, pc, h1, h2.below h2.lt hb⟩, h3, h4.trans (hb.mono h4.size)⟩
theorem Lb.lt {ps : List (List Int)} (h : Lb w0 w p a b c d OA on oc CA cn cc ps) : p < w.heap.size := by
  obtain ⟨⟨_, _, _, _, h2⟩, _, _⟩ := h
  exact h2.lt
set_option maxHeartbeats 2000000 in
theorem next_nil (h : Lb w0 w p a b c d OA on oc CA cn cc []) :
    Calls Tryz.prog 110 #[.pointer (some ⟨p, 0, none⟩)] w fun e w' => e = .returned (.slice none 0 0) ∧ w' = w := by
  obtain ⟨⟨PA, pn, pc, hs, hb⟩, hp, hbel⟩ := h
  obtain rfl : pn = 0 := hs.len
  have d6 : w.cell? ⟨p, 6, none⟩ = some (.slice PA 0 pc) := hb.cell 6
  clear hs hb hbel hp
  go_enter Tryz.func110, Tryz.ntmps110
  go_wp2_with fail
  go_ret
  exact ⟨rfl, rfl⟩
set_option maxHeartbeats 4000000 in
theorem next_cons {y : List Int} {r : List (List Int)} (h : Lb w0 w p a b c d OA on oc CA cn cc (y :: r)) (hr : r.length ≤ 1000000) :
    Calls Tryz.prog 110 #[.pointer (some ⟨p, 0, none⟩)] w fun e w' => ∃ A n m, e = .returned (.slice A n m) ∧ Wd.Sl w0 .u8 A n m y ∧ Lb w0 w' p a b c d OA on oc CA cn cc r ∧ Wd.Mv (fun g => g = p) w w' := by
  obtain ⟨⟨PA, pn, pc, hs, hb⟩, hp, hbel⟩ := h
  have hl := hs.len
  rw [List.length_cons] at hl
  have hcap := hs.cap
  have hmax := hs.max
  unfold maxLen at hmax
  obtain ⟨b1, o1, A1, n1, c1, rfl, hlt1, hc1, hS1⟩ := hs.at_ 0 (by simp)
  have hcut := hs.cut1
  have e1 : w.cell? ⟨b1, o1, none⟩ = some (.slice A1 n1 c1) := (hbel.cell (p := ⟨b1, o1, none⟩) hlt1).trans (by simpa using hc1)
  have d6 : w.cell? ⟨p, 6, none⟩ = some (.slice (some ⟨b1, o1, none⟩) pn pc) := hb.cell 6
  have f6 := hb.free 6
  have HE := Lib.hid (show ∀ A n m, Wd.Ss w0 A n m r → Lb w0 (w.setCell ⟨p, 6, none⟩ (.slice A n m)) p a b c d OA on oc CA cn cc r ∧ Wd.Mv (fun g => g = p) w (w.setCell ⟨p, 6, none⟩ (.slice A n m)) from fun A n m h =>
    ⟨⟨⟨A, n, m, h, by have := hb.set 6 (.slice A n m); simpa using this⟩, hp, hbel.setCell (p := ⟨p, 6, none⟩) hp _⟩, (Wd.Mv.refl (fun g => g = p) w).set (G := fun g => g = p) (a := ⟨p, 6, none⟩) rfl _⟩)
  have HS1 := Lib.hid hS1
  have i1 : ((0 : Nat) : Int) < (pn : Int) := by omega
  have i2 : (1 : Int) ≤ (pn : Int) := by omega
  have i3 : (0 : Int) < (pn : Int) := by omega
  have i4 : ((pn : Int) == 0) = false := by simp; omega
  have i5 : (pn == 0) = false := by simp; omega
  have i6 : decide (0 < pn) = true := by simp; omega
  have Hl := Lib.hid hl
  clear hs hb hbel hp hS1 hc1 hlt1 hl
  by_cases hq : pc = 1
  · subst hq
    obtain rfl : pn = 1 := by have := Hl.out; omega
    rw [if_pos rfl] at hcut
    have Hc := Lib.hid hcut
    clear hcut
    go_enter Tryz.func110, Tryz.ntmps110
    go_wp2_with fail
    go_ret
    exact ⟨_, _, _, rfl, HS1.out, HE.out _ _ _ Hc.out⟩
  · rw [if_neg hq] at hcut
    have Hc := Lib.hid hcut
    have i7 : (1 : Int) < (pc : Int) := by omega
    have i8 : 1 < pc := by omega
    have i9 : ¬ pc = 1 := hq
    clear hcut hq
    go_enter Tryz.func110, Tryz.ntmps110
    go_wp2_with fail
    go_ret
    exact ⟨_, _, _, rfl, HS1.out, HE.out _ _ _ Hc.out⟩
end
end Fi
end Go.Proofs.YtaoeipehpakngaaGreatDoor
