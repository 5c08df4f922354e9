/- A row of slices of bytes of the call's own that grows, known whole with its spare room; its elements are slices of whomever. What step and newEffects of package frame do: the array of the effects of eight steps. What the checksum's functions of package frame do: sum, tail, Sum. What Seal of package frame does. -/
import Derived.WalkKit
import Derived.WalkSpells
import Derived.Lib.Hide
import Derived.IntWalk
import Derived.Maps.AppendAt
import Derived.Laws.BitsAllLaws
import Derived.Deep.WholeRow
import Derived.Deep.RegionWith
import Derived.Deep.DeepCutAuto
import Derived.Test.YtljgalleiemaaaaPk16
import Derived.Test.YtljgalleiemaaaaProg
import Derived.Test.YtljgalleiemaaaaPk01
import Derived.Test.YtljgalleiemaaaaPk02
import Derived.Test.YtljgalleiemaaaaPk15
import Derived.Test.YtljgalleiemaaaaPk03
namespace Go.Proofs.Ytljgalleiemaaaa
set_option maxRecDepth 20000
open Go.RowKit Go.Maps
namespace Wd
def nils : Value := .slice none 0 0
/-- The value is a row of its own of the slices us. -/
def OwB (w : World) (B : Nat) (v : Value) (us : List Value) : Prop :=
  ∃ g cap, v = .slice (some ⟨g, 0, none⟩) us.length cap ∧ B ≤ g ∧ us.length ≤ cap ∧ cap ≤ maxLen ∧ Bx w g 39 (us ++ List.replicate (cap - us.length) nils).toArray
theorem info_ls : (Try.prog.info? 39).map (fun i => (i.zero, i.size, i.bytes)) = some (some (.slice none 0 0), 1, 24) := by kernel_rfl
theorem OwB.block {w : World} {B : Nat} {v : Value} {us : List Value} (h : OwB w B v us) {g : Nat} (hg : v.ownBlock = some g) : B ≤ g ∧ ∃ k, Bx w g 39 (us ++ List.replicate k nils).toArray := by
  obtain ⟨g', cap, rfl, h1, _, _, h2⟩ := h
  cases hg
  exact ⟨h1, _, h2⟩
theorem OwB.keep {w w' : World} {B : Nat} {v : Value} {us : List Value} {G : Nat → Prop} (h : OwB w B v us) (mv : Mv G w w') (hn : ∀ g, v.ownBlock = some g → ¬ G g) : OwB w' B v us := by
  obtain ⟨g, cap, rfl, h1, h2, h3, h4⟩ := h
  exact ⟨g, cap, rfl, h1, h2, h3, (mv.keep g h4.lt (hn g rfl)).trans h4⟩
theorem OwB.below {w w' : World} {B : Nat} {v : Value} {us : List Value} (h : OwB w B v us) (hb : Below w.heap.size w w') : OwB w' B v us := h.keep (Mv.of_below (G := fun _ => False) hb) fun _ _ z => z
theorem OwB.lit (w : World) (B : Nat) (us : List Value) (hB : B ≤ w.heap.size) (hm : us.length ≤ maxLen) : OwB (w.alloc (.cells us.toArray 39)) B (.slice (some ⟨w.heap.size, 0, none⟩) us.length us.length) us :=
  ⟨_, _, rfl, hB, Nat.le_refl _, hm, by
    rw [Nat.sub_self, List.replicate_zero, List.append_nil]
    exact Bx.new w _ _⟩
theorem OwB.shape {w : World} {B : Nat} {v : Value} {us : List Value} (h : OwB w B v us) : ∃ A c, v = .slice A us.length c := by
  obtain ⟨g, cap, rfl, _⟩ := h
  exact ⟨_, _, rfl⟩
theorem zeros_nil (n : Nat) : (Builtin.zeroCells (Value.slice none 0 0).cells n).toList = List.replicate n nils := by
  refine List.ext_getElem (by simp [Builtin.zeroCells, Value.cells]) fun i h1 h2 => ?_
  simp [Builtin.zeroCells, Value.cells, nils, Nat.mod_one]
theorem Gs.nob {w : World} {us : List Value} {ys : List (List Int)} (h : Gs w us ys) (k : Nat) : ∀ v ∈ us ++ List.replicate k nils, ∀ x, v ≠ .int .u8 x := fun v hv x => by
  rcases List.mem_append.1 hv with q | q
  · obtain ⟨j, hj, rfl⟩ := List.getElem_of_mem q
    obtain ⟨A, n, c, e, _⟩ := h.2 j (by rw [← h.1]; exact hj)
    rw [List.getElem?_eq_getElem hj, Option.some.injEq] at e
    rw [e]
    simp
  · rw [List.eq_of_mem_replicate q]
    simp [nils]
/-- Slices of bytes stay where blocks turn that hold no byte. -/
theorem Sl.stay {w w' : World} {A : Option Addr} {n c : Nat} {ys : List Int} {G : Nat → Prop} (h : Sl w .u8 A n c ys) (mv : Mv G w w') (hG : ∀ g, G g → ∃ (t : TypeId) (cs : List Value), Bx w g t cs.toArray ∧ ∀ v ∈ cs, ∀ x, v ≠ .int .u8 x) : Sl w' .u8 A n c ys :=
  h.keep mv fun a ha hn q => by
    obtain ⟨t, cs, hb, h1⟩ := hG _ q
    exact h.apart hb h1 a ha hn rfl
theorem Gs.stay {w w' : World} {us : List Value} {ys : List (List Int)} {G : Nat → Prop} (h : Gs w us ys) (mv : Mv G w w') (hG : ∀ g, G g → ∃ (t : TypeId) (cs : List Value), Bx w g t cs.toArray ∧ ∀ v ∈ cs, ∀ x, v ≠ .int .u8 x) : Gs w' us ys :=
  ⟨h.1, fun j hj => by
    obtain ⟨A, n, c, e, hs⟩ := h.2 j hj
    exact ⟨A, n, c, e, hs.stay mv hG⟩⟩
theorem Gs.grown {w w' : World} {B : Nat} {v : Value} {us vs : List Value} {ys zs : List (List Int)} (h : Gs w vs zs) (k : OwB w B v us) (hu : Gs w us ys) (hg : w.grownBy w' v.ownBlock) : Gs w' vs zs :=
  h.stay (Mv.of_grown (G := fun x => v.ownBlock = some x) hg fun _ e => e) fun g q => by
    obtain ⟨_, n, hb⟩ := k.block q
    exact ⟨_, _, hb, hu.nob n⟩
theorem Gs.one_ {w : World} {A : Option Addr} {n c : Nat} {y : List Int} (h : Sl w .u8 A n c y) : Gs w [.slice A n c] [y] := ⟨rfl, fun j hj => by
  obtain rfl : j = 0 := by simpa using hj
  exact ⟨A, n, c, rfl, h⟩⟩
theorem Gs.two {w : World} {A : Option Addr} {n c : Nat} {y : List Int} {B : Option Addr} {m d : Nat} {z : List Int} (h : Sl w .u8 A n c y) (k : Sl w .u8 B m d z) : Gs w [.slice A n c, .slice B m d] [y, z] := (Gs.one_ h).app (Gs.one_ k)
theorem OwB.ss {w : World} {B : Nat} {A : Option Addr} {n c : Nat} {us : List Value} {ys : List (List Int)} (h : OwB w B (.slice A n c) us) (k : Gs w us ys) : Ss w A n c ys := by
  obtain ⟨g, cap, e, h2, h3, h4, h5⟩ := h
  cases e
  refine ⟨k.1, h3, h4, by simp, fun j hj => ?_⟩
  obtain ⟨A', n', c', e, hs⟩ := k.2 j hj
  refine ⟨g, 0, A', n', c', rfl, h5.lt, ?_, hs⟩
  rw [Nat.zero_add, h5.cell, List.getElem?_toArray, List.getElem?_append_left (by rw [k.1]; exact hj)]
  exact e
set_option maxHeartbeats 2000000 in
/-- append of one slice. -/
theorem run_appB (w : World) (ty : TypeId) (B : Nat) (v : Value) (us : List Value) (hown : OwB w B v us) (ad : Addr) (u : Value) (hc : w.cell? (ad.add 0) = some u) (h1 : u.oneCell' = true) (hL : us.length ≤ 1000000) (hB : B ≤ w.heap.size) :
    ∃ A c w', (Builtin.append_ #[63, 63] ty #[v, .slice (some ad) 1 1]).run Try.prog w = .ok (.slice A (us.length + 1) c) w' ∧ OwB w' B (.slice A (us.length + 1) c) (us ++ [u]) ∧ w.grownBy w' v.ownBlock := by
  obtain ⟨i0, hi, hz0, hz1, hz2⟩ := info_parts info_ls
  have hsz : (us ++ [u]).length = us.length + 1 := by simp
  have hvs : [u].length = 1 * i0.size := by rw [hz1]; rfl
  have hc' : ∀ j x, [u][j]? = some x → w.cell? (ad.add j) = some x := fun j x hx => by
    have hj : j < 1 := by simpa using (List.getElem?_eq_some_iff.1 hx).1
    obtain rfl : j = 0 := by omega
    simp only [List.getElem?_cons_zero, Option.some.injEq] at hx
    rw [hc, hx]
  have h1' : ∀ x ∈ [u], x.oneCell' = true := fun x hx => by
    obtain rfl : x = u := by simpa using hx
    exact h1
  obtain ⟨g, cap, rfl, h1, h2, h3, h4⟩ := hown
  by_cases hroom : us.length + 1 ≤ cap
  · obtain ⟨q, hq⟩ : ∃ q, cap - us.length = q + 1 := ⟨cap - us.length - 1, by omega⟩
    have hb : w.heap[g]? = some (.cells (us ++ List.replicate (cap - us.length) nils).toArray 39 (0, 0)) := h4
    have hr := run_append_room (P := Try.prog) w 63 ty 39 i0 Try.underlying63 hi g us.length cap _ hb ad 1 1 [u] hvs hc' h1' hroom (by
      rw [hz1]
      simp only [List.size_toArray, List.length_append, List.length_replicate]
      omega)
    refine ⟨_, _, _, hr, ⟨g, cap, by rw [hsz], h1, by rw [hsz]; exact hroom, h3, ?_⟩, ⟨rfl, rfl, rfl, by simp, fun k _ hk => setRow_other w g k _ (fun e => hk (by simp [Value.ownBlock, e]))⟩⟩
    have := setRow_heap w g _ (List.take (us.length * i0.size) (us ++ List.replicate (cap - us.length) nils).toArray.toList ++ [u] ++ List.drop (us.length * i0.size + [u].length) (us ++ List.replicate (cap - us.length) nils).toArray.toList).toArray _ _ hb
    unfold Bx
    rw [this]
    congr 3
    rw [hz1, hsz, Nat.mul_one, show cap - (us.length + 1) = q by omega, hq, List.replicate_succ]
    rw [List.take_left, show us ++ nils :: List.replicate q nils = (us ++ [nils]) ++ List.replicate q nils by simp, show us.length + [u].length = (us ++ [nils]).length by simp, List.drop_left]
  · have holds : ∀ j x, us[j]? = some x → w.cell? ((⟨g, 0, none⟩ : Addr).add j) = some x := fun j x hx => by
      rw [Addr.add_lit, Nat.zero_add, h4.cell, List.getElem?_toArray, List.getElem?_append_left (List.getElem?_eq_some_iff.1 hx).1]
      exact hx
    have hr := run_append_grow (P := Try.prog) w 63 ty 39 i0 _ Try.underlying63 hi hz0 ⟨g, 0, none⟩ us.length cap us (by rw [hz1]; omega) holds ad 1 1 [u] hvs hc' (by omega) (by omega) (growslice_fits (by omega) (by rw [hz2]; omega))
    refine ⟨_, _, _, hr, ?_, ⟨rfl, rfl, rfl, by simp, fun k hk _ => Below.heap_alloc w.drew _ k hk⟩⟩
    refine ⟨w.heap.size, grownCap w (us.length + 1) cap 39, by rw [hsz], hB, by rw [hsz]; exact grownCap_ge _ _ _ _, grownCap_le_maxLen w _ _ _ (by unfold maxLen; omega), ?_⟩
    rw [hsz]
    have e : us.toArray ++ [u].toArray ++ Builtin.zeroCells (Value.slice none 0 0).cells (grownCap w (us.length + 1) cap 39 - (us.length + 1)) = (us ++ [u] ++ List.replicate (grownCap w (us.length + 1) cap 39 - (us.length + 1)) nils).toArray := by
      apply Array.ext'
      rw [Array.toList_append, Array.toList_append, zeros_nil]
    rw [e]
    exact Bx.new w.drew _ _
theorem wpList_appB (w : World) {ops : Array Oper} {rest : List Oper} {o : Oper} {a : Act} {Q : Exit → Act → World → Prop} (hgd : o.guard = none) (s x : Operand)
    (ho : o.op = .call { callee := .builtin .append, args := #[s, x], argTypes := #[63, 63] })
    (B : Nat) (v : Value) (us : List Value) (hs : a.eval s = v) (hown : OwB w B v us) (ad : Addr) (u : Value) (hx : a.eval x = .slice (some ad) 1 1) (hc : w.cell? (ad.add 0) = some u) (h1 : u.oneCell' = true) (hL : us.length ≤ 1000000) (hB : B ≤ w.heap.size)
    (h : ∀ A c w', OwB w' B (.slice A (us.length + 1) c) (us ++ [u]) → w.grownBy w' v.ownBlock → wpList Try.prog ops Q rest (a.put o.dst (.slice A (us.length + 1) c)) w') : wpList Try.prog ops Q (o :: rest) a w := by
  refine wpList_plain hgd fun K hK => ?_
  obtain ⟨A, c, w', hrun, h2, h3⟩ := run_appB w o.type B v us hown ad u hc h1 hL hB
  unfold Oper.wp
  simp [execOp, ho, resolve, invoke, builtin, hs, hx, hrun, Result.andThen]
  exact hK _ _ (h A c w' h2 h3)
end Wd
end Go.Proofs.Ytljgalleiemaaaa
namespace Go.Proofs.Ytljgalleiemaaaa
open Go.RowKit
namespace Fc

/-- The effect of eight steps on each value of 8 bits. -/
def tab : List Int := (List.range 256).map fun i => ((Fr.stN 8 i : Nat) : Int)
theorem tab_len : tab.length = 256 := by simp [tab]
theorem tab_get (i : Nat) (h : i < 256) : tab.getD i 0 = ((Fr.stN 8 i : Nat) : Int) := by simp [tab, List.getD, h]

theorem below_setRow {B g : Nat} {w w' : World} (h : Below B w w') (hg : B ≤ g) (cs : Array Value) : Below B w (w'.setRow g cs) :=
  ⟨h.os, h.tape, h.output, by rw [size_setRow]; exact h.size, fun k hk => (setRow_other w' g k cs (by omega)).trans (h.block k hk)⟩
theorem ints_all (k : IntKind) : ∀ xs : List Int, ((xs.map (Value.int k)).toArray).all (·.oneCell') = true := fun xs => by
  rw [Array.all_eq_true_iff_forall_mem]
  intro v hv
  simp at hv
  obtain ⟨x, _, rfl⟩ := hv
  rfl

theorem step_any (r : Nat) (w : World) (h : r < 4294967296) :
    Calls Try.prog 51 #[.int .u32 r] w fun e w' => e = .returned (.int .u32 (Fr.st r)) ∧ w = w' := by
  have ha : bits BinOp.and IntKind.u32 (r : Int) 1 = ((r % 2 : Nat) : Int) := by
    have := u32_and_nat r 1 h (by decide)
    rw [Nat.and_one_is_mod] at this
    exact this
  rcases Nat.mod_two_eq_zero_or_one r with q | q
  · have hs : Fr.st r = r / 2 := if_neg (by omega)
    rw [q] at ha
    rw [hs]
    go_enter Try.func51, Try.ntmps51
    go_wp2
    go_ret
    exact ⟨rfl, rfl⟩
  · have hs : bits BinOp.xor IntKind.u32 ((r : Int) / 2) 3988292384 = ((Fr.st r : Nat) : Int) := by
      have := u32_xor_nat (r / 2) 3988292384 (by omega) (by decide)
      rw [show Fr.st r = r / 2 ^^^ 3988292384 from if_pos q, ← this]
      rfl
    have Hs := Lib.hid hs
    rw [q] at ha
    clear hs
    go_enter Try.func51, Try.ntmps51
    go_wp2
    go_ret
    exact ⟨congrArg (fun x => Ending.returned (.int .u32 x)) Hs.out, rfl⟩

theorem info_eff : (Try.prog.info? 96).map (fun i => (i.zero, i.size)) = some (some (.agg (Array.replicate 256 (.int .u32 0))), 256) := by kernel_rfl

set_option maxRecDepth 100000 in
set_option maxHeartbeats 1000000 in
theorem newEffects_any (w : World) :
    Calls Try.prog 45 #[] w fun e w' => e = .returned (.agg (tab.map (Value.int .u32)).toArray) ∧ Below w.heap.size w w' := by
  obtain ⟨hz, hsz⟩ := zero_of_info info_eff
  obtain ⟨zc, hzc⟩ : ∃ zc : Array Value, zc = Array.replicate 256 (Value.int .u32 0) := ⟨_, rfl⟩
  rw [← hzc] at hz
  have hz1 : zc = ((Wd.fill tab 0).map (Value.int .u32)).toArray := by rw [hzc, Wd.fill_zero, tab_len, List.map_replicate, List.toArray_replicate]
  have hzs : zc.size = 256 := by rw [hzc]; exact Array.size_replicate
  clear hzc
  have Hz1 := Lib.hid hz1
  have Hzs := Lib.hid hzs
  have Hsz := Lib.hid hsz
  clear hz1 hzs hsz
  obtain ⟨tc, htc⟩ : ∃ tc : Array Value, tc = (tab.map (Value.int .u32)).toArray := ⟨_, rfl⟩
  have hts : tc.size = 256 := by rw [htc, List.size_toArray, List.length_map, tab_len]
  have ht1 : tc.all (·.oneCell') = true := by rw [htc]; exact ints_all _ _
  rw [← htc]
  have Htc := Lib.hid htc
  have Ht := Lib.hid ht1
  have Hts := Lib.hid hts
  clear htc ht1 hts
  go_enter Try.func45, Try.ntmps45
  go_wp2_with fail
  go_loopw [4] (fun i wr => ∃ k : Nat, i = .int .i64 k ∧ k ≤ 256 ∧ Wd.Row wr (w.heap.size + 1) .u32 96 (Wd.fill tab k) ∧ Wd.Bx wr w.heap.size 96 zc ∧ Below w.heap.size w wr) (fun i _ => 256 - (intOf i).toNat)
  case atStart =>
    refine ⟨0, rfl, Nat.zero_le _, ?_, (Wd.Bx.new w _ zc).alloc _, ((Below.refl _ _).alloc (Nat.le_refl _) _).alloc (by simp) _⟩
    have := Wd.Bx.new (w.alloc (.cells zc 96)) 96 zc
    rw [World.size_alloc] at this
    unfold Wd.Bx at this
    unfold Wd.Row
    rw [this, ← Hz1.out]
  case round =>
    obtain ⟨k, rfl, hk, hR, hB, hbel⟩ := hrel
    have hsz := hbel.size
    by_cases hlt : k < 256
    · obtain ⟨wo, rfl⟩ : ∃ wo : World, wo = wr := ⟨_, rfl⟩
      have hkI : (k : Int) < 256 := by omega
      have hfl : (Wd.fill tab k).length = 256 := by rw [Wd.fill_len, tab_len]
      have cR := hR.cell k (by rw [hfl]; exact hlt)
      have fR := hR.free k
      clear hfl
      go_wp2_with fail
      go_loopw [3, 9] (fun r j wr => ∃ (i x : Nat), j = .int .i64 i ∧ r = .int .u32 x ∧ i ≤ 8 ∧ x < 4294967296 ∧ Hid (Fr.stN (8 - i) x = Fr.stN 8 k) ∧ wr = wo) (fun _ j _ => 8 - (intOf j).toNat)
      case atStart => exact ⟨0, k, rfl, rfl, Nat.zero_le _, by omega, Lib.hid rfl, rfl⟩
      case round =>
        obtain ⟨i, x, rfl, rfl, hi, hx, hst, rfl⟩ := hrel
        by_cases hi8 : i < 8
        · have hiI : (i : Int) < 8 := by omega
          go_wp2_with fail
          refine (step_any x wr hx).mono ?_
          rintro e w1 ⟨rfl, rfl⟩
          go_wp2_with fail
          go_roundw
          case rel =>
            refine ⟨i + 1, Fr.st x, by go_num, rfl, by omega, Fr.st_lt hx, Lib.hid ?_, trivial⟩
            have := hst.out
            rw [show 8 - i = (8 - (i + 1)) + 1 by omega] at this
            exact this
          case measure => simp [intOf]; omega
        · have hiI : ¬ (i : Int) < 8 := by omega
          have hxs : x = Fr.stN 8 k := by
            have := hst.out
            rw [show 8 - i = 0 by omega] at this
            exact this
          have Hx := Lib.hid hxs
          clear hxs hst
          go_wp2_with fail
          go_roundw
          case rel =>
            refine ⟨k + 1, by go_num, by omega, ?_, ?_, ?_⟩
            · have := hR.set k x
              rw [← Wd.fill_set tab k (by rw [tab_len]; exact hlt), tab_get k hlt, ← Hx.out]
              exact this
            · unfold Wd.Bx
              rw [heap_setCell_other _ _ _ _ (by simp)]
              exact hB
            · exact hbel.setCell (p := ⟨w.heap.size + 1, k, none⟩) (by simp) _
          case measure => simp [intOf]; omega
    · have hkI : ¬ (k : Int) < 256 := by omega
      have hk256 : k = 256 := by omega
      have hR2 : wr.heap[w.heap.size + 1]? = some (.cells (tab.map (Value.int .u32)).toArray 96 (0, 0)) := by
        have : Wd.Row wr (w.heap.size + 1) .u32 96 (Wd.fill tab tab.length) := by rw [tab_len, ← hk256]; exact hR
        rw [Wd.fill_all] at this
        exact this
      have hB2 : wr.heap[w.heap.size]? = some (.cells zc 96 (0, 0)) := hB
      rw [← Htc.out] at hR2
      clear hR hB hk256
      go_wp2_with fail
      refine wp_load_row 96 (.tmp 1) rfl (w.heap.size + 1) rfl 96 tc (0, 0) _ hR2 Try.underlying96 rfl (by rw [Hsz.out, Hts.out]) ?_
      rename_i hK
      refine hK _ _ ?_
      clear hK
      refine wpList_store_row rfl 96 (.tmp 0) (.tmp 18) rfl w.heap.size tc rfl rfl 96 zc hB2 (by rw [Hsz.out, Hts.out]) (by rw [Hzs.out, Hts.out]) Ht.out ?_
      go_wp2_with fail
      refine bodyPost_ret (v := .agg tc) (results_cell_row rfl _ _ w.heap.size 96 tc (0, 0) _ rfl (setRow_heap wr w.heap.size zc tc _ _ hB2) Try.underlying96 rfl (by rw [Hsz.out, Hts.out])) rfl ⟨rfl, below_setRow hbel (Nat.le_refl _) tc⟩
end Fc
end Go.Proofs.Ytljgalleiemaaaa
namespace Go.Proofs.Ytljgalleiemaaaa
open Go.RowKit
namespace Fc

/-- Block g is the array of effects. -/
def Tb (w : World) (g : Nat) : Prop := Wd.Row w g .u32 96 tab
theorem byt_get {b : List Int} (h : Nm.Byt b) (k : Nat) (hk : k < b.length) : 0 ≤ b.getD k 0 ∧ b.getD k 0 ≤ 255 := h _ (by simp [List.getD, hk])
theorem take_next (l : List Int) (k : Nat) (h : k < l.length) : l.take (k + 1) = l.take k ++ [l.getD k 0] := by
  rw [List.take_succ_eq_append_getElem h]
  simp [List.getD, h]
theorem xor_byte (x : Nat) (c : Int) (h0 : 0 ≤ c) (h1 : c ≤ 255) : bits BinOp.xor IntKind.u8 ((x : Int) % 256) c = ((x % 256 ^^^ c.toNat : Nat) : Int) ∧ x % 256 ^^^ c.toNat < 256 := by
  have e : ((x : Int) % 256) = ((x % 256 : Nat) : Int) := by omega
  refine ⟨?_, Fr.xor_lt (n := 8) (by omega) (by omega)⟩
  rw [e, u8_xor _ _ (by omega) (by omega) h0 (by omega)]
  rfl

set_option maxHeartbeats 1000000 in
theorem sum_any (g : Nat) (A : Option Addr) (n c : Nat) (b : List Int) (w : World) (hT : Tb w g) (hS : Wd.Sl w .u8 A n c b) (hB : Nm.Byt b) :
    Calls Try.prog 52 #[.pointer (some ⟨g, 0, none⟩), .slice A n c] w fun e w' => e = .returned (.int .u32 (Fr.sum b)) ∧ w = w' := by
  obtain ⟨hl, hc, hx, hA, hr⟩ := hS
  unfold maxLen at hx
  have Hl := Lib.hid hl
  have HB := Lib.hid hB
  have HT := Lib.hid hT
  clear hl hB hT
  go_enter Try.func52, Try.ntmps52
  go_wp2
  go_loop [5, 10] (fun r i => ∃ (k x : Nat), i = .int .i64 k ∧ r = .int .u32 x ∧ k ≤ n ∧ x < 4294967296 ∧ Hid (Fr.reg 4294967295 (b.take k) = x)) (fun _ i => n - (intOf i).toNat)
  case atStart => exact ⟨0, 4294967295, rfl, rfl, Nat.zero_le _, by decide, Lib.hid rfl⟩
  case round =>
    obtain ⟨k, x, rfl, rfl, hk, hxl, hR⟩ := hrel
    by_cases hlt : k < n
    · have hlt' : k < b.length := by rw [← Hl.out]; exact hlt
      obtain ⟨B, o, rfl, _, hcell⟩ := hr k hlt'
      obtain ⟨q0, q1⟩ := byt_get HB.out k hlt'
      have hnx := take_next b k hlt'
      obtain ⟨y, hy⟩ : ∃ y, y = b.getD k 0 := ⟨_, rfl⟩
      rw [← hy] at hcell q0 q1 hnx
      obtain ⟨e1, e2⟩ := xor_byte x y q0 q1
      obtain ⟨j, hj⟩ : ∃ j, j = x % 256 ^^^ y.toNat := ⟨_, rfl⟩
      rw [← hj] at e1 e2
      have hct := HT.out.cell j (by rw [tab_len]; exact e2)
      rw [tab_get j e2] at hct
      have Hj := Lib.hid hj
      have Hn := Lib.hid hnx
      have e2' : (j : Int) < 256 := by omega
      clear hy hj hnx
      have hst := Fr.stN_lt 8 (r := j) (by omega)
      have hX : bits BinOp.xor IntKind.u32 ((x : Int) / 256) ((Fr.stN 8 j : Nat) : Int) = ((Fr.bt x y.toNat : Nat) : Int) := by
        have := u32_xor_nat (x / 256) (Fr.stN 8 j) (by omega) (by omega)
        rw [Fr.bt_tab, ← Hj.out, ← this]
        rfl
      have hbt : Fr.bt x y.toNat < 4294967296 := Fr.bt_lt (by omega) (by omega)
      have HX := Lib.hid hX
      clear hX
      go_wp2
      rw [HX.out]
      refine ⟨⟨k + 1, _, by go_num, rfl, by omega, hbt, Lib.hid ?_⟩, by simp [intOf]; omega⟩
      rw [Hn.out, Fr.reg_snoc, hR.out]
    · have hkn : k = b.length := by rw [← Hl.out]; omega
      have hX : bits BinOp.xor IntKind.u32 IntKind.u32.max (x : Int) = ((Fr.sum b : Nat) : Int) := by
        have e1 : IntKind.u32.max = ((4294967295 : Nat) : Int) := by decide
        have h := hR.out
        rw [hkn, List.take_length] at h
        rw [e1, u32_xor_nat _ _ (by decide) hxl, Nat.xor_comm, Fr.sum_xor b HB.out, h]
      have HX := Lib.hid hX
      clear hX hkn
      go_wp2
      go_ret
      exact ⟨congrArg (fun z => Ending.returned (.int .u32 z)) HX.out, rfl⟩

theorem le4_get (s k : Nat) (hk : k < 4) : (Fr.le4 s).getD k 0 = ((s / 256 ^ k % 256 : Nat) : Int) := by
  rcases (show k = 0 ∨ k = 1 ∨ k = 2 ∨ k = 3 by omega) with rfl | rfl | rfl | rfl <;> simp [Fr.le4]

set_option maxHeartbeats 1000000 in
theorem tail_any (g : Nat) (A : Option Addr) (n c : Nat) (b : List Int) (w : World) (hT : Tb w g) (hS : Wd.Sl w .u8 A n c b) (hB : Nm.Byt b) :
    Calls Try.prog 46 #[.pointer (some ⟨g, 0, none⟩), .slice A n c] w (Wd.Out w .u8 (Fr.le4 (Fr.sum b))) := by
  have hgl := hT.lt
  have C := Lib.hid fun (w' : World) (hb : Below w.heap.size w w') => sum_any g A n c b w' (hT.below hgl hb) (hS.below hb) hB
  have hsl := Fr.sum_lt b
  generalize Fr.sum b = s at *
  have hmk : ∀ w : World, (Instr.makeSlice 39 (.int .i64 4) (.int .i64 4)).run Try.prog w = .ok (.slice (some ⟨w.heap.size, 0, none⟩) 4 4) (w.alloc (.cells #[.int .u8 0, .int .u8 0, .int .u8 0, .int .u8 0] 5)) := fun _ => by kernel_rfl
  clear hT hS hB hgl
  go_enter Try.func46, Try.ntmps46
  go_upto_region 1 with fail
  go_cut [5, 6] (fun u v wx => u = .slice (some ⟨w.heap.size, 0, none⟩) 4 4 ∧ v = .int .u32 (s : Int) ∧ Wd.Row wx w.heap.size .u8 5 [0, 0, 0, 0] ∧ Below w.heap.size w wx)
  case first =>
    go_region_with (first | (go_at_call 52; refine (C.out _ (by first | exact (Below.refl _ _).drew | exact ((Below.refl _ _).alloc (Nat.le_refl _) _).drew)).mono ?_; rintro e w2 ⟨rfl, rfl⟩))
    all_goals (go_wp2_with fail; go_meet; exact ⟨rfl, rfl, heap_alloc_new w _, ((Below.refl _ _).alloc (Nat.le_refl _) _).drew⟩)
  case rest =>
    obtain ⟨rfl, rfl, hR, hb⟩ := hcut
    have hR0 := (show Wd.Row _ w.heap.size .u8 5 (Wd.fill (Fr.le4 s) 0) from hR)
    clear hR hmk C
    go_wp2_with fail
    go_loopw [6, 14] (fun r i wr => ∃ k : Nat, i = .int .i64 k ∧ k ≤ 4 ∧ r = .int .u32 ((s / 256 ^ k : Nat) : Int) ∧ Wd.Row wr w.heap.size .u8 5 (Wd.fill (Fr.le4 s) k) ∧ Below w.heap.size w wr) (fun _ i _ => 4 - (intOf i).toNat)
    case atStart => exact ⟨0, rfl, Nat.zero_le _, by simp, hR0, hb⟩
    case round =>
      clear hR0 hb
      obtain ⟨k, rfl, hk, rfl, hR, hb⟩ := hrel
      by_cases hlt : k < 4
      · have hfl : (Wd.fill (Fr.le4 s) k).length = 4 := by rw [Wd.fill_len]; rfl
        have cR := hR.cell k (by rw [hfl]; exact hlt)
        have fR := hR.free k
        have hkI : (k : Int) < 4 := by omega
        obtain ⟨y, hy⟩ : ∃ y : Nat, y = s / 256 ^ k := ⟨_, rfl⟩
        have hyl : y < 4294967296 := by
          have := Nat.div_le_self s (256 ^ k)
          omega
        have hnx : y / 256 = s / 256 ^ (k + 1) := by rw [hy, Nat.div_div_eq_div_mul, Nat.pow_succ]
        have hst := Wd.fill_set (Fr.le4 s) k hlt
        rw [le4_get s k hlt, ← hy] at hst
        rw [← hy]
        have Hn := Lib.hid hnx
        have Hs := Lib.hid hst
        clear hy hnx hst hfl
        go_wp2_with fail
        go_roundw
        case rel =>
          refine ⟨k + 1, by go_num, by omega, ?_, ?_, hb.setCell (p := ⟨w.heap.size, k, none⟩) (Nat.le_refl _) _⟩
          · rw [← Hn.out]; rfl
          · have := hR.set k ((y : Int) % 256)
            rw [← Hs.out]
            exact this
        case measure => simp [intOf]; omega
      · have hR4 : Wd.Row wr w.heap.size .u8 5 (Fr.le4 s) := by
          have : Wd.Row wr w.heap.size .u8 5 (Wd.fill (Fr.le4 s) (Fr.le4 s).length) := by
            have e : k = (Fr.le4 s).length := by show k = 4; omega
            rw [← e]; exact hR
          rw [Wd.fill_all] at this
          exact this
        clear hR
        go_wp2_with fail
        go_ret
        exact ⟨_, _, _, rfl, hR4.sl 4 rfl (by simp [maxLen]), hb⟩

end Fc
end Go.Proofs.Ytljgalleiemaaaa
namespace Go.Proofs.Ytljgalleiemaaaa
open Go.RowKit
namespace Fc
open Nc

set_option maxRecDepth 100000 in
set_option maxHeartbeats 1000000 in
theorem Seal_any (A : Option Addr) (n c : Nat) (b : List Int) (w : World) (hS : Wd.Sl w .u8 A n c b) (hB : Nm.Byt b) (hn : n ≤ 65536) :
    Calls Try.prog 39 #[.slice A n c] w (Wd.Out2 w .u8 (Fr.frame b) 0) := by
  obtain ⟨i0, hi, hz0, hz1, hz2⟩ := info_parts info_u8
  obtain ⟨hz, hsz⟩ := zero_of_info info_eff
  obtain ⟨zc, hzc⟩ : ∃ zc : Array Value, zc = Array.replicate 256 (Value.int .u32 0) := ⟨_, rfl⟩
  rw [← hzc] at hz
  have hzs : zc.size = 256 := by rw [hzc]; exact Array.size_replicate
  have C1 := newEffects_any w
  obtain ⟨tc, htc⟩ : ∃ tc : Array Value, tc = (tab.map (Value.int .u32)).toArray := ⟨_, rfl⟩
  have hts : tc.size = 256 := by rw [htc, List.size_toArray, List.length_map, tab_len]
  have ht1 : tc.all (·.oneCell') = true := by rw [htc]; exact ints_all _ _
  rw [← htc] at C1
  have hsc := fun w : World => run_storeCells_new (P := Try.prog) w 96 zc tc (by rw [hsz, hts]) (by rw [hzs, hts]) ht1
  have hl := hS.len
  have hvl := Nm.vd_len (b.length : Int)
  have HC1 := Lib.hid C1
  have Hl := Lib.hid hl
  have C2 := fun w' => putLen0_own (n : Int) w' (by omega) (by omega)
  have hfr : Fr.frame b = (Nm.vd (n : Int) ++ b) ++ Fr.le4 (Fr.sum b) := by rw [hl]; rfl
  rw [← hl] at hvl
  have HC2 := Lib.hid C2
  have Hfr := Lib.hid hfr
  have HS := Lib.hid hS
  have HB := Lib.hid hB
  have Htc := Lib.hid htc
  have hcn := hS.cap
  have hmx := hS.max
  have hnil := Lib.hid hS.nil
  unfold maxLen at hmx
  clear C1 C2 htc ht1 hzs hzc hsz hl hfr hS hB
  generalize Nm.vd (n : Int) = vs at *
  go_enter Try.func39, Try.ntmps39
  go_wp2_with fail
  refine HC1.out.mono ?_
  rintro e w1 ⟨rfl, hb1⟩
  have hb2 : Below w.heap.size w (w1.alloc (.cells tc 96)) := hb1.alloc hb1.size _
  have hT2 : Tb (w1.alloc (.cells tc 96)) w1.heap.size := by rw [Htc.out]; exact heap_alloc_new w1 _
  clear HC1
  go_wp2_with fail
  generalize hw2 : w1.alloc (.cells tc 96) = w2 at hb2 hT2 ⊢
  have hg2 := hT2.lt
  refine (HC2.out w2).mono ?_
  rintro e w3 ⟨v3, rfl, hO3, hb3⟩
  clear hw2 HC2
  have hW3 : Below w.heap.size w w3 := hb2.trans (hb3.mono hb2.size)
  have hS3 := HS.out.below hW3
  go_wp2_with (at_builtin; refine Wd.wpList_app _ rfl (.tmp 12) (.tmp 13) 39 rfl w2.heap.size 5 i0 _ .u8 1 Try.underlying39 hi hz0 hz1 hz2 rfl v3 vs rfl hO3 w3.heap.size A n c b rfl Hl.out hnil.out hS3.rd (by rw [← Hl.out]; omega) (by rw [← Hl.out]; unfold maxLen; omega) hb3.size ?_; intro v4 w4 hO4 hg4)
  have hb4 : Below w2.heap.size w2 w4 := hb3.grown hg4 hb3.size fun g hg => (hO3.lt g hg).1
  have hW4 : Below w.heap.size w w4 := hb2.trans (hb4.mono hb2.size)
  clear hO3 hg4 hb3 hW3 hS3
  refine (tail_any w1.heap.size A n c b w4 (hT2.below hg2 hb4) (HS.out.below hW4) HB.out).mono ?_
  rintro e w5 ⟨A5, n5, c5, rfl, hS5, hb5⟩
  have hO5 := Wd.own_below hO4 hb5
  have hb25 : Below w2.heap.size w2 w5 := hb4.trans (hb5.mono hb4.size)
  have hs5 := hb25.size
  clear hO4 hb4 hW4 hb5
  have hvb : (vs ++ b).length ≤ 65546 := by rw [List.length_append, ← Hl.out]; omega
  have h4 : (Fr.le4 (Fr.sum b)).length = 4 := rfl
  generalize Fr.le4 (Fr.sum b) = qs at *
  have Hn5 := Lib.hid hS5.len
  go_wp2_with (at_builtin; refine Wd.wpList_app _ rfl (.tmp 15) (.tmp 17) 39 rfl w2.heap.size 5 i0 _ .u8 1 Try.underlying39 hi hz0 hz1 hz2 rfl v4 (vs ++ b) rfl hO5 w5.heap.size A5 n5 c5 qs rfl Hn5.out hS5.nil hS5.rd (by omega) (by unfold maxLen; omega) hs5 ?_; intro v6 w6 hO6 hg6)
  go_ret2
  obtain ⟨A6, n6, c6, rfl, hS6⟩ := Wd.Sl.of_own hO6
  rw [Hfr.out]
  exact ⟨A6, n6, c6, rfl, hS6, hb2.trans ((hb25.grown hg6 hb25.size fun g hg => (hO5.lt g hg).1).mono hb2.size)⟩

theorem Seal_long (A : Option Addr) (n c : Nat) (w : World) (hn : 65536 < n) :
    Calls Try.prog 39 #[.slice A n c] w fun e w' => e = .returned (.tuple #[.slice none 0 0, .int .i64 2]) ∧ w = w' := by
  have hn' : (65536 : Int) < (n : Int) := by omega
  go_enter Try.func39, Try.ntmps39
  go_wp2_with fail
  go_ret2
  exact ⟨rfl, rfl⟩
end Fc
end Go.Proofs.Ytljgalleiemaaaa
