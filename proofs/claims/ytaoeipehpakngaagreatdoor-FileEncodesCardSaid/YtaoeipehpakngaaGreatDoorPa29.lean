/- A row of columns of the call's own that grows, known whole with its spare room. What value.Get does: getInt, getStr, getBool, Get. -/
import Derived.WalkKit
import Derived.WalkSpells
import Derived.Lib.Hide
import Derived.IntWalk
import Derived.Maps.AppendAt
import Derived.Laws.BytesArg
import Derived.BigRegion
import Derived.Test.YtaoeipehpakngaaGreatDoorPa07
import Derived.Test.YtaoeipehpakngaaGreatDoorPa06
import Derived.Test.YtaoeipehpakngaaGreatDoorPa25
namespace Go.Proofs.YtaoeipehpakngaaGreatDoor
set_option maxRecDepth 20000
open Go.RowKit Go.Maps
namespace Wd
open Va (Vl null)
def OwC (w : World) (B : Nat) (v : Value) (L : List Cr) : Prop :=
  (v = .slice none 0 0 ∧ L = []) ∨ ∃ g cap, v = .slice (some ⟨g, 0, none⟩) L.length cap ∧ B ≤ g ∧ L.length ≤ cap ∧ cap ≤ maxLen ∧ Bx w g 57 (flatC (L ++ List.replicate (cap - L.length) default)).toArray
theorem OwC.nil (w : World) (B : Nat) : OwC w B (.slice none 0 0) [] := .inl ⟨rfl, rfl⟩
theorem OwC.block {w : World} {B : Nat} {v : Value} {L : List Cr} (h : OwC w B v L) {g : Nat} (hg : v.ownBlock = some g) : B ≤ g ∧ ∃ M, Bx w g 57 (flatC M).toArray := by
  rcases h with ⟨rfl, -⟩ | ⟨g', cap, rfl, h1, _, _, h2⟩
  · cases hg
  · cases hg
    exact ⟨h1, _, h2⟩
theorem OwC.keep {w w' : World} {B : Nat} {v : Value} {L : List Cr} {G : Nat → Prop} (h : OwC w B v L) (mv : Mv G w w') (hn : ∀ g, v.ownBlock = some g → ¬ G g) : OwC w' B v L := by
  rcases h with ⟨rfl, h⟩ | ⟨g, cap, rfl, h1, h2, h3, h4⟩
  · exact .inl ⟨rfl, h⟩
  · exact .inr ⟨g, cap, rfl, h1, h2, h3, (mv.keep g h4.lt (hn g rfl)).trans h4⟩
theorem OwC.below {w w' : World} {B : Nat} {v : Value} {L : List Cr} (h : OwC w B v L) (hb : Below w.heap.size w w') : OwC w' B v L := h.keep (Mv.of_below (G := fun _ => False) hb) fun _ _ z => z
theorem OwC.cms {w : World} {B : Nat} {A : Option Addr} {n c : Nat} {L : List Cr} (h : OwC w B (.slice A n c) L) (h1 : ∀ j, j < L.length → Cr1 w (L.getD j default)) : Cms w A n c L := by
  rcases h with ⟨e, rfl⟩ | ⟨g, cap, e, h2, h3, h4, h5⟩
  · cases e
    exact Cms.none_ _
  · cases e
    refine ⟨rfl, h3, h4, by simp, fun j hj => ⟨g, 0, rfl, h5.lt, fun i v hv => ?_, h1 j hj⟩⟩
    rw [Nat.zero_add, h5.cell, List.getElem?_toArray]
    refine flatC_get _ j (by simp; omega) i v ?_
    have e : (L ++ List.replicate (c - L.length) default).getD j default = L.getD j default := by simp only [List.getD]; rw [List.getElem?_append_left hj]
    rw [e]
    exact hv
theorem flatC_nos (L : List Cr) : ∀ v ∈ flatC L, ∀ x, v ≠ .string x := by
  intro v hv x
  obtain ⟨o, _, h⟩ := List.mem_flatMap.1 hv
  simp only [Cr.vals, List.mem_cons, List.not_mem_nil, or_false] at h
  rcases h with rfl | rfl | rfl <;> simp
theorem Cr1.keep {w w' : World} {o : Cr} {G : Nat → Prop} (h : Cr1 w o) (mv : Mv G w w') (hG : ∀ g, G g → ∃ (t : TypeId) (cs : List Value), Bx w g t cs.toArray ∧ (∀ v ∈ cs, ∀ x, v ≠ .string x) ∧ ∀ v ∈ cs, ∀ x, v ≠ .int .u8 x) : Cr1 w' o :=
  ⟨h.dict.keep mv fun a ha hn q => by
    obtain ⟨t, cs, hb, h1, _⟩ := hG _ q
    exact h.dict.apart hb h1 a ha hn rfl, h.ids.keep mv fun a ha hn q => by
    obtain ⟨t, cs, hb, _, h2⟩ := hG _ q
    exact h.ids.apart hb h2 a ha hn rfl, h.byt, h.n0, h.n1, h.str⟩
theorem Cr1.grown {w w' : World} {B : Nat} {v : Value} {L : List Cr} {o : Cr} (h : Cr1 w o) (k : OwC w B v L) (hg : w.grownBy w' v.ownBlock) : Cr1 w' o :=
  h.keep (Mv.of_grown (G := fun x => v.ownBlock = some x) hg fun _ e => e) fun g q => by
    obtain ⟨_, M, hb⟩ := k.block q
    exact ⟨_, _, hb, flatC_nos M, flatC_no M⟩
theorem zeros_col (n : Nat) : (Builtin.zeroCells (Value.agg #[.int .i64 0, .slice none 0 0, .slice none 0 0]).cells n).toList = flatC (List.replicate n default) := made_col n
theorem Cr.vals_one (o : Cr) : ∀ u ∈ o.vals, u.oneCell' = true := by
  intro u hu
  simp only [Cr.vals, List.mem_cons, List.not_mem_nil, or_false] at hu
  rcases hu with rfl | rfl | rfl <;> rfl
theorem flatC_repl (k : Nat) : flatC (List.replicate (k + 1) default) = (default : Cr).vals ++ flatC (List.replicate k default) := by
  rw [List.replicate_succ]
  rfl
set_option maxHeartbeats 2000000 in
theorem run_appC (w : World) (ty : TypeId) (B : Nat) (v : Value) (L : List Cr) (hown : OwC w B v L) (ad : Addr) (o : Cr) (hc : ∀ j u, o.vals[j]? = some u → w.cell? (ad.add j) = some u) (hL : L.length ≤ 1000000) (hB : B ≤ w.heap.size) :
    ∃ A c w', (Builtin.append_ #[26, 26] ty #[v, .slice (some ad) 1 1]).run Tryz.prog w = .ok (.slice A (L.length + 1) c) w' ∧ OwC w' B (.slice A (L.length + 1) c) (L ++ [o]) ∧ w.grownBy w' v.ownBlock := by
  obtain ⟨i0, hi, hz0, hz1, hz2⟩ := info_parts info_col
  have hsz : (L ++ [o]).length = L.length + 1 := by simp
  have hvs : o.vals.length = 1 * i0.size := by rw [hz1]; rfl
  -- what growing leaves
  have grown : ∀ (old : Nat), B ≤ w.heap.size → OwC (w.drew.alloc (.cells ((flatC L).toArray ++ o.vals.toArray ++ Builtin.zeroCells (Value.agg #[.int .i64 0, .slice none 0 0, .slice none 0 0]).cells (grownCap w (L.length + 1) old 57 - (L.length + 1))) 57)) B (.slice (some ⟨w.heap.size, 0, none⟩) (L.length + 1) (grownCap w (L.length + 1) old 57)) (L ++ [o]) := by
    intro old hb
    refine .inr ⟨w.heap.size, grownCap w (L.length + 1) old 57, by rw [hsz], hb, by rw [hsz]; exact grownCap_ge _ _ _ _, grownCap_le_maxLen w _ _ _ (by unfold maxLen; omega), ?_⟩
    rw [hsz, flatC_app, flatC_app, flatC_one]
    have e : (flatC L).toArray ++ o.vals.toArray ++ Builtin.zeroCells (Value.agg #[.int .i64 0, .slice none 0 0, .slice none 0 0]).cells (grownCap w (L.length + 1) old 57 - (L.length + 1)) = (flatC L ++ o.vals ++ flatC (List.replicate (grownCap w (L.length + 1) old 57 - (L.length + 1)) default)).toArray := by
      apply Array.ext'
      rw [Array.toList_append, Array.toList_append, zeros_col]
    rw [e]
    exact Bx.new w.drew _ _
  have grb : ∀ (o' : Obj) (row : Option Nat), w.grownBy (w.drew.alloc o') row := fun o' row => ⟨rfl, rfl, rfl, by simp, fun k hk _ => Below.heap_alloc w.drew _ k hk⟩
  rcases hown with ⟨rfl, rfl⟩ | ⟨g, cap, rfl, h1, h2, h3, h4⟩
  · have hr := run_append_nil (P := Tryz.prog) w 26 ty 57 i0 _ Tryz.underlying26 hi hz0 ad 1 1 o.vals hvs hc (by omega) (by omega) (by rw [hz2]; omega)
    have := grown 0 hB
    simp only [List.length_nil, Nat.zero_add] at this
    refine ⟨_, _, _, hr, ?_, grb _ _⟩
    simpa [flatC] using this
  · by_cases hroom : L.length + 1 ≤ cap
    · obtain ⟨q, hq⟩ : ∃ q, cap - L.length = q + 1 := ⟨cap - L.length - 1, by omega⟩
      have hb : w.heap[g]? = some (.cells (flatC (L ++ List.replicate (cap - L.length) default)).toArray 57 (0, 0)) := h4
      have hr := run_append_room (P := Tryz.prog) w 26 ty 57 i0 Tryz.underlying26 hi g L.length cap _ hb ad 1 1 o.vals hvs hc o.vals_one hroom (by
        rw [hz1]
        simp only [List.size_toArray, flatC_len, List.length_append, List.length_replicate, Cr.vals, List.length_cons, List.length_nil]
        omega)
      refine ⟨_, _, _, hr, .inr ⟨g, cap, by rw [hsz], h1, by rw [hsz]; exact hroom, h3, ?_⟩, ⟨rfl, rfl, rfl, by simp, fun k _ hk => setRow_other w g k _ (fun e => hk (by simp [Value.ownBlock, e]))⟩⟩
      have := setRow_heap w g _ (List.take (L.length * i0.size) (flatC (L ++ List.replicate (cap - L.length) default)).toArray.toList ++ o.vals ++ List.drop (L.length * i0.size + o.vals.length) (flatC (L ++ List.replicate (cap - L.length) default)).toArray.toList).toArray _ _ hb
      unfold Bx
      rw [this]
      congr 3
      rw [hz1, hsz, show cap - (L.length + 1) = q by omega, hq, flatC_app, flatC_app, flatC_app, flatC_one, flatC_repl]
      have hl3 : (flatC L).length = L.length * 3 := flatC_len L
      rw [← hl3, List.take_left, ← List.append_assoc, show (flatC L).length + o.vals.length = (flatC L ++ (default : Cr).vals).length by simp [Cr.vals], List.drop_left]
    · have holds : ∀ j u, (flatC L)[j]? = some u → w.cell? ((⟨g, 0, none⟩ : Addr).add j) = some u := fun j u hu => by
        rw [Addr.add_lit, Nat.zero_add, h4.cell, List.getElem?_toArray, flatC_app, List.getElem?_append_left (List.getElem?_eq_some_iff.1 hu).1]
        exact hu
      have hr := run_append_grow (P := Tryz.prog) w 26 ty 57 i0 _ Tryz.underlying26 hi hz0 ⟨g, 0, none⟩ L.length cap (flatC L) (by rw [hz1]; exact flatC_len L) holds ad 1 1 o.vals hvs hc (by omega) (by omega) (growslice_fits (by omega) (by rw [hz2]; omega))
      exact ⟨_, _, _, hr, grown cap hB, grb _ _⟩
theorem wpList_appC (w : World) {ops : Array Oper} {rest : List Oper} {o : Oper} {a : Act} {Q : Exit → Act → World → Prop} (hgd : o.guard = none) (s x : Operand)
    (ho : o.op = .call { callee := .builtin .append, args := #[s, x], argTypes := #[26, 26] })
    (B : Nat) (v : Value) (L : List Cr) (hs : a.eval s = v) (hown : OwC w B v L) (ad : Addr) (y : Cr) (hx : a.eval x = .slice (some ad) 1 1) (hc : ∀ j u, y.vals[j]? = some u → w.cell? (ad.add j) = some u) (hL : L.length ≤ 1000000) (hB : B ≤ w.heap.size)
    (h : ∀ A c w', OwC w' B (.slice A (L.length + 1) c) (L ++ [y]) → w.grownBy w' v.ownBlock → wpList Tryz.prog ops Q rest (a.put o.dst (.slice A (L.length + 1) c)) w') : wpList Tryz.prog ops Q (o :: rest) a w := by
  refine wpList_plain hgd fun K hK => ?_
  obtain ⟨A, c, w', hrun, h2, h3⟩ := run_appC w o.type B v L hown ad y hc hL hB
  unfold Oper.wp
  simp [execOp, ho, resolve, invoke, builtin, hs, hx, hrun, Result.andThen]
  exact hK _ _ (h A c w' h2 h3)
end Wd
end Go.Proofs.YtaoeipehpakngaaGreatDoor
namespace Go.Proofs.YtaoeipehpakngaaGreatDoor
set_option maxRecDepth 20000
open Go.RowKit
namespace Vc
open Va Nc
def ansV (r : Vl × Int × Int) : Value := .tuple #[.agg #[.int .i64 r.1.kind, .int .i64 r.1.i, .string r.1.s, .bool r.1.b], .int .i64 r.2.1, .int .i64 r.2.2]
theorem ansV_null (e : Int) : ansV (null, 0, e) = .tuple #[.agg #[.int .i64 0, .int .i64 0, .string ⟨#[]⟩, .bool false], .int .i64 0, .int .i64 e] := rfl
theorem str_of {W : World} {A : Option Addr} {n c : Nat} {ys : List Int} (h : Wd.Sl W .u8 A n c ys) (b o : Nat) (hA : A = some ⟨b, o, none⟩) :
    (convert 32 9 (.slice (some ⟨b, o, none⟩) n c)).run Tryz.prog W = .ok (.string (strOfNums ys)) W := by
  subst hA
  refine run_convert_bytes_arg W 32 5 Tryz.underlying32 Tryz.underlying5 b o n c ys h.len.symm (fun i hi => ?_) 9 Tryz.underlying9
  obtain ⟨b', o', e, _, hc⟩ := h.rd i (by rw [← h.len]; exact hi)
  simp only [Option.some.injEq, Addr.mk.injEq, and_true] at e
  obtain ⟨rfl, rfl⟩ := e
  exact hc
set_option maxHeartbeats 1000000 in
theorem getInt_any (A : Option Addr) (n c : Nat) (bs : List Int) (w : World) (hS : Wd.Sl w .u8 A n c bs) (hB : Nm.Byt bs) :
    Calls Tryz.prog 259 #[.slice A n c] w fun e w' => e = .returned (ansV (Va.get bs 1)) ∧ Below w.heap.size w w' := by
  have hb1 := (Below.refl w.heap.size w).alloc (Nat.le_refl _) (.cells #[.int .i64 0, .int .i64 0, .string ⟨#[]⟩, .bool false] 47)
  have c1 := get_any A n c bs _ (hS.below hb1) hB
  obtain ⟨m, k, er, hg⟩ : ∃ m k er, Nm.getI bs = (m, k, er) := ⟨_, _, _, rfl⟩
  have hr : Va.get bs 1 = if er = 0 then (⟨1, m, ⟨#[]⟩, false⟩, k, 0) else (null, 0, er) := by
    unfold Va.get
    rw [if_neg (by decide), if_pos rfl, hg]
  rw [hg] at c1
  rw [hr]
  have C1 := Lib.hid c1
  clear hr hg c1
  by_cases he : er = 0
  · subst he
    rw [if_pos rfl]
    go_enter Tryz.func259, Tryz.ntmps259
    go_wp2_with fail
    refine C1.out.mono ?_
    rintro e w1 ⟨rfl, rfl⟩
    unfold three
    go_wp2_with fail
    (try simp only [Exit.inBlock, Exit.then])
    refine bodyPost_ret (v := ansV (⟨1, m, ⟨#[]⟩, false⟩, k, 0)) ?_ rfl ⟨rfl, ?_⟩
    · unfold ansV; rw [res_cell3 rfl]; go_simp
    · repeat' (first | exact Below.refl _ _ | refine Below.setCell ?_ (by simp <;> omega) _ | refine Below.alloc ?_ (by simp <;> omega) _)
  · rw [if_neg he]
    have he' : (er != 0) = true := by simpa using he
    go_enter Tryz.func259, Tryz.ntmps259
    go_wp2_with fail
    refine C1.out.mono ?_
    rintro e w1 ⟨rfl, rfl⟩
    unfold three
    go_wp2_with fail
    (try simp only [Exit.inBlock, Exit.then])
    refine bodyPost_ret (v := ansV (null, 0, er)) ?_ rfl ⟨rfl, ?_⟩
    · rw [ansV_null, res_cell3 rfl]; go_simp
    · repeat' (first | exact Below.refl _ _ | refine Below.setCell ?_ (by simp <;> omega) _ | refine Below.alloc ?_ (by simp <;> omega) _)
theorem getBool_any (A : Option Addr) (n c : Nat) (bs : List Int) (w : World) (hS : Wd.Sl w .u8 A n c bs) (hB : Nm.Byt bs) :
    Calls Tryz.prog 261 #[.slice A n c] w fun e w' => e = .returned (ansV (Va.get bs 3)) ∧ Below w.heap.size w w' := by
  have hb1 := (Below.refl w.heap.size w).alloc (Nat.le_refl _) (.cells #[.int .i64 0, .int .i64 0, .string ⟨#[]⟩, .bool false] 47)
  have hl := hS.len
  cases bs with
  | nil =>
    have hr : Va.get [] 3 = (null, 0, 6) := rfl
    rw [hr]
    simp only [List.length_nil] at hl
    subst hl
    go_enter Tryz.func261, Tryz.ntmps261
    go_wp2_with fail
    (try simp only [Exit.inBlock, Exit.then])
    refine bodyPost_ret (v := ansV (null, 0, 6)) ?_ rfl ⟨rfl, ?_⟩
    · rw [ansV_null, res_cell3 rfl]; go_simp
    · repeat' (first | exact Below.refl _ _ | refine Below.setCell ?_ (by simp <;> omega) _ | refine Below.alloc ?_ (by simp <;> omega) _)
  | cons x r =>
    have hr : Va.get (x :: r) 3 = if 1 < x then (null, 0, 7) else (⟨3, 0, ⟨#[]⟩, x == 1⟩, 1, 0) := rfl
    rw [hr]
    obtain ⟨b, o, rfl, hbB, hcell0⟩ := hS.rd 0 (by simp)
    have hcell := (hb1.cell (p := ⟨b, o + 0, none⟩) hbB).trans hcell0
    simp only [Nat.add_zero, List.getD_cons_zero] at hcell
    have hn : 0 < n := by rw [hl]; simp
    have hnI : (0 : Int) < (n : Int) := by omega
    have hn0 : ((n : Int) == 0) = false := by simp; omega
    clear hl hr hcell0
    by_cases hx : 1 < x
    · rw [if_pos hx]
      go_enter Tryz.func261, Tryz.ntmps261
      go_wp2_with fail
      (try simp only [Exit.inBlock, Exit.then])
      refine bodyPost_ret (v := ansV (null, 0, 7)) ?_ rfl ⟨rfl, ?_⟩
      · rw [ansV_null, res_cell3 rfl]; go_simp
      · repeat' (first | exact Below.refl _ _ | refine Below.setCell ?_ (by simp <;> omega) _ | refine Below.alloc ?_ (by simp <;> omega) _)
    · rw [if_neg hx]
      obtain ⟨q, hq⟩ : ∃ q, q = (x == 1) := ⟨_, rfl⟩
      rw [← hq]
      have hq' : (x == 1) = q := hq.symm
      clear hq
      go_enter Tryz.func261, Tryz.ntmps261
      go_wp2_with fail
      (try simp only [Exit.inBlock, Exit.then])
      refine bodyPost_ret (v := ansV (⟨3, 0, ⟨#[]⟩, q⟩, 1, 0)) ?_ rfl ⟨rfl, ?_⟩
      · unfold ansV; rw [res_cell3 rfl]; go_simp
      · repeat' (first | exact Below.refl _ _ | refine Below.setCell ?_ (by simp <;> omega) _ | refine Below.alloc ?_ (by simp <;> omega) _)
set_option maxHeartbeats 2000000 in
theorem getStr_any (A : Option Addr) (n c : Nat) (bs : List Int) (w : World) (hS : Wd.Sl w .u8 A n c bs) (hB : Nm.Byt bs) :
    Calls Tryz.prog 260 #[.slice A n c] w fun e w' => e = .returned (ansV (Va.get bs 2)) ∧ Below w.heap.size w w' := by
  have hb1 := (Below.refl w.heap.size w).alloc (Nat.le_refl _) (.cells #[.int .i64 0, .int .i64 0, .string ⟨#[]⟩, .bool false] 47)
  have hS1 := hS.below hb1
  have c1 := getLen_any A n c bs _ hS1 hB
  have hr : Va.get bs 2 = (if (Nm.getL bs).2.2 ≠ 0 then (null, 0, (Nm.getL bs).2.2) else if 64 < (Nm.getL bs).1 then (null, 0, 2)
     else if (bs.length : Int) < (Nm.getL bs).2.1 + (Nm.getL bs).1 then (null, 0, 6)
     else (⟨2, 0, strOfNums ((bs.drop (Nm.getL bs).2.1.toNat).take (Nm.getL bs).1.toNat), false⟩, (Nm.getL bs).2.1 + (Nm.getL bs).1, 0)) := by
    unfold Va.get
    rw [if_neg (by decide), if_neg (by decide), if_pos rfl]
  have hcap := hS.cap
  have hmx := hS.max
  have hl := hS.len
  unfold maxLen at hmx
  rw [hr]
  clear hr
  by_cases h0 : (Nm.getL bs).2.2 = 0
  · obtain ⟨k, l, hg, hk, hl1, ht⟩ := getL_ok hB h0
    rw [hg] at c1 ⊢
    have C1 := Lib.hid c1
    have hk1 : 1 ≤ k ∧ k ≤ 10 := by
      have := Nm.vd_len (l : Int)
      have q := congrArg List.length ht
      rw [List.length_take] at q
      omega
    obtain ⟨hk1, hk10⟩ := hk1
    have hkI : (k : Int) ≤ 10 := by omega
    have hkJ : (0 : Int) ≤ (k : Int) := by omega
    have hlJ : (0 : Int) ≤ (l : Int) := by omega
    clear c1 hg h0 ht
    simp only [ne_eq, not_true_eq_false, if_false, Int.toNat_natCast]
    by_cases h1 : 64 < (l : Int)
    · rw [if_pos h1]
      clear hS hS1 hB hl hcap hmx hb1
      go_enter Tryz.func260, Tryz.ntmps260
      go_wp2_with fail
      refine C1.out.mono ?_
      rintro e w1 ⟨rfl, rfl⟩
      unfold three
      go_wp2_with fail
      (try simp only [Exit.inBlock, Exit.then])
      refine bodyPost_ret (v := ansV (null, 0, 2)) ?_ rfl ⟨rfl, ?_⟩
      · rw [ansV_null, res_cell3 rfl]; go_simp
      · repeat' (first | exact Below.refl _ _ | refine Below.setCell ?_ (by simp <;> omega) _ | refine Below.alloc ?_ (by simp <;> omega) _)
    rw [if_neg h1]
    have hw : wrap64 ((k : Int) + (l : Int)) = (k : Int) + (l : Int) := by
      unfold wrap64
      omega
    by_cases h2 : (bs.length : Int) < (k : Int) + (l : Int)
    · rw [if_pos h2]
      have h2' : (n : Int) < (k : Int) + (l : Int) := by omega
      have hkn : (k : Int) ≤ (n : Int) := by omega
      clear hS hS1 hB hl hb1 h2
      go_enter Tryz.func260, Tryz.ntmps260
      go_wp2_with fail
      refine C1.out.mono ?_
      rintro e w1 ⟨rfl, rfl⟩
      unfold three
      go_wp2_with fail
      (try simp only [Exit.inBlock, Exit.then])
      refine bodyPost_ret (v := ansV (null, 0, 6)) ?_ rfl ⟨rfl, ?_⟩
      · rw [ansV_null, res_cell3 rfl]; go_simp
      · repeat' (first | exact Below.refl _ _ | refine Below.setCell ?_ (by simp <;> omega) _ | refine Below.alloc ?_ (by simp <;> omega) _)
    · rw [if_neg h2]
      have h2' : ¬ (n : Int) < (k : Int) + (l : Int) := by omega
      have h3 : (k : Int) ≤ (k : Int) + (l : Int) := by omega
      have h4 : (k : Int) + (l : Int) ≤ (c : Int) := by omega
      obtain ⟨b, o, rfl, -⟩ := hS.rd 0 (by omega)
      have hm := hS1.mid k (k + l) (by omega) (by omega)
      rw [show k + l - k = l by omega] at hm
      have Hl := Lib.hid hl
      clear hS hS1 hB hb1 h2 hl
      by_cases hc : c = k
      · subst hc
        obtain rfl : l = 0 := by omega
        rw [if_pos rfl, Nat.sub_self] at hm
        have hcv := str_of hm b o rfl
        obtain ⟨tt, htt⟩ : ∃ tt, tt = strOfNums ((bs.drop c).take 0) := ⟨_, rfl⟩
        rw [← htt] at hcv ⊢
        clear htt
        go_enter Tryz.func260, Tryz.ntmps260
        go_wp2_with fail
        refine C1.out.mono ?_
        rintro e w1 ⟨rfl, rfl⟩
        unfold three
        go_wp2_with fail
        (try simp only [Exit.inBlock, Exit.then])
        refine bodyPost_ret (v := ansV (⟨2, 0, tt, false⟩, (c : Int) + ((0 : Nat) : Int), 0)) ?_ rfl ⟨rfl, ?_⟩
        · unfold ansV; rw [res_cell3 rfl]; go_simp
        · repeat' (first | exact Below.refl _ _ | refine Below.setCell ?_ (by simp <;> omega) _ | refine Below.alloc ?_ (by simp <;> omega) _)
      · rw [if_neg hc, Option.map_some, Addr.add_lit] at hm
        have hcv := str_of hm b (o + k) rfl
        obtain ⟨tt, htt⟩ : ∃ tt, tt = strOfNums ((bs.drop k).take l) := ⟨_, rfl⟩
        rw [← htt] at hcv ⊢
        clear htt
        go_enter Tryz.func260, Tryz.ntmps260
        go_wp2_with fail
        refine C1.out.mono ?_
        rintro e w1 ⟨rfl, rfl⟩
        unfold three
        go_wp2_with fail
        (try simp only [Exit.inBlock, Exit.then])
        refine bodyPost_ret (v := ansV (⟨2, 0, tt, false⟩, (k : Int) + (l : Int), 0)) ?_ rfl ⟨rfl, ?_⟩
        · unfold ansV; rw [res_cell3 rfl]; go_simp
        · repeat' (first | exact Below.refl _ _ | refine Below.setCell ?_ (by simp <;> omega) _ | refine Below.alloc ?_ (by simp <;> omega) _)
  · obtain ⟨er, he⟩ : ∃ er, er = (Nm.getL bs).2.2 := ⟨_, rfl⟩
    have hg : Nm.getL bs = (0, 0, er) := by
      rw [he]
      unfold Nm.getL at h0 ⊢
      split
      · rename_i q
        rw [if_pos q] at h0
        split
        · rfl
        · rename_i q2; rw [if_neg q2] at h0; exact absurd rfl h0
      · rfl
    rw [hg] at c1 h0 ⊢
    rw [if_pos h0]
    have C1 := Lib.hid c1
    have he' : (er != 0) = true := by simpa using h0
    clear c1 hg he h0 hS hS1 hB hl hcap hmx hb1
    go_enter Tryz.func260, Tryz.ntmps260
    go_wp2_with fail
    refine C1.out.mono ?_
    rintro e w1 ⟨rfl, rfl⟩
    unfold three
    go_wp2_with fail
    (try simp only [Exit.inBlock, Exit.then])
    refine bodyPost_ret (v := ansV (null, 0, er)) ?_ rfl ⟨rfl, ?_⟩
    · rw [ansV_null, res_cell3 rfl]; go_simp
    · repeat' (first | exact Below.refl _ _ | refine Below.setCell ?_ (by simp <;> omega) _ | refine Below.alloc ?_ (by simp <;> omega) _)
set_option maxHeartbeats 2000000 in
theorem Get_any (A : Option Addr) (n c : Nat) (bs : List Int) (kind : Int) (w : World) (hS : Wd.Sl w .u8 A n c bs) (hB : Nm.Byt bs) :
    Calls Tryz.prog 243 #[.slice A n c, .int .i64 kind] w fun e w' => e = .returned (ansV (Va.get bs kind)) ∧ Below w.heap.size w w' := by
  have hb1 := (Below.refl w.heap.size w).alloc (Nat.le_refl _) (.cells #[.int .i64 0, .int .i64 0, .string ⟨#[]⟩, .bool false] 47)
  have v0 : Vb (w.alloc (.cells #[.int .i64 0, .int .i64 0, .string ⟨#[]⟩, .bool false] 47)) w.heap.size 0 0 ⟨#[]⟩ false := Wd.Bx.new w _ _
  by_cases k0 : kind = 0
  · subst k0
    rw [show Va.get bs 0 = (null, 0, 0) from rfl]
    clear hb1 v0 hS hB
    go_enter Tryz.func243, Tryz.ntmps243
    go_wp2_with fail
    (try simp only [Exit.inBlock, Exit.then])
    refine bodyPost_ret (v := ansV (null, 0, 0)) ?_ rfl ⟨rfl, ?_⟩
    · rw [ansV_null, res_cell3 rfl]; go_simp
    · repeat' (first | exact Below.refl _ _ | refine Below.setCell ?_ (by simp <;> omega) _ | refine Below.alloc ?_ (by simp <;> omega) _)
  by_cases k1 : kind = 1
  · subst k1
    have c1 := getInt_any A n c bs _ (hS.below hb1) hB
    obtain ⟨kk, ii, ss, bb, m, er, hg⟩ : ∃ kk ii ss bb m er, Va.get bs 1 = (⟨kk, ii, ss, bb⟩, m, er) := ⟨_, _, _, _, _, _, rfl⟩
    rw [hg] at c1 ⊢
    have C1 := Lib.hid c1
    clear c1 hg hS hB
    go_enter Tryz.func243, Tryz.ntmps243
    go_wp2_with fail
    refine C1.out.mono ?_
    rintro e w1 ⟨rfl, hB1⟩
    have v1 := v0.below (Wd.Bx.lt v0) hB1
    obtain ⟨⟨u0, u1, u2, u3⟩, f0, f1, f2, f3⟩ := four v1
    have hW1 := hb1.trans (hB1.mono hb1.size)
    clear v0 hB1 hb1 v1
    unfold ansV
    go_wp2_with fail
    (try simp only [Exit.inBlock, Exit.then])
    refine bodyPost_ret (v := ansV (⟨kk, ii, ss, bb⟩, m, er)) ?_ rfl ⟨rfl, ?_⟩
    · unfold ansV; rw [res_cell3 rfl]; go_simp
    · repeat' (first | exact hW1 | exact Below.refl _ _ | refine Below.setCell ?_ (by simp <;> omega) _ | refine Below.alloc ?_ (by simp <;> omega) _)
  by_cases k2 : kind = 2
  · subst k2
    have c1 := getStr_any A n c bs _ (hS.below hb1) hB
    obtain ⟨kk, ii, ss, bb, m, er, hg⟩ : ∃ kk ii ss bb m er, Va.get bs 2 = (⟨kk, ii, ss, bb⟩, m, er) := ⟨_, _, _, _, _, _, rfl⟩
    rw [hg] at c1 ⊢
    have C1 := Lib.hid c1
    clear c1 hg hS hB
    go_enter Tryz.func243, Tryz.ntmps243
    go_wp2_with fail
    refine C1.out.mono ?_
    rintro e w1 ⟨rfl, hB1⟩
    have v1 := v0.below (Wd.Bx.lt v0) hB1
    obtain ⟨⟨u0, u1, u2, u3⟩, f0, f1, f2, f3⟩ := four v1
    have hW1 := hb1.trans (hB1.mono hb1.size)
    clear v0 hB1 hb1 v1
    unfold ansV
    go_wp2_with fail
    (try simp only [Exit.inBlock, Exit.then])
    refine bodyPost_ret (v := ansV (⟨kk, ii, ss, bb⟩, m, er)) ?_ rfl ⟨rfl, ?_⟩
    · unfold ansV; rw [res_cell3 rfl]; go_simp
    · repeat' (first | exact hW1 | exact Below.refl _ _ | refine Below.setCell ?_ (by simp <;> omega) _ | refine Below.alloc ?_ (by simp <;> omega) _)
  by_cases k3 : kind = 3
  · subst k3
    have c1 := getBool_any A n c bs _ (hS.below hb1) hB
    obtain ⟨kk, ii, ss, bb, m, er, hg⟩ : ∃ kk ii ss bb m er, Va.get bs 3 = (⟨kk, ii, ss, bb⟩, m, er) := ⟨_, _, _, _, _, _, rfl⟩
    rw [hg] at c1 ⊢
    have C1 := Lib.hid c1
    clear c1 hg hS hB
    go_enter Tryz.func243, Tryz.ntmps243
    go_wp2_with fail
    refine C1.out.mono ?_
    rintro e w1 ⟨rfl, hB1⟩
    have v1 := v0.below (Wd.Bx.lt v0) hB1
    obtain ⟨⟨u0, u1, u2, u3⟩, f0, f1, f2, f3⟩ := four v1
    have hW1 := hb1.trans (hB1.mono hb1.size)
    clear v0 hB1 hb1 v1
    unfold ansV
    go_wp2_with fail
    (try simp only [Exit.inBlock, Exit.then])
    refine bodyPost_ret (v := ansV (⟨kk, ii, ss, bb⟩, m, er)) ?_ rfl ⟨rfl, ?_⟩
    · unfold ansV; rw [res_cell3 rfl]; go_simp
    · repeat' (first | exact hW1 | exact Below.refl _ _ | refine Below.setCell ?_ (by simp <;> omega) _ | refine Below.alloc ?_ (by simp <;> omega) _)
  · have hg : Va.get bs kind = (null, 0, 1) := by unfold Va.get; rw [if_neg k0, if_neg k1, if_neg k2, if_neg k3]
    rw [hg]
    have q0 : (kind == 0) = false := by simpa using k0
    have q1 : (kind == 1) = false := by simpa using k1
    have q2 : (kind == 2) = false := by simpa using k2
    have q3 : (kind == 3) = false := by simpa using k3
    clear hb1 v0 hS hB k0 k1 k2 k3 hg
    go_enter Tryz.func243, Tryz.ntmps243
    go_wp2_with fail
    (try simp only [Exit.inBlock, Exit.then])
    refine bodyPost_ret (v := ansV (null, 0, 1)) ?_ rfl ⟨rfl, ?_⟩
    · rw [ansV_null, res_cell3 rfl]; go_simp
    · repeat' (first | exact Below.refl _ _ | refine Below.setCell ?_ (by simp <;> omega) _ | refine Below.alloc ?_ (by simp <;> omega) _)
end Vc
end Go.Proofs.YtaoeipehpakngaaGreatDoor
