/- What the functions of package num that write a length do: putVarint, PutLen; and slices.Clone at []byte. Words on memory, over any program: a slice of slices of bytes; a row of the call's own whose elements are slices that it owns; append of such as a step of a region. -/
import Derived.WalkKit
import Derived.WalkSpells
import Derived.Lib.Hide
import Derived.RangeFuncBox
import Derived.Test.YtljgalleiemaaaaProg
import Derived.Test.YtljgalleiemaaaaPk01
import Derived.Test.YtljgalleiemaaaaPk02
import Derived.Test.YtljgalleiemaaaaPk14
namespace Go.Proofs.Ytljgalleiemaaaa
set_option maxRecDepth 20000
open Go.RowKit
namespace Nc
theorem info_u8 : (Try.prog.info? 5).map (fun i => (i.zero, i.size, i.bytes)) = some (some (.int .u8 0), 1, 1) := by kernel_rfl

/-- What holds at the head of putVarint's rounds. -/
def PvRel (w : World) (all : List Int) (v : Value) (u : Int) (f : Nat) (xs : List Int) (wr : World) : Prop :=
  u < 128 ^ (f + 1) ∧ xs ++ Nm.vdF f u = all ∧ Wd.Dst wr w.heap.size 5 .u8 v xs ∧ Below w.heap.size w wr

set_option maxHeartbeats 400000 in
theorem putVarint_own (A : Option Addr) (c : Nat) (bs : List Int) (u : Int) (w : World) (hb : Wd.Rd w w.heap.size .u8 A bs) (hc : bs.length ≤ c) (hm : bs.length ≤ 10000000) (h0 : 0 ≤ u) (h1 : u ≤ 18446744073709551615) :
    Calls Try.prog 37 #[.slice A bs.length c, .int .u64 u] w fun e w' => ∃ v, e = .returned v ∧ w'.ownsRow w.heap.size 5 1 v (bs ++ Nm.vd u).length ((bs ++ Nm.vd u).map (Value.int .u8)) ∧ Below w.heap.size w w' := by
  obtain ⟨i0, hi, hz0, hz1, hz2⟩ := info_parts info_u8
  go_enter Try.func37, Try.ntmps37
  go_wp2
  go_loopw [0, 1] (fun v i wr => ∃ (u' : Int) (f : Nat) (xs : List Int), i = .int .u64 u' ∧ 0 ≤ u' ∧ u' ≤ 18446744073709551615 ∧ PvRel w (bs ++ Nm.vd u) v u' f xs wr) (fun _ i _ => (intOf i).toNat)
  case atStart => exact ⟨u, 9, bs, rfl, h0, h1, by rw [Nm.pow10]; omega, rfl, .inr ⟨A, rfl, hb⟩, Below.refl _ _⟩
  case round =>
    obtain ⟨u', f, xs, rfl, hu0, hu1, hR⟩ := hrel
    have hR1 := hR.1
    have hR2 := Lib.hid hR.2.1
    have hD := hR.2.2.1
    have hBl := hR.2.2.2
    have hsz := hBl.size
    have hxl : xs.length ≤ 10000010 := by
      have := congrArg List.length hR.2.1
      have h2 := Nm.vd_len u
      simp only [List.length_append] at this
      omega
    clear hR
    by_cases hlt : u' < 128
    · go_wp2_with (at_builtin; refine Wd.wpList_app_dst _ rfl (.tmp 22) (.tmp 25) 39 rfl w.heap.size 5 i0 _ .u8 1 Try.underlying39 hi hz0 hz1 hz2 rfl _ xs rfl (hD.alloc hsz _) (wr.heap.size + 1) _ 1 1 [u'] rfl rfl (Wd.Rd.lit wr .u8 [u'] _ _ rfl) (by simp) (by simp; omega) (by simp [maxLen]; omega) (by simp; omega) ?_; intro v' w1 hown hbel)
      go_ret
      refine ⟨v', rfl, ?_, ((hBl.alloc hsz _).trans hbel)⟩
      rw [← hR2.out, Nm.vdF_lo _ _ hlt]
      exact hown
    · have hlt' : 128 ≤ u' := by omega
      go_wp2_with (at_builtin; refine Wd.wpList_app_dst _ rfl (.tmp 13) (.tmp 18) 39 rfl w.heap.size 5 i0 _ .u8 1 Try.underlying39 hi hz0 hz1 hz2 rfl _ xs rfl (hD.alloc hsz _) (wr.heap.size + 1) _ 1 1 [u' % 128 + 128] rfl rfl (Wd.Rd.lit wr .u8 [u' % 128 + 128] _ _ rfl) (by simp) (by simp; omega) (by simp [maxLen]; omega) (by simp; omega) ?_; intro v' w1 hown hbel)
      go_roundw
      case rel =>
        cases f with
        | zero => simp at hR1; omega
        | succ f =>
          refine ⟨u' / 128, f, xs ++ [u' % 128 + 128], rfl, by omega, by omega, ?_, ?_, .inl hown, (hBl.alloc hsz _).trans hbel⟩
          · rw [Int.pow_succ] at hR1; omega
          · rw [← hR2.out, Nm.vdF_hi _ _ (by omega)]; simp
      case measure => simp [intOf]; omega
theorem putVarint_any (A : Option Addr) (n c : Nat) (bs : List Int) (u : Int) (w : World) (hb : Wd.Sl w .u8 A n c bs) (hm : n ≤ 10000000) (h0 : 0 ≤ u) (h1 : u ≤ 18446744073709551615) :
    Calls Try.prog 37 #[.slice A n c, .int .u64 u] w (Wd.Out w .u8 (bs ++ Nm.vd u)) := by
  obtain ⟨rfl, hc, _, _, hr⟩ := hb
  exact (putVarint_own A c bs u w hr hc hm h0 h1).mono fun _ _ ⟨_, he, ho, hb⟩ => he ▸ Wd.Out.of_own ho hb

theorem clone_any (A : Option Addr) (m c : Nat) (bs : List Int) (w : World) (hb : Wd.Sl w .u8 A m c bs) (hm : m ≤ 10000000) :
    Calls Try.prog 36 #[.slice A m c] w (Wd.Out w .u8 bs) := by
  obtain ⟨i0, hi, hz0, hz1, hz2⟩ := info_parts info_u8
  obtain ⟨rfl, hc, hx, hA, hr⟩ := hb
  rcases A with _ | ad
  · obtain rfl := hA rfl
    obtain rfl := hr.none_
    have hnil : ∀ (w : World) (n c : Nat), (binOp .eql 39 (.slice none n c) (.slice none 0 0)).run Try.prog w = .ok (.bool true) w := fun _ _ _ => by kernel_rfl
    go_enter Try.func36, Try.ntmps36
    go_wp2
    go_ret
    exact ⟨none, 0, 0, rfl, Wd.Sl.none_ _ _, Below.refl _ _⟩
  · have hnil : ∀ (w : World) (n c : Nat) , (binOp .eql 39 (.slice (some ad) n c) (.slice none 0 0)).run Try.prog w = .ok (.bool false) w := fun _ _ _ => by kernel_rfl
    go_enter Try.func36, Try.ntmps36
    go_wp2_with (at_builtin; refine Wd.wpList_app _ rfl (.tmp 5) (.tmp 6) 39 rfl w.heap.size 5 i0 _ .u8 1 Try.underlying39 hi hz0 hz1 hz2 rfl (.slice (some ⟨w.heap.size, 0, none⟩) 0 0) [] rfl (World.ownsRow_lit w #[] 0 (Nat.le_refl _) (by simp [maxLen]) rfl) w.heap.size _ _ c bs rfl rfl (by simp) (hr.below ((Below.refl _ _).alloc (Nat.le_refl _) _)) (by simp; omega) (by simp [maxLen]; omega) (by simp) ?_; intro v' w1 hown hbel)
    go_ret
    refine Wd.Out.of_own (by simpa using hown) (((Below.refl _ _).alloc (Nat.le_refl _) _).grown hbel (by simp) (by simp [Value.ownBlock]))

theorem putLen_any (A : Option Addr) (m c : Nat) (bs : List Int) (n : Int) (w : World) (hb : Wd.Sl w .u8 A m c bs) (hm : m ≤ 10000000) (h0 : -9223372036854775808 ≤ n) (h1 : n ≤ 9223372036854775807) :
    Calls Try.prog 23 #[.slice A m c, .int .i64 n] w (Wd.Out w .u8 (bs ++ if n < 0 then [] else Nm.vd n)) := by
  by_cases hn : n < 0
  · rw [if_pos hn, List.append_nil]
    go_enter Try.func23, Try.ntmps23
    go_wp2_with fail
    refine (clone_any A m c bs w hb hm).mono ?_
    rintro e w' ⟨A', m', c', rfl, hO⟩
    go_wp2_with fail
    go_ret
    exact ⟨A', m', c', rfl, hO⟩
  · rw [if_neg hn]
    have hn' : 0 ≤ n := by omega
    go_enter Try.func23, Try.ntmps23
    go_wp2_with fail
    refine (putVarint_any A m c bs n w hb hm (by omega) (by omega)).mono ?_
    rintro e w' ⟨A', m', c', rfl, hO⟩
    go_wp2_with fail
    go_ret
    exact ⟨A', m', c', rfl, hO⟩
/-- PutLen behind no bytes, with whose memory it is. -/
theorem putLen0_own (n : Int) (w : World) (h0 : 0 ≤ n) (h1 : n ≤ 9223372036854775807) :
    Calls Try.prog 23 #[.slice none 0 0, .int .i64 n] w fun e w' => ∃ v, e = .returned v ∧ w'.ownsRow w.heap.size 5 1 v (Nm.vd n).length ((Nm.vd n).map (Value.int .u8)) ∧ Below w.heap.size w w' := by
  have hc := putVarint_own none 0 [] n w Wd.Rd.nil (by simp) (by simp) h0 (by omega)
  rw [List.nil_append] at hc
  have Hc := Lib.hid hc
  clear hc
  go_enter Try.func23, Try.ntmps23
  go_wp2_with fail
  refine Hc.out.mono ?_
  rintro e w1 ⟨v, rfl, hO⟩
  go_wp2_with fail
  go_ret
  exact ⟨v, rfl, hO⟩
end Nc
end Go.Proofs.Ytljgalleiemaaaa
namespace Go.Proofs.Ytljgalleiemaaaa
set_option maxRecDepth 20000
open Go.RowKit
namespace Wd

/-- The slice value of address A, length n and capacity c holds slices of the bytes ys. -/
structure Ss (w : World) (A : Option Addr) (n c : Nat) (ys : List (List Int)) : Prop where
  len : n = ys.length
  cap : n ≤ c
  max : c ≤ maxLen
  nil : A = none → c = 0
  at_ : ∀ j, j < ys.length → ∃ b o A' n' c', A = some ⟨b, o, none⟩ ∧ b < w.heap.size ∧ w.cell? ⟨b, o + j, none⟩ = some (.slice A' n' c') ∧ Sl w .u8 A' n' c' (ys.getD j [])
theorem Ss.below {w w' : World} {A : Option Addr} {n c : Nat} {ys : List (List Int)} (h : Ss w A n c ys) (hb : Below w.heap.size w w') : Ss w' A n c ys :=
  ⟨h.len, h.cap, h.max, h.nil, fun j hj => by
    obtain ⟨b, o, A', n', c', e, hlt, hc, hs⟩ := h.at_ j hj
    have := hb.size
    exact ⟨b, o, A', n', c', e, by omega, (hb.cell (p := ⟨b, o + j, none⟩) hlt).trans hc, hs.below hb⟩⟩
theorem Ss.none_ (w : World) : Ss w none 0 0 [] := ⟨rfl, Nat.le_refl _, Nat.zero_le _, fun _ => rfl, fun _ h => by simp at h⟩
theorem Ss.head {w : World} {A : Option Addr} {n c : Nat} {ys : List (List Int)} (h : Ss w A n c ys) (q : Nat) (hq : q ≤ n) : Ss w A q c (ys.take q) := by
  obtain ⟨h0, h1, h2, h3, h4⟩ := h
  refine ⟨by rw [List.length_take]; omega, by omega, h2, h3, fun j hj => ?_⟩
  rw [List.length_take] at hj
  obtain ⟨b, o, A', n', c', e, hlt, hc, hs⟩ := h4 j (by omega)
  refine ⟨b, o, A', n', c', e, hlt, hc, ?_⟩
  rwa [show (ys.take q).getD j [] = ys.getD j [] by simp [List.getD, show j < q by omega]]
/-- A call of w ended in w' with a slice of slices and a number, and nothing that was there has turned. -/
def OutSs (w : World) (ys : List (List Int)) (k : Int) (e : Ending) (w' : World) : Prop :=
  ∃ A n c, e = .returned (.tuple #[.slice A n c, .int .i64 k]) ∧ Ss w' A n c ys ∧ Below w.heap.size w w'

/-- The values vs are slices that hold the bytes ys, each in a row of its own of type e. -/
def Hs (w : World) (e : TypeId) (vs : List Value) (ys : List (List Int)) : Prop :=
  vs.length = ys.length ∧ ∀ j, j < ys.length → w.ownsRow 0 e 1 (vs.getD j undef) (ys.getD j []).length ((ys.getD j []).map (Value.int .u8))
theorem Hs.nil (w : World) (e : TypeId) : Hs w e [] [] := ⟨rfl, fun _ h => by simp at h⟩
theorem Hs.below {w w' : World} {e : TypeId} {vs : List Value} {ys : List (List Int)} (h : Hs w e vs ys) (hb : Below w.heap.size w w') : Hs w' e vs ys := ⟨h.1, fun j hj => own_below (h.2 j hj) hb⟩
theorem Hs.snoc {w : World} {e : TypeId} {vs : List Value} {ys : List (List Int)} {v : Value} {y : List Int} (h : Hs w e vs ys) (hv : w.ownsRow 0 e 1 v y.length (y.map (Value.int .u8))) : Hs w e (vs ++ [v]) (ys ++ [y]) := by
  refine ⟨by simp [h.1], fun j hj => ?_⟩
  simp only [List.length_append, List.length_cons, List.length_nil] at hj
  by_cases q : j < ys.length
  · have e1 : (vs ++ [v]).getD j undef = vs.getD j undef := by simp only [List.getD]; rw [List.getElem?_append_left (by rw [h.1]; exact q)]
    have e2 : (ys ++ [y]).getD j [] = ys.getD j [] := by simp only [List.getD]; rw [List.getElem?_append_left q]
    rw [e1, e2]
    exact h.2 j q
  · obtain rfl : j = ys.length := by omega
    have e1 : (vs ++ [v]).getD ys.length undef = v := by rw [← h.1]; simp [List.getD]
    have e2 : (ys ++ [y]).getD ys.length [] = y := by simp [List.getD]
    rw [e1, e2]
    exact hv
/-- What a row of another type does in growing leaves them. -/
theorem Hs.grown {w w' : World} {e e' : TypeId} {vs : List Value} {ys : List (List Int)} {base n size : Nat} {v : Value} {xs : List Value} (h : Hs w e vs ys) (hr : w.ownsRow base e' size v n xs) (hne : e ≠ e') (hg : w.grownBy w' v.ownBlock) : Hs w' e vs ys :=
  ⟨h.1, fun j hj => (h.2 j hj).kept hg (by
    rcases (h.2 j hj).2 with ⟨q, _⟩ | ⟨g, cap, cur, q, _, hgb, _⟩
    · left; rw [q]; rfl
    · right
      rw [q]
      intro e1
      rcases hr.2 with ⟨rfl, _⟩ | ⟨g', cap', cur', rfl, _, hgb', _⟩
      · simp [Value.ownBlock] at e1
      · obtain rfl : g = g' := by simpa [Value.ownBlock] using e1
        rw [hgb] at hgb'
        simp only [Option.some.injEq, Obj.cells.injEq] at hgb'
        exact hne hgb'.2.1)⟩
theorem Hs.set {w : World} {e t : TypeId} {vs : List Value} {ys : List (List Int)} {B : Nat} {u u' : Value} (h : Hs w e vs ys) (hb : Boxed w B t u) (hne : t ≠ e) : Hs (w.setCell ⟨B, 0, none⟩ u') e vs ys :=
  ⟨h.1, fun j hj => (h.2 j hj).kept (grownBy_setCell' w B u') (.inr (hb.not_row hne (h.2 j hj)).symm)⟩
/-- What a slice owns it owns behind the turn of a block that is no cells. -/
theorem own_others {X Y : World} {base : Nat} {e : TypeId} {size n : Nat} {v : Value} {xs : List Value} {row : Option Nat} (hr : X.ownsRow base e size v n xs) (hg : X.grownBy Y row) (hrow : ∀ r, row = some r → ∃ o : Obj, X.heap[r]? = some o ∧ o.isCells = false) : Y.ownsRow base e size v n xs := by
  refine hr.kept hg ?_
  rcases hr.2 with ⟨rfl, _⟩ | ⟨g, cap, cur, rfl, _, hgb, _⟩
  · exact .inl rfl
  · refine .inr fun e' => ?_
    obtain ⟨o, ho, hc⟩ := hrow g (by simpa [Value.ownBlock] using e'.symm)
    rw [hgb] at ho; cases ho; cases hc
theorem Hs.others {X Y : World} {e : TypeId} {vs : List Value} {ys : List (List Int)} {row : Option Nat} (h : Hs X e vs ys) (hg : X.grownBy Y row) (hrow : ∀ r, row = some r → ∃ o : Obj, X.heap[r]? = some o ∧ o.isCells = false) : Hs Y e vs ys :=
  ⟨h.1, fun j hj => own_others (h.2 j hj) hg hrow⟩
/-- A row of such slices, as a slice of slices. -/
theorem Ss.of_own {w : World} {base n : Nat} {e e' : TypeId} {v : Value} {vs : List Value} {ys : List (List Int)} (h : w.ownsRow base e' 1 v n vs) (hs : Hs w e vs ys) : ∃ A n c, v = .slice A n c ∧ Ss w A n c ys := by
  have hn : n = ys.length := by have := h.1; rw [hs.1] at this; omega
  subst hn
  rcases h.2 with ⟨rfl, h0⟩ | ⟨g, cap, cur, rfl, hb, hg, h1, h2, h3, h4⟩
  · obtain rfl := List.eq_nil_of_length_eq_zero h0
    exact ⟨none, 0, 0, rfl, Ss.none_ _⟩
  · refine ⟨_, _, _, rfl, ⟨rfl, h1, h2, by simp, fun j hj => ?_⟩⟩
    obtain ⟨A', n', c', e1, hS⟩ := Sl.of_own (hs.2 j hj)
    refine ⟨g, 0, A', n', c', rfl, (Array.getElem?_eq_some_iff.1 hg).1, ?_, hS⟩
    have := h.cellAt (g := g) (cap := cap) j (by omega)
    rw [Nat.zero_add, this, ← e1]
    simp [List.getD, List.getElem?_eq_getElem (show j < vs.length by rw [hs.1]; exact hj)]

section
variable {P : Program} (w : World)
/-- append of one value onto a row of the call's own, as one step of a region that draws. -/
theorem step_app1 {ops : Array Oper} {o : Oper} {a : Act} {K : Act → World → Prop} {Q : Exit → Act → World → Prop} {E : Prop} (hgd : o.guard = none) (s x : Operand) (t : TypeId)
    (ho : o.op = .call { callee := .builtin .append, args := #[s, x], argTypes := #[t, t] })
    (B : Nat) (e : TypeId) (i : TypeInfo) (z : Value) (bytes : Nat) (ht : P.underlying t = some (.slice e)) (hi : P.info? e = some i) (hz : i.zero = some z)
    (hsize : i.size = 1) (hby : i.bytes = bytes) (hzs : z.cells.size = 1)
    (v : Value) (k : Nat) (xs : List Value) (hs : a.eval s = v) (hown : w.ownsRow B e 1 v k xs)
    (ad : Addr) (u : Value) (hx : a.eval x = .slice (some ad) 1 1) (hc : w.cell? ad = some u) (had : ad.add 0 = ad) (h1 : u.oneCell' = true)
    (h63 : k + 1 ≤ maxLen) (hbytes : (k + 1) * bytes ≤ 140737488355328) (hB : B ≤ w.heap.size)
    (h : ∀ v' w', w'.ownsRow B e 1 v' (k + 1) (xs ++ [u]) → w.grownBy w' v.ownBlock → K (a.put o.dst v') w') : if Region.wanted o (yielded ops a.tmps) = true then Oper.wp P o a w K Q else E := by
  rw [if_pos (by simp [Region.wanted, hgd])]
  obtain ⟨v', w', hrun, h2, h3, _⟩ := run_append_own (P := P) w B t o.type e i z 1 bytes ht hi hz hsize hby hzs (by decide) v k xs hown ad 1 1 [u] (by simp) (fun j q hj => by
    have hj1 : j < 1 := by simpa using (List.getElem?_eq_some_iff.1 hj).1
    obtain rfl : j = 0 := by omega
    simp only [List.getElem?_cons_zero, Option.some.injEq] at hj
    rw [had, ← hj]; exact hc) (by simpa using h1) h63 hbytes hB
  unfold Oper.wp
  simp [execOp, ho, resolve, invoke, builtin, hs, hx, hrun, Result.andThen]
  exact h v' w' h2 h3
/-- append of one value onto a row of the call's own. -/
theorem wpList_app1v {ops : Array Oper} {rest : List Oper} {o : Oper} {a : Act} {Q : Exit → Act → World → Prop} (hgd : o.guard = none) (s x : Operand) (t : TypeId)
    (ho : o.op = .call { callee := .builtin .append, args := #[s, x], argTypes := #[t, t] })
    (B : Nat) (e : TypeId) (i : TypeInfo) (z : Value) (bytes : Nat) (ht : P.underlying t = some (.slice e)) (hi : P.info? e = some i) (hz : i.zero = some z)
    (hsize : i.size = 1) (hby : i.bytes = bytes) (hzs : z.cells.size = 1)
    (v : Value) (k : Nat) (xs : List Value) (hs : a.eval s = v) (hown : w.ownsRow B e 1 v k xs)
    (ad : Addr) (u : Value) (hx : a.eval x = .slice (some ad) 1 1) (hc : w.cell? ad = some u) (had : ad.add 0 = ad) (h1 : u.oneCell' = true)
    (h63 : k + 1 ≤ maxLen) (hbytes : (k + 1) * bytes ≤ 140737488355328) (hB : B ≤ w.heap.size)
    (h : ∀ v' w', w'.ownsRow B e 1 v' (k + 1) (xs ++ [u]) → w.grownBy w' v.ownBlock → wpList P ops Q rest (a.put o.dst v') w') : wpList P ops Q (o :: rest) a w := by
  refine wpList_plain hgd fun K hK => ?_
  obtain ⟨v', w', hrun, h2, h3, _⟩ := run_append_own (P := P) w B t o.type e i z 1 bytes ht hi hz hsize hby hzs (by decide) v k xs hown ad 1 1 [u] (by simp) (fun j q hj => by
    have hj1 : j < 1 := by simpa using (List.getElem?_eq_some_iff.1 hj).1
    obtain rfl : j = 0 := by omega
    simp only [List.getElem?_cons_zero, Option.some.injEq] at hj
    rw [had, ← hj]; exact hc) (by simpa using h1) h63 hbytes hB
  unfold Oper.wp
  simp [execOp, ho, resolve, invoke, builtin, hs, hx, hrun, Result.andThen]
  exact hK _ _ (h v' w' h2 h3)
/-- append of many values, from whatever slice, onto a row of the call's own. -/
theorem wpList_appV {ops : Array Oper} {rest : List Oper} {o : Oper} {a : Act} {Q : Exit → Act → World → Prop} (hgd : o.guard = none) (s x : Operand) (t : TypeId)
    (ho : o.op = .call { callee := .builtin .append, args := #[s, x], argTypes := #[t, t] })
    (B : Nat) (e : TypeId) (i : TypeInfo) (z : Value) (bytes : Nat) (ht : P.underlying t = some (.slice e)) (hi : P.info? e = some i) (hz : i.zero = some z)
    (hsize : i.size = 1) (hby : i.bytes = bytes) (hzs : z.cells.size = 1)
    (v : Value) (k : Nat) (xs : List Value) (hs : a.eval s = v) (hown : w.ownsRow B e 1 v k xs)
    (A : Option Addr) (m c : Nat) (us : List Value) (hx : a.eval x = .slice A m c) (hm : m = us.length) (hA : A = none → us = [] ∧ c = 0) (hc : ∀ ad, A = some ad → ∀ j u, us[j]? = some u → w.cell? (ad.add j) = some u) (h1 : ∀ u ∈ us, u.oneCell' = true)
    (h63 : k + m ≤ maxLen) (hbytes : (k + m) * bytes ≤ 140737488355328) (hB : B ≤ w.heap.size)
    (h : ∀ v' w', w'.ownsRow B e 1 v' (k + m) (xs ++ us) → w.grownBy w' v.ownBlock → wpList P ops Q rest (a.put o.dst v') w') : wpList P ops Q (o :: rest) a w := by
  refine wpList_plain hgd fun K hK => ?_
  rcases A with _ | ad
  · obtain ⟨rfl, rfl⟩ := hA rfl
    subst hm
    have hrun := run_append_owned_none (P := P) w B t o.type e i 1 ht hi v k xs hown
    unfold Oper.wp
    simp [execOp, ho, resolve, invoke, builtin, hs, hx, hrun, Result.andThen]
    exact hK _ _ (h v w (by simpa using hown) (World.grownBy.refl w _))
  · obtain ⟨v', w', hrun, h2, h3, _⟩ := run_append_own (P := P) w B t o.type e i z 1 bytes ht hi hz hsize hby hzs (by decide) v k xs hown ad m c us (by omega) (hc ad rfl) h1 h63 hbytes hB
    unfold Oper.wp
    simp [execOp, ho, resolve, invoke, builtin, hs, hx, hrun, Result.andThen]
    exact hK _ _ (h v' w' h2 h3)
/-- append(out, xs...) as one step of a region that draws. -/
theorem step_app {ops : Array Oper} {o : Oper} {a : Act} {K : Act → World → Prop} {Q : Exit → Act → World → Prop} {E : Prop} (hgd : o.guard = none) (s x : Operand) (t : TypeId)
    (ho : o.op = .call { callee := .builtin .append, args := #[s, x], argTypes := #[t, t] })
    (B : Nat) (e : TypeId) (i : TypeInfo) (z : Value) (k : IntKind) (bytes : Nat) (ht : P.underlying t = some (.slice e)) (hi : P.info? e = some i) (hz : i.zero = some z)
    (hsize : i.size = 1) (hby : i.bytes = bytes) (hzs : z.cells.size = 1)
    (v : Value) (xs : List Int) (hs : a.eval s = v) (hown : w.ownsRow B e 1 v xs.length (xs.map (Value.int k)))
    (B' : Nat) (A : Option Addr) (m c : Nat) (ys : List Int) (hx : a.eval x = .slice A m c) (hm : m = ys.length) (hA : A = none → c = 0) (hr : Rd w B' k A ys)
    (hbytes : (xs.length + ys.length) * bytes ≤ 140737488355328) (h63 : xs.length + ys.length ≤ maxLen) (hB : B ≤ w.heap.size)
    (h : ∀ v' w', w'.ownsRow B e 1 v' (xs ++ ys).length ((xs ++ ys).map (Value.int k)) → w.grownBy w' v.ownBlock → K (a.put o.dst v') w') : if Region.wanted o (yielded ops a.tmps) = true then Oper.wp P o a w K Q else E := by
  rw [if_pos (by simp [Region.wanted, hgd])]
  obtain ⟨v', w', hrun, h2, h3⟩ := run_app_own (P := P) w B t o.type e i z k bytes ht hi hz hsize hby hzs v xs hown B' A m c ys hm hA hr hbytes h63 hB
  unfold Oper.wp
  simp [execOp, ho, resolve, invoke, builtin, hs, hx, hrun, Result.andThen]
  exact h v' w' h2 h3
end
end Wd
end Go.Proofs.Ytljgalleiemaaaa
