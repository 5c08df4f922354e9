/- The walk of the statement RunsJoin of layer 3. -/
import Derived.Test.YtejhnmahmnbmkaaRunAwake
import Derived.Test.YtejhnmahmnbmkaaRunRefA
import Derived.Deep.QuietTactic
import Derived.BigQuiet
import Derived.IntWalk
import Derived.RegionTactic
import Derived.Deep.DeepCutAuto
namespace Go.Proofs.Ytejhnmahmnbmkaa
open Go.RowKit
namespace Lw
open Rc Nc

/-! ### The runs of two lists, one behind the other -/
theorem addR_app (X r : Rn.Rs) (x : Int) (h : r ≠ []) : Rn.addR (X ++ r) x = X ++ Rn.addR r x := by
  obtain ⟨r', ⟨v, n⟩, rfl⟩ : ∃ r' p, r = r' ++ [p] := ⟨r.dropLast, r.getLast h, (List.dropLast_concat_getLast h).symm⟩
  unfold Rn.addR
  rw [← List.append_assoc]
  simp only [List.getLast?_concat, List.dropLast_concat]
  by_cases q : v = x
  · simp [q]
  · simp [q]
theorem addR_one (v q x : Int) : Rn.addR [(v, q)] x = if v = x then [(v, q + 1)] else [(v, q), (x, 1)] := by simp [Rn.addR]
theorem addR_ne (r : Rn.Rs) (x : Int) : Rn.addR r x ≠ [] := by obtain ⟨r', n, e⟩ := Rn.addR_last r x; rw [e]; simp
/-- Where the first run of the second list is put behind: what stands ahead, and how many of its numbers are there already. -/
def joinTo (a : Rn.Rs) (v : Int) : Rn.Rs × Int := match a.getLast? with
  | some (u, p) => if u = v then (a.dropLast, p) else (a, 0)
  | none => (a, 0)
def join (a : Rn.Rs) : Rn.Rs → Rn.Rs
  | [] => a
  | (v, q) :: b => (joinTo a v).1 ++ (v, q + (joinTo a v).2) :: b
theorem join_addR (a : Rn.Rs) (x : Int) : ∀ b, Rn.addR (join a b) x = join a (Rn.addR b x)
  | [] => by
    show Rn.addR a x = join a [(x, 1)]
    unfold Rn.addR join joinTo
    rcases hl : a.getLast? with _ | ⟨u, p⟩
    · have : a = [] := by simpa using hl
      simp [this]
    · by_cases q : u = x
      · simp only [if_pos q]; rw [q]; congr 2; simp only [Prod.mk.injEq, true_and]; omega
      · simp only [if_neg q]; rfl
  | (v, q) :: [] => by
    rw [addR_one]
    show Rn.addR ((joinTo a v).1 ++ [(v, q + (joinTo a v).2)]) x = _
    rw [addR_app _ _ _ (by simp), addR_one]
    by_cases h : v = x
    · rw [if_pos h, if_pos h]
      show _ = (joinTo a v).1 ++ (v, q + 1 + (joinTo a v).2) :: []
      congr 3
      omega
    · rw [if_neg h, if_neg h]; rfl
  | (v, q) :: p :: b => by
    have e : Rn.addR ((v, q) :: p :: b) x = (v, q) :: Rn.addR (p :: b) x := addR_app [(v, q)] (p :: b) x (by simp)
    rw [e]
    show Rn.addR ((joinTo a v).1 ++ (v, q + (joinTo a v).2) :: p :: b) x = (joinTo a v).1 ++ (v, q + (joinTo a v).2) :: Rn.addR (p :: b) x
    rw [addR_app _ _ _ (by simp), show (v, q + (joinTo a v).2) :: p :: b = [(v, q + (joinTo a v).2)] ++ (p :: b) from rfl, addR_app _ _ _ (by simp)]
    rfl
theorem runs_join (l m : List Int) : Rn.runs (l ++ m) = join (Rn.runs l) (Rn.runs m) := by
  induction m using Rn.snoc_ind with
  | h0 => rw [List.append_nil]; rfl
  | hs m x ih => rw [← List.append_assoc, Rn.runs_snoc, ih, join_addR, ← Rn.runs_snoc]
theorem join_yes (a b : Rn.Rs) (v p q : Int) : join (a ++ [(v, p)]) ((v, q) :: b) = a ++ (v, p + q) :: b := by
  unfold join joinTo
  simp only [List.getLast?_concat, if_true, List.dropLast_concat]
  rw [Int.add_comm]
theorem join_no (a b : Rn.Rs) (h : ∀ u p v q t, a.getLast? = some (u, p) → b = (v, q) :: t → u ≠ v) : join a b = a ++ b := by
  cases b with
  | nil => simp [join]
  | cons w t =>
    obtain ⟨v, q⟩ := w
    unfold join joinTo
    rcases hl : a.getLast? with _ | ⟨u, p⟩
    · simp
    · have := h u p v q t hl rfl
      simp [this]
end Lw

namespace Wd
/-- append of runs behind a row of the call's own (or nil), whatever the source. -/
theorem run_appR {P : Program} (w : World) (B : Nat) (t ty e : TypeId) (i : TypeInfo) (z : Value) (bytes : Nat) (ht : P.underlying t = some (.slice e)) (hi : P.info? e = some i) (hz : i.zero = some z)
    (hsize : i.size = 2) (hby : i.bytes = bytes) (hzs : z.cells.size = 2)
    (v : Value) (r : Rn.Rs) (hown : w.ownsRow B e 2 v r.length ((cellsR r).map (Value.int .i64)))
    (B' : Nat) (A : Option Addr) (m c : Nat) (s : Rn.Rs) (hm : m = s.length) (hA : A = none → c = 0) (hr : Rd w B' .i64 A (cellsR s))
    (hbytes : (r.length + s.length) * bytes ≤ 140737488355328) (h63 : r.length + s.length ≤ maxLen) (hB : B ≤ w.heap.size) :
    ∃ v' w', (Builtin.append_ #[t, t] ty #[v, .slice A m c]).run P w = .ok v' w' ∧ w'.ownsRow B e 2 v' (r ++ s).length ((cellsR (r ++ s)).map (Value.int .i64)) ∧ w.grownBy w' v.ownBlock := by
  subst hm
  rcases A with _ | ad
  · obtain rfl := hA rfl
    have hs : s = [] := by
      have h := congrArg List.length hr.none_
      rw [cellsR_len] at h
      have h2 : s.length * 2 = 0 := h
      exact List.eq_nil_of_length_eq_zero (by omega)
    subst hs
    refine ⟨v, w, ?_, by simpa using hown, World.grownBy.refl w _⟩
    exact run_append_owned_none (P := P) w B t ty e i 2 ht hi v r.length _ hown
  · have hcells : ∀ j u, ((cellsR s).map (Value.int .i64))[j]? = some u → w.cell? (ad.add j) = some u := by
      intro j u hu
      have hj : j < (cellsR s).length := by simpa using (List.getElem?_eq_some_iff.1 hu).1
      obtain ⟨b, o, e1, _, hc⟩ := hr j hj
      cases e1
      rw [Addr.add_lit, hc, ← hu]
      simp [List.getD, List.getElem?_eq_getElem hj]
    obtain ⟨v', w', hrun, h2, h3, _⟩ := run_append_own (P := P) w B t ty e i z 2 bytes ht hi hz hsize hby hzs (by omega) v r.length _ hown ad s.length c ((cellsR s).map (Value.int .i64)) (by simp [cellsR_len]) hcells (ints_oneCell _ _) h63 hbytes hB
    exact ⟨v', w', hrun, by rw [cellsR_app, List.map_append, List.length_append]; exact h2, h3⟩
theorem wpList_appR {P : Program} (w : World) {ops : Array Oper} {rest : List Oper} {o : Oper} {a : Act} {Q : Exit → Act → World → Prop} (hgd : o.guard = none) (s x : Operand) (t : TypeId)
    (ho : o.op = .call { callee := .builtin .append, args := #[s, x], argTypes := #[t, t] })
    (B : Nat) (e : TypeId) (i : TypeInfo) (z : Value) (bytes : Nat) (ht : P.underlying t = some (.slice e)) (hi : P.info? e = some i) (hz : i.zero = some z)
    (hsize : i.size = 2) (hby : i.bytes = bytes) (hzs : z.cells.size = 2)
    (v : Value) (r : Rn.Rs) (hs : a.eval s = v) (hown : w.ownsRow B e 2 v r.length ((cellsR r).map (Value.int .i64)))
    (B' : Nat) (A : Option Addr) (m c : Nat) (ss : Rn.Rs) (hx : a.eval x = .slice A m c) (hm : m = ss.length) (hA : A = none → c = 0) (hr : Rd w B' .i64 A (cellsR ss))
    (hbytes : (r.length + ss.length) * bytes ≤ 140737488355328) (h63 : r.length + ss.length ≤ maxLen) (hB : B ≤ w.heap.size)
    (h : ∀ v' w', w'.ownsRow B e 2 v' (r ++ ss).length ((cellsR (r ++ ss)).map (Value.int .i64)) → w.grownBy w' v.ownBlock → wpList P ops Q rest (a.put o.dst v') w') : wpList P ops Q (o :: rest) a w := by
  refine wpList_plain hgd fun K hK => ?_
  obtain ⟨v', w', hrun, h2, h3⟩ := run_appR (P := P) w B t o.type e i z bytes ht hi hz hsize hby hzs v r hown B' A m c ss hm hA hr hbytes h63 hB
  unfold Oper.wp
  simp [execOp, ho, resolve, invoke, builtin, hs, hx, hrun, Result.andThen]
  exact hK _ _ (h v' w' h2 h3)
theorem ownR_sr {w : World} {base : Nat} {e : TypeId} {v : Value} {n : Nat} {r : Rn.Rs} (h : w.ownsRow base e 2 v n ((cellsR r).map (Value.int .i64))) : ∃ A n c, v = .slice A n c ∧ Sr w A n c r := by
  obtain ⟨A, c, e, hS⟩ := ownR_form h
  exact ⟨A, _, c, e, hS⟩
end Wd

namespace Lw
open Rc Nc
set_option maxRecDepth 100000 in
set_option maxHeartbeats 4000000 in
theorem runsJoin_ok (A : Option Addr) (n c : Nat) (l : List Int) (B : Option Addr) (n' c' : Nat) (m : List Int) (w : World) (hS : Wd.Sl w .i64 A n c l) (hF : Rn.Fits l) (hT : Wd.Sl w .i64 B n' c' m) (hG : Rn.Fits m) (hn : n ≤ 300) (hn' : n' ≤ 300) :
    Calls Try.prog 8 #[.slice A n c, .slice B n' c'] w fun e w' => e = .returned (.bool true) ∧ Below w.heap.size w w' := by
  obtain ⟨i0, hi, hz0, hz1, hz2⟩ := info_parts info_int
  obtain ⟨j0, hj, hy0, hy1, hy2⟩ := info_parts info_run
  have hl := hS.len
  have hl' := hT.len
  have hcap := hS.cap
  have hcap' := hT.cap
  have c1 := fun w hS => runs_any A n c l w hS (by omega) hF
  have c2 := fun w hS => runs_any B n' c' m w hS (by omega) hG
  have c3 := fun D k e w hS hk => runs_any D k e (l ++ m) w hS hk (fun x hx => (List.mem_append.1 hx).elim (hF x) (hG x))
  have hj := runs_join l m
  have r1 := Rn.runs_len l
  have r2 := Rn.runs_len m
  have p1 := Rn.runs_mem l
  have p2 := Rn.runs_mem m
  have p3 := Rn.runs_pos l
  have p4 := Rn.runs_pos m
  rw [hj] at c3
  generalize Rn.runs l = ra at *
  generalize Rn.runs m = rb at *
  have C1 := Lib.hid c1
  have C2 := Lib.hid c2
  have C3 := Lib.hid c3
  have Hl := Lib.hid hl
  have Hl' := Lib.hid hl'
  have P1 := Lib.hid p1
  have P2 := Lib.hid p2
  have P3 := Lib.hid p3
  have P4 := Lib.hid p4
  have q1 : ra.length ≤ 300 := by omega
  have q2 : rb.length ≤ 300 := by omega
  have hll : l.length ≤ 300 := by omega
  have hll' : m.length ≤ 300 := by omega
  clear c1 c2 c3 hl hl' hj p1 p2 p3 p4 hF hG r1 r2
  go_enter Try.func8, Try.ntmps8
  go_wp2_with fail
  refine (awake_any w).mono ?_
  rintro e w1 ⟨rfl, hB⟩
  have hS1 := hS.below hB
  have hT1 := hT.below hB
  clear hS hT
  go_wp2_with fail
  refine (C1.out w1 hS1).mono ?_
  rintro e w2 ⟨A2, n2, k2, rfl, hR2, hB2⟩
  have hW2 : Below w.heap.size w w2 := hB.trans (hB2.mono hB.size)
  have hS12 := hS1.below hB2
  have hT12 := hT1.below hB2
  have Hn2 := Lib.hid hR2.len
  have hn2 : n2 ≤ 300 := by rw [hR2.len]; exact q1
  clear hB hS1 hT1 hB2 C1
  go_wp2_with fail
  refine (C2.out w2 hT12).mono ?_
  rintro e w3 ⟨A3, n3, k3, rfl, hR3, hB3⟩
  have hW3 : Below w.heap.size w w3 := hW2.trans (hB3.mono hW2.size)
  have hS13 := hS12.below hB3
  have hT13 := hT12.below hB3
  have hR23 := hR2.below hB3
  have Hn3 := Lib.hid hR3.len
  have hn3 : n3 ≤ 300 := by rw [hR3.len]; exact q2
  clear hS12 hT12 hR2 hB3 hW2 C2
  go_wp2_with (first | (at_builtin; refine Wd.wpList_app _ rfl (.const (.slice none 0 0)) (.tmp 28) 22 rfl w3.heap.size 3 i0 _ .i64 8 Try.underlying22 hi hz0 hz1 hz2 rfl (.slice none 0 0) [] rfl (World.ownsRow_nil _ _ _ _) w3.heap.size A n c l rfl Hl.out hS13.nil hS13.rd (by simp; omega) (by simp [maxLen]; omega) (Nat.le_refl _) ?_; intro v5 w5 hown5 hg5; have hb5 := (Below.refl w3.heap.size w3).grown hg5 (Nat.le_refl _) (by simp [Value.ownBlock]); have hz5 := hb5.size; have hT15 := hT13.below hb5) | (at_builtin; refine Wd.wpList_app _ rfl (.tmp 29) (.tmp 30) 22 rfl w3.heap.size 3 i0 _ .i64 8 Try.underlying22 hi hz0 hz1 hz2 rfl v5 ([] ++ l) rfl hown5 w5.heap.size B n' c' m rfl Hl'.out hT15.nil hT15.rd (by simp; omega) (by simp [maxLen]; omega) hz5 ?_; intro v6 w6 hown6 hg6; obtain ⟨A6, m6, k6, rfl, hS6⟩ := Wd.Sl.of_own hown6))
  have hb6 : Below w3.heap.size w3 w6 := hb5.grown hg6 hz5 (fun g hg => (hown5.lt g hg).1)
  have hW6 : Below w.heap.size w w6 := hW3.trans (hb6.mono hW3.size)
  have hR26 := hR23.below hb6
  have hR36 := hR3.below hb6
  rw [List.nil_append] at hS6
  have hm6 : m6 ≤ 1000000 := by rw [hS6.len, List.length_append]; omega
  clear hown5 hown6 hg5 hg6 hb5 hb6 hS13 hT13 hT15 hR23 hR3 hW3 hz5
  refine (C3.out A6 m6 k6 w6 hS6 hm6).mono ?_
  rintro e w7 ⟨A7, n7, k7, rfl, hR7, hB7⟩
  have hW7 : Below w.heap.size w w7 := hW6.trans (hB7.mono hW6.size)
  have hR27 := hR26.below hB7
  have hR37 := hR36.below hB7
  clear hS6 hR26 hR36 hB7 hW6 C3
  obtain ⟨β, hβ⟩ : ∃ β : Bool, β = decide (0 < n2 ∧ 0 < n3 ∧ (ra.getD (n2 - 1) (0, 0)).1 = (rb.getD 0 (0, 0)).1) := ⟨_, rfl⟩
  go_upto_region 7 with fail
  go_cut [54] (fun s wx => s = .bool β ∧ ∃ q, wx = w7.drewN q)
  case first =>
    rcases Nat.eq_zero_or_pos n2 with h0 | h0
    · obtain rfl : β = false := by rw [hβ]; simp; omega
      have hd : decide ((0 : Int) < (n2 : Int)) = false := by simp; omega
      have hd2 : decide (0 < n2) = false := by simp; omega
      clear hβ h0
      go_quiet (fail)
      go_wp2_with fail
      go_meet
      exact ⟨rfl, _, rfl⟩
    · have hd : decide ((0 : Int) < (n2 : Int)) = true := by simp; omega
      have hd2 : decide (0 < n2) = true := by simp; omega
      rcases Nat.eq_zero_or_pos n3 with h1 | h1
      · obtain rfl : β = false := by rw [hβ]; simp; omega
        have hd3 : decide ((0 : Int) < (n3 : Int)) = false := by simp; omega
        have hd4 : decide (0 < n3) = false := by simp; omega
        clear hβ h1
        go_quiet (fail)
        go_wp2_with fail
        go_meet
        exact ⟨rfl, _, rfl⟩
      · have hd3 : decide ((0 : Int) < (n3 : Int)) = true := by simp; omega
        have hd4 : decide (0 < n3) = true := by simp; omega
        obtain ⟨b, o, rfl, _, x0, _⟩ := hR27.at_ (n2 - 1) (by omega)
        obtain ⟨b2, o2, rfl, _, y0, _⟩ := hR37.at_ 0 (by omega)
        obtain ⟨x, hx⟩ : ∃ x, x = (ra.getD (n2 - 1) (0, 0)).1 := ⟨_, rfl⟩
        obtain ⟨y, hy⟩ : ∃ y, y = (rb.getD 0 (0, 0)).1 := ⟨_, rfl⟩
        rw [← hx] at x0 hβ
        rw [← hy] at y0 hβ
        rw [Nat.zero_mul, Nat.add_zero] at y0
        have hw1 : IntKind.i64.wrap ((n2 : Int) - 1) = (n2 : Int) - 1 := IntWalk.i64_in _ (by omega)
        have h01 : (0 : Int) ≤ (n2 : Int) - 1 := by omega
        have h02 : (1 : Int) ≤ (n2 : Int) := by omega
        have hl1 : (n2 : Int) - 1 < (n2 : Int) := by omega
        have ht1 : ((n2 : Int) - 1).toNat = n2 - 1 := by omega
        have h03 : (0 : Int) < (n3 : Int) := by omega
        have Hx := Lib.hid hx
        have Hy := Lib.hid hy
        clear hx hy
        by_cases hxy : x = y
        · obtain rfl : β = true := by rw [hβ]; simp; omega
          have hbq : (x == y) = true := by rw [hxy]; simp
          clear hβ hxy
          go_quiet (fail)
          go_wp2_with fail
          go_meet
          exact ⟨rfl, _, rfl⟩
        · obtain rfl : β = false := by rw [hβ]; simp; omega
          have hbq : (x == y) = false := by rw [beq_eq_false_iff_ne]; exact hxy
          clear hβ hxy
          go_quiet (fail)
          go_wp2_with fail
          go_meet
          exact ⟨rfl, _, rfl⟩
  case rest =>
    obtain ⟨rfl, q, rfl⟩ := hcut
    have hb8 : Below w7.heap.size w7 (w7.drewN q) := Wd.below_drewN (Below.refl _ _) q
    obtain ⟨w8, hw8⟩ : ∃ w8, w8 = w7.drewN q := ⟨_, rfl⟩
    rw [← hw8] at hb8 ⊢
    have hW8 : Below w.heap.size w w8 := hW7.trans (hb8.mono hW7.size)
    have hR28 := hR27.below hb8
    have hR38 := hR37.below hb8
    have hR78 := hR7.below hb8
    have Hβ := Lib.hid hβ
    clear hw8 hb8 hW7 hR27 hR37 hR7 hβ
    cases β
    · have ej : join ra rb = ra ++ rb := by
        refine join_no ra rb fun u p v q' t h1 h2 e => ?_
        have hb := Hβ.out.symm
        rw [decide_eq_false_iff_not] at hb
        apply hb
        have hn2 := Hn2.out
        have hn3 := Hn3.out
        obtain ⟨r', e'⟩ := List.getLast?_eq_some_iff.1 h1
        subst e'
        subst h2
        refine ⟨by rw [hn2]; simp, by rw [hn3]; simp, ?_⟩
        rw [hn2]
        simp [List.getD, e]
      rw [ej] at hR78
      clear ej
      go_wp2_with (first | (at_builtin; refine Wd.wpList_appR _ rfl (.const (.slice none 0 0)) (.tmp 82) 23 rfl w8.heap.size 44 j0 _ 16 Try.underlying23 hj hy0 hy1 hy2 rfl (.slice none 0 0) [] rfl (World.ownsRow_nil _ _ _ _) w8.heap.size A2 n2 k2 ra rfl Hn2.out hR28.nil hR28.rd (by simp; omega) (by simp [maxLen]; omega) (Nat.le_refl _) ?_; intro v9 w9 hown9 hg9; have hb9 := (Below.refl w8.heap.size w8).grown hg9 (Nat.le_refl _) (by simp [Value.ownBlock]); have hz9 := hb9.size; have hR39 := hR38.below hb9) | (at_builtin; refine Wd.wpList_appR _ rfl (.tmp 83) (.tmp 84) 23 rfl w8.heap.size 44 j0 _ 16 Try.underlying23 hj hy0 hy1 hy2 rfl v9 ([] ++ ra) rfl hown9 w9.heap.size A3 n3 k3 rb rfl Hn3.out hR39.nil hR39.rd (by simp; omega) (by simp [maxLen]; omega) hz9 ?_; intro v10 w10 hown10 hg10; obtain ⟨A10, m10, k10, rfl, hR10⟩ := Wd.ownR_sr hown10))
      have hb10 : Below w8.heap.size w8 w10 := hb9.grown hg10 hz9 (fun g hg => (hown9.lt g hg).1)
      have hW10 : Below w.heap.size w w10 := hW8.trans (hb10.mono hW8.size)
      have hR710 := hR78.below hb10
      rw [List.nil_append] at hR10
      clear hown9 hown10 hg9 hg10 hb9 hb10 hR28 hR38 hR39 hR78 hW8
      refine (refSame_yes A7 A10 n7 m10 k7 k10 _ _ w10 hR710 hR10 rfl).mono ?_
      rintro e w11 ⟨rfl, hB11⟩
      go_wp2_with fail
      go_ret
      exact ⟨rfl, hW10.trans (hB11.mono hW10.size)⟩
    · have hb := Hβ.out.symm
      rw [decide_eq_true_eq] at hb
      obtain ⟨h1, h2, h3⟩ := hb
      obtain ⟨a', ⟨v, p⟩, ea⟩ : ∃ a' pr, ra = a' ++ [pr] := ⟨ra.dropLast, ra.getLast (fun e => by have := Hn2.out; rw [e] at this; simp at this; omega), (List.dropLast_concat_getLast _).symm⟩
      obtain ⟨⟨v', qq⟩, b', eb⟩ : ∃ pr b', rb = pr :: b' := by
        cases hrb : rb with
        | nil => have := Hn3.out; rw [hrb] at this; simp at this; omega
        | cons x r => exact ⟨x, r, rfl⟩
      have hta : a'.length = n2 - 1 := by have := Hn2.out; rw [ea] at this; simp at this; omega
      have hvv : v = v' := by
        rw [ea, eb, ← hta] at h3
        simpa [List.getD] using h3
      subst hvv
      have hp1 := P1.out (v, p) (by rw [ea]; simp)
      have hp2 := P2.out (v, qq) (by rw [eb]; simp)
      have hp3 := P3.out (v, p) (by rw [ea]; simp)
      have hp4 := P4.out (v, qq) (by rw [eb]; simp)
      dsimp only at hp1 hp2 hp3 hp4
      have s1 : p ≤ 300 := by have := hp1.2; omega
      have s2 : qq ≤ 300 := by have := hp2.2; omega
      subst ea
      subst eb
      rw [join_yes] at hR78
      obtain ⟨b2, o2, rfl, hb2, y0, y1⟩ := hR38.at_ 0 (by omega)
      rw [Nat.zero_mul, Nat.zero_add] at y1
      have y1' : w8.cell? ⟨b2, o2 + 1, none⟩ = some (.int .i64 qq) := y1
      have hbl : b'.length + 1 = n3 := by rw [Hn3.out]; rfl
      clear y0 y1 hp1 hp2 h3
      go_wp2_with (at_builtin; refine Wd.wpList_appR _ rfl (.const (.slice none 0 0)) (.tmp 55) 23 rfl w8.heap.size 44 j0 _ 16 Try.underlying23 hj hy0 hy1 hy2 rfl (.slice none 0 0) [] rfl (World.ownsRow_nil _ _ _ _) w8.heap.size A2 n2 k2 (a' ++ [(v, p)]) rfl Hn2.out hR28.nil hR28.rd (by simp; omega) (by simp [maxLen]; omega) (Nat.le_refl _) ?_; intro v9 w9 hown9 hg9; have hb9 := (Below.refl w8.heap.size w8).grown hg9 (Nat.le_refl _) (by simp [Value.ownBlock]))
      have hown : w9.ownsRow w8.heap.size 44 2 v9 n2 ((Wd.cellsR (a' ++ [(v, p)])).map (Value.int .i64)) := by
        rw [List.nil_append, List.length_append, hta, List.length_cons, List.length_nil, show n2 - 1 + (0 + 1) = n2 by omega] at hown9
        exact hown9
      obtain ⟨g, cap, eg⟩ := ownsRow_succ (k := n2 - 1) (by rw [show n2 - 1 + 1 = n2 by omega]; exact hown)
      rw [show n2 - 1 + 1 = n2 by omega] at eg
      subst eg
      have hgB : w8.heap.size ≤ g := (hown.lt g rfl).1
      have cN := hown.cellAt ((n2 - 1) * 2 + 1) (by omega)
      have fN := hown.frozenAt ((n2 - 1) * 2 + 1)
      have hst := (hown.stored ((n2 - 1) * 2 + 1) (.int .i64 (p + qq))).1
      have ec : (Wd.cellsR (a' ++ [(v, p)])).map (Value.int .i64) = (Wd.cellsR a').map (Value.int .i64) ++ [.int .i64 v, .int .i64 p] := by rw [Wd.cellsR_app]; simp [Wd.cellsR]
      have el : ((Wd.cellsR a').map (Value.int .i64)).length = (n2 - 1) * 2 := by rw [List.length_map, Wd.cellsR_len, hta]
      rw [ec] at cN hst
      rw [List.getElem?_append_right (by omega), el, show (n2 - 1) * 2 + 1 - (n2 - 1) * 2 = 1 by omega] at cN
      rw [List.set_append_right _ _ (by omega), el, show (n2 - 1) * 2 + 1 - (n2 - 1) * 2 = 1 by omega] at hst
      have cN' : w9.cell? ⟨g, (n2 - 1) * 2 + 1, none⟩ = some (.int .i64 p) := cN
      have y9 : w9.cell? ⟨b2, o2 + 1, none⟩ = some (.int .i64 qq) := (hb9.cell (p := ⟨b2, o2 + 1, none⟩) hb2).trans y1'
      have own10 : (w9.setCell ⟨g, (n2 - 1) * 2 + 1, none⟩ (.int .i64 (p + qq))).ownsRow w8.heap.size 44 2 (.slice (some ⟨g, 0, none⟩) n2 cap) (a' ++ [(v, p + qq)]).length ((Wd.cellsR (a' ++ [(v, p + qq)])).map (Value.int .i64)) := by
        rw [Wd.cellsR_app, List.length_append, hta, List.length_cons, List.length_nil, show n2 - 1 + (0 + 1) = n2 by omega]
        simpa [Wd.cellsR] using hst
      have hb10 : Below w8.heap.size w8 (w9.setCell ⟨g, (n2 - 1) * 2 + 1, none⟩ (.int .i64 (p + qq))) := hb9.setCell hgB _
      have Ho := Lib.hid own10
      have Hb := Lib.hid hb10
      have Hbl := Lib.hid hbl
      have i1 : (0 : Int) < (n3 : Int) := by omega
      have hw1 : IntKind.i64.wrap ((n2 : Int) - 1) = (n2 : Int) - 1 := IntWalk.i64_in _ (by omega)
      have hw2 : IntKind.i64.wrap (p + qq) = p + qq := IntWalk.i64_in _ (by omega)
      have h01 : (0 : Int) ≤ (n2 : Int) - 1 := by omega
      have h02 : (1 : Int) ≤ (n2 : Int) := by omega
      have h04 : 1 ≤ n2 := by omega
      have hl1 : (n2 : Int) - 1 < (n2 : Int) := by omega
      have ht1 : ((n2 : Int) - 1).toNat = n2 - 1 := by omega
      have hgb : g ≠ b2 := by omega
      clear hown9 hown hst ec el cN hg9 hb9 own10 hb10 y1' hbl hta
      obtain ⟨wz, hwz⟩ : ∃ wz, wz = (w9.setCell ⟨g, (n2 - 1) * 2 + 1, none⟩ (.int .i64 (p + qq))).drew := ⟨_, rfl⟩
      have Hwz := Lib.hid hwz
      clear hwz
      go_cut [10] (fun _ wx => wx = wz)
      case first =>
        go_region
        all_goals (go_wp2_with fail; go_meet; exact Hwz.out.symm)
      case rest =>
        obtain rfl := hcut
        have hbz : Below w8.heap.size w8 wc := by rw [Hwz.out]; exact Hb.out.drew
        have oz : wc.ownsRow w8.heap.size 44 2 (.slice (some ⟨g, 0, none⟩) n2 cap) (a' ++ [(v, p + qq)]).length ((Wd.cellsR (a' ++ [(v, p + qq)])).map (Value.int .i64)) := by rw [Hwz.out]; exact Ho.out
        have hR3z := hR38.below hbz
        have hR7z := hR78.below hbz
        have hWz : Below w.heap.size w wc := hW8.trans (hbz.mono hW8.size)
        have hzz := hbz.size
        have hal : a'.length ≤ 300 := by have := Hn2.out; simp at this; omega
        have hbb : b'.length ≤ 300 := by have := Hbl.out; omega
        have hn3' : n3 - 1 = b'.length := by have := Hbl.out; omega
        have Hn3' := Lib.hid hn3'
        have k3c := hR38.cap
        have k3m := hR38.max
        unfold maxLen at k3m
        have hrd : Wd.Rd wc wc.heap.size .i64 (some ⟨b2, o2 + 2, none⟩) (Wd.cellsR b') := by
          have h := hR3z.rd.cut (n := 2) (c := (Wd.cellsR ((v, qq) :: b')).length + 5) (by rw [Wd.cellsR_len]; simp; omega) (by omega)
          rw [if_neg (by omega), Option.map_some, Addr.add_lit] at h
          exact h
        have Hrd := Lib.hid hrd
        have HW8 := Lib.hid hW8
        have HR78 := Lib.hid hR78
        clear cN' fN y9 hR28 hR38 hR78 hW8 hn3' hrd hw1 hw2 h01 hl1 ht1
        by_cases hk1 : k3 = 1
        · subst hk1
          have eb0 : b' = [] := List.eq_nil_of_length_eq_zero (by have := Hn3'.out; omega)
          subst eb0
          go_wp2_with (at_builtin; refine Wd.wpList_appR _ rfl (.tmp 76) (.tmp 78) 23 rfl w8.heap.size 44 j0 _ 16 Try.underlying23 hj hy0 hy1 hy2 rfl _ (a' ++ [(v, p + qq)]) rfl oz wc.heap.size _ _ _ [] rfl rfl (by simp) Wd.Rd.nil (by simp; omega) (by simp [maxLen]; omega) hzz ?_; intro v11 w11 hown11 hg11; obtain ⟨A11, m11, k11, rfl, hR11⟩ := Wd.ownR_sr hown11)
          have hb11 : Below w8.heap.size w8 w11 := hbz.grown hg11 hzz (fun g' hg' => (oz.lt g' hg').1)
          have hW11 : Below w.heap.size w w11 := HW8.out.trans (hb11.mono HW8.out.size)
          have hR711 := HR78.out.below hb11
          clear oz hown11 hg11 hbz hR7z hR3z hWz hzz hb11
          refine (refSame_yes A7 A11 n7 m11 k7 k11 _ _ w11 hR711 hR11 (by simp)).mono ?_
          rintro e w12 ⟨rfl, hB12⟩
          go_wp2_with fail
          go_ret
          exact ⟨rfl, hW11.trans (hB12.mono hW11.size)⟩
        · go_wp2_with (at_builtin; refine Wd.wpList_appR _ rfl (.tmp 76) (.tmp 78) 23 rfl w8.heap.size 44 j0 _ 16 Try.underlying23 hj hy0 hy1 hy2 rfl _ (a' ++ [(v, p + qq)]) rfl oz wc.heap.size _ _ _ b' rfl Hn3'.out (by simp) Hrd.out (by simp; omega) (by simp [maxLen]; omega) hzz ?_; intro v11 w11 hown11 hg11; obtain ⟨A11, m11, k11, rfl, hR11⟩ := Wd.ownR_sr hown11)
          have hb11 : Below w8.heap.size w8 w11 := hbz.grown hg11 hzz (fun g' hg' => (oz.lt g' hg').1)
          have hW11 : Below w.heap.size w w11 := HW8.out.trans (hb11.mono HW8.out.size)
          have hR711 := HR78.out.below hb11
          clear oz hown11 hg11 hbz hR7z hR3z hWz hzz hb11
          refine (refSame_yes A7 A11 n7 m11 k7 k11 _ _ w11 hR711 hR11 (by simp)).mono ?_
          rintro e w12 ⟨rfl, hB12⟩
          go_wp2_with fail
          go_ret
          exact ⟨rfl, hW11.trans (hB12.mono hW11.size)⟩

theorem runsJoin_walk (A : Option Addr) (n c : Nat) (l : List Int) (B : Option Addr) (n' c' : Nat) (m : List Int) (w : World) (hS : Wd.Sl w .i64 A n c l) (hF : Wd.Fits .i64 l) (hT : Wd.Sl w .i64 B n' c' m) (hG : Wd.Fits .i64 m) :
    Calls Try.prog 8 #[.slice A n c, .slice B n' c'] w fun e w' => e = .returned (.bool true) ∧ Below w.heap.size w w' := by
  have hcap := hS.cap
  have hmax := hS.max
  have hcap' := hT.cap
  have hmax' := hT.max
  unfold maxLen at hmax hmax'
  rcases (show 300 < n ∨ (n ≤ 300 ∧ 300 < n') ∨ (n ≤ 300 ∧ n' ≤ 300) by omega) with h | ⟨h, h2⟩ | ⟨h, h2⟩
  · go_enter Try.func8, Try.ntmps8
    go_wp2_with fail
    refine (awake_any w).mono ?_
    rintro e w1 ⟨rfl, hB⟩
    go_wp2_with fail
    go_ret
    exact ⟨rfl, hB⟩
  · go_enter Try.func8, Try.ntmps8
    go_wp2_with fail
    refine (awake_any w).mono ?_
    rintro e w1 ⟨rfl, hB⟩
    go_wp2_with fail
    go_ret
    exact ⟨rfl, hB⟩
  · exact runsJoin_ok A n c l B n' c' m w hS (Wd.fits_of hF) hT (Wd.fits_of hG) h h2
end Lw
end Go.Proofs.Ytejhnmahmnbmkaa
