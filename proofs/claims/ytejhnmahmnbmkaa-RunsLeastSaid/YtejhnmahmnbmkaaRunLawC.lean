/- The walk of the statement RunsLeast of layer 3. -/
import Derived.Test.YtejhnmahmnbmkaaRunAwake
import Derived.Test.YtejhnmahmnbmkaaNumRef
import Derived.Maps.AppendAt
namespace Go.Proofs.Ytejhnmahmnbmkaa
open Go.RowKit
namespace Lw
open Rc Nc

/-! ### The numbers -/
theorem vd_small (n : Int) (h0 : 0 ≤ n) (h : n ≤ 4096) : (Nm.vd n).length ≤ 2 := by
  unfold Nm.vd
  by_cases q : n < 128
  · rw [Nm.vdF_lo _ _ q]; simp
  · rw [Nm.vdF_hi _ _ q, Nm.vdF_lo _ _ (by omega)]; simp
theorem enc_plain (l : List Int) (h : l.length ≤ 4096) : (Rn.enc l).length ≤ 3 + (Rn.plain l).length := by
  unfold Rn.enc
  rw [Rn.block_len]
  have h1 := Rn.bi_least l 3 0 (by omega)
  have h2 := vd_small l.length (by omega) (by omega)
  have h3 : (Rn.body l 0).length = (Rn.plain l).length := rfl
  omega
theorem enc_same (v : Int) (n : Nat) (h0 : 1 ≤ n) (h : n ≤ 4096) : (Rn.enc (List.replicate n v)).length ≤ 15 := by
  unfold Rn.enc
  rw [Rn.block_len]
  have h1 := Rn.bi_least (List.replicate n v) 3 1 (by omega)
  have h2 := vd_small (List.replicate n v).length (by omega) (by simp; omega)
  have e : Rn.runs (List.replicate n v) = [(v, (n : Int))] := by
    have h := Rn.runs_row [] v (n - 1) (Rn.apart_nil v)
    rw [List.nil_append, show n - 1 + 1 = n by omega] at h
    exact h
  have h3 : (Rn.body (List.replicate n v) 1).length ≤ 12 := by
    show (Rn.runB (Rn.runs (List.replicate n v))).length ≤ 12
    rw [e]
    have a := (Nm.vd_len (Nm.zz v)).2
    have b := vd_small (n : Int) (by omega) (by omega)
    simp [Rn.runB]
    omega
  omega
/-- v, v + 1, .., as they wrap round. -/
def stepsL (v : Int) (n : Nat) : List Int := (List.range n).map fun i : Nat => Rn.wr (v + (i : Int))
theorem stepsL_len (v : Int) (n : Nat) : (stepsL v n).length = n := by simp [stepsL]
theorem stepsL_next (v : Int) (n : Nat) : stepsL v (n + 1) = stepsL v n ++ [Rn.wr (v + (n : Int))] := by
  unfold stepsL; rw [List.range_succ, List.map_append]; rfl
theorem stepsL_fits (v : Int) (n : Nat) : Rn.Fits (stepsL v n) := fun x hx => by
  obtain ⟨i, _, rfl⟩ := List.mem_map.1 hx
  exact Rn.wr_fit _
theorem wr_step (v : Int) (i : Int) : Rn.wr (Rn.wr (v + (i + 1)) - Rn.wr (v + i)) = 1 := by unfold Rn.wr; omega
theorem dlF_app (l m : List Int) : ∀ p, Rn.dlF p (l ++ m) = Rn.dlF p l ++ Rn.dlF (l.getLast?.getD p) m := by
  induction l with
  | nil => intro p; rfl
  | cons x l ih =>
    intro p
    rw [List.cons_append, Rn.dlF, ih x, Rn.dlF, List.cons_append]
    congr 2
    cases l with
    | nil => rfl
    | cons y l => rw [List.getLast?_cons_cons, List.getLast?_eq_some_getLast (by simp)]; rfl
theorem plain_steps (v : Int) : ∀ n : Nat, (Rn.plain (Rn.deltas (stepsL v n))).length ≤ 10 + n := by
  have h1 : (Nm.vd (Nm.zz 1)).length = 1 := by decide
  intro n
  induction n with
  | zero => simp [stepsL, Rn.deltas, Rn.dlF, Rn.plain]
  | succ n ih =>
    rw [stepsL_next, Rn.deltas, dlF_app]
    cases n with
    | zero =>
      have := (Nm.vd_len (Nm.zz (Rn.wr (Rn.wr (v + (0 : Nat)) - 0)))).2
      simp [stepsL, Rn.dlF, Rn.plain] at this ⊢
      omega
    | succ n =>
      have e : (stepsL v (n + 1)).getLast?.getD 0 = Rn.wr (v + (n : Int)) := by rw [stepsL_next]; simp
      rw [e, Rn.plain_app, List.length_append]
      have e2 : Rn.dlF (Rn.wr (v + (n : Int))) [Rn.wr (v + ((n + 1 : Nat) : Int))] = [1] := by
        rw [Rn.dlF, Rn.dlF, show ((n + 1 : Nat) : Int) = (n : Int) + 1 by omega, wr_step]
      rw [e2]
      have e3 : (Rn.plain [1]).length = 1 := by decide
      rw [e3]
      have := ih
      rw [Rn.deltas] at this
      omega
theorem enc_steps (v : Int) (n : Nat) (h : n ≤ 4096) : (Rn.enc (stepsL v n)).length ≤ 13 + n := by
  unfold Rn.enc
  rw [Rn.block_len]
  have h1 := Rn.bi_least (stepsL v n) 3 2 (by omega)
  have h2 := vd_small (stepsL v n).length (by omega) (by rw [stepsL_len]; omega)
  have h3 := plain_steps v n
  have h4 : (Rn.body (stepsL v n) 2).length = (Rn.plain (Rn.deltas (stepsL v n))).length := rfl
  omega

/-- append of one element behind a row of the call's own: and where the outcome lies. -/
theorem wpList_app1 {P : Program} (w : World) {ops : Array Oper} {rest : List Oper} {o : Oper} {a : Act} {Q : Exit → Act → World → Prop} (hgd : o.guard = none) (s x : Operand) (t : TypeId)
    (ho : o.op = .call { callee := .builtin .append, args := #[s, x], argTypes := #[t, t] })
    (B : Nat) (e : TypeId) (i : TypeInfo) (z : Value) (k : IntKind) (bytes : Nat) (ht : P.underlying t = some (.slice e)) (hi : P.info? e = some i) (hz : i.zero = some z)
    (hsize : i.size = 1) (hby : i.bytes = bytes) (hzs : z.cells.size = 1)
    (v : Value) (xs : List Int) (hs : a.eval s = v) (hown : w.ownsRow B e 1 v xs.length (xs.map (Value.int k)))
    (g c : Nat) (y : Int) (hx : a.eval x = .slice (some ⟨g, 0, none⟩) 1 c) (hr : w.cell? ⟨g, 0, none⟩ = some (.int k y))
    (hbytes : (xs.length + 1) * bytes ≤ 140737488355328) (h63 : xs.length + 1 ≤ maxLen) (hB : B ≤ w.heap.size)
    (h : ∀ v' w', w'.ownsRow B e 1 v' (xs ++ [y]).length ((xs ++ [y]).map (Value.int k)) → w.grownBy w' v.ownBlock → (v'.ownBlock = v.ownBlock ∨ v'.ownBlock = some w.heap.size) → wpList P ops Q rest (a.put o.dst v') w') : wpList P ops Q (o :: rest) a w := by
  refine wpList_plain hgd fun K hK => ?_
  obtain ⟨v', w', hrun, h2, h3, _, h5⟩ := run_append_own_at (P := P) w B t o.type e i z 1 bytes ht hi hz hsize hby hzs (by omega) v xs.length _ hown ⟨g, 0, none⟩ 1 c [.int k y] (by simp)
    (fun j u hu => by
      have hj : j < 1 := by simpa using (List.getElem?_eq_some_iff.1 hu).1
      obtain rfl : j = 0 := by omega
      simp only [List.getElem?_cons_zero, Option.some.injEq] at hu
      rw [Addr.add_lit, Nat.zero_add, hr, hu])
    (by intro u hu; simp at hu; subst hu; rfl) h63 hbytes hB
  unfold Oper.wp
  simp [execOp, ho, resolve, invoke, builtin, hs, hx, hrun, Result.andThen]
  exact hK _ _ (h v' w' (by simpa using h2) h3 h5)
theorem new_cell (w : World) (x : Value) (e : TypeId) : (w.alloc (.cells #[x] e)).cell? ⟨w.heap.size, 0, none⟩ = some x := cell_of_row _ _ _ _ _ _ (heap_alloc_new w _)
/-- Two rows that are not one. -/
def Two (s t : Value) : Prop := ∀ g, s.ownBlock = some g → t.ownBlock ≠ some g
theorem Two.kept {w w' : World} {s t : Value} {B : Nat} {e : TypeId} {size n : Nat} {xs : List Value} (h : Two s t) (ht : w.ownsRow B e size t n xs) (hg : w.grownBy w' s.ownBlock) : w'.ownsRow B e size t n xs := by
  refine ht.kept hg ?_
  rcases hb : t.ownBlock with _ | g
  · exact .inl rfl
  · exact .inr fun e => h g e.symm hb
theorem Two.symm {s t : Value} (h : Two s t) : Two t s := fun g h1 h2 => h g h2 h1
theorem Two.next {w : World} {s s' t : Value} {B : Nat} {e : TypeId} {size n : Nat} {xs : List Value} (h : Two s t) (ht : w.ownsRow B e size t n xs) (hs : s'.ownBlock = s.ownBlock ∨ s'.ownBlock = some w.heap.size) : Two s' t := fun g h1 h2 => by
  rcases hs with e | e
  · exact h g (by rw [← e]; exact h1) h2
  · rw [h1] at e
    have := (ht.lt g h2).2
    simp at e
    omega

set_option maxRecDepth 100000 in
set_option maxHeartbeats 4000000 in
theorem runsLeast_ok (A : Option Addr) (m c : Nat) (l : List Int) (v : Int) (N : Nat) (w : World) (hS : Wd.Sl w .i64 A m c l) (hF : Rn.Fits l) (hm : m ≤ 600) (hv1 : -9223372036854775808 ≤ v) (hv2 : v ≤ 9223372036854775807) (hN1 : 1 ≤ N) (hN2 : N ≤ 4096) :
    Calls Try.prog 6 #[.slice A m c, .int .i64 v, .int .i64 N] w fun e w' => e = .returned (.bool true) ∧ Below w.heap.size w w' := by
  obtain ⟨i0, hi, hz0, hz1, hz2⟩ := info_parts info_int
  have hl := hS.len
  have hcap := hS.cap
  have c1 := fun w hS => encode_ok A m c l w hS (by omega) hF
  have c2 := fun D k e w hS hm => encode_ok D k e (List.replicate N v) w hS hm (fun x hx => by rw [List.eq_of_mem_replicate hx]; exact ⟨hv1, hv2⟩)
  have c3 := fun D k e w hS hm => encode_ok D k e (stepsL v N) w hS hm (stepsL_fits v N)
  have b1 := enc_plain l (by omega)
  have b2 := enc_same v N hN1 hN2
  have b3 := enc_steps v N hN2
  have hpl := (Rn.plain_len l).2
  have hp2 : (Rn.plain l).length ≤ 6000 := by omega
  generalize Rn.enc l = bs1 at *
  generalize Rn.enc (List.replicate N v) = bs2 at *
  generalize Rn.enc (stepsL v N) = bs3 at *
  have C1 := Lib.hid c1
  have C2 := Lib.hid c2
  have C3 := Lib.hid c3
  have Hl := Lib.hid hl
  have HF := Lib.hid hF
  have j1 : ¬ ((N : Int) < 1) := by omega
  have j2 : ¬ ((4096 : Int) < (N : Int)) := by omega
  clear c1 c2 c3 hl hF hpl
  go_enter Try.func6, Try.ntmps6
  go_wp2_with fail
  refine (awake_any w).mono ?_
  rintro e w1 ⟨rfl, hB⟩
  have hS1 := hS.below hB
  clear hS
  go_wp2_with fail
  refine (C1.out w1 hS1).mono ?_
  rintro e w2 ⟨A2, n2, k2, rfl, hS2, hB2⟩
  have hW2 : Below w.heap.size w w2 := hB.trans (hB2.mono hB.size)
  have hS12 := hS1.below hB2
  have hn2 : n2 ≤ 3 + (Rn.plain l).length := by rw [hS2.len]; exact b1
  clear hB hS1 hB2 C1 hS2
  go_wp2_with fail
  go_loopw [10, 11] (fun p i wr => ∃ k L : Nat, i = .int .i64 k ∧ k ≤ m ∧ p = .int .i64 L ∧ L ≤ 10000 ∧ Hid (L = 3 + (Rn.plain (l.take k)).length) ∧ Wd.Sl wr .i64 A m c l ∧ Below w.heap.size w wr) (fun _ i _ => m - (intOf i).toNat)
  case atStart => exact ⟨0, 3, rfl, Nat.zero_le _, rfl, by omega, Lib.hid rfl, hS12, hW2⟩
  case round =>
    clear hS12 hW2
    obtain ⟨k, L, rfl, hk, rfl, hL, hL2, hSr, hB⟩ := hrel
    obtain ⟨wo, rfl⟩ : ∃ wo : World, wo = wr := ⟨_, rfl⟩
    by_cases hlt : k < m
    · have hkl : k < l.length := by rw [← Hl.out]; exact hlt
      obtain ⟨b, o, rfl, hbB, hcell⟩ := hSr.rd k hkl
      have hx := Wd.fit_get HF.out k hkl
      have hnx := congrArg List.length (Rn.plain_next l k hkl)
      rw [List.length_append] at hnx
      have hle : (Rn.plain (l.take (k + 1))).length ≤ (Rn.plain l).length := by
        have h := congrArg List.length (congrArg Rn.plain (List.take_append_drop (k + 1) l))
        rw [Rn.plain_app, List.length_append] at h
        omega
      obtain ⟨x, hx'⟩ : ∃ x, x = l.getD k 0 := ⟨_, rfl⟩
      rw [← hx'] at hcell hx hnx
      have i1 : (k : Int) < (m : Int) := by omega
      have hvl := (Nm.vd_len (Nm.zz x)).2
      obtain ⟨V, hV⟩ : ∃ V, V = (Nm.vd (Nm.zz x)).length := ⟨_, rfl⟩
      rw [← hV] at hvl hnx
      have hLn : L + V = 3 + (Rn.plain (l.take (k + 1))).length := by have := hL2.out; omega
      have HLn := Lib.hid hLn
      have hL3 : L + V ≤ 10000 := by omega
      have HV := Lib.hid hV
      obtain ⟨hx1, hx2⟩ := hx
      clear hx' hnx hV hLn hle
      go_wp2_with fail
      refine (refPut_any x wo hx1 hx2).mono ?_
      rintro e w3 ⟨A3, n3, c3, rfl, hS3, hB3⟩
      obtain rfl : n3 = V := hS3.len.trans HV.out.symm
      go_wp2_with fail
      go_roundw
      case rel => exact ⟨k + 1, L + n3, by go_num, by omega, by go_num, hL3, HLn, hSr.below hB3, hB.trans (hB3.mono hB.size)⟩
      case measure => simp [intOf]; omega
    · have hLL : n2 ≤ L := by
        have h := hL2.out
        rw [List.take_of_length_le (by have := Hl.out; omega)] at h
        omega
      have HW := Lib.hid hB
      clear hL2 hSr hB
      go_wp2_with fail
      go_loopw [12, 13, 14] (fun s t i wr => ∃ k : Nat, i = .int .i64 k ∧ k ≤ N ∧ wr.ownsRow wo.heap.size 3 1 s (List.replicate k v).length ((List.replicate k v).map (Value.int .i64)) ∧ wr.ownsRow wo.heap.size 3 1 t (stepsL v k).length ((stepsL v k).map (Value.int .i64)) ∧ Two s t ∧ Below wo.heap.size wo wr) (fun _ _ i _ => N - (intOf i).toNat)
      case atStart => exact ⟨0, rfl, Nat.zero_le _, World.ownsRow_nil _ _ _ _, World.ownsRow_nil _ _ _ _, fun g h => by simp [Value.ownBlock] at h, Below.refl _ _⟩
      case round =>
        obtain ⟨k, rfl, hk, hs, ht, h2, hB⟩ := hrel
        have hsz := hB.size
        by_cases hlt2 : k < N
        · have l1 : (List.replicate k v).length ≤ 4096 := by simp; omega
          have l2 : (stepsL v k).length ≤ 4096 := by rw [stepsL_len]; omega
          have e1 : List.replicate (k + 1) v = List.replicate k v ++ [v] := List.replicate_succ'
          have e2 := stepsL_next v k
          rw [Wd.wr64] at e2
          have E1 := Lib.hid e1
          have E2 := Lib.hid e2
          generalize List.replicate k v = rs at *
          generalize stepsL v k = ss at *
          obtain ⟨wq, rfl⟩ : ∃ wq : World, wq = wr := ⟨_, rfl⟩
          clear e1 e2
          go_wp2_with (first | (at_builtin; refine wpList_app1 _ rfl (.tmp 60) (.tmp 62) 22 rfl wo.heap.size 3 i0 _ .i64 8 Try.underlying22 hi hz0 hz1 hz2 rfl _ rs rfl (hs.alloc _) wq.heap.size 1 v rfl (new_cell _ _ _) (by omega) (by unfold maxLen; omega) (by simp; omega) ?_; intro s' w5 hs5 hg5 ha5; have ht5 := h2.kept (ht.alloc _) hg5; have h25 := h2.next (ht.alloc _) ha5; have hB5 : Below wo.heap.size wo w5 := (hB.alloc hsz _).grown hg5 (by simp; omega) (fun g hg => (hs.lt g hg).1); have hsz5 := hB5.size) | (at_builtin; refine wpList_app1 _ rfl (.tmp 64) (.tmp 68) 22 rfl wo.heap.size 3 i0 _ .i64 8 Try.underlying22 hi hz0 hz1 hz2 rfl _ ss rfl (ht5.alloc _) w5.heap.size 1 (wrap64 (v + (k : Int))) rfl (new_cell _ _ _) (by omega) (by unfold maxLen; omega) (by simp; omega) ?_; intro t' w6 ht6 hg6 ha6; have hs6 := h25.symm.kept (hs5.alloc _) hg6; have h26 := (h25.symm.next (hs5.alloc _) ha6).symm; have hB6 : Below wo.heap.size wo w6 := (hB5.alloc hsz5 _).grown hg6 (by simp; omega) (fun g hg => (ht5.lt g hg).1)))
          go_roundw
          case rel => exact ⟨k + 1, by go_num, by omega, by rw [E1.out]; exact hs6, by rw [E2.out]; exact ht6, h26, hB6⟩
          case measure => simp [intOf]; omega
        · obtain rfl : k = N := by omega
          obtain ⟨As, ns, cs, rfl, hSs⟩ := Wd.Sl.of_own hs
          obtain ⟨At, nt, ct, rfl, hSt⟩ := Wd.Sl.of_own ht
          have q1 : ns ≤ 4096 := by rw [hSs.len]; simp; omega
          have q2 : nt ≤ 4096 := by rw [hSt.len, stepsL_len]; omega
          have hW : Below w.heap.size w wr := HW.out.trans (hB.mono HW.out.size)
          obtain ⟨wq, rfl⟩ : ∃ wq : World, wq = wr := ⟨_, rfl⟩
          clear hs ht h2 hB
          go_wp2_with fail
          refine (C2.out As ns cs wq hSs q1).mono ?_
          rintro e w7 ⟨A7, n7, k7, rfl, hS7, hB7⟩
          have hn7 : n7 ≤ 15 := by rw [hS7.len]; exact b2
          have hSt7 := hSt.below hB7
          have hW7 : Below w.heap.size w w7 := hW.trans (hB7.mono hW.size)
          clear hSs hSt hB7 hS7 hW
          go_wp2_with fail
          refine (C3.out At nt ct w7 hSt7 q2).mono ?_
          rintro e w8 ⟨A8, n8, k8, rfl, hS8, hB8⟩
          have hn8 : n8 ≤ 13 + k := by rw [hS8.len]; exact b3
          have hn8' : (n8 : Int) ≤ 13 + (k : Int) := by omega
          have hW8 : Below w.heap.size w w8 := hW7.trans (hB8.mono hW7.size)
          clear hB8 hS8 hW7 hSt7
          go_wp2_with fail
          go_ret
          exact ⟨rfl, hW8⟩

theorem runsLeast_walk (A : Option Addr) (m c : Nat) (l : List Int) (v n : Int) (w : World) (hS : Wd.Sl w .i64 A m c l) (hF : Wd.Fits .i64 l) (hv1 : -9223372036854775808 ≤ v) (hv2 : v ≤ 9223372036854775807) (_hn1 : -9223372036854775808 ≤ n) (_hn2 : n ≤ 9223372036854775807) :
    Calls Try.prog 6 #[.slice A m c, .int .i64 v, .int .i64 n] w fun e w' => e = .returned (.bool true) ∧ Below w.heap.size w w' := by
  have hcap := hS.cap
  have hmax := hS.max
  unfold maxLen at hmax
  rcases (show 600 < m ∨ (m ≤ 600 ∧ n < 1) ∨ (m ≤ 600 ∧ 1 ≤ n ∧ 4096 < n) ∨ (m ≤ 600 ∧ 1 ≤ n ∧ n ≤ 4096) by omega) with h | ⟨h, h2⟩ | ⟨h, h2, h3⟩ | ⟨h, h2, h3⟩
  · go_enter Try.func6, Try.ntmps6
    go_wp2_with fail
    refine (awake_any w).mono ?_
    rintro e w1 ⟨rfl, hB⟩
    go_wp2_with fail
    go_ret
    exact ⟨rfl, hB⟩
  · go_enter Try.func6, Try.ntmps6
    go_wp2_with fail
    refine (awake_any w).mono ?_
    rintro e w1 ⟨rfl, hB⟩
    go_wp2_with fail
    go_ret
    exact ⟨rfl, hB⟩
  · go_enter Try.func6, Try.ntmps6
    go_wp2_with fail
    refine (awake_any w).mono ?_
    rintro e w1 ⟨rfl, hB⟩
    go_wp2_with fail
    go_ret
    exact ⟨rfl, hB⟩
  · obtain ⟨N, rfl⟩ := Int.eq_ofNat_of_zero_le (show 0 ≤ n by omega)
    exact runsLeast_ok A m c l v N w hS (Wd.fits_of hF) h hv1 hv2 (by omega) (by omega)
end Lw
end Go.Proofs.Ytejhnmahmnbmkaa
