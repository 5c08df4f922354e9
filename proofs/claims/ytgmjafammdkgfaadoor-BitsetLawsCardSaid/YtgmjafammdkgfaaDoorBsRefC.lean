/- What the reference of layer 9 does: With, Of, Or. -/
import Derived.Test.YtgmjafammdkgfaaDoorBsRefB
namespace Go.Proofs.YtgmjafammdkgfaaDoor
set_option maxRecDepth 20000
open Go.RowKit Go.Maps
namespace Bx
open Bs
theorem ins_mid {i : Int} : ∀ {P : List Int} (_ : ∀ x ∈ P, x < i) {x : Int} (_ : ¬ x < i) (Q : List Int), ins i (P ++ x :: Q) = P ++ i :: x :: Q
  | [], _, x, h, Q => by show ins i (x :: Q) = _; rw [ins, if_neg h]; rfl
  | a :: P, hP, x, h, Q => by
    show ins i (a :: (P ++ x :: Q)) = _
    rw [ins, if_pos (hP a (by simp)), ins_mid (fun y hy => hP y (by simp [hy])) h Q]
    rfl
theorem ins_end {i : Int} : ∀ {P : List Int} (_ : ∀ x ∈ P, x < i), ins i P = P ++ [i]
  | [], _ => rfl
  | a :: P, hP => by
    rw [ins, if_pos (hP a (by simp)), ins_end fun y hy => hP y (by simp [hy])]
    rfl
theorem ins_app {i : Int} : ∀ {P : List Int} (_ : ∃ x ∈ P, ¬ x < i) (Q : List Int), ins i (P ++ Q) = ins i P ++ Q
  | [], h, _ => by obtain ⟨x, hx, _⟩ := h; simp at hx
  | a :: P, h, Q => by
    show ins i (a :: (P ++ Q)) = _
    rw [ins, ins]
    by_cases q : a < i
    · rw [if_pos q, if_pos q, ins_app (P := P) (by
        obtain ⟨x, hx, hn⟩ := h
        rcases List.mem_cons.1 hx with e | e
        · rw [e] at hn; exact absurd q hn
        · exact ⟨x, e, hn⟩) Q]
      rfl
    · rw [if_neg q, if_neg q]
      rfl
/-- Has the number come already, behind k of them? What has come. -/
def dn (X : List Int) (i : Int) (k : Nat) : Bool := (X.take k).any fun x => decide (i < x)
def outW (X : List Int) (i : Int) (k : Nat) : List Int := if dn X i k then ins i (X.take k) else X.take k
theorem dn_next {X : List Int} {i : Int} {k : Nat} (h : k < X.length) : dn X i (k + 1) = (dn X i k || decide (i < X.getD k 0)) := by
  unfold dn
  rw [take_next h, List.any_append]
  simp
theorem dn_no {X : List Int} {i : Int} {k : Nat} (hi : i ∉ X) (h : dn X i k = false) : ∀ x ∈ X.take k, x < i := by
  intro x hx
  unfold dn at h
  rw [List.any_eq_false] at h
  have h1 := h x hx
  have h2 : x ≠ i := fun e => hi (by rw [← e]; exact List.mem_of_mem_take hx)
  simp at h1
  omega
theorem dn_yes {X : List Int} {i : Int} {k : Nat} (h : dn X i k = true) : ∃ x ∈ X.take k, ¬ x < i := by
  unfold dn at h
  rw [List.any_eq_true] at h
  obtain ⟨x, hx, h1⟩ := h
  exact ⟨x, hx, by simp at h1; omega⟩
theorem outW_yes {X : List Int} {i : Int} {k : Nat} (h : k < X.length) (hd : dn X i k = true) : dn X i (k + 1) = true ∧ outW X i (k + 1) = outW X i k ++ [X.getD k 0] := by
  have e : dn X i (k + 1) = true := by rw [dn_next h, hd]; rfl
  refine ⟨e, ?_⟩
  unfold outW
  rw [if_pos e, if_pos hd, take_next h, ins_app (dn_yes hd)]
theorem outW_now {X : List Int} {i : Int} {k : Nat} (hi : i ∉ X) (h : k < X.length) (hd : dn X i k = false) (hx : i < X.getD k 0) : dn X i (k + 1) = true ∧ outW X i (k + 1) = (outW X i k ++ [i]) ++ [X.getD k 0] := by
  have e : dn X i (k + 1) = true := by rw [dn_next h, hd]; simpa using hx
  refine ⟨e, ?_⟩
  unfold outW
  rw [if_pos e, if_neg (by rw [hd]; simp), take_next h, ins_mid (dn_no hi hd) (by omega)]
  simp
theorem outW_not {X : List Int} {i : Int} {k : Nat} (h : k < X.length) (hd : dn X i k = false) (hx : ¬ i < X.getD k 0) : dn X i (k + 1) = false ∧ outW X i (k + 1) = outW X i k ++ [X.getD k 0] := by
  have e : dn X i (k + 1) = false := by rw [dn_next h, hd]; simpa using hx
  refine ⟨e, ?_⟩
  unfold outW
  rw [if_neg (by rw [e]; simp), if_neg (by rw [hd]; simp), take_next h]
theorem outW_end {X : List Int} {i : Int} (hi : i ∉ X) : ins i X = if dn X i X.length then outW X i X.length else outW X i X.length ++ [i] := by
  unfold outW
  by_cases e : dn X i X.length = true
  · rw [if_pos e, if_pos e, List.take_length]
  · have e2 : dn X i X.length = false := by simpa using e
    rw [if_neg e, if_neg e, List.take_length]
    exact ins_end (by have := dn_no hi e2; rwa [List.take_length] at this)
theorem outW_len (X : List Int) (i : Int) (k : Nat) : (outW X i k).length ≤ X.length + 1 := by
  have h2 := List.length_take_le' k X
  unfold outW
  split
  · rw [ins_len]; omega
  · omega
set_option maxHeartbeats 2000000 in
theorem refWith_any (A : Option Addr) (n c : Nat) (X : List Int) (i : Int) (w : World) (hS : Wd.Sl w .i64 A n c X) (hn : n ≤ 100000) :
    Calls Tryd.prog 14 #[.slice A n c, .int .i64 i] w (Wd.Out w .i64 (withL X i)) := by
  have Hm := Lib.hid hS.len
  have Hr := Lib.hid hS.rd
  have HS := Lib.hid hS
  have Hmay := may_any i w
  have Hhas := refHas_any A n c X i w hS
  have hcap := hS.cap
  have hmx := hS.max
  unfold maxLen at hmx
  obtain ⟨Z, hZ⟩ : ∃ Z, Z = withL X i := ⟨_, rfl⟩
  rw [← hZ]
  have HZ := Lib.hid hZ
  clear hS hZ
  by_cases ha : adm i
  case neg =>
    rw [decide_eq_false ha] at Hmay
    have Hmay := Lib.hid Hmay
    have e := Lib.hid (show Z = X by rw [HZ.out]; unfold withL; rw [if_neg fun h => ha h.1])
    clear Hhas ha
    go_enter Tryd.func14, Tryd.ntmps14
    go_wp2_with fail
    refine Hmay.out.mono ?_
    rintro e' w1 ⟨rfl, hq⟩
    have hq' := hq.symm
    clear hq
    subst hq'
    go_wp2_with fail
    go_ret
    exact ⟨_, _, _, rfl, by rw [e.out]; exact HS.out, Below.refl _ _⟩
  rw [decide_eq_true ha] at Hmay
  have Hmay := Lib.hid Hmay
  by_cases hi : i ∈ X
  · rw [decide_eq_true hi] at Hhas
    have Hhas := Lib.hid Hhas
    have e := Lib.hid (show Z = X by rw [HZ.out]; unfold withL; rw [if_neg fun h => h.2 hi])
    clear ha hi
    go_enter Tryd.func14, Tryd.ntmps14
    go_wp2_with fail
    refine Hmay.out.mono ?_
    rintro e' w1 ⟨rfl, hq⟩
    have hq' := hq.symm
    clear hq
    subst hq'
    go_wp2_with fail
    refine Hhas.out.mono ?_
    rintro e' w1 ⟨rfl, hq⟩
    have hq' := hq.symm
    clear hq
    subst hq'
    go_wp2_with fail
    go_ret
    exact ⟨_, _, _, rfl, by rw [e.out]; exact HS.out, Below.refl _ _⟩
  rw [decide_eq_false hi] at Hhas
  have Hhas := Lib.hid Hhas
  have Hend := Lib.hid (show Z = if dn X i n then outW X i n else outW X i n ++ [i] by rw [HZ.out, Hm.out, ← outW_end hi]; unfold withL; rw [if_pos ⟨ha, hi⟩])
  have Hi := Lib.hid hi
  have HL := Lib.hid fun k => (by have := outW_len X i k; have := Hm.out; omega : (outW X i k).length ≤ 100001)
  clear ha hi
  go_enter Tryd.func14, Tryd.ntmps14
  go_wp2_with fail
  refine Hmay.out.mono ?_
  rintro e' w1 ⟨rfl, hq⟩
  have hq' := hq.symm
  clear hq
  subst hq'
  go_wp2_with fail
  refine Hhas.out.mono ?_
  rintro e' w1 ⟨rfl, hq⟩
  have hq' := hq.symm
  clear hq
  subst hq'
  go_wp2_with fail
  go_loopw [5, 6, 7] (fun o d j wr => ∃ (k : Nat) (b : Bool), d = .bool b ∧ j = .int .i64 k ∧ k ≤ n ∧ Hid (b = dn X i k) ∧ Hid (Rw wr w.heap.size o (outW X i k)) ∧ Below w.heap.size w wr) (fun _ _ j _ => n - (intOf j).toNat)
  case atStart => exact ⟨0, false, rfl, rfl, Nat.zero_le _, Lib.hid (by simp [dn]), Lib.hid (by unfold outW; simpa [dn] using Rw.nil _ _), Below.refl _ _⟩
  case round =>
    obtain ⟨k, bb, rfl, rfl, hk, hbd, hR, hB⟩ := hrel
    by_cases hlt : k < n
    · have hkl : k < X.length := by rw [← Hm.out]; exact hlt
      obtain ⟨b, o, hA, hb, hc⟩ := Hr.out k hkl
      subst hA
      have hy := fun h => outW_yes (i := i) hkl h
      have hw := fun h => outW_now Hi.out hkl h
      have hz := fun h => outW_not (i := i) hkl h
      rw [← hbd.out] at hy hw hz
      obtain ⟨x, hx⟩ : ∃ x, x = X.getD k 0 := ⟨_, rfl⟩
      rw [← hx] at hc hy hw hz
      have Cx := Lib.hid fun w' (hb' : Below w.heap.size w w') => (hb'.cell (p := ⟨b, o + k, none⟩) hb).trans hc
      have Hy := Lib.hid hy
      have Hw := Lib.hid hw
      have Hz := Lib.hid hz
      have Hlt := Lib.hid hlt
      have c0 := Cx.out wr hB
      have c1 := (World.cell?_alloc_lt wr (.cells #[.int .i64 x] 3) ⟨b, o + k, none⟩ (Nat.lt_of_lt_of_le hb hB.size)).trans c0
      have Hlk := Lib.hid (HL.out k)
      clear hx hy hw hz hkl hc
      have hkI : (k : Int) < n := by omega
      cases bb with
      | true =>
        have Hs := Lib.hid (Hy.out rfl)
        go_wp2_with (at_builtin; refine wpList_app w rfl (.tmp 37) (.tmp 42) rfl wr u5 (outW X i k) rfl hR.out x rfl (by have := Hlk.out; omega) hB ?_; intro v' w' hR' hB')
        rw [← Hs.out.2] at hR'
        have HR' := Lib.hid hR'
        clear hR'
        go_roundw
        case rel => exact ⟨k + 1, true, by go_num, by go_num, by omega, Lib.hid Hs.out.1.symm, HR', hB'⟩
        case measure => simp [intOf]; omega
      | false =>
        by_cases hix : i < x
        · have Hs := Lib.hid (Hw.out rfl hix)
          have hL2 : ((outW X i k) ++ [i]).length ≤ 1000000 := by have := Hlk.out; simp; omega
          have HL2 := Lib.hid hL2
          clear hL2
          go_wp2_with (first
            | (at_builtin; refine wpList_app w rfl (.tmp 33) (.tmp 35) rfl wr u5 (outW X i k) rfl hR.out i rfl (by have := Hlk.out; omega) hB ?_; intro v1 w1 hR1 hB1; have HR1 := Lib.hid hR1; clear hR1; have c2 := Cx.out w1 hB1; have c3 := (World.cell?_alloc_lt w1 (.cells #[.int .i64 x] 3) ⟨b, o + k, none⟩ (Nat.lt_of_lt_of_le hb hB1.size)).trans c2)
            | (at_builtin; refine wpList_app w rfl (.tmp 37) (.tmp 42) rfl w1 v1 (outW X i k ++ [i]) rfl HR1.out x rfl HL2.out hB1 ?_; intro v' w' hR' hB'))
          rw [← Hs.out.2] at hR'
          have HR' := Lib.hid hR'
          clear hR'
          go_roundw
          case rel => exact ⟨k + 1, true, by go_num, by go_num, by omega, Lib.hid Hs.out.1.symm, HR', hB'⟩
          case measure => simp [intOf]; omega
        · have Hs := Lib.hid (Hz.out rfl hix)
          go_wp2_with (at_builtin; refine wpList_app w rfl (.tmp 37) (.tmp 42) rfl wr u5 (outW X i k) rfl hR.out x rfl (by have := Hlk.out; omega) hB ?_; intro v' w' hR' hB')
          rw [← Hs.out.2] at hR'
          have HR' := Lib.hid hR'
          clear hR'
          go_roundw
          case rel => exact ⟨k + 1, false, by go_num, by go_num, by omega, Lib.hid Hs.out.1.symm, HR', hB'⟩
          case measure => simp [intOf]; omega
    · have hkI : ¬ (k : Int) < n := by omega
      have hkn : k = n := by omega
      have Hb2 := Lib.hid (show bb = dn X i n by rw [← hkn]; exact hbd.out)
      have HR2 := Lib.hid (show Rw wr w.heap.size u5 (outW X i n) by rw [← hkn]; exact hR.out)
      have Hlk := Lib.hid (HL.out n)
      clear hkn hlt
      cases bb with
      | true =>
        have HO := Lib.hid (show Wd.Out w .i64 Z (.returned u5) wr by rw [Hend.out, ← Hb2.out]; exact HR2.out.out hB)
        go_wp2_with fail
        go_ret
        exact HO.out
      | false =>
        have HO := Lib.hid fun v' w' (h : Rw w' w.heap.size v' (outW X i n ++ [i])) (hb : Below w.heap.size w w') => (by rw [Hend.out, ← Hb2.out]; exact h.out hb : Wd.Out w .i64 Z (.returned v') w')
        go_wp2_with (at_builtin; refine wpList_app w rfl (.tmp 46) (.tmp 48) rfl wr u5 (outW X i n) rfl HR2.out i rfl (by have := Hlk.out; omega) hB ?_; intro v' w' hR' hB')
        have HR' := Lib.hid (HO.out v' w' hR' hB')
        go_ret
        exact HR'.out
theorem fold_len_le : ∀ (l X : List Int), (l.foldl withL X).length ≤ X.length + l.length
  | [], _ => by simp
  | i :: l, X => by
    have h := fold_len_le l (withL X i)
    have h1 := with_len X i
    rw [List.foldl_cons, List.length_cons]
    have h2 : (if adm i ∧ i ∉ X then 1 else 0 : Nat) ≤ 1 := by split <;> omega
    omega
theorem fold_next {l : List Int} {k : Nat} (X : List Int) (h : k < l.length) : (l.take (k + 1)).foldl withL X = withL ((l.take k).foldl withL X) (l.getD k 0) := by
  rw [take_next h, List.foldl_append]
  rfl
set_option maxHeartbeats 2000000 in
theorem refOf_any (A : Option Addr) (n c : Nat) (l : List Int) (w : World) (hS : Wd.Sl w .i64 A n c l) (hn : n ≤ 50000) :
    Calls Tryd.prog 10 #[.slice A n c] w (Wd.Out w .i64 (ofL l)) := by
  have Hm := Lib.hid hS.len
  have Hr := Lib.hid hS.rd
  have hcap := hS.cap
  have hmx := hS.max
  unfold maxLen at hmx
  obtain ⟨Z, hZ⟩ : ∃ Z, Z = ofL l := ⟨_, rfl⟩
  rw [← hZ]
  have HZ := Lib.hid (hZ.trans (show ofL l = (l.take n).foldl withL [] by rw [Hm.out, List.take_length]; rfl))
  have HL := Lib.hid fun k => (by have := fold_len_le (l.take k) []; have := List.length_take_le' k l; have := Hm.out; simp at *; omega : ((l.take k).foldl withL []).length ≤ 50000)
  clear hS hZ hn
  go_enter Tryd.func10, Tryd.ntmps10
  go_wp2_with fail
  go_loopw [3, 4] (fun o j wr => ∃ (k : Nat) (B : Option Addr) (m d : Nat), o = .slice B m d ∧ j = .int .i64 k ∧ k ≤ n ∧ Hid (Wd.Sl wr .i64 B m d ((l.take k).foldl withL [])) ∧ Below w.heap.size w wr) (fun _ j _ => n - (intOf j).toNat)
  case atStart => exact ⟨0, none, 0, 0, rfl, rfl, Nat.zero_le _, Lib.hid (by simpa using Wd.Sl.none_ _ _), Below.refl _ _⟩
  case round =>
    obtain ⟨k, B, m, d, rfl, rfl, hk, hT, hB⟩ := hrel
    by_cases hlt : k < n
    · have hkl : k < l.length := by rw [← Hm.out]; exact hlt
      obtain ⟨b, o, hA, hb, hc⟩ := Hr.out k hkl
      subst hA
      have hnx := fold_next [] hkl
      obtain ⟨x, hx⟩ : ∃ x, x = l.getD k 0 := ⟨_, rfl⟩
      rw [← hx] at hc hnx
      have c0 := (hB.cell (p := ⟨b, o + k, none⟩) hb).trans hc
      have Hc := refWith_any B m d _ x wr hT.out (by have := HL.out k; have := hT.out.len; omega)
      rw [← hnx] at Hc
      have Hc := Lib.hid Hc
      have hkI : (k : Int) < n := by omega
      clear hx hnx hkl hc
      go_wp2_with fail
      refine Hc.out.mono ?_
      rintro e' w1 ⟨B1, m1, d1, rfl, hS1, hB1⟩
      have HS1 := Lib.hid hS1
      have hb1 := hB.trans (hB1.mono hB.size)
      clear hS1 hB1
      go_wp2_with fail
      go_roundw
      case rel => exact ⟨k + 1, B1, m1, d1, by go_num, by go_num, by omega, HS1, hb1⟩
      case measure => simp [intOf]; omega
    · have hkI : ¬ (k : Int) < n := by omega
      have HO := Lib.hid (show Wd.Out w .i64 Z (.returned (.slice B m d)) wr from ⟨_, _, _, rfl, by rw [HZ.out, show n = k by omega]; exact hT.out, hB⟩)
      clear hlt
      go_wp2_with fail
      go_ret
      exact HO.out
set_option maxHeartbeats 2000000 in
theorem refOr_any (A B0 : Option Addr) (n c m0 d0 : Nat) (X l : List Int) (w : World) (hX : Wd.Sl w .i64 A n c X) (hS : Wd.Sl w .i64 B0 m0 d0 l) (hn : n ≤ 20000) (hm : m0 ≤ 20000) :
    Calls Tryd.prog 20 #[.slice A n c, .slice B0 m0 d0] w (Wd.Out w .i64 (orL X l)) := by
  have Hm := Lib.hid hS.len
  have Hr := Lib.hid hS.rd
  have hcap := hS.cap
  have hmx := hS.max
  unfold maxLen at hmx
  obtain ⟨Z, hZ⟩ : ∃ Z, Z = orL X l := ⟨_, rfl⟩
  rw [← hZ]
  have HZ := Lib.hid (hZ.trans (show orL X l = (l.take m0).foldl withL X by rw [Hm.out, List.take_length]; rfl))
  have HX := Lib.hid hX
  have HL := Lib.hid fun k => (by have := fold_len_le (l.take k) X; have := List.length_take_le' k l; have := Hm.out; have := HX.out.len; omega : ((l.take k).foldl withL X).length ≤ 50000)
  clear hS hZ hn hm hX
  go_enter Tryd.func20, Tryd.ntmps20
  go_wp2_with fail
  go_loopw [5, 6] (fun o j wr => ∃ (k : Nat) (B : Option Addr) (m d : Nat), o = .slice B m d ∧ j = .int .i64 k ∧ k ≤ m0 ∧ Hid (Wd.Sl wr .i64 B m d ((l.take k).foldl withL X)) ∧ Below w.heap.size w wr) (fun _ j _ => m0 - (intOf j).toNat)
  case atStart => exact ⟨0, A, n, c, rfl, rfl, Nat.zero_le _, Lib.hid (by simpa using HX.out), Below.refl _ _⟩
  case round =>
    obtain ⟨k, B, m, d, rfl, rfl, hk, hT, hB⟩ := hrel
    by_cases hlt : k < m0
    · have hkl : k < l.length := by rw [← Hm.out]; exact hlt
      obtain ⟨b, o, hA, hb, hc⟩ := Hr.out k hkl
      subst hA
      have hnx := fold_next X hkl
      obtain ⟨x, hx⟩ : ∃ x, x = l.getD k 0 := ⟨_, rfl⟩
      rw [← hx] at hc hnx
      have c0 := (hB.cell (p := ⟨b, o + k, none⟩) hb).trans hc
      have Hc := refWith_any B m d _ x wr hT.out (by have := HL.out k; have := hT.out.len; omega)
      rw [← hnx] at Hc
      have Hc := Lib.hid Hc
      have hkI : (k : Int) < m0 := by omega
      clear hx hnx hkl hc
      go_wp2_with fail
      refine Hc.out.mono ?_
      rintro e' w1 ⟨B1, m1, d1, rfl, hS1, hB1⟩
      have HS1 := Lib.hid hS1
      have hb1 := hB.trans (hB1.mono hB.size)
      clear hS1 hB1
      go_wp2_with fail
      go_roundw
      case rel => exact ⟨k + 1, B1, m1, d1, by go_num, by go_num, by omega, HS1, hb1⟩
      case measure => simp [intOf]; omega
    · have hkI : ¬ (k : Int) < m0 := by omega
      have HO := Lib.hid (show Wd.Out w .i64 Z (.returned (.slice B m d)) wr from ⟨_, _, _, rfl, by rw [HZ.out, show m0 = k by omega]; exact hT.out, hB⟩)
      clear hlt
      go_wp2_with fail
      go_ret
      exact HO.out
end Bx
end Go.Proofs.YtgmjafammdkgfaaDoor
