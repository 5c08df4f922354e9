/- What the reference of layer 9 does: Without, And, Not. -/
import Derived.Test.YtgmjafammdkgfaaDoorBsRef
namespace Go.Proofs.YtgmjafammdkgfaaDoor
set_option maxRecDepth 20000
open Go.RowKit Go.Maps
namespace Bx
open Bs
theorem filter_next {X : List Int} {k : Nat} (p : Int → Bool) (h : k < X.length) : (X.take (k + 1)).filter p = (X.take k).filter p ++ if p (X.getD k 0) then [X.getD k 0] else [] := by
  rw [take_next h, List.filter_append, List.filter_cons]
  simp
theorem filter_len {X : List Int} (p : Int → Bool) (k n : Nat) (h : n = X.length) (hn : n ≤ 1000000) : ((X.take k).filter p).length ≤ 1000000 := by
  have h1 := List.length_filter_le p (X.take k)
  have h2 := List.length_take_le k X
  rw [List.length_take] at h1
  omega
set_option maxHeartbeats 1000000 in
theorem refWithout_any (A : Option Addr) (n c : Nat) (X : List Int) (i : Int) (w : World) (hS : Wd.Sl w .i64 A n c X) (hn : n ≤ 1000000) :
    Calls Tryd.prog 16 #[.slice A n c, .int .i64 i] w (Wd.Out w .i64 (withoutL X i)) := by
  have Hm := Lib.hid hS.len
  have Hr := Lib.hid hS.rd
  have hcap := hS.cap
  have hmx := hS.max
  unfold maxLen at hmx
  have HO := Lib.hid fun (v : Value) (w' : World) (h : Rw w' w.heap.size v (X.filter fun x => decide (x ≠ i))) (hb : Below w.heap.size w w') => (Rw.out h hb : Wd.Out w .i64 (withoutL X i) (.returned v) w')
  obtain ⟨Z, hZ⟩ : ∃ Z, Z = withoutL X i := ⟨_, rfl⟩
  rw [← hZ] at HO ⊢
  obtain ⟨p, hp⟩ : ∃ p : Int → Bool, p = fun x => decide (x ≠ i) := ⟨_, rfl⟩
  rw [← hp] at HO
  have Hp := Lib.hid hp
  have HL := Lib.hid fun k => filter_len p k n Hm.out hn
  clear hS hZ hp hn
  go_enter Tryd.func16, Tryd.ntmps16
  go_wp2
  go_loopw [5, 6] (fun o j wr => ∃ k : Nat, j = .int .i64 k ∧ k ≤ n ∧ Hid (Rw wr w.heap.size o ((X.take k).filter p)) ∧ Below w.heap.size w wr) (fun _ j _ => n - (intOf j).toNat)
  case atStart => exact ⟨0, rfl, Nat.zero_le _, Lib.hid (by simpa using Rw.nil _ _), Below.refl _ _⟩
  case round =>
    obtain ⟨k, rfl, hk, hR, hB⟩ := hrel
    by_cases hlt : k < n
    · have hkl : k < X.length := by rw [← Hm.out]; exact hlt
      obtain ⟨b, o, hA, hb, hc⟩ := Hr.out k hkl
      subst hA
      have hnx := filter_next p hkl
      obtain ⟨x, hx⟩ : ∃ x, x = X.getD k 0 := ⟨_, rfl⟩
      rw [← hx] at hc hnx
      have Hnx := Lib.hid hnx
      have c0 := (hB.cell (p := ⟨b, o + k, none⟩) hb).trans hc
      clear hx hnx hkl hc
      by_cases hz : x = i
      · have hpx : p x = false := by rw [Hp.out]; simpa using hz
        have hR' := Lib.hid (show Rw wr w.heap.size u5 ((X.take (k + 1)).filter p) by rw [Hnx.out, hpx]; simpa using hR.out)
        have hz' : (x != i) = false := by simpa using hz
        clear hz hpx
        go_wp2
        go_roundw
        case rel => exact ⟨k + 1, by go_num, by omega, hR', hB⟩
        case measure => simp [intOf]; omega
      · have hpx : p x = true := by rw [Hp.out]; simpa using hz
        have hz' : (x != i) = true := by simpa using hz
        have Hpx := Lib.hid hpx
        have Hlk := Lib.hid (HL.out k)
        have c1 := (World.cell?_alloc_lt wr (.cells #[.int .i64 x] 3) ⟨b, o + k, none⟩ (Nat.lt_of_lt_of_le hb hB.size)).trans c0
        clear hz hpx
        go_wp2_with (at_builtin; refine wpList_app w rfl (.tmp 19) (.tmp 24) rfl wr u5 ((X.take k).filter p) rfl hR.out x rfl Hlk.out hB ?_; intro v' w' hR' hB')
        have HR' := Lib.hid (show Rw w' w.heap.size v' ((X.take (k + 1)).filter p) by rw [Hnx.out, Hpx.out]; exact hR')
        clear hR'
        go_roundw
        case rel => exact ⟨k + 1, by go_num, by omega, HR', hB'⟩
        case measure => simp [intOf]; omega
    · have hkI : ¬ (k : Int) < n := by omega
      have hR' := HO.out u5 wr (by have := hR.out; rwa [List.take_of_length_le (by rw [← Hm.out]; omega)] at this) hB
      have HR' := Lib.hid hR'
      clear hR'
      go_wp2
      go_ret
      exact HR'.out
set_option maxHeartbeats 1000000 in
theorem refAnd_any (A B : Option Addr) (n c m d : Nat) (X Y : List Int) (w : World) (hS : Wd.Sl w .i64 A n c X) (hT : Wd.Sl w .i64 B m d Y) (hn : n ≤ 1000000) :
    Calls Tryd.prog 18 #[.slice A n c, .slice B m d] w (Wd.Out w .i64 (andL X Y)) := by
  have Hm := Lib.hid hS.len
  have Hr := Lib.hid hS.rd
  have Hh := Lib.hid fun w' (hb : Below w.heap.size w w') i => refHas_any B m d Y i w' (hT.below hb)
  have hcap := hS.cap
  have hmx := hS.max
  unfold maxLen at hmx
  have HO := Lib.hid fun (v : Value) (w' : World) (h : Rw w' w.heap.size v (X.filter fun x => decide (x ∈ Y))) (hb : Below w.heap.size w w') => (Rw.out h hb : Wd.Out w .i64 (andL X Y) (.returned v) w')
  obtain ⟨Z, hZ⟩ : ∃ Z, Z = andL X Y := ⟨_, rfl⟩
  rw [← hZ] at HO ⊢
  obtain ⟨p, hp⟩ : ∃ p : Int → Bool, p = fun x => decide (x ∈ Y) := ⟨_, rfl⟩
  rw [← hp] at HO
  have Hp := Lib.hid hp
  have HL := Lib.hid fun k => filter_len p k n Hm.out hn
  clear hS hZ hp hn hT
  go_enter Tryd.func18, Tryd.ntmps18
  go_wp2
  go_loopw [5, 6] (fun o j wr => ∃ k : Nat, j = .int .i64 k ∧ k ≤ n ∧ Hid (Rw wr w.heap.size o ((X.take k).filter p)) ∧ Below w.heap.size w wr) (fun _ j _ => n - (intOf j).toNat)
  case atStart => exact ⟨0, rfl, Nat.zero_le _, Lib.hid (by simpa using Rw.nil _ _), Below.refl _ _⟩
  case round =>
    obtain ⟨k, rfl, hk, hR, hB⟩ := hrel
    by_cases hlt : k < n
    · have hkl : k < X.length := by rw [← Hm.out]; exact hlt
      obtain ⟨b, o, hA, hb, hc⟩ := Hr.out k hkl
      subst hA
      have hnx := filter_next p hkl
      obtain ⟨x, hx⟩ : ∃ x, x = X.getD k 0 := ⟨_, rfl⟩
      rw [← hx] at hc hnx
      have Hnx := Lib.hid hnx
      have c0 := (hB.cell (p := ⟨b, o + k, none⟩) hb).trans hc
      have Hc := Hh.out wr hB x
      rw [show decide (x ∈ Y) = p x by rw [Hp.out]] at Hc
      have Hc := Lib.hid Hc
      clear hx hnx hkl hc
      by_cases hz : p x = true
      · rw [hz] at Hc
        have Hpx := Lib.hid hz
        have Hlk := Lib.hid (HL.out k)
        have c1 := (World.cell?_alloc_lt wr (.cells #[.int .i64 x] 3) ⟨b, o + k, none⟩ (Nat.lt_of_lt_of_le hb hB.size)).trans c0
        clear hz
        go_wp2_with fail
        refine Hc.out.mono ?_
        rintro e w1 ⟨rfl, hq⟩
        have hq' := hq.symm
        clear hq
        subst hq'
        go_wp2_with (at_builtin; refine wpList_app w rfl (.tmp 19) (.tmp 24) rfl wr u5 ((X.take k).filter p) rfl hR.out x rfl Hlk.out hB ?_; intro v' w' hR' hB')
        have HR' := Lib.hid (show Rw w' w.heap.size v' ((X.take (k + 1)).filter p) by rw [Hnx.out, Hpx.out]; exact hR')
        clear hR'
        go_roundw
        case rel => exact ⟨k + 1, by go_num, by omega, HR', hB'⟩
        case measure => simp [intOf]; omega
      · have hz2 : p x = false := by simpa using hz
        rw [hz2] at Hc
        have hR' := Lib.hid (show Rw wr w.heap.size u5 ((X.take (k + 1)).filter p) by rw [Hnx.out, hz2]; simpa using hR.out)
        clear hz hz2
        go_wp2_with fail
        refine Hc.out.mono ?_
        rintro e w1 ⟨rfl, hq⟩
        have hq' := hq.symm
        clear hq
        subst hq'
        go_wp2
        go_roundw
        case rel => exact ⟨k + 1, by go_num, by omega, hR', hB⟩
        case measure => simp [intOf]; omega
    · have hkI : ¬ (k : Int) < n := by omega
      have hR' := HO.out u5 wr (by have := hR.out; rwa [List.take_of_length_le (by rw [← Hm.out]; omega)] at this) hB
      have HR' := Lib.hid hR'
      clear hR'
      go_wp2
      go_ret
      exact HR'.out
theorem upK_filter (p : Int → Bool) (k : Nat) : (upK (k + 1)).filter p = (upK k).filter p ++ if p (k : Int) then [(k : Int)] else [] := by
  rw [upK_next, List.filter_append, List.filter_cons]
  simp
set_option maxHeartbeats 1000000 in
theorem refNot_any (A : Option Addr) (m c : Nat) (X : List Int) (n : Int) (w : World) (hS : Wd.Sl w .i64 A m c X) :
    Calls Tryd.prog 22 #[.slice A m c, .int .i64 n] w (Wd.Out w .i64 (notL X n)) := by
  have Hh := Lib.hid fun w' (hb : Below w.heap.size w w') i => refHas_any A m c X i w' (hS.below hb)
  obtain ⟨N, hN⟩ : ∃ N, N = cut n := ⟨_, rfl⟩
  have HN := Lib.hid hN
  have Hcl := Lib.hid (show N ≤ 65536 by rw [hN]; exact cut_le n)
  have HO := Lib.hid fun (v : Value) (w' : World) (h : Rw w' w.heap.size v ((upK N).filter fun x => decide (x ∉ X))) (hb : Below w.heap.size w w') => (Rw.out (by rw [hN] at h; exact h) hb : Wd.Out w .i64 (notL X n) (.returned v) w')
  obtain ⟨Z, hZ⟩ : ∃ Z, Z = notL X n := ⟨_, rfl⟩
  rw [← hZ] at HO ⊢
  obtain ⟨p, hp⟩ : ∃ p : Int → Bool, p = fun x => decide (x ∉ X) := ⟨_, rfl⟩
  rw [← hp] at HO
  have Hp := Lib.hid hp
  have HL := Lib.hid fun k (h : k < N) => (Nat.le_trans (List.length_filter_le p (upK k)) (by rw [upK_len]; have := Hcl.out; omega) : ((upK k).filter p).length ≤ 1000000)
  clear hS hZ hp hN
  go_enter Tryd.func22, Tryd.ntmps22
  go_wp2
  go_loopw [5, 6] (fun o j wr => ∃ (k : Nat) (z : Int), j = .int .i64 z ∧ Hid (z = k ∧ k ≤ N) ∧ Hid (Rw wr w.heap.size o ((upK k).filter p)) ∧ Below w.heap.size w wr) (fun _ j _ => N - (intOf j).toNat)
  case atStart => exact ⟨0, 0, rfl, Lib.hid ⟨rfl, Nat.zero_le _⟩, Lib.hid (Rw.nil _ _), Below.refl _ _⟩
  case round =>
    obtain ⟨k, z, rfl, hz, hR, hB⟩ := hrel
    by_cases hlt : k < N
    · obtain ⟨h1, h2⟩ := cut_lt (n := n) (k := k) (by rw [← HN.out]; exact hlt)
      rw [← hz.out.1] at h1 h2
      have h0 : 0 ≤ z := by rw [hz.out.1]; omega
      have Hnx := upK_filter p k
      rw [← hz.out.1] at Hnx
      have Hnx := Lib.hid Hnx
      have Hlk := Lib.hid (HL.out k hlt)
      have Hlt := Lib.hid hlt
      have Hc := Hh.out wr hB z
      rw [show decide (z ∈ X) = !p z by rw [Hp.out]; simp] at Hc
      have Hc := Lib.hid Hc
      clear hlt
      by_cases hpz : p z = true
      · rw [hpz] at Hc
        have Hpx := Lib.hid hpz
        clear hpz
        go_wp2_with fail
        refine Hc.out.mono ?_
        rintro e w1 ⟨rfl, hq⟩
        have hq' := hq.symm
        clear hq
        subst hq'
        go_wp2_with (at_builtin; refine wpList_app w rfl (.tmp 20) (.tmp 22) rfl wr u5 ((upK k).filter p) rfl hR.out z rfl Hlk.out hB ?_; intro v' w' hR' hB')
        have HR' := Lib.hid (show Rw w' w.heap.size v' ((upK (k + 1)).filter p) by rw [Hnx.out, Hpx.out]; exact hR')
        clear hR'
        go_roundw
        case rel => exact ⟨k + 1, z + 1, by go_num, Lib.hid ⟨by rw [hz.out.1]; rfl, Hlt.out⟩, HR', hB'⟩
        case measure => simp [intOf]; have := hz.out.1; have := Hlt.out; omega
      · have hz2 : p z = false := by simpa using hpz
        rw [hz2] at Hc
        have hR' := Lib.hid (show Rw wr w.heap.size u5 ((upK (k + 1)).filter p) by rw [Hnx.out, hz2]; simpa using hR.out)
        clear hpz hz2
        go_wp2_with fail
        refine Hc.out.mono ?_
        rintro e w1 ⟨rfl, hq⟩
        have hq' := hq.symm
        clear hq
        subst hq'
        go_wp2
        go_roundw
        case rel => exact ⟨k + 1, z + 1, by go_num, Lib.hid ⟨by rw [hz.out.1]; rfl, Hlt.out⟩, hR', hB⟩
        case measure => simp [intOf]; have := hz.out.1; have := Hlt.out; omega
    · have hO := HO.out u5 wr (by have := hR.out; rwa [show k = N by have := hz.out.2; omega] at this) hB
      have HO' := Lib.hid hO
      have hg := cut_ge (n := n) (k := k) (by rw [← HN.out]; exact hlt)
      rw [← hz.out.1] at hg
      clear hlt hO
      by_cases h1 : z < n
      · have h2 : ¬ z < 65536 := fun h => hg.elim (fun q => q h1) fun q => q h
        clear hg
        go_wp2
        go_ret
        exact HO'.out
      · clear hg
        go_wp2
        go_ret
        exact HO'.out
end Bx
end Go.Proofs.YtgmjafammdkgfaaDoor
