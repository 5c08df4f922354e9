/- The law's own Made: a journal out of entries. What Apply in a loop leaves. -/
import Derived.Test.YtljgalleiemaaaaPk09
namespace Go.Proofs.Ytljgalleiemaaaa
set_option maxRecDepth 20000
open Go.RowKit
namespace Jr
open Jo (En May Wf Rg Pt endOf last app1)
open Wd (Pv Pc Es Lv Bx)
theorem bx_set12 {w : World} {g : Nat} {t : TypeId} {o0 o1 o2 o3 o4 o5 o6 o7 o8 o9 o10 o11 v0 v1 v2 v3 v4 v5 v6 v7 v8 v9 v10 v11 : Value} (h : Bx w g t #[o0, o1, o2, o3, o4, o5, o6, o7, o8, o9, o10, o11]) : Bx (((((((((((((w).setCell ⟨g, 0, none⟩ v0).setCell ⟨g, 1, none⟩ v1).setCell ⟨g, 2, none⟩ v2).setCell ⟨g, 3, none⟩ v3).setCell ⟨g, 4, none⟩ v4).setCell ⟨g, 5, none⟩ v5).setCell ⟨g, 6, none⟩ v6).setCell ⟨g, 7, none⟩ v7).setCell ⟨g, 8, none⟩ v8).setCell ⟨g, 9, none⟩ v9).setCell ⟨g, 10, none⟩ v10).setCell ⟨g, 11, none⟩ v11) g t #[v0, v1, v2, v3, v4, v5, v6, v7, v8, v9, v10, v11] := by
  have := (((((((((((h.set 0 v0).set 1 v1).set 2 v2).set 3 v3).set 4 v4).set 5 v5).set 6 v6).set 7 v7).set 8 v8).set 9 v9).set 10 v10).set 11 v11
  simpa using this
theorem mv12 {w : World} {g : Nat} {v0 v1 v2 v3 v4 v5 v6 v7 v8 v9 v10 v11 : Value} : Wd.Mv (fun x => x = g) w (((((((((((((w).setCell ⟨g, 0, none⟩ v0).setCell ⟨g, 1, none⟩ v1).setCell ⟨g, 2, none⟩ v2).setCell ⟨g, 3, none⟩ v3).setCell ⟨g, 4, none⟩ v4).setCell ⟨g, 5, none⟩ v5).setCell ⟨g, 6, none⟩ v6).setCell ⟨g, 7, none⟩ v7).setCell ⟨g, 8, none⟩ v8).setCell ⟨g, 9, none⟩ v9).setCell ⟨g, 10, none⟩ v10).setCell ⟨g, 11, none⟩ v11) := ((((((((((((Wd.Mv.refl (fun x => x = g) w).set (a := ⟨g, 0, none⟩) rfl _).set (a := ⟨g, 1, none⟩) rfl _).set (a := ⟨g, 2, none⟩) rfl _).set (a := ⟨g, 3, none⟩) rfl _).set (a := ⟨g, 4, none⟩) rfl _).set (a := ⟨g, 5, none⟩) rfl _).set (a := ⟨g, 6, none⟩) rfl _).set (a := ⟨g, 7, none⟩) rfl _).set (a := ⟨g, 8, none⟩) rfl _).set (a := ⟨g, 9, none⟩) rfl _).set (a := ⟨g, 10, none⟩) rfl _).set (a := ⟨g, 11, none⟩) rfl _
theorem jv_set {w : World} {g : Nat} {t : TypeId} {q0 q1 q2 q3 r0 r1 r2 r3 : Pv} {j : Jo.Jn} {v0 v1 v2 v3 v4 v5 v6 v7 v8 v9 v10 v11 : Value} (h : Jv w q0 q1 q2 q3 j) (hb : Bx w g t #[.int .i64 r0.g, .int .i64 r0.b, .slice r0.A r0.n r0.c, .int .i64 r1.g, .int .i64 r1.b, .slice r1.A r1.n r1.c, .int .i64 r2.g, .int .i64 r2.b, .slice r2.A r2.n r2.c, .int .i64 r3.g, .int .i64 r3.b, .slice r3.A r3.n r3.c]) : Jv (((((((((((((w).setCell ⟨g, 0, none⟩ v0).setCell ⟨g, 1, none⟩ v1).setCell ⟨g, 2, none⟩ v2).setCell ⟨g, 3, none⟩ v3).setCell ⟨g, 4, none⟩ v4).setCell ⟨g, 5, none⟩ v5).setCell ⟨g, 6, none⟩ v6).setCell ⟨g, 7, none⟩ v7).setCell ⟨g, 8, none⟩ v8).setCell ⟨g, 9, none⟩ v9).setCell ⟨g, 10, none⟩ v10).setCell ⟨g, 11, none⟩ v11) q0 q1 q2 q3 j := by
  have key : ∀ q : Pv, Es w q.A q.n q.c q.l → Es (((((((((((((w).setCell ⟨g, 0, none⟩ v0).setCell ⟨g, 1, none⟩ v1).setCell ⟨g, 2, none⟩ v2).setCell ⟨g, 3, none⟩ v3).setCell ⟨g, 4, none⟩ v4).setCell ⟨g, 5, none⟩ v5).setCell ⟨g, 6, none⟩ v6).setCell ⟨g, 7, none⟩ v7).setCell ⟨g, 8, none⟩ v8).setCell ⟨g, 9, none⟩ v9).setCell ⟨g, 10, none⟩ v10).setCell ⟨g, 11, none⟩ v11) q.A q.n q.c q.l := fun q c => c.keep mv12 (es_ne c hb)
  exact ⟨h.e, key _ h.s0, key _ h.s1, key _ h.s2, key _ h.s3, h.r0, h.r1, h.r2, h.r3⟩
theorem below12' {w0 w : World} {g : Nat} (h : Below g w0 w) (v0 v1 v2 v3 v4 v5 v6 v7 v8 v9 v10 v11 : Value) : Below g w0 (((((((((((((w).setCell ⟨g, 0, none⟩ v0).setCell ⟨g, 1, none⟩ v1).setCell ⟨g, 2, none⟩ v2).setCell ⟨g, 3, none⟩ v3).setCell ⟨g, 4, none⟩ v4).setCell ⟨g, 5, none⟩ v5).setCell ⟨g, 6, none⟩ v6).setCell ⟨g, 7, none⟩ v7).setCell ⟨g, 8, none⟩ v8).setCell ⟨g, 9, none⟩ v9).setCell ⟨g, 10, none⟩ v10).setCell ⟨g, 11, none⟩ v11) :=
  (((((((((((h.setCell (p := ⟨g, 0, none⟩) (Nat.le_refl _) _).setCell (p := ⟨g, 1, none⟩) (Nat.le_refl _) _).setCell (p := ⟨g, 2, none⟩) (Nat.le_refl _) _).setCell (p := ⟨g, 3, none⟩) (Nat.le_refl _) _).setCell (p := ⟨g, 4, none⟩) (Nat.le_refl _) _).setCell (p := ⟨g, 5, none⟩) (Nat.le_refl _) _).setCell (p := ⟨g, 6, none⟩) (Nat.le_refl _) _).setCell (p := ⟨g, 7, none⟩) (Nat.le_refl _) _).setCell (p := ⟨g, 8, none⟩) (Nat.le_refl _) _).setCell (p := ⟨g, 9, none⟩) (Nat.le_refl _) _).setCell (p := ⟨g, 10, none⟩) (Nat.le_refl _) _).setCell (p := ⟨g, 11, none⟩) (Nat.le_refl _) _
/-- What 'k, e := Apply(j, x)' leaves: a block with the journal, the error. -/
def Got (wr : World) (j : Jo.Jn) (x : En) (u6 u7 : Value) (wc : World) : Prop := ∃ bk q0 q1 q2 q3, u6 = .pointer (some ⟨bk, 0, none⟩) ∧ u7 = .int .i64 (Jo.appE j x) ∧ Hid (Bx wc bk 27 #[.int .i64 q0.g, .int .i64 q0.b, .slice q0.A q0.n q0.c, .int .i64 q1.g, .int .i64 q1.b, .slice q1.A q1.n q1.c, .int .i64 q2.g, .int .i64 q2.b, .slice q2.A q2.n q2.c, .int .i64 q3.g, .int .i64 q3.b, .slice q3.A q3.n q3.c] ∧ Jv wc q0 q1 q2 q3 ((Jo.app j x).getD Jo.nil_) ∧ Below wr.heap.size wr wc ∧ wr.heap.size ≤ bk ∧ Nw wr.heap.size q0 q1 q2 q3)
theorem got_a {wr w1 : World} {j : Jo.Jn} {x : En} {q0 q1 q2 q3 : Pv} {B : Nat} (h : Jv w1 q0 q1 q2 q3 ((Jo.app j x).getD Jo.nil_) ∧ Nw B q0 q1 q2 q3) (hB : wr.heap.size ≤ B) (hb : Below wr.heap.size wr w1) : Got wr j x (.pointer (some ⟨w1.heap.size, 0, none⟩)) (.int .i64 (Jo.appE j x)) (w1.alloc (.cells #[.int .i64 q0.g, .int .i64 q0.b, .slice q0.A q0.n q0.c, .int .i64 q1.g, .int .i64 q1.b, .slice q1.A q1.n q1.c, .int .i64 q2.g, .int .i64 q2.b, .slice q2.A q2.n q2.c, .int .i64 q3.g, .int .i64 q3.b, .slice q3.A q3.n q3.c] 27)) :=
  ⟨_, q0, q1, q2, q3, rfl, rfl, Lib.hid ⟨Bx.new w1 _ _, h.1.below ((Below.refl w1.heap.size w1).alloc (Nat.le_refl _) _), hb.alloc hb.size _, hb.size, h.2.mono hB⟩⟩
theorem got_b {wr w1 : World} {j : Jo.Jn} {x : En} {q0 q1 q2 q3 : Pv} {B : Nat} (h : Jv w1 q0 q1 q2 q3 ((Jo.app j x).getD Jo.nil_) ∧ Nw B q0 q1 q2 q3) (hB : wr.heap.size ≤ B) (hx : Bx w1 wr.heap.size 27 #[.int .i64 0, .int .i64 0, .slice none 0 0, .int .i64 0, .int .i64 0, .slice none 0 0, .int .i64 0, .int .i64 0, .slice none 0 0, .int .i64 0, .int .i64 0, .slice none 0 0]) (hb : Below wr.heap.size wr w1) : Got wr j x (.pointer (some ⟨wr.heap.size, 0, none⟩)) (.int .i64 (Jo.appE j x)) (((((((((((((w1).setCell ⟨wr.heap.size, 0, none⟩ (.int .i64 q0.g)).setCell ⟨wr.heap.size, 1, none⟩ (.int .i64 q0.b)).setCell ⟨wr.heap.size, 2, none⟩ (.slice q0.A q0.n q0.c)).setCell ⟨wr.heap.size, 3, none⟩ (.int .i64 q1.g)).setCell ⟨wr.heap.size, 4, none⟩ (.int .i64 q1.b)).setCell ⟨wr.heap.size, 5, none⟩ (.slice q1.A q1.n q1.c)).setCell ⟨wr.heap.size, 6, none⟩ (.int .i64 q2.g)).setCell ⟨wr.heap.size, 7, none⟩ (.int .i64 q2.b)).setCell ⟨wr.heap.size, 8, none⟩ (.slice q2.A q2.n q2.c)).setCell ⟨wr.heap.size, 9, none⟩ (.int .i64 q3.g)).setCell ⟨wr.heap.size, 10, none⟩ (.int .i64 q3.b)).setCell ⟨wr.heap.size, 11, none⟩ (.slice q3.A q3.n q3.c)) :=
  ⟨_, q0, q1, q2, q3, rfl, rfl, Lib.hid ⟨bx_set12 hx, jv_set (r0 := default) (r1 := default) (r2 := default) (r3 := default) h.1 hx, below12' hb _ _ _ _ _ _ _ _ _ _ _ _, Nat.le_refl _, h.2.mono hB⟩⟩
theorem made_len : ∀ (l : List En) (j k : Jo.Jn) (m : Nat), (∀ q ∈ j, q.live.length ≤ m) → Jo.made j l = some k → ∀ q ∈ k, q.live.length ≤ m + l.length
  | [], j, k, m, h, e => by cases e; exact h
  | x :: l, j, k, m, h, e => by
    rw [Jo.made] at e
    cases ha : Jo.app j x with
    | none => rw [ha] at e; cases e
    | some i =>
      rw [ha] at e
      have h2 : ∀ q ∈ i, q.live.length ≤ m + 1 := by
        unfold Jo.app at ha
        split at ha
        · obtain ⟨r, hr, rfl⟩ := Option.map_eq_some_iff.1 ha
          intro q hq
          rcases List.mem_or_eq_of_mem_set hq with z | z
          · have := h q z; omega
          · rw [z]
            have := app1_len hr
            have h3 : (j.getD x.part.toNat default).live.length ≤ m := by
              rw [List.getD_eq_getElem?_getD]
              cases he : j[x.part.toNat]? with
              | none => simp [default]
              | some y => exact h y (List.mem_of_getElem? he)
            omega
        · cases ha
      have := made_len l i k (m + 1) h2 e
      intro q hq
      have := this q hq
      rw [List.length_cons]
      omega
theorem jv_len {w : World} {p0 p1 p2 p3 : Pv} {j : Jo.Jn} {m : Nat} (h : Jv w p0 p1 p2 p3 j) (hl : ∀ q ∈ j, q.live.length ≤ m) : Len p0 p1 p2 p3 m := by
  rw [h.e] at hl
  have k0 := hl p0.pt (by simp)
  have k1 := hl p1.pt (by simp)
  have k2 := hl p2.pt (by simp)
  have k3 := hl p3.pt (by simp)
  have n0 := h.s0.len
  have n1 := h.s1.len
  have n2 := h.s2.len
  have n3 := h.s3.len
  simp only [Pv.pt] at k0 k1 k2 k3
  unfold Len
  omega
theorem made_take {l : List En} {j : Jo.Jn} {k : Nat} (hk : k < l.length) (h : Jo.made Jo.nil_ (l.take k) = some j) : Jo.made Jo.nil_ (l.take (k + 1)) = Jo.app j (l.getD k default) := by
  rw [List.take_succ_eq_append_getElem hk, Jo.made_append, h, List.getD_eq_getElem?_getD, List.getElem?_eq_getElem hk]
  simp only [Option.bind_some, Jo.made, Option.getD_some]
  cases Jo.app j l[k] <;> rfl
theorem made_stop {l : List En} {k : Nat} (h : Jo.made Jo.nil_ (l.take k) = none) : Jo.made Jo.nil_ l = none := by
  have : l = l.take k ++ l.drop k := (List.take_append_drop k l).symm
  rw [this, Jo.made_append, h]
  rfl
theorem appE_some {j i : Jo.Jn} {x : En} (h : Jo.app j x = some i) : Jo.appE j x = 0 := by
  unfold Jo.app at h
  unfold Jo.appE
  split at h
  · rename_i hm
    obtain ⟨r, hr, _⟩ := Option.map_eq_some_iff.1 h
    rw [if_pos hm, hr]
    rfl
  · cases h
theorem appE_none {j : Jo.Jn} {x : En} (h : Jo.app j x = none) : Jo.appE j x = 1 ∨ Jo.appE j x = 5 := by
  unfold Jo.app at h
  unfold Jo.appE
  split at h
  · rename_i hm
    rw [if_pos hm, Option.map_eq_none_iff.1 h]
    exact .inr rfl
  · rename_i hm
    rw [if_neg hm]
    exact .inl rfl
/-- What Made answers. -/
def OutM (w : World) (l : List En) (e : Ending) (w' : World) : Prop := ∃ q0 q1 q2 q3 ok, e = .returned (.tuple #[.agg #[.int .i64 q0.g, .int .i64 q0.b, .slice q0.A q0.n q0.c, .int .i64 q1.g, .int .i64 q1.b, .slice q1.A q1.n q1.c, .int .i64 q2.g, .int .i64 q2.b, .slice q2.A q2.n q2.c, .int .i64 q3.g, .int .i64 q3.b, .slice q3.A q3.n q3.c], .bool ok]) ∧ (ok = true → ∃ j, Jo.made Jo.nil_ l = some j ∧ Jv w' q0 q1 q2 q3 j) ∧ (ok = false → Jo.made Jo.nil_ l = none) ∧ Below w.heap.size w w'
structure MI (w0 : World) (l : List En) (wr : World) (k : Nat) (p0 p1 p2 p3 : Pv) (j : Jo.Jn) : Prop where
  jb : Bx wr (w0.heap.size + 1) 27 #[.int .i64 p0.g, .int .i64 p0.b, .slice p0.A p0.n p0.c, .int .i64 p1.g, .int .i64 p1.b, .slice p1.A p1.n p1.c, .int .i64 p2.g, .int .i64 p2.b, .slice p2.A p2.n p2.c, .int .i64 p3.g, .int .i64 p3.b, .slice p3.A p3.n p3.c]
  rb : Bx wr w0.heap.size 27 #[.int .i64 0, .int .i64 0, .slice none 0 0, .int .i64 0, .int .i64 0, .slice none 0 0, .int .i64 0, .int .i64 0, .slice none 0 0, .int .i64 0, .int .i64 0, .slice none 0 0]
  jv : Jv wr p0 p1 p2 p3 j
  md : Jo.made Jo.nil_ (l.take k) = some j
  bel : Below w0.heap.size w0 wr
theorem nine {w : World} {b o : Nat} {x : En} (h0 : w.cell? ⟨b, o, none⟩ = some (.int .i64 x.kind)) (h1 : w.cell? ⟨b, o + 1, none⟩ = some (.int .i64 x.part)) (h2 : w.cell? ⟨b, o + 2, none⟩ = some (.int .i64 x.id)) (h3 : w.cell? ⟨b, o + 3, none⟩ = some (.int .i64 x.st)) (h4 : w.cell? ⟨b, o + 4, none⟩ = some (.int .i64 x.en)) (h5 : w.cell? ⟨b, o + 5, none⟩ = some (.int .i64 x.size)) (h6 : w.cell? ⟨b, o + 6, none⟩ = some (.int .i64 x.sum)) (hb : b < w.heap.size) (w' : World) (h : Below w.heap.size w w') :
    w'.cell? ⟨b, o, none⟩ = some (.int .i64 x.kind) ∧ w'.cell? ⟨b, o + 1, none⟩ = some (.int .i64 x.part) ∧ w'.cell? ⟨b, o + 2, none⟩ = some (.int .i64 x.id) ∧ w'.cell? ⟨b, o + 3, none⟩ = some (.int .i64 x.st) ∧ w'.cell? ⟨b, o + 4, none⟩ = some (.int .i64 x.en) ∧ w'.cell? ⟨b, o + 5, none⟩ = some (.int .i64 x.size) ∧ w'.cell? ⟨b, o + 6, none⟩ = some (.int .i64 x.sum) :=
  ⟨(h.cell (p := ⟨b, o, none⟩) hb).trans h0, (h.cell (p := ⟨b, o + 1, none⟩) hb).trans h1, (h.cell (p := ⟨b, o + 2, none⟩) hb).trans h2, (h.cell (p := ⟨b, o + 3, none⟩) hb).trans h3, (h.cell (p := ⟨b, o + 4, none⟩) hb).trans h4, (h.cell (p := ⟨b, o + 5, none⟩) hb).trans h5, (h.cell (p := ⟨b, o + 6, none⟩) hb).trans h6⟩
set_option maxHeartbeats 8000000 in
theorem made_any (A : Option Addr) (n c : Nat) (l : List En) (w : World) (hE : Es w A n c l) (hn : n ≤ 300000) : Calls Try.prog 10 #[.slice A n c] w (OutM w l) := by
  have b1 := alS (alS (Below.refl w.heap.size w) (.cells #[.int .i64 0, .int .i64 0, .slice none 0 0, .int .i64 0, .int .i64 0, .slice none 0 0, .int .i64 0, .int .i64 0, .slice none 0 0, .int .i64 0, .int .i64 0, .slice none 0 0] 27)) (.cells #[.int .i64 0, .int .i64 0, .slice none 0 0, .int .i64 0, .int .i64 0, .slice none 0 0, .int .i64 0, .int .i64 0, .slice none 0 0, .int .i64 0, .int .i64 0, .slice none 0 0] 27)
  have z1 : (w.alloc (.cells #[.int .i64 0, .int .i64 0, .slice none 0 0, .int .i64 0, .int .i64 0, .slice none 0 0, .int .i64 0, .int .i64 0, .slice none 0 0, .int .i64 0, .int .i64 0, .slice none 0 0] 27)).heap.size = w.heap.size + 1 := by simp
  have rb := (Bx.new w 27 #[.int .i64 0, .int .i64 0, .slice none 0 0, .int .i64 0, .int .i64 0, .slice none 0 0, .int .i64 0, .int .i64 0, .slice none 0 0, .int .i64 0, .int .i64 0, .slice none 0 0]).alloc (.cells #[.int .i64 0, .int .i64 0, .slice none 0 0, .int .i64 0, .int .i64 0, .slice none 0 0, .int .i64 0, .int .i64 0, .slice none 0 0, .int .i64 0, .int .i64 0, .slice none 0 0] 27)
  have jb := Bx.new (w.alloc (.cells #[.int .i64 0, .int .i64 0, .slice none 0 0, .int .i64 0, .int .i64 0, .slice none 0 0, .int .i64 0, .int .i64 0, .slice none 0 0, .int .i64 0, .int .i64 0, .slice none 0 0] 27)) 27 #[.int .i64 0, .int .i64 0, .slice none 0 0, .int .i64 0, .int .i64 0, .slice none 0 0, .int .i64 0, .int .i64 0, .slice none 0 0, .int .i64 0, .int .i64 0, .slice none 0 0]
  rw [z1] at jb
  obtain ⟨w1, hw1⟩ : ∃ w1, w1 = (w.alloc (.cells #[.int .i64 0, .int .i64 0, .slice none 0 0, .int .i64 0, .int .i64 0, .slice none 0 0, .int .i64 0, .int .i64 0, .slice none 0 0, .int .i64 0, .int .i64 0, .slice none 0 0] 27)).alloc (.cells #[.int .i64 0, .int .i64 0, .slice none 0 0, .int .i64 0, .int .i64 0, .slice none 0 0, .int .i64 0, .int .i64 0, .slice none 0 0, .int .i64 0, .int .i64 0, .slice none 0 0] 27) := ⟨_, rfl⟩
  rw [← hw1] at b1 jb rb
  have I0 : Hid (MI w l w1 0 default default default default Jo.nil_) := Lib.hid ⟨jb, rb, jv_nil w1, rfl, b1⟩
  have HE := Lib.hid hE
  have HN := Lib.hid hE.len
  have hcap := hE.cap
  have Hw1 := Lib.hid hw1
  clear b1 z1 rb jb hw1 hE
  go_enter Try.func10, Try.ntmps10
  go_upto_region 2 with fail
  rw [← Hw1.out]
  go_wp2_with fail
  go_loopw [5, 6, 7] (fun i _ _ wr => ∃ k : Nat, i = .int .i64 k ∧ k ≤ n ∧ ∃ p0 p1 p2 p3 j, Hid (MI w l wr k p0 p1 p2 p3 j)) (fun i _ _ _ => n - (intOf i).toNat)
  case atStart => exact ⟨0, rfl, Nat.zero_le _, _, _, _, _, _, I0⟩
  case round =>
    obtain ⟨k, rfl, hk, p0, p1, p2, p3, j, hI⟩ := hrel
    by_cases hlt : k < n
    · have hkI : (k : Int) < (n : Int) := by omega
      have hkl : k < l.length := by rw [← HN.out]; exact hlt
      obtain ⟨x, hx⟩ : ∃ x, x = l.getD k default := ⟨_, rfl⟩
      obtain ⟨lb, lf, hA, hlb, u0, u1, u2, u3, u4, u5, u6, -⟩ := (HE.out.below hI.out.bel).cells hkl hx
      have MT := Lib.hid (made_take hkl hI.out.md)
      rw [← hx] at MT
      have ZE := Lib.hid (nine u0 u1 u2 u3 u4 u5 u6 hlb)
      have Z0 := Lib.hid (fun w' h => And.intro (twelve (hI.out.jb.below hI.out.jb.lt h)).1 (ZE.out w' h))
      have LN := jv_len (m := 400000) hI.out.jv (fun q hq => by
        have := made_len _ _ _ 0 (fun q hq => by simp [Jo.nil_, default] at hq; rw [hq]; simp) hI.out.md q hq
        rw [List.length_take] at this
        omega)
      have CA := Lib.hid (fun w' (h : Below wr.heap.size wr w') => apply_any p0 p1 p2 p3 j x w' (hI.out.jv.below h) LN)
      subst hA
      clear u0 u1 u2 u3 u4 u5 u6 hlb hx hkl LN
      go_upto_region 5 with fail
      go_cut [6, 7] (fun u6 u7 wc => Got wr j x u6 u7 wc)
      case first =>
        have bA : Below wr.heap.size wr wr.drew := (Below.refl _ _).drew
        have bB : Below wr.heap.size wr (wr.alloc (.cells #[.int .i64 0, .int .i64 0, .slice none 0 0, .int .i64 0, .int .i64 0, .slice none 0 0, .int .i64 0, .int .i64 0, .slice none 0 0, .int .i64 0, .int .i64 0, .slice none 0 0] 27)).drew := ((Below.refl wr.heap.size wr).alloc (Nat.le_refl _) _).drew
        have z10 := Z0.out _ bA
        have z11 := Z0.out _ bB
        have nB : Bx (wr.alloc (.cells #[.int .i64 0, .int .i64 0, .slice none 0 0, .int .i64 0, .int .i64 0, .slice none 0 0, .int .i64 0, .int .i64 0, .slice none 0 0, .int .i64 0, .int .i64 0, .slice none 0 0] 27)).drew wr.heap.size 27 #[.int .i64 0, .int .i64 0, .slice none 0 0, .int .i64 0, .int .i64 0, .slice none 0 0, .int .i64 0, .int .i64 0, .slice none 0 0, .int .i64 0, .int .i64 0, .slice none 0 0] := Bx.new wr _ _
        go_region_held3 (fun w' => (w'.cell? ⟨w.heap.size + 1, 0, none⟩ = some (.int .i64 p0.g) ∧ w'.cell? ⟨w.heap.size + 1, 1, none⟩ = some (.int .i64 p0.b) ∧ w'.cell? ⟨w.heap.size + 1, 2, none⟩ = some (.slice p0.A p0.n p0.c) ∧ w'.cell? ⟨w.heap.size + 1, 3, none⟩ = some (.int .i64 p1.g) ∧ w'.cell? ⟨w.heap.size + 1, 4, none⟩ = some (.int .i64 p1.b) ∧ w'.cell? ⟨w.heap.size + 1, 5, none⟩ = some (.slice p1.A p1.n p1.c) ∧ w'.cell? ⟨w.heap.size + 1, 6, none⟩ = some (.int .i64 p2.g) ∧ w'.cell? ⟨w.heap.size + 1, 7, none⟩ = some (.int .i64 p2.b) ∧ w'.cell? ⟨w.heap.size + 1, 8, none⟩ = some (.slice p2.A p2.n p2.c) ∧ w'.cell? ⟨w.heap.size + 1, 9, none⟩ = some (.int .i64 p3.g) ∧ w'.cell? ⟨w.heap.size + 1, 10, none⟩ = some (.int .i64 p3.b) ∧ w'.cell? ⟨w.heap.size + 1, 11, none⟩ = some (.slice p3.A p3.n p3.c)) ∧ (w'.cell? ⟨lb, lf + k * 7, none⟩ = some (.int .i64 x.kind) ∧ w'.cell? ⟨lb, lf + k * 7 + 1, none⟩ = some (.int .i64 x.part) ∧ w'.cell? ⟨lb, lf + k * 7 + 2, none⟩ = some (.int .i64 x.id) ∧ w'.cell? ⟨lb, lf + k * 7 + 3, none⟩ = some (.int .i64 x.st) ∧ w'.cell? ⟨lb, lf + k * 7 + 4, none⟩ = some (.int .i64 x.en) ∧ w'.cell? ⟨lb, lf + k * 7 + 5, none⟩ = some (.int .i64 x.size) ∧ w'.cell? ⟨lb, lf + k * 7 + 6, none⟩ = some (.int .i64 x.sum))) (with_reducible first | exact z10 | exact z11 | exact z12 | exact z13 | exact z14 | exact z15) (first
          | (go_at_call 7; (with_reducible refine (CA.out _ bA).mono ?_); rintro e w1 ⟨q0, q1, q2, q3, rfl, hJ1, hB1⟩; have z12 := Z0.out _ (bA.trans (hB1.mono bA.size)); have z13 := Z0.out _ ((bA.trans (hB1.mono bA.size)).alloc (Nat.le_trans bA.size hB1.size) (.cells #[.int .i64 0, .int .i64 0, .slice none 0 0, .int .i64 0, .int .i64 0, .slice none 0 0, .int .i64 0, .int .i64 0, .slice none 0 0, .int .i64 0, .int .i64 0, .slice none 0 0] 27)); have z14 := Z0.out _ ((bA.trans (hB1.mono bA.size)).alloc (Nat.le_trans bA.size hB1.size) (.cells #[.int .i64 q0.g, .int .i64 q0.b, .slice q0.A q0.n q0.c, .int .i64 q1.g, .int .i64 q1.b, .slice q1.A q1.n q1.c, .int .i64 q2.g, .int .i64 q2.b, .slice q2.A q2.n q2.c, .int .i64 q3.g, .int .i64 q3.b, .slice q3.A q3.n q3.c] 27)))
          | (go_at_call 7; (with_reducible refine (CA.out _ bB).mono ?_); rintro e w1 ⟨q0, q1, q2, q3, rfl, hJ1, hB1⟩; have bB1 := bB.trans (hB1.mono bB.size); have z12 := Z0.out _ bB1; have nB1 := nB.below nB.lt hB1; obtain ⟨⟨nd0, nd1, nd2, nd3, nd4, nd5, nd6, nd7, nd8, nd9, nd10, nd11⟩, ⟨nf0, nf1, nf2, nf3, nf4, nf5, nf6, nf7, nf8, nf9, nf10, nf11⟩⟩ := twelve nB1; have z15 := Z0.out _ (below12' bB1 (.int .i64 q0.g) (.int .i64 q0.b) (.slice q0.A q0.n q0.c) (.int .i64 q1.g) (.int .i64 q1.b) (.slice q1.A q1.n q1.c) (.int .i64 q2.g) (.int .i64 q2.b) (.slice q2.A q2.n q2.c) (.int .i64 q3.g) (.int .i64 q3.b) (.slice q3.A q3.n q3.c))))
        all_goals (
          go_wp2_with fail
          go_meet)
        · exact got_a hJ1 bA.size (bA.trans (hB1.mono bA.size))
        · exact got_b hJ1 bB.size nB1 bB1
      case rest =>
        obtain ⟨bk, q0, q1, q2, q3, rfl, rfl, hG⟩ := hcut
        cases hr : Jo.app j x with
        | none =>
          have er := appE_none hr
          obtain ⟨z, hz⟩ : ∃ z, z = Jo.appE j x := ⟨_, rfl⟩
          rw [← hz] at er ⊢
          have k1 : (z == 0) = false := by simp; omega
          have k2 : (z != 0) = true := by simp; omega
          have MN := Lib.hid (made_stop (MT.out.trans hr))
          have J9 := Lib.hid (hI.out.jv.below hG.out.2.2.1)
          have B9 := Lib.hid (hI.out.bel.trans (hG.out.2.2.1.mono hI.out.bel.size))
          have RB9 := Lib.hid (hI.out.rb.below hI.out.rb.lt hG.out.2.2.1)
          obtain ⟨⟨d0, d1, d2, d3, d4, d5, d6, d7, d8, d9, d10, d11⟩, -⟩ := twelve (hI.out.jb.below hI.out.jb.lt hG.out.2.2.1)
          obtain ⟨⟨e0, e1, e2, e3, e4, e5, e6, e7, e8, e9, e10, e11⟩, ⟨f0, f1, f2, f3, f4, f5, f6, f7, f8, f9, f10, f11⟩⟩ := twelve RB9.out
          clear hz er hr
          go_wp2_with fail
          refine bodyPost_ret (v := .tuple #[.agg #[.int .i64 p0.g, .int .i64 p0.b, .slice p0.A p0.n p0.c, .int .i64 p1.g, .int .i64 p1.b, .slice p1.A p1.n p1.c, .int .i64 p2.g, .int .i64 p2.b, .slice p2.A p2.n p2.c, .int .i64 p3.g, .int .i64 p3.b, .slice p3.A p3.n p3.c], .bool false]) ?_ rfl ⟨p0, p1, p2, p3, false, rfl, fun h => by simp at h, fun _ => MN.out, below12 B9.out (Nat.le_refl _) _ _ _ _ _ _ _ _ _ _ _ _⟩
          rw [res_cell2 rfl]; go_simp
        | some i =>
          have er := appE_some hr
          rw [er]
          have MK := Lib.hid (MT.out.trans hr)
          have hG2 := hG.out
          rw [hr] at hG2
          have hJ9 : Jv _ q0 q1 q2 q3 i := hG2.2.1
          have J9 := Lib.hid hJ9
          have JB9 := Lib.hid (hI.out.jb.below hI.out.jb.lt hG.out.2.2.1)
          have RB9 := Lib.hid (hI.out.rb.below hI.out.rb.lt hG.out.2.2.1)
          have B9 := Lib.hid (hI.out.bel.trans (hG.out.2.2.1.mono hI.out.bel.size))
          obtain ⟨⟨d0, d1, d2, d3, d4, d5, d6, d7, d8, d9, d10, d11⟩, -⟩ := twelve hG.out.1
          obtain ⟨⟨e0, e1, e2, e3, e4, e5, e6, e7, e8, e9, e10, e11⟩, ⟨f0, f1, f2, f3, f4, f5, f6, f7, f8, f9, f10, f11⟩⟩ := twelve JB9.out
          clear hr er hG2 hJ9
          have hne : bk ≠ w.heap.size + 1 := by have := hI.out.jb.lt; have := hG.out.2.2.2.1; omega
          go_wp2_with fail
          go_roundw
          case rel => exact ⟨k + 1, by go_num, by omega, q0, q1, q2, q3, i, Lib.hid ⟨bx_set12 JB9.out, RB9.out.at_ (mv12.keep _ RB9.out.lt (by omega)), jv_set J9.out JB9.out, MK.out, below12 B9.out (by omega) _ _ _ _ _ _ _ _ _ _ _ _⟩⟩
          case measure => simp [intOf]; omega
    · have hkI : ¬ (k : Int) < (n : Int) := by omega
      have MK := hI.out.md
      rw [List.take_of_length_le (by rw [← HN.out]; omega)] at MK
      have MK := Lib.hid MK
      obtain ⟨⟨d0, d1, d2, d3, d4, d5, d6, d7, d8, d9, d10, d11⟩, -⟩ := twelve hI.out.jb
      obtain ⟨⟨e0, e1, e2, e3, e4, e5, e6, e7, e8, e9, e10, e11⟩, ⟨f0, f1, f2, f3, f4, f5, f6, f7, f8, f9, f10, f11⟩⟩ := twelve hI.out.rb
      have hz := hI.out.jb.lt
      go_wp2_with fail
      refine bodyPost_ret (v := .tuple #[.agg #[.int .i64 p0.g, .int .i64 p0.b, .slice p0.A p0.n p0.c, .int .i64 p1.g, .int .i64 p1.b, .slice p1.A p1.n p1.c, .int .i64 p2.g, .int .i64 p2.b, .slice p2.A p2.n p2.c, .int .i64 p3.g, .int .i64 p3.b, .slice p3.A p3.n p3.c], .bool true]) ?_ rfl ⟨p0, p1, p2, p3, true, rfl, fun _ => ⟨j, MK.out, jv_set (r0 := default) (r1 := default) (r2 := default) (r3 := default) hI.out.jv hI.out.rb⟩, fun h => by simp at h, below12 hI.out.bel (Nat.le_refl _) _ _ _ _ _ _ _ _ _ _ _ _⟩
      rw [res_cell2 rfl]; go_simp
end Jr
end Go.Proofs.Ytljgalleiemaaaa
