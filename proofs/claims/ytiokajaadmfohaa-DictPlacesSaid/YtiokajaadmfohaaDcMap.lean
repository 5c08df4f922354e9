/- A map keyed by values: a key's text, the numbers of a list of values as a map, what is found in it. -/
import Derived.Test.YtiokajaadmfohaaVaOpen
import Derived.Test.YtiokajaadmfohaaDcMath
import Derived.DeepKeys4
import Derived.Maps.Own
import Derived.Maps.OwnOps
import Derived.Maps.Views
namespace Go.Proofs.Ytiokajaadmfohaa
set_option maxRecDepth 20000
open Go.RowKit Go.Maps
namespace Dm
open Va (Vl)
open Dc (fnd fndF fnd_pos fnd_none fnd_app)
theorem laidOut : laidOutB Try.prog = true := by kernel_rfl
theorem wide : (match Try.prog.underlying 24 with | some (.array _ _) | some (.struct _) => true | _ => false) = true := by rw [Try.underlying24]
theorem law : Keyed Try.prog 24 := Keyed.of_law (deep_law_laid laidOut (m := 2) (by omega) (of_decide_eq_true (by kernel_rfl)) (by kernel_rfl) wide)
/-- A key's text. -/
def keyL (v : Vl) : List Lit := [.int .i64 v.kind, .int .i64 v.i, .string v.s.data.toList, .bool v.b]
def keyV (v : Vl) : Lit := .string (keyBytes (keyL v))
theorem keyLits_v {P : Program} {t : TypeId} {f0 f1 f2 f3 : Field} (T : Wd.VlT P t f0 f1 f2 f3) (hn : (#[f0, f1, f2, f3] : Array Field).all (·.name != "_") = true) (d : Nat) {v : Vl} (h1 : Wd.V1 v) (hs : v.s.size ≤ maxLen) :
    P.keyLits (d + 2) t [.int .i64 v.kind, .int .i64 v.i, .string v.s, .bool v.b] = some (keyL v) := by
  have a0 := h1.w0
  have a1 := h1.w1
  simp only [Program.keyLits, T.u, T.c]
  rw [if_pos ⟨rfl, hn⟩]
  simp [T.o0, T.o1, T.o2, T.o3, T.c0, T.c1, T.c2, T.c3, T.u0, T.u1, T.u2, T.u3, a0, a1, hs, keyL]
theorem names_ok : (match Try.prog.underlying 24 with | some (.struct fs) => fs.all (·.name != "_") | _ => false) = true := by kernel_rfl
theorem one_le : 1 ≤ Try.prog.types.size := of_decide_eq_true (by kernel_rfl)
theorem key_of {v : Vl} (h1 : Wd.V1 v) (hs : v.s.size ≤ maxLen) : keyOf Try.prog 24 (.agg #[.int .i64 v.kind, .int .i64 v.i, .string v.s, .bool v.b]) = some (keyV v) := by
  obtain ⟨f0, f1, f2, f3, T⟩ := Wd.vlT
  have hn := names_ok
  rw [T.u] at hn
  have hk : Try.prog.keyType 24 = true := by kernel_rfl
  have hf : (Value.agg #[.int .i64 v.kind, .int .i64 v.i, .string v.s, .bool v.b]).formed Try.prog 24 = true := by simp [Value.formed, T.u, T.c]
  have hl := keyLits_v T hn (Try.prog.types.size - 1) h1 hs
  rw [show Try.prog.types.size - 1 + 2 = Try.prog.types.size + 1 by have := one_le; omega] at hl
  unfold keyOf
  rw [T.u]
  simp only [hk, hf, Bool.and_self, if_true]
  show (Try.prog.keyLits _ _ [.int .i64 v.kind, .int .i64 v.i, .string v.s, .bool v.b]).map _ = _
  rw [hl]
  rfl
theorem keyV_inj {u v : Vl} (hu : Wd.V1 u) (su : u.s.size ≤ maxLen) (hv : Wd.V1 v) (sv : v.s.size ≤ maxLen) (h : keyV u = keyV v) : u = v := by
  have a := key_of hu su
  have b := key_of hv sv
  rw [← h] at b
  have e := law.inj a b
  obtain ⟨k, i, s, t⟩ := u
  obtain ⟨k', i', s', t'⟩ := v
  simp only [Value.agg.injEq, Array.mk.injEq, List.cons.injEq, Value.int.injEq, Value.string.injEq, Value.bool.injEq, true_and, and_true] at e
  obtain ⟨rfl, rfl, rfl, rfl⟩ := e
  rfl
theorem keyV_key (v : Vl) : WideAt.IsKeyLit (keyV v) := by simp [keyV, WideAt.IsKeyLit]
/-- Values whose numbers are the machine's. -/
def Okk (l : List Vl) : Prop := ∀ x ∈ l, Wd.V1 x ∧ x.s.size ≤ maxLen
/-- The numbers of a list of values, as a map. -/
def ddF : List Vl → Nat → DataW Unit → DataW Unit
  | [], _, D => D
  | v :: l, i, D => ddF l (i + 1) (D.put (keyV v) (.lit (.int .i64 (i : Int))))
def Dd (l : List Vl) : DataW Unit := ddF l 0 (.map [])
theorem ddF_app : ∀ (l : List Vl) (v : Vl) (i : Nat) (D : DataW Unit), ddF (l ++ [v]) i D = (ddF l i D).put (keyV v) (.lit (.int .i64 ((i + l.length : Nat) : Int)))
  | [], v, i, D => by simp [ddF]
  | a :: l, v, i, D => by
    show ddF (l ++ [v]) (i + 1) _ = (ddF l (i + 1) _).put _ _
    rw [ddF_app l v (i + 1), List.length_cons, show i + 1 + l.length = i + (l.length + 1) by omega]
theorem Dd_app (l : List Vl) (v : Vl) : Dd (l ++ [v]) = (Dd l).put (keyV v) (.lit (.int .i64 (l.length : Int))) := by
  unfold Dd
  rw [ddF_app, Nat.zero_add]
theorem ddF_at {v : Vl} (hv : Wd.V1 v ∧ v.s.size ≤ maxLen) (z : DataW Unit) : ∀ (l : List Vl) (i : Nat) (D : DataW Unit), IsMap D → Okk l → l.Nodup → (ddF l i D).atKey (keyV v) z = if v ∈ l then .lit (.int .i64 (fndF l v (i : Int))) else D.atKey (keyV v) z
  | [], i, D, _, _, _ => by simp [ddF]
  | a :: l, i, D, hD, hl, hn => by
    rw [List.nodup_cons] at hn
    have ih := ddF_at hv z l (i + 1) (D.put (keyV a) (.lit (.int .i64 (i : Int)))) (hD.put _ _) (fun x hx => hl x (by simp [hx])) hn.2
    show (ddF l (i + 1) _).atKey _ _ = _
    rw [ih]
    by_cases e : a = v
    · subst e
      rw [if_neg hn.1, if_pos (by simp), atKey_put_same hD (keyV_key a), fndF, if_pos rfl]
    · have hne : keyV v ≠ keyV a := fun q => e (keyV_inj (hl a (by simp)).1 (hl a (by simp)).2 hv.1 hv.2 q.symm)
      rw [fndF, if_neg e, atKey_put_other hne]
      by_cases q : v ∈ l
      · rw [if_pos q, if_pos (by simp [q])]
        rfl
      · rw [if_neg q, if_neg (by simp [q]; exact fun h => e h.symm)]
theorem ddF_has {v : Vl} (hv : Wd.V1 v ∧ v.s.size ≤ maxLen) : ∀ (l : List Vl) (i : Nat) (D : DataW Unit), IsMap D → Okk l → has (ddF l i D) (keyV v) = (decide (v ∈ l) || has D (keyV v))
  | [], i, D, _, _ => by simp [ddF]
  | a :: l, i, D, hD, hl => by
    have ih := ddF_has hv l (i + 1) (D.put (keyV a) (.lit (.int .i64 (i : Int)))) (hD.put _ _) (fun x hx => hl x (by simp [hx]))
    show has (ddF l (i + 1) _) _ = _
    rw [ih]
    by_cases e : a = v
    · subst e
      rw [has_put_same hD (keyV_key a)]
      simp
    · have hne : keyV v ≠ keyV a := fun q => e (keyV_inj (hl a (by simp)).1 (hl a (by simp)).2 hv.1 hv.2 q.symm)
      rw [has_put_other hne]
      simp [show ¬ v = a from fun h => e h.symm]
/-- Is a value found, and with which number? -/
theorem Dd_has {l : List Vl} (hl : Okk l) {v : Vl} (hv : Wd.V1 v ∧ v.s.size ≤ maxLen) : has (Dd l) (keyV v) = decide (v ∈ l) := by
  unfold Dd
  rw [ddF_has hv l 0 _ ⟨[], rfl⟩ hl]
  have : has (DataW.map [] : DataW Unit) (keyV v) = false := rfl
  rw [this, Bool.or_false]
theorem Dd_at {l : List Vl} (hl : Okk l) (hn : l.Nodup) {v : Vl} (hv : Wd.V1 v ∧ v.s.size ≤ maxLen) (z : DataW Unit) : (Dd l).atKey (keyV v) z = if v ∈ l then .lit (.int .i64 (fnd l v)) else z := by
  unfold Dd
  rw [ddF_at hv z l 0 _ ⟨[], rfl⟩ hl hn]
  rfl
theorem Dd_map (l : List Vl) : IsMap (Dd l) := by
  have : ∀ (l : List Vl) (i : Nat) (D : DataW Unit), IsMap D → IsMap (ddF l i D) := by
    intro l
    induction l with
    | nil => intro i D h; exact h
    | cons a l ih => intro i D h; exact ih _ _ (h.put _ _)
  exact this l 0 _ ⟨[], rfl⟩
end Dm
end Go.Proofs.Ytiokajaadmfohaa
