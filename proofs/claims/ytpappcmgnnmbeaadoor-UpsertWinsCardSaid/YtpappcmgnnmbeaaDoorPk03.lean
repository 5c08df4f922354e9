/- The bytes of a value in plain words, and the value that bytes begin with. No program, no memory. Schemas and the bytes of rows in plain words. No program, no memory. -/
import Derived.Laws.BytesArg
import Derived.Test.YtpappcmgnnmbeaaDoorPk01
import Derived.Test.YtpappcmgnnmbeaaDoorPk02
namespace Go.Proofs.YtpappcmgnnmbeaaDoor
set_option maxRecDepth 20000
namespace Va
/-- The bytes of a text as numbers. -/
def byts (s : ByteArray) : List Int := s.data.toList.map fun b => (b.toNat : Int)
theorem byts_len (s : ByteArray) : (byts s).length = s.size := by
  unfold byts
  rw [List.length_map, Array.length_toList]
  rfl
theorem byts_byt (s : ByteArray) : Nm.Byt (byts s) := fun x hx => by
  obtain ⟨b, _, rfl⟩ := List.mem_map.1 hx
  have := b.toNat_lt
  omega
theorem str_byts (s : ByteArray) : strOfNums (byts s) = s := by
  unfold strOfNums byts
  rw [List.map_map, List.map_congr_left (g := id) (fun b _ => by simp)]
  simp
theorem byts_str {xs : List Int} (h : Nm.Byt xs) : byts (strOfNums xs) = xs := by
  unfold byts
  rw [strOfNums_data, List.map_map, List.map_congr_left (g := id) (fun x hx => ?_), List.map_id]
  have := h x hx
  simp only [Function.comp_apply, id_eq, UInt8.toNat_ofNat']
  omega
/-- The bytes of a value that may be. -/
def put (v : Vl) : List Int :=
  if v.kind = 1 then Nm.vd (Nm.zz v.i) else if v.kind = 2 then Nm.vd v.s.size ++ byts v.s else if v.kind = 3 then [if v.b then 1 else 0] else []
/-- What Get answers. -/
def get (b : List Int) (kind : Int) : Vl × Int × Int :=
  if kind = 0 then (null, 0, 0)
  else if kind = 1 then (if (Nm.getI b).2.2 = 0 then (⟨1, (Nm.getI b).1, ⟨#[]⟩, false⟩, (Nm.getI b).2.1, 0) else (null, 0, (Nm.getI b).2.2))
  else if kind = 2 then
    (if (Nm.getL b).2.2 ≠ 0 then (null, 0, (Nm.getL b).2.2) else if 64 < (Nm.getL b).1 then (null, 0, 2)
     else if (b.length : Int) < (Nm.getL b).2.1 + (Nm.getL b).1 then (null, 0, 6)
     else (⟨2, 0, strOfNums ((b.drop (Nm.getL b).2.1.toNat).take (Nm.getL b).1.toNat), false⟩, (Nm.getL b).2.1 + (Nm.getL b).1, 0))
  else if kind = 3 then
    (match b with
     | [] => (null, 0, 6)
     | c :: _ => if 1 < c then (null, 0, 7) else (⟨3, 0, ⟨#[]⟩, c == 1⟩, 1, 0))
  else (null, 0, 1)
/-- What Any answers. -/
def any (b : List Int) : Vl × Int × Int :=
  match b with
  | [] => (null, 0, 6)
  | c :: r => if 3 < c then (null, 0, 7) else if (get r c).2.2 = 0 then ((get r c).1, (get r c).2.1 + 1, 0) else (null, 0, (get r c).2.2)

theorem put_len {v : Vl} (h : May v) : (put v).length ≤ 74 := by
  obtain ⟨k, i, s, b⟩ := v
  unfold May at h
  simp only [] at h
  unfold put
  rcases h with ⟨rfl, _⟩ | ⟨rfl, _⟩ | ⟨rfl, _, hs, _⟩ | ⟨rfl, _⟩
  · simp
  · have := Nm.vd_len (Nm.zz i)
    simp
    omega
  · have := Nm.vd_len (s.size : Int)
    have := byts_len s
    simp
    omega
  · simp
theorem put_byt {v : Vl} (h : May v) (h1 : -9223372036854775808 ≤ v.i) (h2 : v.i ≤ 9223372036854775807) : Nm.Byt (put v) := by
  obtain ⟨k, i, s, b⟩ := v
  unfold May at h
  simp only [] at h h1 h2
  unfold put
  rcases h with ⟨rfl, _⟩ | ⟨rfl, _⟩ | ⟨rfl, _, hs, _⟩ | ⟨rfl, _⟩
  · intro x hx; simp at hx
  · exact Nm.vd_byt _ (Nm.zz_lo i) (Nm.zz_hi i h1 h2)
  · exact Lw.byt_app (Nm.vd_byt _ (by omega) (by show (s.size : Int) ≤ _; omega)) (byts_byt s)
  · intro x hx
    simp at hx
    cases b <;> simp at hx <;> omega
/-- What was put is got, whatever stands behind. -/
theorem get_put {v : Vl} (h : May v) (h1 : -9223372036854775808 ≤ v.i) (h2 : v.i ≤ 9223372036854775807) (more : List Int) : get (put v ++ more) v.kind = (v, ((put v).length : Int), 0) := by
  obtain ⟨k, i, s, b⟩ := v
  unfold May at h
  simp only [] at h h1 h2
  unfold put get
  rcases h with ⟨rfl, rfl, rfl, rfl⟩ | ⟨rfl, rfl, rfl⟩ | ⟨rfl, rfl, hs, rfl⟩ | ⟨rfl, rfl, rfl⟩
  · simp [null]
  · simp only [if_pos, show ¬ ((1 : Int) = 0) by omega, if_neg, not_false_eq_true]
    rw [Lw.getI_vd i more h1 h2]
    simp
  · simp only [show ¬ ((2 : Int) = 0) by omega, show ¬ ((2 : Int) = 1) by omega, if_pos, if_neg, not_false_eq_true]
    rw [List.append_assoc, Lw.getL_vd (s.size : Int) (byts s ++ more) (by omega) (by omega)]
    have hl := byts_len s
    rw [if_neg (by simp), if_neg (by simp; omega), if_neg (by simp; omega)]
    simp only [Int.toNat_natCast]
    rw [List.drop_left, List.take_left' hl, str_byts]
    simp
    omega
  · cases b <;> simp
theorem any_put {v : Vl} (h : May v) (h1 : -9223372036854775808 ≤ v.i) (h2 : v.i ≤ 9223372036854775807) (more : List Int) : any (v.kind :: (put v ++ more)) = (v, ((put v).length : Int) + 1, 0) := by
  have hk : ¬ 3 < v.kind := by
    rcases h with ⟨q, _⟩ | ⟨q, _⟩ | ⟨q, _⟩ | ⟨q, _⟩ <;> omega
  unfold any
  simp only []
  rw [if_neg hk, get_put h h1 h2 more, if_pos rfl]
theorem byt_take {b : List Int} (h : Nm.Byt b) (k : Nat) : Nm.Byt (b.take k) := fun x hx => h x (List.mem_of_mem_take hx)
theorem byt_drop {b : List Int} (h : Nm.Byt b) (k : Nat) : Nm.Byt (b.drop k) := fun x hx => h x (List.mem_of_mem_drop hx)
theorem getI_ok {b : List Int} (hb : Nm.Byt b) (h : (Nm.getI b).2.2 = 0) : ∃ (k : Nat) (n : Int), Nm.getI b = (n, (k : Int), 0) ∧ k ≤ b.length ∧ -9223372036854775808 ≤ n ∧ n ≤ 9223372036854775807 ∧ b.take k = Nm.vd (Nm.zz n) := by
  have h0 : (Nm.gv b).2.2 = 0 := by
    unfold Nm.getI at h
    split at h
    · assumption
    · exact h
  obtain ⟨k, u, e, k1, k2, k3, u0, u1, ht, _⟩ := Nm.gv_only b hb h0
  have hu := Nm.unz_bd u u0 u1
  exact ⟨k, Nm.unz u, by unfold Nm.getI; rw [e]; simp, k2, hu.1, hu.2, by rw [ht, Nm.zz_unz u u0]⟩
theorem getL_ok {b : List Int} (hb : Nm.Byt b) (h : (Nm.getL b).2.2 = 0) : ∃ (k n : Nat), Nm.getL b = ((n : Int), (k : Int), 0) ∧ k ≤ b.length ∧ (n : Int) ≤ 9223372036854775807 ∧ b.take k = Nm.vd (n : Int) := by
  have h0 : (Nm.gv b).2.2 = 0 := by
    unfold Nm.getL at h
    split at h
    · assumption
    · exact h
  obtain ⟨k, u, e, k1, k2, k3, u0, u1, ht, _⟩ := Nm.gv_only b hb h0
  have hu : u ≤ 9223372036854775807 := by
    unfold Nm.getL at h
    rw [e] at h
    simp only [if_pos] at h
    split at h
    · cases h
    · omega
  refine ⟨k, u.toNat, ?_, k2, by omega, by rw [ht]; congr 1; omega⟩
  unfold Nm.getL
  rw [e]
  simp only [if_pos]
  rw [if_neg (by omega), show ((u.toNat : Nat) : Int) = u by omega]
/-- What is got may be, and would be put as the same bytes. -/
theorem get_only {b : List Int} (hb : Nm.Byt b) (kind : Int) (h : (get b kind).2.2 = 0) : ∃ (y : Vl) (j : Nat), get b kind = (y, (j : Int), 0) ∧ May y ∧ y.kind = kind ∧ j ≤ b.length ∧ put y = b.take j ∧ -9223372036854775808 ≤ y.i ∧ y.i ≤ 9223372036854775807 := by
  unfold get at h ⊢
  by_cases k0 : kind = 0
  · subst k0
    exact ⟨null, 0, by simp, may_null, rfl, by omega, by simp [put, null], by simp [null], by simp [null]⟩
  rw [if_neg k0] at h ⊢
  by_cases k1 : kind = 1
  · subst k1
    rw [if_pos rfl] at h ⊢
    by_cases h0 : (Nm.getI b).2.2 = 0
    · obtain ⟨k, n, e, hk, n1, n2, ht⟩ := getI_ok hb h0
      rw [e]
      exact ⟨⟨1, n, ⟨#[]⟩, false⟩, k, by simp, .inr (.inl ⟨rfl, rfl, rfl⟩), rfl, hk, by rw [ht]; simp [put], n1, n2⟩
    · rw [if_neg h0] at h
      exact absurd h h0
  rw [if_neg k1] at h ⊢
  by_cases k2 : kind = 2
  · subst k2
    rw [if_pos rfl] at h ⊢
    by_cases h0 : (Nm.getL b).2.2 = 0
    · obtain ⟨k, n, e, hk, n1, ht⟩ := getL_ok hb h0
      rw [e] at h ⊢
      simp only [ne_eq, not_true_eq_false, if_false, Int.toNat_natCast] at h ⊢
      by_cases q1 : 64 < (n : Int)
      · rw [if_pos q1] at h
        cases h
      rw [if_neg q1] at h ⊢
      by_cases q2 : (b.length : Int) < (k : Int) + (n : Int)
      · rw [if_pos q2] at h
        cases h
      rw [if_neg q2]
      have hsz : (strOfNums ((b.drop k).take n)).size = n := by
        rw [strOfNums_size, List.length_take, List.length_drop]
        omega
      refine ⟨⟨2, 0, strOfNums ((b.drop k).take n), false⟩, k + n, by simp, .inr (.inr (.inl ⟨rfl, rfl, by rw [hsz]; omega, rfl⟩)), rfl, by omega, ?_, by simp, by simp⟩
      simp only [put, show ¬ ((2 : Int) = 1) by omega, if_pos, if_neg, not_false_eq_true]
      rw [hsz, byts_str (byt_take (byt_drop hb k) n), ← ht, List.take_add]
    · rw [if_pos h0] at h
      exact absurd h h0
  rw [if_neg k2] at h ⊢
  by_cases k3 : kind = 3
  · subst k3
    rw [if_pos rfl] at h ⊢
    match b, h, hb with
    | [], h, _ => cases h
    | c :: r, h, hb =>
      simp only [] at h ⊢
      have hc := hb c (by simp)
      by_cases q : 1 < c
      · rw [if_pos q] at h
        cases h
      rw [if_neg q]
      refine ⟨⟨3, 0, ⟨#[]⟩, c == 1⟩, 1, by simp, .inr (.inr (.inr ⟨rfl, rfl, rfl⟩)), rfl, by simp, ?_, by simp, by simp⟩
      have : c = 0 ∨ c = 1 := by omega
      rcases this with rfl | rfl <;> simp [put]
  · rw [if_neg k3] at h
    cases h
theorem getI_err (b : List Int) (h : (Nm.getI b).2.2 ≠ 0) : Nm.getI b = (0, 0, (Nm.getI b).2.2) := by
  unfold Nm.getI at h ⊢
  split
  · rename_i q; rw [if_pos q] at h; exact absurd rfl h
  · rfl
/-- Where there is an error, nothing else is told. -/
theorem get_err (b : List Int) (kind : Int) (h : (get b kind).2.2 ≠ 0) : get b kind = (null, 0, (get b kind).2.2) := by
  unfold get at h ⊢
  split
  · rfl
  split
  · split
    · rename_i k0 k1 q
      rw [if_neg k0, if_pos k1, if_pos q] at h
      exact absurd rfl h
    · rfl
  split
  · split
    · rfl
    split
    · rfl
    split
    · rfl
    · rename_i k0 k1 k2 q0 q1 q2
      rw [if_neg k0, if_neg k1, if_pos k2, if_neg q0, if_neg q1, if_neg q2] at h
      exact absurd rfl h
  split
  · split
    · rfl
    · rename_i c r
      split
      · rfl
      · rename_i k0 k1 k2 k3 _ q
        rw [if_neg k0, if_neg k1, if_neg k2, if_pos k3] at h
        simp only [if_neg q] at h
        exact absurd rfl h
  · rfl
end Va
end Go.Proofs.YtpappcmgnnmbeaaDoor
namespace Go.Proofs.YtpappcmgnnmbeaaDoor
set_option maxRecDepth 20000
namespace Sc
open Va
/-- A column. -/
structure Col where
  name : ByteArray
  kind : Int
  nul : Bool
/-- A schema. -/
structure Sch where
  cols : List Col
  key : Int
  cmp : Int
  del : Int
  sort : Int
/-- A value that may be, of the machine's numbers. -/
def Ok (v : Vl) : Prop := May v ∧ -9223372036854775808 ≤ v.i ∧ v.i ≤ 9223372036854775807
theorem ok_null : Ok null := ⟨may_null, by simp [null], by simp [null]⟩
/-- Does a value stand in this column? -/
def fit1 (c : Col) (v : Vl) : Prop := Ok v ∧ (v.kind = c.kind ∨ (v.kind = 0 ∧ c.nul = true))
/-- Does a row fit these columns? -/
def fits : List Col → List Vl → Prop
  | [], [] => True
  | c :: cs, v :: vs => fit1 c v ∧ fits cs vs
  | _, _ => False
/-- A value's bytes in its column. -/
def one (c : Col) (v : Vl) : List Int := if c.nul = true then (if v.kind = 0 then [0] else 1 :: Va.put v) else Va.put v
/-- A row's bytes. -/
def enc : List Col → List Vl → List Int
  | c :: cs, v :: vs => one c v ++ enc cs vs
  | _, _ => []
/-- The value that bytes begin with in this column, how many bytes it takes, and the error. -/
def rd1 (c : Col) (b : List Int) : Vl × Int × Int :=
  if c.nul = true then
    match b with
    | [] => (null, 0, 6)
    | x :: r => if 1 < x then (null, 0, 7) else if x = 0 then (null, 1, 0) else if (Va.get r c.kind).2.2 = 0 then ((Va.get r c.kind).1, (Va.get r c.kind).2.1 + 1, 0) else (null, 0, (Va.get r c.kind).2.2)
  else Va.get b c.kind
/-- An answer with values ahead of it. -/
def pre (l : List Vl) (p : List Vl × Int) : List Vl × Int := if p.2 = 0 then (l ++ p.1, 0) else ([], p.2)
/-- The row that bytes are, and the error. -/
def dec : List Col → List Int → List Vl × Int
  | [], b => if b = [] then ([], 0) else ([], 7)
  | c :: cs, b => if (rd1 c b).2.2 = 0 then pre [(rd1 c b).1] (dec cs (b.drop (rd1 c b).2.1.toNat)) else ([], (rd1 c b).2.2)

theorem pre_pre (l m : List Vl) (p : List Vl × Int) : pre l (pre m p) = pre (l ++ m) p := by
  unfold pre
  by_cases h : p.2 = 0
  · simp [h]
  · simp [h]
theorem pre_nil (p : List Vl × Int) (h : p.2 ≠ 0 → p.1 = []) : pre [] p = p := by
  unfold pre
  by_cases q : p.2 = 0
  · rw [if_pos q, List.nil_append]
    exact Prod.ext rfl q.symm
  · rw [if_neg q]
    exact Prod.ext (h q).symm rfl
theorem dec_err (cs : List Col) (b : List Int) : (dec cs b).2 ≠ 0 → (dec cs b).1 = [] := by
  cases cs with
  | nil =>
    unfold dec
    split <;> simp
  | cons c cs =>
    unfold dec
    split
    · unfold pre
      split <;> simp
    · simp
/-- The first columns are read, and then the rest. -/
theorem dec_step (cs : List Col) (c : Col) (b : List Int) (l : List Vl) (h : (rd1 c b).2.2 = 0) : pre l (dec (c :: cs) b) = pre (l ++ [(rd1 c b).1]) (dec cs (b.drop (rd1 c b).2.1.toNat)) := by
  rw [dec, if_pos h, pre_pre]
theorem dec_stop (cs : List Col) (c : Col) (b : List Int) (l : List Vl) (h : (rd1 c b).2.2 ≠ 0) : pre l (dec (c :: cs) b) = ([], (rd1 c b).2.2) := by
  rw [dec, if_neg h]
  unfold pre
  rw [if_neg h]

theorem kind_pos {c : Col} {v : Vl} (h : fit1 c v) (hz : v.kind ≠ 0) : v.kind = c.kind := by
  rcases h.2 with q | q
  · exact q
  · exact absurd q.1 hz
theorem may_zero {v : Vl} (h : May v) (hz : v.kind = 0) : v = null := by
  obtain ⟨k, i, s, b⟩ := v
  unfold May at h
  simp only [] at h hz
  subst hz
  rcases h with ⟨_, rfl, rfl, rfl⟩ | ⟨q, _⟩ | ⟨q, _⟩ | ⟨q, _⟩
  · rfl
  all_goals omega
/-- What stands in a column is read again, whatever stands behind. -/
theorem rd1_one {c : Col} {v : Vl} (h : fit1 c v) (more : List Int) : rd1 c (one c v ++ more) = (v, ((one c v).length : Int), 0) := by
  unfold rd1 one
  by_cases hn : c.nul = true
  · rw [if_pos hn, if_pos hn]
    by_cases hz : v.kind = 0
    · rw [if_pos hz]
      rw [may_zero h.1.1 hz]
      simp
    · rw [if_neg hz]
      have hk := kind_pos h hz
      have g := get_put h.1.1 h.1.2.1 h.1.2.2 more
      rw [hk] at g
      simp only [List.cons_append]
      rw [g]
      simp
  · rw [if_neg hn, if_neg hn]
    have hk : v.kind = c.kind := by
      rcases h.2 with q | q
      · exact q
      · exact absurd q.2 hn
    have g := get_put h.1.1 h.1.2.1 h.1.2.2 more
    rw [hk] at g
    exact g
/-- What was encoded is decoded; bytes behind it make it none. -/
theorem dec_enc : ∀ (cs : List Col) (vs : List Vl) (more : List Int), (∀ c ∈ cs, 1 ≤ c.kind) → fits cs vs → dec cs (enc cs vs ++ more) = if more = [] then (vs, 0) else ([], 7)
  | [], [], more, _, _ => by
    unfold dec enc
    simp
  | [], _ :: _, _, _, h => h.elim
  | _ :: _, [], _, _, h => h.elim
  | c :: cs, v :: vs, more, hk, h => by
    have g := rd1_one h.1 (enc cs vs ++ more)
    rw [enc, List.append_assoc, dec, g, if_pos rfl]
    simp only [Int.toNat_natCast]
    rw [List.drop_left, dec_enc cs vs more (fun c hc => hk c (by simp [hc])) h.2]
    unfold pre
    by_cases hm : more = []
    · simp [hm]
    · simp [hm]
/-- What is read in a column fits it, and would be written as the same bytes. -/
theorem rd1_only {c : Col} (hc : 1 ≤ c.kind) {b : List Int} (hb : Nm.Byt b) (h : (rd1 c b).2.2 = 0) :
    ∃ (v : Vl) (j : Nat), rd1 c b = (v, (j : Int), 0) ∧ fit1 c v ∧ j ≤ b.length ∧ one c v = b.take j := by
  unfold rd1 at h ⊢
  by_cases hn : c.nul = true
  · rw [if_pos hn] at h ⊢
    match b, hb, h with
    | [], _, h => cases h
    | x :: r, hb, h =>
      simp only [] at h ⊢
      have hx := hb x (by simp)
      by_cases h1 : 1 < x
      · rw [if_pos h1] at h
        cases h
      rw [if_neg h1] at h ⊢
      by_cases h0 : x = 0
      · rw [if_pos h0]
        exact ⟨null, 1, by simp, ⟨ok_null, .inr ⟨rfl, hn⟩⟩, by simp, by unfold one; rw [if_pos hn]; simp [null, h0]⟩
      rw [if_neg h0] at h ⊢
      have hx1 : x = 1 := by omega
      have hr : Nm.Byt r := fun y hy => hb y (List.mem_cons_of_mem _ hy)
      by_cases hg : (Va.get r c.kind).2.2 = 0
      · rw [if_pos hg]
        obtain ⟨y, j, e, hy, hk, hj, hp, b1, b2⟩ := get_only hr c.kind hg
        rw [e]
        have hz : ¬ y.kind = 0 := by omega
        exact ⟨y, j + 1, by simp, ⟨⟨hy, b1, b2⟩, .inl hk⟩, by simp; omega, by unfold one; rw [if_pos hn, if_neg hz, hp, hx1]; simp⟩
      · rw [if_neg hg] at h
        exact absurd h hg
  · rw [if_neg hn] at h ⊢
    obtain ⟨y, j, e, hy, hk, hj, hp, b1, b2⟩ := get_only hb c.kind h
    exact ⟨y, j, e, ⟨⟨hy, b1, b2⟩, .inl hk⟩, hj, by unfold one; rw [if_neg hn]; exact hp⟩
theorem byt_drop' {b : List Int} (h : Nm.Byt b) (k : Nat) : Nm.Byt (b.drop k) := fun x hx => h x (List.mem_of_mem_drop hx)
/-- What is decoded fits, and would be encoded as the same bytes. -/
theorem dec_only : ∀ (cs : List Col) (b : List Int), (∀ c ∈ cs, 1 ≤ c.kind) → Nm.Byt b → (dec cs b).2 = 0 → ∃ vs, dec cs b = (vs, 0) ∧ fits cs vs ∧ enc cs vs = b
  | [], b, _, _, h => by
    unfold dec at h ⊢
    by_cases q : b = []
    · rw [if_pos q]
      exact ⟨[], rfl, trivial, by rw [q]; rfl⟩
    · rw [if_neg q] at h
      cases h
  | c :: cs, b, hk, hb, h => by
    by_cases q : (rd1 c b).2.2 = 0
    · obtain ⟨v, j, e, hf, hj, hp⟩ := rd1_only (hk c (by simp)) hb q
      rw [dec, e, if_pos rfl] at h ⊢
      simp only [Int.toNat_natCast] at h ⊢
      have h0 : (dec cs (b.drop j)).2 = 0 := by
        unfold pre at h
        by_cases z : (dec cs (b.drop j)).2 = 0
        · exact z
        · rw [if_neg z] at h
          exact absurd h z
      obtain ⟨vs, e2, hf2, hp2⟩ := dec_only cs (b.drop j) (fun c hc => hk c (by simp [hc])) (byt_drop' hb j) h0
      rw [e2]
      exact ⟨v :: vs, by simp [pre], ⟨hf, hf2⟩, by rw [enc, hp, hp2, List.take_append_drop]⟩
    · rw [dec, if_neg q] at h
      exact absurd h q
/-- A beginning of a row's bytes is no row's. -/
theorem dec_cut {cs : List Col} (hk : ∀ c ∈ cs, 1 ≤ c.kind) {b : List Int} (hb : Nm.Byt b) (h : (dec cs b).2 = 0) {n : Nat} (hn : n < b.length) : (dec cs (b.take n)).2 ≠ 0 := fun q => by
  obtain ⟨vs, e, hf, hp⟩ := dec_only cs (b.take n) hk (fun x hx => hb x (List.mem_of_mem_take hx)) q
  have g := dec_enc cs vs (b.drop n) hk hf
  rw [hp, List.take_append_drop] at g
  have hd : ¬ b.drop n = [] := fun z => by
    have := congrArg List.length z
    simp at this
    omega
  rw [if_neg hd] at g
  rw [g] at h
  cases h
/-- Two rows that fit have the same bytes only if they are the same. -/
theorem enc_inj {cs : List Col} (hk : ∀ c ∈ cs, 1 ≤ c.kind) {u v : List Vl} (hu : fits cs u) (hv : fits cs v) (h : enc cs u = enc cs v) : u = v := by
  have g := dec_enc cs u [] hk hu
  have k := dec_enc cs v [] hk hv
  rw [h, k] at g
  simp at g
  exact g.symm
/-- Neither's bytes begin with the other's. -/
theorem enc_apart {cs : List Col} (hk : ∀ c ∈ cs, 1 ≤ c.kind) {u v : List Vl} (hu : fits cs u) (hv : fits cs v) (hl : (enc cs u).length < (enc cs v).length) : enc cs u ≠ (enc cs v).take (enc cs u).length := fun h => by
  have g := dec_enc cs u ((enc cs v).drop (enc cs u).length) hk hu
  have k := dec_enc cs v [] hk hv
  have e : enc cs u ++ (enc cs v).drop (enc cs u).length = enc cs v := by
    have := List.take_append_drop (enc cs u).length (enc cs v)
    rw [← h] at this
    exact this
  rw [e] at g
  rw [List.append_nil, if_pos rfl] at k
  rw [k] at g
  have hd : ¬ (enc cs v).drop (enc cs u).length = [] := fun z => by
    have := congrArg List.length z
    simp at this
    omega
  rw [if_neg hd] at g
  have := congrArg Prod.snd g
  simp at this
theorem fits_len : ∀ {cs : List Col} {vs : List Vl}, fits cs vs → vs.length = cs.length
  | [], [], _ => rfl
  | [], _ :: _, h => h.elim
  | _ :: _, [], h => h.elim
  | _ :: _, _ :: _, h => by simp [fits_len h.2]
theorem one_len {c : Col} {v : Vl} (h : fit1 c v) : (one c v).length ≤ 75 := by
  have := put_len h.1.1
  unfold one
  split
  · split
    · simp
    · simp; omega
  · omega
theorem enc_len : ∀ {cs : List Col} {vs : List Vl}, fits cs vs → (enc cs vs).length ≤ 75 * cs.length
  | [], [], _ => by simp [enc]
  | [], _ :: _, h => h.elim
  | _ :: _, [], h => h.elim
  | c :: cs, v :: vs, h => by
    have h1 := one_len h.1
    have h2 := enc_len h.2
    rw [enc, List.length_append, List.length_cons]
    omega
theorem one_byt {c : Col} {v : Vl} (h : fit1 c v) : Nm.Byt (one c v) := by
  have hp : Nm.Byt (Va.put v) := put_byt h.1.1 h.1.2.1 h.1.2.2
  unfold one
  split
  · split
    · intro x hx; simp at hx; omega
    · intro x hx
      rcases List.mem_cons.1 hx with q | q
      · omega
      · exact hp x q
  · exact hp
theorem enc_byt : ∀ {cs : List Col} {vs : List Vl}, fits cs vs → Nm.Byt (enc cs vs)
  | [], [], _ => by intro x hx; simp [enc] at hx
  | [], _ :: _, h => h.elim
  | _ :: _, [], h => h.elim
  | c :: cs, v :: vs, h => by
    rw [enc]
    exact Lw.byt_app (one_byt h.1) (enc_byt h.2)
/-- Encoding column by column: the first k columns' bytes, and the next one's. -/
theorem enc_take : ∀ (cs : List Col) (vs : List Vl) (k : Nat) (c : Col) (v : Vl), cs[k]? = some c → vs[k]? = some v → enc (cs.take (k + 1)) (vs.take (k + 1)) = enc (cs.take k) (vs.take k) ++ one c v
  | [], _, k, _, _, h, _ => by simp at h
  | _ :: _, [], k, _, _, _, h => by simp at h
  | c' :: cs, v' :: vs, 0, c, v, h1, h2 => by
    simp at h1 h2
    subst h1 h2
    simp [enc]
  | c' :: cs, v' :: vs, k + 1, c, v, h1, h2 => by
    simp at h1 h2
    rw [List.take_succ_cons, List.take_succ_cons, enc, enc_take cs vs k c v h1 h2, List.take_succ_cons, List.take_succ_cons, enc, List.append_assoc]
/-- May a column's name be? -/
def nameOk (s : ByteArray) : Prop := 1 ≤ s.size ∧ s.size ≤ 16 ∧ ∀ x ∈ byts s, (97 ≤ x ∧ x ≤ 122) ∨ (48 ≤ x ∧ x ≤ 57) ∨ x = 95
/-- Is this the number of a column whose values may not be nothing? -/
def whole (s : Sch) (i : Int) : Prop := 0 ≤ i ∧ ∃ c, s.cols[i.toNat]? = some c ∧ c.nul = false
def whole1 (s : Sch) (i : Int) (k : Int) : Prop := 0 ≤ i ∧ ∃ c, s.cols[i.toNat]? = some c ∧ c.nul = false ∧ c.kind = k
/-- May this schema be? -/
def MayS (s : Sch) : Prop :=
  1 ≤ s.cols.length ∧ s.cols.length ≤ 8 ∧ -1 ≤ s.sort ∧ s.sort < s.cols.length ∧ (∀ c ∈ s.cols, nameOk c.name ∧ 1 ≤ c.kind ∧ c.kind ≤ 3) ∧ (s.cols.map Col.name).Nodup
    ∧ ((s.key = -1 ∧ s.cmp = -1 ∧ s.del = -1) ∨ (s.key ≠ -1 ∧ whole s s.key ∧ whole1 s s.cmp 1 ∧ (s.del = -1 ∨ whole1 s s.del 3)))
theorem mayS_pos {s : Sch} (h : MayS s) : ∀ c ∈ s.cols, 1 ≤ c.kind := fun c hc => (h.2.2.2.2.1 c hc).2.1
/-- The number of the first column of this name. -/
def findF : List Col → ByteArray → Int → Int
  | [], _, _ => -1
  | c :: cs, s, i => if c.name = s then i else findF cs s (i + 1)
def find (s : Sch) (name : ByteArray) : Int := findF s.cols name 0
end Sc
end Go.Proofs.YtpappcmgnnmbeaaDoor
