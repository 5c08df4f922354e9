/- The plain arithmetic of layer 4: the checksum's register, step by step and byte by byte; that it is linear and loses nothing. No program, no memory. The plain arithmetic of layer 4: the frame of a payload; reading frames; a beginning of frames. No program, no memory. The plain arithmetic of layer and what goes with it. -/
import Derived.Test.YtaoeipehpakngaaGreatDoorPa02
import Derived.Test.YtaoeipehpakngaaGreatDoorPa04
namespace Go.Proofs.YtaoeipehpakngaaGreatDoor
set_option maxRecDepth 20000
namespace Fr
def st (r : Nat) : Nat := if r % 2 = 1 then (r / 2) ^^^ 3988292384 else r / 2
def stN : Nat → Nat → Nat
  | 0, r => r
  | n + 1, r => stN n (st r)
def bt (r c : Nat) : Nat := stN 8 (r ^^^ c)
def reg (r : Nat) (b : List Int) : Nat := b.foldl (fun r c => bt r c.toNat) r
def sum (b : List Int) : Nat := 4294967295 - reg 4294967295 b
def le4 (n : Nat) : List Int := [((n % 256 : Nat) : Int), ((n / 256 % 256 : Nat) : Int), ((n / 65536 % 256 : Nat) : Int), ((n / 16777216 % 256 : Nat) : Int)]
theorem xor_div (a b : Nat) : (a ^^^ b) / 2 = a / 2 ^^^ b / 2 := by
  have := Nat.shiftRight_xor_distrib (a := a) (b := b) (i := 1)
  simpa [Nat.shiftRight_eq_div_pow] using this
theorem xor_mod (a b : Nat) : (a ^^^ b) % 2 = (a + b) % 2 := by
  have h : (a ^^^ b).testBit 0 = (a.testBit 0 ^^ b.testBit 0) := Nat.testBit_xor ..
  simp only [Nat.testBit_zero] at h
  generalize a ^^^ b = c at h ⊢
  rcases Nat.mod_two_eq_zero_or_one a with p | p <;> rcases Nat.mod_two_eq_zero_or_one b with q | q <;> rcases Nat.mod_two_eq_zero_or_one c with z | z <;> simp [p, q, z] at h <;> omega
theorem xor_lt {n a b : Nat} (ha : a < 2 ^ n) (hb : b < 2 ^ n) : a ^^^ b < 2 ^ n := Nat.xor_lt_two_pow ha hb
theorem xor4 (a b c d : Nat) : (a ^^^ b) ^^^ (c ^^^ d) = (a ^^^ c) ^^^ (b ^^^ d) := by
  rw [Nat.xor_assoc, Nat.xor_assoc, ← Nat.xor_assoc b c d, Nat.xor_comm b c, Nat.xor_assoc c b d]
theorem st_xor (a b : Nat) : st (a ^^^ b) = st a ^^^ st b := by
  have hd := xor_div a b
  have hm := xor_mod a b
  unfold st
  by_cases h1 : a % 2 = 1 <;> by_cases h2 : b % 2 = 1
  · rw [if_neg (by omega), if_pos h1, if_pos h2, hd, xor4, Nat.xor_self, Nat.xor_zero]
  · rw [if_pos (by omega), if_pos h1, if_neg h2, hd, Nat.xor_assoc, Nat.xor_assoc, Nat.xor_comm (b / 2)]
  · rw [if_pos (by omega), if_neg h1, if_pos h2, hd, Nat.xor_assoc]
  · rw [if_neg (by omega), if_neg h1, if_neg h2, hd]
theorem stN_xor (n : Nat) : ∀ a b, stN n (a ^^^ b) = stN n a ^^^ stN n b := by
  induction n with
  | zero => intro a b; rfl
  | succ n ih => intro a b; rw [stN, st_xor, ih]; rfl
theorem st_lt {r : Nat} (h : r < 2 ^ 32) : st r < 2 ^ 32 := by
  unfold st
  split
  · exact xor_lt (by omega) (by decide)
  · omega
theorem stN_lt (n : Nat) : ∀ {r : Nat}, r < 2 ^ 32 → stN n r < 2 ^ 32 := by
  induction n with
  | zero => intro r h; exact h
  | succ n ih => intro r h; exact ih (st_lt h)
theorem stN_up (n : Nat) : ∀ k, stN n (k * 2 ^ n) = k := by
  induction n with
  | zero => intro k; simp [stN]
  | succ n ih =>
    intro k
    rw [stN]
    have e : k * 2 ^ (n + 1) = 2 * (k * 2 ^ n) := by rw [Nat.pow_succ]; rw [← Nat.mul_assoc, Nat.mul_comm]
    have : st (k * 2 ^ (n + 1)) = k * 2 ^ n := by
      unfold st
      rw [e, if_neg (by omega)]
      omega
    rw [this, ih]
theorem xor_split (r : Nat) : r = (r / 256 * 256) ^^^ (r % 256) := by
  refine Nat.eq_of_testBit_eq fun i => ?_
  rw [Nat.testBit_xor]
  have e1 : r / 256 * 256 = 2 ^ 8 * (r / 256) := by omega
  have e2 : r % 256 = r % 2 ^ 8 := rfl
  rw [e1, Nat.testBit_two_pow_mul, e2, Nat.testBit_mod_two_pow]
  by_cases hi : 8 ≤ i
  · have : r / 256 = r >>> 8 := by rw [Nat.shiftRight_eq_div_pow]
    rw [this, Nat.testBit_shiftRight]
    simp [hi, show ¬ i < 8 by omega, show 8 + (i - 8) = i by omega]
  · simp [hi, show i < 8 by omega]
theorem bt_tab (r c : Nat) : bt r c = r / 256 ^^^ stN 8 (r % 256 ^^^ c) := by
  unfold bt
  have e : r ^^^ c = (r / 256 * 2 ^ 8) ^^^ (r % 256 ^^^ c) := by
    have h := xor_split r
    rw [← Nat.xor_assoc]
    exact congrArg (· ^^^ c) h
  rw [e, stN_xor, stN_up]
theorem bt_lt {r c : Nat} (hr : r < 2 ^ 32) (hc : c < 2 ^ 32) : bt r c < 2 ^ 32 := stN_lt 8 (xor_lt hr hc)
theorem reg_snoc (r : Nat) (a : List Int) (c : Int) : reg r (a ++ [c]) = bt (reg r a) c.toNat := by simp [reg]
theorem reg_lt : ∀ (b : List Int) {r : Nat}, Nm.Byt b → r < 2 ^ 32 → reg r b < 2 ^ 32
  | [], _, _, h => h
  | c :: b, r, hb, h => by
    have hc := hb c (by simp)
    exact reg_lt b (fun x hx => hb x (by simp [hx])) (bt_lt h (by omega))
theorem ones_xor (x : Nat) (h : x < 2 ^ 32) : x ^^^ 4294967295 = 4294967295 - x := by
  have e : x ^^^ (2 ^ 32 - 1) = ((BitVec.ofNat 32 x) ^^^ (BitVec.allOnes 32)).toNat := by
    rw [BitVec.toNat_xor, BitVec.toNat_allOnes, BitVec.toNat_ofNat, Nat.mod_eq_of_lt h]
  have e2 : (2 ^ 32 - 1 : Nat) = 4294967295 := by decide
  rw [← e2, e, BitVec.xor_allOnes, BitVec.toNat_not, BitVec.toNat_ofNat, Nat.mod_eq_of_lt h]
theorem sum_xor (b : List Int) (hb : Nm.Byt b) : sum b = reg 4294967295 b ^^^ 4294967295 := (ones_xor _ (reg_lt b hb (by decide))).symm
theorem sum_lt (b : List Int) : sum b < 2 ^ 32 := by unfold sum; omega
end Fr
namespace Fr
def frame (p : List Int) : List Int := Nm.vd p.length ++ p ++ le4 (sum p)
def openF (b : List Int) : Option (List Int × Nat) :=
  if (Nm.getL b).2.2 ≠ 0 ∨ 65536 < (Nm.getL b).1 then none
  else if b.length < (Nm.getL b).2.1.toNat + (Nm.getL b).1.toNat + 4 then none
  else if le4 (sum ((b.drop (Nm.getL b).2.1.toNat).take (Nm.getL b).1.toNat)) = (b.drop ((Nm.getL b).2.1.toNat + (Nm.getL b).1.toNat)).take 4 then
    some ((b.drop (Nm.getL b).2.1.toNat).take (Nm.getL b).1.toNat, (Nm.getL b).2.1.toNat + (Nm.getL b).1.toNat + 4)
  else none
def rdF : Nat → List Int → List (List Int) × Nat
  | 0, _ => ([], 0)
  | f + 1, b => match openF b with
    | none => ([], 0)
    | some (p, s) => (p :: (rdF f (b.drop s)).1, s + (rdF f (b.drop s)).2)
def rd (b : List Int) : List (List Int) × Nat := rdF (b.length + 1) b
theorem le4_len (n : Nat) : (le4 n).length = 4 := rfl
theorem le4_byt (n : Nat) : Nm.Byt (le4 n) := by
  intro x hx
  simp only [le4, List.mem_cons, List.not_mem_nil, or_false] at hx
  omega
theorem openF_le {b p : List Int} {s : Nat} (h : openF b = some (p, s)) : 4 ≤ s ∧ s ≤ b.length ∧ p.length + 4 ≤ s ∧ p.length ≤ 65536 := by
  unfold openF at h
  split at h
  · cases h
  · rename_i h0
    split at h
    · cases h
    · rename_i h1
      split at h
      · simp only [Option.some.injEq, Prod.mk.injEq] at h
        obtain ⟨rfl, rfl⟩ := h
        simp only [List.length_take, List.length_drop]
        omega
      · cases h
theorem rdF_more : ∀ (f g : Nat) (b : List Int), b.length < f → b.length < g → rdF f b = rdF g b
  | 0, _, _, h, _ => by omega
  | _ + 1, 0, _, _, h => by omega
  | f + 1, g + 1, b, h1, h2 => by
    rw [rdF, rdF]
    cases ho : openF b with
    | none => rfl
    | some q =>
      obtain ⟨p, s⟩ := q
      have hs := openF_le ho
      have e := rdF_more f g (b.drop s) (by simp; omega) (by simp; omega)
      simp only [e]
theorem rd_none {b : List Int} (h : openF b = none) : rd b = ([], 0) := by
  unfold rd
  rw [rdF, h]
theorem rd_some {b p : List Int} {s : Nat} (h : openF b = some (p, s)) : rd b = (p :: (rd (b.drop s)).1, s + (rd (b.drop s)).2) := by
  have hs := openF_le h
  unfold rd
  rw [rdF, h]
  simp only [rdF_more b.length ((b.drop s).length + 1) (b.drop s) (by simp; omega) (by omega)]
theorem openF_nil : openF [] = none := by
  unfold openF
  rw [if_pos (by left; decide)]
theorem openF_frame (p more : List Int) (hp : p.length ≤ 65536) : openF (frame p ++ more) = some (p, (frame p).length) := by
  have hg : Nm.getL (frame p ++ more) = ((p.length : Int), ((Nm.vd p.length).length : Int), 0) := by
    unfold frame
    rw [List.append_assoc, List.append_assoc]
    unfold Nm.getL
    rw [Nm.gv_vd _ _ (by omega) (by omega)]
    exact if_neg (show ¬ 9223372036854775807 < (p.length : Int) by omega)
  unfold openF
  rw [hg]
  simp only [Int.toNat_natCast]
  rw [if_neg (by simp; omega), if_neg (by simp [frame, le4_len]; omega)]
  have e0 : frame p ++ more = Nm.vd p.length ++ (p ++ (le4 (sum p) ++ more)) := by simp [frame]
  have e1 : ((frame p ++ more).drop (Nm.vd p.length).length).take p.length = p := by
    rw [e0, List.drop_left, List.take_left]
  have e2 : ((frame p ++ more).drop ((Nm.vd p.length).length + p.length)).take 4 = le4 (sum p) := by
    rw [e0, ← List.drop_drop, List.drop_left, List.drop_left]
    exact List.take_left' (le4_len _)
  rw [e1, e2, if_pos rfl]
  simp only [frame, List.length_append, le4_len]
theorem rd_frame (p more : List Int) (hp : p.length ≤ 65536) : rd (frame p ++ more) = (p :: (rd more).1, (frame p).length + (rd more).2) := by
  rw [rd_some (openF_frame p more hp), List.drop_left]
end Fr
namespace Fr
def cat (l : List (List Int)) : List Int := l.flatMap frame
def Fine (l : List (List Int)) : Prop := ∀ p, p ∈ l → p.length ≤ 65536 ∧ Nm.Byt p
theorem cat_nil : cat [] = [] := rfl
theorem cat_cons (p : List Int) (l : List (List Int)) : cat (p :: l) = frame p ++ cat l := rfl
theorem cat_app (l m : List (List Int)) : cat (l ++ m) = cat l ++ cat m := by simp [cat]
theorem cat_take (l : List (List Int)) (k : Nat) (hk : k < l.length) : cat (l.take (k + 1)) = cat (l.take k) ++ frame (l.getD k []) := by
  rw [List.take_succ_eq_append_getElem hk, cat_app]
  simp [cat, List.getD, hk]
theorem frame_byt {p : List Int} (h : p.length ≤ 65536) (hb : Nm.Byt p) : Nm.Byt (frame p) := by
  intro x hx
  rcases List.mem_append.1 hx with q | q
  · rcases List.mem_append.1 q with q | q
    · exact Nm.vd_byt _ (by omega) (by omega) x q
    · exact hb x q
  · exact le4_byt _ x q
theorem cat_byt {l : List (List Int)} (h : Fine l) : Nm.Byt (cat l) := by
  intro x hx
  obtain ⟨p, hp, hx⟩ := List.mem_flatMap.1 hx
  exact frame_byt (h p hp).1 (h p hp).2 x hx
theorem frame_len (p : List Int) : (frame p).length = (Nm.vd (p.length : Int)).length + p.length + 4 := by
  simp [frame, le4_len]; omega
theorem cat_len {l : List (List Int)} {n : Nat} (h : ∀ p, p ∈ l → p.length ≤ n) : (cat l).length ≤ l.length * (n + 14) := by
  induction l with
  | nil => simp [cat]
  | cons p l ih =>
    have h1 := h p (by simp)
    have h2 := ih (fun q hq => h q (by simp [hq]))
    have h3 := (Nm.vd_len (p.length : Int)).2
    rw [cat_cons, List.length_append, frame_len, List.length_cons, Nat.succ_mul]
    omega
theorem rd_nil : rd [] = ([], 0) := rd_none openF_nil
theorem rd_cat (l : List (List Int)) : ∀ more : List Int, Fine l → rd (cat l ++ more) = (l ++ (rd more).1, (cat l).length + (rd more).2) := by
  induction l with
  | nil => intro more _; rw [cat_nil, List.nil_append, List.nil_append, List.length_nil, Nat.zero_add]
  | cons p l ih =>
    intro more h
    rw [cat_cons, List.append_assoc, rd_frame p _ (h p (by simp)).1, ih more (fun q hq => h q (by simp [hq])), List.length_append]
    simp only [List.cons_append, Nat.add_assoc]
end Fr
namespace Fi
open Va (Vl May)
open Sc (Sch tr tr_yes tr_no)
open Se (Seg Ok)
open Nm (vd zz)
theorem bi3 (l : List Int) : ∃ k, Rn.bi l 3 = k ∧ k ≤ 2 := ⟨_, rfl, by
  have h := Rn.bi_le l 2
  rw [show 2 + 1 = 3 from rfl] at h
  exact h⟩
def Vok (v : Vl) : Prop := May v ∧ Rn.Fit v.i
structure Cok (C : Co.Col) : Prop where
  n0 : 0 ≤ C.n
  n1 : C.n ≤ 4096
  dl : C.dict.length ≤ 1000000
  vs : ∀ v ∈ C.dict, Vok v
def head (x : Seg) : List Int := vd x.part ++ (vd x.id ++ (vd x.st ++ (vd x.en ++ vd (x.cols.length : Int))))
def pays (x : Seg) : List (List Int) := head x :: Rn.enc x.offs :: x.cols.map Co.puts
def fileB (x : Seg) : List Int := Fr.cat (pays x)
theorem pays_len (x : Seg) : (pays x).length = 2 + x.cols.length := by simp [pays]; omega
def Room (x : Seg) : Prop := ∀ p ∈ pays x, p.length ≤ 65536
structure Nice (x : Seg) : Prop where
  head : Se.Head x
  few : x.cols.length ≤ 1000000
  len : x.offs.length ≤ 4096
  fit : Rn.Fits x.offs
  cols : ∀ c ∈ x.cols, Cok c
theorem head_byt {x : Seg} (hx : Nice x) : Nm.Byt (head x) := by
  obtain ⟨x1, x2, x3, x4, x5, x6, x7⟩ := hx.head
  have x8 := hx.few
  unfold head
  exact Rn.byt_app (Nm.vd_byt _ (by omega) (by omega)) (Rn.byt_app (Nm.vd_byt _ (by omega) (by omega)) (Rn.byt_app (Nm.vd_byt _ (by omega) (by omega)) (Rn.byt_app (Nm.vd_byt _ (by omega) (by omega)) (Nm.vd_byt _ (by omega) (by omega)))))
def Byts (x : Seg) : Prop := ∀ c ∈ x.cols, Nm.Byt (Co.puts c)
theorem enc_byt {l : List Int} (hl : l.length ≤ 4096) (h : Rn.Fits l) : Nm.Byt (Rn.enc l) := by
  obtain ⟨k, ek, hk⟩ := bi3 l
  unfold Rn.enc
  rw [ek]
  exact Rn.block_byt h hl _ (by omega)
theorem pays_fine {x : Seg} (hx : Nice x) (hb : Byts x) (hr : Room x) : Fr.Fine (pays x) := fun p hp => ⟨hr p hp, by
  unfold pays at hp
  rcases List.mem_cons.1 hp with rfl | hp
  · exact head_byt hx
  · rcases List.mem_cons.1 hp with rfl | hp
    · exact enc_byt hx.len hx.fit
    · obtain ⟨c, hc, rfl⟩ := List.mem_map.1 hp
      exact hb c hc⟩
theorem rd_file {x : Seg} (hx : Fr.Fine (pays x)) : Fr.rd (fileB x) = (pays x, (fileB x).length) := by
  have := Fr.rd_cat (pays x) [] hx
  rw [Fr.rd_nil] at this
  simpa [fileB] using this
end Fi
namespace Se
open Va (Vl May ord null)
open Sc (Sch MayS FitS tr tr_yes tr_no tr_iff)
open Co (values build)
theorem fit_may {s : Sch} {r : List Vl} (h : FitS s r) : r.length = s.cols.length ∧ ∀ v ∈ r, May v := by
  have h3 := (Sc.fits_get _ _).1 h.2
  refine ⟨h3.1, fun v hv => ?_⟩
  obtain ⟨j, hj, rfl⟩ := List.getElem_of_mem hv
  have := (h3.2 j (by omega)).1.1
  simpa [List.getD, List.getElem?_eq_getElem hj] using this
section
variable {s : Sch} {x : Seg} {l : List (List Vl)} {offs : List Int}
theorem get_mem {l : List (List Vl)} {i : Nat} (h : i < l.length) : l.getD i [] ∈ l := by
  rw [List.getD_eq_getElem?_getD, List.getElem?_eq_getElem h]
  exact List.getElem_mem h
theorem arr_lt {i : Nat} (h : i < l.length) : (arr s l).getD i 0 < l.length := by
  have h' : i < (arr s l).length := by rw [arr_len]; exact h
  refine (arr_mem s l).1 ?_
  rw [List.getD_eq_getElem?_getD, List.getElem?_eq_getElem h']
  exact List.getElem_mem h'
theorem pick_ok (hf : Fit s l) (k : Nat) (hk : k < s.cols.length) : ∀ v ∈ pick l (arr s l) k, May v := fun v hv => by
  obtain ⟨y, hy, rfl⟩ := List.mem_map.1 hv
  have hm := get_mem ((arr_mem s l).1 hy)
  obtain ⟨h1, h2⟩ := fit_may (hf.2 _ hm)
  refine h2 _ ?_
  rw [List.getD_eq_getElem?_getD (i := k), List.getElem?_eq_getElem (by omega)]
  exact List.getElem_mem _
theorem plen (k : Nat) : (pick l (arr s l) k).length = l.length := by simp [pick, arr_len]
theorem sealed_offs_len : (sealed s x l offs).offs.length = l.length := by simp [sealed, offsOf, arr_len]
theorem sealed_col {c : Co.Col} (h : c ∈ (sealed s x l offs).cols) : ∃ k, k < s.cols.length ∧ c = (build (pick l (arr s l) k)).1 := by
  obtain ⟨k, hk, rfl⟩ := List.mem_map.1 h
  exact ⟨k, List.mem_range.1 hk, rfl⟩
theorem sealed_offs {i : Nat} (h : i < l.length) : (sealed s x l offs).offs.getD i 0 = offs.getD ((arr s l).getD i 0) 0 := by
  have h' : i < (arr s l).length := by rw [arr_len]; exact h
  simp only [sealed, offsOf]
  rw [List.getD_eq_getElem?_getD, List.getElem?_map, List.getElem?_eq_getElem h', List.getD_eq_getElem?_getD (l := arr s l), List.getElem?_eq_getElem h']
  rfl
theorem sealed_row (hf : Fit s l) (hl : l.length ≤ 4096) {i : Nat} (h : i < l.length) : row (sealed s x l offs) (i : Int) = l.getD ((arr s l).getD i 0) [] := by
  have hv : ∀ k, k < s.cols.length → values (build (pick l (arr s l) k)).1 = pick l (arr s l) k := fun k hk => Co.values_build (by rw [plen]; exact hl) (pick_ok hf k hk)
  have hhas : Has (sealed s x l offs) (i : Int) := ⟨by omega, by rw [sealed_offs_len]; omega, fun c hc => by
    obtain ⟨k, hk, rfl⟩ := sealed_col hc
    rw [hv k hk, plen]
    omega⟩
  rw [row_yes hhas, Int.toNat_natCast]
  have hm := get_mem (arr_lt (s := s) h)
  obtain ⟨h1, -⟩ := fit_may (hf.2 _ hm)
  show ((List.range s.cols.length).map fun k => (build (pick l (arr s l) k)).1).map _ = _
  rw [List.map_map]
  refine List.ext_getElem (by rw [List.length_map, List.length_range, h1]) fun k q1 q2 => ?_
  have hk : k < s.cols.length := by simpa using q1
  have h' : i < (arr s l).length := by rw [arr_len]; exact h
  simp only [List.getElem_map, List.getElem_range, Function.comp]
  rw [hv k hk]
  have e : (pick l (arr s l) k).getD i default = (l.getD ((arr s l).getD i 0) []).getD k default := by
    unfold pick
    rw [List.getD_eq_getElem?_getD, List.getElem?_map, List.getElem?_eq_getElem h', List.getD_eq_getElem?_getD (l := arr s l), List.getElem?_eq_getElem h']
    rfl
  rw [e, List.getD_eq_getElem?_getD, List.getElem?_eq_getElem q2]
  rfl
theorem sealed_rows (hf : Fit s l) (hl : l.length ≤ 4096) : rows (sealed s x l offs) = (arr s l).map fun i => l.getD i [] := by
  refine List.ext_getElem (by rw [rows_len, sealed_offs_len, List.length_map, arr_len]) fun i q1 q2 => ?_
  have hi : i < l.length := by rw [rows_len, sealed_offs_len] at q1; exact q1
  have h' : i < (arr s l).length := by rw [arr_len]; exact hi
  have := rows_get (x := sealed s x l offs) (i := i) (by rw [sealed_offs_len]; exact hi)
  rw [sealed_row hf hl hi, List.getD_eq_getElem?_getD, List.getElem?_eq_getElem q1] at this
  rw [List.getElem_map, show (rows (sealed s x l offs))[i] = _ from this, List.getD_eq_getElem?_getD (l := arr s l), List.getElem?_eq_getElem h']
  rfl
theorem sealed_ok (h : Arg s x l offs) (hl : l.length ≤ 4096) : Ok s (sealed s x l offs) := by
  obtain ⟨hf, hh, ho, hr⟩ := h
  obtain ⟨r1, r2⟩ := rise_iff.1 hr
  have inj : ∀ i j, i < j → j < l.length → offs.getD i 0 < offs.getD j 0 := fun i j hij hj => by
    have hi' : i < offs.length := by omega
    have hj' : j < offs.length := by omega
    have := List.pairwise_iff_getElem.1 r1 i j hi' hj' hij
    simpa [List.getD, hi', hj'] using this
  have nd : ∀ i j, i < j → j < l.length → (arr s l).getD i 0 ≠ (arr s l).getD j 0 := fun i j hij hj => by
    have hi' : i < (arr s l).length := by rw [arr_len]; omega
    have hj' : j < (arr s l).length := by rw [arr_len]; omega
    have := List.pairwise_iff_getElem.1 (arr_nd s l) i j hi' hj' hij
    simpa [List.getD, hi', hj'] using this
  refine ⟨hh, by simp [sealed, colsOf_len], by rw [sealed_offs_len]; exact hl, fun c hc => ?_, ?_, fun o ho' => ?_, ?_, fun i h1 h2 => ?_⟩
  · obtain ⟨k, hk, rfl⟩ := sealed_col hc
    refine ⟨?_, Co.valid_build (by rw [plen]; exact hl) (pick_ok hf k hk)⟩
    rw [Co.build_ok (by rw [plen]; exact hl) (pick_ok hf k hk), sealed_offs_len]
    show ((pick l (arr s l) k).length : Int) = _
    rw [plen]
  · refine List.pairwise_iff_getElem.2 fun i j hi hj hij => ?_
    have e1 := sealed_offs (s := s) (x := x) (offs := offs) (i := i) (by rw [sealed_offs_len] at hi; exact hi)
    have e2 := sealed_offs (s := s) (x := x) (offs := offs) (i := j) (by rw [sealed_offs_len] at hj; exact hj)
    rw [List.getD_eq_getElem?_getD, List.getElem?_eq_getElem hi] at e1
    rw [List.getD_eq_getElem?_getD, List.getElem?_eq_getElem hj] at e2
    rw [show (sealed s x l offs).offs[i] = _ from e1, show (sealed s x l offs).offs[j] = _ from e2]
    rw [sealed_offs_len] at hi hj
    have n := nd i j hij hj
    have a1 := arr_lt (s := s) hi
    have a2 := arr_lt (s := s) hj
    rcases Nat.lt_or_gt_of_ne n with z | z
    · have := inj _ _ z a2; omega
    · have := inj _ _ z a1; omega
  · obtain ⟨i, hi, rfl⟩ := List.getElem_of_mem ho'
    have e1 := sealed_offs (s := s) (x := x) (offs := offs) (i := i) (by rw [sealed_offs_len] at hi; exact hi)
    rw [List.getD_eq_getElem?_getD, List.getElem?_eq_getElem hi] at e1
    rw [show (sealed s x l offs).offs[i] = _ from e1]
    rw [sealed_offs_len] at hi
    have a1 := arr_lt (s := s) hi
    refine r2 _ ?_
    rw [List.getD_eq_getElem?_getD, List.getElem?_eq_getElem (by omega)]
    exact List.getElem_mem _
  · refine ⟨hf.1, fun r hr => ?_⟩
    rw [sealed_rows hf hl] at hr
    obtain ⟨i, hi, rfl⟩ := List.mem_map.1 hr
    exact hf.2 _ (get_mem ((arr_mem s l).1 hi))
  · rw [sealed_offs_len] at h2
    have g1 := rows_get (x := sealed s x l offs) (i := i - 1) (by rw [sealed_offs_len]; omega)
    have g2 := rows_get (x := sealed s x l offs) (i := i) (by rw [sealed_offs_len]; omega)
    rw [sealed_row hf hl (by omega)] at g1
    rw [sealed_row hf hl h2] at g2
    unfold Nb cf
    rw [g1, g2, sealed_offs (by omega), sealed_offs h2]
    have a2 := arr_lt (s := s) h2
    have hle := Ssm.so_get (wk s l) (arr_so s l) (i := i - 1) (j := i) (by omega) (by rw [arr_len]; exact h2)
    have n := nd (i - 1) i (by omega) h2
    rcases hle with z | ⟨z, z2⟩
    · exact .inl z
    · exact .inr ⟨z, inj _ _ (by omega) a2⟩
end
end Se
namespace Fi
open Va (Vl May)
open Sc (Sch tr tr_yes tr_no)
open Se (Seg Ok sealed arr)
open Nm (vd zz)
theorem putD_len {D : List Vl} (h : ∀ v ∈ D, May v) : (Co.putD D).length ≤ 75 * D.length := by
  induction D with
  | nil => exact Nat.le_refl _
  | cons v D ih =>
    have a := Va.put_len (h v (by simp))
    have b := ih fun u hu => h u (by simp [hu])
    have e : Co.putD (v :: D) = v.kind :: (Va.put v ++ Co.putD D) := by simp [Co.putD]
    rw [e, List.length_cons, List.length_append, List.length_cons]
    omega
theorem room {x : Seg} (h1 : x.offs.length ≤ 200) (h3 : ∀ c ∈ x.cols, c.dict.length ≤ 200 ∧ c.ids.length ≤ 200 ∧ ∀ v ∈ c.dict, May v) : Room x := fun p hp => by
  unfold pays at hp
  rcases List.mem_cons.1 hp with rfl | hp
  · unfold head
    simp only [List.length_append]
    have a := (Nm.vd_len x.part).2
    have b := (Nm.vd_len x.id).2
    have c := (Nm.vd_len x.st).2
    have d := (Nm.vd_len x.en).2
    have e := (Nm.vd_len (x.cols.length : Int)).2
    omega
  · rcases List.mem_cons.1 hp with rfl | hp
    · have := Rn.block_le x.offs (Rn.bi x.offs 3)
      unfold Rn.enc
      omega
    · obtain ⟨c, hc, rfl⟩ := List.mem_map.1 hp
      obtain ⟨a, b, d⟩ := h3 c hc
      have e := putD_len d
      unfold Co.puts
      simp only [List.length_append]
      have g := (Nm.vd_len c.n).2
      have k := (Nm.vd_len (c.dict.length : Int)).2
      omega
end Fi
end Go.Proofs.YtaoeipehpakngaaGreatDoor
namespace Go.Proofs.YtaoeipehpakngaaGreatDoor
set_option maxRecDepth 20000
open Go.RowKit
namespace Bc
theorem refWidth_any (n : Int) (w : World) (h1 : -9223372036854775808 ≤ n) (h2 : n ≤ 9223372036854775807) :
    Calls Tryz.prog 115 #[.int .i64 n] w fun e w' => e = .returned (.int .i64 (wid n)) ∧ w = w' := by
  have hw := wid_63 n h2
  go_enter Tryz.func115, Tryz.ntmps115
  go_wp2_with fail
  go_loop [4, 3] (fun i d => ∃ (u : Int) (k : Nat), i = .int .i64 u ∧ d = .int .i64 k ∧ -9223372036854775808 ≤ u ∧ u ≤ 9223372036854775807 ∧ k + wid u = wid n) (fun i _ => (intOf i).toNat)
  case atStart => exact ⟨n, 0, rfl, rfl, h1, h2, by omega⟩
  case round =>
    obtain ⟨u, k, rfl, rfl, u1, u2, hk⟩ := hrel
    have Hk := Lib.hid hk
    have hk' : k ≤ 63 := by omega
    clear hk
    by_cases hlt : 0 < u
    · go_wp2_with fail
      go_round
      case rel =>
        have := Hk.out
        rw [wid_hi u hlt] at this
        refine ⟨u / 2, k + 1, rfl, by go_num, by omega, by omega, by omega⟩
      case measure => simp [intOf]; omega
    · go_wp2_with fail
      go_ret
      have := Hk.out
      rw [wid_lo u (by omega)] at this
      exact ⟨congrArg (fun x : Nat => Ending.returned (.int .i64 x)) (by simpa using this), rfl⟩
theorem toD1_succ (j : Nat) (n : Int) : Bt.toD 1 (j + 1) n = Bt.toD 1 j n ++ [n / 2 ^ j % 2] := by
  rw [Bt.toD_add]
  simp [Bt.toD, Bt.dig]
set_option maxHeartbeats 400000 in
theorem number_any (n : Int) (wd : Nat) (w : World) (h0 : 0 ≤ n) (h1 : n ≤ 9223372036854775807) (hwd : wd ≤ 62) :
    Calls Tryz.prog 116 #[.int .i64 n, .int .i64 wd] w (Wd.Out w .i64 (Bt.toD 1 wd n)) := by
  obtain ⟨i0, hi, hz0, hz1, hz2⟩ := info_parts info_int
  go_enter Tryz.func116, Tryz.ntmps116
  go_wp2_with fail
  go_loopw [0, 5, 6] (fun i v k wr => ∃ (j : Nat) (u : Int), k = .int .i64 j ∧ j ≤ wd ∧ i = .int .i64 u ∧ u = n / 2 ^ j ∧ wr.ownsRow w.heap.size 3 1 v (Bt.toD 1 j n).length ((Bt.toD 1 j n).map (Value.int .i64)) ∧ Below w.heap.size w wr) (fun _ _ k _ => wd - (intOf k).toNat)
  case atStart => exact ⟨0, n, rfl, Nat.zero_le _, rfl, by simp, World.ownsRow_nil _ _ _ _, Below.refl _ _⟩
  case round =>
    obtain ⟨j, u, rfl, hj, rfl, hu, hown, hb⟩ := hrel
    have hu0 : 0 ≤ u := by rw [hu]; exact Int.ediv_nonneg h0 (by have := Bt.p0 j; omega)
    have hu1 : u ≤ 9223372036854775807 := by rw [hu]; have := Int.ediv_le_self (2 ^ j) h0; omega
    have Hu := Lib.hid hu
    have hsz := hb.size
    have hln := Bt.toD_len 1 j n
    have hln' : (Bt.toD 1 j n).length ≤ 62 := by omega
    clear hu hln
    by_cases hlt : j < wd
    · go_wp2_with (at_builtin; refine Wd.wpList_app _ rfl (.tmp 12) (.tmp 15) 25 rfl w.heap.size 3 i0 _ .i64 8 Tryz.underlying25 hi hz0 hz1 hz2 rfl _ (Bt.toD 1 j n) rfl (hown.alloc _) (wr.heap.size + 1) _ 1 1 [u % 2] rfl rfl (by simp) (Wd.Rd.lit wr .i64 [u % 2] _ _ rfl) (by simp; omega) (by simp [maxLen]; omega) (by simp; omega) ?_; intro v' w1 hown' hgrow)
      have hb' : Below w.heap.size w w1 := (hb.alloc hsz _).grown hgrow (by simp; omega) (fun g hg => (hown.lt g hg).1)
      have e : Bt.toD 1 j n ++ [u % 2] = Bt.toD 1 (j + 1) n := by rw [toD1_succ, Hu.out]
      rw [e] at hown'
      clear e hown hgrow hb
      go_roundw
      case rel =>
        refine ⟨j + 1, u / 2, by go_num, by omega, rfl, ?_, hown', hb'⟩
        have hp := Bt.p0 j
        rw [Hu.out, Int.ediv_ediv_of_nonneg (by omega), Int.pow_succ]
      case measure => simp [intOf]; omega
    · go_wp2_with fail
      go_ret
      obtain rfl : j = wd := by omega
      exact Wd.Out.of_own hown hb
theorem ofD1_lt {l : List Int} (h : Bt.InR 1 l) (n : Nat) (hn : l.length ≤ n) : Bt.ofD 1 l < 2 ^ n := by
  have h1 := Bt.ofD_hi h
  have h2 := Bt.pup (show 1 * l.length ≤ n by omega)
  omega
set_option maxHeartbeats 400000 in
theorem value_any (A : Option Addr) (m c : Nat) (l : List Int) (w : World) (hS : Wd.Sl w .i64 A m c l) (hB : Bt.InR 1 l) (hm : m ≤ 62) :
    Calls Tryz.prog 117 #[.slice A m c] w fun e w' => e = .returned (.int .i64 (Bt.ofD 1 l)) ∧ w = w' := by
  have hl := hS.len
  have Hl := Lib.hid hl
  have HB := Lib.hid hB
  clear hl hB
  go_enter Tryz.func117, Tryz.ntmps117
  go_wp2_with fail
  go_loop [3, 4] (fun s i => ∃ (k : Nat) (u : Int), i = .int .i64 ((k : Int) - 1) ∧ k ≤ m ∧ s = .int .i64 u ∧ u = Bt.ofD 1 (l.drop k)) (fun _ i => (intOf i + 1).toNat)
  case atStart => exact ⟨m, 0, rfl, Nat.le_refl _, rfl, by rw [List.drop_of_length_le (by rw [← Hl.out]; exact Nat.le_refl _)]; rfl⟩
  case round =>
    obtain ⟨k, u, rfl, hk, rfl, hu⟩ := hrel
    have hR : Bt.InR 1 (l.drop k) := fun x hx => HB.out x (List.mem_of_mem_drop hx)
    have hu0 : 0 ≤ u := by rw [hu]; exact Bt.ofD_lo hR
    have Hu := Lib.hid hu
    by_cases hlt : 0 < k
    · obtain ⟨j, rfl⟩ : ∃ j, k = j + 1 := ⟨k - 1, by omega⟩
      have hu1 : u < 2305843009213693952 := by
        rw [hu]
        have := ofD1_lt hR 61 (by rw [List.length_drop, ← Hl.out]; omega)
        rwa [show (2 : Int) ^ 61 = 2305843009213693952 by decide] at this
      have hjl : j < l.length := by rw [← Hl.out]; omega
      obtain ⟨b, o, rfl, hbB, hcell⟩ := hS.rd j hjl
      obtain ⟨x, hx⟩ : ∃ x, x = l.getD j 0 := ⟨_, rfl⟩
      have hx2 := HB.out x (by rw [hx]; simp [List.getD, hjl])
      have hx0 := hx2.1
      have hx1 : x ≤ 1 := by have := hx2.2; omega
      rw [← hx] at hcell
      have Hx := Lib.hid hx
      have i0 : (0 : Int) ≤ (j : Int) := by omega
      clear hx hx2 hu hR hjl
      go_wp2_with fail
      go_round
      case rel =>
        refine ⟨j, x + 2 * u, by go_num, by omega, by go_num, ?_⟩
        have hjl : j < l.length := by rw [← Hl.out]; omega
        rw [Hu.out, List.drop_eq_getElem_cons hjl, Hx.out]
        simp [Bt.ofD, List.getD, hjl]
      case measure => simp [intOf]
    · obtain rfl : k = 0 := by omega
      clear hu hR
      go_wp2_with fail
      go_ret
      refine ⟨?_, rfl⟩
      have := Hu.out
      rw [List.drop_zero] at this
      exact ret_int this
theorem InR.take {wd : Nat} {l : List Int} (h : Bt.InR wd l) (k : Nat) : Bt.InR wd (l.take k) := fun x hx => h x (List.mem_of_mem_take hx)
theorem take_next (l : List Int) (k : Nat) (h : k < l.length) : l.take (k + 1) = l.take k ++ [l.getD k 0] := by
  rw [List.take_succ_eq_append_getElem h]
  simp [List.getD, h]
set_option maxHeartbeats 400000 in
theorem spread_any (A : Option Addr) (m c : Nat) (bs : List Int) (w : World) (hS : Wd.Sl w .u8 A m c bs) (hB : Bt.InR 8 bs) (hm : m ≤ 1000000) :
    Calls Tryz.prog 152 #[.slice A m c] w (Wd.Out w .i64 (Bt.toD 1 (8 * m) (Bt.ofD 8 bs))) := by
  obtain ⟨i0, hi, hz0, hz1, hz2⟩ := info_parts info_int
  have hl := hS.len
  have Hl := Lib.hid hl
  have HB := Lib.hid hB
  clear hl hB
  go_enter Tryz.func152, Tryz.ntmps152
  go_wp2_with fail
  go_loopw [3, 4] (fun v i wr => ∃ (k : Nat), i = .int .i64 k ∧ k ≤ m ∧ wr.ownsRow w.heap.size 3 1 v (Bt.toD 1 (8 * k) (Bt.ofD 8 (bs.take k))).length ((Bt.toD 1 (8 * k) (Bt.ofD 8 (bs.take k))).map (Value.int .i64)) ∧ Below w.heap.size w wr) (fun _ i _ => m - (intOf i).toNat)
  case atStart => exact ⟨0, rfl, Nat.zero_le _, World.ownsRow_nil _ _ _ _, Below.refl _ _⟩
  case round =>
    obtain ⟨k, rfl, hk, hown, hb⟩ := hrel
    have hsz := hb.size
    have hln' : (Bt.toD 1 (8 * k) (Bt.ofD 8 (bs.take k))).length ≤ 8000000 := by rw [Bt.toD_len]; omega
    by_cases hlt : k < m
    · have hkl : k < bs.length := by rw [← Hl.out]; exact hlt
      obtain ⟨b, o, rfl, hbB, hcell0⟩ := hS.rd k hkl
      have hcell := (hb.cell (p := ⟨b, o + k, none⟩) hbB).trans hcell0
      obtain ⟨x, hx⟩ : ∃ x, x = bs.getD k 0 := ⟨_, rfl⟩
      have hx2 := HB.out x (by rw [hx]; simp [List.getD, hkl])
      have hx0 := hx2.1
      have hx1 : x ≤ 255 := by have := hx2.2; rw [show (2 : Int) ^ 8 = 256 by decide] at this; omega
      rw [← hx] at hcell
      have e : Bt.toD 1 (8 * (k + 1)) (Bt.ofD 8 (bs.take (k + 1))) = Bt.toD 1 (8 * k) (Bt.ofD 8 (bs.take k)) ++ Bt.toD 1 8 x := by
        rw [take_next bs k hkl, ← hx, Nat.mul_add, Nat.mul_one]
        exact Bt.toD_snoc (InR.take HB.out k) (by rw [List.length_take]; omega)
      have He := Lib.hid e
      clear hx hx2 hcell0 e hkl
      generalize Bt.toD 1 (8 * k) (Bt.ofD 8 (bs.take k)) = xs at *
      go_wp2_with fail
      refine (number_any x 8 wr hx0 (by omega) (by omega)).mono ?_
      rintro e w1 ⟨A1, n1, c1, rfl, hS1, hB1⟩
      have hown1 := Wd.own_below hown hB1
      have hb1 : Below w.heap.size w w1 := hb.trans (hB1.mono hsz)
      have Hn1 := Lib.hid hS1.len
      have hl8 := Bt.toD_len 1 8 x
      have hl8' : (Bt.toD 1 8 x).length ≤ 8 := by omega
      have hlt1 := hown.lt
      have hsz1 := hb1.size
      clear hown hl8 hB1 hb
      go_wp2_with (at_builtin; refine Wd.wpList_app _ rfl (.tmp 11) (.tmp 17) 25 rfl w.heap.size 3 i0 _ .i64 8 Tryz.underlying25 hi hz0 hz1 hz2 rfl _ xs rfl hown1 w1.heap.size A1 n1 c1 (Bt.toD 1 8 x) rfl Hn1.out hS1.nil hS1.rd (by omega) (by unfold maxLen; omega) hsz1 ?_; intro v' w2 hown2 hgrow)
      have hb2 : Below w.heap.size w w2 := hb1.grown hgrow hsz1 (fun g hg => (hlt1 g hg).1)
      rw [← He.out] at hown2
      clear hown1 hgrow hb1 hlt1 hS1
      go_roundw
      case rel => exact ⟨k + 1, by go_num, by omega, hown2, hb2⟩
      case measure => simp [intOf]; omega
    · go_wp2_with fail
      go_ret
      obtain rfl : k = m := by omega
      rw [List.take_of_length_le (by rw [← Hl.out]; exact Nat.le_refl _)] at hown
      exact Wd.Out.of_own hown hb
theorem bits_cut (m : Nat) (v : Int) (lo n : Nat) : Bt.InR 1 (((Bt.toD 1 m v).drop lo).take n) := fun x hx => Bt.toD_inR 1 m v x (List.mem_of_mem_drop (List.mem_of_mem_take hx))
theorem next_mul (i wd : Nat) : (i + 1) * wd - i * wd = wd := by rw [Nat.add_mul, Nat.one_mul]; omega
theorem dig_none (v : Int) (i : Nat) : Bt.dig 0 v i = 0 := by
  have h1 := Bt.dig_lo 0 v i
  have h2 := Bt.dig_hi 0 v i
  rw [Int.pow_zero] at h2
  omega
end Bc
end Go.Proofs.YtaoeipehpakngaaGreatDoor
