/- Plain lists: hexadecimal texts, their reading (strict and lenient), dumps; no program in sight. -/
import Derived.WalkKit
import Derived.Lib.ItoaNum
namespace Go.Proofs.YtfbefenagnlnfaaDoor
open Go

/-- One more than a digit's value; 0: no digit. -/
def tv (c : Nat) : Nat :=
  if 48 ≤ c ∧ c ≤ 57 then c - 47 else if 65 ≤ c ∧ c ≤ 70 then c - 54 else if 97 ≤ c ∧ c ≤ 102 then c - 86 else 0
theorem tv_le (c : Nat) : tv c ≤ 16 := by
  unfold tv
  split
  · omega
  · split
    · omega
    · split <;> omega
/-- The small digit of a value. -/
def sg (n : Nat) : UInt8 := UInt8.ofNat (if n < 10 then 48 + n else 87 + n)
/-- A small letter as a great one. -/
def up (c : UInt8) : UInt8 := if 97 ≤ c.toNat ∧ c.toNat ≤ 122 then c - 32 else c
def hx (c : UInt8) : List UInt8 := [sg (c.toNat / 16), sg (c.toNat % 16)]
def txt : List UInt8 → List UInt8
  | [] => []
  | c :: r => hx c ++ txt r
/-- How many digits stand ahead. -/
def nd : List UInt8 → Nat
  | [] => 0
  | c :: r => if tv c.toNat = 0 then 0 else nd r + 1
/-- Is it a comment behind this byte? -/
def nx (note : Bool) (c : Nat) : Bool := if c = 35 then true else if c = 10 then false else note
/-- The lenient reading: in a comment or not; a half read byte or not, and its higher digit. -/
def lds : Bool → Bool → Nat → List UInt8 → List UInt8
  | _, _, _, [] => []
  | note, half, high, c :: r =>
    if nx note c.toNat = true ∨ tv c.toNat = 0 then lds (nx note c.toNat) half high r
    else if half then UInt8.ofNat (16 * high + (tv c.toNat - 1)) :: lds (nx note c.toNat) false (tv c.toNat - 1) r
    else lds (nx note c.toNat) true (tv c.toNat - 1) r
def load (l : List UInt8) : List UInt8 := lds false false 0 l
def tl (p : Nat) : List UInt8 := [32, 32, 35, 32] ++ Lib.decDigits p ++ [10]
/-- The dump of what stands from place i on. -/
def dm : Nat → List UInt8 → List UInt8
  | _, [] => []
  | i, c :: r => (if i % 16 = 0 then [] else [32]) ++ hx c ++ (if i % 16 = 15 ∨ r = [] then tl (i - i % 16) else []) ++ dm (i + 1) r
/-- A dump's line ahead of its comment. -/
def ln : Nat → List UInt8 → List UInt8
  | _, [] => []
  | j, c :: r => (if j = 0 then [] else [32]) ++ hx c ++ ln (j + 1) r

theorem sg_facts : ∀ n, n < 16 → tv (sg n).toNat = n + 1 ∧ tv (up (sg n)).toNat = n + 1 ∧ (sg n).toNat ≠ 35 ∧ (sg n).toNat ≠ 10 ∧ (up (sg n)).toNat ≠ 35 ∧ (up (sg n)).toNat ≠ 10 := by decide
theorem nx_keep (note : Bool) (c : Nat) (h1 : c ≠ 35) (h2 : c ≠ 10) : nx note c = note := by
  unfold nx; rw [if_neg h1, if_neg h2]

theorem lds_low (note : Bool) (x y : Nat) (l : List UInt8) : lds note false x l = lds note false y l := by
  induction l generalizing note with
  | nil => rfl
  | cons c r ih =>
    simp only [lds]
    split
    · exact ih _
    · simp
theorem lds_skip (note half : Bool) (x : Nat) (c : UInt8) (r : List UInt8) (h : nx note c.toNat = true ∨ tv c.toNat = 0) : lds note half x (c :: r) = lds (nx note c.toNat) half x r := by
  simp only [lds]; rw [if_pos h]
theorem lds_fst (x : Nat) (c : UInt8) (r : List UInt8) (h1 : c.toNat ≠ 35) (h2 : c.toNat ≠ 10) (h : tv c.toNat ≠ 0) : lds false false x (c :: r) = lds false true (tv c.toNat - 1) r := by
  simp only [lds]; rw [nx_keep _ _ h1 h2, if_neg (by simp [h])]; simp
theorem lds_snd (x : Nat) (c : UInt8) (r : List UInt8) (h1 : c.toNat ≠ 35) (h2 : c.toNat ≠ 10) (h : tv c.toNat ≠ 0) : lds false true x (c :: r) = UInt8.ofNat (16 * x + (tv c.toNat - 1)) :: lds false false (tv c.toNat - 1) r := by
  simp only [lds]; rw [nx_keep _ _ h1 h2, if_neg (by simp [h])]; simp
theorem back (c : UInt8) : UInt8.ofNat (16 * (c.toNat / 16) + c.toNat % 16) = c := by
  rw [Nat.div_add_mod]; simp
theorem lds_hx (x : Nat) (c : UInt8) (r : List UInt8) : lds false false x (hx c ++ r) = c :: lds false false 0 r := by
  have hc : c.toNat < 256 := c.toNat_lt
  obtain ⟨a1, _, a3, a4, _, _⟩ := sg_facts (c.toNat / 16) (by omega)
  obtain ⟨b1, _, b3, b4, _, _⟩ := sg_facts (c.toNat % 16) (by omega)
  simp only [hx, List.cons_append, List.nil_append]
  rw [lds_fst _ _ _ a3 a4 (by omega), lds_snd _ _ _ b3 b4 (by omega), a1, b1, Nat.add_sub_cancel, Nat.add_sub_cancel, back]
  rw [lds_low false _ 0]
theorem lds_hxup (x : Nat) (c : UInt8) (r : List UInt8) : lds false false x ((hx c).map up ++ r) = c :: lds false false 0 r := by
  have hc : c.toNat < 256 := c.toNat_lt
  obtain ⟨_, a1, _, _, a3, a4⟩ := sg_facts (c.toNat / 16) (by omega)
  obtain ⟨_, b1, _, _, b3, b4⟩ := sg_facts (c.toNat % 16) (by omega)
  simp only [hx, List.map_cons, List.map_nil, List.cons_append, List.nil_append]
  rw [lds_fst _ _ _ a3 a4 (by omega), lds_snd _ _ _ b3 b4 (by omega), a1, b1, Nat.add_sub_cancel, Nat.add_sub_cancel, back]
  rw [lds_low false _ 0]
theorem lds_txt (x : Nat) (s r : List UInt8) : lds false false x (txt s ++ r) = s ++ lds false false 0 r := by
  induction s generalizing x with
  | nil => simp only [txt, List.nil_append]; exact lds_low _ _ _ _
  | cons c s ih => simp only [txt, List.append_assoc]; rw [lds_hx, ih]; rfl
theorem load_txt (s : List UInt8) : load (txt s) = s := by
  have h := lds_txt 0 s []
  simpa [load, lds] using h
theorem load_txtup (s : List UInt8) : load ((txt s).map up) = s := by
  have h : ∀ x, lds false false x ((txt s).map up) = s := by
    induction s with
    | nil => intro x; rfl
    | cons c s ih => intro x; simp only [txt, List.map_append]; rw [lds_hxup, ih]
  exact h 0
theorem lds_tail (half : Bool) (x : Nat) (d r : List UInt8) (h : ∀ c ∈ d, c.toNat ≠ 10) : lds true half x (d ++ 10 :: r) = lds false half x r := by
  induction d with
  | nil => simp only [List.nil_append]; rw [lds_skip _ _ _ _ _ (.inr (by decide))]; rfl
  | cons c d ih =>
    simp only [List.cons_append]
    have hc := h c (List.mem_cons_self ..)
    have e : nx true c.toNat = true := by
      unfold nx
      rw [if_neg hc]
      exact ite_self _
    rw [lds_skip _ _ _ _ _ (.inl e), e]
    exact ih (fun c hc => h c (List.mem_cons_of_mem _ hc))
theorem lds_sp (half : Bool) (x : Nat) (r : List UInt8) : lds false half x (32 :: r) = lds false half x r := by
  rw [lds_skip _ _ _ _ _ (.inr (by decide))]; rfl
theorem lds_hash (note half : Bool) (x : Nat) (r : List UInt8) : lds note half x (35 :: r) = lds true half x r := by
  rw [lds_skip _ _ _ _ _ (.inr (by decide))]; rfl
open Go.Lib in
theorem dec_no10 (u : Nat) : ∀ c ∈ decDigits u, c.toNat ≠ 10 := by
  induction u using Nat.strongRecOn with
  | ind u ih =>
    intro c hc
    rw [decDigits] at hc
    split at hc
    · rename_i h
      simp only [List.mem_singleton] at hc
      subst hc
      have e : (UInt8.ofNat (48 + u)).toNat = 48 + u := by simp; omega
      omega
    · rename_i h
      rw [List.mem_append] at hc
      rcases hc with hc | hc
      · exact ih (u / 10) (by omega) c hc
      · simp only [List.mem_singleton] at hc
        subst hc
        have e : (UInt8.ofNat (48 + u % 10)).toNat = 48 + u % 10 := by simp; omega
        omega
theorem lds_tl (half : Bool) (x p : Nat) (r : List UInt8) : lds false half x (tl p ++ r) = lds false half x r := by
  have e : tl p ++ r = 32 :: 32 :: 35 :: ((32 :: Lib.decDigits p) ++ 10 :: r) := by simp [tl]
  rw [e, lds_sp, lds_sp, lds_hash, lds_tail]
  intro c hc
  rcases List.mem_cons.1 hc with rfl | hc
  · decide
  · exact dec_no10 p c hc
theorem lds_dm (x i : Nat) (s r : List UInt8) : lds false false x (dm i s ++ r) = s ++ lds false false 0 r := by
  induction s generalizing x i with
  | nil => simp only [dm, List.nil_append]; exact lds_low _ _ _ _
  | cons c s ih =>
    have key : ∀ y, lds false false y (hx c ++ ((if i % 16 = 15 ∨ s = [] then tl (i - i % 16) else []) ++ (dm (i + 1) s ++ r))) = c :: s ++ lds false false 0 r := by
      intro y
      rw [lds_hx]
      split
      · rw [lds_tl, ih]; rfl
      · rw [List.nil_append, ih]; rfl
    simp only [dm, List.append_assoc]
    split
    · exact key _
    · simp only [List.cons_append, List.nil_append]; rw [lds_sp]; exact key _
theorem load_dm (s : List UInt8) : load (dm 0 s) = s := by
  have h := lds_dm 0 0 s []
  simpa [load, lds] using h
theorem load_dm_txt (s t : List UInt8) : load (dm 0 s ++ txt t) = s ++ t := by
  unfold load; rw [lds_dm]
  have h := lds_txt 0 t []
  simp only [List.append_nil, lds] at h
  rw [h]
theorem load_txt_dm (s t : List UInt8) : load (txt t ++ dm 0 s) = t ++ s := by
  unfold load; rw [lds_txt]
  have h := lds_dm 0 0 s []
  simp only [List.append_nil, lds] at h
  rw [h]
/-- Where no comment begins, what was read stands by itself. -/
theorem lds_split (a : List UInt8) (h : ∀ c ∈ a, c.toNat ≠ 35) : ∀ (half : Bool) (x : Nat), ∃ (o : List UInt8) (half' : Bool) (x' : Nat), ∀ b, lds false half x (a ++ b) = o ++ lds false half' x' b := by
  induction a with
  | nil => intro half x; exact ⟨[], half, x, fun b => rfl⟩
  | cons c a ih =>
    intro half x
    have hc := h c (List.mem_cons_self ..)
    have hi := ih (fun c hc => h c (List.mem_cons_of_mem _ hc))
    have e : nx false c.toNat = false := by unfold nx; rw [if_neg hc]; simp
    by_cases ht : tv c.toNat = 0
    · obtain ⟨o, h', x', ho⟩ := hi half x
      refine ⟨o, h', x', fun b => ?_⟩
      rw [List.cons_append, lds_skip _ _ _ _ _ (.inr ht), e]
      exact ho b
    · cases half with
      | true =>
        obtain ⟨o, h', x', ho⟩ := hi false (tv c.toNat - 1)
        refine ⟨UInt8.ofNat (16 * x + (tv c.toNat - 1)) :: o, h', x', fun b => ?_⟩
        simp only [List.cons_append, lds]
        simp only [if_true]
        rw [e, if_neg (by simp [ht]), ho]
      | false =>
        obtain ⟨o, h', x', ho⟩ := hi true (tv c.toNat - 1)
        refine ⟨o, h', x', fun b => ?_⟩
        simp only [List.cons_append, lds]
        rw [e, if_neg (by simp [ht]), if_neg (by simp), ho]
theorem load_notes (a b n : List UInt8) (ha : ∀ c ∈ a, c.toNat ≠ 35) (hn : ∀ c ∈ n, c.toNat ≠ 10) :
    load (a ++ 35 :: (n ++ 10 :: b)) = load (a ++ b) ∧ load (a ++ 10 :: b) = load (a ++ b) ∧ load (a ++ 122 :: 71 :: 45 :: 0 :: b) = load (a ++ b) := by
  obtain ⟨o, h', x', ho⟩ := lds_split a ha false 0
  unfold load
  refine ⟨?_, ?_, ?_⟩
  · rw [ho, ho, lds_hash, lds_tail _ _ _ _ hn]
  · rw [ho, ho, lds_skip _ _ _ _ _ (.inr (by decide))]; rfl
  · rw [ho, ho, lds_skip _ _ _ _ _ (.inr (by decide)), lds_skip _ _ _ _ _ (.inr (by decide)), lds_skip _ _ _ _ _ (.inr (by decide)), lds_skip _ _ _ _ _ (.inr (by decide))]; rfl
theorem lds_len (note half : Bool) (x : Nat) (l : List UInt8) : 2 * (lds note half x l).length ≤ l.length + half.toNat := by
  induction l generalizing note half x with
  | nil => simp [lds]
  | cons c r ih =>
    simp only [lds]
    split
    · have := ih (nx note c.toNat) half x; simp only [List.length_cons]; omega
    · cases half with
      | true => have := ih (nx note c.toNat) false (tv c.toNat - 1); simp at this ⊢; omega
      | false => have := ih (nx note c.toNat) true (tv c.toNat - 1); simp at this ⊢; omega
theorem load_len (l : List UInt8) : (load l).length ≤ l.length / 2 := by
  have := lds_len false false 0 l
  simp at this
  unfold load; omega
theorem tv_35 : tv 35 = 0 := by decide
theorem tv_10 : tv 10 = 0 := by decide
theorem nd_le (l : List UInt8) : nd l ≤ l.length := by
  induction l with
  | nil => simp [nd]
  | cons c r ih => simp only [nd, List.length_cons]; split <;> omega
theorem lds_full (half : Bool) (x : Nat) (l : List UInt8) (h : nd l = l.length) : (lds false half x l).length = (l.length + half.toNat) / 2 := by
  induction l generalizing half x with
  | nil => cases half <;> rfl
  | cons c r ih =>
    simp only [nd, List.length_cons] at h
    split at h
    · omega
    · rename_i ht
      have e : nx false c.toNat = false := nx_keep _ _ (fun e => ht (by rw [e]; rfl)) (fun e => ht (by rw [e]; rfl))
      have hr : nd r = r.length := by omega
      simp only [lds, List.length_cons]
      rw [e, if_neg (by simp [ht])]
      cases half with
      | true => simp [ih false _ hr]; omega
      | false => simp [ih true _ hr]
theorem load_full (l : List UInt8) (h : nd l = l.length) : (load l).length = l.length / 2 := lds_full false 0 l h
theorem nd_cons (c : UInt8) (r : List UInt8) (h : tv c.toNat ≠ 0) : nd (c :: r) = nd r + 1 := by simp [nd, h]
theorem nd_txt (s : List UInt8) : nd (txt s) = (txt s).length ∧ (txt s).length = 2 * s.length := by
  induction s with
  | nil => exact ⟨rfl, rfl⟩
  | cons c s ih =>
    have hc : c.toNat < 256 := c.toNat_lt
    obtain ⟨a1, _⟩ := sg_facts (c.toNat / 16) (by omega)
    obtain ⟨b1, _⟩ := sg_facts (c.toNat % 16) (by omega)
    simp only [txt, hx, List.cons_append, List.nil_append, List.length_cons]
    rw [nd_cons _ _ (by omega), nd_cons _ _ (by omega)]
    omega
theorem nd_txtup (s : List UInt8) : nd ((txt s).map up) = ((txt s).map up).length := by
  induction s with
  | nil => rfl
  | cons c s ih =>
    have hc : c.toNat < 256 := c.toNat_lt
    obtain ⟨_, a1, _⟩ := sg_facts (c.toNat / 16) (by omega)
    obtain ⟨_, b1, _⟩ := sg_facts (c.toNat % 16) (by omega)
    simp only [txt, hx, List.cons_append, List.nil_append, List.map_cons, List.length_cons]
    rw [nd_cons _ _ (by omega), nd_cons _ _ (by omega)]
    omega
theorem dm_ln (p : Nat) (hp : p % 16 = 0) : ∀ (l : List UInt8) (j : Nat), l ≠ [] → j < 16 → dm (p + j) l = ln j (l.take (16 - j)) ++ tl p ++ dm (p + 16) (l.drop (16 - j)) := by
  intro l
  induction l with
  | nil => intro j h; exact absurd rfl h
  | cons c r ih =>
    intro j _ hj
    have e1 : (p + j) % 16 = j := by omega
    have e2 : p + j - j = p := by omega
    obtain ⟨k, hk⟩ : ∃ k, 16 - j = k + 1 := ⟨16 - j - 1, by omega⟩
    rw [hk, List.take_succ_cons, List.drop_succ_cons]
    simp only [dm, ln, e1, e2, List.append_assoc]
    by_cases h15 : j = 15
    · obtain rfl : k = 0 := by omega
      subst h15
      simp [ln]
    · by_cases hr : r = []
      · subst hr; simp [dm, ln]
      · have := ih (j + 1) hr (by omega)
        rw [show 16 - (j + 1) = k by omega] at this
        have hn : ¬ (j = 15 ∨ r = []) := by simp [h15, hr]
        rw [if_neg hn, List.nil_append, show p + j + 1 = p + (j + 1) by omega, this]
        simp only [List.append_assoc]
theorem dm_line (p : Nat) (hp : p % 16 = 0) (l : List UInt8) (h : l ≠ []) : dm p l = ln 0 (l.take 16) ++ tl p ++ dm (p + 16) (l.drop 16) := dm_ln p hp l 0 h (by omega)
open Go.Lib in
theorem length_dec : ∀ (k u : Nat), u < 10 ^ (k + 1) → (decDigits u).length ≤ k + 1 := by
  intro k
  induction k with
  | zero => intro u h; rw [decDigits_one (by simpa using h)]; simp
  | succ k ih =>
    intro u h
    rw [decDigits]
    split
    · simp
    · have := ih (u / 10) (by rw [Nat.pow_succ] at h; omega)
      rw [List.length_append]; simp; omega
theorem ln_len (j : Nat) (l : List UInt8) : (ln j l).length ≤ 3 * l.length := by
  induction l generalizing j with
  | nil => simp [ln]
  | cons c r ih => have := ih (j + 1); simp only [ln, hx, List.length_append, List.length_cons]; split <;> simp <;> omega
theorem dm_len (i : Nat) (l : List UInt8) (h : i + l.length ≤ 10000000000) : (dm i l).length ≤ 18 * l.length := by
  induction l generalizing i with
  | nil => simp [dm]
  | cons c r ih =>
    simp only [List.length_cons] at h
    have := ih (i + 1) (by omega)
    have hd := length_dec 9 (i - i % 16) (by omega)
    simp only [dm, hx, tl, List.length_append, List.length_cons, List.length_nil]
    split <;> split <;> simp only [List.length_append, List.length_cons, List.length_nil] <;> omega
end Go.Proofs.YtfbefenagnlnfaaDoor
