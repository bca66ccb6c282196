/- Instructions as plain functions: names, parts, whether one may be, its word, its text; and what follows of them. -/
import Derived.Test.YtgojpflkhnaedaaDoorNumM
set_option linter.unusedVariables false
namespace Go.Proofs.YtgojpflkhnaedaaDoor
open Go

/-- The names of the operations 1 to 27, and their parts: a, b, c, or r: C is a register. -/
def nml : List (List UInt8) := [[108, 105], [108, 117, 105], [109, 111, 118], [97, 100, 100], [115, 117, 98], [109, 117, 108], [100, 105, 118], [109, 111, 100], [97, 110, 100], [111, 114], [120, 111, 114], [115, 104, 108], [115, 104, 114], [108, 116], [101, 113], [108, 100], [115, 116], [106, 109, 112], [106, 122], [106, 110, 122], [99, 97, 108, 108], [114, 101, 116], [103, 101, 116], [112, 117, 116], [99, 104, 107], [104, 97, 108, 116], [108, 100, 99]]
def pcl : List (List UInt8) := [[97, 99], [97, 99], [97, 98], [97, 98, 114], [97, 98, 114], [97, 98, 114], [97, 98, 114], [97, 98, 114], [97, 98, 114], [97, 98, 114], [97, 98, 114], [97, 98, 114], [97, 98, 114], [97, 98, 114], [97, 98, 114], [97, 98, 99], [97, 98, 99], [99], [97, 99], [97, 99], [97, 99], [97], [97], [97], [97, 99], [], [97, 98, 99]]
def nam (op : Int) : List UInt8 := if 1 ≤ op ∧ op ≤ 27 then nml.getD (op.toNat - 1) [] else []
def prt (op : Int) : List UInt8 := if 1 ≤ op ∧ op ≤ 27 then pcl.getD (op.toNat - 1) [] else [63]
theorem op_cases {op : Int} (h : 1 ≤ op ∧ op ≤ 27) : op = 1 ∨ op = 2 ∨ op = 3 ∨ op = 4 ∨ op = 5 ∨ op = 6 ∨ op = 7 ∨ op = 8 ∨ op = 9 ∨ op = 10 ∨ op = 11 ∨ op = 12 ∨ op = 13 ∨ op = 14 ∨ op = 15 ∨ op = 16 ∨ op = 17 ∨ op = 18 ∨ op = 19 ∨ op = 20 ∨ op = 21 ∨ op = 22 ∨ op = 23 ∨ op = 24 ∨ op = 25 ∨ op = 26 ∨ op = 27 := by omega
theorem nam_out {op : Int} (h : ¬ (1 ≤ op ∧ op ≤ 27)) : nam op = [] := if_neg h
theorem prt_out {op : Int} (h : ¬ (1 ≤ op ∧ op ≤ 27)) : prt op = [63] := if_neg h
theorem nam_nat (k : Nat) (h : 1 ≤ k ∧ k ≤ 27) : nam (k : Int) = nml.getD (k - 1) [] := by
  unfold nam
  rw [if_pos (by omega), Int.toNat_natCast]
theorem nml_ne : ∀ k, k < 27 → nml.getD k [] ≠ [] := by decide
theorem nml_inj : ∀ i, i < 27 → ∀ k, k < 27 → nml.getD i [] = nml.getD k [] → i = k := by decide
theorem nml_small : ∀ k, k < 27 → (nml.getD k []).all (fun c => decide (97 ≤ c.toNat) && decide (c.toNat ≤ 122)) = true := by decide
theorem nam_some {op : Int} (h : 1 ≤ op ∧ op ≤ 27) : nam op ≠ [] := by
  obtain ⟨k, rfl⟩ : ∃ k : Nat, op = (k : Int) := ⟨op.toNat, by omega⟩
  rw [nam_nat k (by omega)]
  exact nml_ne _ (by omega)
theorem nam_inj {i k : Int} (hi : 1 ≤ i ∧ i ≤ 27) (hk : 1 ≤ k ∧ k ≤ 27) (h : nam i = nam k) : i = k := by
  obtain ⟨i, rfl⟩ : ∃ j : Nat, i = (j : Int) := ⟨i.toNat, by omega⟩
  obtain ⟨k, rfl⟩ : ∃ j : Nat, k = (j : Int) := ⟨k.toNat, by omega⟩
  rw [nam_nat i (by omega), nam_nat k (by omega)] at h
  have := nml_inj _ (by omega) _ (by omega) h
  omega
/-- The operation of a name, from k on, of n. -/
def opn : Nat → Nat → List UInt8 → Int
  | 0, _, _ => 0
  | n + 1, k, s => if nam (k : Int) = s then (k : Int) else opn n (k + 1) s
def opo (s : List UInt8) : Int := opn 27 1 s
theorem opn_nam : ∀ (n k : Nat) (i : Nat), 1 ≤ k → k ≤ i → i < k + n → k + n ≤ 28 → opn n k (nam (i : Int)) = (i : Int)
  | 0, k, i, _, _, _, _ => by omega
  | n + 1, k, i, h1, h2, h3, h4 => by
    rw [opn]
    by_cases h : nam (k : Int) = nam (i : Int)
    · rw [if_pos h]
      exact nam_inj (by omega) (by omega) h
    · rw [if_neg h]
      have : k ≠ i := fun e => h (by rw [e])
      exact opn_nam n (k + 1) i (by omega) (by omega) (by omega) (by omega)
theorem opo_nam {op : Int} (h : 1 ≤ op ∧ op ≤ 27) : opo (nam op) = op := by
  obtain ⟨k, rfl⟩ : ∃ k : Nat, op = (k : Int) := ⟨op.toNat, by omega⟩
  exact opn_nam 27 1 k (by omega) (by omega) (by omega) (by omega)
theorem opn_some : ∀ (n k : Nat) (s : List UInt8), 1 ≤ k → k + n ≤ 28 → opn n k s = 0 ∨ (1 ≤ opn n k s ∧ opn n k s ≤ 27 ∧ nam (opn n k s) = s)
  | 0, k, s, _, _ => .inl rfl
  | n + 1, k, s, h1, h2 => by
    rw [opn]
    by_cases h : nam (k : Int) = s
    · rw [if_pos h]; exact .inr ⟨by omega, by omega, h⟩
    · rw [if_neg h]; exact opn_some n (k + 1) s (by omega) (by omega)
theorem opo_some (s : List UInt8) : opo s = 0 ∨ (1 ≤ opo s ∧ opo s ≤ 27 ∧ nam (opo s) = s) := opn_some 27 1 s (by omega) (by omega)
/-- Has a text that letter? -/
def hsc (l : List UInt8) (c : UInt8) : Bool := l.any fun x => x == c
/-- Is a field there, and from 0 to a number, or not there, and 0? -/
def wi (t : Bool) (n most : Int) : Bool := if t then decide (0 ≤ n) && decide (n ≤ most) else n == 0
def mst (op : Int) : Int := if hsc (prt op) 114 then 15 else 65535
/-- May it be? -/
def rgt (op a b c : Int) : Bool := decide (1 ≤ op ∧ op ≤ 27) && wi (hsc (prt op) 97) a 15 && wi (hsc (prt op) 98) b 15 && wi (hsc (prt op) 99 || hsc (prt op) 114) c (mst op)
def enc (op a b c : Int) : Int := op * 16777216 + a * 1048576 + b * 65536 + c
theorem wi_bounds {t : Bool} {n most : Int} (h : wi t n most = true) (hm : 0 ≤ most) : 0 ≤ n ∧ n ≤ most := by
  cases t <;> simp [wi] at h <;> omega
theorem mst_le (op : Int) : 0 ≤ mst op ∧ mst op ≤ 65535 := by unfold mst; split <;> omega
theorem rgt_bounds {op a b c : Int} (h : rgt op a b c = true) : (1 ≤ op ∧ op ≤ 27) ∧ (0 ≤ a ∧ a ≤ 15) ∧ (0 ≤ b ∧ b ≤ 15) ∧ 0 ≤ c ∧ c ≤ 65535 := by
  unfold rgt at h
  simp only [Bool.and_eq_true, decide_eq_true_eq] at h
  obtain ⟨⟨⟨h1, h2⟩, h3⟩, h4⟩ := h
  have := wi_bounds h4 (mst_le op).1
  have := mst_le op
  exact ⟨h1, wi_bounds h2 (by omega), wi_bounds h3 (by omega), by omega, by omega⟩
theorem rgt_out {op a b c : Int} (h : ¬ (1 ≤ op ∧ op ≤ 27)) : rgt op a b c = false := by unfold rgt; rw [decide_eq_false h]; rfl
theorem enc_bounds {op a b c : Int} (h : rgt op a b c = true) : 0 ≤ enc op a b c ∧ enc op a b c < 4294967296 := by
  have := rgt_bounds h
  unfold enc
  omega
theorem enc_fields {op a b c : Int} (h : rgt op a b c = true) : enc op a b c / 16777216 = op ∧ enc op a b c / 1048576 % 16 = a ∧ enc op a b c / 65536 % 16 = b ∧ enc op a b c % 65536 = c := by
  have := rgt_bounds h
  unfold enc
  omega
theorem enc_inj {op a b c op' a' b' c' : Int} (h : rgt op a b c = true) (h' : rgt op' a' b' c' = true) (he : enc op a b c = enc op' a' b' c') : op = op' ∧ a = a' ∧ b = b' ∧ c = c' := by
  have := rgt_bounds h
  have := rgt_bounds h'
  unfold enc at he
  omega
theorem enc_back (w : Int) (h0 : 0 ≤ w) (h1 : w < 4294967296) : enc (w / 16777216) (w / 1048576 % 16) (w / 65536 % 16) (w % 65536) = w := by
  unfold enc
  omega
/-- A field in a text: a register, or a number; the fields behind the name; the text. -/
def fld (p : UInt8) (a b c : Int) : List UInt8 := if p = 97 then 114 :: Lib.decDigits a.toNat else if p = 98 then 114 :: Lib.decDigits b.toNat else if p = 114 then 114 :: Lib.decDigits c.toNat else Lib.decDigits c.toNat
def fds (a b c : Int) : List UInt8 → List UInt8
  | [] => []
  | p :: ps => [44, 32] ++ fld p a b c ++ fds a b c ps
def fls (a b c : Int) : List UInt8 → List UInt8
  | [] => []
  | p :: ps => [32] ++ fld p a b c ++ fds a b c ps
def txi (op a b c : Int) : List UInt8 := nam op ++ fls a b c (prt op)
def itx (op a b c : Int) : List UInt8 := if rgt op a b c then txi op a b c else []
/-- Texts that begin alike with letters, or digits, up to something else. -/
theorem span_eq {p : UInt8 → Bool} {a b s t : List UInt8} (ha : a.all p = true) (hb : b.all p = true) (hs : s.head?.all (fun c => !p c) = true) (ht : t.head?.all (fun c => !p c) = true) (h : a ++ s = b ++ t) : a = b ∧ s = t := by
  induction a generalizing b with
  | nil =>
    cases b with
    | nil => exact ⟨rfl, h⟩
    | cons y b =>
      rw [List.nil_append] at h
      subst h
      simp at hs hb
      rw [hb.1] at hs
      cases hs
  | cons x a ih =>
    cases b with
    | nil =>
      rw [List.nil_append] at h
      subst h
      simp at ht ha
      rw [ha.1] at ht
      cases ht
    | cons y b =>
      simp only [List.cons_append, List.cons.injEq] at h
      obtain ⟨rfl, h⟩ := h
      simp only [List.all_cons, Bool.and_eq_true] at ha hb
      obtain ⟨rfl, rfl⟩ := ih ha.2 hb.2 h
      exact ⟨rfl, rfl⟩
theorem dec_inj {i k : Nat} (h : Lib.decDigits i = Lib.decDigits k) : i = k := by
  have := congrArg val h
  rwa [decDigits_val, decDigits_val] at this
theorem dec_span {i k : Nat} {s t : List UInt8} (hs : s.head?.all (fun c => !digB c) = true) (ht : t.head?.all (fun c => !digB c) = true) (h : Lib.decDigits i ++ s = Lib.decDigits k ++ t) : i = k ∧ s = t := by
  obtain ⟨h1, h2⟩ := span_eq (decDigits_all i) (decDigits_all k) hs ht h
  exact ⟨dec_inj h1, h2⟩
theorem fds_head (a b c : Int) (ps : List UInt8) : (fds a b c ps).head?.all (fun c => !digB c) = true := by
  cases ps with
  | nil => rfl
  | cons p ps => simp [fds, digB]
/-- A field's number. -/
def fnum (p : UInt8) (a b c : Int) : Int := if p = 97 then a else if p = 98 then b else c
theorem fld_span {p : UInt8} {a b c a' b' c' : Int} (h0 : 0 ≤ fnum p a b c) (h1 : 0 ≤ fnum p a' b' c') {s t : List UInt8} (hs : s.head?.all (fun c => !digB c) = true) (ht : t.head?.all (fun c => !digB c) = true) (h : fld p a b c ++ s = fld p a' b' c' ++ t) : fnum p a b c = fnum p a' b' c' ∧ s = t := by
  unfold fld at h
  unfold fnum at h0 h1 ⊢
  by_cases p1 : p = 97
  · simp only [p1, if_true] at h h0 h1 ⊢
    simp only [List.cons_append, List.cons.injEq, true_and] at h
    obtain ⟨e, rfl⟩ := dec_span hs ht h
    exact ⟨by omega, rfl⟩
  · by_cases p2 : p = 98
    · simp only [p2, if_true] at h h0 h1 ⊢
      rw [if_neg (by decide), if_neg (by decide)] at h
      rw [if_neg (by decide)] at h0 h1
      rw [if_neg (by decide), if_neg (by decide)]
      simp only [List.cons_append, List.cons.injEq, true_and] at h
      obtain ⟨e, rfl⟩ := dec_span hs ht h
      exact ⟨by omega, rfl⟩
    · rw [if_neg p1, if_neg p2] at h0 h1
      rw [if_neg p1, if_neg p2, if_neg p1, if_neg p2]
      rw [if_neg p1, if_neg p2, if_neg p1, if_neg p2] at h
      by_cases p3 : p = 114
      · rw [if_pos p3, if_pos p3] at h
        simp only [List.cons_append, List.cons.injEq, true_and] at h
        obtain ⟨e, rfl⟩ := dec_span hs ht h
        exact ⟨by omega, rfl⟩
      · rw [if_neg p3, if_neg p3] at h
        obtain ⟨e, rfl⟩ := dec_span hs ht h
        exact ⟨by omega, rfl⟩
theorem fds_inj {a b c a' b' c' : Int} (ha : 0 ≤ a ∧ 0 ≤ b ∧ 0 ≤ c) (hb : 0 ≤ a' ∧ 0 ≤ b' ∧ 0 ≤ c') : ∀ (ps : List UInt8), fds a b c ps = fds a' b' c' ps → ∀ p ∈ ps, fnum p a b c = fnum p a' b' c'
  | [], _, p, hp => by cases hp
  | q :: ps, h, p, hp => by
    simp only [fds, List.cons_append, List.nil_append, List.cons.injEq, true_and] at h
    have n0 : ∀ p, 0 ≤ fnum p a b c := fun p => by unfold fnum; split <;> (try split) <;> omega
    have n1 : ∀ p, 0 ≤ fnum p a' b' c' := fun p => by unfold fnum; split <;> (try split) <;> omega
    obtain ⟨h1, h2⟩ := fld_span (n0 q) (n1 q) (fds_head _ _ _ ps) (fds_head _ _ _ ps) h
    rcases List.mem_cons.1 hp with rfl | hp
    · exact h1
    · exact fds_inj ha hb ps h2 p hp
theorem fls_inj {a b c a' b' c' : Int} (ha : 0 ≤ a ∧ 0 ≤ b ∧ 0 ≤ c) (hb : 0 ≤ a' ∧ 0 ≤ b' ∧ 0 ≤ c') (ps : List UInt8) (h : fls a b c ps = fls a' b' c' ps) : ∀ p ∈ ps, fnum p a b c = fnum p a' b' c' := by
  cases ps with
  | nil => intro p hp; cases hp
  | cons q ps =>
    refine fds_inj ha hb (q :: ps) ?_
    simp only [fls, List.cons_append, List.nil_append, List.cons.injEq, true_and] at h
    simp only [fds, List.cons_append, List.nil_append, List.cons.injEq, true_and]
    exact h
theorem fls_head (a b c : Int) (ps : List UInt8) : (fls a b c ps).head?.all (fun c => !(decide (97 ≤ c.toNat) && decide (c.toNat ≤ 122))) = true := by
  cases ps with
  | nil => rfl
  | cons p ps => simp [fls]
theorem wi_none {n most : Int} (h : wi false n most = true) : n = 0 := by simpa [wi] using h
theorem txi_inj {op a b c op' a' b' c' : Int} (h : rgt op a b c = true) (h' : rgt op' a' b' c' = true) (he : txi op a b c = txi op' a' b' c') : op = op' ∧ a = a' ∧ b = b' ∧ c = c' := by
  have hb := rgt_bounds h
  have hb' := rgt_bounds h'
  have sm : ∀ {op : Int}, 1 ≤ op ∧ op ≤ 27 → (nam op).all (fun c => decide (97 ≤ c.toNat) && decide (c.toNat ≤ 122)) = true := fun {op} ho => by
    obtain ⟨k, rfl⟩ : ∃ k : Nat, op = (k : Int) := ⟨op.toNat, by omega⟩
    rw [nam_nat k (by omega)]
    exact nml_small _ (by omega)
  obtain ⟨h1, h2⟩ := span_eq (sm hb.1) (sm hb'.1) (fls_head _ _ _ _) (fls_head _ _ _ _) he
  obtain rfl := nam_inj hb.1 hb'.1 h1
  have hf := fls_inj ⟨hb.2.1.1, hb.2.2.1.1, hb.2.2.2.1⟩ ⟨hb'.2.1.1, hb'.2.2.1.1, hb'.2.2.2.1⟩ _ h2
  have mem : ∀ c, hsc (prt op) c = true → c ∈ prt op := fun c hc => by
    unfold hsc at hc
    rw [List.any_eq_true] at hc
    obtain ⟨x, hx, e⟩ := hc
    rw [beq_iff_eq] at e
    rwa [← e]
  unfold rgt at h h'
  simp only [Bool.and_eq_true, decide_eq_true_eq] at h h'
  refine ⟨rfl, ?_, ?_, ?_⟩
  · cases hh : hsc (prt op) 97 with
    | true => simpa [fnum] using hf 97 (mem _ hh)
    | false => rw [hh] at h h'; rw [wi_none h.1.1.2, wi_none h'.1.1.2]
  · cases hh : hsc (prt op) 98 with
    | true => simpa [fnum] using hf 98 (mem _ hh)
    | false => rw [hh] at h h'; rw [wi_none h.1.2, wi_none h'.1.2]
  · cases hh : hsc (prt op) 99 with
    | true => simpa [fnum] using hf 99 (mem _ hh)
    | false =>
      cases hk : hsc (prt op) 114 with
      | true => simpa [fnum] using hf 114 (mem _ hk)
      | false => rw [hh, hk] at h h'; rw [wi_none h.2, wi_none h'.2]
/-- The greatest value of each field: 0 where it isn't one. -/
def mxa (op : Int) : Int := if hsc (prt op) 97 then 15 else 0
def mxb (op : Int) : Int := if hsc (prt op) 98 then 15 else 0
def mxc (op : Int) : Int := if hsc (prt op) 99 || hsc (prt op) 114 then mst op else 0
def orow (k : Nat) : List Value := [.string ⟨(nam (k : Int)).toArray⟩, .int .i64 (mxa k), .int .i64 (mxb k), .int .i64 (mxc k)]
def oprs : Array Value := ((List.range 28).flatMap orow).toArray
theorem wi_upto {t : Bool} {n m : Int} : wi t n m = (decide (0 ≤ n) && decide (n ≤ if t then m else 0)) := by
  cases t
  · simp only [wi, Bool.false_eq_true, if_false]
    by_cases h : n = 0
    · subst h; rfl
    · rw [beq_eq_false_iff_ne.2 h]
      by_cases h0 : 0 ≤ n
      · rw [decide_eq_false (p := n ≤ 0) (by omega), Bool.and_false]
      · rw [decide_eq_false h0]; rfl
  · rfl
theorem flat4 {f : Nat → List Value} (hf : ∀ k, (f k).length = 4) : ∀ (n s k j : Nat), k < n → j < 4 → ((List.range' s n).flatMap f)[4 * k + j]? = (f (s + k))[j]?
  | 0, _, _, _, h, _ => by omega
  | n + 1, s, k, j, h, hj => by
    rw [List.range'_succ, List.flatMap_cons]
    cases k with
    | zero => rw [List.getElem?_append_left (by rw [hf]; omega)]; simp
    | succ k =>
      rw [List.getElem?_append_right (by rw [hf]; omega), hf, show 4 * (k + 1) + j - 4 = 4 * k + j by omega, flat4 hf n (s + 1) k j (by omega) hj, show s + 1 + k = s + (k + 1) by omega]
theorem oprs_at (k j : Nat) (h : k < 28) (hj : j < 4) : oprs[4 * k + j]? = (orow k)[j]? := by
  have := flat4 (f := orow) (fun _ => rfl) 28 0 k j h hj
  rw [Nat.zero_add] at this
  rw [← this]
  unfold oprs
  rw [List.getElem?_toArray, List.range_eq_range']
end Go.Proofs.YtgojpflkhnaedaaDoor
