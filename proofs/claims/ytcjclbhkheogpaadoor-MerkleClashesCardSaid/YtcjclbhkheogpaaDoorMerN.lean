/- Merkle's trees as plain functions: what follows of them. -/
import Derived.Test.YtcjclbhkheogpaaDoorMerM
set_option linter.unusedVariables false
namespace Go.Proofs.YtcjclbhkheogpaaDoor

theorem dof_ok0 (s : ByteArray) (hn : s.size ≤ 300) : Ok4 (dof s) := by
  have h1 : (s.extract 0 (16 * (s.size / 16))).size = 4 * (4 * (s.size / 16)) := by rw [ByteArray.size_extract]; omega
  have h2 : (s.extract (16 * (s.size / 16)) s.size ++ ender s.size).size = 4 * ((s.size - 16 * (s.size / 16) + (9 + (23 - s.size % 16) % 16)) / 4) := by
    rw [ByteArray.size_append, ByteArray.size_extract, size_ender]; omega
  exact take4_ok (tkAll_ok _ _ _ (Nat.le_refl _) (tkAll_ok _ _ _ (Nat.le_refl _) one8_ok (words_of_text _ _ h1).2) (words_of_text _ _ h2).2)
theorem root_ok : ∀ (n : Nat) (l : Dl), l.length = n → Oks l → Ok4 (mroot l) := by
  intro n
  induction n using Nat.strongRecOn with
  | ind n ih =>
    intro l hl h
    by_cases h1 : l.length ≤ 1
    · rw [root_small h1]
      match l, h1 with
      | [], _ => exact dof_ok0 ⟨#[]⟩ (by decide)
      | [x], _ => exact h x (by simp)
    · have h2 : 2 ≤ l.length := by omega
      have k1 := hf_lt h2
      have k2 := hf_pos l.length
      rw [root_two h2]
      exact pair_ok0 (ih (hf l.length) (by omega) _ (by rw [List.length_take]; omega) (h.take _)) (ih (l.length - hf l.length) (by omega) _ (by rw [List.length_drop]) (h.drop _))
theorem Oks.mroot {l : Dl} (h : Oks l) : Ok4 (mroot l) := root_ok _ l rfl h
theorem Oks.snoc {l : Dl} {d : Ws} (h : Oks l) (hd : Ok4 d) : Oks (l ++ [d]) := by
  intro x hx
  rcases List.mem_append.1 hx with hx | hx
  · exact h x hx
  · have : x = d := by simpa using hx
    subst this; exact hd

theorem cr_up : ∀ (n i : Nat) (leaf : Ws) (p : Dl), (mup n i leaf p).2 = ((mcr n i leaf p).2.1 && (mcr n i leaf p).2.2.isEmpty) ∧ ((mcr n i leaf p).2.1 = true → (mup n i leaf p).1 = (mcr n i leaf p).1) := by
  intro n
  induction n using Nat.strongRecOn with
  | ind n ih =>
    intro i leaf p
    by_cases h1 : n ≤ 1
    · rw [up_one h1, cr_one h1]; simp
    · have h2 : 2 ≤ n := by omega
      have k1 := hf_lt h2
      have k2 := hf_pos n
      by_cases hp : p = []
      · subst hp
        rw [up_none h2, cr_none h2]; simp
      · by_cases hi : i < hf n
        · rw [up_left h2 hp hi, cr_left h2 hp hi]
          obtain ⟨a, b⟩ := ih (hf n) (by omega) i leaf p.dropLast
          exact ⟨a, fun h => by rw [b h]⟩
        · rw [up_right h2 hp hi, cr_right h2 hp hi]
          obtain ⟨a, b⟩ := ih (n - hf n) (by omega) (i - hf n) leaf p.dropLast
          exact ⟨a, fun h => by rw [b h]⟩
theorem cr_left_over : ∀ (d n i : Nat) (leaf : Ws) (p : Dl), n ≤ 2 ^ d → (mcr n i leaf p).2.1 = true → p.length ≤ (mcr n i leaf p).2.2.length + d := by
  intro d
  induction d with
  | zero =>
    intro n i leaf p hn _
    rw [cr_one (by simpa using hn)]; simp
  | succ d ih =>
    intro n i leaf p hn
    by_cases h1 : n ≤ 1
    · rw [cr_one h1]; simp
    · have h2 : 2 ≤ n := by omega
      have k1 := hf_lt h2
      have k2 := hf_ge h2
      have k3 : hf n ≤ 2 ^ d := by
        unfold hf
        apply Nat.pow_le_pow_right (by omega)
        rcases Nat.lt_or_ge d (n - 1).log2 with hd | hd
        · have := Nat.log2_self_le (n := n - 1) (by omega)
          have h3 : 2 ^ (d + 1) ≤ 2 ^ (n - 1).log2 := Nat.pow_le_pow_right (by omega) hd
          omega
        · exact hd
      by_cases hp : p = []
      · subst hp
        rw [cr_none h2]; simp
      · have hl : p.length = p.dropLast.length + 1 := by
          rw [List.length_dropLast]
          have := List.length_pos_iff.2 hp
          omega
        by_cases hi : i < hf n
        · rw [cr_left h2 hp hi]
          intro h
          have := ih (hf n) i leaf p.dropLast k3 h
          simp only at h ⊢
          omega
        · rw [cr_right h2 hp hi]
          intro h
          have := ih (n - hf n) (i - hf n) leaf p.dropLast (by omega) h
          simp only at h ⊢
          omega
theorem getLastD_snoc (l : Dl) (x d : Ws) : (l ++ [x]).getLastD d = x := by simp [List.getLastD_eq_getLast?]
theorem up_way : ∀ (n : Nat) (l : Dl) (i : Nat), l.length = n → i < n → mup n i (l.getD i []) (mway l i) = (mroot l, true) := by
  intro n
  induction n using Nat.strongRecOn with
  | ind n ih =>
    intro l i hl hi
    by_cases h1 : n ≤ 1
    · rw [up_one h1, way_small (by omega), root_small (by omega)]
      match l, hl with
      | [], hl => simp at hl; omega
      | [x], hl =>
        have : i = 0 := by simp at hl; omega
        subst this
        rfl
      | x :: y :: r, hl => simp at hl; omega
    · have h2 : 2 ≤ l.length := by omega
      have k1 := hf_lt h2
      have k2 := hf_pos l.length
      rw [root_two h2]
      subst hl
      by_cases hk : i < hf l.length
      · rw [way_left h2 hk, up_left h2 (by simp) hk, List.dropLast_concat, getLastD_snoc]
        have := ih (hf l.length) k1 (l.take (hf l.length)) i (by rw [List.length_take]; omega) hk
        rw [show (l.take (hf l.length)).getD i [] = l.getD i [] by simp [List.getD, hk]] at this
        rw [this]
      · rw [way_right h2 hk, up_right h2 (by simp) hk, List.dropLast_concat, getLastD_snoc]
        have := ih (l.length - hf l.length) (by omega) (l.drop (hf l.length)) (i - hf l.length) (by rw [List.length_drop]) (by omega)
        rw [show (l.drop (hf l.length)).getD (i - hf l.length) [] = l.getD i [] by simp [List.getD, List.getElem?_drop, show hf l.length + (i - hf l.length) = i by omega]] at this
        rw [this]
theorem up_long : ∀ (n i : Nat) (l m : Ws) (p q : Dl), (mup n i l p).2 = true → (mup n i m q).2 = true → p.length = q.length := by
  intro n
  induction n using Nat.strongRecOn with
  | ind n ih =>
    intro i l m p q
    by_cases h1 : n ≤ 1
    · rw [up_one h1, up_one h1]
      simp only [List.isEmpty_iff]
      rintro rfl rfl; rfl
    · have h2 : 2 ≤ n := by omega
      have k1 := hf_lt h2
      have k2 := hf_pos n
      by_cases hp : p = []
      · subst hp; rw [up_none h2]; simp
      · by_cases hq : q = []
        · subst hq; rw [up_none h2]; simp
        · have p1 := List.length_pos_iff.2 hp
          have q1 := List.length_pos_iff.2 hq
          by_cases hi : i < hf n
          · rw [up_left h2 hp hi, up_left h2 hq hi]
            intro a b
            have := ih (hf n) k1 i l m _ _ a b
            rw [List.length_dropLast, List.length_dropLast] at this
            omega
          · rw [up_right h2 hp hi, up_right h2 hq hi]
            intro a b
            have := ih (n - hf n) (by omega) (i - hf n) l m _ _ a b
            rw [List.length_dropLast, List.length_dropLast] at this
            omega
theorem hf_half {d n : Nat} (h2 : 2 ≤ n) (hn : n ≤ 2 ^ (d + 1)) : hf n ≤ 2 ^ d ∧ n - hf n ≤ 2 ^ d := by
  have k1 := hf_lt h2
  have k2 := hf_ge h2
  have k3 : hf n ≤ 2 ^ d := by
    unfold hf
    apply Nat.pow_le_pow_right (by omega)
    rcases Nat.lt_or_ge d (n - 1).log2 with hd | hd
    · have := Nat.log2_self_le (n := n - 1) (by omega)
      have h3 : 2 ^ (d + 1) ≤ 2 ^ (n - 1).log2 := Nat.pow_le_pow_right (by omega) hd
      omega
    · exact hd
  omega
theorem way_short : ∀ (d : Nat) (l : Dl) (i : Nat), l.length ≤ 2 ^ d → (mway l i).length ≤ d := by
  intro d
  induction d with
  | zero =>
    intro l i hl
    rw [way_small (by simpa using hl)]; simp
  | succ d ih =>
    intro l i hl
    by_cases h1 : l.length ≤ 1
    · rw [way_small h1]; simp
    · have h2 : 2 ≤ l.length := by omega
      obtain ⟨a, b⟩ := hf_half h2 hl
      by_cases hi : i < hf l.length
      · rw [way_left h2 hi, List.length_append]
        have := ih (l.take (hf l.length)) i (by rw [List.length_take]; omega)
        simp; omega
      · rw [way_right h2 hi, List.length_append]
        have := ih (l.drop (hf l.length)) (i - hf l.length) (by rw [List.length_drop]; omega)
        simp; omega
theorem goes_short : ∀ (d : Nat) (l : Dl) (m : Nat) (wh : Bool), l.length ≤ 2 ^ d → (mgoes l m wh).length ≤ d + 1 := by
  intro d
  induction d with
  | zero =>
    intro l m wh hl
    have : l.length ≤ 1 := by simpa using hl
    by_cases hm : m = l.length
    · cases wh
      · rw [goes_cut hm]; simp
      · rw [goes_whole hm]; simp
    · rw [mgoes, if_neg hm, dif_pos this]; simp
  | succ d ih =>
    intro l m wh hl
    by_cases hm : m = l.length
    · cases wh
      · rw [goes_cut hm]; simp
      · rw [goes_whole hm]; simp
    · by_cases h1 : l.length ≤ 1
      · rw [mgoes, if_neg hm, dif_pos h1]; simp
      · have h2 : 2 ≤ l.length := by omega
        obtain ⟨a, b⟩ := hf_half h2 hl
        by_cases hi : m ≤ hf l.length
        · rw [goes_left h2 hm hi, List.length_append]
          have := ih (l.take (hf l.length)) m wh (by rw [List.length_take]; omega)
          simp; omega
        · rw [goes_right h2 hm hi, List.length_append]
          have := ih (l.drop (hf l.length)) (m - hf l.length) false (by rw [List.length_drop]; omega)
          simp; omega
theorem way_oks : ∀ (n : Nat) (l : Dl) (i : Nat), l.length = n → Oks l → Oks (mway l i) := by
  intro n
  induction n using Nat.strongRecOn with
  | ind n ih =>
    intro l i hl h
    by_cases h1 : l.length ≤ 1
    · rw [way_small h1]; intro d hd; simp at hd
    · have h2 : 2 ≤ l.length := by omega
      have k1 := hf_lt h2
      have k2 := hf_pos l.length
      by_cases hi : i < hf l.length
      · rw [way_left h2 hi]
        exact (ih _ (by rw [← hl]; exact k1) _ i (by rw [List.length_take]; omega) (h.take _)).snoc (h.drop _).mroot
      · rw [way_right h2 hi]
        exact (ih (l.length - hf l.length) (by omega) _ _ (by rw [List.length_drop]) (h.drop _)).snoc (h.take _).mroot
theorem goes_oks : ∀ (n : Nat) (l : Dl) (m : Nat) (wh : Bool), l.length = n → Oks l → Oks (mgoes l m wh) := by
  intro n
  induction n using Nat.strongRecOn with
  | ind n ih =>
    intro l m wh hl h
    by_cases hm : m = l.length
    · cases wh
      · rw [goes_cut hm]; intro d hd; have : d = mroot l := by simpa using hd
        subst this; exact h.mroot
      · rw [goes_whole hm]; intro d hd; simp at hd
    · by_cases h1 : l.length ≤ 1
      · rw [mgoes, if_neg hm, dif_pos h1]; intro d hd; simp at hd
      · have h2 : 2 ≤ l.length := by omega
        have k1 := hf_lt h2
        have k2 := hf_pos l.length
        by_cases hi : m ≤ hf l.length
        · rw [goes_left h2 hm hi]
          exact (ih _ (by rw [← hl]; exact k1) _ m wh (by rw [List.length_take]; omega) (h.take _)).snoc (h.drop _).mroot
        · rw [goes_right h2 hm hi]
          exact (ih (l.length - hf l.length) (by omega) _ _ false (by rw [List.length_drop]) (h.drop _)).snoc (h.take _).mroot
theorem on_goes : ∀ (n : Nat) (l : Dl) (m : Nat) (wh : Bool) (old : Ws), l.length = n → 1 ≤ m → m ≤ n → (wh = true → old = mroot (l.take m)) → mon old m n wh (mgoes l m wh) = (mroot (l.take m), mroot l, true) := by
  intro n
  induction n using Nat.strongRecOn with
  | ind n ih =>
    intro l m wh old hl h1 hmn ho
    by_cases hm : m = n
    · subst hm
      have e : l.take m = l := List.take_of_length_le (by omega)
      cases wh
      · rw [goes_cut hl.symm, on_cut (by simp), e]; rfl
      · rw [goes_whole hl.symm, on_whole, ho rfl, e]; rfl
    · have h2 : 2 ≤ l.length := by omega
      have k1 := hf_lt h2
      have k2 := hf_pos l.length
      have k3 := hf_ge h2
      subst hl
      by_cases hi : m ≤ hf l.length
      · rw [goes_left h2 hm hi, on_left h2 hm (by simp) hi, List.dropLast_concat, getLastD_snoc]
        have e : (l.take (hf l.length)).take m = l.take m := by rw [List.take_take, Nat.min_eq_left hi]
        have := ih (hf l.length) k1 (l.take (hf l.length)) m wh old (by rw [List.length_take]; omega) h1 hi (by rw [e]; exact ho)
        rw [this, e, root_two h2]
      · rw [goes_right h2 hm hi, on_right h2 hm (by simp) hi, List.dropLast_concat, getLastD_snoc]
        have := ih (l.length - hf l.length) (by omega) (l.drop (hf l.length)) (m - hf l.length) false old (by rw [List.length_drop]) (by omega) (by omega) (by simp)
        rw [this]
        have hl : (l.take m).length = m := by rw [List.length_take]; omega
        have hh : hf m = hf l.length := by
          show hf m = 2 ^ (l.length - 1).log2
          refine hf_eq ?_ ?_
          · show hf l.length < m
            omega
          · show m ≤ 2 * hf l.length
            omega
        rw [root_two h2, root_two (l := l.take m) (by omega), hl, hh, List.take_take, Nat.min_eq_left (by omega), List.drop_take]
theorem rts_on : ∀ (n m : Nat) (old : Ws) (wh : Bool) (p : Dl), 1 ≤ m → m ≤ n → (mon old m n wh p).2.2 = ((mrts m n old wh p).2.1 && (mrts m n old wh p).2.2.isEmpty) ∧ ((mon old m n wh p).2.2 = true → (mon old m n wh p).1 = (mrts m n old wh p).1.1 ∧ (mon old m n wh p).2.1 = (mrts m n old wh p).1.2) := by
  intro n
  induction n using Nat.strongRecOn with
  | ind n ih =>
    intro m old wh p h1 hmn
    by_cases hm : m = n
    · subst hm
      cases wh
      · by_cases hp : p = []
        · subst hp
          rw [on_cut_no (by simp), rts_none (by simp)]; simp
        · rw [rts_cut hp]
          by_cases hl : p.length = 1
          · rw [on_cut hl]
            have : p.dropLast = [] := List.eq_nil_of_length_eq_zero (by rw [List.length_dropLast]; omega)
            simp [this]
          · rw [on_cut_no hl]
            have hpos := List.length_pos_iff.2 hp
            have : p.dropLast ≠ [] := fun e => by
              have := congrArg List.length e
              rw [List.length_dropLast] at this
              simp at this; omega
            simp [List.isEmpty_eq_false_iff.2 this]
      · rw [on_whole, rts_whole]; simp
    · by_cases hp : p = []
      · subst hp
        rw [on_none hm, rts_none (fun h => hm h.1)]; simp
      · have h2 : 2 ≤ n := by omega
        have k1 := hf_lt h2
        have k2 := hf_pos n
        by_cases hi : m ≤ hf n
        · rw [on_left h2 hm hp hi, rts_left h2 hm hp hi]
          obtain ⟨a, b⟩ := ih (hf n) k1 m old wh p.dropLast h1 hi
          refine ⟨a, fun h => ?_⟩
          obtain ⟨c, d⟩ := b h
          exact ⟨c, congrArg (fun x => pair x _) d⟩
        · rw [on_right h2 hm hp hi, rts_right h2 hm hp hi]
          obtain ⟨a, b⟩ := ih (n - hf n) (by omega) (m - hf n) old false p.dropLast (by omega) (by omega)
          refine ⟨a, fun h => ?_⟩
          obtain ⟨c, d⟩ := b h
          exact ⟨congrArg (pair _) c, congrArg (pair _) d⟩
theorem rts_left_over : ∀ (d n m : Nat) (old : Ws) (wh : Bool) (p : Dl), n ≤ 2 ^ d → 1 ≤ m → m ≤ n → (mrts m n old wh p).2.1 = true → p.length ≤ (mrts m n old wh p).2.2.length + (d + 1) := by
  intro d
  induction d with
  | zero =>
    intro n m old wh p hn h1 hmn
    have e : m = n := by simp at hn; omega
    subst e
    cases wh
    · by_cases hp : p = []
      · subst hp; simp
      · rw [rts_cut hp, List.length_dropLast]; intro _; first | omega | (simp only; omega)
    · rw [rts_whole]; intro _; first | omega | (simp only; omega)
  | succ d ih =>
    intro n m old wh p hn h1 hmn
    by_cases hm : m = n
    · subst hm
      cases wh
      · by_cases hp : p = []
        · subst hp; simp
        · rw [rts_cut hp, List.length_dropLast]; intro _; first | omega | (simp only; omega)
      · rw [rts_whole]; intro _; first | omega | (simp only; omega)
    · by_cases hp : p = []
      · subst hp; simp
      · have h2 : 2 ≤ n := by omega
        obtain ⟨a, b⟩ := hf_half h2 hn
        have hl : p.length = p.dropLast.length + 1 := by
          rw [List.length_dropLast]
          have := List.length_pos_iff.2 hp
          omega
        have k1 := hf_lt h2
        by_cases hi : m ≤ hf n
        · rw [rts_left h2 hm hp hi]
          intro h
          have := ih (hf n) m old wh p.dropLast a h1 hi h
          simp only at h ⊢
          omega
        · rw [rts_right h2 hm hp hi]
          intro h
          have := ih (n - hf n) (m - hf n) old false p.dropLast b (by omega) (by omega) h
          simp only at h ⊢
          omega
theorem roots_eq {a b : Dl} (h2 : 2 ≤ a.length) (hl : a.length = b.length) (hr : mroot a = mroot b) : pair (mhv a).1 (mhv a).2 = pair (mhv b).1 (mhv b).2 := by
  rw [root_two h2, root_two (l := b) (by omega)] at hr
  exact hr
theorem small_eq {a b : Dl} (h1 : a.length ≤ 1) (hl : a.length = b.length) (hr : mroot a = mroot b) : a = b := by
  rw [root_small h1, root_small (l := b) (by omega)] at hr
  match a, b, h1, hl with
  | [], [], _, _ => rfl
  | [x], [y], _, _ => simpa using hr
theorem parts_eq {a b : Dl} (k : Nat) (h1 : a.take k = b.take k) (h2 : a.drop k = b.drop k) : a = b := by
  rw [← List.take_append_drop k a, h1, h2, List.take_append_drop]
theorem cl_unlike : ∀ (n : Nat) (a b : Dl), a.length = n → a.length = b.length → a ≠ b → mroot a = mroot b → (mcl a b).1 ≠ (mcl a b).2 ∧ pair (mcl a b).1.1 (mcl a b).1.2 = pair (mcl a b).2.1 (mcl a b).2.2 := by
  intro n
  induction n using Nat.strongRecOn with
  | ind n ih =>
    intro a b hn hl hab hr
    have h2 : 2 ≤ a.length := by
      rcases Nat.lt_or_ge a.length 2 with h | h
      · exact absurd (small_eq (by omega) hl hr) hab
      · exact h
    have k1 := hf_lt h2
    have k2 := hf_pos a.length
    have hq := roots_eq h2 hl hr
    by_cases hx : mhv a = mhv b
    · by_cases ht : a.take (hf a.length) = b.take (hf a.length)
      · rw [cl_right h2 hx ht]
        refine ih (a.length - hf a.length) (by omega) _ _ (by rw [List.length_drop]) (by rw [List.length_drop, List.length_drop]; omega) (fun e => hab (parts_eq _ ht e)) ?_
        have := congrArg Prod.snd hx
        simp only [mhv, ← hl] at this
        exact this
      · rw [cl_left h2 hx ht]
        refine ih (hf a.length) (by omega) _ _ (by rw [List.length_take]; omega) (by rw [List.length_take, List.length_take]; omega) ht ?_
        have := congrArg Prod.fst hx
        simp only [mhv, ← hl] at this
        exact this
    · rw [cl_here hx]
      exact ⟨hx, hq⟩
theorem fooled_of : ∀ (n : Nat) (l : Dl) (i : Nat) (leaf : Ws) (p : Dl), l.length = n → i < n → leaf ≠ l.getD i [] → mup n i leaf p = (mroot l, true) → mfool l i leaf p = true := by
  intro n
  induction n using Nat.strongRecOn with
  | ind n ih =>
    intro l i leaf p hl hi hne hu
    by_cases h1 : n ≤ 1
    · exfalso
      rw [up_one h1, root_small (by omega)] at hu
      have hu := congrArg Prod.fst hu
      match l, hl with
      | [], hl => simp at hl; omega
      | [x], hl =>
        have : i = 0 := by simp at hl; omega
        subst this
        exact hne hu
      | x :: y :: r, hl => simp at hl; omega
    · have h2 : 2 ≤ l.length := by omega
      have k1 := hf_lt h2
      have k2 := hf_pos l.length
      subst hl
      rw [root_two h2] at hu
      by_cases hp : p = []
      · subst hp; rw [up_none h2] at hu; simp at hu
      · by_cases hk : i < hf l.length
        · rw [up_left h2 hp hk] at hu
          simp only [Prod.mk.injEq] at hu
          obtain ⟨u1, u2⟩ := hu
          rw [mfool, dif_neg h1, if_neg hp, if_pos hk]
          by_cases hx : mhv l = ((mup (hf l.length) i leaf p.dropLast).1, p.getLastD [])
          · rw [Bool.or_eq_true]
            right
            refine ih (hf l.length) k1 (l.take (hf l.length)) i leaf p.dropLast (by rw [List.length_take]; omega) hk ?_ ?_
            · rw [show (l.take (hf l.length)).getD i [] = l.getD i [] by simp [List.getD, hk]]
              exact hne
            · have := congrArg Prod.fst hx
              exact Prod.ext this.symm u2
          · rw [Bool.or_eq_true]
            left
            simp only [Bool.and_eq_true, decide_eq_true_eq]
            exact ⟨hx, u1.symm⟩
        · rw [up_right h2 hp hk] at hu
          simp only [Prod.mk.injEq] at hu
          obtain ⟨u1, u2⟩ := hu
          rw [mfool, dif_neg h1, if_neg hp, if_neg hk]
          by_cases hx : mhv l = (p.getLastD [], (mup (l.length - hf l.length) (i - hf l.length) leaf p.dropLast).1)
          · rw [Bool.or_eq_true]
            right
            refine ih (l.length - hf l.length) (by omega) (l.drop (hf l.length)) (i - hf l.length) leaf p.dropLast (by rw [List.length_drop]) (by omega) ?_ ?_
            · rw [show (l.drop (hf l.length)).getD (i - hf l.length) [] = l.getD i [] by simp [List.getD, List.getElem?_drop, show hf l.length + (i - hf l.length) = i by omega]]
              exact hne
            · have := congrArg Prod.snd hx
              exact Prod.ext this.symm u2
          · rw [Bool.or_eq_true]
            left
            simp only [Bool.and_eq_true, decide_eq_true_eq]
            exact ⟨hx, u1.symm⟩
end Go.Proofs.YtcjclbhkheogpaaDoor
