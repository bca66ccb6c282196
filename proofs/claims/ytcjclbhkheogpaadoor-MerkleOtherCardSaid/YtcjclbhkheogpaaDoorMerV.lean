/- Plain facts for the law MerkleOther: what another leaf, one digest more and one less come to. -/
import Derived.Test.YtcjclbhkheogpaaDoorMerU
namespace Go.Proofs.YtcjclbhkheogpaaDoor

theorem chkr_up {root leaf : Ws} {n i : Nat} {p : Dl} (h : chk root n i leaf p = true) : mup n i leaf p = (root, true) := by
  rw [chk_same] at h
  unfold chkr at h
  simp only [same, Bool.and_eq_true, decide_eq_true_eq] at h
  exact Prod.ext h.2 h.1
theorem chk_fool {n i : Nat} {l : Dl} {leaf : Ws} (hl : l.length = n) (hi : i < n) (hne : leaf ≠ l.getD i []) (h : chk (mroot l) n i leaf (mway l i) = true) : mfool l i leaf (mway l i) = true :=
  fooled_of n l i leaf (mway l i) hl hi hne (chkr_up h)
theorem chk_len {n i : Nat} {l p : Dl} {root leaf : Ws} (hl : l.length = n) (hi : i < n) (hp : p.length ≠ (mway l i).length) : chk root n i leaf p = false := by
  cases h : chk root n i leaf p
  · rfl
  · have h1 := chkr_up h
    have h2 := up_way n l i hl hi
    exact absurd (up_long n i leaf (l.getD i []) p (mway l i) (by rw [h1]) (by rw [h2])) hp
theorem chk_more {n i : Nat} {l : Dl} {root leaf d : Ws} (hl : l.length = n) (hi : i < n) : chk root n i leaf (mway l i ++ [d]) = false :=
  chk_len hl hi (by simp)
theorem chk_less {n i : Nat} {l : Dl} {root leaf : Ws} (hl : l.length = n) (hi : i < n) (h : mway l i ≠ []) : chk root n i leaf (mway l i).dropLast = false :=
  chk_len hl hi (by
    have := List.length_pos_iff.2 h
    rw [List.length_dropLast]; omega)
theorem cells_news {w : World} {b : Nat} : ∀ (l : Dl) (off : Nat), DRow w b off l → ∀ (j : Nat) (u : Value), (mcs l)[j]? = some u → w.cell? ((⟨b, off, none⟩ : Addr).add j) = some u := by
  intro l
  induction l with
  | nil => intro off h j u hu; simp [mcs] at hu
  | cons v t ih =>
    intro off h j u hu
    have ov := h.ok v (by simp)
    obtain ⟨v0, v1, v2, v3, rfl, _⟩ := ok4 ov
    obtain ⟨k0, k1, k2, k3⟩ := h.four (j := 0) (v0 := v0) (v1 := v1) (v2 := v2) (v3 := v3) rfl
    rw [show mcs ([v0, v1, v2, v3] :: t) = mcs [[v0, v1, v2, v3]] ++ mcs t from cs_append [[v0, v1, v2, v3]] t, cs_one] at hu
    simp only [Nat.zero_mul, Nat.add_zero] at k0 k1 k2 k3
    match j, hu with
    | 0, hu => simp at hu; subst hu; exact k0
    | 1, hu => simp at hu; subst hu; exact k1
    | 2, hu => simp at hu; subst hu; exact k2
    | 3, hu => simp at hu; subst hu; exact k3
    | j + 4, hu =>
      have hd := h.drop 1
      rw [Nat.one_mul] at hd
      have := ih (off + 4) hd j u (by simpa using hu)
      rw [show (⟨b, off, none⟩ : Addr).add (j + 4) = (⟨b, off + 4, none⟩ : Addr).add j by
        simp only [Addr.add]
        rw [show off + (j + 4) = off + 4 + j by omega, if_neg (by omega)]
        by_cases hj0 : j = 0
        · subst hj0; simp
        · rw [if_neg hj0]]
      exact this

end Go.Proofs.YtcjclbhkheogpaaDoor
