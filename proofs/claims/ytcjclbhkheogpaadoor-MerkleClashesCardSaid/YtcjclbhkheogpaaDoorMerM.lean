/- Merkle's trees as plain functions of lists: the half, the root, proofs, what is reckoned with them, clashes. -/
import Derived.Test.YtcjclbhkheogpaaDoorDigF
import Derived.Test.YtcjclbhkheogpaaDoorDls
import Derived.Test.YtcjclbhkheogpaaDoorMerH
set_option linter.unusedVariables false
namespace Go.Proofs.YtcjclbhkheogpaaDoor

/-- The root of a list. -/
def mroot (l : Dl) : Ws :=
  if h : l.length ≤ 1 then l.headD (dof ⟨#[]⟩) else pair (mroot (l.take (hf l.length))) (mroot (l.drop (hf l.length)))
termination_by l.length
decreasing_by
  · have := hf_lt (n := l.length) (by omega)
    rw [List.length_take]; omega
  · have := hf_pos l.length
    rw [List.length_drop]; omega
theorem root_small {l : Dl} (h : l.length ≤ 1) : mroot l = l.headD (dof ⟨#[]⟩) := by rw [mroot, dif_pos h]
theorem root_two {l : Dl} (h : 2 ≤ l.length) : mroot l = pair (mroot (l.take (hf l.length))) (mroot (l.drop (hf l.length))) := by rw [mroot, dif_neg (by omega)]

/-- The proof of a place. -/
def mway (l : Dl) (i : Nat) : Dl :=
  if h : l.length ≤ 1 then [] else
  if i < hf l.length then mway (l.take (hf l.length)) i ++ [mroot (l.drop (hf l.length))] else mway (l.drop (hf l.length)) (i - hf l.length) ++ [mroot (l.take (hf l.length))]
termination_by l.length
decreasing_by
  · have := hf_lt (n := l.length) (by omega)
    rw [List.length_take]; omega
  · have := hf_pos l.length
    rw [List.length_drop]; omega
theorem way_small {l : Dl} (h : l.length ≤ 1) (i : Nat) : mway l i = [] := by rw [mway, dif_pos h]
theorem way_left {l : Dl} {i : Nat} (h : 2 ≤ l.length) (hi : i < hf l.length) : mway l i = mway (l.take (hf l.length)) i ++ [mroot (l.drop (hf l.length))] := by rw [mway, dif_neg (by omega), if_pos hi]
theorem way_right {l : Dl} {i : Nat} (h : 2 ≤ l.length) (hi : ¬ i < hf l.length) : mway l i = mway (l.drop (hf l.length)) (i - hf l.length) ++ [mroot (l.take (hf l.length))] := by rw [mway, dif_neg (by omega), if_neg hi]

/-- The proof that a list, whole or cut, goes on its first m. -/
def mgoes (l : Dl) (m : Nat) (wh : Bool) : Dl :=
  if m = l.length then (if wh then [] else [mroot l]) else
  if h : l.length ≤ 1 then [] else
  if m ≤ hf l.length then mgoes (l.take (hf l.length)) m wh ++ [mroot (l.drop (hf l.length))] else mgoes (l.drop (hf l.length)) (m - hf l.length) false ++ [mroot (l.take (hf l.length))]
termination_by l.length
decreasing_by
  · have := hf_lt (n := l.length) (by omega)
    rw [List.length_take]; omega
  · have := hf_pos l.length
    rw [List.length_drop]; omega
theorem goes_whole {l : Dl} {m : Nat} (h : m = l.length) : mgoes l m true = [] := by rw [mgoes, if_pos h]; rfl
theorem goes_cut {l : Dl} {m : Nat} (h : m = l.length) : mgoes l m false = [mroot l] := by rw [mgoes, if_pos h]; rfl
theorem goes_left {l : Dl} {m : Nat} {wh : Bool} (h : 2 ≤ l.length) (hm : m ≠ l.length) (hi : m ≤ hf l.length) : mgoes l m wh = mgoes (l.take (hf l.length)) m wh ++ [mroot (l.drop (hf l.length))] := by rw [mgoes, if_neg hm, dif_neg (by omega), if_pos hi]
theorem goes_right {l : Dl} {m : Nat} {wh : Bool} (h : 2 ≤ l.length) (hm : m ≠ l.length) (hi : ¬ m ≤ hf l.length) : mgoes l m wh = mgoes (l.drop (hf l.length)) (m - hf l.length) false ++ [mroot (l.take (hf l.length))] := by rw [mgoes, if_neg hm, dif_neg (by omega), if_neg hi]

/-- The reference's: the root that a proof tells, and whether it has the form. -/
def mup (n i : Nat) (leaf : Ws) (p : Dl) : Ws × Bool :=
  if h : n ≤ 1 then (leaf, p.isEmpty) else
  if p = [] then (leaf, false) else
  if i < hf n then (pair (mup (hf n) i leaf p.dropLast).1 (p.getLastD []), (mup (hf n) i leaf p.dropLast).2)
  else (pair (p.getLastD []) (mup (n - hf n) (i - hf n) leaf p.dropLast).1, (mup (n - hf n) (i - hf n) leaf p.dropLast).2)
termination_by n
decreasing_by all_goals (have := hf_lt (n := n) (by omega); have := hf_pos n; omega)
/-- The code's: .. and what is left of the proof. -/
def mcr (n i : Nat) (leaf : Ws) (p : Dl) : Ws × Bool × Dl :=
  if h : n ≤ 1 then (leaf, true, p) else
  if p = [] then ([0, 0, 0, 0], false, p) else
  if i < hf n then (pair (mcr (hf n) i leaf p.dropLast).1 (p.getLastD []), (mcr (hf n) i leaf p.dropLast).2)
  else (pair (p.getLastD []) (mcr (n - hf n) (i - hf n) leaf p.dropLast).1, (mcr (n - hf n) (i - hf n) leaf p.dropLast).2)
termination_by n
decreasing_by all_goals (have := hf_lt (n := n) (by omega); have := hf_pos n; omega)
theorem up_one {n i : Nat} {leaf : Ws} {p : Dl} (h : n ≤ 1) : mup n i leaf p = (leaf, p.isEmpty) := by rw [mup, dif_pos h]
theorem up_none {n i : Nat} {leaf : Ws} (h : 2 ≤ n) : mup n i leaf [] = (leaf, false) := by rw [mup, dif_neg (by omega), if_pos rfl]
theorem up_left {n i : Nat} {leaf : Ws} {p : Dl} (h : 2 ≤ n) (hp : p ≠ []) (hi : i < hf n) : mup n i leaf p = (pair (mup (hf n) i leaf p.dropLast).1 (p.getLastD []), (mup (hf n) i leaf p.dropLast).2) := by rw [mup, dif_neg (by omega), if_neg hp, if_pos hi]
theorem up_right {n i : Nat} {leaf : Ws} {p : Dl} (h : 2 ≤ n) (hp : p ≠ []) (hi : ¬ i < hf n) : mup n i leaf p = (pair (p.getLastD []) (mup (n - hf n) (i - hf n) leaf p.dropLast).1, (mup (n - hf n) (i - hf n) leaf p.dropLast).2) := by rw [mup, dif_neg (by omega), if_neg hp, if_neg hi]
theorem cr_one {n i : Nat} {leaf : Ws} {p : Dl} (h : n ≤ 1) : mcr n i leaf p = (leaf, true, p) := by rw [mcr, dif_pos h]
theorem cr_none {n i : Nat} {leaf : Ws} (h : 2 ≤ n) : mcr n i leaf [] = ([0, 0, 0, 0], false, []) := by rw [mcr, dif_neg (by omega), if_pos rfl]
theorem cr_left {n i : Nat} {leaf : Ws} {p : Dl} (h : 2 ≤ n) (hp : p ≠ []) (hi : i < hf n) : mcr n i leaf p = (pair (mcr (hf n) i leaf p.dropLast).1 (p.getLastD []), (mcr (hf n) i leaf p.dropLast).2) := by rw [mcr, dif_neg (by omega), if_neg hp, if_pos hi]
theorem cr_right {n i : Nat} {leaf : Ws} {p : Dl} (h : 2 ≤ n) (hp : p ≠ []) (hi : ¬ i < hf n) : mcr n i leaf p = (pair (p.getLastD []) (mcr (n - hf n) (i - hf n) leaf p.dropLast).1, (mcr (n - hf n) (i - hf n) leaf p.dropLast).2) := by rw [mcr, dif_neg (by omega), if_neg hp, if_neg hi]

/-- The reference's: both roots that a proof tells, and whether it has the form. -/
def mon (old : Ws) (m n : Nat) (wh : Bool) (p : Dl) : Ws × Ws × Bool :=
  if m = n then (if wh then (old, old, p.isEmpty) else if p.length = 1 then (p.getLastD [], p.getLastD [], true) else (old, old, false)) else
  if p = [] then (old, old, false) else
  if h : n ≤ 1 then (old, old, false) else
  if m ≤ hf n then ((mon old m (hf n) wh p.dropLast).1, pair (mon old m (hf n) wh p.dropLast).2.1 (p.getLastD []), (mon old m (hf n) wh p.dropLast).2.2)
  else (pair (p.getLastD []) (mon old (m - hf n) (n - hf n) false p.dropLast).1, pair (p.getLastD []) (mon old (m - hf n) (n - hf n) false p.dropLast).2.1, (mon old (m - hf n) (n - hf n) false p.dropLast).2.2)
termination_by n
decreasing_by all_goals (have := hf_lt (n := n) (by omega); have := hf_pos n; omega)
/-- The code's: .. and what is left of the proof. -/
def mrts (m n : Nat) (old : Ws) (wh : Bool) (p : Dl) : (Ws × Ws) × Bool × Dl :=
  if m = n ∧ wh = true then ((old, old), true, p) else
  if p = [] then (([0, 0, 0, 0], [0, 0, 0, 0]), false, []) else
  if m = n then ((p.getLastD [], p.getLastD []), true, p.dropLast) else
  if h : n ≤ 1 then (([0, 0, 0, 0], [0, 0, 0, 0]), false, []) else
  if m ≤ hf n then (((mrts m (hf n) old wh p.dropLast).1.1, pair (mrts m (hf n) old wh p.dropLast).1.2 (p.getLastD [])), (mrts m (hf n) old wh p.dropLast).2)
  else ((pair (p.getLastD []) (mrts (m - hf n) (n - hf n) old false p.dropLast).1.1, pair (p.getLastD []) (mrts (m - hf n) (n - hf n) old false p.dropLast).1.2), (mrts (m - hf n) (n - hf n) old false p.dropLast).2)
termination_by n
decreasing_by all_goals (have := hf_lt (n := n) (by omega); have := hf_pos n; omega)
theorem on_whole {old : Ws} {n : Nat} {p : Dl} : mon old n n true p = (old, old, p.isEmpty) := by rw [mon, if_pos rfl]; rfl
theorem on_cut {old : Ws} {n : Nat} {p : Dl} (h : p.length = 1) : mon old n n false p = (p.getLastD [], p.getLastD [], true) := by rw [mon, if_pos rfl]; simp [h]
theorem on_cut_no {old : Ws} {n : Nat} {p : Dl} (h : p.length ≠ 1) : mon old n n false p = (old, old, false) := by rw [mon, if_pos rfl]; simp [h]
theorem on_none {old : Ws} {m n : Nat} {wh : Bool} (h : m ≠ n) : mon old m n wh [] = (old, old, false) := by rw [mon, if_neg h, if_pos rfl]
theorem on_left {old : Ws} {m n : Nat} {wh : Bool} {p : Dl} (h : 2 ≤ n) (hm : m ≠ n) (hp : p ≠ []) (hi : m ≤ hf n) : mon old m n wh p = ((mon old m (hf n) wh p.dropLast).1, pair (mon old m (hf n) wh p.dropLast).2.1 (p.getLastD []), (mon old m (hf n) wh p.dropLast).2.2) := by rw [mon, if_neg hm, if_neg hp, dif_neg (by omega), if_pos hi]
theorem on_right {old : Ws} {m n : Nat} {wh : Bool} {p : Dl} (h : 2 ≤ n) (hm : m ≠ n) (hp : p ≠ []) (hi : ¬ m ≤ hf n) : mon old m n wh p = (pair (p.getLastD []) (mon old (m - hf n) (n - hf n) false p.dropLast).1, pair (p.getLastD []) (mon old (m - hf n) (n - hf n) false p.dropLast).2.1, (mon old (m - hf n) (n - hf n) false p.dropLast).2.2) := by rw [mon, if_neg hm, if_neg hp, dif_neg (by omega), if_neg hi]
theorem rts_whole {old : Ws} {n : Nat} {p : Dl} : mrts n n old true p = ((old, old), true, p) := by rw [mrts, if_pos ⟨rfl, rfl⟩]
theorem rts_none {old : Ws} {m n : Nat} {wh : Bool} (h : ¬ (m = n ∧ wh = true)) : mrts m n old wh [] = (([0, 0, 0, 0], [0, 0, 0, 0]), false, []) := by rw [mrts, if_neg h, if_pos rfl]
theorem rts_cut {old : Ws} {n : Nat} {p : Dl} (hp : p ≠ []) : mrts n n old false p = ((p.getLastD [], p.getLastD []), true, p.dropLast) := by rw [mrts, if_neg (by simp), if_neg hp, if_pos rfl]
theorem rts_left {old : Ws} {m n : Nat} {wh : Bool} {p : Dl} (h : 2 ≤ n) (hm : m ≠ n) (hp : p ≠ []) (hi : m ≤ hf n) : mrts m n old wh p = (((mrts m (hf n) old wh p.dropLast).1.1, pair (mrts m (hf n) old wh p.dropLast).1.2 (p.getLastD [])), (mrts m (hf n) old wh p.dropLast).2) := by rw [mrts, if_neg (fun h => hm h.1), if_neg hp, if_neg hm, dif_neg (by omega), if_pos hi]
theorem rts_right {old : Ws} {m n : Nat} {wh : Bool} {p : Dl} (h : 2 ≤ n) (hm : m ≠ n) (hp : p ≠ []) (hi : ¬ m ≤ hf n) : mrts m n old wh p = ((pair (p.getLastD []) (mrts (m - hf n) (n - hf n) old false p.dropLast).1.1, pair (p.getLastD []) (mrts (m - hf n) (n - hf n) old false p.dropLast).1.2), (mrts (m - hf n) (n - hf n) old false p.dropLast).2) := by rw [mrts, if_neg (fun h => hm h.1), if_neg hp, if_neg hm, dif_neg (by omega), if_neg hi]

/-- Both halves' roots. -/
def mhv (l : Dl) : Ws × Ws := (mroot (l.take (hf l.length)), mroot (l.drop (hf l.length)))
/-- The first unlike pairs from the root down. -/
def mcl (a b : Dl) : (Ws × Ws) × (Ws × Ws) :=
  if h : a.length ≤ 1 then (mhv a, mhv b) else
  if mhv a ≠ mhv b then (mhv a, mhv b) else
  if a.take (hf a.length) = b.take (hf a.length) then mcl (a.drop (hf a.length)) (b.drop (hf a.length)) else mcl (a.take (hf a.length)) (b.take (hf a.length))
termination_by a.length
decreasing_by
  · have := hf_pos a.length
    rw [List.length_drop]; omega
  · have := hf_lt (n := a.length) (by omega)
    rw [List.length_take]; omega
theorem cl_here {a b : Dl} (h : mhv a ≠ mhv b) : mcl a b = (mhv a, mhv b) := by
  by_cases h1 : a.length ≤ 1
  · rw [mcl, dif_pos h1]
  · rw [mcl, dif_neg h1, if_pos h]
theorem cl_right {a b : Dl} (h : 2 ≤ a.length) (h1 : mhv a = mhv b) (h2 : a.take (hf a.length) = b.take (hf a.length)) : mcl a b = mcl (a.drop (hf a.length)) (b.drop (hf a.length)) := by rw [mcl, dif_neg (by omega), if_neg (by simpa using h1), if_pos h2]
theorem cl_left {a b : Dl} (h : 2 ≤ a.length) (h1 : mhv a = mhv b) (h2 : ¬ a.take (hf a.length) = b.take (hf a.length)) : mcl a b = mcl (a.take (hf a.length)) (b.take (hf a.length)) := by rw [mcl, dif_neg (by omega), if_neg (by simpa using h1), if_neg h2]

/-- Do two unlike pairs on the way have one Pair? -/
def mfool (l : Dl) (i : Nat) (leaf : Ws) (p : Dl) : Bool :=
  if h : l.length ≤ 1 then false else
  if p = [] then false else
  if i < hf l.length then (decide (mhv l ≠ ((mup (hf l.length) i leaf p.dropLast).1, p.getLastD [])) && decide (pair (mhv l).1 (mhv l).2 = pair (mup (hf l.length) i leaf p.dropLast).1 (p.getLastD []))) || mfool (l.take (hf l.length)) i leaf p.dropLast
  else (decide (mhv l ≠ (p.getLastD [], (mup (l.length - hf l.length) (i - hf l.length) leaf p.dropLast).1)) && decide (pair (mhv l).1 (mhv l).2 = pair (p.getLastD []) (mup (l.length - hf l.length) (i - hf l.length) leaf p.dropLast).1)) || mfool (l.drop (hf l.length)) (i - hf l.length) leaf p.dropLast
termination_by l.length
decreasing_by
  · have := hf_lt (n := l.length) (by omega)
    rw [List.length_take]; omega
  · have := hf_pos l.length
    rw [List.length_drop]; omega
end Go.Proofs.YtcjclbhkheogpaaDoor
