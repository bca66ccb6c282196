/- The greatest power of two below a number: the contracts of merkle.half and of the reference's Half. Merkle's trees as plain functions of lists: the half, the root, proofs, what is reckoned with them, clashes. Merkle's trees as plain functions: what follows of them. merkle's Root and halves: the contracts. -/
import Derived.Test.YtfbefenagnlnfaaDoorRet
import Derived.Lib.Strings
import Derived.Lib.BitFns
import Derived.Test.YtfbefenagnlnfaaDoorDigF
import Derived.Test.YtfbefenagnlnfaaDoorDls
import Derived.Test.YtfbefenagnlnfaaDoorMerK
set_option linter.unusedVariables false
namespace Go.Proofs.YtfbefenagnlnfaaDoor
open Go.RowKit

/-- The greatest power of two below n. -/
def hf (n : Nat) : Nat := 2 ^ (n - 1).log2
theorem hf_pos (n : Nat) : 0 < hf n := Nat.pow_pos (by omega)
theorem hf_lt {n : Nat} (h : 2 ≤ n) : hf n < n := by
  have := Nat.log2_self_le (n := n - 1) (by omega)
  unfold hf
  omega
theorem hf_ge {n : Nat} (h : 2 ≤ n) : n ≤ 2 * hf n := by
  have := Nat.lt_log2_self (n := n - 1)
  unfold hf
  rw [Nat.pow_succ] at this
  omega
theorem hf_eq {n j : Nat} (h : 2 ^ j < n) (h' : n ≤ 2 * 2 ^ j) : hf n = 2 ^ j := by
  have hp : 0 < 2 ^ j := Nat.pow_pos (by omega)
  unfold hf
  congr 1
  rw [Nat.log2_eq_iff (by omega), Nat.pow_succ]
  omega


theorem bit_log : ∀ m : Nat, m < 1024 → 1 ≤ m → Lib.bitLen m = m.log2 + 1 := by decide +kernel
theorem tab8 (k : Nat) (h : k < Lib.len8tab.size) : (Lib.len8tab[k]).toNat = Lib.bitLen k := by
  have : ∀ k : Fin Lib.len8tab.size, (Lib.len8tab[k.val]'k.2).toNat = Lib.bitLen k.val := by decide +kernel
  exact this ⟨k, h⟩
theorem tab8_size : Lib.len8tab.size = 256 := by decide +kernel
set_option maxHeartbeats 800000 in
set_option maxRecDepth 100000 in
theorem len64_code (m : Nat) (w : World) (hm : 1 ≤ m) (h : m < 1024) :
    Calls Tryd.prog 88 #[.int .u64 (m : Int)] w fun e w' => e = .returned (.int .i64 ((m.log2 : Int) + 1)) ∧ w' = w := by
  have hb := bit_log m h hm
  obtain ⟨x, hx⟩ : ∃ x : Int, (m : Int) = x := ⟨_, rfl⟩
  obtain ⟨z, hz⟩ : ∃ z : Int, (m.log2 : Int) + 1 = z := ⟨_, rfl⟩
  have hm' : m = x.toNat := by omega
  have HB : Hid ((Lib.bitLen x.toNat : Int) = z) := Lib.hid (by rw [← hm', hb, ← hz]; push_cast; rfl)
  rw [hx, hz]
  have h0 : 1 ≤ x := by omega
  have h1 : x < 1024 := by omega
  clear hb hz hm' hx hm h
  clear m
  by_cases hs : x < 256
  · have i0 : x < (Lib.len8tab.size : Int) := by rw [tab8_size]; omega
    have T := Lib.hid (tab8 x.toNat (by rw [tab8_size]; omega))
    have hle := Lib.bitLen_le8' x (by omega) (by omega)
    go_enter Tryd.func88, Tryd.ntmps88
    go_wp2
    go_ret
    refine ⟨congrArg Ending.returned (congrArg (Value.int IntKind.i64) ?_), rfl⟩
    rw [← HB.out, T.out]
    simp only [wrap64]
    omega
  · have i0 : x / 256 < (Lib.len8tab.size : Int) := by rw [tab8_size]; omega
    have T := Lib.hid (tab8 (x / 256).toNat (by rw [tab8_size]; omega))
    have hle := Lib.bitLen_le8' (x / 256) (by omega) (by omega)
    have HS := Lib.hid (Lib.bitLen_shift8 x.toNat (by omega) (by omega))
    have HD := Lib.hid (show (x / 256).toNat = x.toNat / 256 by omega)
    go_enter Tryd.func88, Tryd.ntmps88
    go_wp2
    go_ret
    refine ⟨congrArg Ending.returned (congrArg (Value.int IntKind.i64) ?_), rfl⟩
    rw [← HB.out, T.out, HS.out, ← HD.out]
    simp only [wrap64]
    omega
theorem len_code (m : Nat) (w : World) (hm : 1 ≤ m) (h : m < 1024) :
    Calls Tryd.prog 76 #[.int .u64 (m : Int)] w fun e w' => e = .returned (.int .i64 ((m.log2 : Int) + 1)) ∧ w' = w := by
  have C := Lib.hid (len64_code m w hm h)
  go_enter Tryd.func76, Tryd.ntmps76
  go_wp2_with fail
  refine C.out.mono ?_
  rintro e w' ⟨rfl, rfl⟩
  go_wp2_with fail
  go_ret
  exact ⟨rfl, rfl⟩
theorem half_code (n : Nat) (w : World) (h2 : 2 ≤ n) (hn : n ≤ 1024) :
    Calls Tryd.prog 67 #[.int .i64 (n : Int)] w fun e w' => e = .returned (.int .i64 (hf n : Int)) ∧ w' = w := by
  have c := len_code (n - 1) w (by omega) (by omega)
  have hl : (n - 1).log2 < 10 := by rw [Nat.log2_lt (by omega)]; omega
  obtain ⟨q, hq⟩ : ∃ q, (n - 1).log2 = q := ⟨_, rfl⟩
  have hh : (hf n : Int) = 2 ^ q := by unfold hf; rw [hq]; push_cast; rfl
  rw [hq] at c hl
  have e : ((n - 1 : Nat) : Int) = (n : Int) - 1 := by omega
  rw [e] at c
  have i0 : 0 ≤ (n : Int) - 1 := by omega
  have i1 : (n : Int) - 1 < 1024 := by omega
  have C := Lib.hid c
  obtain ⟨z, hz⟩ : ∃ z : Int, (hf n : Int) = z := ⟨_, rfl⟩
  rw [hz] at hh ⊢
  have HH := Lib.hid hh
  clear c e hq hz hh
  go_enter Tryd.func67, Tryd.ntmps67
  go_wp2_with fail
  refine C.out.mono ?_
  rintro e w' ⟨rfl, rfl⟩
  go_wp2_with fail
  go_ret
  refine ⟨ret_int ?_, rfl⟩
  rw [HH.out]
  have hq : q = 0 ∨ q = 1 ∨ q = 2 ∨ q = 3 ∨ q = 4 ∨ q = 5 ∨ q = 6 ∨ q = 7 ∨ q = 8 ∨ q = 9 := by omega
  rcases hq with rfl | rfl | rfl | rfl | rfl | rfl | rfl | rfl | rfl | rfl <;> (unfold wrap64; rfl)
set_option maxHeartbeats 800000 in
theorem half_ref (n : Nat) (w : World) (h2 : 2 ≤ n) (hn : n ≤ 1048576) :
    Calls Tryd.prog 52 #[.int .i64 (n : Int)] w fun e w' => e = .returned (.int .i64 (hf n : Int)) ∧ w' = w := by
  go_enter Tryd.func52, Tryd.ntmps52
  go_wp2_with fail
  go_loop [3] (fun k => ∃ q j : Nat, k = .int .i64 (q : Int) ∧ Hid (q = 2 ^ j) ∧ q < n) (fun k => n - (intOf k).toNat)
  case atStart => exact ⟨1, 0, rfl, rfl, by omega⟩
  case round =>
    obtain ⟨q, j, rfl, HQ, hq⟩ := hrel
    by_cases hlt : 2 * q < n
    · have i0 : 2 * (q : Int) < (n : Int) := by omega
      have hq1 : 0 < q := by rw [HQ.out]; exact Nat.pow_pos (by omega)
      have HQ2 := Lib.hid (show 2 * q = 2 ^ (j + 1) by rw [HQ.out, Nat.pow_succ]; omega)
      go_wp2_with fail
      go_round
      case rel => exact ⟨2 * q, j + 1, by go_num, HQ2, hlt⟩
      case measure => simp [intOf]; omega
    · have i0 : ¬ 2 * (q : Int) < (n : Int) := by omega
      have HE := Lib.hid (hf_eq (n := n) (j := j) (by rw [← HQ.out]; exact hq) (by rw [← HQ.out]; omega))
      go_wp2_with fail
      go_ret
      exact ⟨ret_int (by rw [HE.out, HQ.out]), rfl⟩
end Go.Proofs.YtfbefenagnlnfaaDoor
set_option linter.unusedVariables false
namespace Go.Proofs.YtfbefenagnlnfaaDoor

/-- The root of a list. -/
def mroot (l : Dl) : Ws :=
  if h : l.length ≤ 1 then l.headD (dof ⟨#[]⟩) else pair (mroot (l.take (hf l.length))) (mroot (l.drop (hf l.length)))
termination_by l.length
decreasing_by
  · have := hf_lt (n := l.length) (by omega)
    rw [List.length_take]; omega
  · have := hf_pos l.length
    rw [List.length_drop]; omega
theorem root_small {l : Dl} (h : l.length ≤ 1) : mroot l = l.headD (dof ⟨#[]⟩) := by rw [mroot, dif_pos h]
theorem root_two {l : Dl} (h : 2 ≤ l.length) : mroot l = pair (mroot (l.take (hf l.length))) (mroot (l.drop (hf l.length))) := by rw [mroot, dif_neg (by omega)]

/-- The proof of a place. -/
def mway (l : Dl) (i : Nat) : Dl :=
  if h : l.length ≤ 1 then [] else
  if i < hf l.length then mway (l.take (hf l.length)) i ++ [mroot (l.drop (hf l.length))] else mway (l.drop (hf l.length)) (i - hf l.length) ++ [mroot (l.take (hf l.length))]
termination_by l.length
decreasing_by
  · have := hf_lt (n := l.length) (by omega)
    rw [List.length_take]; omega
  · have := hf_pos l.length
    rw [List.length_drop]; omega
theorem way_small {l : Dl} (h : l.length ≤ 1) (i : Nat) : mway l i = [] := by rw [mway, dif_pos h]
theorem way_left {l : Dl} {i : Nat} (h : 2 ≤ l.length) (hi : i < hf l.length) : mway l i = mway (l.take (hf l.length)) i ++ [mroot (l.drop (hf l.length))] := by rw [mway, dif_neg (by omega), if_pos hi]
theorem way_right {l : Dl} {i : Nat} (h : 2 ≤ l.length) (hi : ¬ i < hf l.length) : mway l i = mway (l.drop (hf l.length)) (i - hf l.length) ++ [mroot (l.take (hf l.length))] := by rw [mway, dif_neg (by omega), if_neg hi]

/-- The proof that a list, whole or cut, goes on its first m. -/
def mgoes (l : Dl) (m : Nat) (wh : Bool) : Dl :=
  if m = l.length then (if wh then [] else [mroot l]) else
  if h : l.length ≤ 1 then [] else
  if m ≤ hf l.length then mgoes (l.take (hf l.length)) m wh ++ [mroot (l.drop (hf l.length))] else mgoes (l.drop (hf l.length)) (m - hf l.length) false ++ [mroot (l.take (hf l.length))]
termination_by l.length
decreasing_by
  · have := hf_lt (n := l.length) (by omega)
    rw [List.length_take]; omega
  · have := hf_pos l.length
    rw [List.length_drop]; omega
theorem goes_whole {l : Dl} {m : Nat} (h : m = l.length) : mgoes l m true = [] := by rw [mgoes, if_pos h]; rfl
theorem goes_cut {l : Dl} {m : Nat} (h : m = l.length) : mgoes l m false = [mroot l] := by rw [mgoes, if_pos h]; rfl
theorem goes_left {l : Dl} {m : Nat} {wh : Bool} (h : 2 ≤ l.length) (hm : m ≠ l.length) (hi : m ≤ hf l.length) : mgoes l m wh = mgoes (l.take (hf l.length)) m wh ++ [mroot (l.drop (hf l.length))] := by rw [mgoes, if_neg hm, dif_neg (by omega), if_pos hi]
theorem goes_right {l : Dl} {m : Nat} {wh : Bool} (h : 2 ≤ l.length) (hm : m ≠ l.length) (hi : ¬ m ≤ hf l.length) : mgoes l m wh = mgoes (l.drop (hf l.length)) (m - hf l.length) false ++ [mroot (l.take (hf l.length))] := by rw [mgoes, if_neg hm, dif_neg (by omega), if_neg hi]

/-- The reference's: the root that a proof tells, and whether it has the form. -/
def mup (n i : Nat) (leaf : Ws) (p : Dl) : Ws × Bool :=
  if h : n ≤ 1 then (leaf, p.isEmpty) else
  if p = [] then (leaf, false) else
  if i < hf n then (pair (mup (hf n) i leaf p.dropLast).1 (p.getLastD []), (mup (hf n) i leaf p.dropLast).2)
  else (pair (p.getLastD []) (mup (n - hf n) (i - hf n) leaf p.dropLast).1, (mup (n - hf n) (i - hf n) leaf p.dropLast).2)
termination_by n
decreasing_by all_goals (have := hf_lt (n := n) (by omega); have := hf_pos n; omega)
/-- The code's: .. and what is left of the proof. -/
def mcr (n i : Nat) (leaf : Ws) (p : Dl) : Ws × Bool × Dl :=
  if h : n ≤ 1 then (leaf, true, p) else
  if p = [] then ([0, 0, 0, 0], false, p) else
  if i < hf n then (pair (mcr (hf n) i leaf p.dropLast).1 (p.getLastD []), (mcr (hf n) i leaf p.dropLast).2)
  else (pair (p.getLastD []) (mcr (n - hf n) (i - hf n) leaf p.dropLast).1, (mcr (n - hf n) (i - hf n) leaf p.dropLast).2)
termination_by n
decreasing_by all_goals (have := hf_lt (n := n) (by omega); have := hf_pos n; omega)
theorem up_one {n i : Nat} {leaf : Ws} {p : Dl} (h : n ≤ 1) : mup n i leaf p = (leaf, p.isEmpty) := by rw [mup, dif_pos h]
theorem up_none {n i : Nat} {leaf : Ws} (h : 2 ≤ n) : mup n i leaf [] = (leaf, false) := by rw [mup, dif_neg (by omega), if_pos rfl]
theorem up_left {n i : Nat} {leaf : Ws} {p : Dl} (h : 2 ≤ n) (hp : p ≠ []) (hi : i < hf n) : mup n i leaf p = (pair (mup (hf n) i leaf p.dropLast).1 (p.getLastD []), (mup (hf n) i leaf p.dropLast).2) := by rw [mup, dif_neg (by omega), if_neg hp, if_pos hi]
theorem up_right {n i : Nat} {leaf : Ws} {p : Dl} (h : 2 ≤ n) (hp : p ≠ []) (hi : ¬ i < hf n) : mup n i leaf p = (pair (p.getLastD []) (mup (n - hf n) (i - hf n) leaf p.dropLast).1, (mup (n - hf n) (i - hf n) leaf p.dropLast).2) := by rw [mup, dif_neg (by omega), if_neg hp, if_neg hi]
theorem cr_one {n i : Nat} {leaf : Ws} {p : Dl} (h : n ≤ 1) : mcr n i leaf p = (leaf, true, p) := by rw [mcr, dif_pos h]
theorem cr_none {n i : Nat} {leaf : Ws} (h : 2 ≤ n) : mcr n i leaf [] = ([0, 0, 0, 0], false, []) := by rw [mcr, dif_neg (by omega), if_pos rfl]
theorem cr_left {n i : Nat} {leaf : Ws} {p : Dl} (h : 2 ≤ n) (hp : p ≠ []) (hi : i < hf n) : mcr n i leaf p = (pair (mcr (hf n) i leaf p.dropLast).1 (p.getLastD []), (mcr (hf n) i leaf p.dropLast).2) := by rw [mcr, dif_neg (by omega), if_neg hp, if_pos hi]
theorem cr_right {n i : Nat} {leaf : Ws} {p : Dl} (h : 2 ≤ n) (hp : p ≠ []) (hi : ¬ i < hf n) : mcr n i leaf p = (pair (p.getLastD []) (mcr (n - hf n) (i - hf n) leaf p.dropLast).1, (mcr (n - hf n) (i - hf n) leaf p.dropLast).2) := by rw [mcr, dif_neg (by omega), if_neg hp, if_neg hi]

/-- The reference's: both roots that a proof tells, and whether it has the form. -/
def mon (old : Ws) (m n : Nat) (wh : Bool) (p : Dl) : Ws × Ws × Bool :=
  if m = n then (if wh then (old, old, p.isEmpty) else if p.length = 1 then (p.getLastD [], p.getLastD [], true) else (old, old, false)) else
  if p = [] then (old, old, false) else
  if h : n ≤ 1 then (old, old, false) else
  if m ≤ hf n then ((mon old m (hf n) wh p.dropLast).1, pair (mon old m (hf n) wh p.dropLast).2.1 (p.getLastD []), (mon old m (hf n) wh p.dropLast).2.2)
  else (pair (p.getLastD []) (mon old (m - hf n) (n - hf n) false p.dropLast).1, pair (p.getLastD []) (mon old (m - hf n) (n - hf n) false p.dropLast).2.1, (mon old (m - hf n) (n - hf n) false p.dropLast).2.2)
termination_by n
decreasing_by all_goals (have := hf_lt (n := n) (by omega); have := hf_pos n; omega)
/-- The code's: .. and what is left of the proof. -/
def mrts (m n : Nat) (old : Ws) (wh : Bool) (p : Dl) : (Ws × Ws) × Bool × Dl :=
  if m = n ∧ wh = true then ((old, old), true, p) else
  if p = [] then (([0, 0, 0, 0], [0, 0, 0, 0]), false, []) else
  if m = n then ((p.getLastD [], p.getLastD []), true, p.dropLast) else
  if h : n ≤ 1 then (([0, 0, 0, 0], [0, 0, 0, 0]), false, []) else
  if m ≤ hf n then (((mrts m (hf n) old wh p.dropLast).1.1, pair (mrts m (hf n) old wh p.dropLast).1.2 (p.getLastD [])), (mrts m (hf n) old wh p.dropLast).2)
  else ((pair (p.getLastD []) (mrts (m - hf n) (n - hf n) old false p.dropLast).1.1, pair (p.getLastD []) (mrts (m - hf n) (n - hf n) old false p.dropLast).1.2), (mrts (m - hf n) (n - hf n) old false p.dropLast).2)
termination_by n
decreasing_by all_goals (have := hf_lt (n := n) (by omega); have := hf_pos n; omega)
theorem on_whole {old : Ws} {n : Nat} {p : Dl} : mon old n n true p = (old, old, p.isEmpty) := by rw [mon, if_pos rfl]; rfl
theorem on_cut {old : Ws} {n : Nat} {p : Dl} (h : p.length = 1) : mon old n n false p = (p.getLastD [], p.getLastD [], true) := by rw [mon, if_pos rfl]; simp [h]
theorem on_cut_no {old : Ws} {n : Nat} {p : Dl} (h : p.length ≠ 1) : mon old n n false p = (old, old, false) := by rw [mon, if_pos rfl]; simp [h]
theorem on_none {old : Ws} {m n : Nat} {wh : Bool} (h : m ≠ n) : mon old m n wh [] = (old, old, false) := by rw [mon, if_neg h, if_pos rfl]
theorem on_left {old : Ws} {m n : Nat} {wh : Bool} {p : Dl} (h : 2 ≤ n) (hm : m ≠ n) (hp : p ≠ []) (hi : m ≤ hf n) : mon old m n wh p = ((mon old m (hf n) wh p.dropLast).1, pair (mon old m (hf n) wh p.dropLast).2.1 (p.getLastD []), (mon old m (hf n) wh p.dropLast).2.2) := by rw [mon, if_neg hm, if_neg hp, dif_neg (by omega), if_pos hi]
theorem on_right {old : Ws} {m n : Nat} {wh : Bool} {p : Dl} (h : 2 ≤ n) (hm : m ≠ n) (hp : p ≠ []) (hi : ¬ m ≤ hf n) : mon old m n wh p = (pair (p.getLastD []) (mon old (m - hf n) (n - hf n) false p.dropLast).1, pair (p.getLastD []) (mon old (m - hf n) (n - hf n) false p.dropLast).2.1, (mon old (m - hf n) (n - hf n) false p.dropLast).2.2) := by rw [mon, if_neg hm, if_neg hp, dif_neg (by omega), if_neg hi]
theorem rts_whole {old : Ws} {n : Nat} {p : Dl} : mrts n n old true p = ((old, old), true, p) := by rw [mrts, if_pos ⟨rfl, rfl⟩]
theorem rts_none {old : Ws} {m n : Nat} {wh : Bool} (h : ¬ (m = n ∧ wh = true)) : mrts m n old wh [] = (([0, 0, 0, 0], [0, 0, 0, 0]), false, []) := by rw [mrts, if_neg h, if_pos rfl]
theorem rts_cut {old : Ws} {n : Nat} {p : Dl} (hp : p ≠ []) : mrts n n old false p = ((p.getLastD [], p.getLastD []), true, p.dropLast) := by rw [mrts, if_neg (by simp), if_neg hp, if_pos rfl]
theorem rts_left {old : Ws} {m n : Nat} {wh : Bool} {p : Dl} (h : 2 ≤ n) (hm : m ≠ n) (hp : p ≠ []) (hi : m ≤ hf n) : mrts m n old wh p = (((mrts m (hf n) old wh p.dropLast).1.1, pair (mrts m (hf n) old wh p.dropLast).1.2 (p.getLastD [])), (mrts m (hf n) old wh p.dropLast).2) := by rw [mrts, if_neg (fun h => hm h.1), if_neg hp, if_neg hm, dif_neg (by omega), if_pos hi]
theorem rts_right {old : Ws} {m n : Nat} {wh : Bool} {p : Dl} (h : 2 ≤ n) (hm : m ≠ n) (hp : p ≠ []) (hi : ¬ m ≤ hf n) : mrts m n old wh p = ((pair (p.getLastD []) (mrts (m - hf n) (n - hf n) old false p.dropLast).1.1, pair (p.getLastD []) (mrts (m - hf n) (n - hf n) old false p.dropLast).1.2), (mrts (m - hf n) (n - hf n) old false p.dropLast).2) := by rw [mrts, if_neg (fun h => hm h.1), if_neg hp, if_neg hm, dif_neg (by omega), if_neg hi]

/-- Both halves' roots. -/
def mhv (l : Dl) : Ws × Ws := (mroot (l.take (hf l.length)), mroot (l.drop (hf l.length)))
/-- The first unlike pairs from the root down. -/
def mcl (a b : Dl) : (Ws × Ws) × (Ws × Ws) :=
  if h : a.length ≤ 1 then (mhv a, mhv b) else
  if mhv a ≠ mhv b then (mhv a, mhv b) else
  if a.take (hf a.length) = b.take (hf a.length) then mcl (a.drop (hf a.length)) (b.drop (hf a.length)) else mcl (a.take (hf a.length)) (b.take (hf a.length))
termination_by a.length
decreasing_by
  · have := hf_pos a.length
    rw [List.length_drop]; omega
  · have := hf_lt (n := a.length) (by omega)
    rw [List.length_take]; omega
theorem cl_here {a b : Dl} (h : mhv a ≠ mhv b) : mcl a b = (mhv a, mhv b) := by
  by_cases h1 : a.length ≤ 1
  · rw [mcl, dif_pos h1]
  · rw [mcl, dif_neg h1, if_pos h]
theorem cl_right {a b : Dl} (h : 2 ≤ a.length) (h1 : mhv a = mhv b) (h2 : a.take (hf a.length) = b.take (hf a.length)) : mcl a b = mcl (a.drop (hf a.length)) (b.drop (hf a.length)) := by rw [mcl, dif_neg (by omega), if_neg (by simpa using h1), if_pos h2]
theorem cl_left {a b : Dl} (h : 2 ≤ a.length) (h1 : mhv a = mhv b) (h2 : ¬ a.take (hf a.length) = b.take (hf a.length)) : mcl a b = mcl (a.take (hf a.length)) (b.take (hf a.length)) := by rw [mcl, dif_neg (by omega), if_neg (by simpa using h1), if_neg h2]

/-- Do two unlike pairs on the way have one Pair? -/
def mfool (l : Dl) (i : Nat) (leaf : Ws) (p : Dl) : Bool :=
  if h : l.length ≤ 1 then false else
  if p = [] then false else
  if i < hf l.length then (decide (mhv l ≠ ((mup (hf l.length) i leaf p.dropLast).1, p.getLastD [])) && decide (pair (mhv l).1 (mhv l).2 = pair (mup (hf l.length) i leaf p.dropLast).1 (p.getLastD []))) || mfool (l.take (hf l.length)) i leaf p.dropLast
  else (decide (mhv l ≠ (p.getLastD [], (mup (l.length - hf l.length) (i - hf l.length) leaf p.dropLast).1)) && decide (pair (mhv l).1 (mhv l).2 = pair (p.getLastD []) (mup (l.length - hf l.length) (i - hf l.length) leaf p.dropLast).1)) || mfool (l.drop (hf l.length)) (i - hf l.length) leaf p.dropLast
termination_by l.length
decreasing_by
  · have := hf_lt (n := l.length) (by omega)
    rw [List.length_take]; omega
  · have := hf_pos l.length
    rw [List.length_drop]; omega
end Go.Proofs.YtfbefenagnlnfaaDoor
set_option linter.unusedVariables false
namespace Go.Proofs.YtfbefenagnlnfaaDoor

theorem dof_ok0 (s : ByteArray) (hn : s.size ≤ 300) : Ok4 (dof s) := by
  have h1 : (s.extract 0 (16 * (s.size / 16))).size = 4 * (4 * (s.size / 16)) := by rw [ByteArray.size_extract]; omega
  have h2 : (s.extract (16 * (s.size / 16)) s.size ++ ender s.size).size = 4 * ((s.size - 16 * (s.size / 16) + (9 + (23 - s.size % 16) % 16)) / 4) := by
    rw [ByteArray.size_append, ByteArray.size_extract, size_ender]; omega
  exact take4_ok (tkAll_ok _ _ _ (Nat.le_refl _) (tkAll_ok _ _ _ (Nat.le_refl _) one8_ok (words_of_text _ _ h1).2) (words_of_text _ _ h2).2)
theorem root_ok : ∀ (n : Nat) (l : Dl), l.length = n → Oks l → Ok4 (mroot l) := by
  intro n
  induction n using Nat.strongRecOn with
  | ind n ih =>
    intro l hl h
    by_cases h1 : l.length ≤ 1
    · rw [root_small h1]
      match l, h1 with
      | [], _ => exact dof_ok0 ⟨#[]⟩ (by decide)
      | [x], _ => exact h x (by simp)
    · have h2 : 2 ≤ l.length := by omega
      have k1 := hf_lt h2
      have k2 := hf_pos l.length
      rw [root_two h2]
      exact pair_ok0 (ih (hf l.length) (by omega) _ (by rw [List.length_take]; omega) (h.take _)) (ih (l.length - hf l.length) (by omega) _ (by rw [List.length_drop]) (h.drop _))
theorem Oks.mroot {l : Dl} (h : Oks l) : Ok4 (mroot l) := root_ok _ l rfl h
theorem Oks.snoc {l : Dl} {d : Ws} (h : Oks l) (hd : Ok4 d) : Oks (l ++ [d]) := by
  intro x hx
  rcases List.mem_append.1 hx with hx | hx
  · exact h x hx
  · have : x = d := by simpa using hx
    subst this; exact hd

theorem cr_up : ∀ (n i : Nat) (leaf : Ws) (p : Dl), (mup n i leaf p).2 = ((mcr n i leaf p).2.1 && (mcr n i leaf p).2.2.isEmpty) ∧ ((mcr n i leaf p).2.1 = true → (mup n i leaf p).1 = (mcr n i leaf p).1) := by
  intro n
  induction n using Nat.strongRecOn with
  | ind n ih =>
    intro i leaf p
    by_cases h1 : n ≤ 1
    · rw [up_one h1, cr_one h1]; simp
    · have h2 : 2 ≤ n := by omega
      have k1 := hf_lt h2
      have k2 := hf_pos n
      by_cases hp : p = []
      · subst hp
        rw [up_none h2, cr_none h2]; simp
      · by_cases hi : i < hf n
        · rw [up_left h2 hp hi, cr_left h2 hp hi]
          obtain ⟨a, b⟩ := ih (hf n) (by omega) i leaf p.dropLast
          exact ⟨a, fun h => by rw [b h]⟩
        · rw [up_right h2 hp hi, cr_right h2 hp hi]
          obtain ⟨a, b⟩ := ih (n - hf n) (by omega) (i - hf n) leaf p.dropLast
          exact ⟨a, fun h => by rw [b h]⟩
theorem cr_left_over : ∀ (d n i : Nat) (leaf : Ws) (p : Dl), n ≤ 2 ^ d → (mcr n i leaf p).2.1 = true → p.length ≤ (mcr n i leaf p).2.2.length + d := by
  intro d
  induction d with
  | zero =>
    intro n i leaf p hn _
    rw [cr_one (by simpa using hn)]; simp
  | succ d ih =>
    intro n i leaf p hn
    by_cases h1 : n ≤ 1
    · rw [cr_one h1]; simp
    · have h2 : 2 ≤ n := by omega
      have k1 := hf_lt h2
      have k2 := hf_ge h2
      have k3 : hf n ≤ 2 ^ d := by
        unfold hf
        apply Nat.pow_le_pow_right (by omega)
        rcases Nat.lt_or_ge d (n - 1).log2 with hd | hd
        · have := Nat.log2_self_le (n := n - 1) (by omega)
          have h3 : 2 ^ (d + 1) ≤ 2 ^ (n - 1).log2 := Nat.pow_le_pow_right (by omega) hd
          omega
        · exact hd
      by_cases hp : p = []
      · subst hp
        rw [cr_none h2]; simp
      · have hl : p.length = p.dropLast.length + 1 := by
          rw [List.length_dropLast]
          have := List.length_pos_iff.2 hp
          omega
        by_cases hi : i < hf n
        · rw [cr_left h2 hp hi]
          intro h
          have := ih (hf n) i leaf p.dropLast k3 h
          simp only at h ⊢
          omega
        · rw [cr_right h2 hp hi]
          intro h
          have := ih (n - hf n) (i - hf n) leaf p.dropLast (by omega) h
          simp only at h ⊢
          omega
theorem getLastD_snoc (l : Dl) (x d : Ws) : (l ++ [x]).getLastD d = x := by simp [List.getLastD_eq_getLast?]
theorem up_way : ∀ (n : Nat) (l : Dl) (i : Nat), l.length = n → i < n → mup n i (l.getD i []) (mway l i) = (mroot l, true) := by
  intro n
  induction n using Nat.strongRecOn with
  | ind n ih =>
    intro l i hl hi
    by_cases h1 : n ≤ 1
    · rw [up_one h1, way_small (by omega), root_small (by omega)]
      match l, hl with
      | [], hl => simp at hl; omega
      | [x], hl =>
        have : i = 0 := by simp at hl; omega
        subst this
        rfl
      | x :: y :: r, hl => simp at hl; omega
    · have h2 : 2 ≤ l.length := by omega
      have k1 := hf_lt h2
      have k2 := hf_pos l.length
      rw [root_two h2]
      subst hl
      by_cases hk : i < hf l.length
      · rw [way_left h2 hk, up_left h2 (by simp) hk, List.dropLast_concat, getLastD_snoc]
        have := ih (hf l.length) k1 (l.take (hf l.length)) i (by rw [List.length_take]; omega) hk
        rw [show (l.take (hf l.length)).getD i [] = l.getD i [] by simp [List.getD, hk]] at this
        rw [this]
      · rw [way_right h2 hk, up_right h2 (by simp) hk, List.dropLast_concat, getLastD_snoc]
        have := ih (l.length - hf l.length) (by omega) (l.drop (hf l.length)) (i - hf l.length) (by rw [List.length_drop]) (by omega)
        rw [show (l.drop (hf l.length)).getD (i - hf l.length) [] = l.getD i [] by simp [List.getD, List.getElem?_drop, show hf l.length + (i - hf l.length) = i by omega]] at this
        rw [this]
theorem up_long : ∀ (n i : Nat) (l m : Ws) (p q : Dl), (mup n i l p).2 = true → (mup n i m q).2 = true → p.length = q.length := by
  intro n
  induction n using Nat.strongRecOn with
  | ind n ih =>
    intro i l m p q
    by_cases h1 : n ≤ 1
    · rw [up_one h1, up_one h1]
      simp only [List.isEmpty_iff]
      rintro rfl rfl; rfl
    · have h2 : 2 ≤ n := by omega
      have k1 := hf_lt h2
      have k2 := hf_pos n
      by_cases hp : p = []
      · subst hp; rw [up_none h2]; simp
      · by_cases hq : q = []
        · subst hq; rw [up_none h2]; simp
        · have p1 := List.length_pos_iff.2 hp
          have q1 := List.length_pos_iff.2 hq
          by_cases hi : i < hf n
          · rw [up_left h2 hp hi, up_left h2 hq hi]
            intro a b
            have := ih (hf n) k1 i l m _ _ a b
            rw [List.length_dropLast, List.length_dropLast] at this
            omega
          · rw [up_right h2 hp hi, up_right h2 hq hi]
            intro a b
            have := ih (n - hf n) (by omega) (i - hf n) l m _ _ a b
            rw [List.length_dropLast, List.length_dropLast] at this
            omega
theorem hf_half {d n : Nat} (h2 : 2 ≤ n) (hn : n ≤ 2 ^ (d + 1)) : hf n ≤ 2 ^ d ∧ n - hf n ≤ 2 ^ d := by
  have k1 := hf_lt h2
  have k2 := hf_ge h2
  have k3 : hf n ≤ 2 ^ d := by
    unfold hf
    apply Nat.pow_le_pow_right (by omega)
    rcases Nat.lt_or_ge d (n - 1).log2 with hd | hd
    · have := Nat.log2_self_le (n := n - 1) (by omega)
      have h3 : 2 ^ (d + 1) ≤ 2 ^ (n - 1).log2 := Nat.pow_le_pow_right (by omega) hd
      omega
    · exact hd
  omega
theorem way_short : ∀ (d : Nat) (l : Dl) (i : Nat), l.length ≤ 2 ^ d → (mway l i).length ≤ d := by
  intro d
  induction d with
  | zero =>
    intro l i hl
    rw [way_small (by simpa using hl)]; simp
  | succ d ih =>
    intro l i hl
    by_cases h1 : l.length ≤ 1
    · rw [way_small h1]; simp
    · have h2 : 2 ≤ l.length := by omega
      obtain ⟨a, b⟩ := hf_half h2 hl
      by_cases hi : i < hf l.length
      · rw [way_left h2 hi, List.length_append]
        have := ih (l.take (hf l.length)) i (by rw [List.length_take]; omega)
        simp; omega
      · rw [way_right h2 hi, List.length_append]
        have := ih (l.drop (hf l.length)) (i - hf l.length) (by rw [List.length_drop]; omega)
        simp; omega
theorem goes_short : ∀ (d : Nat) (l : Dl) (m : Nat) (wh : Bool), l.length ≤ 2 ^ d → (mgoes l m wh).length ≤ d + 1 := by
  intro d
  induction d with
  | zero =>
    intro l m wh hl
    have : l.length ≤ 1 := by simpa using hl
    by_cases hm : m = l.length
    · cases wh
      · rw [goes_cut hm]; simp
      · rw [goes_whole hm]; simp
    · rw [mgoes, if_neg hm, dif_pos this]; simp
  | succ d ih =>
    intro l m wh hl
    by_cases hm : m = l.length
    · cases wh
      · rw [goes_cut hm]; simp
      · rw [goes_whole hm]; simp
    · by_cases h1 : l.length ≤ 1
      · rw [mgoes, if_neg hm, dif_pos h1]; simp
      · have h2 : 2 ≤ l.length := by omega
        obtain ⟨a, b⟩ := hf_half h2 hl
        by_cases hi : m ≤ hf l.length
        · rw [goes_left h2 hm hi, List.length_append]
          have := ih (l.take (hf l.length)) m wh (by rw [List.length_take]; omega)
          simp; omega
        · rw [goes_right h2 hm hi, List.length_append]
          have := ih (l.drop (hf l.length)) (m - hf l.length) false (by rw [List.length_drop]; omega)
          simp; omega
theorem way_oks : ∀ (n : Nat) (l : Dl) (i : Nat), l.length = n → Oks l → Oks (mway l i) := by
  intro n
  induction n using Nat.strongRecOn with
  | ind n ih =>
    intro l i hl h
    by_cases h1 : l.length ≤ 1
    · rw [way_small h1]; intro d hd; simp at hd
    · have h2 : 2 ≤ l.length := by omega
      have k1 := hf_lt h2
      have k2 := hf_pos l.length
      by_cases hi : i < hf l.length
      · rw [way_left h2 hi]
        exact (ih _ (by rw [← hl]; exact k1) _ i (by rw [List.length_take]; omega) (h.take _)).snoc (h.drop _).mroot
      · rw [way_right h2 hi]
        exact (ih (l.length - hf l.length) (by omega) _ _ (by rw [List.length_drop]) (h.drop _)).snoc (h.take _).mroot
theorem goes_oks : ∀ (n : Nat) (l : Dl) (m : Nat) (wh : Bool), l.length = n → Oks l → Oks (mgoes l m wh) := by
  intro n
  induction n using Nat.strongRecOn with
  | ind n ih =>
    intro l m wh hl h
    by_cases hm : m = l.length
    · cases wh
      · rw [goes_cut hm]; intro d hd; have : d = mroot l := by simpa using hd
        subst this; exact h.mroot
      · rw [goes_whole hm]; intro d hd; simp at hd
    · by_cases h1 : l.length ≤ 1
      · rw [mgoes, if_neg hm, dif_pos h1]; intro d hd; simp at hd
      · have h2 : 2 ≤ l.length := by omega
        have k1 := hf_lt h2
        have k2 := hf_pos l.length
        by_cases hi : m ≤ hf l.length
        · rw [goes_left h2 hm hi]
          exact (ih _ (by rw [← hl]; exact k1) _ m wh (by rw [List.length_take]; omega) (h.take _)).snoc (h.drop _).mroot
        · rw [goes_right h2 hm hi]
          exact (ih (l.length - hf l.length) (by omega) _ _ false (by rw [List.length_drop]) (h.drop _)).snoc (h.take _).mroot
theorem on_goes : ∀ (n : Nat) (l : Dl) (m : Nat) (wh : Bool) (old : Ws), l.length = n → 1 ≤ m → m ≤ n → (wh = true → old = mroot (l.take m)) → mon old m n wh (mgoes l m wh) = (mroot (l.take m), mroot l, true) := by
  intro n
  induction n using Nat.strongRecOn with
  | ind n ih =>
    intro l m wh old hl h1 hmn ho
    by_cases hm : m = n
    · subst hm
      have e : l.take m = l := List.take_of_length_le (by omega)
      cases wh
      · rw [goes_cut hl.symm, on_cut (by simp), e]; rfl
      · rw [goes_whole hl.symm, on_whole, ho rfl, e]; rfl
    · have h2 : 2 ≤ l.length := by omega
      have k1 := hf_lt h2
      have k2 := hf_pos l.length
      have k3 := hf_ge h2
      subst hl
      by_cases hi : m ≤ hf l.length
      · rw [goes_left h2 hm hi, on_left h2 hm (by simp) hi, List.dropLast_concat, getLastD_snoc]
        have e : (l.take (hf l.length)).take m = l.take m := by rw [List.take_take, Nat.min_eq_left hi]
        have := ih (hf l.length) k1 (l.take (hf l.length)) m wh old (by rw [List.length_take]; omega) h1 hi (by rw [e]; exact ho)
        rw [this, e, root_two h2]
      · rw [goes_right h2 hm hi, on_right h2 hm (by simp) hi, List.dropLast_concat, getLastD_snoc]
        have := ih (l.length - hf l.length) (by omega) (l.drop (hf l.length)) (m - hf l.length) false old (by rw [List.length_drop]) (by omega) (by omega) (by simp)
        rw [this]
        have hl : (l.take m).length = m := by rw [List.length_take]; omega
        have hh : hf m = hf l.length := by
          show hf m = 2 ^ (l.length - 1).log2
          refine hf_eq ?_ ?_
          · show hf l.length < m
            omega
          · show m ≤ 2 * hf l.length
            omega
        rw [root_two h2, root_two (l := l.take m) (by omega), hl, hh, List.take_take, Nat.min_eq_left (by omega), List.drop_take]
theorem rts_on : ∀ (n m : Nat) (old : Ws) (wh : Bool) (p : Dl), 1 ≤ m → m ≤ n → (mon old m n wh p).2.2 = ((mrts m n old wh p).2.1 && (mrts m n old wh p).2.2.isEmpty) ∧ ((mon old m n wh p).2.2 = true → (mon old m n wh p).1 = (mrts m n old wh p).1.1 ∧ (mon old m n wh p).2.1 = (mrts m n old wh p).1.2) := by
  intro n
  induction n using Nat.strongRecOn with
  | ind n ih =>
    intro m old wh p h1 hmn
    by_cases hm : m = n
    · subst hm
      cases wh
      · by_cases hp : p = []
        · subst hp
          rw [on_cut_no (by simp), rts_none (by simp)]; simp
        · rw [rts_cut hp]
          by_cases hl : p.length = 1
          · rw [on_cut hl]
            have : p.dropLast = [] := List.eq_nil_of_length_eq_zero (by rw [List.length_dropLast]; omega)
            simp [this]
          · rw [on_cut_no hl]
            have hpos := List.length_pos_iff.2 hp
            have : p.dropLast ≠ [] := fun e => by
              have := congrArg List.length e
              rw [List.length_dropLast] at this
              simp at this; omega
            simp [List.isEmpty_eq_false_iff.2 this]
      · rw [on_whole, rts_whole]; simp
    · by_cases hp : p = []
      · subst hp
        rw [on_none hm, rts_none (fun h => hm h.1)]; simp
      · have h2 : 2 ≤ n := by omega
        have k1 := hf_lt h2
        have k2 := hf_pos n
        by_cases hi : m ≤ hf n
        · rw [on_left h2 hm hp hi, rts_left h2 hm hp hi]
          obtain ⟨a, b⟩ := ih (hf n) k1 m old wh p.dropLast h1 hi
          refine ⟨a, fun h => ?_⟩
          obtain ⟨c, d⟩ := b h
          exact ⟨c, congrArg (fun x => pair x _) d⟩
        · rw [on_right h2 hm hp hi, rts_right h2 hm hp hi]
          obtain ⟨a, b⟩ := ih (n - hf n) (by omega) (m - hf n) old false p.dropLast (by omega) (by omega)
          refine ⟨a, fun h => ?_⟩
          obtain ⟨c, d⟩ := b h
          exact ⟨congrArg (pair _) c, congrArg (pair _) d⟩
theorem rts_left_over : ∀ (d n m : Nat) (old : Ws) (wh : Bool) (p : Dl), n ≤ 2 ^ d → 1 ≤ m → m ≤ n → (mrts m n old wh p).2.1 = true → p.length ≤ (mrts m n old wh p).2.2.length + (d + 1) := by
  intro d
  induction d with
  | zero =>
    intro n m old wh p hn h1 hmn
    have e : m = n := by simp at hn; omega
    subst e
    cases wh
    · by_cases hp : p = []
      · subst hp; simp
      · rw [rts_cut hp, List.length_dropLast]; intro _; first | omega | (simp only; omega)
    · rw [rts_whole]; intro _; first | omega | (simp only; omega)
  | succ d ih =>
    intro n m old wh p hn h1 hmn
    by_cases hm : m = n
    · subst hm
      cases wh
      · by_cases hp : p = []
        · subst hp; simp
        · rw [rts_cut hp, List.length_dropLast]; intro _; first | omega | (simp only; omega)
      · rw [rts_whole]; intro _; first | omega | (simp only; omega)
    · by_cases hp : p = []
      · subst hp; simp
      · have h2 : 2 ≤ n := by omega
        obtain ⟨a, b⟩ := hf_half h2 hn
        have hl : p.length = p.dropLast.length + 1 := by
          rw [List.length_dropLast]
          have := List.length_pos_iff.2 hp
          omega
        have k1 := hf_lt h2
        by_cases hi : m ≤ hf n
        · rw [rts_left h2 hm hp hi]
          intro h
          have := ih (hf n) m old wh p.dropLast a h1 hi h
          simp only at h ⊢
          omega
        · rw [rts_right h2 hm hp hi]
          intro h
          have := ih (n - hf n) (m - hf n) old false p.dropLast b (by omega) (by omega) h
          simp only at h ⊢
          omega
theorem roots_eq {a b : Dl} (h2 : 2 ≤ a.length) (hl : a.length = b.length) (hr : mroot a = mroot b) : pair (mhv a).1 (mhv a).2 = pair (mhv b).1 (mhv b).2 := by
  rw [root_two h2, root_two (l := b) (by omega)] at hr
  exact hr
theorem small_eq {a b : Dl} (h1 : a.length ≤ 1) (hl : a.length = b.length) (hr : mroot a = mroot b) : a = b := by
  rw [root_small h1, root_small (l := b) (by omega)] at hr
  match a, b, h1, hl with
  | [], [], _, _ => rfl
  | [x], [y], _, _ => simpa using hr
theorem parts_eq {a b : Dl} (k : Nat) (h1 : a.take k = b.take k) (h2 : a.drop k = b.drop k) : a = b := by
  rw [← List.take_append_drop k a, h1, h2, List.take_append_drop]
theorem cl_unlike : ∀ (n : Nat) (a b : Dl), a.length = n → a.length = b.length → a ≠ b → mroot a = mroot b → (mcl a b).1 ≠ (mcl a b).2 ∧ pair (mcl a b).1.1 (mcl a b).1.2 = pair (mcl a b).2.1 (mcl a b).2.2 := by
  intro n
  induction n using Nat.strongRecOn with
  | ind n ih =>
    intro a b hn hl hab hr
    have h2 : 2 ≤ a.length := by
      rcases Nat.lt_or_ge a.length 2 with h | h
      · exact absurd (small_eq (by omega) hl hr) hab
      · exact h
    have k1 := hf_lt h2
    have k2 := hf_pos a.length
    have hq := roots_eq h2 hl hr
    by_cases hx : mhv a = mhv b
    · by_cases ht : a.take (hf a.length) = b.take (hf a.length)
      · rw [cl_right h2 hx ht]
        refine ih (a.length - hf a.length) (by omega) _ _ (by rw [List.length_drop]) (by rw [List.length_drop, List.length_drop]; omega) (fun e => hab (parts_eq _ ht e)) ?_
        have := congrArg Prod.snd hx
        simp only [mhv, ← hl] at this
        exact this
      · rw [cl_left h2 hx ht]
        refine ih (hf a.length) (by omega) _ _ (by rw [List.length_take]; omega) (by rw [List.length_take, List.length_take]; omega) ht ?_
        have := congrArg Prod.fst hx
        simp only [mhv, ← hl] at this
        exact this
    · rw [cl_here hx]
      exact ⟨hx, hq⟩
theorem fooled_of : ∀ (n : Nat) (l : Dl) (i : Nat) (leaf : Ws) (p : Dl), l.length = n → i < n → leaf ≠ l.getD i [] → mup n i leaf p = (mroot l, true) → mfool l i leaf p = true := by
  intro n
  induction n using Nat.strongRecOn with
  | ind n ih =>
    intro l i leaf p hl hi hne hu
    by_cases h1 : n ≤ 1
    · exfalso
      rw [up_one h1, root_small (by omega)] at hu
      have hu := congrArg Prod.fst hu
      match l, hl with
      | [], hl => simp at hl; omega
      | [x], hl =>
        have : i = 0 := by simp at hl; omega
        subst this
        exact hne hu
      | x :: y :: r, hl => simp at hl; omega
    · have h2 : 2 ≤ l.length := by omega
      have k1 := hf_lt h2
      have k2 := hf_pos l.length
      subst hl
      rw [root_two h2] at hu
      by_cases hp : p = []
      · subst hp; rw [up_none h2] at hu; simp at hu
      · by_cases hk : i < hf l.length
        · rw [up_left h2 hp hk] at hu
          simp only [Prod.mk.injEq] at hu
          obtain ⟨u1, u2⟩ := hu
          rw [mfool, dif_neg h1, if_neg hp, if_pos hk]
          by_cases hx : mhv l = ((mup (hf l.length) i leaf p.dropLast).1, p.getLastD [])
          · rw [Bool.or_eq_true]
            right
            refine ih (hf l.length) k1 (l.take (hf l.length)) i leaf p.dropLast (by rw [List.length_take]; omega) hk ?_ ?_
            · rw [show (l.take (hf l.length)).getD i [] = l.getD i [] by simp [List.getD, hk]]
              exact hne
            · have := congrArg Prod.fst hx
              exact Prod.ext this.symm u2
          · rw [Bool.or_eq_true]
            left
            simp only [Bool.and_eq_true, decide_eq_true_eq]
            exact ⟨hx, u1.symm⟩
        · rw [up_right h2 hp hk] at hu
          simp only [Prod.mk.injEq] at hu
          obtain ⟨u1, u2⟩ := hu
          rw [mfool, dif_neg h1, if_neg hp, if_neg hk]
          by_cases hx : mhv l = (p.getLastD [], (mup (l.length - hf l.length) (i - hf l.length) leaf p.dropLast).1)
          · rw [Bool.or_eq_true]
            right
            refine ih (l.length - hf l.length) (by omega) (l.drop (hf l.length)) (i - hf l.length) leaf p.dropLast (by rw [List.length_drop]) (by omega) ?_ ?_
            · rw [show (l.drop (hf l.length)).getD (i - hf l.length) [] = l.getD i [] by simp [List.getD, List.getElem?_drop, show hf l.length + (i - hf l.length) = i by omega]]
              exact hne
            · have := congrArg Prod.snd hx
              exact Prod.ext this.symm u2
          · rw [Bool.or_eq_true]
            left
            simp only [Bool.and_eq_true, decide_eq_true_eq]
            exact ⟨hx, u1.symm⟩
end Go.Proofs.YtfbefenagnlnfaaDoor
set_option linter.unusedVariables false
namespace Go.Proofs.YtfbefenagnlnfaaDoor
open Go.RowKit

def RootAt (f : FuncId) (n : Nat) : Prop := ∀ (l : Dl) (b off cap : Nat) (w : World), l.length = n → 1 ≤ n → n ≤ 1024 → n ≤ cap → cap ≤ 9223372036854775807 → DRow w b off l → Tabs w →
    Calls Tryd.prog f #[.slice (some ⟨b, off, none⟩) n cap] w fun e w' => e = .returned (ag (mroot l)) ∧ Below w.heap.size w w'
set_option maxRecDepth 100000 in
set_option maxHeartbeats 2000000 in
theorem halves_step {n : Nat} (ih : ∀ m, m < n → RootAt 28 m) (l : Dl) (b off cap : Nat) (w : World) (hl : l.length = n) (h2 : 2 ≤ n) (hn : n ≤ 1024) (hc : n ≤ cap) (hm : cap ≤ 9223372036854775807) (hr : DRow w b off l) (ht : Tabs w) {x0 x1 x2 x3 y0 y1 y2 y3 : Int} (e1 : mroot (l.take (hf n)) = [x0, x1, x2, x3]) (e2 : mroot (l.drop (hf n)) = [y0, y1, y2, y3]) :
    Calls Tryd.prog 49 #[.slice (some ⟨b, off, none⟩) n cap] w fun e w' => e = .returned (.agg #[.int .u32 x0, .int .u32 x1, .int .u32 x2, .int .u32 x3, .int .u32 y0, .int .u32 y1, .int .u32 y2, .int .u32 y3]) ∧ Below w.heap.size w w' := by
  have k1 := hf_lt h2
  have k2 := hf_pos n
  have C := fun w => half_code n w h2 hn
  have c1 := fun w => ih (hf n) k1 (l.take (hf n)) b off cap w (by rw [List.length_take]; omega) k2 (by omega) (by omega) hm
  have c2 := fun w => ih (n - hf n) (by omega) (l.drop (hf n)) b (off + hf n * 4) (cap - hf n) w (by rw [List.length_drop, hl]) (by omega) (by omega) (by omega) (by omega)
  rw [e1, ag4] at c1
  rw [e2, ag4] at c2
  obtain ⟨k, hk⟩ : ∃ k, hf n = k := ⟨_, rfl⟩
  rw [hk] at C c1 c2 k1 k2
  have r1 := hr.take k
  have r2 := hr.drop k
  have HC := Lib.hid C
  have C1 := Lib.hid c1
  have C2 := Lib.hid c2
  have R1' := Lib.hid r1
  have R2 := Lib.hid r2
  have HT := Lib.hid ht
  have HK := Lib.hid ((Kx.nil none w).more (.cells #[.int .u32 0, .int .u32 0, .int .u32 0, .int .u32 0, .int .u32 0, .int .u32 0, .int .u32 0, .int .u32 0] 72 (0, 0))).drew
  have i0 : ¬ cap = k := by omega
  have i1 : k ≤ cap := by omega
  have i2 : k ≤ n := by omega
  clear C c1 c2 r1 r2 ht e1 e2 hk hr hl ih
  go_enter Tryd.func49, Tryd.ntmps49
  go_wp2_with fail
  refine (HC.out _).mono ?_
  rintro e w1 ⟨rfl, rfl⟩
  go_wp2_with fail
  go_region_law (first
    | (go_simp; go_at_call 28; (with_reducible refine (C1.out _ (R1'.out.oldn HK.out) (HT.out.oldn HK.out)).mono ?_); rintro e w' ⟨rfl, hb⟩; replace HK := Lib.hid (HK.out.after hb); clear hb)
    | (go_simp; go_at_call 28; (with_reducible refine (C2.out _ (R2.out.oldn HK.out) (HT.out.oldn HK.out)).mono ?_); rintro e w' ⟨rfl, hb⟩; replace HK := Lib.hid (HK.out.after hb); clear hb; obtain ⟨a0, a1, a2, a3, a4, a5, a6, a7, d0, d1, d2, d3, d4, d5, d6, d7⟩ := cells8 (HK.out.at 0 rfl)))
  all_goals
    have HR := Lib.hid (row8 (HK.out.at 0 rfl) (.int .u32 x0) (.int .u32 x1) (.int .u32 x2) (.int .u32 x3) (.int .u32 y0) (.int .u32 y1) (.int .u32 y2) (.int .u32 y3))
    have HE := Lib.hid (HK.out.put8 0 rfl (.inr (Nat.le_refl _)) (.int .u32 x0) (.int .u32 x1) (.int .u32 x2) (.int .u32 x3) (.int .u32 y0) (.int .u32 y1) (.int .u32 y2) (.int .u32 y3)).be.plain
    go_wp2_with fail
    exact bodyPost_ret (v := .agg #[.int .u32 x0, .int .u32 x1, .int .u32 x2, .int .u32 x3, .int .u32 y0, .int .u32 y1, .int .u32 y2, .int .u32 y3]) (by
      obtain ⟨k0, k1, k2, k3, k4, k5, k6, k7, _⟩ := cells8 HR.out
      simp [results, go_sem, k0, k1, k2, k3, k4, k5, k6, k7]) rfl ⟨rfl, HE.out⟩
theorem DRow.zero {w : World} {b off : Nat} {l : Dl} (h : DRow w b off l) {v0 v1 v2 v3 : Int} (hj : l[0]? = some [v0, v1, v2, v3]) :
    w.cell? ⟨b, off, none⟩ = some (.int .u32 v0) ∧ w.cell? ⟨b, off + 1, none⟩ = some (.int .u32 v1) ∧ w.cell? ⟨b, off + 2, none⟩ = some (.int .u32 v2) ∧ w.cell? ⟨b, off + 3, none⟩ = some (.int .u32 v3) := by
  have := h.four hj
  simpa using this
set_option maxRecDepth 100000 in
set_option maxHeartbeats 2000000 in
theorem root_code : ∀ n, RootAt 28 n := by
  intro n
  induction n using Nat.strongRecOn with
  | ind n ih =>
    intro l b off cap w hl h1 hn hc hm hr ht
    have hbw := hr.lt
    have hne : w.heap.size ≠ b := by omega
    by_cases h2 : n = 1
    · subst h2
      obtain ⟨v0, v1, v2, v3, hj, _⟩ := hr.get (j := 0) (by omega)
      have hroot : mroot l = [v0, v1, v2, v3] := by
        rw [root_small (by omega)]
        match l, hl, hj with
        | [x], _, hj => simpa using hj
      rw [hroot, ag4]
      obtain ⟨c0, c1, c2, c3⟩ := hr.zero hj
      clear hroot hj hr hl ih ht
      go_enter Tryd.func28, Tryd.ntmps28
      go_wp2_with fail
      exact bodyPost_ret (v := .agg #[.int .u32 v0, .int .u32 v1, .int .u32 v2, .int .u32 v3]) (by simp [results, go_sem]) rfl ⟨rfl, (Below.refl _ _).alloc (Nat.le_refl _) _⟩
    · have h2 : 2 ≤ n := by omega
      have o1 : Ok4 (mroot (l.take (hf n))) := (hr.ok.take _).mroot
      have o2 : Ok4 (mroot (l.drop (hf n))) := (hr.ok.drop _).mroot
      have o3 : Ok4 (mroot l) := hr.ok.mroot
      have hp := root_two (l := l) (by omega)
      rw [hl] at hp
      rw [hp] at o3 ⊢
      clear hp
      have c2 := fun w ht => pair_code (mroot (l.take (hf n))) (mroot (l.drop (hf n))) w o1 o2 ht
      obtain ⟨x0, x1, x2, x3, e1, _⟩ := ok4 o1
      obtain ⟨y0, y1, y2, y3, e2, _⟩ := ok4 o2
      have c1 := fun w hr ht => halves_step ih l b off cap w hl h2 hn hc hm hr ht e1 e2
      rw [e1, e2] at c2 o3 ⊢
      obtain ⟨z0, z1, z2, z3, e3, _⟩ := ok4 o3
      rw [e3] at c2 ⊢
      rw [ag4, ag4, ag4] at c2
      rw [ag4]
      have i0 : (n == 1) = false := by rw [beq_eq_false_iff_ne]; omega
      have i1 : (n == 0) = false := by rw [beq_eq_false_iff_ne]; omega
      have i2 : ((n : Int) == 1) = false := by rw [beq_eq_false_iff_ne]; omega
      have i3 : ((n : Int) == 0) = false := by rw [beq_eq_false_iff_ne]; omega
      have C1 := Lib.hid c1
      have C2 := Lib.hid c2
      have HR := Lib.hid hr
      have HT := Lib.hid ht
      have HK := Lib.hid ((Kx.nil none w).more (.cells #[.int .u32 0, .int .u32 0, .int .u32 0, .int .u32 0] 24 (0, 0)))
      clear c1 c2 hr ht e1 e2 e3 o1 o2 o3 hl ih
      go_enter Tryd.func28, Tryd.ntmps28
      go_wp2_with fail
      refine (C1.out _ (HR.out.oldn HK.out) (HT.out.oldn HK.out)).mono ?_
      rintro e w1 ⟨rfl, hb⟩
      replace HK := Lib.hid (HK.out.after hb)
      replace HK := Lib.hid (HK.out.more (.cells #[.int .u32 x0, .int .u32 x1, .int .u32 x2, .int .u32 x3, .int .u32 y0, .int .u32 y1, .int .u32 y2, .int .u32 y3] 72 (0, 0)))
      clear hb
      obtain ⟨q0, q1, q2, q3, q4, q5, q6, q7, _⟩ := cells8 (HK.out.at 1 rfl)
      go_wp2_with fail
      refine (C2.out _ (HT.out.oldn HK.out)).mono ?_
      rintro e w2 ⟨rfl, hb⟩
      clear q0 q1 q2 q3 q4 q5 q6 q7
      replace HK := Lib.hid (HK.out.after hb)
      clear hb
      obtain ⟨a0, a1, a2, a3, d0, d1, d2, d3⟩ := cells4 (HK.out.at 0 rfl)
      have HR := Lib.hid (row4 (HK.out.at 0 rfl) (.int .u32 z0) (.int .u32 z1) (.int .u32 z2) (.int .u32 z3))
      have HE := Lib.hid (HK.out.put4 0 rfl (.inr (Nat.le_refl _)) (.int .u32 z0) (.int .u32 z1) (.int .u32 z2) (.int .u32 z3)).be.plain
      go_wp2_with fail
      exact bodyPost_ret (v := .agg #[.int .u32 z0, .int .u32 z1, .int .u32 z2, .int .u32 z3]) (by
        obtain ⟨k0, k1, k2, k3, _⟩ := cells4 HR.out
        simp [results, go_sem, k0, k1, k2, k3]) rfl ⟨rfl, HE.out⟩
end Go.Proofs.YtfbefenagnlnfaaDoor
