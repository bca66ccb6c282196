/- Mixing of states as plain functions on lists of eight words: no program in sight. -/
import Derived.Test.YtfbefenagnlnfaaDoorTurns
set_option linter.unusedVariables false
namespace Go.Proofs.YtfbefenagnlnfaaDoor
open Go

/-- The exclusive or of two words. -/
def xr (a b : Int) : Int := bits .xor .u32 a b
theorem xr_nat (a b : Int) (ha : W32 a) (hb : W32 b) : xr a b = ((a.toNat ^^^ b.toNat : Nat) : Int) :=
  xor_u32 a b ha.1 (by have := ha.2; omega) hb.1 (by have := hb.2; omega)
theorem xr_W {a b : Int} (ha : W32 a) (hb : W32 b) : W32 (xr a b) := by
  rw [xr_nat a b ha hb]
  have h1 := ha.2
  have h2 := hb.2
  have := Nat.xor_lt_two_pow (n := 32) (show a.toNat < 2 ^ 32 by omega) (show b.toNat < 2 ^ 32 by omega)
  unfold W32
  omega
theorem xr_xr (a b : Int) (ha : W32 a) (hb : W32 b) : xr (xr a b) b = a := by
  rw [xr_nat _ b (xr_W ha hb) hb, xr_nat a b ha hb, Int.toNat_natCast, Nat.xor_assoc, Nat.xor_self, Nat.xor_zero, Int.toNat_of_nonneg ha.1]
theorem xr_comm (a b : Int) (ha : W32 a) (hb : W32 b) : xr a b = xr b a := by
  rw [xr_nat a b ha hb, xr_nat b a hb ha, Nat.xor_comm]
theorem xr_zero (a : Int) (ha : W32 a) : xr 0 a = a := by
  rw [xr_nat 0 a ⟨by omega, by omega⟩ ha]
  have := ha.1
  simp
  omega

theorem tn_back (a n : Int) (ha : W32 a) : tn (tn a n) (-n) = a := by
  rw [tn_tn a n (-n) 0 ha (by omega), tn_zero a 0 ha (by simp)]
theorem tn_back' (a n : Int) (ha : W32 a) : tn (tn a (-n)) n = a := by
  rw [tn_tn a (-n) n 0 ha (by omega), tn_zero a 0 ha (by simp)]

/-- A sum, a difference of words. -/
def sm (a b : Int) : Int := (a + b) % 4294967296
def df (a b : Int) : Int := (a + -b % 4294967296) % 4294967296
theorem sm_W (a b : Int) : W32 (sm a b) := by unfold W32 sm; omega
theorem df_W (a b : Int) : W32 (df a b) := by unfold W32 df; omega
theorem df_sm {a b : Int} (ha : W32 a) : df (sm a b) b = a := by
  have h1 := ha.1
  have h2 := ha.2
  unfold df sm; omega
theorem sm_df {a b : Int} (ha : W32 a) : sm (df a b) b = a := by
  have h1 := ha.1
  have h2 := ha.2
  unfold df sm; omega

/-- What round r adds. -/
def gr (r : Int) : Int := 2654435769 * (r + 1) % 4294967296
/-- The word that is turned. -/
def qn (n a b : Int) : Int := tn (xr b (sm a b)) n
/-- .. and back. -/
def un (n a b : Int) : Int := xr (tn b (-n)) a

abbrev Ws := List Int
def Ok8 (l : Ws) : Prop := l.length = 8 ∧ ∀ x ∈ l, W32 x

def rnd (r : Int) : Ws → Ws
  | [a0, a1, a2, a3, b0, b1, b2, b3] => [sm a3 b3, qn 7 (sm a0 (gr r)) b0, qn 9 a1 b1, qn 13 a2 b2, qn 18 a3 b3, sm (sm a0 (gr r)) b0, sm a1 b1, sm a2 b2]
  | l => l
def unr (r : Int) : Ws → Ws
  | [c3, d0, d1, d2, d3, c0, c1, c2] => [df (df c0 (un 7 c0 d0)) (gr r), df c1 (un 9 c1 d1), df c2 (un 13 c2 d2), df c3 (un 18 c3 d3), un 7 c0 d0, un 9 c1 d1, un 13 c2 d2, un 18 c3 d3]
  | l => l
theorem ok8 {l : Ws} (h : Ok8 l) : ∃ a0 a1 a2 a3 b0 b1 b2 b3, l = [a0, a1, a2, a3, b0, b1, b2, b3] ∧ W32 a0 ∧ W32 a1 ∧ W32 a2 ∧ W32 a3 ∧ W32 b0 ∧ W32 b1 ∧ W32 b2 ∧ W32 b3 := by
  obtain ⟨hl, hw⟩ := h
  match l, hl with
  | [a0, a1, a2, a3, b0, b1, b2, b3], _ => exact ⟨a0, a1, a2, a3, b0, b1, b2, b3, rfl, hw _ (by simp), hw _ (by simp), hw _ (by simp), hw _ (by simp), hw _ (by simp), hw _ (by simp), hw _ (by simp), hw _ (by simp)⟩
theorem mk8 {a0 a1 a2 a3 b0 b1 b2 b3 : Int} (h0 : W32 a0) (h1 : W32 a1) (h2 : W32 a2) (h3 : W32 a3) (g0 : W32 b0) (g1 : W32 b1) (g2 : W32 b2) (g3 : W32 b3) : Ok8 [a0, a1, a2, a3, b0, b1, b2, b3] := by
  refine ⟨rfl, ?_⟩
  intro x hx
  simp only [List.mem_cons, List.not_mem_nil, or_false] at hx
  rcases hx with rfl | rfl | rfl | rfl | rfl | rfl | rfl | rfl <;> assumption
theorem qn_W {n a b : Int} (hb : W32 b) : W32 (qn n a b) := tn_W n (xr_W hb (sm_W a b))
theorem un_W {n a b : Int} (ha : W32 a) (hb : W32 b) : W32 (un n a b) := xr_W (tn_W (-n) hb) ha
theorem un_qn {n a b : Int} (hb : W32 b) : un n (sm a b) (qn n a b) = b := by
  unfold un qn
  rw [tn_back _ n (xr_W hb (sm_W a b)), xr_xr b (sm a b) hb (sm_W a b)]
theorem qn_un {n c d : Int} (hc : W32 c) (hd : W32 d) : qn n (df c (un n c d)) (un n c d) = d := by
  unfold qn
  rw [sm_df hc]
  unfold un
  rw [xr_xr _ c (tn_W (-n) hd) hc, tn_back' d n hd]
theorem rnd_ok {r : Int} {l : Ws} (h : Ok8 l) : Ok8 (rnd r l) := by
  obtain ⟨a0, a1, a2, a3, b0, b1, b2, b3, rfl, h0, h1, h2, h3, g0, g1, g2, g3⟩ := ok8 h
  exact mk8 (sm_W _ _) (qn_W g0) (qn_W g1) (qn_W g2) (qn_W g3) (sm_W _ _) (sm_W _ _) (sm_W _ _)
theorem unr_ok {r : Int} {l : Ws} (h : Ok8 l) : Ok8 (unr r l) := by
  obtain ⟨a0, a1, a2, a3, b0, b1, b2, b3, rfl, h0, h1, h2, h3, g0, g1, g2, g3⟩ := ok8 h
  exact mk8 (df_W _ _) (df_W _ _) (df_W _ _) (df_W _ _) (un_W g1 h1) (un_W g2 h2) (un_W g3 h3) (un_W h0 g0)
theorem unr_rnd {r : Int} {l : Ws} (h : Ok8 l) : unr r (rnd r l) = l := by
  obtain ⟨a0, a1, a2, a3, b0, b1, b2, b3, rfl, h0, h1, h2, h3, g0, g1, g2, g3⟩ := ok8 h
  simp only [rnd, unr, un_qn g0, un_qn g1, un_qn g2, un_qn g3, df_sm h0, df_sm h1, df_sm h2, df_sm h3, df_sm (sm_W a0 (gr r))]
theorem rnd_unr {r : Int} {l : Ws} (h : Ok8 l) : rnd r (unr r l) = l := by
  obtain ⟨c3, d0, d1, d2, d3, c0, c1, c2, rfl, g3, h0, h1, h2, h3, g0, g1, g2⟩ := ok8 h
  simp only [rnd, unr, sm_df (df_W c0 (un 7 c0 d0)), sm_df g0, sm_df g1, sm_df g2, sm_df g3, qn_un g0 h0, qn_un g1 h1, qn_un g2 h2, qn_un g3 h3]

/-- The first n rounds; n rounds undone, from round n - 1 down to round 0. -/
def mixN : Nat → Ws → Ws
  | 0, l => l
  | n + 1, l => rnd n (mixN n l)
def unN : Nat → Ws → Ws
  | 0, l => l
  | n + 1, l => unN n (unr n l)
def mix (l : Ws) : Ws := mixN 8 l
def unmix (l : Ws) : Ws := unN 8 l
theorem mixN_ok {l : Ws} (h : Ok8 l) : ∀ n, Ok8 (mixN n l)
  | 0 => h
  | n + 1 => rnd_ok (mixN_ok h n)
theorem unN_ok : ∀ (n : Nat) {l : Ws}, Ok8 l → Ok8 (unN n l)
  | 0, _, h => h
  | n + 1, _, h => unN_ok n (unr_ok h)
theorem unN_mixN : ∀ (n : Nat) {l : Ws}, Ok8 l → unN n (mixN n l) = l
  | 0, _, _ => rfl
  | n + 1, l, h => by rw [mixN, unN, unr_rnd (mixN_ok h n), unN_mixN n h]
theorem mixN_unN : ∀ (n : Nat) {l : Ws}, Ok8 l → mixN n (unN n l) = l
  | 0, _, _ => rfl
  | n + 1, l, h => by rw [mixN, unN, mixN_unN n (unr_ok h), rnd_unr h]
theorem mix_ok {l : Ws} (h : Ok8 l) : Ok8 (mix l) := mixN_ok h 8
theorem unmix_ok {l : Ws} (h : Ok8 l) : Ok8 (unmix l) := unN_ok 8 h
theorem unmix_mix {l : Ws} (h : Ok8 l) : unmix (mix l) = l := unN_mixN 8 h
theorem mix_unmix {l : Ws} (h : Ok8 l) : mix (unmix l) = l := mixN_unN 8 h
theorem mix_inj {l m : Ws} (h : Ok8 l) (k : Ok8 m) : mix l = mix m ↔ l = m :=
  ⟨fun e => by rw [← unmix_mix h, e, unmix_mix k], fun e => by rw [e]⟩

/-- A state, a digest as a value. -/
def ag (l : Ws) : Value := .agg (l.map (Value.int .u32)).toArray

/-- A block is taken in. -/
def taken (l b : Ws) : Ws :=
  match l, b with
  | [a0, a1, a2, a3, b0, b1, b2, b3], [c0, c1, c2, c3] => mix [xr a0 c0, xr a1 c1, xr a2 c2, xr a3 c3, b0, b1, b2, b3]
  | l, _ => l
def Ok4 (l : Ws) : Prop := l.length = 4 ∧ ∀ x ∈ l, W32 x
theorem ok4 {l : Ws} (h : Ok4 l) : ∃ a0 a1 a2 a3, l = [a0, a1, a2, a3] ∧ W32 a0 ∧ W32 a1 ∧ W32 a2 ∧ W32 a3 := by
  obtain ⟨hl, hw⟩ := h
  match l, hl with
  | [a0, a1, a2, a3], _ => exact ⟨a0, a1, a2, a3, rfl, hw _ (by simp), hw _ (by simp), hw _ (by simp), hw _ (by simp)⟩
theorem mk4 {a0 a1 a2 a3 : Int} (h0 : W32 a0) (h1 : W32 a1) (h2 : W32 a2) (h3 : W32 a3) : Ok4 [a0, a1, a2, a3] := by
  refine ⟨rfl, ?_⟩
  intro x hx
  simp only [List.mem_cons, List.not_mem_nil, or_false] at hx
  rcases hx with rfl | rfl | rfl | rfl <;> assumption
theorem taken_ok {l b : Ws} (h : Ok8 l) (k : Ok4 b) : Ok8 (taken l b) := by
  obtain ⟨a0, a1, a2, a3, b0, b1, b2, b3, rfl, h0, h1, h2, h3, g0, g1, g2, g3⟩ := ok8 h
  obtain ⟨c0, c1, c2, c3, rfl, k0, k1, k2, k3⟩ := ok4 k
  exact mix_ok (mk8 (xr_W h0 k0) (xr_W h1 k1) (xr_W h2 k2) (xr_W h3 k3) g0 g1 g2 g3)
theorem take4_ok {l : Ws} (h : Ok8 l) : Ok4 (l.take 4) := by
  obtain ⟨a0, a1, a2, a3, b0, b1, b2, b3, rfl, h0, h1, h2, h3, g0, g1, g2, g3⟩ := ok8 h
  exact mk4 h0 h1 h2 h3
/-- The digest of a pair. -/
def pair (a b : Ws) : Ws := (taken (taken [2, 0, 0, 0, 0, 0, 0, 0] a) b).take 4
/-- Blocks taken in, one behind the other: the words of each four. -/
def tkAll : Ws → List Int → Ws
  | s, a :: b :: c :: d :: r => tkAll (taken s [a, b, c, d]) r
  | s, _ => s
end Go.Proofs.YtfbefenagnlnfaaDoor
