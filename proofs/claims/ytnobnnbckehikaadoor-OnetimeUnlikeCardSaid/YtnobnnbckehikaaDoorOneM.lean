/- One-time signatures as plain functions of lists: a message's numbers, chains, keys, signatures, what two give away. -/
import Derived.Test.YtnobnnbckehikaaDoorDls
set_option linter.unusedVariables false
namespace Go.Proofs.YtnobnnbckehikaaDoor

/-- The n lowest digits of a number to the base 16, the highest one first. -/
def hxs : Nat → Nat → List Nat
  | 0, _ => []
  | n + 1, w => (w / 16 ^ n % 16) :: hxs n w
theorem hxs_length : ∀ n w, (hxs n w).length = n
  | 0, _ => rfl
  | n + 1, w => by rw [hxs, List.length_cons, hxs_length n w]
theorem hxs_lt : ∀ n w, ∀ x ∈ hxs n w, x < 16
  | 0, _, x, h => by simp [hxs] at h
  | n + 1, w, x, h => by
    rw [hxs, List.mem_cons] at h
    rcases h with rfl | h
    · exact Nat.mod_lt _ (by omega)
    · exact hxs_lt n w x h
/-- The digits of a message's words; what is left of them to 15 each; a message's numbers. -/
def bse (m : Ws) : List Nat := m.flatMap fun x => hxs 8 x.toNat
def lft (l : List Nat) : Nat := (l.map fun x => 15 - x).sum
def nms (m : Ws) : List Nat := bse m ++ hxs 3 (lft (bse m))
theorem bse4 (a b c d : Int) : bse [a, b, c, d] = hxs 8 a.toNat ++ (hxs 8 b.toNat ++ (hxs 8 c.toNat ++ hxs 8 d.toNat)) := by simp [bse]
theorem bse_length {m : Ws} (h : Ok4 m) : (bse m).length = 32 := by
  obtain ⟨a, b, c, d, rfl, _⟩ := ok4 h
  rw [bse4]; simp [hxs_length]
theorem bse_lt (m : Ws) : ∀ x ∈ bse m, x < 16 := by
  intro x hx
  obtain ⟨w, _, hw⟩ := List.mem_flatMap.1 hx
  exact hxs_lt _ _ _ hw
theorem nms_length {m : Ws} (h : Ok4 m) : (nms m).length = 35 := by
  unfold nms; rw [List.length_append, bse_length h, hxs_length]
theorem nms_lt (m : Ws) : ∀ x ∈ nms m, x < 16 := by
  intro x hx
  rcases List.mem_append.1 hx with h | h
  · exact bse_lt m x h
  · exact hxs_lt _ _ _ h
theorem nms_get (m : Ws) (i : Nat) : (nms m).getD i 0 < 16 := by
  rw [List.getD_eq_getElem?_getD]
  cases hi : (nms m)[i]? with
  | none => simp
  | some x => exact nms_lt m x (List.mem_of_getElem? hi)
theorem lft_cons (x : Nat) (l : List Nat) : lft (x :: l) = 15 - x + lft l := by simp [lft]
theorem lft_append (l k : List Nat) : lft (l ++ k) = lft l + lft k := by simp [lft]
theorem lft_le : ∀ l : List Nat, lft l ≤ 15 * l.length
  | [] => by simp [lft]
  | x :: l => by have := lft_le l; rw [lft_cons, List.length_cons]; omega
theorem lft_msg {m : Ws} (h : Ok4 m) : lft (bse m) ≤ 480 := by have := lft_le (bse m); rw [bse_length h] at this; omega

/-- No number of the one is less than the other's. -/
theorem lft_mono : ∀ (l k : List Nat), l.length = k.length → (∀ i, k.getD i 0 ≤ l.getD i 0) → (∀ x ∈ l, x < 16) → lft l ≤ lft k ∧ (lft l = lft k → l = k)
  | [], [], _, _, _ => ⟨Nat.le_refl _, fun _ => rfl⟩
  | [], _ :: _, hl, _, _ => by simp at hl
  | _ :: _, [], hl, _, _ => by simp at hl
  | x :: l, y :: k, hl, h, h1 => by
    have h0 : y ≤ x := by have := h 0; simpa using this
    have hx : x < 16 := h1 x (by simp)
    obtain ⟨i1, i2⟩ := lft_mono l k (by simpa using hl) (fun i => by have := h (i + 1); simpa using this) (fun z hz => h1 z (by simp [hz]))
    rw [lft_cons, lft_cons]
    refine ⟨by omega, fun e => ?_⟩
    have : x = y := by omega
    rw [this, i2 (by omega)]
theorem hx3_mono {a b : Nat} (ha : a ≤ 480) (hb : b ≤ 480) (h : ∀ i, (hxs 3 b).getD i 0 ≤ (hxs 3 a).getD i 0) : b ≤ a := by
  have h0 := h 0
  have h1 := h 1
  have h2 := h 2
  simp [hxs] at h0 h1 h2
  omega
theorem hx8_inj {a b : Nat} (ha : a < 4294967296) (hb : b < 4294967296) (h : hxs 8 a = hxs 8 b) : a = b := by
  simp [hxs] at h
  omega
theorem bse_inj {a b : Ws} (ha : Ok4 a) (hb : Ok4 b) (h : bse a = bse b) : a = b := by
  obtain ⟨a0, a1, a2, a3, rfl, ⟨k0, l0⟩, ⟨k1, l1⟩, ⟨k2, l2⟩, ⟨k3, l3⟩⟩ := ok4 ha
  obtain ⟨b0, b1, b2, b3, rfl, ⟨m0, n0⟩, ⟨m1, n1⟩, ⟨m2, n2⟩, ⟨m3, n3⟩⟩ := ok4 hb
  rw [bse4, bse4] at h
  obtain ⟨e0, h⟩ := List.append_inj h (by simp [hxs_length])
  obtain ⟨e1, h⟩ := List.append_inj h (by simp [hxs_length])
  obtain ⟨e2, e3⟩ := List.append_inj h (by simp [hxs_length])
  have e0 := hx8_inj (by omega) (by omega) e0
  have e1 := hx8_inj (by omega) (by omega) e1
  have e2 := hx8_inj (by omega) (by omega) e2
  have e3 := hx8_inj (by omega) (by omega) e3
  rw [show a0 = b0 by omega, show a1 = b1 by omega, show a2 = b2 by omega, show a3 = b3 by omega]
theorem getD_left {l k : List Nat} {i : Nat} (h : i < l.length) : (l ++ k).getD i 0 = l.getD i 0 := by
  rw [List.getD_eq_getElem?_getD, List.getD_eq_getElem?_getD, List.getElem?_append_left h]
theorem getD_right {l k : List Nat} (i : Nat) : (l ++ k).getD (l.length + i) 0 = k.getD i 0 := by
  rw [List.getD_eq_getElem?_getD, List.getD_eq_getElem?_getD, List.getElem?_append_right (by omega)]
  congr 2; omega
theorem getD_far {l : List Nat} {i : Nat} (h : l.length ≤ i) : l.getD i 0 = 0 := by
  rw [List.getD_eq_getElem?_getD, List.getElem?_eq_none h]; rfl
/-- Of two unlike messages each has a number that is less than the other one's. -/
theorem nms_below {a b : Ws} (ha : Ok4 a) (hb : Ok4 b) (h : ∀ i, i < 35 → ¬ (nms a).getD i 0 < (nms b).getD i 0) : a = b := by
  have la := bse_length ha
  have lb := bse_length hb
  have g : ∀ i, (bse b).getD i 0 ≤ (bse a).getD i 0 := by
    intro i
    by_cases hi : i < 32
    · have := h i (by omega)
      unfold nms at this
      rw [getD_left (by omega), getD_left (by omega)] at this
      omega
    · rw [getD_far (by omega : (bse b).length ≤ i)]; omega
  have g3 : ∀ i, (hxs 3 (lft (bse b))).getD i 0 ≤ (hxs 3 (lft (bse a))).getD i 0 := by
    intro i
    by_cases hi : i < 3
    · have := h (32 + i) (by omega)
      unfold nms at this
      have e1 := getD_right (l := bse a) (k := hxs 3 (lft (bse a))) i
      have e2 := getD_right (l := bse b) (k := hxs 3 (lft (bse b))) i
      rw [la] at e1
      rw [lb] at e2
      rw [e1, e2] at this
      omega
    · rw [getD_far (by rw [hxs_length]; omega : (hxs 3 (lft (bse b))).length ≤ i)]; omega
  obtain ⟨m1, m2⟩ := lft_mono (bse a) (bse b) (by omega) g (bse_lt a)
  have m3 := hx3_mono (lft_msg ha) (lft_msg hb) g3
  exact bse_inj ha hb (m2 (by omega))
theorem nms_ex {a b : Ws} (ha : Ok4 a) (hb : Ok4 b) (h : a ≠ b) : ∃ i, i < 35 ∧ (nms a).getD i 0 < (nms b).getD i 0 := by
  refine Classical.byContradiction fun k => h (nms_below ha hb fun i hi hl => k ⟨i, hi, hl⟩)

/-- So many steps from a value. -/
def wk : Nat → Ws → Ws
  | 0, x => x
  | n + 1, x => pair (wk n x) [0, 0, 0, 1]
theorem mark_ok : Ok4 [0, 0, 0, 1] := mk4 ⟨by omega, by omega⟩ ⟨by omega, by omega⟩ ⟨by omega, by omega⟩ ⟨by omega, by omega⟩
theorem wk_ok {x : Ws} (h : Ok4 x) : ∀ n, Ok4 (wk n x)
  | 0 => h
  | n + 1 => pair_ok0 (wk_ok h n) mark_ok
theorem wk_wk (x : Ws) (n : Nat) : ∀ m, wk m (wk n x) = wk (m + n) x
  | 0 => by rw [Nat.zero_add]; rfl
  | m + 1 => by rw [wk, wk_wk x n m, show m + 1 + n = (m + n) + 1 by omega, wk]
/-- The beginning of a chain; the public key of ends; of a seed; a signature; the key that is reached. -/
def bgn (seed : Ws) (i : Nat) : Ws := pair seed [(i : Int), 0, 0, 0]
theorem num_ok {i : Nat} (h : i < 4294967296) : Ok4 [(i : Int), 0, 0, 0] := mk4 ⟨by omega, by omega⟩ ⟨by omega, by omega⟩ ⟨by omega, by omega⟩ ⟨by omega, by omega⟩
theorem bgn_ok {seed : Ws} (h : Ok4 seed) {i : Nat} (hi : i < 4294967296) : Ok4 (bgn seed i) := pair_ok0 h (num_ok hi)
def pofs : Ws → Dl → Ws
  | k, [] => k
  | k, e :: r => pofs (pair k e) r
def pof (ends : Dl) : Ws := pofs [35, 0, 0, 0] ends
theorem pofs_ok : ∀ (l : Dl) {k : Ws}, Ok4 k → Oks l → Ok4 (pofs k l)
  | [], _, h, _ => h
  | e :: r, _, h, o => pofs_ok r (pair_ok0 h (o e (by simp))) (fun d hd => o d (by simp [hd]))
theorem k35_ok : Ok4 [35, 0, 0, 0] := mk4 ⟨by omega, by omega⟩ ⟨by omega, by omega⟩ ⟨by omega, by omega⟩ ⟨by omega, by omega⟩
theorem pof_ok {l : Dl} (h : Oks l) : Ok4 (pof l) := pofs_ok l k35_ok h
theorem pofs_snoc (x : Ws) : ∀ (l : Dl) (k : Ws), pofs k (l ++ [x]) = pair (pofs k l) x
  | [], _ => rfl
  | e :: r, k => by rw [List.cons_append, pofs, pofs_snoc x r, pofs]
/-- A list of what a function says of 0, 1, .. -/
def upto (f : Nat → Ws) (n : Nat) : Dl := (List.range n).map f
theorem upto_length (f : Nat → Ws) (n : Nat) : (upto f n).length = n := by simp [upto]
theorem upto_succ (f : Nat → Ws) (n : Nat) : upto f (n + 1) = upto f n ++ [f n] := by simp [upto, List.range_succ]
theorem upto_get (f : Nat → Ws) {n i : Nat} (h : i < n) : (upto f n)[i]? = some (f i) := by simp [upto, h]
theorem upto_getD (f : Nat → Ws) {n i : Nat} (h : i < n) : (upto f n).getD i [] = f i := by rw [List.getD_eq_getElem?_getD, upto_get f h]; rfl
theorem upto_ok {f : Nat → Ws} {n : Nat} (h : ∀ i, i < n → Ok4 (f i)) : Oks (upto f n) := by
  intro d hd
  obtain ⟨i, hi, rfl⟩ := List.mem_map.1 hd
  exact h i (by simpa using hi)
theorem upto_congr {f g : Nat → Ws} {n : Nat} (h : ∀ i, i < n → f i = g i) : upto f n = upto g n := by
  unfold upto
  exact List.map_congr_left fun i hi => h i (by simpa using hi)
def ens (seed : Ws) (i : Nat) : Ws := wk 15 (bgn seed i)
def pubk (seed : Ws) : Ws := pof (upto (ens seed) 35)
def sgi (seed msg : Ws) (i : Nat) : Ws := wk ((nms msg).getD i 0) (bgn seed i)
def sgn (seed msg : Ws) : Dl := upto (sgi seed msg) 35
def rci (msg : Ws) (s : Dl) (i : Nat) : Ws := wk (15 - (nms msg).getD i 0) (s.getD i [])
def rch (msg : Ws) (s : Dl) : Ws := pof (upto (rci msg s) 35)
theorem ens_ok {seed : Ws} (h : Ok4 seed) {i : Nat} (hi : i < 35) : Ok4 (ens seed i) := wk_ok (bgn_ok h (by omega)) 15
theorem pubk_ok {seed : Ws} (h : Ok4 seed) : Ok4 (pubk seed) := pof_ok (upto_ok fun i hi => ens_ok h hi)
theorem sgi_ok {seed msg : Ws} (h : Ok4 seed) {i : Nat} (hi : i < 35) : Ok4 (sgi seed msg i) := wk_ok (bgn_ok h (by omega)) _
theorem sgn_oks {seed msg : Ws} (h : Ok4 seed) : Oks (sgn seed msg) := upto_ok fun i hi => sgi_ok h hi
theorem sgn_length (seed msg : Ws) : (sgn seed msg).length = 35 := upto_length _ _
theorem rci_ok {msg : Ws} {s : Dl} (h : Oks s) (hl : s.length = 35) {i : Nat} (hi : i < 35) : Ok4 (rci msg s i) := by
  refine wk_ok ?_ _
  rw [List.getD_eq_getElem?_getD, List.getElem?_eq_getElem (by omega)]
  exact h _ (List.getElem_mem _)
theorem rch_ok {msg : Ws} {s : Dl} (h : Oks s) (hl : s.length = 35) : Ok4 (rch msg s) := pof_ok (upto_ok fun i hi => rci_ok h hl hi)
/-- A signature by a key reaches its public key. -/
theorem rch_sgn (seed msg : Ws) : rch msg (sgn seed msg) = pubk seed := by
  unfold rch pubk
  rw [upto_congr (g := ens seed)]
  intro i hi
  unfold rci sgn ens
  rw [upto_getD _ hi]
  unfold sgi
  rw [wk_wk]
  have := nms_get msg i
  congr 1; omega
/-- What two signatures give away. -/
def hit (a b : Ws) (s t : Dl) (i : Nat) : Bool := decide ((nms b).getD i 0 < (nms a).getD i 0) && decide (wk ((nms a).getD i 0 - (nms b).getD i 0) (t.getD i []) = s.getD i [])
def ahd (a b : Ws) (s t : Dl) : Option Nat := (List.range 35).find? (hit a b s t)
theorem ahd_some {a b : Ws} {s t : Dl} {i : Nat} (hi : i < 35) (h0 : ∀ j, j < i → hit a b s t j = false) (h1 : hit a b s t i = true) : ahd a b s t = some i := by
  unfold ahd
  rw [List.find?_range_eq_some]
  exact ⟨h1, by simpa using hi, fun j hj => by rw [h0 j hj]; rfl⟩
theorem ahd_none {a b : Ws} {s t : Dl} (h0 : ∀ j, j < 35 → hit a b s t j = false) : ahd a b s t = none := by
  unfold ahd
  rw [List.find?_eq_none]
  intro j hj
  rw [h0 j (by simpa using hj)]
  simp
theorem ahd_inv {a b : Ws} {s t : Dl} {i : Nat} (h : ahd a b s t = some i) : i < 35 ∧ hit a b s t i = true := by
  unfold ahd at h
  exact ⟨by simpa using List.mem_of_find?_eq_some h, List.find?_some h⟩
theorem hit_less {a b : Ws} {s t : Dl} {i : Nat} (h : hit a b s t i = true) : (nms b).getD i 0 < (nms a).getD i 0 ∧ wk ((nms a).getD i 0 - (nms b).getD i 0) (t.getD i []) = s.getD i [] := by
  simpa [hit] using h
theorem hit_sgn {seed a b : Ws} {i : Nat} (hi : i < 35) (h : (nms b).getD i 0 < (nms a).getD i 0) : hit a b (sgn seed a) (sgn seed b) i = true := by
  unfold hit sgn
  rw [upto_getD _ hi, upto_getD _ hi]
  unfold sgi
  rw [wk_wk, show (nms a).getD i 0 - (nms b).getD i 0 + (nms b).getD i 0 = (nms a).getD i 0 by omega]
  rw [decide_eq_true h, decide_eq_true rfl]; rfl
theorem ahd_sgn {seed a b : Ws} (ha : Ok4 a) (hb : Ok4 b) (h : a ≠ b) : ∃ i, ahd a b (sgn seed a) (sgn seed b) = some i ∧ i < 35 ∧ (nms b).getD i 0 < (nms a).getD i 0 ∧ wk ((nms a).getD i 0 - (nms b).getD i 0) ((sgn seed b).getD i []) = (sgn seed a).getD i [] := by
  obtain ⟨i, hi, hl⟩ := nms_ex hb ha (fun e => h e.symm)
  have hh := hit_sgn (seed := seed) hi hl
  cases e : ahd a b (sgn seed a) (sgn seed b) with
  | none =>
    have := List.find?_eq_none.1 e i (by simpa using hi)
    exact absurd hh this
  | some j =>
    obtain ⟨h1, h2⟩ := ahd_inv e
    exact ⟨j, rfl, h1, hit_less h2⟩
end Go.Proofs.YtnobnnbckehikaaDoor
