/- One-time signatures as plain functions of lists: a message's numbers, chains, keys, signatures, what two give away. A chain's beginning, steps along it: the contracts of onetime's beginning, walk and its closure, and of the reference's Begin and Walk. The public key of ends: the contract of onetime's publicOf. The public key of ends: the contract of the reference's Of. The public key of a seed: the contracts of onetime's Public and of the reference's. The public key of a seed: the contract of the reference's Public. -/
import Derived.Test.YtfbefenagnlnfaaDoorDls
import Derived.Test.YtfbefenagnlnfaaDoorOwnE
import Derived.Test.YtfbefenagnlnfaaDoorDigQ
import Derived.Laws.IdiomCopy
import Derived.Deep.RegionLaw
import Derived.OwnWalk
import Derived.Deep.WholeRow
set_option linter.unusedVariables false
namespace Go.Proofs.YtfbefenagnlnfaaDoor

/-- The n lowest digits of a number to the base 16, the highest one first. -/
def hxs : Nat → Nat → List Nat
  | 0, _ => []
  | n + 1, w => (w / 16 ^ n % 16) :: hxs n w
theorem hxs_length : ∀ n w, (hxs n w).length = n
  | 0, _ => rfl
  | n + 1, w => by rw [hxs, List.length_cons, hxs_length n w]
theorem hxs_lt : ∀ n w, ∀ x ∈ hxs n w, x < 16
  | 0, _, x, h => by simp [hxs] at h
  | n + 1, w, x, h => by
    rw [hxs, List.mem_cons] at h
    rcases h with rfl | h
    · exact Nat.mod_lt _ (by omega)
    · exact hxs_lt n w x h
/-- The digits of a message's words; what is left of them to 15 each; a message's numbers. -/
def bse (m : Ws) : List Nat := m.flatMap fun x => hxs 8 x.toNat
def lft (l : List Nat) : Nat := (l.map fun x => 15 - x).sum
def nms (m : Ws) : List Nat := bse m ++ hxs 3 (lft (bse m))
theorem bse4 (a b c d : Int) : bse [a, b, c, d] = hxs 8 a.toNat ++ (hxs 8 b.toNat ++ (hxs 8 c.toNat ++ hxs 8 d.toNat)) := by simp [bse]
theorem bse_length {m : Ws} (h : Ok4 m) : (bse m).length = 32 := by
  obtain ⟨a, b, c, d, rfl, _⟩ := ok4 h
  rw [bse4]; simp [hxs_length]
theorem bse_lt (m : Ws) : ∀ x ∈ bse m, x < 16 := by
  intro x hx
  obtain ⟨w, _, hw⟩ := List.mem_flatMap.1 hx
  exact hxs_lt _ _ _ hw
theorem nms_length {m : Ws} (h : Ok4 m) : (nms m).length = 35 := by
  unfold nms; rw [List.length_append, bse_length h, hxs_length]
theorem nms_lt (m : Ws) : ∀ x ∈ nms m, x < 16 := by
  intro x hx
  rcases List.mem_append.1 hx with h | h
  · exact bse_lt m x h
  · exact hxs_lt _ _ _ h
theorem nms_get (m : Ws) (i : Nat) : (nms m).getD i 0 < 16 := by
  rw [List.getD_eq_getElem?_getD]
  cases hi : (nms m)[i]? with
  | none => simp
  | some x => exact nms_lt m x (List.mem_of_getElem? hi)
theorem lft_cons (x : Nat) (l : List Nat) : lft (x :: l) = 15 - x + lft l := by simp [lft]
theorem lft_append (l k : List Nat) : lft (l ++ k) = lft l + lft k := by simp [lft]
theorem lft_le : ∀ l : List Nat, lft l ≤ 15 * l.length
  | [] => by simp [lft]
  | x :: l => by have := lft_le l; rw [lft_cons, List.length_cons]; omega
theorem lft_msg {m : Ws} (h : Ok4 m) : lft (bse m) ≤ 480 := by have := lft_le (bse m); rw [bse_length h] at this; omega

/-- No number of the one is less than the other's. -/
theorem lft_mono : ∀ (l k : List Nat), l.length = k.length → (∀ i, k.getD i 0 ≤ l.getD i 0) → (∀ x ∈ l, x < 16) → lft l ≤ lft k ∧ (lft l = lft k → l = k)
  | [], [], _, _, _ => ⟨Nat.le_refl _, fun _ => rfl⟩
  | [], _ :: _, hl, _, _ => by simp at hl
  | _ :: _, [], hl, _, _ => by simp at hl
  | x :: l, y :: k, hl, h, h1 => by
    have h0 : y ≤ x := by have := h 0; simpa using this
    have hx : x < 16 := h1 x (by simp)
    obtain ⟨i1, i2⟩ := lft_mono l k (by simpa using hl) (fun i => by have := h (i + 1); simpa using this) (fun z hz => h1 z (by simp [hz]))
    rw [lft_cons, lft_cons]
    refine ⟨by omega, fun e => ?_⟩
    have : x = y := by omega
    rw [this, i2 (by omega)]
theorem hx3_mono {a b : Nat} (ha : a ≤ 480) (hb : b ≤ 480) (h : ∀ i, (hxs 3 b).getD i 0 ≤ (hxs 3 a).getD i 0) : b ≤ a := by
  have h0 := h 0
  have h1 := h 1
  have h2 := h 2
  simp [hxs] at h0 h1 h2
  omega
theorem hx8_inj {a b : Nat} (ha : a < 4294967296) (hb : b < 4294967296) (h : hxs 8 a = hxs 8 b) : a = b := by
  simp [hxs] at h
  omega
theorem bse_inj {a b : Ws} (ha : Ok4 a) (hb : Ok4 b) (h : bse a = bse b) : a = b := by
  obtain ⟨a0, a1, a2, a3, rfl, ⟨k0, l0⟩, ⟨k1, l1⟩, ⟨k2, l2⟩, ⟨k3, l3⟩⟩ := ok4 ha
  obtain ⟨b0, b1, b2, b3, rfl, ⟨m0, n0⟩, ⟨m1, n1⟩, ⟨m2, n2⟩, ⟨m3, n3⟩⟩ := ok4 hb
  rw [bse4, bse4] at h
  obtain ⟨e0, h⟩ := List.append_inj h (by simp [hxs_length])
  obtain ⟨e1, h⟩ := List.append_inj h (by simp [hxs_length])
  obtain ⟨e2, e3⟩ := List.append_inj h (by simp [hxs_length])
  have e0 := hx8_inj (by omega) (by omega) e0
  have e1 := hx8_inj (by omega) (by omega) e1
  have e2 := hx8_inj (by omega) (by omega) e2
  have e3 := hx8_inj (by omega) (by omega) e3
  rw [show a0 = b0 by omega, show a1 = b1 by omega, show a2 = b2 by omega, show a3 = b3 by omega]
theorem getD_left {l k : List Nat} {i : Nat} (h : i < l.length) : (l ++ k).getD i 0 = l.getD i 0 := by
  rw [List.getD_eq_getElem?_getD, List.getD_eq_getElem?_getD, List.getElem?_append_left h]
theorem getD_right {l k : List Nat} (i : Nat) : (l ++ k).getD (l.length + i) 0 = k.getD i 0 := by
  rw [List.getD_eq_getElem?_getD, List.getD_eq_getElem?_getD, List.getElem?_append_right (by omega)]
  congr 2; omega
theorem getD_far {l : List Nat} {i : Nat} (h : l.length ≤ i) : l.getD i 0 = 0 := by
  rw [List.getD_eq_getElem?_getD, List.getElem?_eq_none h]; rfl
/-- Of two unlike messages each has a number that is less than the other one's. -/
theorem nms_below {a b : Ws} (ha : Ok4 a) (hb : Ok4 b) (h : ∀ i, i < 35 → ¬ (nms a).getD i 0 < (nms b).getD i 0) : a = b := by
  have la := bse_length ha
  have lb := bse_length hb
  have g : ∀ i, (bse b).getD i 0 ≤ (bse a).getD i 0 := by
    intro i
    by_cases hi : i < 32
    · have := h i (by omega)
      unfold nms at this
      rw [getD_left (by omega), getD_left (by omega)] at this
      omega
    · rw [getD_far (by omega : (bse b).length ≤ i)]; omega
  have g3 : ∀ i, (hxs 3 (lft (bse b))).getD i 0 ≤ (hxs 3 (lft (bse a))).getD i 0 := by
    intro i
    by_cases hi : i < 3
    · have := h (32 + i) (by omega)
      unfold nms at this
      have e1 := getD_right (l := bse a) (k := hxs 3 (lft (bse a))) i
      have e2 := getD_right (l := bse b) (k := hxs 3 (lft (bse b))) i
      rw [la] at e1
      rw [lb] at e2
      rw [e1, e2] at this
      omega
    · rw [getD_far (by rw [hxs_length]; omega : (hxs 3 (lft (bse b))).length ≤ i)]; omega
  obtain ⟨m1, m2⟩ := lft_mono (bse a) (bse b) (by omega) g (bse_lt a)
  have m3 := hx3_mono (lft_msg ha) (lft_msg hb) g3
  exact bse_inj ha hb (m2 (by omega))
theorem nms_ex {a b : Ws} (ha : Ok4 a) (hb : Ok4 b) (h : a ≠ b) : ∃ i, i < 35 ∧ (nms a).getD i 0 < (nms b).getD i 0 := by
  refine Classical.byContradiction fun k => h (nms_below ha hb fun i hi hl => k ⟨i, hi, hl⟩)

/-- So many steps from a value. -/
def wk : Nat → Ws → Ws
  | 0, x => x
  | n + 1, x => pair (wk n x) [0, 0, 0, 1]
theorem mark_ok : Ok4 [0, 0, 0, 1] := mk4 ⟨by omega, by omega⟩ ⟨by omega, by omega⟩ ⟨by omega, by omega⟩ ⟨by omega, by omega⟩
theorem wk_ok {x : Ws} (h : Ok4 x) : ∀ n, Ok4 (wk n x)
  | 0 => h
  | n + 1 => pair_ok0 (wk_ok h n) mark_ok
theorem wk_wk (x : Ws) (n : Nat) : ∀ m, wk m (wk n x) = wk (m + n) x
  | 0 => by rw [Nat.zero_add]; rfl
  | m + 1 => by rw [wk, wk_wk x n m, show m + 1 + n = (m + n) + 1 by omega, wk]
/-- The beginning of a chain; the public key of ends; of a seed; a signature; the key that is reached. -/
def bgn (seed : Ws) (i : Nat) : Ws := pair seed [(i : Int), 0, 0, 0]
theorem num_ok {i : Nat} (h : i < 4294967296) : Ok4 [(i : Int), 0, 0, 0] := mk4 ⟨by omega, by omega⟩ ⟨by omega, by omega⟩ ⟨by omega, by omega⟩ ⟨by omega, by omega⟩
theorem bgn_ok {seed : Ws} (h : Ok4 seed) {i : Nat} (hi : i < 4294967296) : Ok4 (bgn seed i) := pair_ok0 h (num_ok hi)
def pofs : Ws → Dl → Ws
  | k, [] => k
  | k, e :: r => pofs (pair k e) r
def pof (ends : Dl) : Ws := pofs [35, 0, 0, 0] ends
theorem pofs_ok : ∀ (l : Dl) {k : Ws}, Ok4 k → Oks l → Ok4 (pofs k l)
  | [], _, h, _ => h
  | e :: r, _, h, o => pofs_ok r (pair_ok0 h (o e (by simp))) (fun d hd => o d (by simp [hd]))
theorem k35_ok : Ok4 [35, 0, 0, 0] := mk4 ⟨by omega, by omega⟩ ⟨by omega, by omega⟩ ⟨by omega, by omega⟩ ⟨by omega, by omega⟩
theorem pof_ok {l : Dl} (h : Oks l) : Ok4 (pof l) := pofs_ok l k35_ok h
theorem pofs_snoc (x : Ws) : ∀ (l : Dl) (k : Ws), pofs k (l ++ [x]) = pair (pofs k l) x
  | [], _ => rfl
  | e :: r, k => by rw [List.cons_append, pofs, pofs_snoc x r, pofs]
/-- A list of what a function says of 0, 1, .. -/
def upto (f : Nat → Ws) (n : Nat) : Dl := (List.range n).map f
theorem upto_length (f : Nat → Ws) (n : Nat) : (upto f n).length = n := by simp [upto]
theorem upto_succ (f : Nat → Ws) (n : Nat) : upto f (n + 1) = upto f n ++ [f n] := by simp [upto, List.range_succ]
theorem upto_get (f : Nat → Ws) {n i : Nat} (h : i < n) : (upto f n)[i]? = some (f i) := by simp [upto, h]
theorem upto_getD (f : Nat → Ws) {n i : Nat} (h : i < n) : (upto f n).getD i [] = f i := by rw [List.getD_eq_getElem?_getD, upto_get f h]; rfl
theorem upto_ok {f : Nat → Ws} {n : Nat} (h : ∀ i, i < n → Ok4 (f i)) : Oks (upto f n) := by
  intro d hd
  obtain ⟨i, hi, rfl⟩ := List.mem_map.1 hd
  exact h i (by simpa using hi)
theorem upto_congr {f g : Nat → Ws} {n : Nat} (h : ∀ i, i < n → f i = g i) : upto f n = upto g n := by
  unfold upto
  exact List.map_congr_left fun i hi => h i (by simpa using hi)
def ens (seed : Ws) (i : Nat) : Ws := wk 15 (bgn seed i)
def pubk (seed : Ws) : Ws := pof (upto (ens seed) 35)
def sgi (seed msg : Ws) (i : Nat) : Ws := wk ((nms msg).getD i 0) (bgn seed i)
def sgn (seed msg : Ws) : Dl := upto (sgi seed msg) 35
def rci (msg : Ws) (s : Dl) (i : Nat) : Ws := wk (15 - (nms msg).getD i 0) (s.getD i [])
def rch (msg : Ws) (s : Dl) : Ws := pof (upto (rci msg s) 35)
theorem ens_ok {seed : Ws} (h : Ok4 seed) {i : Nat} (hi : i < 35) : Ok4 (ens seed i) := wk_ok (bgn_ok h (by omega)) 15
theorem pubk_ok {seed : Ws} (h : Ok4 seed) : Ok4 (pubk seed) := pof_ok (upto_ok fun i hi => ens_ok h hi)
theorem sgi_ok {seed msg : Ws} (h : Ok4 seed) {i : Nat} (hi : i < 35) : Ok4 (sgi seed msg i) := wk_ok (bgn_ok h (by omega)) _
theorem sgn_oks {seed msg : Ws} (h : Ok4 seed) : Oks (sgn seed msg) := upto_ok fun i hi => sgi_ok h hi
theorem sgn_length (seed msg : Ws) : (sgn seed msg).length = 35 := upto_length _ _
theorem rci_ok {msg : Ws} {s : Dl} (h : Oks s) (hl : s.length = 35) {i : Nat} (hi : i < 35) : Ok4 (rci msg s i) := by
  refine wk_ok ?_ _
  rw [List.getD_eq_getElem?_getD, List.getElem?_eq_getElem (by omega)]
  exact h _ (List.getElem_mem _)
theorem rch_ok {msg : Ws} {s : Dl} (h : Oks s) (hl : s.length = 35) : Ok4 (rch msg s) := pof_ok (upto_ok fun i hi => rci_ok h hl hi)
/-- A signature by a key reaches its public key. -/
theorem rch_sgn (seed msg : Ws) : rch msg (sgn seed msg) = pubk seed := by
  unfold rch pubk
  rw [upto_congr (g := ens seed)]
  intro i hi
  unfold rci sgn ens
  rw [upto_getD _ hi]
  unfold sgi
  rw [wk_wk]
  have := nms_get msg i
  congr 1; omega
/-- What two signatures give away. -/
def hit (a b : Ws) (s t : Dl) (i : Nat) : Bool := decide ((nms b).getD i 0 < (nms a).getD i 0) && decide (wk ((nms a).getD i 0 - (nms b).getD i 0) (t.getD i []) = s.getD i [])
def ahd (a b : Ws) (s t : Dl) : Option Nat := (List.range 35).find? (hit a b s t)
theorem ahd_some {a b : Ws} {s t : Dl} {i : Nat} (hi : i < 35) (h0 : ∀ j, j < i → hit a b s t j = false) (h1 : hit a b s t i = true) : ahd a b s t = some i := by
  unfold ahd
  rw [List.find?_range_eq_some]
  exact ⟨h1, by simpa using hi, fun j hj => by rw [h0 j hj]; rfl⟩
theorem ahd_none {a b : Ws} {s t : Dl} (h0 : ∀ j, j < 35 → hit a b s t j = false) : ahd a b s t = none := by
  unfold ahd
  rw [List.find?_eq_none]
  intro j hj
  rw [h0 j (by simpa using hj)]
  simp
theorem ahd_inv {a b : Ws} {s t : Dl} {i : Nat} (h : ahd a b s t = some i) : i < 35 ∧ hit a b s t i = true := by
  unfold ahd at h
  exact ⟨by simpa using List.mem_of_find?_eq_some h, List.find?_some h⟩
theorem hit_less {a b : Ws} {s t : Dl} {i : Nat} (h : hit a b s t i = true) : (nms b).getD i 0 < (nms a).getD i 0 ∧ wk ((nms a).getD i 0 - (nms b).getD i 0) (t.getD i []) = s.getD i [] := by
  simpa [hit] using h
theorem hit_sgn {seed a b : Ws} {i : Nat} (hi : i < 35) (h : (nms b).getD i 0 < (nms a).getD i 0) : hit a b (sgn seed a) (sgn seed b) i = true := by
  unfold hit sgn
  rw [upto_getD _ hi, upto_getD _ hi]
  unfold sgi
  rw [wk_wk, show (nms a).getD i 0 - (nms b).getD i 0 + (nms b).getD i 0 = (nms a).getD i 0 by omega]
  rw [decide_eq_true h, decide_eq_true rfl]; rfl
theorem ahd_sgn {seed a b : Ws} (ha : Ok4 a) (hb : Ok4 b) (h : a ≠ b) : ∃ i, ahd a b (sgn seed a) (sgn seed b) = some i ∧ i < 35 ∧ (nms b).getD i 0 < (nms a).getD i 0 ∧ wk ((nms a).getD i 0 - (nms b).getD i 0) ((sgn seed b).getD i []) = (sgn seed a).getD i [] := by
  obtain ⟨i, hi, hl⟩ := nms_ex hb ha (fun e => h e.symm)
  have hh := hit_sgn (seed := seed) hi hl
  cases e : ahd a b (sgn seed a) (sgn seed b) with
  | none =>
    have := List.find?_eq_none.1 e i (by simpa using hi)
    exact absurd hh this
  | some j =>
    obtain ⟨h1, h2⟩ := ahd_inv e
    exact ⟨j, rfl, h1, hit_less h2⟩
end Go.Proofs.YtfbefenagnlnfaaDoor
set_option linter.unusedVariables false
namespace Go.Proofs.YtfbefenagnlnfaaDoor
open Go.RowKit

set_option maxRecDepth 100000 in
set_option maxHeartbeats 1000000 in
theorem beginning_code (seed : Ws) (i : Nat) (w : World) (hs : Ok4 seed) (hi : i < 35) (ht : Tabs w) :
    Calls Tryd.prog 56 #[ag seed, .int .i64 (i : Int)] w fun e w' => e = .returned (ag (bgn seed i)) ∧ Below w.heap.size w w' := by
  have o := bgn_ok hs (i := i) (by omega)
  have c := fun w ht => pair_code seed [(i : Int), 0, 0, 0] w hs (num_ok (by omega)) ht
  unfold bgn at o ⊢
  obtain ⟨z0, z1, z2, z3, e, _⟩ := ok4 o
  rw [e] at c ⊢
  obtain ⟨x0, x1, x2, x3, rfl, _⟩ := ok4 hs
  rw [ag4, ag4, ag4] at c
  rw [ag4, ag4]
  have C := Lib.hid c
  have HT := Lib.hid ht
  have HK := Lib.hid (((Kx.nil none w).more (.cells #[.int .u32 x0, .int .u32 x1, .int .u32 x2, .int .u32 x3] 24 (0, 0))).add (w.heap.size + 1) (by simp) (.cells #[.int .u32 0, .int .u32 0, .int .u32 0, .int .u32 0] 24 (0, 0)))
  have i0 : (0 : Int) ≤ (i : Int) := by omega
  have i1 : (i : Int) < 4294967296 := by omega
  clear c ht e o hs
  go_enter Tryd.func56, Tryd.ntmps56
  go_wp2_with fail
  refine (C.out _ (HT.out.oldn HK.out)).mono ?_
  rintro e w1 ⟨rfl, hb⟩
  replace HK := Lib.hid (HK.out.after hb)
  clear hb
  obtain ⟨a0, a1, a2, a3, d0, d1, d2, d3⟩ := cells4 (HK.out.at 1 rfl)
  have HR := Lib.hid (row4 (HK.out.at 1 rfl) (.int .u32 z0) (.int .u32 z1) (.int .u32 z2) (.int .u32 z3))
  have HE := Lib.hid (HK.out.put4 1 rfl (.inr (by simp)) (.int .u32 z0) (.int .u32 z1) (.int .u32 z2) (.int .u32 z3)).be.plain
  go_wp2_with fail
  exact bodyPost_ret (v := .agg #[.int .u32 z0, .int .u32 z1, .int .u32 z2, .int .u32 z3]) (by
    obtain ⟨k0, k1, k2, k3, _⟩ := cells4 HR.out
    simp [results, go_sem, k0, k1, k2, k3]) rfl ⟨rfl, HE.out⟩
set_option maxHeartbeats 1000000 in
theorem walk_made (x0 x1 x2 x3 : Int) (w : World) :
    Calls Tryd.prog 55 #[.agg #[.int .u32 x0, .int .u32 x1, .int .u32 x2, .int .u32 x3]] w fun e w' => e = .returned (.func (.func 70) #[] #[.pointer (some ⟨w.heap.size, 0, none⟩)]) ∧ w' = w.alloc (.cells #[.int .u32 x0, .int .u32 x1, .int .u32 x2, .int .u32 x3] 24) := by
  have hmf : ∀ (fn : Fn) (first cap : Array Value) (w : World), (Instr.makeFunc fn first cap).run Tryd.prog w = .ok (.func fn first cap) w := fun _ _ _ _ => rfl
  go_enter Tryd.func55, Tryd.ntmps55
  go_wp2_with fail
  go_ret
  exact ⟨rfl, rfl⟩
theorem mrk4 {w : World} (h : Tabs w) : w.cell? ⟨0, 0, none⟩ = some (.int .u32 0) ∧ w.cell? ⟨0, 1, none⟩ = some (.int .u32 0) ∧ w.cell? ⟨0, 2, none⟩ = some (.int .u32 0) ∧ w.cell? ⟨0, 3, none⟩ = some (.int .u32 1) :=
  ⟨h.mrk_cell 0, h.mrk_cell 1, h.mrk_cell 2, h.mrk_cell 3⟩
/-- Two blocks that are known, one of them the closure's. -/
def Kq2 (q : Nat) (w W : World) (y : Ws) : Prop := Kx (some q) w W [(q, .cells (y.map (Value.int .u32)).toArray 24 (0, 0)), (w.heap.size, .cells #[.int .u32 0, .int .u32 0, .int .u32 0, .int .u32 0] 24 (0, 0))]
set_option maxRecDepth 100000 in
set_option maxHeartbeats 2000000 in
theorem step_code (x : Ws) (n q : Nat) (w : World) (hx : Ok4 x) (hn : n ≤ 15) (hq : w.heap[q]? = some (.cells (x.map (Value.int .u32)).toArray 24 (0, 0))) (hB : TabsB q w) :
    Calls Tryd.prog 70 #[.int .i64 (n : Int), .pointer (some ⟨q, 0, none⟩)] w fun e w' => e = .returned (ag (wk n x)) ∧ Bx (some q) w w' := by
  have hlt : q < w.heap.size := (Array.getElem?_eq_some_iff.1 hq).1
  have hne : w.heap.size ≠ q := by omega
  have HX := Lib.hid hx
  have HB := Lib.hid hB
  have HK0 : Hid (Kq2 q w (w.alloc (.cells #[.int .u32 0, .int .u32 0, .int .u32 0, .int .u32 0] 24)) x) := Lib.hid ((Kx.one hq (some q)).more (.cells #[.int .u32 0, .int .u32 0, .int .u32 0, .int .u32 0] 24 (0, 0)))
  have HTB : Hid (∀ W y, Kq2 q w W y → Tabs W) := Lib.hid fun W y h => (TabsB.below HB.out (h.be.to (by omega) (fun k hk => by injection hk with hk; omega))).toTabs
  obtain ⟨f, hf⟩ : ∃ f, ag (wk n x) = f := ⟨_, rfl⟩
  rw [hf]
  have HF := Lib.hid hf
  clear hx hq hB hf
  go_enter Tryd.func70, Tryd.ntmps70
  go_wp2_with fail
  go_loopw [5] (fun v wr => ∃ (j : Nat) (y0 y1 y2 y3 : Int), j ≤ n ∧ v = .int .i64 (j : Int) ∧ Hid (wk j x = [y0, y1, y2, y3]) ∧ Hid (Kq2 q w wr [y0, y1, y2, y3])) (fun v _ => n - (intOf v).toNat)
  case atStart =>
    obtain ⟨x0, x1, x2, x3, e, _⟩ := ok4 HX.out
    exact ⟨0, x0, x1, x2, x3, Nat.zero_le _, rfl, e, by rw [← e]; exact HK0.out⟩
  case round =>
    obtain ⟨j, y0, y1, y2, y3, hj, rfl, HY, HK⟩ := hrel
    by_cases hlt : j < n
    · have i0 : (0 : Int) ≤ (j : Int) := by omega
      have i1 : (j : Int) < (n : Int) := by omega
      have oy := wk_ok HX.out j
      have oz := wk_ok HX.out (j + 1)
      have e : wk (j + 1) x = pair (wk j x) [0, 0, 0, 1] := rfl
      obtain ⟨z0, z1, z2, z3, ez, _⟩ := ok4 oz
      have HZ : Hid (wk (j + 1) x = [z0, z1, z2, z3]) := Lib.hid ez
      rw [HY.out] at oy e
      have c := fun w ht => pair_code [y0, y1, y2, y3] [0, 0, 0, 1] w oy mark_ok ht
      rw [← e, ez, ag4, ag4, ag4] at c
      have C := Lib.hid c
      clear c e ez oy oz
      obtain ⟨a0, a1, a2, a3, _⟩ := cells4 (HK.out.at 0 rfl)
      obtain ⟨m0, m1, m2, m3⟩ := mrk4 (HTB.out _ _ HK.out)
      go_wp2_with fail
      refine (C.out _ (HTB.out _ _ HK.out)).mono ?_
      rintro e w1 ⟨rfl, hb⟩
      replace HK : Hid (Kq2 q w w1 [y0, y1, y2, y3]) := Lib.hid (HK.out.after hb)
      clear hb a0 a1 a2 a3 m0 m1 m2 m3
      obtain ⟨a0, a1, a2, a3, d0, d1, d2, d3⟩ := cells4 (HK.out.at 0 rfl)
      have HK2 : Hid (Kq2 q w ((((w1.setCell ⟨q, 0, none⟩ (.int .u32 z0)).setCell ⟨q, 1, none⟩ (.int .u32 z1)).setCell ⟨q, 2, none⟩ (.int .u32 z2)).setCell ⟨q, 3, none⟩ (.int .u32 z3)) [z0, z1, z2, z3]) := Lib.hid (HK.out.put4 0 rfl (.inl rfl) (.int .u32 z0) (.int .u32 z1) (.int .u32 z2) (.int .u32 z3))
      go_wp2_with fail
      go_roundw
      case rel => exact ⟨j + 1, z0, z1, z2, z3, by omega, by go_num, HZ, HK2⟩
      case measure => simp [intOf]; omega
    · obtain rfl : j = n := by omega
      obtain ⟨a0, a1, a2, a3, _⟩ := cells4 (HK.out.at 0 rfl)
      obtain ⟨b0, b1, b2, b3, d0, d1, d2, d3⟩ := cells4 (HK.out.at 1 rfl)
      have HR := Lib.hid (row4 (HK.out.at 1 rfl) (.int .u32 y0) (.int .u32 y1) (.int .u32 y2) (.int .u32 y3))
      have HE := Lib.hid (HK.out.put4 1 rfl (.inr (by simp)) (.int .u32 y0) (.int .u32 y1) (.int .u32 y2) (.int .u32 y3)).be
      have HF2 : Hid (f = .agg #[.int .u32 y0, .int .u32 y1, .int .u32 y2, .int .u32 y3]) := Lib.hid (by rw [← HF.out, HY.out, ag4])
      go_wp2_with fail
      exact bodyPost_ret (v := .agg #[.int .u32 y0, .int .u32 y1, .int .u32 y2, .int .u32 y3]) (by
        obtain ⟨k0, k1, k2, k3, _⟩ := cells4 HR.out
        simp [results, go_sem, k0, k1, k2, k3]) rfl ⟨by rw [HF2.out], HE.out⟩
set_option maxRecDepth 100000 in
set_option maxHeartbeats 1000000 in
theorem begin_ref (seed : Ws) (i : Nat) (w : World) (hs : Ok4 seed) (hi : i < 35) :
    Calls Tryd.prog 43 #[ag seed, .int .i64 (i : Int)] w fun e w' => e = .returned (ag (bgn seed i)) ∧ Below w.heap.size w w' := by
  have o := bgn_ok hs (i := i) (by omega)
  have c := fun w => pair_ref seed [(i : Int), 0, 0, 0] w hs (num_ok (by omega))
  unfold bgn at o ⊢
  obtain ⟨z0, z1, z2, z3, e, _⟩ := ok4 o
  rw [e] at c ⊢
  obtain ⟨x0, x1, x2, x3, rfl, _⟩ := ok4 hs
  rw [ag4, ag4, ag4] at c
  rw [ag4, ag4]
  have C := Lib.hid c
  have HK := Lib.hid (((Kx.nil none w).more (.cells #[.int .u32 x0, .int .u32 x1, .int .u32 x2, .int .u32 x3] 24 (0, 0))).add (w.heap.size + 1) (by simp) (.cells #[.int .u32 0, .int .u32 0, .int .u32 0, .int .u32 0] 24 (0, 0)))
  have i0 : (0 : Int) ≤ (i : Int) := by omega
  have i1 : (i : Int) < 4294967296 := by omega
  clear c e o hs
  go_enter Tryd.func43, Tryd.ntmps43
  go_wp2_with fail
  refine (C.out _).mono ?_
  rintro e w1 ⟨rfl, hb⟩
  replace HK := Lib.hid (HK.out.after hb)
  clear hb
  obtain ⟨a0, a1, a2, a3, d0, d1, d2, d3⟩ := cells4 (HK.out.at 1 rfl)
  have HR := Lib.hid (row4 (HK.out.at 1 rfl) (.int .u32 z0) (.int .u32 z1) (.int .u32 z2) (.int .u32 z3))
  have HE := Lib.hid (HK.out.put4 1 rfl (.inr (by simp)) (.int .u32 z0) (.int .u32 z1) (.int .u32 z2) (.int .u32 z3)).be.plain
  go_wp2_with fail
  exact bodyPost_ret (v := .agg #[.int .u32 z0, .int .u32 z1, .int .u32 z2, .int .u32 z3]) (by
    obtain ⟨k0, k1, k2, k3, _⟩ := cells4 HR.out
    simp [results, go_sem, k0, k1, k2, k3]) rfl ⟨rfl, HE.out⟩
/-- Two new blocks that are known. -/
def Kn2 (w W : World) (y : Ws) : Prop := Kx none w W [(w.heap.size, .cells (y.map (Value.int .u32)).toArray 24 (0, 0)), (w.heap.size + 1, .cells #[.int .u32 0, .int .u32 0, .int .u32 0, .int .u32 0] 24 (0, 0))]
set_option maxRecDepth 100000 in
set_option maxHeartbeats 2000000 in
theorem walk_ref (x : Ws) (n : Nat) (w : World) (hx : Ok4 x) (hn : n ≤ 15) :
    Calls Tryd.prog 40 #[ag x, .int .i64 (n : Int)] w fun e w' => e = .returned (ag (wk n x)) ∧ Below w.heap.size w w' := by
  have HX := Lib.hid hx
  obtain ⟨f, hf⟩ : ∃ f, ag (wk n x) = f := ⟨_, rfl⟩
  rw [hf]
  have HF := Lib.hid hf
  obtain ⟨x0, x1, x2, x3, e, _⟩ := ok4 hx
  have HE := Lib.hid e
  rw [e, ag4]
  have HK0 : Hid (Kn2 w ((w.alloc (.cells #[.int .u32 x0, .int .u32 x1, .int .u32 x2, .int .u32 x3] 24)).alloc (.cells #[.int .u32 0, .int .u32 0, .int .u32 0, .int .u32 0] 24)) [x0, x1, x2, x3]) := Lib.hid (((Kx.nil none w).more (.cells #[.int .u32 x0, .int .u32 x1, .int .u32 x2, .int .u32 x3] 24 (0, 0))).add (w.heap.size + 1) (by simp) (.cells #[.int .u32 0, .int .u32 0, .int .u32 0, .int .u32 0] 24 (0, 0)))
  clear hx hf e
  go_enter Tryd.func40, Tryd.ntmps40
  go_wp2_with fail
  go_loopw [5] (fun v wr => ∃ (j : Nat) (y0 y1 y2 y3 : Int), j ≤ n ∧ v = .int .i64 (j : Int) ∧ Hid (wk j x = [y0, y1, y2, y3]) ∧ Hid (Kn2 w wr [y0, y1, y2, y3])) (fun v _ => n - (intOf v).toNat)
  case atStart => exact ⟨0, x0, x1, x2, x3, Nat.zero_le _, rfl, HE, HK0⟩
  case round =>
    obtain ⟨j, y0, y1, y2, y3, hj, rfl, HY, HK⟩ := hrel
    by_cases hlt : j < n
    · have i0 : (0 : Int) ≤ (j : Int) := by omega
      have i1 : (j : Int) < (n : Int) := by omega
      have oy := wk_ok HX.out j
      have oz := wk_ok HX.out (j + 1)
      have e : wk (j + 1) x = pair (wk j x) [0, 0, 0, 1] := rfl
      obtain ⟨z0, z1, z2, z3, ez, _⟩ := ok4 oz
      have HZ : Hid (wk (j + 1) x = [z0, z1, z2, z3]) := Lib.hid ez
      rw [HY.out] at oy e
      have c := fun w => pair_ref [y0, y1, y2, y3] [0, 0, 0, 1] w oy mark_ok
      rw [← e, ez, ag4, ag4, ag4] at c
      have C := Lib.hid c
      clear c e ez oy oz
      obtain ⟨a0, a1, a2, a3, _⟩ := cells4 (HK.out.at 0 rfl)
      go_wp2_with fail
      refine (C.out _).mono ?_
      rintro e w1 ⟨rfl, hb⟩
      replace HK : Hid (Kn2 w w1 [y0, y1, y2, y3]) := Lib.hid (HK.out.after hb)
      clear hb a0 a1 a2 a3
      obtain ⟨a0, a1, a2, a3, d0, d1, d2, d3⟩ := cells4 (HK.out.at 0 rfl)
      have HK2 : Hid (Kn2 w ((((w1.setCell ⟨w.heap.size, 0, none⟩ (.int .u32 z0)).setCell ⟨w.heap.size, 1, none⟩ (.int .u32 z1)).setCell ⟨w.heap.size, 2, none⟩ (.int .u32 z2)).setCell ⟨w.heap.size, 3, none⟩ (.int .u32 z3)) [z0, z1, z2, z3]) := Lib.hid (HK.out.put4 0 rfl (.inr (Nat.le_refl _)) (.int .u32 z0) (.int .u32 z1) (.int .u32 z2) (.int .u32 z3))
      go_wp2_with fail
      go_roundw
      case rel => exact ⟨j + 1, z0, z1, z2, z3, by omega, by go_num, HZ, HK2⟩
      case measure => simp [intOf]; omega
    · obtain rfl : j = n := by omega
      obtain ⟨a0, a1, a2, a3, _⟩ := cells4 (HK.out.at 0 rfl)
      obtain ⟨b0, b1, b2, b3, d0, d1, d2, d3⟩ := cells4 (HK.out.at 1 rfl)
      have HR := Lib.hid (row4 (HK.out.at 1 rfl) (.int .u32 y0) (.int .u32 y1) (.int .u32 y2) (.int .u32 y3))
      have HE := Lib.hid (HK.out.put4 1 rfl (.inr (by simp)) (.int .u32 y0) (.int .u32 y1) (.int .u32 y2) (.int .u32 y3)).be.plain
      have HF2 : Hid (f = .agg #[.int .u32 y0, .int .u32 y1, .int .u32 y2, .int .u32 y3]) := Lib.hid (by rw [← HF.out, HY.out, ag4])
      go_wp2_with fail
      exact bodyPost_ret (v := .agg #[.int .u32 y0, .int .u32 y1, .int .u32 y2, .int .u32 y3]) (by
        obtain ⟨k0, k1, k2, k3, _⟩ := cells4 HR.out
        simp [results, go_sem, k0, k1, k2, k3]) rfl ⟨by rw [HF2.out], HE.out⟩
end Go.Proofs.YtfbefenagnlnfaaDoor
set_option linter.unusedVariables false
namespace Go.Proofs.YtfbefenagnlnfaaDoor
open Go.RowKit

theorem infoA : (Tryd.prog.info? 83).map (·.size) = some 140 := by kernel_rfl
theorem infoD4 : (Tryd.prog.info? 24).map (·.size) = some 4 := by kernel_rfl
set_option maxRecDepth 100000 in
theorem idx35 {l : Dl} (ho : Oks l) (hl : l.length = 35) {j : Nat} {x0 x1 x2 x3 : Int} (hj : l[j]? = some [x0, x1, x2, x3]) (w : World) :
    (Instr.index 83 (.agg (mcs l).toArray) (.int .i64 (j : Int))).run Tryd.prog w = .ok (.agg #[.int .u32 x0, .int .u32 x1, .int .u32 x2, .int .u32 x3]) w := by
  have hj35 : j < 35 := by rw [← hl]; exact (List.getElem?_eq_some_iff.1 hj).1
  have hin : 0 ≤ (j : Int) ∧ (j : Int) < ((35 : Nat) : Int) := by omega
  have hsz : ∀ w : World, (sizeOf 24).run Tryd.prog w = .ok 4 w := by
    intro w
    cases hq : Tryd.prog.info? 24 with
    | none => have := infoD4; simp [hq] at this
    | some i => have := infoD4; simp [hq] at this; simp [sizeOf, typeInfo, hq, this]
  have hag : ∀ w : World, (isAgg 24).run Tryd.prog w = .ok true w := by
    intro w
    unfold isAgg
    rw [Sem.run_bind, run_underlying Tryd.underlying24 w]
    rfl
  have hex : (mcs l).toArray.extract (j * 4) (j * 4 + 4) = #[.int .u32 x0, .int .u32 x1, .int .u32 x2, .int .u32 x3] := by
    have hlen := cs_length ho
    have c := fun i v h => cs_at ho j _ hj i v h
    have c0 := c 0 x0 rfl
    have c1 := c 1 x1 rfl
    have c2 := c 2 x2 rfl
    have c3 := c 3 x3 rfl
    apply Array.ext_getElem?
    intro i
    rw [Array.getElem?_extract]
    simp only [List.size_toArray, hlen, hl]
    rw [show min (j * 4 + 4) (35 * 4) - j * 4 = 4 by omega]
    match i with
    | 0 => simpa using c0
    | 1 => simpa using c1
    | 2 => simpa using c2
    | 3 => simpa using c3
    | i + 4 =>
      simp
      intro h
      omega
  simp only [Instr.index, asIntOf, Sem.run_bind, Sem.run_pure, Result.andThen_ok, run_underlying Tryd.underlying83]
  rw [if_pos hin]
  simp only [Sem.run_bind, hsz, Result.andThen_ok, part, hag, if_true, Sem.run_pure]
  rw [show (j : Int).toNat * 4 = j * 4 by omega, hex]
theorem Kx.first {p : Option Nat} {w W : World} {bs : List (Nat × Obj)} (h : Kx p w W bs) (n : Nat) : Kx p w W (bs.take n) :=
  ⟨fun x hx => h.all x (List.mem_of_mem_take hx), by rw [List.map_take]; exact List.Sublist.nodup (List.take_sublist _ _) h.nd, h.be⟩
def Ko3 (w W : World) (cs : Array Value) (k : Ws) : Prop := Kx none w W [(w.heap.size, .cells cs 83 (0, 0)), (w.heap.size + 1, .cells #[.int .u32 0, .int .u32 0, .int .u32 0, .int .u32 0] 24 (0, 0)), (w.heap.size + 1 + 1, .cells (k.map (Value.int .u32)).toArray 24 (0, 0))]
set_option maxRecDepth 100000 in
set_option maxHeartbeats 2000000 in
theorem publicOf_code (l : Dl) (w : World) (ho : Oks l) (hl : l.length = 35) (ht : Tabs w) :
    Calls Tryd.prog 58 #[.agg (mcs l).toArray] w fun e w' => e = .returned (ag (pof l)) ∧ Below w.heap.size w w' := by
  obtain ⟨cs, hcs⟩ : ∃ cs, (mcs l).toArray = cs := ⟨_, rfl⟩
  have hix := fun (j : Nat) (x0 x1 x2 x3 : Int) (hj : l[j]? = some [x0, x1, x2, x3]) => idx35 ho hl hj
  rw [hcs] at hix ⊢
  have hsz : (Tryd.prog.info? 83).map (·.size) = some cs.size := by
    rw [infoA, ← hcs, List.size_toArray, cs_length ho, hl]
  have HIX := Lib.hid hix
  have HT := Lib.hid ht
  have HO := Lib.hid ho
  have HL := Lib.hid hl
  have HS := Lib.hid hsz
  obtain ⟨f, hf⟩ : ∃ f, ag (pof l) = f := ⟨_, rfl⟩
  rw [hf]
  have HF := Lib.hid hf
  have HK0 : Hid (Ko3 w (((w.alloc (.cells cs 83)).alloc (.cells #[.int .u32 0, .int .u32 0, .int .u32 0, .int .u32 0] 24)).alloc (.cells #[.int .u32 35, .int .u32 0, .int .u32 0, .int .u32 0] 24)) cs [35, 0, 0, 0]) :=
    Lib.hid ((((Kx.nil none w).more (.cells cs 83 (0, 0))).add (w.heap.size + 1) (by simp) (.cells #[.int .u32 0, .int .u32 0, .int .u32 0, .int .u32 0] 24 (0, 0))).add (w.heap.size + 1 + 1) (by simp) (.cells #[.int .u32 35, .int .u32 0, .int .u32 0, .int .u32 0] 24 (0, 0)))
  clear hix ht ho hl hcs hf hsz
  go_enter Tryd.func58, Tryd.ntmps58
  go_wp2_with fail
  refine wp_load_row 83 _ rfl w.heap.size rfl 83 cs (0, 0) _ (HK0.out.at 0 rfl) Tryd.underlying83 rfl HS.out ?_
  go_wp2_with fail
  go_loopw [8] (fun v wr => ∃ (j : Nat) (y0 y1 y2 y3 : Int), j ≤ 35 ∧ v = .int .i64 (j : Int) ∧ Hid (pofs [35, 0, 0, 0] (l.take j) = [y0, y1, y2, y3]) ∧ Hid (Ko3 w wr cs [y0, y1, y2, y3])) (fun v _ => 35 - (intOf v).toNat)
  case atStart => exact ⟨0, 35, 0, 0, 0, Nat.zero_le _, rfl, rfl, HK0⟩
  case round =>
    obtain ⟨j, y0, y1, y2, y3, hj, rfl, HY, HK⟩ := hrel
    by_cases hlt : j < 35
    · have i0 : (0 : Int) ≤ (j : Int) := by omega
      have i1 : (j : Int) < 35 := by omega
      have hg := List.getElem?_eq_getElem (l := l) (i := j) (by rw [HL.out]; exact hlt)
      have oe := HO.out _ (List.getElem_mem (l := l) (n := j) (by rw [HL.out]; exact hlt))
      obtain ⟨e0, e1, e2, e3, ee, _⟩ := ok4 oe
      rw [ee] at hg oe
      have hX := HIX.out j e0 e1 e2 e3 hg
      have oy : Ok4 (pofs [35, 0, 0, 0] (l.take j)) := pofs_ok _ k35_ok (HO.out.take j)
      have oz : Ok4 (pofs [35, 0, 0, 0] (l.take (j + 1))) := pofs_ok _ k35_ok (HO.out.take (j + 1))
      have e : pofs [35, 0, 0, 0] (l.take (j + 1)) = pair (pofs [35, 0, 0, 0] (l.take j)) [e0, e1, e2, e3] := by
        rw [List.take_add_one, hg, Option.toList_some, pofs_snoc]
      obtain ⟨z0, z1, z2, z3, ez, _⟩ := ok4 oz
      have HZ : Hid (pofs [35, 0, 0, 0] (l.take (j + 1)) = [z0, z1, z2, z3]) := Lib.hid ez
      rw [HY.out] at oy e
      have c := fun w ht => pair_code [y0, y1, y2, y3] [e0, e1, e2, e3] w oy oe ht
      rw [← e, ez, ag4, ag4, ag4] at c
      have C := Lib.hid c
      clear c e ez oy oz ee oe hg
      have HK1 := Lib.hid (HK.out.more (.cells #[.int .u32 e0, .int .u32 e1, .int .u32 e2, .int .u32 e3] 24 (0, 0)))
      obtain ⟨a0, a1, a2, a3, _⟩ := cells4 (HK1.out.at 2 rfl)
      go_wp2_with fail
      refine (C.out _ (HT.out.oldn HK1.out)).mono ?_
      rintro e w1 ⟨rfl, hb⟩
      replace HK1 := Lib.hid (HK1.out.after hb)
      clear hb a0 a1 a2 a3
      obtain ⟨a0, a1, a2, a3, d0, d1, d2, d3⟩ := cells4 (HK1.out.at 2 rfl)
      have HK2 := Lib.hid (HK1.out.put4 2 rfl (.inr (by omega)) (.int .u32 z0) (.int .u32 z1) (.int .u32 z2) (.int .u32 z3))
      have HK3 : Hid (Ko3 w ((((w1.setCell ⟨w.heap.size + 1 + 1, 0, none⟩ (.int .u32 z0)).setCell ⟨w.heap.size + 1 + 1, 1, none⟩ (.int .u32 z1)).setCell ⟨w.heap.size + 1 + 1, 2, none⟩ (.int .u32 z2)).setCell ⟨w.heap.size + 1 + 1, 3, none⟩ (.int .u32 z3)) cs [z0, z1, z2, z3]) := Lib.hid (HK2.out.first 3)
      clear HK1 HK2
      go_wp2_with fail
      go_roundw
      case rel => exact ⟨j + 1, z0, z1, z2, z3, by omega, by go_num, HZ, HK3⟩
      case measure => simp [intOf]; omega
    · obtain rfl : j = 35 := by omega
      have hy := HY.out
      rw [List.take_of_length_le (by rw [HL.out]; omega)] at hy
      have HF2 : Hid (f = .agg #[.int .u32 y0, .int .u32 y1, .int .u32 y2, .int .u32 y3]) := Lib.hid (by rw [← HF.out, pof, hy, ag4])
      clear hy
      obtain ⟨a0, a1, a2, a3, _⟩ := cells4 (HK.out.at 2 rfl)
      obtain ⟨b0, b1, b2, b3, d0, d1, d2, d3⟩ := cells4 (HK.out.at 1 rfl)
      have HR := Lib.hid (row4 (HK.out.at 1 rfl) (.int .u32 y0) (.int .u32 y1) (.int .u32 y2) (.int .u32 y3))
      have HE := Lib.hid (HK.out.put4 1 rfl (.inr (by simp)) (.int .u32 y0) (.int .u32 y1) (.int .u32 y2) (.int .u32 y3)).be.plain
      go_wp2_with fail
      exact bodyPost_ret (v := .agg #[.int .u32 y0, .int .u32 y1, .int .u32 y2, .int .u32 y3]) (by
        obtain ⟨k0, k1, k2, k3, _⟩ := cells4 HR.out
        simp [results, go_sem, k0, k1, k2, k3]) rfl ⟨by rw [HF2.out], HE.out⟩
end Go.Proofs.YtfbefenagnlnfaaDoor
set_option linter.unusedVariables false
namespace Go.Proofs.YtfbefenagnlnfaaDoor
open Go.RowKit

def Kf2 (w W : World) (k : Ws) : Prop := Kx none w W [(w.heap.size, .cells #[.int .u32 0, .int .u32 0, .int .u32 0, .int .u32 0] 24 (0, 0)), (w.heap.size + 1, .cells (k.map (Value.int .u32)).toArray 24 (0, 0))]
set_option maxRecDepth 100000 in
set_option maxHeartbeats 2000000 in
theorem ofr_row (l : Dl) (b off cap : Nat) (w : World) (hl : l.length = 35) (hr : DRow w b off l) :
    Calls Tryd.prog 41 #[.slice (some ⟨b, off, none⟩) 35 cap] w fun e w' => e = .returned (ag (pof l)) ∧ Below w.heap.size w w' := by
  have HR := Lib.hid hr
  have HL := Lib.hid hl
  have hbw := hr.lt
  have hne : w.heap.size + 1 ≠ b := by omega
  obtain ⟨f, hf⟩ : ∃ f, ag (pof l) = f := ⟨_, rfl⟩
  rw [hf]
  have HF := Lib.hid hf
  have HK0 : Hid (Kf2 w ((w.alloc (.cells #[.int .u32 0, .int .u32 0, .int .u32 0, .int .u32 0] 24)).alloc (.cells #[.int .u32 35, .int .u32 0, .int .u32 0, .int .u32 0] 24)) [35, 0, 0, 0]) :=
    Lib.hid (((Kx.nil none w).more (.cells #[.int .u32 0, .int .u32 0, .int .u32 0, .int .u32 0] 24 (0, 0))).add (w.heap.size + 1) (by simp) (.cells #[.int .u32 35, .int .u32 0, .int .u32 0, .int .u32 0] 24 (0, 0)))
  clear hr hl hf
  go_enter Tryd.func41, Tryd.ntmps41
  go_wp2_with fail
  go_loopw [4] (fun v wr => ∃ (j : Nat) (y0 y1 y2 y3 : Int), j ≤ 35 ∧ v = .int .i64 (j : Int) ∧ Hid (pofs [35, 0, 0, 0] (l.take j) = [y0, y1, y2, y3]) ∧ Hid (Kf2 w wr [y0, y1, y2, y3])) (fun v _ => 35 - (intOf v).toNat)
  case atStart => exact ⟨0, 35, 0, 0, 0, Nat.zero_le _, rfl, rfl, HK0⟩
  case round =>
    obtain ⟨j, y0, y1, y2, y3, hj, rfl, HY, HK⟩ := hrel
    by_cases hlt : j < 35
    · have i0 : (0 : Int) ≤ (j : Int) := by omega
      have i1 : (j : Int) < 35 := by omega
      have hg := List.getElem?_eq_getElem (l := l) (i := j) (by rw [HL.out]; exact hlt)
      have oe := HR.out.ok _ (List.getElem_mem (l := l) (n := j) (by rw [HL.out]; exact hlt))
      obtain ⟨e0, e1, e2, e3, ee, _⟩ := ok4 oe
      rw [ee] at hg oe
      obtain ⟨q0, q1, q2, q3⟩ := (HR.out.oldn HK.out).four hg
      have oy : Ok4 (pofs [35, 0, 0, 0] (l.take j)) := pofs_ok _ k35_ok (HR.out.ok.take j)
      have oz : Ok4 (pofs [35, 0, 0, 0] (l.take (j + 1))) := pofs_ok _ k35_ok (HR.out.ok.take (j + 1))
      have e : pofs [35, 0, 0, 0] (l.take (j + 1)) = pair (pofs [35, 0, 0, 0] (l.take j)) [e0, e1, e2, e3] := by
        rw [List.take_add_one, hg, Option.toList_some, pofs_snoc]
      obtain ⟨z0, z1, z2, z3, ez, _⟩ := ok4 oz
      have HZ : Hid (pofs [35, 0, 0, 0] (l.take (j + 1)) = [z0, z1, z2, z3]) := Lib.hid ez
      rw [HY.out] at oy e
      have c := fun w => pair_ref [y0, y1, y2, y3] [e0, e1, e2, e3] w oy oe
      rw [← e, ez, ag4, ag4, ag4] at c
      have C := Lib.hid c
      clear c e ez oy oz ee oe hg
      obtain ⟨a0, a1, a2, a3, _⟩ := cells4 (HK.out.at 1 rfl)
      go_wp2_with fail
      go_region_law (first
        | (go_simp; go_at_call 42; (with_reducible refine (C.out _).mono ?_); rintro e w1 ⟨rfl, hb⟩; replace HK : Hid (Kf2 w w1 [y0, y1, y2, y3]) := Lib.hid (HK.out.drew.after hb); clear hb; obtain ⟨a0, a1, a2, a3, d0, d1, d2, d3⟩ := cells4 (HK.out.at 1 rfl)))
      all_goals
        have HK2 : Hid (Kf2 w ((((w1.setCell ⟨w.heap.size + 1, 0, none⟩ (.int .u32 z0)).setCell ⟨w.heap.size + 1, 1, none⟩ (.int .u32 z1)).setCell ⟨w.heap.size + 1, 2, none⟩ (.int .u32 z2)).setCell ⟨w.heap.size + 1, 3, none⟩ (.int .u32 z3)) [z0, z1, z2, z3]) := Lib.hid (HK.out.put4 1 rfl (.inr (by omega)) (.int .u32 z0) (.int .u32 z1) (.int .u32 z2) (.int .u32 z3))
        go_wp2_with fail
        go_roundw
        case rel => exact ⟨j + 1, z0, z1, z2, z3, by omega, by go_num, HZ, HK2⟩
        case measure => simp [intOf]; omega
    · obtain rfl : j = 35 := by omega
      have hy := HY.out
      rw [List.take_of_length_le (by rw [HL.out]; omega)] at hy
      have HF2 : Hid (f = .agg #[.int .u32 y0, .int .u32 y1, .int .u32 y2, .int .u32 y3]) := Lib.hid (by rw [← HF.out, pof, hy, ag4])
      clear hy
      obtain ⟨a0, a1, a2, a3, _⟩ := cells4 (HK.out.at 1 rfl)
      obtain ⟨b0, b1, b2, b3, d0, d1, d2, d3⟩ := cells4 (HK.out.at 0 rfl)
      have HR := Lib.hid (row4 (HK.out.at 0 rfl) (.int .u32 y0) (.int .u32 y1) (.int .u32 y2) (.int .u32 y3))
      have HE := Lib.hid (HK.out.put4 0 rfl (.inr (by simp)) (.int .u32 y0) (.int .u32 y1) (.int .u32 y2) (.int .u32 y3)).be.plain
      go_wp2_with fail
      exact bodyPost_ret (v := .agg #[.int .u32 y0, .int .u32 y1, .int .u32 y2, .int .u32 y3]) (by
        obtain ⟨k0, k1, k2, k3, _⟩ := cells4 HR.out
        simp [results, go_sem, k0, k1, k2, k3]) rfl ⟨by rw [HF2.out], HE.out⟩
end Go.Proofs.YtfbefenagnlnfaaDoor
set_option linter.unusedVariables false
namespace Go.Proofs.YtfbefenagnlnfaaDoor
open Go.RowKit

/-- The cells of a list of ends, and noughts up to 35 of them. -/
def endc (l : Dl) : Array Value := (mcs l ++ List.replicate (140 - 4 * l.length) (Value.int .u32 0)).toArray
theorem endc_full {l : Dl} (h : l.length = 35) : endc l = (mcs l).toArray := by simp [endc, h]
theorem endc_size {l : Dl} (ho : Oks l) (h : l.length ≤ 35) : (endc l).size = 140 := by
  simp [endc, cs_length ho]; omega
theorem infoZ : (Tryd.prog.info? 83).map (fun i => (i.zero, i.size)) = some (some (.agg (endc [])), 140) := by kernel_rfl
theorem zero48 (w : World) : (zeroValue 83).run Tryd.prog w = .ok (.agg (endc [])) w := (zero_of_info infoZ).1 w
theorem list_put (A B : List Value) (u0 u1 u2 u3 v0 v1 v2 v3 : Value) (n : Nat) (hn : A.length = n) :
    ((((A ++ u0 :: u1 :: u2 :: u3 :: B).set n v0).set (n + 1) v1).set (n + 2) v2).set (n + 3) v3 = A ++ v0 :: v1 :: v2 :: v3 :: B := by
  subst hn
  rw [List.set_append_right _ _ (Nat.le_refl _), List.set_append_right _ _ (by omega), List.set_append_right _ _ (by omega), List.set_append_right _ _ (by omega)]
  simp [show A.length + 1 - A.length = 1 by omega, show A.length + 2 - A.length = 2 by omega, show A.length + 3 - A.length = 3 by omega]
theorem four_zero {n : Nat} (h : 4 ≤ n) : List.replicate n (Value.int .u32 0) = .int .u32 0 :: .int .u32 0 :: .int .u32 0 :: .int .u32 0 :: List.replicate (n - 4) (Value.int .u32 0) := by
  obtain ⟨m, rfl⟩ : ∃ m, n = m + 4 := ⟨n - 4, by omega⟩
  rfl
theorem put_end {w : World} {b j : Nat} {t : TypeId} {l : Dl} (h : w.heap[b]? = some (.cells (endc l) t (0, 0))) (hl : l.length = j) (hj : j < 35) (ho : Oks l) (z0 z1 z2 z3 : Int) :
    ((((w.setCell ⟨b, j * 4, none⟩ (.int .u32 z0)).setCell ⟨b, j * 4 + 1, none⟩ (.int .u32 z1)).setCell ⟨b, j * 4 + 2, none⟩ (.int .u32 z2)).setCell ⟨b, j * 4 + 3, none⟩ (.int .u32 z3)).heap[b]? = some (.cells (endc (l ++ [[z0, z1, z2, z3]])) t (0, 0)) := by
  have e0 := heap_setCell_same w b (j * 4) _ t (.int .u32 z0) h
  have e1 := heap_setCell_same _ b (j * 4 + 1) _ t (.int .u32 z1) e0
  have e2 := heap_setCell_same _ b (j * 4 + 2) _ t (.int .u32 z2) e1
  have e3 := heap_setCell_same _ b (j * 4 + 3) _ t (.int .u32 z3) e2
  rw [e3]
  have key : ((((endc l).setIfInBounds (j * 4) (.int .u32 z0)).setIfInBounds (j * 4 + 1) (.int .u32 z1)).setIfInBounds (j * 4 + 2) (.int .u32 z2)).setIfInBounds (j * 4 + 3) (.int .u32 z3) = endc (l ++ [[z0, z1, z2, z3]]) := by
    apply Array.ext'
    simp only [endc, Array.toList_setIfInBounds, List.length_append, List.length_cons, List.length_nil, hl]
    rw [four_zero (n := 140 - 4 * j) (by omega), list_put _ _ _ _ _ _ _ _ _ _ _ (by rw [cs_length ho, hl]), cs_append, cs_one]
    simp [show 140 - 4 * j - 4 = 140 - 4 * (j + 1) by omega]
  rw [key]
theorem end_cells {w : World} {b j : Nat} {t : TypeId} {l : Dl} (h : w.heap[b]? = some (.cells (endc l) t (0, 0))) (hl : l.length = j) (hj : j < 35) (ho : Oks l) :
    (w.cell? ⟨b, j * 4, none⟩ = some (.int .u32 0) ∧ w.cell? ⟨b, j * 4 + 1, none⟩ = some (.int .u32 0) ∧ w.cell? ⟨b, j * 4 + 2, none⟩ = some (.int .u32 0) ∧ w.cell? ⟨b, j * 4 + 3, none⟩ = some (.int .u32 0)) ∧
    (w.frozen? ⟨b, j * 4, none⟩ = false ∧ w.frozen? ⟨b, j * 4 + 1, none⟩ = false ∧ w.frozen? ⟨b, j * 4 + 2, none⟩ = false ∧ w.frozen? ⟨b, j * 4 + 3, none⟩ = false) := by
  have hc := cs_length ho
  have at_ : ∀ i, i < 4 → w.cell? ⟨b, j * 4 + i, none⟩ = some (.int .u32 0) := by
    intro i hi
    rw [cell_of_row w b _ _ t (0, 0) h]
    simp only [endc, List.getElem?_toArray]
    rw [List.getElem?_append_right (by omega), List.getElem?_replicate, if_pos (by omega)]
  refine ⟨⟨at_ 0 (by omega), at_ 1 (by omega), at_ 2 (by omega), at_ 3 (by omega)⟩, ?_⟩
  simp [World.frozen?, h]
/-- A chain gone along by a new closure. -/
theorem step_at {x0 x1 x2 x3 y0 y1 y2 y3 z : Int} {n : Nat} (W : World) (hx : Ok4 [x0, x1, x2, x3]) (hz : z = (n : Int)) (hn : n ≤ 15) (hy : wk n [x0, x1, x2, x3] = [y0, y1, y2, y3]) (ht : Tabs W) :
    Calls Tryd.prog 70 #[.int .i64 z, .pointer (some ⟨W.heap.size, 0, none⟩)] (W.alloc (.cells #[.int .u32 x0, .int .u32 x1, .int .u32 x2, .int .u32 x3] 24)) fun e w' => e = .returned (.agg #[.int .u32 y0, .int .u32 y1, .int .u32 y2, .int .u32 y3]) ∧ Below W.heap.size W w' := by
  subst hz
  have hb : Below W.heap.size W (W.alloc (.cells #[.int .u32 x0, .int .u32 x1, .int .u32 x2, .int .u32 x3] 24)) := (Below.refl _ _).alloc (Nat.le_refl _) _
  refine (step_code [x0, x1, x2, x3] n W.heap.size _ hx hn (heap_alloc_new _ _) (ht.at.below hb)).mono ?_
  rintro e w' ⟨rfl, hq⟩
  rw [hy, ag4]
  exact ⟨rfl, hb.trans (hq.to (by simp) (fun k hk => by injection hk with hk; omega))⟩
/-- What Public, Reach have made so far. -/
def Kp3 (w W : World) (x : Ws) (l : Dl) : Prop := Kx none w W [(w.heap.size, .cells (x.map (Value.int .u32)).toArray 24 (0, 0)), (w.heap.size + 1, .cells #[.int .u32 0, .int .u32 0, .int .u32 0, .int .u32 0] 24 (0, 0)), (w.heap.size + 1 + 1, .cells (endc l) 83 (0, 0))]
theorem Kp3.put {w W : World} {x : Ws} {l : Dl} (h : Kp3 w W x l) {j : Nat} (hl : l.length = j) (hj : j < 35) (ho : Oks l) (z0 z1 z2 z3 : Int) :
    Kp3 w ((((W.setCell ⟨w.heap.size + 1 + 1, j * 4, none⟩ (.int .u32 z0)).setCell ⟨w.heap.size + 1 + 1, j * 4 + 1, none⟩ (.int .u32 z1)).setCell ⟨w.heap.size + 1 + 1, j * 4 + 2, none⟩ (.int .u32 z2)).setCell ⟨w.heap.size + 1 + 1, j * 4 + 3, none⟩ (.int .u32 z3)) x (l ++ [[z0, z1, z2, z3]]) :=
  h.afterq 2 rfl (.inr (by omega)) (((((Bx.rfl_ _ _).setn _ _).setn _ _).setn _ _).setn _ _) (put_end (h.at 2 rfl) hl hj ho z0 z1 z2 z3)
set_option maxRecDepth 100000 in
set_option maxHeartbeats 4000000 in
theorem public_code (seed : Ws) (w : World) (hs : Ok4 seed) (ht : Tabs w) :
    Calls Tryd.prog 51 #[ag seed] w fun e w' => e = .returned (ag (pubk seed)) ∧ Below w.heap.size w w' := by
  have o := pubk_ok hs
  have c1 := fun i w hi ht => beginning_code seed i w hs hi ht
  have c2 := fun w ht => publicOf_code (upto (ens seed) 35) w (upto_ok fun i hi => ens_ok hs hi) (upto_length _ _) ht
  have he := fun (i : Nat) (hi : i < 35) => ok4 (ens_ok hs (i := i) hi)
  have hbo := fun (i : Nat) (hi : i < 35) => bgn_ok hs (i := i) (by omega)
  have huo : ∀ j, j ≤ 35 → Oks (upto (ens seed) j) := fun j hj => upto_ok fun i hi => ens_ok hs (by omega)
  have HE := Lib.hid he
  have HBO := Lib.hid hbo
  have HUO := Lib.hid huo
  change Calls _ _ _ _ fun e w' => e = .returned (ag (pof (upto (ens seed) 35))) ∧ _
  change Ok4 (pof (upto (ens seed) 35)) at o
  obtain ⟨p0, p1, p2, p3, ep, _⟩ := ok4 o
  rw [ep] at c2 ⊢
  obtain ⟨x0, x1, x2, x3, ex, _⟩ := ok4 hs
  rw [show ag seed = .agg #[.int .u32 x0, .int .u32 x1, .int .u32 x2, .int .u32 x3] by rw [ex, ag4]] at c1 ⊢
  rw [ag4] at c2 ⊢
  have C1 := Lib.hid c1
  have C2 := Lib.hid c2
  have HT := Lib.hid ht
  have z48 := zero48
  have HK0 : Hid (Kp3 w (((w.alloc (.cells #[.int .u32 x0, .int .u32 x1, .int .u32 x2, .int .u32 x3] 24)).alloc (.cells #[.int .u32 0, .int .u32 0, .int .u32 0, .int .u32 0] 24)).alloc (.cells (endc []) 83)) [x0, x1, x2, x3] []) :=
    Lib.hid ((((Kx.nil none w).more (.cells #[.int .u32 x0, .int .u32 x1, .int .u32 x2, .int .u32 x3] 24 (0, 0))).add (w.heap.size + 1) (by simp) (.cells #[.int .u32 0, .int .u32 0, .int .u32 0, .int .u32 0] 24 (0, 0))).add (w.heap.size + 1 + 1) (by simp) (.cells (endc []) 83 (0, 0)))
  clear c1 c2 ht he hbo huo o ep ex hs
  go_enter Tryd.func51, Tryd.ntmps51
  go_wp2_with fail
  go_loopw [5] (fun v wr => ∃ j : Nat, j ≤ 35 ∧ v = .int .i64 (j : Int) ∧ Hid (Kp3 w wr [x0, x1, x2, x3] (upto (ens seed) j))) (fun v _ => 35 - (intOf v).toNat)
  case atStart => exact ⟨0, Nat.zero_le _, rfl, HK0⟩
  case round =>
    obtain ⟨j, hj, rfl, HK⟩ := hrel
    by_cases hlt : j < 35
    · have i0 : (0 : Int) ≤ (j : Int) := by omega
      have i1 : (j : Int) < 35 := by omega
      obtain ⟨z0, z1, z2, z3, ez, _⟩ := HE.out j hlt
      have ob := HBO.out j hlt
      have c1 := fun w ht => C1.out j w hlt ht
      obtain ⟨b0, b1, b2, b3, eb, _⟩ := ok4 ob
      rw [eb, ag4] at c1
      rw [eb] at ob
      have ew : wk 15 [b0, b1, b2, b3] = [z0, z1, z2, z3] := by rw [← eb]; exact ez
      have CB := Lib.hid c1
      have CW := Lib.hid (fun W ht => step_at (z := 15) (n := 15) W ob rfl (by omega) ew ht)
      have HZ : Hid (upto (ens seed) (j + 1) = upto (ens seed) j ++ [[z0, z1, z2, z3]]) := Lib.hid (by rw [upto_succ, ez])
      clear c1 ob eb ew ez
      obtain ⟨a0, a1, a2, a3, _⟩ := cells4 (HK.out.at 0 rfl)
      go_wp2_with fail
      refine (CB.out _ (HT.out.oldn HK.out)).mono ?_
      rintro e w1 ⟨rfl, hb⟩
      replace HK : Hid (Kp3 w w1 [x0, x1, x2, x3] (upto (ens seed) j)) := Lib.hid (HK.out.after hb)
      clear hb a0 a1 a2 a3
      go_wp2_with fail
      refine (walk_made _ _ _ _ _).mono ?_
      rintro e w2 ⟨rfl, rfl⟩
      go_wp2_with fail
      refine (CW.out _ (HT.out.oldn HK.out)).mono ?_
      rintro e w3 ⟨rfl, hb⟩
      replace HK : Hid (Kp3 w w3 [x0, x1, x2, x3] (upto (ens seed) j)) := Lib.hid (HK.out.after hb)
      clear hb
      obtain ⟨⟨a0, a1, a2, a3⟩, ⟨d0, d1, d2, d3⟩⟩ := end_cells (HK.out.at 2 rfl) (upto_length _ _) hlt (HUO.out j hj)
      have hk2 := HK.out.put (upto_length _ _) hlt (HUO.out j hj) z0 z1 z2 z3
      rw [← HZ.out] at hk2
      have HK2 := Lib.hid hk2
      clear hk2
      go_wp2_with fail
      go_roundw
      case rel => exact ⟨j + 1, by omega, by go_num, HK2⟩
      case measure => simp [intOf]; omega
    · obtain rfl : j = 35 := by omega
      have hsz : (Tryd.prog.info? 83).map (·.size) = some (endc (upto (ens seed) 35)).size := by rw [infoA, endc_size (HUO.out 35 (Nat.le_refl _)) (by rw [upto_length]; omega)]
      have HS := Lib.hid hsz
      have HF := Lib.hid (endc_full (upto_length (ens seed) 35))
      clear hsz
      go_wp2_with fail
      refine wp_load_row 83 _ rfl (w.heap.size + 1 + 1) rfl 83 (endc (upto (ens seed) 35)) (0, 0) _ (HK.out.at 2 rfl) Tryd.underlying83 rfl HS.out ?_
      rw [HF.out]
      go_wp2_with fail
      refine (C2.out _ (HT.out.oldn HK.out)).mono ?_
      rintro e w1 ⟨rfl, hb⟩
      replace HK : Hid (Kp3 w w1 [x0, x1, x2, x3] (upto (ens seed) 35)) := Lib.hid (HK.out.after hb)
      clear hb
      obtain ⟨b0, b1, b2, b3, d0, d1, d2, d3⟩ := cells4 (HK.out.at 1 rfl)
      have HR := Lib.hid (row4 (HK.out.at 1 rfl) (.int .u32 p0) (.int .u32 p1) (.int .u32 p2) (.int .u32 p3))
      have HE := Lib.hid (HK.out.put4 1 rfl (.inr (by omega)) (.int .u32 p0) (.int .u32 p1) (.int .u32 p2) (.int .u32 p3)).be.plain
      go_wp2_with fail
      exact bodyPost_ret (v := .agg #[.int .u32 p0, .int .u32 p1, .int .u32 p2, .int .u32 p3]) (by
        obtain ⟨k0, k1, k2, k3, _⟩ := cells4 HR.out
        simp [results, go_sem, k0, k1, k2, k3]) rfl ⟨rfl, HE.out⟩
end Go.Proofs.YtfbefenagnlnfaaDoor
set_option linter.unusedVariables false
namespace Go.Proofs.YtfbefenagnlnfaaDoor
open Go.RowKit

/-- What the reference's Public, Sign have made so far. -/
def Ks (w W : World) (x : Ws) : Prop := Kx none w W [(w.heap.size, .cells (x.map (Value.int .u32)).toArray 24 (0, 0)), (w.heap.size + 1, .cells #[.int .u32 0, .int .u32 0, .int .u32 0, .int .u32 0] 24 (0, 0))]
theorem Ks.grow {w W W' : World} {x : Ws} (h : Ks w W x) (c : Obj) {row : Option Nat} (hg : (W.alloc c).grownBy W' row) (hr : ∀ g, row = some g → w.heap.size + 2 ≤ g) : Ks w W' x := by
  have h2 : Ks w (W.alloc c) x := (h.more c).first 2
  refine Kx.grow h2 hg (fun g hk => ⟨by have := hr g hk; omega, fun y hy => ?_⟩)
  have := hr g hk
  simp only [List.mem_cons, List.not_mem_nil, or_false] at hy
  rcases hy with rfl | rfl <;> simp <;> omega
theorem upto_cells (f : Nat → Ws) (j : Nat) {z0 z1 z2 z3 : Int} (h : f j = [z0, z1, z2, z3]) : mcs (upto f (j + 1)) = mcs (upto f j) ++ [.int .u32 z0, .int .u32 z1, .int .u32 z2, .int .u32 z3] := by rw [upto_succ, h, mcs_snoc]
set_option maxRecDepth 100000 in
set_option maxHeartbeats 4000000 in
theorem public_ref (seed : Ws) (w : World) (hs : Ok4 seed) :
    Calls Tryd.prog 24 #[ag seed] w fun e w' => e = .returned (ag (pubk seed)) ∧ Below w.heap.size w w' := by
  have o := pubk_ok hs
  have c1 := fun i w hi => begin_ref seed i w hs hi
  have c2 := fun b cap w hr => ofr_row (upto (ens seed) 35) b 0 cap w (upto_length _ _) hr
  have he := fun (i : Nat) (hi : i < 35) => ok4 (ens_ok hs (i := i) hi)
  have hbo := fun (i : Nat) (hi : i < 35) => bgn_ok hs (i := i) (by omega)
  have huo : ∀ j, j ≤ 35 → Oks (upto (ens seed) j) := fun j hj => upto_ok fun i hi => ens_ok hs (by omega)
  have HE := Lib.hid he
  have HBO := Lib.hid hbo
  have HUO := Lib.hid huo
  change Calls _ _ _ _ fun e w' => e = .returned (ag (pof (upto (ens seed) 35))) ∧ _
  change Ok4 (pof (upto (ens seed) 35)) at o
  obtain ⟨p0, p1, p2, p3, ep, _⟩ := ok4 o
  rw [ep] at c2 ⊢
  obtain ⟨x0, x1, x2, x3, ex, _⟩ := ok4 hs
  rw [show ag seed = .agg #[.int .u32 x0, .int .u32 x1, .int .u32 x2, .int .u32 x3] by rw [ex, ag4]] at c1 ⊢
  rw [ag4] at c2 ⊢
  have C1 := Lib.hid c1
  have C2 := Lib.hid c2
  have HK0 : Hid (Ks w ((w.alloc (.cells #[.int .u32 x0, .int .u32 x1, .int .u32 x2, .int .u32 x3] 24)).alloc (.cells #[.int .u32 0, .int .u32 0, .int .u32 0, .int .u32 0] 24)) [x0, x1, x2, x3]) :=
    Lib.hid (((Kx.nil none w).more (.cells #[.int .u32 x0, .int .u32 x1, .int .u32 x2, .int .u32 x3] 24 (0, 0))).add (w.heap.size + 1) (by simp) (.cells #[.int .u32 0, .int .u32 0, .int .u32 0, .int .u32 0] 24 (0, 0)))
  obtain ⟨q0, hz, hz0, hz1, hz2⟩ := info_parts infoDg
  clear c1 c2 he hbo huo o ep ex hs
  go_enter Tryd.func24, Tryd.ntmps24
  go_wp2_with fail
  go_loopw [3, 4] (fun out v wr => ∃ j : Nat, j ≤ 35 ∧ v = .int .i64 (j : Int) ∧ Hid (Ks w wr [x0, x1, x2, x3]) ∧ Hid (wr.ownsRow (w.heap.size + 2) 24 4 out j (mcs (upto (ens seed) j)))) (fun _ v _ => 35 - (intOf v).toNat)
  case atStart => exact ⟨0, Nat.zero_le _, rfl, HK0, World.ownsRow_nil _ _ _ _⟩
  case round =>
    obtain ⟨j, hj, rfl, HK, HO⟩ := hrel
    by_cases hlt : j < 35
    · have i0 : (0 : Int) ≤ (j : Int) := by omega
      have i1 : (j : Int) < 35 := by omega
      obtain ⟨z0, z1, z2, z3, ez, _⟩ := HE.out j hlt
      have ob := HBO.out j hlt
      have c1 := fun w => C1.out j w hlt
      obtain ⟨b0, b1, b2, b3, eb, _⟩ := ok4 ob
      rw [eb, ag4] at c1
      rw [eb] at ob
      have cw := fun W => walk_ref [b0, b1, b2, b3] 15 W ob (by omega)
      rw [show wk 15 [b0, b1, b2, b3] = [z0, z1, z2, z3] by rw [← eb]; exact ez, ag4, ag4] at cw
      have CB := Lib.hid c1
      have CW : Hid (∀ W : World, Calls Tryd.prog 40 #[.agg #[.int .u32 b0, .int .u32 b1, .int .u32 b2, .int .u32 b3], .int .i64 15] W fun e w' => e = .returned (.agg #[.int .u32 z0, .int .u32 z1, .int .u32 z2, .int .u32 z3]) ∧ Below W.heap.size W w') := Lib.hid cw
      have HZ := Lib.hid (upto_cells (ens seed) j ez)
      clear c1 cw ob eb ez
      obtain ⟨a0, a1, a2, a3, _⟩ := cells4 (HK.out.at 0 rfl)
      go_wp2_with fail
      refine (CB.out _).mono ?_
      rintro e w1 ⟨rfl, hb⟩
      replace HK : Hid (Ks w w1 [x0, x1, x2, x3]) := Lib.hid (HK.out.after hb)
      replace HO := Lib.hid (own_keep HO.out hb)
      clear hb a0 a1 a2 a3
      go_wp2_with fail
      refine (CW.out _).mono ?_
      rintro e w3 ⟨rfl, hb⟩
      replace HK : Hid (Ks w w3 [x0, x1, x2, x3]) := Lib.hid (HK.out.after hb)
      replace HO := Lib.hid (own_keep HO.out hb)
      clear hb
      go_wp2_with (at_builtin; refine wpList_append_own _ rfl _ _ 35 rfl (w.heap.size + 2) 24 q0 _ 4 16 Tryd.underlying35 hz hz0 hz1 hz2 rfl (by decide) _ _ _ rfl (HO.out.alloc _) ⟨w3.heap.size, 0, none⟩ 1 1 [.int .u32 z0, .int .u32 z1, .int .u32 z2, .int .u32 z3] rfl rfl (World.news_of_block (cs := #[.int .u32 z0, .int .u32 z1, .int .u32 z2, .int .u32 z3]) (t := 24) (fr := (0, 0)) (heap_alloc_new w3 _)) (by simp [Value.oneCell']) ?c3 ?c4 ?c5 ?_)
      case c3 => unfold maxLen; omega
      case c4 => omega
      case c5 => have := HK.out.lt 1 rfl; simp; omega
      intro v' w4 hown1 hgrow1 _
      rw [← HZ.out] at hown1
      have HO2 := Lib.hid hown1
      have HK2 := Lib.hid (HK.out.grow _ hgrow1 (fun g hg => (HO.out.lt g hg).1))
      clear hown1 hgrow1
      go_wp2
      go_roundw
      case rel => exact ⟨j + 1, by omega, by go_num, HK2, HO2⟩
      case measure => simp [intOf]; omega
    · obtain rfl : j = 35 := by omega
      obtain ⟨g, cap, rfl, hg, _⟩ := own_shape4 HO.out (by omega)
      have HD := Lib.hid (DRow.own HO.out (HUO.out 35 (Nat.le_refl _)))
      go_wp2_with fail
      refine (C2.out _ _ _ HD.out).mono ?_
      rintro e w1 ⟨rfl, hb⟩
      replace HK : Hid (Ks w w1 [x0, x1, x2, x3]) := Lib.hid (HK.out.after hb)
      clear hb
      obtain ⟨b0, b1, b2, b3, d0, d1, d2, d3⟩ := cells4 (HK.out.at 1 rfl)
      have HR := Lib.hid (row4 (HK.out.at 1 rfl) (.int .u32 p0) (.int .u32 p1) (.int .u32 p2) (.int .u32 p3))
      have HE := Lib.hid (HK.out.put4 1 rfl (.inr (by omega)) (.int .u32 p0) (.int .u32 p1) (.int .u32 p2) (.int .u32 p3)).be.plain
      go_wp2_with fail
      exact bodyPost_ret (v := .agg #[.int .u32 p0, .int .u32 p1, .int .u32 p2, .int .u32 p3]) (by
        obtain ⟨k0, k1, k2, k3, _⟩ := cells4 HR.out
        simp [results, go_sem, k0, k1, k2, k3]) rfl ⟨rfl, HE.out⟩
end Go.Proofs.YtfbefenagnlnfaaDoor
