/- Trees of one-time keys as plain functions: seeds, keys, public keys, whether a signature holds, clashes on two ways up. The reference's Bytes of words. The reference of layer 6: the contracts of Seed and Keys. The reference of layer 6: the contracts of Public and Sign. Whether two lists of digests are the same: the contract of seedcornref06.List. The reference of layer 6: the contracts of Same and Check. The reference of layer 6: the contract of Use. -/
import Derived.Test.YtfbefenagnlnfaaDoorGMc
import Derived.Test.YtfbefenagnlnfaaDoorGOa
import Derived.Test.YtfbefenagnlnfaaDoorBytes
import Derived.Test.YtfbefenagnlnfaaDoorDigH
import Derived.Test.YtfbefenagnlnfaaDoorGOb
import Derived.Deep.QuietTactic
import Derived.BigQuiet
set_option linter.unusedVariables false
namespace Go.Proofs.YtfbefenagnlnfaaDoor

/-- The bytes whose digest is the seed of the key i; that seed; that key; all keys; the public key. -/
def kbs (seed : Ws) (i : Nat) : ByteArray := (⟨#[107]⟩ : ByteArray) ++ strOfNums (bytsAll (seed ++ [(i : Int)]))
def ksd (seed : Ws) (i : Nat) : Ws := dof (kbs seed i)
def kpk (seed : Ws) (i : Nat) : Ws := pubk (ksd seed i)
def kys (seed : Ws) (h : Nat) : Dl := upto (kpk seed) (2 ^ h)
def kpub (seed : Ws) (h : Nat) : Ws := mroot (kys seed h)
theorem kbs_size {seed : Ws} (h : Ok4 seed) (i : Nat) : (kbs seed i).size = 21 := by
  unfold kbs
  rw [ByteArray.size_append, strOfNums_size, length_bytsAll, List.length_append, h.1]
  rfl
theorem ksd_ok {seed : Ws} (h : Ok4 seed) (i : Nat) : Ok4 (ksd seed i) := dof_ok0 _ (by rw [kbs_size h]; omega)
theorem kpk_ok {seed : Ws} (h : Ok4 seed) (i : Nat) : Ok4 (kpk seed i) := pubk_ok (ksd_ok h i)
theorem kys_length (seed : Ws) (h : Nat) : (kys seed h).length = 2 ^ h := upto_length _ _
theorem kys_ok {seed : Ws} (h : Ok4 seed) (k : Nat) : Oks (kys seed k) := upto_ok fun i _ => kpk_ok h i
theorem kys_get (seed : Ws) {h i : Nat} (hi : i < 2 ^ h) : (kys seed h)[i]? = some (kpk seed i) := upto_get _ hi
theorem kys_getD (seed : Ws) {h i : Nat} (hi : i < 2 ^ h) : (kys seed h).getD i [] = kpk seed i := upto_getD _ hi
theorem kpub_ok {seed : Ws} (h : Ok4 seed) (k : Nat) : Ok4 (kpub seed k) := (kys_ok h k).mroot
theorem two_le {h : Nat} (hh : h ≤ 4) : 2 ^ h ≤ 16 := by
  have : ∀ h, h ≤ 4 → 2 ^ h ≤ 16 := by decide
  exact this h hh

/-- Up one level from the place i; all the way up. -/
def lvl (i : Nat) (a x : Ws) : Ws := if i % 2 = 1 then pair x a else pair a x
def clb : Nat → Ws → Dl → Ws
  | _, a, [] => a
  | i, a, x :: p => clb (i / 2) (lvl i a x) p
theorem clb_snoc (x : Ws) : ∀ (p : Dl) (i : Nat) (a : Ws), clb i a (p ++ [x]) = lvl (i / 2 ^ p.length) (clb i a p) x
  | [], i, a => by simp [clb]
  | y :: p, i, a => by
    rw [List.cons_append, clb, clb_snoc x p, clb, List.length_cons, Nat.pow_succ, Nat.mul_comm, Nat.div_div_eq_div_mul]
theorem lvl_mod (i k : Nat) (a x : Ws) (h : i % 2 = k % 2) : lvl i a x = lvl k a x := by simp [lvl, h]
theorem clb_mod : ∀ (p : Dl) (i k : Nat) (a : Ws), i % 2 ^ p.length = k % 2 ^ p.length → clb i a p = clb k a p
  | [], _, _, _, _ => rfl
  | y :: p, i, k, a, h => by
    rw [List.length_cons] at h
    have hp : 0 < 2 ^ p.length := Nat.pow_pos (by omega)
    have h1 : i % 2 = k % 2 := by
      have := congrArg (· % 2) h
      simp only [Nat.mod_mod_of_dvd _ (show 2 ∣ 2 ^ (p.length + 1) from ⟨2 ^ p.length, by rw [Nat.pow_succ, Nat.mul_comm]⟩)] at this
      exact this
    rw [clb, clb, lvl_mod i k a y h1]
    refine clb_mod p _ _ _ ?_
    have h2 := congrArg (· / 2) h
    rw [Nat.pow_succ] at h2
    simp only [Nat.mul_comm (2 ^ p.length) 2, Nat.mod_mul_right_div_self] at h2
    exact h2
theorem hf_two (L : Nat) : hf (2 ^ (L + 1)) = 2 ^ L := by
  have hp : 0 < 2 ^ L := Nat.pow_pos (by omega)
  exact hf_eq (by rw [Nat.pow_succ]; omega) (by rw [Nat.pow_succ]; omega)
theorem split_last {p : Dl} {L : Nat} (h : p.length = L + 1) : p ≠ [] ∧ p = p.dropLast ++ [p.getLastD []] ∧ p.dropLast.length = L := by
  have hp : p ≠ [] := by intro e; rw [e] at h; simp at h
  refine ⟨hp, ?_, by rw [List.length_dropLast, h]; rfl⟩
  have := List.dropLast_concat_getLast hp
  rw [List.getLastD_eq_getLast?, List.getLast?_eq_some_getLast hp]
  exact this.symm
theorem cr_full : ∀ (L i : Nat) (a : Ws) (p : Dl), p.length = L → i < 2 ^ L → mcr (2 ^ L) i a p = (clb i a p, true, []) := by
  intro L
  induction L with
  | zero =>
    intro i a p hp hi
    have : p = [] := List.length_eq_zero_iff.1 hp
    subst this
    rw [cr_one (by simp)]; rfl
  | succ L ih =>
    intro i a p hp hi
    obtain ⟨hn, hs, hl⟩ := split_last hp
    have h2 : 2 ≤ 2 ^ (L + 1) := by have : 0 < 2 ^ L := Nat.pow_pos (by omega); rw [Nat.pow_succ]; omega
    have hpw : 2 ^ (L + 1) = 2 ^ L + 2 ^ L := by rw [Nat.pow_succ]; omega
    have hp0 : 0 < 2 ^ L := Nat.pow_pos (by omega)
    by_cases hlt : i < 2 ^ L
    · rw [cr_left h2 hn (by rw [hf_two]; exact hlt), hf_two, ih i a _ hl hlt]
      conv => rhs; rw [hs, clb_snoc, hl, Nat.div_eq_of_lt hlt]
      simp [lvl]
    · have e : clb (i - 2 ^ L) a p.dropLast = clb i a p.dropLast := clb_mod _ _ _ _ (by rw [hl, ← Nat.mod_eq_sub_mod (by omega)])
      have e1 : i / 2 ^ L = 1 := by
        rw [Nat.div_eq_iff hp0]; omega
      rw [cr_right h2 hn (by rw [hf_two]; exact hlt), hf_two, show 2 ^ (L + 1) - 2 ^ L = 2 ^ L by omega, ih (i - 2 ^ L) a _ hl (by omega), e]
      conv => rhs; rw [hs, clb_snoc, hl, e1]
      simp [lvl]
theorem chk_full (root : Ws) {L i : Nat} (a : Ws) {p : Dl} (hp : p.length = L) (hi : i < 2 ^ L) : chk root (2 ^ L) i a p = same (clb i a p) root := by
  unfold chk
  rw [cr_full L i a p hp hi]
  simp
theorem way_full : ∀ (L : Nat) (l : Dl) (i : Nat), l.length = 2 ^ L → i < 2 ^ L → (mway l i).length = L := by
  intro L
  induction L with
  | zero => intro l i hl hi; rw [way_small (by rw [hl]; decide)]; rfl
  | succ L ih =>
    intro l i hl hi
    have hp0 : 0 < 2 ^ L := Nat.pow_pos (by omega)
    have hpw : 2 ^ (L + 1) = 2 ^ L + 2 ^ L := by rw [Nat.pow_succ]; omega
    have hh : hf l.length = 2 ^ L := by rw [hl, hf_two]
    by_cases hlt : i < 2 ^ L
    · rw [way_left (by omega) (by rw [hh]; exact hlt), hh, List.length_append, ih _ _ (by rw [List.length_take]; omega) hlt]; rfl
    · rw [way_right (by omega) (by rw [hh]; exact hlt), hh, List.length_append, ih _ _ (by rw [List.length_drop]; omega) (by omega)]; rfl
theorem clb_way {L : Nat} {l : Dl} {i : Nat} (hl : l.length = 2 ^ L) (hi : i < 2 ^ L) : clb i (l.getD i []) (mway l i) = mroot l := by
  have h := up_way (2 ^ L) l i hl hi
  have hc := cr_full L i (l.getD i []) (mway l i) (way_full L l i hl hi) hi
  have k := (cr_up (2 ^ L) i (l.getD i []) (mway l i)).2 (by rw [hc])
  rw [h, hc] at k
  exact k.symm
/-- Do both ways up show two unlike pairs with one digest? -/
def ksh : Nat → Ws → Dl → Ws → Dl → Bool
  | i, a, x :: p, b, y :: q => (!(same a b && same x y) && same (lvl i a x) (lvl i b y)) || ksh (i / 2) (lvl i a x) p (lvl i b y) q
  | _, _, _, _, _ => false
theorem ksh_of : ∀ (p q : Dl) (i : Nat) (a b : Ws), p.length = q.length → clb i a p = clb i b q → a = b ∨ ksh i a p b q = true
  | [], [], i, a, b, _, h => .inl h
  | [], _ :: _, _, _, _, h, _ => by simp at h
  | _ :: _, [], _, _, _, h, _ => by simp at h
  | x :: p, y :: q, i, a, b, hl, h => by
    by_cases hab : a = b
    · exact .inl hab
    · right
      rw [clb, clb] at h
      have hl' : p.length = q.length := by simpa using hl
      rcases ksh_of p q _ _ _ hl' h with he | he
      · rw [ksh, he, same_no hab, same_self]; rfl
      · rw [ksh, he, Bool.or_true]
/-- Does it hold? -/
def khd (pub msg : Ws) (idx : Int) (one path : Dl) : Bool :=
  decide (path.length ≤ 4) && decide (one.length = 35) && decide (0 ≤ idx ∧ idx < 2 ^ path.length) && same (clb idx.toNat (rch msg one) path) pub
theorem khd_sig {seed msg : Ws} {h i : Nat} (hh : h ≤ 4) (hi : i < 2 ^ h) : khd (kpub seed h) msg (i : Int) (sgn (ksd seed i) msg) (mway (kys seed h) i) = true := by
  have hw := way_full h (kys seed h) i (kys_length _ _) hi
  have hc := clb_way (l := kys seed h) (kys_length _ _) hi
  rw [kys_getD seed hi] at hc
  have hi2 : (i : Int) < 2 ^ h := by exact_mod_cast hi
  unfold khd
  rw [hw, rch_sgn, Int.toNat_natCast, show pubk (ksd seed i) = kpk seed i from rfl, hc, show mroot (kys seed h) = kpub seed h from rfl, same_self]
  have h35 : (sgn (ksd seed i) msg).length = 35 := upto_length _ _
  simp [h35, hh, hi2]
end Go.Proofs.YtfbefenagnlnfaaDoor
set_option linter.unusedVariables false
namespace Go.Proofs.YtfbefenagnlnfaaDoor
open Go.RowKit

def byN : Nat → Int → List Int
  | 0, _ => []
  | n + 1, c => c % 256 :: byN n (c / 256)
theorem byN_byts (z : Int) (z0 : 0 ≤ z) (z1 : z < 4294967296) : byN 4 z = byts z := by
  simp only [byN, byts]
  rw [show z / 256 / 256 = z / 65536 by omega, show z / 65536 / 256 = z / 16777216 by omega, show z / 16777216 % 256 = z / 16777216 by omega]

set_option maxRecDepth 100000 in
set_option maxHeartbeats 1000000 in
theorem ref_bytes_row (b off len cap : Nat) (zs : List Int) (w : World) (hz : zs.length = len) (hl : len ≤ 4096) (hp : 0 < len) (hb : b < w.heap.size)
    (hc : ∀ j, j < len → w.cell? ⟨b, off + j, none⟩ = some (.int .u32 (zs.getD j 0))) (hw : ∀ j, 0 ≤ zs.getD j 0 ∧ zs.getD j 0 < 4294967296) :
    Calls Tryd.prog 45 #[.slice (some ⟨b, off, none⟩) len cap] w fun e w' => e = .returned (.string (strOfNums (bytsAll zs))) ∧ Below w.heap.size w w' := by
  obtain ⟨i0, hi, hz0, hz1, hz2⟩ := info_parts info5
  go_enter Tryd.func45, Tryd.ntmps45
  go_wp2_with (at_make; refine wpList_make_own _ rfl _ _ 95 rfl w.heap.size 5 i0 (.int .u8 0) 1 Tryd.underlying95 hi hz0 hz1 _ _ _ (4 * len) rfl rfl (by omega) ?b2 ?b3 (Nat.le_refl _) ?_)
  case b2 => rw [hz2]; omega
  case b3 => unfold maxLen; omega
  intro w0 hown0 hgrow0
  go_wp2
  go_loopw [3, 4] (fun out si wr => ∃ k : Nat, k ≤ len ∧ si = .int .i64 k ∧ out = .slice (some ⟨w.heap.size, 0, none⟩) (4 * k) (4 * len) ∧
      wr.ownsRow w.heap.size 5 1 (.slice (some ⟨w.heap.size, 0, none⟩) (4 * k) (4 * len)) (4 * k) ((bytsAll (zs.take k)).map (Value.int .u8)) ∧ Below w.heap.size w wr)
    (fun _ si _ => len - (intOf si).toNat)
  case atStart => exact ⟨0, Nat.zero_le _, rfl, rfl, hown0, (Below.refl _ _).grown hgrow0 (Nat.le_refl _) (fun k h => by cases h)⟩
  case round =>
    obtain ⟨k, hk, rfl, rfl, hown, hnx⟩ := hrel
    by_cases hlt : k < len
    · have hcx : wr.cell? ⟨b, off + k, none⟩ = some (.int .u32 (zs.getD k 0)) := (hnx.cell (by exact hb)).trans (hc k hlt)
      obtain ⟨z, hzk⟩ : ∃ z, z = zs.getD k 0 := ⟨_, rfl⟩
      have hz0' := hw k
      rw [← hzk] at hcx hz0'
      have HZ := Lib.hid hzk
      have HC := Lib.hid hc
      have HW := Lib.hid hw
      clear hzk hw hc
      obtain ⟨z0, z1⟩ := hz0'
      have HBZ := Lib.hid (byN_byts z z0 z1)
      go_wp2
      obtain ⟨wo, rfl⟩ : ∃ wo : World, wo = wr := ⟨_, rfl⟩
      go_loopw [3, 5, 6] (fun out sn sj wr => ∃ (j : Nat) (c : Int) (xs : List Int), j ≤ 4 ∧ sj = .int .i64 j ∧ sn = .int .u32 c ∧ 0 ≤ c ∧ c < 4294967296 ∧ Hid (xs ++ byN (4 - j) c = bytsAll (zs.take k) ++ byN 4 z) ∧
          out = .slice (some ⟨w.heap.size, 0, none⟩) (4 * k + j) (4 * len) ∧
          wr.ownsRow w.heap.size 5 1 (.slice (some ⟨w.heap.size, 0, none⟩) (4 * k + j) (4 * len)) (4 * k + j) (xs.map (Value.int .u8)) ∧ Below w.heap.size w wr)
        (fun _ _ sj _ => 4 - (intOf sj).toNat)
      case atStart => exact ⟨0, z, bytsAll (zs.take k), by omega, rfl, rfl, z0, z1, rfl, rfl, hown, hnx⟩
      case round =>
        obtain ⟨j, c, xs, hj, rfl, rfl, c0, c1, HX, rfl, hown2, hnx2⟩ := hrel
        by_cases hlt2 : j < 4
        · go_wp2_with (at_builtin; refine wpList_append_fits _ rfl (.tmp 25) (.tmp 29) 95 rfl w.heap.size 5 i0 1 Tryd.underlying95 hi hz1 w.heap.size (4 * k + j) (4 * len) _ rfl (hown2.alloc _) ⟨wr.heap.size, 0, none⟩ 1 1 ([c % 256].map (Value.int .u8)) rfl rfl (one_new _ _ _) (ints_oneCell _ _) (by omega) ?_; intro w1 hown1 hgrow1)
          go_roundw
          case rel => exact ⟨j + 1, c / 256, xs ++ [c % 256], by omega, by go_num, rfl, by omega, by omega, by show _ = _; rw [← HX.out, show 4 - j = (4 - (j + 1)) + 1 by omega, List.append_assoc]; rfl, rfl, by rw [List.map_append]; exact hown1, (hnx2.alloc hnx2.size _).grown hgrow1 (by simp; have := hnx2.size; omega) (fun k hk => by cases hk; exact Nat.le_refl _)⟩
          case measure => simp [intOf]; omega
        · obtain rfl : j = 4 := by omega
          have hx2 := HX.out
          rw [HBZ.out, HZ.out, ← bytsAll_snoc zs k (by omega)] at hx2
          simp only [byN, List.append_nil, Nat.sub_self] at hx2
          have HX2 := Lib.hid hx2
          clear hx2
          go_wp2
          go_roundw
          case rel => exact ⟨k + 1, by omega, by go_num, by rw [Nat.mul_add], by rw [Nat.mul_add, ← HX2.out]; exact hown2, hnx2⟩
          case measure => simp [intOf]; omega
    · have hkl : k = len := by omega
      subst hkl
      have hcells : ∀ i, i < 4 * k → wr.cell? ⟨w.heap.size, 0 + i, none⟩ = some (.int .u8 ((bytsAll (zs.take k)).getD i 0)) := by
        intro i hi
        have hlen : (bytsAll (zs.take k)).length = 4 * k := by rw [length_bytsAll, List.length_take]; omega
        rw [Nat.zero_add, hown.cellAt i (by omega)]
        simp [List.getElem?_map, List.getD, List.getElem?_eq_getElem (show i < (bytsAll (zs.take k)).length by omega)]
      have hcv := run_convert_bytes_arg (P := Tryd.prog) wr 95 5 Tryd.underlying95 Tryd.underlying5 w.heap.size 0 (4 * k) (4 * k) (bytsAll (zs.take k)) (by rw [length_bytsAll, List.length_take]; omega) hcells 9 Tryd.underlying9
      rw [List.take_of_length_le (by omega)] at hcv
      clear hcells hc
      go_wp2
      go_ret
      exact ⟨rfl, hnx⟩
end Go.Proofs.YtfbefenagnlnfaaDoor
set_option linter.unusedVariables false
namespace Go.Proofs.YtfbefenagnlnfaaDoor
open Go.RowKit

theorem w32_lt5 {x : Int} (h : W32 x) : 0 ≤ x ∧ x < 4294967296 := ⟨h.1, by have := h.2; omega⟩
theorem five_new (w : World) (a b c d e : Int) (t : TypeId) : ∀ j, j < 5 → (w.alloc (.cells #[.int .u32 a, .int .u32 b, .int .u32 c, .int .u32 d, .int .u32 e] t)).cell? ⟨w.heap.size, 0 + j, none⟩ = some (.int .u32 ([a, b, c, d, e].getD j 0)) := by
  intro j hj
  match j, hj with
  | 0, _ | 1, _ | 2, _ | 3, _ | 4, _ => simp
set_option maxRecDepth 100000 in
set_option maxHeartbeats 1000000 in
theorem seed_ref (seed : Ws) (i : Nat) (w : World) (hs : Ok4 seed) (hi : i < 4294967296) :
    Calls Tryd.prog 25 #[ag seed, .int .i64 (i : Int)] w fun e w' => e = .returned (ag (ksd seed i)) ∧ Below w.heap.size w w' := by
  have o := ksd_ok hs i
  have hsz := kbs_size hs i
  have c2 := fun w => of_ref (kbs seed i) w (by rw [hsz]; omega)
  rw [show dof (kbs seed i) = ksd seed i from rfl] at c2
  obtain ⟨z0, z1, z2, z3, e, _⟩ := ok4 o
  rw [e] at c2 ⊢
  obtain ⟨x0, x1, x2, x3, rfl, k0, k1, k2, k3⟩ := ok4 hs
  have c1 := fun (w : World) (q : Nat) (hq : w.heap.size = q) => ref_bytes_row q 0 5 5 [x0, x1, x2, x3, (i : Int)] (w.alloc (.cells #[.int .u32 x0, .int .u32 x1, .int .u32 x2, .int .u32 x3, .int .u32 (i : Int)] 22)) rfl (by omega) (by omega) (by simp; omega) (hq ▸ five_new w _ _ _ _ _ _) (by
    intro j
    match j with
    | 0 => exact w32_lt5 k0
    | 1 => exact w32_lt5 k1
    | 2 => exact w32_lt5 k2
    | 3 => exact w32_lt5 k3
    | 4 => simp; omega
    | n + 5 => simp)
  have hk : kbs [x0, x1, x2, x3] i = (⟨#[107]⟩ : ByteArray) ++ strOfNums (bytsAll [x0, x1, x2, x3, (i : Int)]) := rfl
  obtain ⟨S, hS⟩ : ∃ S, strOfNums (bytsAll [x0, x1, x2, x3, (i : Int)]) = S := ⟨_, rfl⟩
  obtain ⟨T, hT⟩ : ∃ T, kbs [x0, x1, x2, x3] i = T := ⟨_, rfl⟩
  rw [hT] at hk c2 hsz
  rw [hS] at hk c1
  have hk2 : (⟨#[107]⟩ : ByteArray) ++ S = T := hk.symm
  rw [ag4] at c2
  rw [ag4, ag4]
  have C1 := Lib.hid c1
  have C2 := Lib.hid c2
  have HK := Lib.hid (((Kx.nil none w).more (.cells #[.int .u32 x0, .int .u32 x1, .int .u32 x2, .int .u32 x3] 24 (0, 0))).add (w.heap.size + 1) (by simp) (.cells #[.int .u32 0, .int .u32 0, .int .u32 0, .int .u32 0] 24 (0, 0)))
  have i0 : (0 : Int) ≤ (i : Int) := by omega
  have i1 : (i : Int) < 4294967296 := by omega
  have i2 : (i : Int) % 4294967296 = (i : Int) := by omega
  have hss : S.size = 20 := by
    have h := hsz
    rw [← hk2, ByteArray.size_append] at h
    have h1 : (⟨#[107]⟩ : ByteArray).size = 1 := rfl
    omega
  obtain ⟨m, hm⟩ : ∃ m, m = 20 := ⟨_, rfl⟩
  have q0 : S.size = m := by rw [hss, hm]
  have q1 : ((⟨#[107]⟩ : ByteArray) ++ S).size = 1 + m := by rw [ByteArray.size_append, q0]; rfl
  have i3 : ¬ 9223372036854775807 < 1 + m := by omega
  have HTK := Lib.hid hk2
  clear c1 c2 e o hs hk hS hT hsz hk2 hm hss
  go_enter Tryd.func25, Tryd.ntmps25
  go_wp2_with fail
  refine (C1.out _ _ (by simp)).mono ?_
  rintro e w1 ⟨rfl, hb⟩
  replace HK := Lib.hid ((HK.out.more (.cells #[.int .u32 x0, .int .u32 x1, .int .u32 x2, .int .u32 x3, .int .u32 (i : Int)] 22)).after hb)
  clear hb
  go_wp2_with fail
  rw [HTK.out]
  refine (C2.out _).mono ?_
  rintro e w2 ⟨rfl, hb⟩
  replace HK := Lib.hid (HK.out.after hb)
  clear hb
  obtain ⟨a0, a1, a2, a3, d0, d1, d2, d3⟩ := cells4 (HK.out.at 1 rfl)
  have HR := Lib.hid (row4 (HK.out.at 1 rfl) (.int .u32 z0) (.int .u32 z1) (.int .u32 z2) (.int .u32 z3))
  have HE := Lib.hid (HK.out.put4 1 rfl (.inr (by simp)) (.int .u32 z0) (.int .u32 z1) (.int .u32 z2) (.int .u32 z3)).be.plain
  go_wp2_with fail
  exact bodyPost_ret (v := .agg #[.int .u32 z0, .int .u32 z1, .int .u32 z2, .int .u32 z3]) (by
    obtain ⟨k0, k1, k2, k3, _⟩ := cells4 HR.out
    simp [results, go_sem, k0, k1, k2, k3]) rfl ⟨rfl, HE.out⟩
/-- What the reference's Keys gives: a row of its own. -/
def KyE (w : World) (l : Dl) (n : Nat) (e : Ending) (w' : World) : Prop := ∃ g cap, e = .returned (.slice (some ⟨g, 0, none⟩) n cap) ∧ n ≤ cap ∧ cap ≤ maxLen ∧ DRow w' g 0 l ∧ w.heap.size ≤ g ∧ Below w.heap.size w w'
def Ks1 (w W : World) (x : Ws) : Prop := Kx none w W [(w.heap.size, .cells (x.map (Value.int .u32)).toArray 24 (0, 0))]
theorem Ks1.grow {w W W' : World} {x : Ws} (h : Ks1 w W x) (c : Obj) {row : Option Nat} (hg : (W.alloc c).grownBy W' row) (hr : ∀ g, row = some g → w.heap.size + 1 ≤ g) : Ks1 w W' x := by
  have h2 : Ks1 w (W.alloc c) x := (h.more c).first 1
  refine Kx.grow h2 hg (fun g hk => ⟨by have := hr g hk; omega, fun y hy => ?_⟩)
  have := hr g hk
  simp only [List.mem_cons, List.not_mem_nil, or_false] at hy
  rcases hy with rfl <;> simp <;> omega
set_option maxRecDepth 100000 in
set_option maxHeartbeats 4000000 in
theorem keys_ref (seed : Ws) (h : Nat) (w : World) (hs : Ok4 seed) (hh : h ≤ 4) :
    Calls Tryd.prog 23 #[ag seed, .int .i64 (h : Int)] w (KyE w (kys seed h) (2 ^ h)) := by
  have c1 := fun i w hi => seed_ref seed i w hs hi
  have c2 := fun i w => public_ref (ksd seed i) w (ksd_ok hs i)
  have hso := fun i => ok4 (ksd_ok hs i)
  have hko := fun i => ok4 (kpk_ok hs i)
  have h16 := two_le hh
  obtain ⟨N, hN⟩ : ∃ N, 2 ^ h = N := ⟨_, rfl⟩
  have huo : Oks (upto (kpk seed) N) := upto_ok fun i _ => kpk_ok hs i
  unfold kys
  rw [hN] at h16 ⊢
  have hN1 : 1 ≤ N := by rw [← hN]; exact Nat.pow_pos (by omega)
  have HN := Lib.hid hN
  have HUO := Lib.hid huo
  have HSO := Lib.hid hso
  have HKO := Lib.hid hko
  obtain ⟨x0, x1, x2, x3, rfl, _⟩ := ok4 hs
  rw [ag4] at c1 ⊢
  have C1 := Lib.hid c1
  have C2 := Lib.hid c2
  have HK0 : Hid (Ks1 w (w.alloc (.cells #[.int .u32 x0, .int .u32 x1, .int .u32 x2, .int .u32 x3] 24)) [x0, x1, x2, x3]) :=
    Lib.hid ((Kx.nil none w).more (.cells #[.int .u32 x0, .int .u32 x1, .int .u32 x2, .int .u32 x3] 24 (0, 0)))
  obtain ⟨q0, hz, hz0, hz1, hz2⟩ := info_parts infoDg
  clear c1 c2 hso hko huo hs hN
  go_enter Tryd.func23, Tryd.ntmps23
  go_wp2_with fail
  go_loopw [5, 6] (fun v u wr => ∃ j : Nat, j ≤ h ∧ v = .int .i64 ((2 ^ j : Nat) : Int) ∧ u = .int .i64 (j : Int) ∧ wr = w.alloc (.cells #[.int .u32 x0, .int .u32 x1, .int .u32 x2, .int .u32 x3] 24)) (fun _ u _ => h - (intOf u).toNat)
  case atStart => exact ⟨0, Nat.zero_le _, rfl, rfl, rfl⟩
  case round =>
    obtain ⟨j, hj, rfl, rfl, rfl⟩ := hrel
    have hp := two_le (h := j) (by omega)
    obtain ⟨P, hP⟩ : ∃ P, 2 ^ j = P := ⟨_, rfl⟩
    rw [hP] at hp ⊢
    by_cases hlt : j < h
    · have i1 : (j : Int) < (h : Int) := by omega
      have HP : Hid (P * 2 = 2 ^ (j + 1)) := Lib.hid (by rw [Nat.pow_succ, hP])
      clear hP
      go_wp2_with fail
      go_roundw
      case rel => exact ⟨j + 1, by omega, by rw [← HP.out]; go_num, by go_num, by simp⟩
      case measure => simp [intOf]; omega
    · obtain rfl : j = h := by omega
      have e : P = N := by rw [← hP, HN.out]
      subst e
      have u0 : ¬ (j : Int) < (j : Int) := by omega
      clear hP
      go_wp2_with fail
      go_loopw [7, 8] (fun out v wr => ∃ j : Nat, j ≤ P ∧ v = .int .i64 (j : Int) ∧ Hid (Ks1 w wr [x0, x1, x2, x3]) ∧ Hid (wr.ownsRow (w.heap.size + 1) 24 4 out j (mcs (upto (kpk [x0, x1, x2, x3]) j)))) (fun _ v _ => P - (intOf v).toNat)
      case atStart => exact ⟨0, Nat.zero_le _, rfl, HK0, World.ownsRow_nil _ _ _ _⟩
      case round =>
        obtain ⟨k, hk, rfl, HK, HO⟩ := hrel
        by_cases hlt2 : k < P
        · have i0 : (0 : Int) ≤ (k : Int) := by omega
          have i1 : (k : Int) < (P : Int) := by omega
          obtain ⟨z0, z1, z2, z3, ez, _⟩ := HKO.out k
          obtain ⟨b0, b1, b2, b3, eb, _⟩ := HSO.out k
          have c1 := fun w => C1.out k w (by omega)
          have c2 := C2.out k
          rw [show pubk (ksd [x0, x1, x2, x3] k) = kpk [x0, x1, x2, x3] k from rfl, ez] at c2
          rw [eb, ag4] at c1 c2
          rw [ag4] at c2
          have CB := Lib.hid c1
          have CW := Lib.hid c2
          have HZ := Lib.hid (upto_cells (kpk [x0, x1, x2, x3]) k ez)
          clear c1 c2 eb ez
          obtain ⟨a0, a1, a2, a3, _⟩ := cells4 (HK.out.at 0 rfl)
          go_wp2_with fail
          refine (CB.out _).mono ?_
          rintro e w1 ⟨rfl, hb⟩
          replace HK : Hid (Ks1 w w1 [x0, x1, x2, x3]) := Lib.hid (HK.out.after hb)
          replace HO := Lib.hid (own_keep HO.out hb)
          clear hb a0 a1 a2 a3
          go_wp2_with fail
          refine (CW.out _).mono ?_
          rintro e w3 ⟨rfl, hb⟩
          replace HK : Hid (Ks1 w w3 [x0, x1, x2, x3]) := Lib.hid (HK.out.after hb)
          replace HO := Lib.hid (own_keep HO.out hb)
          clear hb
          go_wp2_with (at_builtin; refine wpList_append_own _ rfl _ _ 35 rfl (w.heap.size + 1) 24 q0 _ 4 16 Tryd.underlying35 hz hz0 hz1 hz2 rfl (by decide) _ _ _ rfl (HO.out.alloc _) ⟨w3.heap.size, 0, none⟩ 1 1 [.int .u32 z0, .int .u32 z1, .int .u32 z2, .int .u32 z3] rfl rfl (four_new _ _ _ _ _ _) (ints_oneCell _ [z0, z1, z2, z3]) ?c3 ?c4 ?c5 ?_)
          case c3 => unfold maxLen; omega
          case c4 => omega
          case c5 => have := HK.out.lt 0 rfl; simp; omega
          intro v' w4 hown1 hgrow1 _
          rw [← HZ.out] at hown1
          have HO2 := Lib.hid hown1
          have HK2 := Lib.hid (HK.out.grow _ hgrow1 (fun g hg => (HO.out.lt g hg).1))
          clear hown1 hgrow1
          go_wp2
          go_roundw
          case rel => exact ⟨k + 1, by omega, by go_num, HK2, HO2⟩
          case measure => simp [intOf]; omega
        · obtain rfl : k = P := by omega
          obtain ⟨g, cap, rfl, hg, hc1, hc2⟩ := own_shape4 HO.out (by omega)
          have HD := Lib.hid (DRow.own HO.out HUO.out)
          have HB := Lib.hid HK.out.be.plain
          have u1 : ¬ (k : Int) < (k : Int) := by omega
          go_wp2_with fail
          go_ret
          exact ⟨g, cap, rfl, hc1, hc2, HD.out, by omega, HB.out⟩
end Go.Proofs.YtfbefenagnlnfaaDoor
set_option linter.unusedVariables false
namespace Go.Proofs.YtfbefenagnlnfaaDoor
open Go.RowKit

set_option maxHeartbeats 1000000 in
theorem public6r_no (seed : Ws) (h : Int) (w : World) (hs : Ok4 seed) (hh : h < 0 ∨ 4 < h) :
    Calls Tryd.prog 12 #[ag seed, .int .i64 h] w fun e w' => e = .returned (.tuple #[.agg #[.int .u32 0, .int .u32 0, .int .u32 0, .int .u32 0], .int .i64 2]) ∧ Below w.heap.size w w' := by
  obtain ⟨x0, x1, x2, x3, rfl, _⟩ := ok4 hs
  rw [ag4]
  have HK := Lib.hid (((Kx.nil none w).more (.cells #[.int .u32 x0, .int .u32 x1, .int .u32 x2, .int .u32 x3] 24 (0, 0))).add (w.heap.size + 1) (by simp) (.cells #[.int .u32 0, .int .u32 0, .int .u32 0, .int .u32 0] 24 (0, 0)))
  clear hs
  by_cases h0 : h < 0
  · clear hh
    go_enter Tryd.func12, Tryd.ntmps12
    go_wp2_with fail
    exact bodyPost_ret (v := .tuple #[.agg #[.int .u32 0, .int .u32 0, .int .u32 0, .int .u32 0], .int .i64 2]) (by simp [results, go_sem]) rfl ⟨rfl, HK.out.be.plain⟩
  · have h1 : 4 < h := by omega
    clear hh
    go_enter Tryd.func12, Tryd.ntmps12
    go_wp2_with fail
    exact bodyPost_ret (v := .tuple #[.agg #[.int .u32 0, .int .u32 0, .int .u32 0, .int .u32 0], .int .i64 2]) (by simp [results, go_sem]) rfl ⟨rfl, HK.out.be.plain⟩
set_option maxRecDepth 100000 in
set_option maxHeartbeats 2000000 in
theorem public6r_yes (seed : Ws) (h : Nat) (w : World) (hs : Ok4 seed) (hh : h ≤ 4) (ht : Tabs w) :
    Calls Tryd.prog 12 #[ag seed, .int .i64 (h : Int)] w fun e w' => e = .returned (.tuple #[ag (kpub seed h), .int .i64 0]) ∧ Below w.heap.size w w' := by
  have o := kpub_ok hs h
  have c1 := fun w => keys_ref seed h w hs hh
  have h16 := two_le hh
  have hl := kys_length seed h
  have c2 := fun (A : Option Addr) (cap : Nat) (w : World) (hc : 2 ^ h ≤ cap) (hm : cap ≤ 9223372036854775807) (hd : Dd w A (kys seed h)) (ht : Tabs w) => rootr_any (A := A) (n := 2 ^ h) w hl (by omega) hc hm hd ht
  rw [show mroot (kys seed h) = kpub seed h from rfl] at c2
  obtain ⟨p0, p1, p2, p3, e, _⟩ := ok4 o
  rw [e, ag4] at c2
  rw [e, ag4]
  obtain ⟨l, hl2⟩ : ∃ l, kys seed h = l := ⟨_, rfl⟩
  obtain ⟨N, hN⟩ : ∃ N, 2 ^ h = N := ⟨_, rfl⟩
  rw [hl2, hN] at c1 c2
  obtain ⟨x0, x1, x2, x3, rfl, _⟩ := ok4 hs
  rw [ag4] at c1 ⊢
  have C1 : Hid (∀ w : World, Calls Tryd.prog 23 #[.agg #[.int .u32 x0, .int .u32 x1, .int .u32 x2, .int .u32 x3], .int .i64 (h : Int)] w fun e w' => ∃ g cap, e = .returned (.slice (some ⟨g, 0, none⟩) N cap) ∧ N ≤ cap ∧ cap ≤ maxLen ∧ DRow w' g 0 l ∧ w.heap.size ≤ g ∧ Below w.heap.size w w') := Lib.hid c1
  have C2 := Lib.hid c2
  have HT := Lib.hid ht
  have HK := Lib.hid (((Kx.nil none w).more (.cells #[.int .u32 x0, .int .u32 x1, .int .u32 x2, .int .u32 x3] 24 (0, 0))).add (w.heap.size + 1) (by simp) (.cells #[.int .u32 0, .int .u32 0, .int .u32 0, .int .u32 0] 24 (0, 0)))
  have i0 : ¬ (h : Int) < 0 := by omega
  have i1 : ¬ (4 : Int) < (h : Int) := by omega
  have i2 : (0 : Int) ≤ (h : Int) := by omega
  have i3 : (h : Int) ≤ 4 := by omega
  obtain ⟨a0, a1, a2, a3, _⟩ := cells4 (HK.out.at 0 rfl)
  clear c1 c2 e o hs ht hl hl2 hN h16
  go_enter Tryd.func12, Tryd.ntmps12
  go_wp2_with fail
  refine (C1.out _).mono ?_
  rintro e w1 ⟨g, cap, rfl, hc1, hc2, hd, hg, hb⟩
  replace HK := Lib.hid (HK.out.after hb)
  have HD := Lib.hid (Dd.row hd)
  have HC : Hid (N ≤ cap ∧ cap ≤ 9223372036854775807) := Lib.hid ⟨hc1, hc2⟩
  clear hb a0 a1 a2 a3 hd hc1 hc2
  go_wp2_with fail
  refine (C2.out _ _ _ HC.out.1 HC.out.2 HD.out (HT.out.oldn HK.out)).mono ?_
  rintro e w2 ⟨rfl, hb⟩
  replace HK := Lib.hid (HK.out.after hb)
  clear hb
  obtain ⟨a0, a1, a2, a3, d0, d1, d2, d3⟩ := cells4 (HK.out.at 1 rfl)
  have HR := Lib.hid (row4 (HK.out.at 1 rfl) (.int .u32 p0) (.int .u32 p1) (.int .u32 p2) (.int .u32 p3))
  have HE := Lib.hid (HK.out.put4 1 rfl (.inr (by simp)) (.int .u32 p0) (.int .u32 p1) (.int .u32 p2) (.int .u32 p3)).be.plain
  go_wp2_with fail
  exact bodyPost_ret (v := .tuple #[.agg #[.int .u32 p0, .int .u32 p1, .int .u32 p2, .int .u32 p3], .int .i64 0]) (by
    obtain ⟨k0, k1, k2, k3, _⟩ := cells4 HR.out
    simp [results, go_sem, k0, k1, k2, k3]) rfl ⟨rfl, HE.out⟩

/-- A slice's digests, in blocks from block q on. -/
structure Fr (w : World) (q : Nat) (A : Option Addr) (n c : Nat) (l : Dl) : Prop where
  len : l.length = n
  le : n ≤ c
  max : c ≤ maxLen
  dd : Dd w A l
  far : ∀ p, A = some p → q ≤ p.block
theorem Fr.kept {w w' : World} {q : Nat} {A : Option Addr} {n c : Nat} {l : Dl} (h : Fr w q A n c l) (hb : Below w.heap.size w w') : Fr w' q A n c l := ⟨h.len, h.le, h.max, h.dd.kept hb, h.far⟩
theorem Fr.drew {w : World} {q : Nat} {A : Option Addr} {n c : Nat} {l : Dl} (h : Fr w q A n c l) : Fr w.drew q A n c l := ⟨h.len, h.le, h.max, h.dd.drew, h.far⟩
theorem Fr.set {w : World} {q : Nat} {A : Option Addr} {n c : Nat} {l : Dl} (h : Fr w q A n c l) {r : Nat} (hr : r < q) (i : Nat) (v : Value) : Fr (w.setCell ⟨r, i, none⟩ v) q A n c l :=
  ⟨h.len, h.le, h.max, ⟨h.dd.1, fun hl => by
    obtain ⟨b, off, hA, hd⟩ := h.dd.2 hl
    have := h.far _ hA
    exact ⟨b, off, hA, hd.set (by simp at this ⊢; omega) v⟩⟩, h.far⟩
theorem Fr.alloc {w : World} {q : Nat} {A : Option Addr} {n c : Nat} {l : Dl} (h : Fr w q A n c l) (o : Obj) : Fr (w.alloc o) q A n c l := h.kept ((Below.refl _ _).alloc (Nat.le_refl _) o)
theorem Fr.own {w : World} {B q : Nat} {t : TypeId} {v : Value} {l : Dl} (h : w.ownsRow B t 4 v l.length (mcs l)) (ho : Oks l) (hq : q ≤ B) : ∃ A c, v = .slice A l.length c ∧ Fr w q A l.length c l := by
  rcases h.2 with ⟨hv, hn⟩ | ⟨g, cap, cur, hv, h1, h2, h3, h4, h5, h6⟩
  · have : l = [] := List.eq_nil_of_length_eq_zero hn
    subst this
    exact ⟨none, 0, hv, rfl, Nat.le_refl _, Nat.zero_le _, Dd.nil _ _, fun p hp => by cases hp⟩
  · have hr : DRow w g 0 l := DRow.own (by rw [← hv]; exact h) ho
    exact ⟨_, cap, hv, rfl, h3, h4, Dd.row hr, fun p hp => by cases hp; simp; omega⟩
theorem Fr.row {w : World} {g q n c : Nat} {l : Dl} (hl : l.length = n) (h1 : n ≤ c) (h2 : c ≤ maxLen) (h : DRow w g 0 l) (hq : q ≤ g) : Fr w q (some ⟨g, 0, none⟩) n c l :=
  ⟨hl, h1, h2, Dd.row h, fun p hp => by cases hp; exact hq⟩

theorem Fr.low {w : World} {q q' : Nat} {A : Option Addr} {n c : Nat} {l : Dl} (h : Fr w q A n c l) (hq : q' ≤ q) : Fr w q' A n c l := ⟨h.len, h.le, h.max, h.dd, fun p hp => Nat.le_trans hq (h.far p hp)⟩
theorem Fr.nil (w : World) (q : Nat) : Fr w q none 0 0 [] := ⟨rfl, Nat.le_refl _, Nat.zero_le _, Dd.nil _ _, fun p hp => by cases hp⟩
/-- A value is a signature: which key, its values, its way up. -/
def SgV (w : World) (v : Value) (idx : Int) (one path : Dl) : Prop :=
  ∃ A n c B m d, v = .agg #[.int .i64 idx, .slice A n c, .slice B m d] ∧ (one.length = n ∧ n ≤ c ∧ c ≤ maxLen ∧ Dd w A one) ∧ (path.length = m ∧ m ≤ d ∧ d ≤ maxLen ∧ Dd w B path)
/-- .. in blocks from block q on. -/
def SgX (w : World) (q : Nat) (v : Value) (idx : Int) (one path : Dl) : Prop :=
  ∃ A n c B m d, v = .agg #[.int .i64 idx, .slice A n c, .slice B m d] ∧ Fr w q A n c one ∧ Fr w q B m d path
def SgE (w : World) (idx : Int) (one path : Dl) (er : Int) (e : Ending) (w' : World) : Prop :=
  ∃ v, e = .returned (.tuple #[v, .int .i64 er]) ∧ SgX w' w.heap.size v idx one path ∧ Below w.heap.size w w'
theorem SgX.v {w : World} {q : Nat} {v : Value} {idx : Int} {one path : Dl} (h : SgX w q v idx one path) : SgV w v idx one path := by
  obtain ⟨A, n, c, B, m, d, hv, h, k⟩ := h
  exact ⟨A, n, c, B, m, d, hv, ⟨h.len, h.le, h.max, h.dd⟩, ⟨k.len, k.le, k.max, k.dd⟩⟩
theorem SgV.kept {w w' : World} {v : Value} {idx : Int} {one path : Dl} (h : SgV w v idx one path) (hb : Below w.heap.size w w') : SgV w' v idx one path := by
  obtain ⟨A, n, c, B, m, d, hv, ⟨h1, h2, h3, h4⟩, ⟨k1, k2, k3, k4⟩⟩ := h
  exact ⟨A, n, c, B, m, d, hv, ⟨h1, h2, h3, h4.kept hb⟩, ⟨k1, k2, k3, k4.kept hb⟩⟩
theorem SgX.kept {w w' : World} {q : Nat} {v : Value} {idx : Int} {one path : Dl} (h : SgX w q v idx one path) (hb : Below w.heap.size w w') : SgX w' q v idx one path := by
  obtain ⟨A, n, c, B, m, d, hv, h, k⟩ := h
  exact ⟨A, n, c, B, m, d, hv, h.kept hb, k.kept hb⟩
theorem SgX.set {w : World} {q : Nat} {v : Value} {idx : Int} {one path : Dl} (h : SgX w q v idx one path) {r : Nat} (hr : r < q) (i : Nat) (u : Value) : SgX (w.setCell ⟨r, i, none⟩ u) q v idx one path := by
  obtain ⟨A, n, c, B, m, d, hv, h, k⟩ := h
  exact ⟨A, n, c, B, m, d, hv, h.set hr i u, k.set hr i u⟩
theorem SgX.low {w : World} {q q' : Nat} {v : Value} {idx : Int} {one path : Dl} (h : SgX w q v idx one path) (hq : q' ≤ q) : SgX w q' v idx one path := by
  obtain ⟨A, n, c, B, m, d, hv, h, k⟩ := h
  exact ⟨A, n, c, B, m, d, hv, h.low hq, k.low hq⟩
theorem SgX.zero (w : World) (q : Nat) : SgX w q (.agg #[.int .i64 0, .slice none 0 0, .slice none 0 0]) 0 [] [] :=
  ⟨none, 0, 0, none, 0, 0, rfl, Fr.nil _ _, Fr.nil _ _⟩
theorem row3 {w : World} {b : Nat} {t : TypeId} {u0 u1 u2 : Value} (h : w.heap[b]? = some (.cells #[u0, u1, u2] t (0, 0))) (v0 v1 v2 : Value) :
    (((w.setCell ⟨b, 0, none⟩ v0).setCell ⟨b, 1, none⟩ v1).setCell ⟨b, 2, none⟩ v2).heap[b]? = some (.cells #[v0, v1, v2] t (0, 0)) := by
  have e0 := heap_setCell_same w b 0 _ t v0 h
  have e1 := heap_setCell_same _ b 1 _ t v1 e0
  have e2 := heap_setCell_same _ b 2 _ t v2 e1
  simpa using e2
theorem cells3 {w : World} {b : Nat} {t : TypeId} {v0 v1 v2 : Value} (h : w.heap[b]? = some (.cells #[v0, v1, v2] t (0, 0))) :
    w.cell? ⟨b, 0, none⟩ = some v0 ∧ w.cell? ⟨b, 1, none⟩ = some v1 ∧ w.cell? ⟨b, 2, none⟩ = some v2 ∧ w.frozen? ⟨b, 0, none⟩ = false ∧ w.frozen? ⟨b, 1, none⟩ = false ∧ w.frozen? ⟨b, 2, none⟩ = false := by
  simp [World.cell?, World.frozen?, h]
theorem Kx.put3 {p : Option Nat} {w W : World} {bs : List (Nat × Obj)} (h : Kx p w W bs) (i : Nat) {q : Nat} {t : TypeId} {u0 u1 u2 : Value} (hx : bs[i]? = some (q, .cells #[u0, u1, u2] t (0, 0))) (hq : p = some q ∨ w.heap.size ≤ q) (v0 v1 v2 : Value) :
    Kx p w (((W.setCell ⟨q, 0, none⟩ v0).setCell ⟨q, 1, none⟩ v1).setCell ⟨q, 2, none⟩ v2) (bs.set i (q, .cells #[v0, v1, v2] t (0, 0))) :=
  h.afterq i hx hq ((((Bx.set W q 0 v0).setn 1 v1)).setn 2 v2) (row3 (h.at i hx) v0 v1 v2)
set_option maxHeartbeats 1000000 in
theorem sign6r_no (seed msg : Ws) (h i : Int) (w : World) (hs : Ok4 seed) (hm : Ok4 msg) (hh : h < 0 ∨ 4 < h) :
    Calls Tryd.prog 15 #[ag seed, .int .i64 h, .int .i64 i, ag msg] w (SgE w 0 [] [] 2) := by
  obtain ⟨x0, x1, x2, x3, rfl, _⟩ := ok4 hs
  obtain ⟨y0, y1, y2, y3, rfl, _⟩ := ok4 hm
  rw [ag4, ag4]
  have HK := Lib.hid ((((Kx.nil none w).more (.cells #[.int .u32 x0, .int .u32 x1, .int .u32 x2, .int .u32 x3] 24 (0, 0))).add (w.heap.size + 1) (by simp) (.cells #[.int .u32 y0, .int .u32 y1, .int .u32 y2, .int .u32 y3] 24 (0, 0))).add (w.heap.size + 1 + 1) (by simp) (.cells #[.int .i64 0, .slice none 0 0, .slice none 0 0] 38 (0, 0)))
  clear hs hm
  by_cases h0 : h < 0
  · clear hh
    go_enter Tryd.func15, Tryd.ntmps15
    go_wp2_with fail
    exact bodyPost_ret (v := .tuple #[.agg #[.int .i64 0, .slice none 0 0, .slice none 0 0], .int .i64 2]) (by simp [results, go_sem]) rfl ⟨_, rfl, SgX.zero _ _, HK.out.be.plain⟩
  · have h1 : 4 < h := by omega
    clear hh
    go_enter Tryd.func15, Tryd.ntmps15
    go_wp2_with fail
    exact bodyPost_ret (v := .tuple #[.agg #[.int .i64 0, .slice none 0 0, .slice none 0 0], .int .i64 2]) (by simp [results, go_sem]) rfl ⟨_, rfl, SgX.zero _ _, HK.out.be.plain⟩
/-- Where nothing is signed: both arguments' blocks and the result's. -/
theorem Kz.new (w : World) (x0 x1 x2 x3 y0 y1 y2 y3 : Int) : Kx none w (((w.alloc (.cells #[.int .u32 x0, .int .u32 x1, .int .u32 x2, .int .u32 x3] 24)).alloc (.cells #[.int .u32 y0, .int .u32 y1, .int .u32 y2, .int .u32 y3] 24)).alloc (.cells #[.int .i64 0, .slice none 0 0, .slice none 0 0] 38))
    [(w.heap.size, .cells #[.int .u32 x0, .int .u32 x1, .int .u32 x2, .int .u32 x3] 24 (0, 0)), (w.heap.size + 1, .cells #[.int .u32 y0, .int .u32 y1, .int .u32 y2, .int .u32 y3] 24 (0, 0)), (w.heap.size + 1 + 1, .cells #[.int .i64 0, .slice none 0 0, .slice none 0 0] 38 (0, 0))] :=
  (((Kx.nil none w).more (.cells #[.int .u32 x0, .int .u32 x1, .int .u32 x2, .int .u32 x3] 24 (0, 0))).add (w.heap.size + 1) (by simp) (.cells #[.int .u32 y0, .int .u32 y1, .int .u32 y2, .int .u32 y3] 24 (0, 0))).add (w.heap.size + 1 + 1) (by simp) (.cells #[.int .i64 0, .slice none 0 0, .slice none 0 0] 38 (0, 0))
set_option maxRecDepth 100000 in
set_option maxHeartbeats 2000000 in
theorem sign6r_arg (seed msg : Ws) (h : Nat) (i : Int) (w : World) (hs : Ok4 seed) (hm : Ok4 msg) (hh : h ≤ 4) (hi : i < 0 ∨ ((2 ^ h : Nat) : Int) ≤ i) :
    Calls Tryd.prog 15 #[ag seed, .int .i64 (h : Int), .int .i64 i, ag msg] w (SgE w 0 [] [] 1) := by
  have c1 := fun w => keys_ref seed h w hs hh
  have h16 := two_le hh
  obtain ⟨l, hl2⟩ : ∃ l, kys seed h = l := ⟨_, rfl⟩
  obtain ⟨N, hN⟩ : ∃ N, 2 ^ h = N := ⟨_, rfl⟩
  rw [hl2, hN] at c1
  rw [hN] at hi h16
  obtain ⟨x0, x1, x2, x3, rfl, _⟩ := ok4 hs
  obtain ⟨y0, y1, y2, y3, rfl, _⟩ := ok4 hm
  rw [ag4] at c1
  rw [ag4, ag4]
  have C1 : Hid (∀ w : World, Calls Tryd.prog 23 #[.agg #[.int .u32 x0, .int .u32 x1, .int .u32 x2, .int .u32 x3], .int .i64 (h : Int)] w fun e w' => ∃ g cap, e = .returned (.slice (some ⟨g, 0, none⟩) N cap) ∧ N ≤ cap ∧ cap ≤ maxLen ∧ DRow w' g 0 l ∧ w.heap.size ≤ g ∧ Below w.heap.size w w') := Lib.hid c1
  have HK := Lib.hid (Kz.new w x0 x1 x2 x3 y0 y1 y2 y3)
  have i0 : ¬ (h : Int) < 0 := by omega
  have i1 : ¬ (4 : Int) < (h : Int) := by omega
  have i2 : (0 : Int) ≤ (h : Int) := by omega
  have i3 : (h : Int) ≤ 4 := by omega
  obtain ⟨a0, a1, a2, a3, _⟩ := cells4 (HK.out.at 0 rfl)
  clear c1 hs hm hl2 hN h16
  by_cases h0 : i < 0
  · clear hi
    go_enter Tryd.func15, Tryd.ntmps15
    go_wp2_with fail
    refine (C1.out _).mono ?_
    rintro e w1 ⟨g, cap, rfl, _, _, _, _, hb⟩
    replace HK := Lib.hid (HK.out.after hb)
    clear hb a0 a1 a2 a3
    obtain ⟨a0, a1, a2, b0, b1, b2⟩ := cells3 (HK.out.at 2 rfl)
    have HR := Lib.hid (row3 (HK.out.at 2 rfl) (.int .i64 0) (.slice none 0 0) (.slice none 0 0))
    have HE := Lib.hid (HK.out.put3 2 rfl (.inr (by omega)) (.int .i64 0) (.slice none 0 0) (.slice none 0 0)).be.plain
    go_wp2_with fail
    exact bodyPost_ret (v := .tuple #[.agg #[.int .i64 0, .slice none 0 0, .slice none 0 0], .int .i64 1]) (by
      obtain ⟨k0, k1, k2, _⟩ := cells3 HR.out
      simp [results, go_sem, k0, k1, k2]) rfl ⟨_, rfl, SgX.zero _ _, HE.out⟩
  · have h1 : (N : Int) ≤ i := by omega
    have h2 : 0 ≤ i := by omega
    clear hi
    go_enter Tryd.func15, Tryd.ntmps15
    go_wp2_with fail
    refine (C1.out _).mono ?_
    rintro e w1 ⟨g, cap, rfl, _, _, _, _, hb⟩
    replace HK := Lib.hid (HK.out.after hb)
    clear hb a0 a1 a2 a3
    obtain ⟨a0, a1, a2, b0, b1, b2⟩ := cells3 (HK.out.at 2 rfl)
    have HR := Lib.hid (row3 (HK.out.at 2 rfl) (.int .i64 0) (.slice none 0 0) (.slice none 0 0))
    have HE := Lib.hid (HK.out.put3 2 rfl (.inr (by omega)) (.int .i64 0) (.slice none 0 0) (.slice none 0 0)).be.plain
    go_wp2_with fail
    exact bodyPost_ret (v := .tuple #[.agg #[.int .i64 0, .slice none 0 0, .slice none 0 0], .int .i64 1]) (by
      obtain ⟨k0, k1, k2, _⟩ := cells3 HR.out
      simp [results, go_sem, k0, k1, k2]) rfl ⟨_, rfl, SgX.zero _ _, HE.out⟩
theorem allK6 {w W : World} {p q r : Nat} {t u s : TypeId} {x0 x1 x2 x3 y0 y1 y2 y3 z0 z1 z2 : Value} (h : Kx none w W [(p, .cells #[x0, x1, x2, x3] t (0, 0)), (q, .cells #[y0, y1, y2, y3] u (0, 0)), (r, .cells #[z0, z1, z2] s (0, 0))]) :
    W.cell? ⟨p, 0, none⟩ = some x0 ∧ W.cell? ⟨p, 1, none⟩ = some x1 ∧ W.cell? ⟨p, 2, none⟩ = some x2 ∧ W.cell? ⟨p, 3, none⟩ = some x3 ∧ W.cell? ⟨q, 0, none⟩ = some y0 ∧ W.cell? ⟨q, 1, none⟩ = some y1 ∧ W.cell? ⟨q, 2, none⟩ = some y2 ∧ W.cell? ⟨q, 3, none⟩ = some y3 := by
  obtain ⟨a0, a1, a2, a3, _⟩ := cells4 (h.at 0 rfl)
  obtain ⟨b0, b1, b2, b3, _⟩ := cells4 (h.at 1 rfl)
  exact ⟨a0, a1, a2, a3, b0, b1, b2, b3⟩
theorem allK7 {w W : World} {p q r : Nat} {t u s : TypeId} {x0 x1 x2 x3 y0 y1 y2 y3 z0 z1 z2 v0 v1 v2 : Value} (h : Kx none w W [(p, .cells #[x0, x1, x2, x3] t (0, 0)), (q, .cells #[y0, y1, y2, y3] u (0, 0)), (r, .cells #[z0, z1, z2] s (0, 0))]) (hr : (none : Option Nat) = some r ∨ w.heap.size ≤ r) :
    (((W.setCell ⟨r, 0, none⟩ v0).setCell ⟨r, 1, none⟩ v1).setCell ⟨r, 2, none⟩ v2).cell? ⟨p, 0, none⟩ = some x0 ∧ (((W.setCell ⟨r, 0, none⟩ v0).setCell ⟨r, 1, none⟩ v1).setCell ⟨r, 2, none⟩ v2).cell? ⟨p, 1, none⟩ = some x1 ∧ (((W.setCell ⟨r, 0, none⟩ v0).setCell ⟨r, 1, none⟩ v1).setCell ⟨r, 2, none⟩ v2).cell? ⟨p, 2, none⟩ = some x2 ∧ (((W.setCell ⟨r, 0, none⟩ v0).setCell ⟨r, 1, none⟩ v1).setCell ⟨r, 2, none⟩ v2).cell? ⟨p, 3, none⟩ = some x3 ∧ (((W.setCell ⟨r, 0, none⟩ v0).setCell ⟨r, 1, none⟩ v1).setCell ⟨r, 2, none⟩ v2).cell? ⟨q, 0, none⟩ = some y0 ∧ (((W.setCell ⟨r, 0, none⟩ v0).setCell ⟨r, 1, none⟩ v1).setCell ⟨r, 2, none⟩ v2).cell? ⟨q, 1, none⟩ = some y1 ∧ (((W.setCell ⟨r, 0, none⟩ v0).setCell ⟨r, 1, none⟩ v1).setCell ⟨r, 2, none⟩ v2).cell? ⟨q, 2, none⟩ = some y2 ∧ (((W.setCell ⟨r, 0, none⟩ v0).setCell ⟨r, 1, none⟩ v1).setCell ⟨r, 2, none⟩ v2).cell? ⟨q, 3, none⟩ = some y3 :=
  allK6 (h.put3 2 rfl hr v0 v1 v2)
set_option maxRecDepth 100000 in
set_option maxHeartbeats 4000000 in
theorem sign6r_yes (seed msg : Ws) (h i : Nat) (w : World) (hs : Ok4 seed) (hm : Ok4 msg) (hh : h ≤ 4) (hi : i < 2 ^ h) (ht : Tabs w) :
    Calls Tryd.prog 15 #[ag seed, .int .i64 (h : Int), .int .i64 (i : Int), ag msg] w (SgE w (i : Int) (sgn (ksd seed i) msg) (mway (kys seed h) i) 0) := by
  have c1 := fun w => keys_ref seed h w hs hh
  have h16 := two_le hh
  have hl := kys_length seed h
  have c2 := fun (A : Option Addr) (cap : Nat) (w : World) (hc : 2 ^ h ≤ cap) (hm : cap ≤ 9223372036854775807) (hd : Dd w A (kys seed h)) (ht : Tabs w) => prover_yes (A := A) (n := 2 ^ h) (m := i) w hl (by omega) hc hm hi hd ht
  have c3 := fun w => seed_ref seed i w hs (by omega)
  have c4 := fun w => sign_ref (ksd seed i) msg w (ksd_ok hs i) hm
  have hwl : (mway (kys seed h) i).length = h := way_full h _ i hl hi
  have hwo : Oks (mway (kys seed h) i) := way_oks _ _ _ hl (kys_ok hs h)
  have ho := ksd_ok hs i
  have h35 : (sgn (ksd seed i) msg).length = 35 := upto_length _ _
  obtain ⟨l, hl2⟩ : ∃ l, kys seed h = l := ⟨_, rfl⟩
  obtain ⟨N, hN⟩ : ∃ N, 2 ^ h = N := ⟨_, rfl⟩
  rw [hl2, hN] at c1 c2
  rw [hl2] at hwl hwo ⊢
  rw [hN] at hi h16
  obtain ⟨D, hD⟩ : ∃ D, ksd seed i = D := ⟨_, rfl⟩
  rw [hD] at c3 c4 ho h35 ⊢
  obtain ⟨S, hS⟩ : ∃ S, sgn D msg = S := ⟨_, rfl⟩
  rw [hS] at c4 h35 ⊢
  obtain ⟨P, hP⟩ : ∃ P, mway l i = P := ⟨_, rfl⟩
  rw [hP] at c2 hwl hwo ⊢
  obtain ⟨d0, d1, d2, d3, rfl, _⟩ := ok4 ho
  obtain ⟨x0, x1, x2, x3, rfl, _⟩ := ok4 hs
  obtain ⟨y0, y1, y2, y3, rfl, _⟩ := ok4 hm
  rw [ag4] at c1
  rw [ag4, ag4] at c3 c4
  rw [ag4, ag4]
  have C1 : Hid (∀ w : World, Calls Tryd.prog 23 #[.agg #[.int .u32 x0, .int .u32 x1, .int .u32 x2, .int .u32 x3], .int .i64 (h : Int)] w fun e w' => ∃ g cap, e = .returned (.slice (some ⟨g, 0, none⟩) N cap) ∧ N ≤ cap ∧ cap ≤ maxLen ∧ DRow w' g 0 l ∧ w.heap.size ≤ g ∧ Below w.heap.size w w') := Lib.hid c1
  have C2 : Hid (∀ (A : Option Addr) (cap : Nat) (w : World), N ≤ cap → cap ≤ 9223372036854775807 → Dd w A l → Tabs w → Calls Tryd.prog 33 #[.slice A N cap, .int .i64 (i : Int)] w fun e w' => ∃ v, e = .returned (.tuple #[v, .int .i64 0]) ∧ w'.ownsRow w.heap.size 24 4 v P.length (mcs P) ∧ Below w.heap.size w w') := Lib.hid c2
  have C3 := Lib.hid c3
  have C4 : Hid (∀ w : World, Calls Tryd.prog 34 #[.agg #[.int .u32 d0, .int .u32 d1, .int .u32 d2, .int .u32 d3], .agg #[.int .u32 y0, .int .u32 y1, .int .u32 y2, .int .u32 y3]] w fun e w' => ∃ g cap, e = .returned (.slice (some ⟨g, 0, none⟩) 35 cap) ∧ 35 ≤ cap ∧ cap ≤ maxLen ∧ DRow w' g 0 S ∧ w.heap.size ≤ g ∧ Below w.heap.size w w') := Lib.hid c4
  have HT := Lib.hid ht
  have HP := Lib.hid hwo
  have H35 := Lib.hid h35
  have HK := Lib.hid (Kz.new w x0 x1 x2 x3 y0 y1 y2 y3)
  have i0 : ¬ (h : Int) < 0 := by omega
  have i1 : ¬ (4 : Int) < (h : Int) := by omega
  have i2 : (0 : Int) ≤ (h : Int) := by omega
  have i3 : (h : Int) ≤ 4 := by omega
  have i4 : ¬ (N : Int) ≤ (i : Int) := by omega
  have i5 : (i : Int) < (N : Int) := by omega
  have i6 : ¬ (i : Int) < 0 := by omega
  have i7 : (0 : Int) ≤ (i : Int) := by omega
  obtain ⟨a0, a1, a2, a3, _⟩ := cells4 (HK.out.at 0 rfl)
  clear c1 c2 c3 c4 hs hm hl hl2 hN h16 hi ho hD hS hP hwl hwo h35 ht hh
  go_enter Tryd.func15, Tryd.ntmps15
  go_wp2_with fail
  refine (C1.out _).mono ?_
  rintro e w1 ⟨g, cap, rfl, hc1, hc2, hd, hg, hb⟩
  replace HK := Lib.hid (HK.out.after hb)
  have HD := Lib.hid (Dd.row hd)
  have HC : Hid (N ≤ cap ∧ cap ≤ 9223372036854775807) := Lib.hid ⟨hc1, hc2⟩
  clear hb a0 a1 a2 a3 hd hc1 hc2
  go_wp2_with fail
  have hq := HK.out.lt 2 rfl
  refine (C2.out _ _ _ HC.out.1 HC.out.2 HD.out (HT.out.oldn HK.out)).mono ?_
  rintro e w2 ⟨v, rfl, hown, hb⟩
  replace HK := Lib.hid (HK.out.after hb)
  obtain ⟨B, d, rfl, hv⟩ := Fr.own hown HP.out hq
  obtain ⟨m, hm⟩ : ∃ m, P.length = m := ⟨_, rfl⟩
  rw [hm] at hv ⊢
  have HV := Lib.hid hv.drew
  obtain ⟨a0, a1, a2, a3, _⟩ := cells4 (HK.out.at 0 rfl)
  clear hb hown hv hm HD hq
  go_wp2_with fail
  replace HK := Lib.hid HK.out.drew
  have HLE : Hid (w.heap.size ≤ w.heap.size + 1 + 1) := Lib.hid (by omega)
  have HL3 : Hid (w.heap.size ≤ w.heap.size + 1 + 1 + 1) := Lib.hid (by omega)
  go_region_held3 (fun W => W.cell? ⟨w.heap.size, 0, none⟩ = some (.int .u32 x0) ∧ W.cell? ⟨w.heap.size, 1, none⟩ = some (.int .u32 x1) ∧ W.cell? ⟨w.heap.size, 2, none⟩ = some (.int .u32 x2) ∧ W.cell? ⟨w.heap.size, 3, none⟩ = some (.int .u32 x3) ∧ W.cell? ⟨w.heap.size + 1, 0, none⟩ = some (.int .u32 y0) ∧ W.cell? ⟨w.heap.size + 1, 1, none⟩ = some (.int .u32 y1) ∧ W.cell? ⟨w.heap.size + 1, 2, none⟩ = some (.int .u32 y2) ∧ W.cell? ⟨w.heap.size + 1, 3, none⟩ = some (.int .u32 y3))
    (first | (with_reducible exact allK7 HK.out (.inr HLE.out)) | (with_reducible exact allK6 HK.out))
    (first
      | (go_at_call 25; (with_reducible refine (C3.out _).mono ?_); rintro e w' ⟨rfl, hb⟩; replace HK := Lib.hid (HK.out.after hb); replace HV := Lib.hid (HV.out.kept hb); clear hb)
      | (go_at_call 34; (with_reducible refine (C4.out _).mono ?_); rintro e w' ⟨g2, cap2, rfl, s1, s2, s3, s4, hb⟩; have s5 := HK.out.lt 2 rfl; replace HK := Lib.hid (HK.out.after hb); replace HV := Lib.hid (HV.out.kept hb); have HS := Lib.hid (Fr.row H35.out s1 s2 s3 (Nat.le_trans s5 s4)); clear hb s1 s2 s3 s4 s5; obtain ⟨q0, q1, q2, r0, r1, r2⟩ := cells3 (HK.out.at 2 rfl)))
  all_goals
    have HE := Lib.hid (HK.out.put3 2 rfl (.inr HLE.out) (.int .i64 (i : Int)) (.slice (some ⟨g2, 0, none⟩) 35 cap2) (.slice B m d)).be.plain
    have HR := Lib.hid (row3 (HK.out.at 2 rfl) (.int .i64 (i : Int)) (.slice (some ⟨g2, 0, none⟩) 35 cap2) (.slice B m d))
    have F1 := Lib.hid ((((HS.out.set (Nat.lt_succ_self _) 0 (.int .i64 (i : Int))).set (Nat.lt_succ_self _) 1 (.slice (some ⟨g2, 0, none⟩) 35 cap2)).set (Nat.lt_succ_self _) 2 (.slice B m d)).low HL3.out)
    have F2 := Lib.hid ((((HV.out.set (Nat.lt_succ_self _) 0 (.int .i64 (i : Int))).set (Nat.lt_succ_self _) 1 (.slice (some ⟨g2, 0, none⟩) 35 cap2)).set (Nat.lt_succ_self _) 2 (.slice B m d)).low HL3.out)
    go_wp2_with fail
    exact bodyPost_ret (v := .tuple #[.agg #[.int .i64 (i : Int), .slice (some ⟨g2, 0, none⟩) 35 cap2, .slice B m d], .int .i64 0]) (by
      obtain ⟨k0, k1, k2, _⟩ := cells3 HR.out
      simp [results, go_sem, k0, k1, k2]) rfl ⟨_, rfl, ⟨_, _, _, _, _, _, rfl, F1.out, F2.out⟩, HE.out⟩
end Go.Proofs.YtfbefenagnlnfaaDoor
set_option linter.unusedVariables false
namespace Go.Proofs.YtfbefenagnlnfaaDoor
open Go.RowKit

set_option maxRecDepth 100000 in
set_option maxHeartbeats 4000000 in
theorem listr_row (b1 o1 c1 b2 o2 c2 n : Nat) (l k : Dl) (w : World) (hl : l.length = n) (hk : k.length = n) (h1 : 1 ≤ n) (hn : n ≤ 1024) (r1 : DRow w b1 o1 l) (r2 : DRow w b2 o2 k) :
    Calls Tryd.prog 35 #[.slice (some ⟨b1, o1, none⟩) n c1, .slice (some ⟨b2, o2, none⟩) n c2] w fun e w' => e = .returned (.bool (sameL l k)) ∧ Below w.heap.size w w' := by
  have q4 := eq4s
  have s0 := same_self
  have HR1 := Lib.hid r1
  have HR2 := Lib.hid r2
  have HL := Lib.hid hl
  have HKK := Lib.hid hk
  obtain ⟨bb, hbb⟩ : ∃ bb, sameL l k = bb := ⟨_, rfl⟩
  rw [hbb]
  have HB := Lib.hid hbb
  clear hbb r1 r2 hl hk
  go_enter Tryd.func35, Tryd.ntmps35
  go_wp2_with fail
  go_loopw [5] (fun v wr => ∃ j : Nat, j ≤ n ∧ v = .int .i64 (j : Int) ∧ Hid (l.take j = k.take j) ∧ Hid (Kx none w wr [])) (fun v _ => n - (intOf v).toNat)
  case atStart => exact ⟨0, Nat.zero_le _, rfl, by show _ = _; simp, Kx.nil _ _⟩
  case round =>
    obtain ⟨j, hj, rfl, HE, HK⟩ := hrel
    by_cases hlt : j < n
    · obtain ⟨x0, x1, x2, x3, hx, _⟩ := HR1.out.get (j := j) (by rw [HL.out]; exact hlt)
      obtain ⟨y0, y1, y2, y3, hy, _⟩ := HR2.out.get (j := j) (by rw [HKK.out]; exact hlt)
      obtain ⟨a0, a1, a2, a3⟩ := (HR1.out.oldn HK.out).four hx
      obtain ⟨d0, d1, d2, d3⟩ := (HR2.out.oldn HK.out).four hy
      have i0 : (0 : Int) ≤ (j : Int) := by omega
      have i1 : (j : Int) < (n : Int) := by omega
      by_cases hxy : [x0, x1, x2, x3] = [y0, y1, y2, y3]
      · have HE2 : Hid (l.take (j + 1) = k.take (j + 1)) := Lib.hid (by
          have g1 := (List.getElem?_eq_some_iff.1 hx)
          have g2 := (List.getElem?_eq_some_iff.1 hy)
          obtain ⟨g1, e1⟩ := g1
          obtain ⟨g2, e2⟩ := g2
          rw [List.take_succ_eq_append_getElem g1, List.take_succ_eq_append_getElem g2, e1, e2, hxy, HE.out])
        injection hxy with e0 hxy
        injection hxy with e1 hxy
        injection hxy with e2 hxy
        injection hxy with e3 hxy
        subst e0 e1 e2 e3
        clear hxy hx hy HE
        go_wp2_with fail
        go_quiet (fail)
        go_wp2_with fail
        have HK2 := Lib.hid (HK.out.drewN nq)
        go_roundw
        case rel => exact ⟨j + 1, by omega, by go_num, HE2, HK2⟩
        case measure => simp [intOf]; omega
      · have s1 : same [x0, x1, x2, x3] [y0, y1, y2, y3] = false := same_no hxy
        have HBB : Hid (bb = false) := Lib.hid (by
          rw [← HB.out]
          refine sameL_no (fun e => hxy ?_)
          rw [e, hy] at hx
          injection hx with hx
          exact hx.symm)
        clear hxy hx hy HE
        go_wp2_with fail
        go_quiet (fail)
        go_wp2_with fail
        have HK2 := Lib.hid (HK.out.drewN nq)
        go_ret
        exact ⟨by rw [HBB.out]; rfl, HK2.out.be.plain⟩
    · obtain rfl : j = n := by omega
      have HBB : Hid (bb = true) := Lib.hid (by
        rw [← HB.out]
        have h := HE.out
        rw [List.take_of_length_le (by rw [HL.out]; omega), List.take_of_length_le (by rw [HKK.out]; omega)] at h
        rw [h]; exact sameL_yes _)
      go_wp2_with fail
      go_ret
      exact ⟨by rw [HBB.out]; rfl, HK.out.be.plain⟩
theorem listr_nil (A B : Option Addr) (c1 c2 : Nat) (w : World) :
    Calls Tryd.prog 35 #[.slice A 0 c1, .slice B 0 c2] w fun e w' => e = .returned (.bool (sameL [] [])) ∧ Below w.heap.size w w' := by
  rw [sameL_yes]
  go_enter Tryd.func35, Tryd.ntmps35
  go_wp2_with fail
  refine wp_loop_rounds 1 ?_
  rw [rounds_succ]
  go_wp2_with fail
  go_ret
  exact ⟨rfl, Below.refl _ _⟩
theorem listr_ne (A B : Option Addr) (n m c1 c2 : Nat) (l k : Dl) (w : World) (hl : l.length = n) (hk : k.length = m) (hne : n ≠ m) :
    Calls Tryd.prog 35 #[.slice A n c1, .slice B m c2] w fun e w' => e = .returned (.bool (sameL l k)) ∧ Below w.heap.size w w' := by
  rw [sameL_no (fun e => hne (by rw [← hl, ← hk, e]))]
  have i0 : ((n : Int) != (m : Int)) = true := by rw [bne_iff_ne]; omega
  have i1 : (n != m) = true := by rw [bne_iff_ne]; omega
  have i2 : ((n : Int) == (m : Int)) = false := by rw [beq_eq_false_iff_ne]; omega
  clear hl hk hne
  go_enter Tryd.func35, Tryd.ntmps35
  go_wp2_with fail
  go_ret
  exact ⟨rfl, Below.refl _ _⟩
theorem listr {A B : Option Addr} {n m c1 c2 : Nat} {l k : Dl} (w : World) (hl : l.length = n) (hk : k.length = m) (hn : n ≤ 1024) (r1 : Dd w A l) (r2 : Dd w B k) :
    Calls Tryd.prog 35 #[.slice A n c1, .slice B m c2] w fun e w' => e = .returned (.bool (sameL l k)) ∧ Below w.heap.size w w' := by
  by_cases hnm : n = m
  · subst hnm
    by_cases h0 : l = []
    · subst h0
      obtain rfl : n = 0 := by simpa using hl.symm
      obtain rfl : k = [] := List.eq_nil_of_length_eq_zero hk
      exact listr_nil A B c1 c2 w
    · have h1 : 1 ≤ n := by rw [← hl]; exact List.length_pos_iff.2 h0
      obtain ⟨b1, o1, rfl, d1⟩ := r1.2 h0
      obtain ⟨b2, o2, rfl, d2⟩ := r2.2 (fun e => by rw [e] at hk; simp at hk; omega)
      exact listr_row b1 o1 c1 b2 o2 c2 n l k w hl hk h1 hn d1 d2
  · exact listr_ne A B n m c1 c2 l k w hl hk hnm
end Go.Proofs.YtfbefenagnlnfaaDoor
set_option linter.unusedVariables false
namespace Go.Proofs.YtfbefenagnlnfaaDoor
open Go.RowKit

set_option maxRecDepth 100000 in
set_option maxHeartbeats 2000000 in
theorem same6r_yes {idx : Int} {one path : Dl} {v1 v2 : Value} (w : World) (h1 : SgV w v1 idx one path) (h2 : SgV w v2 idx one path) (ho : one.length ≤ 1024) (hp : path.length ≤ 1024) :
    Calls Tryd.prog 16 #[v1, v2] w fun e w' => e = .returned (.bool true) ∧ Below w.heap.size w w' := by
  obtain ⟨A, n, c, B, m, d, rfl, ⟨l1, _, _, d1⟩, ⟨k1, _, _, e1⟩⟩ := h1
  obtain ⟨A2, n2, c2, B2, m2, d4, rfl, ⟨l2, _, _, d2⟩, ⟨k2, _, _, e2⟩⟩ := h2
  obtain rfl : n = n2 := by omega
  obtain rfl : m = m2 := by omega
  have c1 := fun (W : World) (q1 : Dd W A one) (q2 : Dd W A2 one) => listr (c1 := c) (c2 := c2) W l1 l1 (by omega) q1 q2
  have c3 := fun (W : World) (q1 : Dd W B path) (q2 : Dd W B2 path) => listr (c1 := d) (c2 := d4) W k1 k1 (by omega) q1 q2
  rw [sameL_yes] at c1 c3
  have C1 := Lib.hid c1
  have C3 := Lib.hid c3
  have HK := Lib.hid (((Kx.nil none w).more (.cells #[.int .i64 idx, .slice A n c, .slice B m d] 38 (0, 0))).add (w.heap.size + 1) (by simp) (.cells #[.int .i64 idx, .slice A2 n c2, .slice B2 m d4] 38 (0, 0)))
  have D1 := Lib.hid d1
  have D2 := Lib.hid d2
  have E1 := Lib.hid e1
  have E2 := Lib.hid e2
  obtain ⟨a0, a1, a2, _⟩ := cells3 (HK.out.at 0 rfl)
  obtain ⟨b0, b1, b2, _⟩ := cells3 (HK.out.at 1 rfl)
  clear c1 c3 d1 d2 e1 e2 l1 l2 k1 k2 ho hp
  go_enter Tryd.func16, Tryd.ntmps16
  go_wp2_with fail
  refine (C1.out _ (D1.out.kept HK.out.be.plain) (D2.out.kept HK.out.be.plain)).mono ?_
  rintro e w1 ⟨rfl, hb⟩
  replace HK := Lib.hid (HK.out.after hb)
  clear hb a0 a1 a2 b0 b1 b2
  obtain ⟨a0, a1, a2, _⟩ := cells3 (HK.out.at 0 rfl)
  obtain ⟨b0, b1, b2, _⟩ := cells3 (HK.out.at 1 rfl)
  go_wp2_with fail
  refine (C3.out _ (E1.out.kept HK.out.be.plain) (E2.out.kept HK.out.be.plain)).mono ?_
  rintro e w2 ⟨rfl, hb⟩
  replace HK := Lib.hid (HK.out.after hb)
  clear hb
  go_wp2_with fail
  go_ret
  exact ⟨rfl, HK.out.be.plain⟩
/-- A check's blocks. -/
def Kc3 (w W : World) (p0 p1 p2 p3 y0 y1 y2 y3 idx : Int) (s1 s2 : Value) : Prop :=
  Kx none w W [(w.heap.size, .cells #[.int .u32 p0, .int .u32 p1, .int .u32 p2, .int .u32 p3] 24 (0, 0)), (w.heap.size + 1, .cells #[.int .u32 y0, .int .u32 y1, .int .u32 y2, .int .u32 y3] 24 (0, 0)), (w.heap.size + 1 + 1, .cells #[.int .i64 idx, s1, s2] 38 (0, 0))]
theorem Kc3.new (w : World) (p0 p1 p2 p3 y0 y1 y2 y3 idx : Int) (s1 s2 : Value) : Kc3 w (((w.alloc (.cells #[.int .u32 p0, .int .u32 p1, .int .u32 p2, .int .u32 p3] 24)).alloc (.cells #[.int .u32 y0, .int .u32 y1, .int .u32 y2, .int .u32 y3] 24)).alloc (.cells #[.int .i64 idx, s1, s2] 38)) p0 p1 p2 p3 y0 y1 y2 y3 idx s1 s2 :=
  (((Kx.nil none w).more (.cells #[.int .u32 p0, .int .u32 p1, .int .u32 p2, .int .u32 p3] 24 (0, 0))).add (w.heap.size + 1) (by simp) (.cells #[.int .u32 y0, .int .u32 y1, .int .u32 y2, .int .u32 y3] 24 (0, 0))).add (w.heap.size + 1 + 1) (by simp) (.cells #[.int .i64 idx, s1, s2] 38 (0, 0))
theorem khd_long {pub msg : Ws} {idx : Int} {one path : Dl} (h : 4 < path.length) : khd pub msg idx one path = false := by
  unfold khd
  rw [decide_eq_false (by omega)]
  rfl
theorem khd_few {pub msg : Ws} {idx : Int} {one path : Dl} (h : one.length ≠ 35) : khd pub msg idx one path = false := by
  unfold khd
  rw [decide_eq_false h]
  simp
theorem khd_far {pub msg : Ws} {idx : Int} {one path : Dl} (h : idx < 0 ∨ ((2 ^ path.length : Nat) : Int) ≤ idx) : khd pub msg idx one path = false := by
  have h2 : ¬ (0 ≤ idx ∧ idx < 2 ^ path.length) := by
    have e : ((2 ^ path.length : Nat) : Int) = 2 ^ path.length := by push_cast; rfl
    omega
  unfold khd
  rw [decide_eq_false h2]
  simp
theorem khd_at {pub msg : Ws} {i : Nat} {one path : Dl} (h4 : path.length ≤ 4) (h35 : one.length = 35) (hi : i < 2 ^ path.length) : khd pub msg (i : Int) one path = same (clb i (rch msg one) path) pub := by
  have h2 : (0 ≤ (i : Int) ∧ (i : Int) < 2 ^ path.length) := ⟨by omega, by exact_mod_cast hi⟩
  unfold khd
  rw [decide_eq_true h4, decide_eq_true h35, decide_eq_true h2, Int.toNat_natCast]
  rfl
set_option maxRecDepth 100000 in
set_option maxHeartbeats 2000000 in
theorem check6r_long {pub msg : Ws} {idx : Int} {one path : Dl} {v : Value} (w : World) (hp : Ok4 pub) (hm : Ok4 msg) (hv : SgV w v idx one path) (h4 : 4 < path.length) :
    Calls Tryd.prog 18 #[ag pub, ag msg, v] w fun e w' => e = .returned (.bool (khd pub msg idx one path)) ∧ Below w.heap.size w w' := by
  rw [khd_long h4]
  obtain ⟨A, n, c, B, m, d, rfl, ⟨l1, _, _, d1⟩, ⟨k1, _, _, e1⟩⟩ := hv
  obtain ⟨p0, p1, p2, p3, rfl, _⟩ := ok4 hp
  obtain ⟨y0, y1, y2, y3, rfl, _⟩ := ok4 hm
  rw [ag4, ag4]
  have HK := Lib.hid (Kc3.new w p0 p1 p2 p3 y0 y1 y2 y3 idx (.slice A n c) (.slice B m d))
  have i0 : (4 : Int) < (m : Int) := by omega
  obtain ⟨a0, a1, a2, _⟩ := cells3 (HK.out.at 2 rfl)
  clear hp hm l1 d1 k1 e1 h4
  go_enter Tryd.func18, Tryd.ntmps18
  go_wp2_with fail
  go_ret
  exact ⟨rfl, HK.out.be.plain⟩
set_option maxRecDepth 100000 in
set_option maxHeartbeats 4000000 in
theorem check6r_few {pub msg : Ws} {idx : Int} {one path : Dl} {v : Value} (w : World) (hp : Ok4 pub) (hm : Ok4 msg) (hv : SgV w v idx one path) (h4 : path.length ≤ 4) (h35 : one.length ≠ 35) :
    Calls Tryd.prog 18 #[ag pub, ag msg, v] w fun e w' => e = .returned (.bool (khd pub msg idx one path)) ∧ Below w.heap.size w w' := by
  rw [khd_few h35]
  obtain ⟨A, n, c, B, m, d, rfl, ⟨l1, n1, n2, d1⟩, ⟨k1, _, _, e1⟩⟩ := hv
  have c1 := fun w => reachr_no (A := A) (n := n) (cap := c) msg w hm (by omega) (by unfold maxLen at n2; omega)
  obtain ⟨p0, p1, p2, p3, rfl, _⟩ := ok4 hp
  obtain ⟨y0, y1, y2, y3, rfl, _⟩ := ok4 hm
  rw [ag4] at c1
  rw [ag4, ag4]
  have C1 := Lib.hid c1
  have HK := Lib.hid (Kc3.new w p0 p1 p2 p3 y0 y1 y2 y3 idx (.slice A n c) (.slice B m d))
  have i0 : ¬ (4 : Int) < (m : Int) := by omega
  obtain ⟨a0, a1, a2, _⟩ := cells3 (HK.out.at 2 rfl)
  obtain ⟨b0, b1, b2, b3, _⟩ := cells4 (HK.out.at 1 rfl)
  have i1 : m ≤ 4 := by omega
  clear c1 hp hm l1 d1 k1 e1 h4 h35 n1 n2
  go_enter Tryd.func18, Tryd.ntmps18
  go_wp2_with fail
  refine (C1.out _).mono ?_
  rintro e w1 ⟨rfl, hb⟩
  replace HK : Hid (Kc3 w w1 p0 p1 p2 p3 y0 y1 y2 y3 idx (.slice A n c) (.slice B m d)) := Lib.hid (HK.out.after hb)
  clear hb a0 a1 a2 b0 b1 b2 b3
  have HB := Lib.hid ((HK.out.be.plain).alloc HK.out.be.plain.size (.cells #[.int .u32 0, .int .u32 0, .int .u32 0, .int .u32 0] 24))
  obtain ⟨a0, a1, a2, _⟩ := cells3 ((HK.out.more (.cells #[.int .u32 0, .int .u32 0, .int .u32 0, .int .u32 0] 24 (0, 0))).at 2 rfl)
  go_wp2_with fail
  obtain ⟨W0, hW0⟩ : ∃ W0, w1.alloc (.cells #[.int .u32 0, .int .u32 0, .int .u32 0, .int .u32 0] 24) = W0 := ⟨_, rfl⟩
  rw [hW0] at HB a0 a1 a2 ⊢
  clear hW0
  go_loopw [9, 10] (fun v u wr => ∃ j : Nat, j ≤ m ∧ v = .int .i64 ((2 ^ j : Nat) : Int) ∧ u = .int .i64 (j : Int) ∧ wr = W0) (fun _ u _ => m - (intOf u).toNat)
  case atStart => exact ⟨0, Nat.zero_le _, rfl, rfl, rfl⟩
  case round =>
    obtain ⟨j, hj, rfl, rfl, rfl⟩ := hrel
    have hp := two_le (h := j) (by omega)
    obtain ⟨P, hP⟩ : ∃ P, 2 ^ j = P := ⟨_, rfl⟩
    rw [hP] at hp ⊢
    by_cases hlt : j < m
    · have i2 : (j : Int) < (m : Int) := by omega
      have HP : Hid (P * 2 = 2 ^ (j + 1)) := Lib.hid (by rw [Nat.pow_succ, hP])
      clear hP
      go_wp2_with fail
      go_roundw
      case rel => exact ⟨j + 1, by omega, by rw [← HP.out]; go_num, by go_num, by simp⟩
      case measure => simp [intOf]; omega
    · obtain rfl : j = m := by omega
      have u0 : ¬ (j : Int) < (j : Int) := by omega
      clear hP
      go_wp2_with fail
      go_ret
      exact ⟨rfl, HB.out⟩
/-- What layer 4's Check says of a way up of a full tree. -/
theorem khd_ref {pub key msg : Ws} {idx : Int} {one path : Dl} {B : Option Addr} {m d : Nat} (hp : Ok4 pub) (hk : Ok4 key) (he : rch msg one = key) (h35 : one.length = 35) (h4 : path.length ≤ 4) (hm : path.length = m) (h1 : m ≤ d) (h2 : d ≤ maxLen) (W : World) (hd : Dd W B path) :
    Calls Tryd.prog 38 #[ag pub, .int .i64 ((2 ^ m : Nat) : Int), .int .i64 idx, ag key, .slice B m d] W fun e w' => e = .returned (.bool (khd pub msg idx one path)) ∧ Below W.heap.size W w' := by
  obtain ⟨p0, p1, p2, p3, rfl, _⟩ := ok4 hp
  obtain ⟨k0, k1, k2, k3, rfl, _⟩ := ok4 hk
  have h16 := two_le (h := m) (by omega)
  by_cases hf : idx < 0 ∨ ((2 ^ m : Nat) : Int) ≤ idx
  · rw [khd_far (by rw [hm]; exact hf)]
    exact checkr_no B m d W (.inr hf)
  · obtain ⟨i, rfl⟩ : ∃ i : Nat, idx = (i : Int) := ⟨idx.toNat, by omega⟩
    have hi : i < 2 ^ m := by omega
    have hc := checkr_yes (r0 := p0) (r1 := p1) (r2 := p2) (r3 := p3) (A := B) (n := 2 ^ m) (i := i) (c := m) (cap := d) W hi (by omega) hm (by omega) h1 (by unfold maxLen at h2; omega) hk hd
    rw [← chk_same, chk_full _ _ hm hi] at hc
    rw [khd_at h4 h35 (by rw [hm]; exact hi), he]
    exact hc
set_option maxRecDepth 100000 in
set_option maxHeartbeats 4000000 in
theorem check6r_row {pub msg : Ws} {idx : Int} {one path : Dl} {v : Value} (w : World) (hp : Ok4 pub) (hm : Ok4 msg) (hv : SgV w v idx one path) (h4 : path.length ≤ 4) (h35 : one.length = 35) :
    Calls Tryd.prog 18 #[ag pub, ag msg, v] w fun e w' => e = .returned (.bool (khd pub msg idx one path)) ∧ Below w.heap.size w w' := by
  obtain ⟨A, n, c, B, m, d, rfl, ⟨l1, n1, n2, d1⟩, ⟨k1, k2, k3, e1⟩⟩ := hv
  obtain rfl : n = 35 := by omega
  obtain ⟨b, off, rfl, dr⟩ := d1.2 (by intro e; rw [e] at h35; simp at h35)
  have hok : Ok4 (rch msg one) := rch_ok d1.1 h35
  have c1 := fun (W : World) (hr : DRow W b off one) => reachr_row (cap := c) msg W hm h35 n1 hr
  obtain ⟨key, hkey⟩ : ∃ key, rch msg one = key := ⟨_, rfl⟩
  have c2 := fun (W : World) (hd : Dd W B path) => khd_ref (idx := idx) hp (by rw [← hkey]; exact hok) hkey h35 h4 k1 k2 k3 W hd
  rw [hkey] at hok c1
  obtain ⟨bb, hbb⟩ : ∃ bb, khd pub msg idx one path = bb := ⟨_, rfl⟩
  rw [hbb] at c2 ⊢
  obtain ⟨z0, z1, z2, z3, rfl, _⟩ := ok4 hok
  obtain ⟨p0, p1, p2, p3, rfl, _⟩ := ok4 hp
  obtain ⟨y0, y1, y2, y3, rfl, _⟩ := ok4 hm
  rw [ag4, ag4] at c1 c2
  rw [ag4, ag4]
  have h16 := two_le (h := m) (by omega)
  obtain ⟨N, hN⟩ : ∃ N, 2 ^ m = N := ⟨_, rfl⟩
  rw [hN] at c2 h16
  have HN := Lib.hid hN
  have C1 := Lib.hid c1
  have C2 := Lib.hid c2
  have DR := Lib.hid dr
  have DD := Lib.hid e1
  have HK := Lib.hid (Kc3.new w p0 p1 p2 p3 y0 y1 y2 y3 idx (.slice (some ⟨b, off, none⟩) 35 c) (.slice B m d))
  have i0 : ¬ (4 : Int) < (m : Int) := by omega
  have i1 : m ≤ 4 := by omega
  obtain ⟨a0, a1, a2, _⟩ := cells3 (HK.out.at 2 rfl)
  obtain ⟨b0, b1, b2, b3, _⟩ := cells4 (HK.out.at 1 rfl)
  clear c1 c2 hp hm l1 d1 dr k1 k2 k3 e1 h4 h35 n1 n2 hkey hbb hok hN
  go_enter Tryd.func18, Tryd.ntmps18
  go_wp2_with fail
  refine (C1.out _ (DR.out.oldn HK.out)).mono ?_
  rintro e w1 ⟨rfl, hb⟩
  replace HK : Hid (Kc3 w w1 p0 p1 p2 p3 y0 y1 y2 y3 idx (.slice (some ⟨b, off, none⟩) 35 c) (.slice B m d)) := Lib.hid (HK.out.after hb)
  clear hb a0 a1 a2 b0 b1 b2 b3
  have HK4 := Lib.hid (HK.out.more (.cells #[.int .u32 z0, .int .u32 z1, .int .u32 z2, .int .u32 z3] 24 (0, 0)))
  go_wp2_with fail
  obtain ⟨q, hq⟩ : ∃ q, w1.heap.size = q := ⟨_, rfl⟩
  obtain ⟨W0, hW0⟩ : ∃ W0, w1.alloc (.cells #[.int .u32 z0, .int .u32 z1, .int .u32 z2, .int .u32 z3] 24) = W0 := ⟨_, rfl⟩
  rw [hq, hW0] at HK4
  rw [hq, hW0]
  obtain ⟨a0, a1, a2, _⟩ := cells3 (HK4.out.at 2 rfl)
  obtain ⟨b0, b1, b2, b3, _⟩ := cells4 (HK4.out.at 0 rfl)
  obtain ⟨d0, d1, d2, d3, _⟩ := cells4 (HK4.out.at 3 rfl)
  clear hW0 hq HK
  go_loopw [9, 10] (fun v u wr => ∃ j : Nat, j ≤ m ∧ v = .int .i64 ((2 ^ j : Nat) : Int) ∧ u = .int .i64 (j : Int) ∧ wr = W0) (fun _ u _ => m - (intOf u).toNat)
  case atStart => exact ⟨0, Nat.zero_le _, rfl, rfl, rfl⟩
  case round =>
    obtain ⟨j, hj, rfl, rfl, rfl⟩ := hrel
    have hp := two_le (h := j) (by omega)
    obtain ⟨P, hP⟩ : ∃ P, 2 ^ j = P := ⟨_, rfl⟩
    rw [hP] at hp ⊢
    by_cases hlt : j < m
    · have i2 : (j : Int) < (m : Int) := by omega
      have HP : Hid (P * 2 = 2 ^ (j + 1)) := Lib.hid (by rw [Nat.pow_succ, hP])
      clear hP
      go_wp2_with fail
      go_roundw
      case rel => exact ⟨j + 1, by omega, by rw [← HP.out]; go_num, by go_num, by simp⟩
      case measure => simp [intOf]; omega
    · obtain rfl : j = m := by omega
      have e : P = N := by rw [← hP, HN.out]
      subst e
      have u0 : ¬ (j : Int) < (j : Int) := by omega
      clear hP
      go_wp2_with fail
      refine (C2.out _ (DD.out.kept HK4.out.be.plain)).mono ?_
      rintro e w2 ⟨rfl, hb⟩
      replace HK4 := Lib.hid (HK4.out.after hb)
      clear hb
      go_wp2_with fail
      go_ret
      exact ⟨rfl, HK4.out.be.plain⟩
theorem check6r {pub msg : Ws} {idx : Int} {one path : Dl} {v : Value} (w : World) (hp : Ok4 pub) (hm : Ok4 msg) (hv : SgV w v idx one path) :
    Calls Tryd.prog 18 #[ag pub, ag msg, v] w fun e w' => e = .returned (.bool (khd pub msg idx one path)) ∧ Below w.heap.size w w' := by
  by_cases h4 : path.length ≤ 4
  · by_cases h35 : one.length = 35
    · exact check6r_row w hp hm hv h4 h35
    · exact check6r_few w hp hm hv h4 h35
  · exact check6r_long w hp hm hv (by omega)
end Go.Proofs.YtfbefenagnlnfaaDoor
set_option linter.unusedVariables false
namespace Go.Proofs.YtfbefenagnlnfaaDoor
open Go.RowKit

theorem cells6 {w : World} {b : Nat} {t : TypeId} {v0 v1 v2 v3 v4 v5 : Value} (h : w.heap[b]? = some (.cells #[v0, v1, v2, v3, v4, v5] t (0, 0))) :
    w.cell? ⟨b, 0, none⟩ = some v0 ∧ w.cell? ⟨b, 1, none⟩ = some v1 ∧ w.cell? ⟨b, 2, none⟩ = some v2 ∧ w.cell? ⟨b, 3, none⟩ = some v3 ∧ w.cell? ⟨b, 4, none⟩ = some v4 ∧ w.cell? ⟨b, 5, none⟩ = some v5 ∧
    w.frozen? ⟨b, 0, none⟩ = false ∧ w.frozen? ⟨b, 1, none⟩ = false ∧ w.frozen? ⟨b, 2, none⟩ = false ∧ w.frozen? ⟨b, 3, none⟩ = false ∧ w.frozen? ⟨b, 4, none⟩ = false ∧ w.frozen? ⟨b, 5, none⟩ = false := by
  simp [World.cell?, World.frozen?, h]
theorem row6 {w : World} {b : Nat} {t : TypeId} {u0 u1 u2 u3 u4 u5 : Value} (h : w.heap[b]? = some (.cells #[u0, u1, u2, u3, u4, u5] t (0, 0))) (v0 v1 v2 v3 v4 v5 : Value) :
    ((((((w.setCell ⟨b, 0, none⟩ v0).setCell ⟨b, 1, none⟩ v1).setCell ⟨b, 2, none⟩ v2).setCell ⟨b, 3, none⟩ v3).setCell ⟨b, 4, none⟩ v4).setCell ⟨b, 5, none⟩ v5).heap[b]? = some (.cells #[v0, v1, v2, v3, v4, v5] t (0, 0)) := by
  have e0 := heap_setCell_same w b 0 _ t v0 h
  have e1 := heap_setCell_same _ b 1 _ t v1 e0
  have e2 := heap_setCell_same _ b 2 _ t v2 e1
  have e3 := heap_setCell_same _ b 3 _ t v3 e2
  have e4 := heap_setCell_same _ b 4 _ t v4 e3
  have e5 := heap_setCell_same _ b 5 _ t v5 e4
  simpa using e5
theorem SgX.drew {w : World} {q : Nat} {v : Value} {idx : Int} {one path : Dl} (h : SgX w q v idx one path) : SgX w.drew q v idx one path := h.kept (Below.refl _ _).drew
theorem Kx.put6 {p : Option Nat} {w W : World} {bs : List (Nat × Obj)} (h : Kx p w W bs) (i : Nat) {q : Nat} {t : TypeId} {u0 u1 u2 u3 u4 u5 : Value} (hx : bs[i]? = some (q, .cells #[u0, u1, u2, u3, u4, u5] t (0, 0))) (hq : p = some q ∨ w.heap.size ≤ q) (v0 v1 v2 v3 v4 v5 : Value) :
    Kx p w ((((((W.setCell ⟨q, 0, none⟩ v0).setCell ⟨q, 1, none⟩ v1).setCell ⟨q, 2, none⟩ v2).setCell ⟨q, 3, none⟩ v3).setCell ⟨q, 4, none⟩ v4).setCell ⟨q, 5, none⟩ v5) (bs.set i (q, .cells #[v0, v1, v2, v3, v4, v5] t (0, 0))) :=
  h.afterq i hx hq (((((Bx.set W q 0 v0).setn 1 v1).setn 2 v2).setn 3 v3).setn 4 v4 |>.setn 5 v5) (row6 (h.at i hx) v0 v1 v2 v3 v4 v5)
theorem Kx.put65 {p : Option Nat} {w W : World} {bs : List (Nat × Obj)} (h : Kx p w W bs) (i : Nat) {q : Nat} {t : TypeId} {u0 u1 u2 u3 u4 u5 : Value} (hx : bs[i]? = some (q, .cells #[u0, u1, u2, u3, u4, u5] t (0, 0))) (hq : p = some q ∨ w.heap.size ≤ q) (v5 : Value) :
    Kx p w (W.setCell ⟨q, 5, none⟩ v5) (bs.set i (q, .cells #[u0, u1, u2, u3, u4, v5] t (0, 0))) :=
  h.afterq i hx hq (Bx.set W q 5 v5) (by
    have := heap_setCell_same W q 5 _ t v5 (h.at i hx)
    simpa using this)
def sgo (s0 s1 s2 s3 h n : Int) : Obj := .cells #[.int .u32 s0, .int .u32 s1, .int .u32 s2, .int .u32 s3, .int .i64 h, .int .i64 n] 30 (0, 0)
def sg3 (a b c : Value) : Obj := .cells #[a, b, c] 38 (0, 0)
def dgo (y0 y1 y2 y3 : Int) : Obj := .cells #[.int .u32 y0, .int .u32 y1, .int .u32 y2, .int .u32 y3] 24 (0, 0)
theorem Ku.new (w : World) (s0 s1 s2 s3 h n y0 y1 y2 y3 : Int) :
    Kx none w ((((w.alloc (.cells #[.int .u32 s0, .int .u32 s1, .int .u32 s2, .int .u32 s3, .int .i64 h, .int .i64 n] 30)).alloc (.cells #[.int .u32 y0, .int .u32 y1, .int .u32 y2, .int .u32 y3] 24)).alloc (.cells #[.int .u32 0, .int .u32 0, .int .u32 0, .int .u32 0, .int .i64 0, .int .i64 0] 30)).alloc (.cells #[.int .i64 0, .slice none 0 0, .slice none 0 0] 38))
      [(w.heap.size, .cells #[.int .u32 s0, .int .u32 s1, .int .u32 s2, .int .u32 s3, .int .i64 h, .int .i64 n] 30 (0, 0)), (w.heap.size + 1, .cells #[.int .u32 y0, .int .u32 y1, .int .u32 y2, .int .u32 y3] 24 (0, 0)), (w.heap.size + 1 + 1, .cells #[.int .u32 0, .int .u32 0, .int .u32 0, .int .u32 0, .int .i64 0, .int .i64 0] 30 (0, 0)), (w.heap.size + 1 + 1 + 1, .cells #[.int .i64 0, .slice none 0 0, .slice none 0 0] 38 (0, 0))] :=
  ((((Kx.nil none w).more (.cells #[.int .u32 s0, .int .u32 s1, .int .u32 s2, .int .u32 s3, .int .i64 h, .int .i64 n] 30 (0, 0))).add (w.heap.size + 1) (by simp) (.cells #[.int .u32 y0, .int .u32 y1, .int .u32 y2, .int .u32 y3] 24 (0, 0))).add (w.heap.size + 1 + 1) (by simp) (.cells #[.int .u32 0, .int .u32 0, .int .u32 0, .int .u32 0, .int .i64 0, .int .i64 0] 30 (0, 0))).add (w.heap.size + 1 + 1 + 1) (by simp) (.cells #[.int .i64 0, .slice none 0 0, .slice none 0 0] 38 (0, 0))
/-- What Use gives beside an error. -/
def UsN (w : World) (er : Int) (e : Ending) (w' : World) : Prop := e = .returned (.tuple #[.agg #[.int .u32 0, .int .u32 0, .int .u32 0, .int .u32 0, .int .i64 0, .int .i64 0], .agg #[.int .i64 0, .slice none 0 0, .slice none 0 0], .int .i64 er]) ∧ Below w.heap.size w w'
/-- .. and what where it signs. -/
def UsE (w : World) (s0 s1 s2 s3 h n idx : Int) (one path : Dl) (e : Ending) (w' : World) : Prop := ∃ v, e = .returned (.tuple #[.agg #[.int .u32 s0, .int .u32 s1, .int .u32 s2, .int .u32 s3, .int .i64 h, .int .i64 n], v, .int .i64 0]) ∧ SgX w' w.heap.size v idx one path ∧ Below w.heap.size w w'
set_option maxRecDepth 100000 in
set_option maxHeartbeats 2000000 in
theorem use6r_no {s0 s1 s2 s3 h n : Int} {msg : Ws} (w : World) (hm : Ok4 msg) (hh : h < 0 ∨ 4 < h) :
    Calls Tryd.prog 20 #[.agg #[.int .u32 s0, .int .u32 s1, .int .u32 s2, .int .u32 s3, .int .i64 h, .int .i64 n], ag msg] w (UsN w 2) := by
  obtain ⟨y0, y1, y2, y3, rfl, _⟩ := ok4 hm
  rw [ag4]
  have HK := Lib.hid (Ku.new w s0 s1 s2 s3 h n y0 y1 y2 y3)
  clear hm
  by_cases h0 : h < 0
  · clear hh
    go_enter Tryd.func20, Tryd.ntmps20
    go_wp2_with fail
    exact bodyPost_ret (v := .tuple #[.agg #[.int .u32 0, .int .u32 0, .int .u32 0, .int .u32 0, .int .i64 0, .int .i64 0], .agg #[.int .i64 0, .slice none 0 0, .slice none 0 0], .int .i64 2]) (by simp [results, go_sem]) rfl ⟨rfl, HK.out.be.plain⟩
  · have h1 : 4 < h := by omega
    clear hh
    go_enter Tryd.func20, Tryd.ntmps20
    go_wp2_with fail
    exact bodyPost_ret (v := .tuple #[.agg #[.int .u32 0, .int .u32 0, .int .u32 0, .int .u32 0, .int .i64 0, .int .i64 0], .agg #[.int .i64 0, .slice none 0 0, .slice none 0 0], .int .i64 2]) (by simp [results, go_sem]) rfl ⟨rfl, HK.out.be.plain⟩
set_option maxRecDepth 100000 in
set_option maxHeartbeats 2000000 in
theorem use6r_used {s0 s1 s2 s3 n : Int} {h : Nat} {msg : Ws} (w : World) (hs : Ok4 [s0, s1, s2, s3]) (hm : Ok4 msg) (hh : h ≤ 4) (hn : n < 0 ∨ ((2 ^ h : Nat) : Int) ≤ n) :
    Calls Tryd.prog 20 #[.agg #[.int .u32 s0, .int .u32 s1, .int .u32 s2, .int .u32 s3, .int .i64 (h : Int), .int .i64 n], ag msg] w (UsN w 9) := by
  have c1 := fun w => sign6r_arg _ msg h n w hs hm hh hn
  obtain ⟨y0, y1, y2, y3, rfl, _⟩ := ok4 hm
  rw [ag4, ag4] at c1
  rw [ag4]
  have C1 : Hid (∀ w : World, Calls Tryd.prog 15 #[.agg #[.int .u32 s0, .int .u32 s1, .int .u32 s2, .int .u32 s3], .int .i64 (h : Int), .int .i64 n, .agg #[.int .u32 y0, .int .u32 y1, .int .u32 y2, .int .u32 y3]] w fun e w' => ∃ A a c B b d, e = .returned (.tuple #[.agg #[.int .i64 0, .slice A a c, .slice B b d], .int .i64 1]) ∧ Below w.heap.size w w') := Lib.hid (fun w => (c1 w).mono (by
    rintro e w' ⟨v, rfl, ⟨A, a, c, B, b, d, rfl, _, _⟩, hb⟩
    exact ⟨A, a, c, B, b, d, rfl, hb⟩))
  have HK := Lib.hid (Ku.new w s0 s1 s2 s3 (h : Int) n y0 y1 y2 y3)
  have i0 : ¬ (h : Int) < 0 := by omega
  have i1 : ¬ (4 : Int) < (h : Int) := by omega
  have i2 : (0 : Int) ≤ (h : Int) := by omega
  have i3 : (h : Int) ≤ 4 := by omega
  obtain ⟨a0, a1, a2, a3, a4, a5, _⟩ := cells6 (HK.out.at 0 rfl)
  obtain ⟨b0, b1, b2, b3, _⟩ := cells4 (HK.out.at 1 rfl)
  clear c1 hs hm hh hn
  go_enter Tryd.func20, Tryd.ntmps20
  go_wp2_with fail
  refine (C1.out _).mono ?_
  rintro e w1 ⟨A, a, c, B, b, d, rfl, hb⟩
  replace HK := Lib.hid ((HK.out.after hb).more (.cells #[.int .i64 0, .slice A a c, .slice B b d] 38 (0, 0)))
  clear hb a0 a1 a2 a3 a4 a5 b0 b1 b2 b3
  obtain ⟨a0, a1, a2, a3, a4, a5, d0, d1, d2, d3, d4, d5⟩ := cells6 (HK.out.at 2 rfl)
  obtain ⟨b0, b1, b2, e0, e1, e2⟩ := cells3 (HK.out.at 3 rfl)
  have HE := Lib.hid ((HK.out.put6 2 rfl (.inr (by omega)) (.int .u32 0) (.int .u32 0) (.int .u32 0) (.int .u32 0) (.int .i64 0) (.int .i64 0)).put3 3 rfl (.inr (by omega)) (.int .i64 0) (.slice none 0 0) (.slice none 0 0))
  go_wp2_with fail
  exact bodyPost_ret (v := .tuple #[.agg #[.int .u32 0, .int .u32 0, .int .u32 0, .int .u32 0, .int .i64 0, .int .i64 0], .agg #[.int .i64 0, .slice none 0 0, .slice none 0 0], .int .i64 9]) (by
    obtain ⟨k0, k1, k2, k3, k4, k5, _⟩ := cells6 (HE.out.at 2 rfl)
    obtain ⟨l0, l1, l2, _⟩ := cells3 (HE.out.at 3 rfl)
    simp [results, go_sem, k0, k1, k2, k3, k4, k5, l0, l1, l2]) rfl ⟨rfl, HE.out.be.plain⟩
set_option maxRecDepth 100000 in
set_option maxHeartbeats 4000000 in
theorem use6r_yes {s0 s1 s2 s3 : Int} {h n : Nat} {msg : Ws} (w : World) (hs : Ok4 [s0, s1, s2, s3]) (hm : Ok4 msg) (hh : h ≤ 4) (hn : n < 2 ^ h) (ht : Tabs w) :
    Calls Tryd.prog 20 #[.agg #[.int .u32 s0, .int .u32 s1, .int .u32 s2, .int .u32 s3, .int .i64 (h : Int), .int .i64 (n : Int)], ag msg] w (UsE w s0 s1 s2 s3 (h : Int) ((n : Int) + 1) (n : Int) (sgn (ksd [s0, s1, s2, s3] n) msg) (mway (kys [s0, s1, s2, s3] h) n)) := by
  have c1 := fun w ht => sign6r_yes _ msg h n w hs hm hh hn ht
  have h16 := two_le hh
  obtain ⟨S, hS⟩ : ∃ S, sgn (ksd [s0, s1, s2, s3] n) msg = S := ⟨_, rfl⟩
  obtain ⟨P, hP⟩ : ∃ P, mway (kys [s0, s1, s2, s3] h) n = P := ⟨_, rfl⟩
  rw [hS, hP] at c1 ⊢
  obtain ⟨y0, y1, y2, y3, rfl, _⟩ := ok4 hm
  rw [ag4, ag4] at c1
  rw [ag4]
  have C1 : Hid (∀ w : World, Tabs w → Calls Tryd.prog 15 #[.agg #[.int .u32 s0, .int .u32 s1, .int .u32 s2, .int .u32 s3], .int .i64 (h : Int), .int .i64 (n : Int), .agg #[.int .u32 y0, .int .u32 y1, .int .u32 y2, .int .u32 y3]] w fun e w' => ∃ A a c B b d, e = .returned (.tuple #[.agg #[.int .i64 (n : Int), .slice A a c, .slice B b d], .int .i64 0]) ∧ SgX w' w.heap.size (.agg #[.int .i64 (n : Int), .slice A a c, .slice B b d]) (n : Int) S P ∧ Below w.heap.size w w') := Lib.hid (fun w ht => (c1 w ht).mono (by
    rintro e w' ⟨v, rfl, hv, hb⟩
    obtain ⟨A, a, c, B, b, d, rfl, h1, h2⟩ := hv
    exact ⟨A, a, c, B, b, d, rfl, ⟨A, a, c, B, b, d, rfl, h1, h2⟩, hb⟩))
  have HT := Lib.hid ht
  have HK := Lib.hid (Ku.new w s0 s1 s2 s3 (h : Int) (n : Int) y0 y1 y2 y3)
  have i0 : ¬ (h : Int) < 0 := by omega
  have i1 : ¬ (4 : Int) < (h : Int) := by omega
  have i2 : (0 : Int) ≤ (h : Int) := by omega
  have i3 : (h : Int) ≤ 4 := by omega
  have i4 : (0 : Int) ≤ (n : Int) := by omega
  have i5 : (n : Int) ≤ 16 := by omega
  obtain ⟨a0, a1, a2, a3, a4, a5, _⟩ := cells6 (HK.out.at 0 rfl)
  obtain ⟨b0, b1, b2, b3, _⟩ := cells4 (HK.out.at 1 rfl)
  clear c1 hs hm hh hn ht h16 hS hP
  go_enter Tryd.func20, Tryd.ntmps20
  go_wp2_with fail
  refine (C1.out _ (HT.out.oldn HK.out)).mono ?_
  rintro e w1 ⟨A, a, c, B, b, d, rfl, hv, hb⟩
  have hq := HK.out.lt 3 rfl
  have HR4 : Hid (w.heap.size < w.heap.size + 1 + 1 + 1 + 1 ∧ w.heap.size + 1 + 1 < w.heap.size + 1 + 1 + 1 + 1 ∧ w.heap.size + 1 + 1 + 1 < w.heap.size + 1 + 1 + 1 + 1 ∧ w.heap.size ≤ w.heap.size + 1 + 1 + 1 + 1) := Lib.hid ⟨by omega, by omega, by omega, by omega⟩
  have HV : Hid (SgX w1 (w.heap.size + 1 + 1 + 1 + 1) (.agg #[.int .i64 (n : Int), .slice A a c, .slice B b d]) (n : Int) S P) := Lib.hid (hv.low (by simp))
  replace HK := Lib.hid ((HK.out.after hb).more (.cells #[.int .i64 (n : Int), .slice A a c, .slice B b d] 38 (0, 0)))
  have HQ := Lib.hid (show w.heap.size ≤ w1.heap.size from by have := hb.size; simp at this; omega)
  have HZ := Lib.hid (show w.heap.size + 1 + 1 + 1 < w1.heap.size from by have := hb.size; simp at this; omega)
  clear hb hv hq a0 a1 a2 a3 a4 a5 b0 b1 b2 b3
  obtain ⟨a0, a1, a2, a3, a4, a5, d0, d1, d2, d3, d4, d5⟩ := cells6 (HK.out.at 0 rfl)
  go_wp2_with fail
  have HK1 := Lib.hid (HK.out.put65 0 rfl (.inr (Nat.le_refl _)) (.int .i64 ((n : Int) + 1)))
  have HX1 := Lib.hid (((HV.out.kept ((Below.refl _ w1).alloc (Nat.le_refl _) (.cells #[.int .i64 (n : Int), .slice A a c, .slice B b d] 38 (0, 0)))).set HR4.out.1 5 (.int .i64 ((n : Int) + 1))))
  clear HK HV a0 a1 a2 a3 a4 a5 d0 d1 d2 d3 d4 d5
  obtain ⟨W1, hW1⟩ : ∃ W, (w1.alloc (.cells #[.int .i64 (n : Int), .slice A a c, .slice B b d] 38)).setCell ⟨w.heap.size, 5, none⟩ (.int .i64 ((n : Int) + 1)) = W := ⟨_, rfl⟩
  rw [hW1] at HK1 HX1 ⊢
  clear hW1
  obtain ⟨p0, p1, p2, p3, p4, p5, _⟩ := cells6 (HK1.out.at 0 rfl)
  obtain ⟨a0, a1, a2, a3, a4, a5, d0, d1, d2, d3, d4, d5⟩ := cells6 (HK1.out.at 2 rfl)
  obtain ⟨b0, b1, b2, e0, e1, e2⟩ := cells3 (HK1.out.at 3 rfl)
  obtain ⟨c0, c1, c2, _⟩ := cells3 (HK1.out.at 4 rfl)
  have hz := HZ.out
  have n1 : ¬ w1.heap.size = w.heap.size + 1 + 1 := by omega
  have n2 : ¬ w.heap.size + 1 + 1 = w1.heap.size := by omega
  have n3 : ¬ w1.heap.size = w.heap.size + 1 + 1 + 1 := by omega
  have n4 : ¬ w.heap.size + 1 + 1 + 1 = w1.heap.size := by omega
  clear hz
  go_region
  have HE := Lib.hid ((HK1.out.put6 2 rfl (.inr (by omega)) (.int .u32 s0) (.int .u32 s1) (.int .u32 s2) (.int .u32 s3) (.int .i64 (h : Int)) (.int .i64 ((n : Int) + 1))).put3 3 rfl (.inr (by omega)) (.int .i64 (n : Int)) (.slice A a c) (.slice B b d)).drew
  have HX := Lib.hid ((((((((((HX1.out.set HR4.out.2.1 0 (.int .u32 s0)).set HR4.out.2.1 1 (.int .u32 s1)).set HR4.out.2.1 2 (.int .u32 s2)).set HR4.out.2.1 3 (.int .u32 s3)).set HR4.out.2.1 4 (.int .i64 (h : Int))).set HR4.out.2.1 5 (.int .i64 ((n : Int) + 1))).set HR4.out.2.2.1 0 (.int .i64 (n : Int))).set HR4.out.2.2.1 1 (.slice A a c)).set HR4.out.2.2.1 2 (.slice B b d)).drew.low HR4.out.2.2.2)
  go_wp2_with fail
  exact bodyPost_ret (v := .tuple #[.agg #[.int .u32 s0, .int .u32 s1, .int .u32 s2, .int .u32 s3, .int .i64 (h : Int), .int .i64 ((n : Int) + 1)], .agg #[.int .i64 (n : Int), .slice A a c, .slice B b d], .int .i64 0]) (by
    obtain ⟨k0, k1, k2, k3, k4, k5, _⟩ := cells6 (HE.out.at 2 rfl)
    obtain ⟨l0, l1, l2, _⟩ := cells3 (HE.out.at 3 rfl)
    simp [results, go_sem, k0, k1, k2, k3, k4, k5, l0, l1, l2]) rfl ⟨_, rfl, HX.out, HE.out.be.plain⟩
end Go.Proofs.YtfbefenagnlnfaaDoor
