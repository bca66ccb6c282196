/- The law DigestSponge's walk over a string of up to 300 bytes. -/
import Derived.Test.YtflggcnojfmlmaaDoorDigU
import Derived.Test.YtflggcnojfmlmaaDoorDigL
set_option linter.unusedVariables false
namespace Go.Proofs.YtflggcnojfmlmaaDoor
open Go.RowKit
theorem eight_new (w : World) (a b c d e f g h : Value) (t : TypeId) :
    ∀ (j : Nat) (u : Value), [a, b, c, d, e, f, g, h][j]? = some u → (w.alloc (.cells #[a, b, c, d, e, f, g, h] t)).cell? ((⟨w.heap.size, 0, none⟩ : Addr).add j) = some u := by
  intro j u hj
  match j, hj with
  | 0, hj | 1, hj | 2, hj | 3, hj | 4, hj | 5, hj | 6, hj | 7, hj => simp at hj; subst hj; simp [Addr.add]
  | n + 8, hj => simp at hj
def lnOf : Value → Nat
  | .slice _ n _ => n
  | _ => 0
set_option maxRecDepth 100000 in
set_option maxHeartbeats 4000000 in
theorem sponge_short (s : ByteArray) (w : World) (hn : s.size ≤ 300) (ht : Tabs w) :
    Calls Tryd.prog 3 #[.string s] w fun e w' => e = .returned (.bool true) ∧ Low w w' := by
  obtain ⟨K, hK⟩ : ∃ K, spb s ((23 - s.size % 16) % 16) = K := ⟨_, rfl⟩
  have hKl := length_spb s ((23 - s.size % 16) % 16)
  have hKb := spb_byte s ((23 - s.size % 16) % 16) hn
  have hKc := spb_cells s ((23 - s.size % 16) % 16) hn
  have hdo := wdsL_spb s hn
  have cOf := fun w ht => of_code s w hn ht
  rw [hdo] at cOf
  rw [hK] at hKl hKb hKc cOf
  obtain ⟨n, hnn⟩ : ∃ n, s.size = n := ⟨_, rfl⟩
  obtain ⟨z, hz⟩ : ∃ z, (23 - n % 16) % 16 = z := ⟨_, rfl⟩
  rw [hnn] at hKl hKc hn
  rw [hz] at hKl hKc
  obtain ⟨q, hq⟩ : ∃ q, n + 1 + (z + 8) = 16 * q := ⟨(n + 1 + (z + 8)) / 16, by omega⟩
  rw [hq] at hKl
  obtain ⟨M, hM⟩ : ∃ M, wdsL K = M := ⟨_, rfl⟩
  rw [hM] at cOf
  have hMo := wdsL_word (4 * q) _ (by omega) hKb
  have hMl : M.length = 4 * q := by rw [← hM]; exact length_wdsL _ _ (by omega)
  have hMw : ∀ x ∈ M, W32 x := by
    intro x hx
    rw [← hM] at hx
    exact ⟨(hMo x hx).1, by have := (hMo x hx).2; omega⟩
  have hF := fun k (hk : k < q) => four_of hMl hMw hk
  have hfin : M.drop (4 * q) = [] := List.drop_of_length_le (by omega)
  have hT8 := tkAll_ok _ one8 M (Nat.le_refl _) one8_ok hMw
  obtain ⟨T8, hT⟩ : ∃ T, tkAll one8 M = T := ⟨_, rfl⟩
  rw [hT] at hT8 cOf
  obtain ⟨v0, v1, v2, v3, v4, v5, v6, v7, rfl, _⟩ := ok8 hT8
  replace cOf := fun w ht => show Calls Tryd.prog 6 #[.string s] w (fun e w' => e = .returned (.agg #[.int .u32 v0, .int .u32 v1, .int .u32 v2, .int .u32 v3]) ∧ Below w.heap.size w w') from cOf w ht
  have hwd : ∀ k, k < q → ∀ i, i < 4 → M[4 * k + i]? = some (pw (fun j => K.getD (16 * k + j) 0) i 16) := by
    intro k hk i hi
    have h := wdsL_getD (4 * k + i) K (by omega)
    rw [hM, List.getD_eq_getElem?_getD, List.getElem?_eq_getElem (by omega)] at h
    rw [List.getElem?_eq_getElem (by omega)]
    congr 1
    refine h.trans ?_
    unfold pw
    rw [if_pos (by omega), if_pos (by omega), if_pos (by omega), if_pos (by omega)]
    rw [show 4 * (4 * k + i) = 16 * k + 4 * i by omega]
    rfl
  have hby : ∀ j, j < 16 * q → K[j]? = some (K.getD j 0) := by
    intro j hj
    rw [List.getD_eq_getElem?_getD, List.getElem?_eq_getElem (by omega)]
    rfl
  have hbb : ∀ j, 0 ≤ K.getD j 0 ∧ K.getD j 0 < 256 := by
    intro j
    rw [List.getD_eq_getElem?_getD]
    rcases Nat.lt_or_ge j K.length with h | h
    · rw [List.getElem?_eq_getElem h]; exact hKb _ (List.getElem_mem h)
    · rw [List.getElem?_eq_none h]; simp
  have h0 : Hid (tkAll one8 (M.drop (4 * 0)) = [v0, v1, v2, v3, v4, v5, v6, v7]) := by show _ = _; simpa using hT
  have i0 : (s.size : Int) = (n : Int) := by omega
  have i1 : ¬ (300 : Int) < (n : Int) := by omega
  have i2 : (n : Int) ≤ 300 := by omega
  have p1 : (s ++ (⟨#[128]⟩ : ByteArray)).size = n + 1 := by rw [ByteArray.size_append, hnn]; rfl
  have i3 : ¬ 9223372036854775807 < n + 1 := by omega
  have hz15 : z ≤ 15 := by omega
  have hq80 : q ≤ 40 := by omega
  have COF := Lib.hid cOf
  have HKC := Lib.hid hKc
  have HKL := Lib.hid hKl
  have HBY := Lib.hid hby
  have HBB := Lib.hid hbb
  have HWD := Lib.hid hwd
  have HF := Lib.hid hF
  have HFI := Lib.hid hfin
  have HT := Lib.hid ht
  have HZ := Lib.hid hz
  have HQ := Lib.hid hq
  obtain ⟨T, hTT⟩ : ∃ T, s ++ (⟨#[128]⟩ : ByteArray) = T := ⟨_, rfl⟩
  rw [hTT] at hKc p1
  replace HKC := Lib.hid hKc
  obtain ⟨t0, hi, hz0, hz1, hz2⟩ := info_parts info5
  have CV := fun (w : World) => Lib.run_convert_string_bytes (P := Tryd.prog) w 9 23 5 T Tryd.underlying9 Tryd.underlying23 Tryd.underlying5
  clear cOf hKc hKl hKb hK hdo hM hMo hMl hMw hF hfin hT8 hT hwd hby hbb ht hz hq hn
  go_enter Tryd.func3, Tryd.ntmps3
  go_wp2_with fail
  have hc := came_bytes w 5 T
  rw [p1] at hc
  have HC := Lib.hid hc
  clear hTT CV hc
  go_loopw [4] (fun v wr => ∃ (j r : Nat) (a : Option Addr) (c : Nat), j ≤ z ∧ v = .slice a (n + 1 + j) c ∧ Hid (Upon (Lib.bytesWorld w 5 T) 5 1 (some ⟨w.heap.size, 0, none⟩) w.heap.size 0 (n + 1) (grownCap w (n + 1) 0 5) (bcs T) wr v j (List.replicate j (.int .u8 0)) r)) (fun v _ => 400 - lnOf v)
  case atStart => exact ⟨0, 0, some ⟨w.heap.size, 0, none⟩, grownCap w (n + 1) 0 5, Nat.zero_le _, rfl, Upon.start HC.out⟩
  case round =>
    obtain ⟨j, r, a, c, hj, rfl, HU⟩ := hrel
    by_cases hlt : j < z
    · have e1 : (((n : Int) + 1 + (j : Int)) % 16 != 8) = true := by
        rw [bne_iff_ne]
        have := HZ.out
        omega
      go_wp2_with (at_builtin; refine wpList_append_upon _ rfl _ _ 23 23 rfl HC.out t0 (.int .u8 0) 1 Tryd.underlying23 hi hz0 hz1 hz2 rfl rfl (HU.out.alloc HC.out _) _ 1 [.int .u8 0] rfl (Src.ofSlice _ Tryd.underlying23 ⟨wr.heap.size, 0, none⟩ 1 1 [.int .u8 0] rfl (one_new _ _ _) (by simp [Value.oneCell'])) ?c1 ?c2 ?_)
      case c1 => unfold maxLen; omega
      case c2 => omega
      intro v' w1 hup
      obtain ⟨ao, co, rfl⟩ := hup.shape
      rw [← List.replicate_succ'] at hup
      have HU2 := Lib.hid hup
      clear hup
      go_wp2_with fail
      go_roundw
      case rel => exact ⟨j + 1, _, ao, co, by omega, rfl, HU2⟩
      case measure => simp [lnOf]; omega
    · obtain rfl : j = z := by omega
      have e1 : (((n : Int) + 1 + (j : Int)) % 16 != 8) = false := by
        rw [bne_eq_false_iff_eq]
        have := HZ.out
        omega
      go_wp2_with (at_builtin; refine wpList_append_upon _ rfl _ _ 23 23 rfl HC.out t0 (.int .u8 0) 1 Tryd.underlying23 hi hz0 hz1 hz2 rfl rfl (HU.out.alloc HC.out _) _ 8 [.int .u8 ((n : Int) % 256), .int .u8 ((n : Int) / 256), .int .u8 0, .int .u8 0, .int .u8 0, .int .u8 0, .int .u8 0, .int .u8 0] rfl (Src.ofSlice _ Tryd.underlying23 ⟨wr.heap.size, 0, none⟩ 8 8 _ rfl (eight_new _ _ _ _ _ _ _ _ _ _) (by simp [Value.oneCell'])) ?c3 ?c4 ?_)
      case c3 => unfold maxLen; omega
      case c4 => omega
      intro v' w1 hup
      have HL := Lib.hid (low_upon hup)
      obtain ⟨g, o, cap, rfl, hc1, hc2, hcells⟩ := hup.value HC.out (grownCap_le_maxLen w (n + 1) 0 5 (by unfold maxLen; omega)) (.inr (by omega))
      rw [HKC.out] at hcells
      have HCL : Hid (∀ (i : Nat) (v : Int), K[i]? = some v → w1.cell? ⟨g, o + i, none⟩ = some (.int .u8 v)) := Lib.hid (by
        intro i v hv
        have hil := (List.getElem?_eq_some_iff.1 hv).1
        have := HKL.out
        have := HQ.out
        rw [hcells i (by omega), List.getElem?_map, hv]
        rfl)
      have hgl : g < w1.heap.size := by
        have h := hcells 0 (by omega)
        have := HKL.out
        have := HQ.out
        rw [List.getElem?_map, List.getElem?_eq_getElem (by omega)] at h
        exact World.block_lt_of_cell? _ _ h
      have hqq := HQ.out
      rw [hqq] at hc1
      rw [hqq]
      clear hup hcells HC HU e1 hqq
      obtain ⟨N, hN⟩ : ∃ N, w1.heap.size = N := ⟨_, rfl⟩
      have Q0 : Hid (Sq w1 (w1.alloc (.cells (one8.map (Value.int .u32)).toArray 26)) N g o one8 K) := Lib.hid
        ⟨by rw [← hN]; exact heap_alloc_new _ _,
         fun i v hv => by rw [World.cell?_alloc_old _ _ _ (by simp; omega)]; exact HCL.out i v hv,
         (Below.refl _ _).alloc (Nat.le_refl _) _, by omega, by omega, by simp; omega⟩
      have HN := Lib.hid hN
      clear HCL
      go_wp2_with fail
      go_loopw [6] (fun si wr => ∃ (k : Nat) (s' : Ws), k ≤ q ∧ si = .int .i64 (16 * (k : Int)) ∧ Hid (Ok8 s') ∧ Hid (tkAll s' (M.drop (4 * k)) = [v0, v1, v2, v3, v4, v5, v6, v7]) ∧ Hid (Sq w1 wr N g o s' K)) (fun si _ => 16 * q - (intOf si).toNat)
      case atStart =>
        refine ⟨0, one8, Nat.zero_le _, rfl, Lib.hid one8_ok, h0, ?_⟩
        exact Q0.out
      case round =>
        clear Q0
        obtain ⟨k, s', hk, rfl, HO, HTK, HS⟩ := hrel
        by_cases hlt : k < q
        · obtain ⟨x0, x1, x2, x3, hx, hx4⟩ := HF.out k hlt
          have htk := HTK.out
          rw [hx, tkAll_step] at htk
          have hno := taken_ok HO.out hx4
          obtain ⟨a0, a1, a2, a3, b0, b1, b2, b3, rfl, _⟩ := ok8 HO.out
          obtain ⟨f0, f1, f2, f3, f4, f5, f6, f7, hf, _⟩ := ok8 hno
          rw [hf] at htk hno
          have HNO := Lib.hid hno
          have HTN := Lib.hid htk
          have HX4 := Lib.hid hx4
          have HFF := Lib.hid hf
          obtain ⟨B, hB⟩ : ∃ B : Nat → Int, (fun j => K.getD (16 * k + j) 0) = B := ⟨_, rfl⟩
          have w0 := HWD.out k hlt 0 (by omega)
          have w1' := HWD.out k hlt 1 (by omega)
          have w2 := HWD.out k hlt 2 (by omega)
          have w3 := HWD.out k hlt 3 (by omega)
          rw [hB] at w0 w1' w2 w3
          have g0 : M[4 * k]? = some x0 := by have := congrArg (·[0]?) hx; simpa [List.getElem?_drop] using this
          have g1 : M[4 * k + 1]? = some x1 := by have := congrArg (·[1]?) hx; simpa [List.getElem?_drop] using this
          have g2 : M[4 * k + 2]? = some x2 := by have := congrArg (·[2]?) hx; simpa [List.getElem?_drop] using this
          have g3 : M[4 * k + 3]? = some x3 := by have := congrArg (·[3]?) hx; simpa [List.getElem?_drop] using this
          have HP : Hid (pw B 0 16 = x0 ∧ pw B 1 16 = x1 ∧ pw B 2 16 = x2 ∧ pw B 3 16 = x3) := Lib.hid
            ⟨Option.some.inj (w0.symm.trans g0), Option.some.inj (w1'.symm.trans g1), Option.some.inj (w2.symm.trans g2), Option.some.inj (w3.symm.trans g3)⟩
          have HBK : Hid (∀ j, j < 16 → K[16 * k + j]? = some (B j)) := Lib.hid (by
            intro j hj
            rw [← hB]
            exact HBY.out _ (by omega))
          have HBB2 : Hid (∀ j, 0 ≤ B j ∧ B j < 256) := Lib.hid (by
            intro j
            rw [← hB]
            exact HBB.out _)
          have y0 : 16 * (k : Int) < 16 * (q : Int) := by omega
          obtain ⟨wo, rfl⟩ : ∃ wo : World, wo = wr := ⟨_, rfl⟩
          clear hx hx4 htk hno hf g0 g1 g2 g3 w0 w1' w2 w3 hB HTK
          have R0 := Lib.hid (Sr.start HS.out B)
          go_wp2_with fail
          go_loopw [8] (fun si wr => ∃ k' : Nat, k' ≤ 16 ∧ si = .int .i64 (k' : Int) ∧ Hid (Sr w1 wr N g o [a0, a1, a2, a3, b0, b1, b2, b3] K wo.heap.size B k')) (fun si _ => 16 - (intOf si).toNat)
          case atStart => exact ⟨0, by omega, rfl, R0⟩
          case round =>
            clear R0
            obtain ⟨k', hk', rfl, HR⟩ := hrel
            have hk17 : k' = 0 ∨ k' = 1 ∨ k' = 2 ∨ k' = 3 ∨ k' = 4 ∨ k' = 5 ∨ k' = 6 ∨ k' = 7 ∨ k' = 8 ∨ k' = 9 ∨ k' = 10 ∨ k' = 11 ∨ k' = 12 ∨ k' = 13 ∨ k' = 14 ∨ k' = 15 ∨ k' = 16 := by omega
            rcases hk17 with rfl | rfl | rfl | rfl | rfl | rfl | rfl | rfl | rfl | rfl | rfl | rfl | rfl | rfl | rfl | rfl | rfl
            · obtain ⟨d0, d1, d2, d3, e0, e1, e2, e3⟩ := cells4 HR.out.hm
              have hb : wr.cell? ⟨g, o + (16 * k), none⟩ = some (.int .u8 (B 0)) := HR.out.hs _ _ (HBK.out 0 (by omega))
              obtain ⟨B0, B1⟩ := HBB2.out 0
              obtain ⟨x, hx⟩ : ∃ x : Int, B 0 = x := ⟨_, rfl⟩
              rw [hx] at hb B0 B1
              obtain ⟨u, hu⟩ : ∃ u : Int, pw B 0 0 = u := ⟨_, rfl⟩
              rw [hu] at d0
              have HX := Lib.hid hx
              have HUU := Lib.hid hu
              clear hx hu
              have j0 : 0 ≤ 16 * (k : Int) := by omega
              have j1 : 16 * (k : Int) < 16 * (q : Int) := by omega
              have j2 : (16 * (k : Int)).toNat = 16 * k := by omega
              go_wp2_with fail
              go_region
              go_wp2_with fail
              go_roundw
              case rel =>
                have hu := HUU.out
                have hx := HX.out
                have hu2 : 0 ≤ u ∧ u < 1 := by
                  rw [← hu]
                  simp [pw]
                  try omega
                have key : ∀ X : Int, X = x * 1 → bits .or .u32 u X = u + x * 1 := by
                  intro X hX
                  rw [hX]
                  exact or_at u x 1 0 (by decide) (by decide) hu2.1 hu2.2 B0 (by omega)
                have q1 : pw B 1 1 = pw B 1 0 := by simp [pw]
                have q2 : pw B 2 1 = pw B 2 0 := by simp [pw]
                have q3 : pw B 3 1 = pw B 3 0 := by simp [pw]
                have q0 : pw B 0 1 = u + x * 1 := by
                  rw [← hu, ← hx]
                  simp [pw]
                  try omega
                refine ⟨1, by omega, by go_num, Lib.hid (HR.out.set 0 _ 1 ?_).drew⟩
                rw [key, q0, q1, q2, q3]
                · simp
                · omega
              case measure => simp [intOf]
            · obtain ⟨d0, d1, d2, d3, e0, e1, e2, e3⟩ := cells4 HR.out.hm
              have hb : wr.cell? ⟨g, o + (16 * k + 1), none⟩ = some (.int .u8 (B 1)) := HR.out.hs _ _ (HBK.out 1 (by omega))
              obtain ⟨B0, B1⟩ := HBB2.out 1
              obtain ⟨x, hx⟩ : ∃ x : Int, B 1 = x := ⟨_, rfl⟩
              rw [hx] at hb B0 B1
              obtain ⟨u, hu⟩ : ∃ u : Int, pw B 0 1 = u := ⟨_, rfl⟩
              rw [hu] at d0
              have HX := Lib.hid hx
              have HUU := Lib.hid hu
              clear hx hu
              have j0 : 0 ≤ 16 * (k : Int) + 1 := by omega
              have j1 : 16 * (k : Int) + 1 < 16 * (q : Int) := by omega
              have j2 : (16 * (k : Int) + 1).toNat = 16 * k + 1 := by omega
              go_wp2_with fail
              go_region
              go_wp2_with fail
              go_roundw
              case rel =>
                have hu := HUU.out
                have hx := HX.out
                have g0 := HBB2.out 0
                have hu2 : 0 ≤ u ∧ u < 256 := by
                  rw [← hu]
                  simp [pw]
                  try omega
                have key : ∀ X : Int, X = x * 256 → bits .or .u32 u X = u + x * 256 := by
                  intro X hX
                  rw [hX]
                  exact or_at u x 256 8 (by decide) (by decide) hu2.1 hu2.2 B0 (by omega)
                have q1 : pw B 1 2 = pw B 1 1 := by simp [pw]
                have q2 : pw B 2 2 = pw B 2 1 := by simp [pw]
                have q3 : pw B 3 2 = pw B 3 1 := by simp [pw]
                have q0 : pw B 0 2 = u + x * 256 := by
                  rw [← hu, ← hx]
                  simp [pw]
                  try omega
                refine ⟨2, by omega, by go_num, Lib.hid (HR.out.set 0 _ 2 ?_).drew⟩
                rw [key, q0, q1, q2, q3]
                · simp
                · omega
              case measure => simp [intOf]
            · obtain ⟨d0, d1, d2, d3, e0, e1, e2, e3⟩ := cells4 HR.out.hm
              have hb : wr.cell? ⟨g, o + (16 * k + 2), none⟩ = some (.int .u8 (B 2)) := HR.out.hs _ _ (HBK.out 2 (by omega))
              obtain ⟨B0, B1⟩ := HBB2.out 2
              obtain ⟨x, hx⟩ : ∃ x : Int, B 2 = x := ⟨_, rfl⟩
              rw [hx] at hb B0 B1
              obtain ⟨u, hu⟩ : ∃ u : Int, pw B 0 2 = u := ⟨_, rfl⟩
              rw [hu] at d0
              have HX := Lib.hid hx
              have HUU := Lib.hid hu
              clear hx hu
              have j0 : 0 ≤ 16 * (k : Int) + 2 := by omega
              have j1 : 16 * (k : Int) + 2 < 16 * (q : Int) := by omega
              have j2 : (16 * (k : Int) + 2).toNat = 16 * k + 2 := by omega
              go_wp2_with fail
              go_region
              go_wp2_with fail
              go_roundw
              case rel =>
                have hu := HUU.out
                have hx := HX.out
                have g0 := HBB2.out 0
                have g1 := HBB2.out 1
                have hu2 : 0 ≤ u ∧ u < 65536 := by
                  rw [← hu]
                  simp [pw]
                  try omega
                have key : ∀ X : Int, X = x * 65536 → bits .or .u32 u X = u + x * 65536 := by
                  intro X hX
                  rw [hX]
                  exact or_at u x 65536 16 (by decide) (by decide) hu2.1 hu2.2 B0 (by omega)
                have q1 : pw B 1 3 = pw B 1 2 := by simp [pw]
                have q2 : pw B 2 3 = pw B 2 2 := by simp [pw]
                have q3 : pw B 3 3 = pw B 3 2 := by simp [pw]
                have q0 : pw B 0 3 = u + x * 65536 := by
                  rw [← hu, ← hx]
                  simp [pw]
                  try omega
                refine ⟨3, by omega, by go_num, Lib.hid (HR.out.set 0 _ 3 ?_).drew⟩
                rw [key, q0, q1, q2, q3]
                · simp
                · omega
              case measure => simp [intOf]
            · obtain ⟨d0, d1, d2, d3, e0, e1, e2, e3⟩ := cells4 HR.out.hm
              have hb : wr.cell? ⟨g, o + (16 * k + 3), none⟩ = some (.int .u8 (B 3)) := HR.out.hs _ _ (HBK.out 3 (by omega))
              obtain ⟨B0, B1⟩ := HBB2.out 3
              obtain ⟨x, hx⟩ : ∃ x : Int, B 3 = x := ⟨_, rfl⟩
              rw [hx] at hb B0 B1
              obtain ⟨u, hu⟩ : ∃ u : Int, pw B 0 3 = u := ⟨_, rfl⟩
              rw [hu] at d0
              have HX := Lib.hid hx
              have HUU := Lib.hid hu
              clear hx hu
              have j0 : 0 ≤ 16 * (k : Int) + 3 := by omega
              have j1 : 16 * (k : Int) + 3 < 16 * (q : Int) := by omega
              have j2 : (16 * (k : Int) + 3).toNat = 16 * k + 3 := by omega
              go_wp2_with fail
              go_region
              go_wp2_with fail
              go_roundw
              case rel =>
                have hu := HUU.out
                have hx := HX.out
                have g0 := HBB2.out 0
                have g1 := HBB2.out 1
                have g2 := HBB2.out 2
                have hu2 : 0 ≤ u ∧ u < 16777216 := by
                  rw [← hu]
                  simp [pw]
                  try omega
                have key : ∀ X : Int, X = x * 16777216 → bits .or .u32 u X = u + x * 16777216 := by
                  intro X hX
                  rw [hX]
                  exact or_at u x 16777216 24 (by decide) (by decide) hu2.1 hu2.2 B0 (by omega)
                have q1 : pw B 1 4 = pw B 1 3 := by simp [pw]
                have q2 : pw B 2 4 = pw B 2 3 := by simp [pw]
                have q3 : pw B 3 4 = pw B 3 3 := by simp [pw]
                have q0 : pw B 0 4 = u + x * 16777216 := by
                  rw [← hu, ← hx]
                  simp [pw]
                  try omega
                refine ⟨4, by omega, by go_num, Lib.hid (HR.out.set 0 _ 4 ?_).drew⟩
                rw [key, q0, q1, q2, q3]
                · simp
                · omega
              case measure => simp [intOf]
            · obtain ⟨d0, d1, d2, d3, e0, e1, e2, e3⟩ := cells4 HR.out.hm
              have hb : wr.cell? ⟨g, o + (16 * k + 4), none⟩ = some (.int .u8 (B 4)) := HR.out.hs _ _ (HBK.out 4 (by omega))
              obtain ⟨B0, B1⟩ := HBB2.out 4
              obtain ⟨x, hx⟩ : ∃ x : Int, B 4 = x := ⟨_, rfl⟩
              rw [hx] at hb B0 B1
              obtain ⟨u, hu⟩ : ∃ u : Int, pw B 1 4 = u := ⟨_, rfl⟩
              rw [hu] at d1
              have HX := Lib.hid hx
              have HUU := Lib.hid hu
              clear hx hu
              have j0 : 0 ≤ 16 * (k : Int) + 4 := by omega
              have j1 : 16 * (k : Int) + 4 < 16 * (q : Int) := by omega
              have j2 : (16 * (k : Int) + 4).toNat = 16 * k + 4 := by omega
              go_wp2_with fail
              go_region
              go_wp2_with fail
              go_roundw
              case rel =>
                have hu := HUU.out
                have hx := HX.out
                have hu2 : 0 ≤ u ∧ u < 1 := by
                  rw [← hu]
                  simp [pw]
                  try omega
                have key : ∀ X : Int, X = x * 1 → bits .or .u32 u X = u + x * 1 := by
                  intro X hX
                  rw [hX]
                  exact or_at u x 1 0 (by decide) (by decide) hu2.1 hu2.2 B0 (by omega)
                have q0 : pw B 0 5 = pw B 0 4 := by simp [pw]
                have q2 : pw B 2 5 = pw B 2 4 := by simp [pw]
                have q3 : pw B 3 5 = pw B 3 4 := by simp [pw]
                have q1 : pw B 1 5 = u + x * 1 := by
                  rw [← hu, ← hx]
                  simp [pw]
                  try omega
                refine ⟨5, by omega, by go_num, Lib.hid (HR.out.set 1 _ 5 ?_).drew⟩
                rw [key, q0, q1, q2, q3]
                · simp
                · omega
              case measure => simp [intOf]
            · obtain ⟨d0, d1, d2, d3, e0, e1, e2, e3⟩ := cells4 HR.out.hm
              have hb : wr.cell? ⟨g, o + (16 * k + 5), none⟩ = some (.int .u8 (B 5)) := HR.out.hs _ _ (HBK.out 5 (by omega))
              obtain ⟨B0, B1⟩ := HBB2.out 5
              obtain ⟨x, hx⟩ : ∃ x : Int, B 5 = x := ⟨_, rfl⟩
              rw [hx] at hb B0 B1
              obtain ⟨u, hu⟩ : ∃ u : Int, pw B 1 5 = u := ⟨_, rfl⟩
              rw [hu] at d1
              have HX := Lib.hid hx
              have HUU := Lib.hid hu
              clear hx hu
              have j0 : 0 ≤ 16 * (k : Int) + 5 := by omega
              have j1 : 16 * (k : Int) + 5 < 16 * (q : Int) := by omega
              have j2 : (16 * (k : Int) + 5).toNat = 16 * k + 5 := by omega
              go_wp2_with fail
              go_region
              go_wp2_with fail
              go_roundw
              case rel =>
                have hu := HUU.out
                have hx := HX.out
                have g0 := HBB2.out 4
                have hu2 : 0 ≤ u ∧ u < 256 := by
                  rw [← hu]
                  simp [pw]
                  try omega
                have key : ∀ X : Int, X = x * 256 → bits .or .u32 u X = u + x * 256 := by
                  intro X hX
                  rw [hX]
                  exact or_at u x 256 8 (by decide) (by decide) hu2.1 hu2.2 B0 (by omega)
                have q0 : pw B 0 6 = pw B 0 5 := by simp [pw]
                have q2 : pw B 2 6 = pw B 2 5 := by simp [pw]
                have q3 : pw B 3 6 = pw B 3 5 := by simp [pw]
                have q1 : pw B 1 6 = u + x * 256 := by
                  rw [← hu, ← hx]
                  simp [pw]
                  try omega
                refine ⟨6, by omega, by go_num, Lib.hid (HR.out.set 1 _ 6 ?_).drew⟩
                rw [key, q0, q1, q2, q3]
                · simp
                · omega
              case measure => simp [intOf]
            · obtain ⟨d0, d1, d2, d3, e0, e1, e2, e3⟩ := cells4 HR.out.hm
              have hb : wr.cell? ⟨g, o + (16 * k + 6), none⟩ = some (.int .u8 (B 6)) := HR.out.hs _ _ (HBK.out 6 (by omega))
              obtain ⟨B0, B1⟩ := HBB2.out 6
              obtain ⟨x, hx⟩ : ∃ x : Int, B 6 = x := ⟨_, rfl⟩
              rw [hx] at hb B0 B1
              obtain ⟨u, hu⟩ : ∃ u : Int, pw B 1 6 = u := ⟨_, rfl⟩
              rw [hu] at d1
              have HX := Lib.hid hx
              have HUU := Lib.hid hu
              clear hx hu
              have j0 : 0 ≤ 16 * (k : Int) + 6 := by omega
              have j1 : 16 * (k : Int) + 6 < 16 * (q : Int) := by omega
              have j2 : (16 * (k : Int) + 6).toNat = 16 * k + 6 := by omega
              go_wp2_with fail
              go_region
              go_wp2_with fail
              go_roundw
              case rel =>
                have hu := HUU.out
                have hx := HX.out
                have g0 := HBB2.out 4
                have g1 := HBB2.out 5
                have hu2 : 0 ≤ u ∧ u < 65536 := by
                  rw [← hu]
                  simp [pw]
                  try omega
                have key : ∀ X : Int, X = x * 65536 → bits .or .u32 u X = u + x * 65536 := by
                  intro X hX
                  rw [hX]
                  exact or_at u x 65536 16 (by decide) (by decide) hu2.1 hu2.2 B0 (by omega)
                have q0 : pw B 0 7 = pw B 0 6 := by simp [pw]
                have q2 : pw B 2 7 = pw B 2 6 := by simp [pw]
                have q3 : pw B 3 7 = pw B 3 6 := by simp [pw]
                have q1 : pw B 1 7 = u + x * 65536 := by
                  rw [← hu, ← hx]
                  simp [pw]
                  try omega
                refine ⟨7, by omega, by go_num, Lib.hid (HR.out.set 1 _ 7 ?_).drew⟩
                rw [key, q0, q1, q2, q3]
                · simp
                · omega
              case measure => simp [intOf]
            · obtain ⟨d0, d1, d2, d3, e0, e1, e2, e3⟩ := cells4 HR.out.hm
              have hb : wr.cell? ⟨g, o + (16 * k + 7), none⟩ = some (.int .u8 (B 7)) := HR.out.hs _ _ (HBK.out 7 (by omega))
              obtain ⟨B0, B1⟩ := HBB2.out 7
              obtain ⟨x, hx⟩ : ∃ x : Int, B 7 = x := ⟨_, rfl⟩
              rw [hx] at hb B0 B1
              obtain ⟨u, hu⟩ : ∃ u : Int, pw B 1 7 = u := ⟨_, rfl⟩
              rw [hu] at d1
              have HX := Lib.hid hx
              have HUU := Lib.hid hu
              clear hx hu
              have j0 : 0 ≤ 16 * (k : Int) + 7 := by omega
              have j1 : 16 * (k : Int) + 7 < 16 * (q : Int) := by omega
              have j2 : (16 * (k : Int) + 7).toNat = 16 * k + 7 := by omega
              go_wp2_with fail
              go_region
              go_wp2_with fail
              go_roundw
              case rel =>
                have hu := HUU.out
                have hx := HX.out
                have g0 := HBB2.out 4
                have g1 := HBB2.out 5
                have g2 := HBB2.out 6
                have hu2 : 0 ≤ u ∧ u < 16777216 := by
                  rw [← hu]
                  simp [pw]
                  try omega
                have key : ∀ X : Int, X = x * 16777216 → bits .or .u32 u X = u + x * 16777216 := by
                  intro X hX
                  rw [hX]
                  exact or_at u x 16777216 24 (by decide) (by decide) hu2.1 hu2.2 B0 (by omega)
                have q0 : pw B 0 8 = pw B 0 7 := by simp [pw]
                have q2 : pw B 2 8 = pw B 2 7 := by simp [pw]
                have q3 : pw B 3 8 = pw B 3 7 := by simp [pw]
                have q1 : pw B 1 8 = u + x * 16777216 := by
                  rw [← hu, ← hx]
                  simp [pw]
                  try omega
                refine ⟨8, by omega, by go_num, Lib.hid (HR.out.set 1 _ 8 ?_).drew⟩
                rw [key, q0, q1, q2, q3]
                · simp
                · omega
              case measure => simp [intOf]
            · obtain ⟨d0, d1, d2, d3, e0, e1, e2, e3⟩ := cells4 HR.out.hm
              have hb : wr.cell? ⟨g, o + (16 * k + 8), none⟩ = some (.int .u8 (B 8)) := HR.out.hs _ _ (HBK.out 8 (by omega))
              obtain ⟨B0, B1⟩ := HBB2.out 8
              obtain ⟨x, hx⟩ : ∃ x : Int, B 8 = x := ⟨_, rfl⟩
              rw [hx] at hb B0 B1
              obtain ⟨u, hu⟩ : ∃ u : Int, pw B 2 8 = u := ⟨_, rfl⟩
              rw [hu] at d2
              have HX := Lib.hid hx
              have HUU := Lib.hid hu
              clear hx hu
              have j0 : 0 ≤ 16 * (k : Int) + 8 := by omega
              have j1 : 16 * (k : Int) + 8 < 16 * (q : Int) := by omega
              have j2 : (16 * (k : Int) + 8).toNat = 16 * k + 8 := by omega
              go_wp2_with fail
              go_region
              go_wp2_with fail
              go_roundw
              case rel =>
                have hu := HUU.out
                have hx := HX.out
                have hu2 : 0 ≤ u ∧ u < 1 := by
                  rw [← hu]
                  simp [pw]
                  try omega
                have key : ∀ X : Int, X = x * 1 → bits .or .u32 u X = u + x * 1 := by
                  intro X hX
                  rw [hX]
                  exact or_at u x 1 0 (by decide) (by decide) hu2.1 hu2.2 B0 (by omega)
                have q0 : pw B 0 9 = pw B 0 8 := by simp [pw]
                have q1 : pw B 1 9 = pw B 1 8 := by simp [pw]
                have q3 : pw B 3 9 = pw B 3 8 := by simp [pw]
                have q2 : pw B 2 9 = u + x * 1 := by
                  rw [← hu, ← hx]
                  simp [pw]
                  try omega
                refine ⟨9, by omega, by go_num, Lib.hid (HR.out.set 2 _ 9 ?_).drew⟩
                rw [key, q0, q1, q2, q3]
                · simp
                · omega
              case measure => simp [intOf]
            · obtain ⟨d0, d1, d2, d3, e0, e1, e2, e3⟩ := cells4 HR.out.hm
              have hb : wr.cell? ⟨g, o + (16 * k + 9), none⟩ = some (.int .u8 (B 9)) := HR.out.hs _ _ (HBK.out 9 (by omega))
              obtain ⟨B0, B1⟩ := HBB2.out 9
              obtain ⟨x, hx⟩ : ∃ x : Int, B 9 = x := ⟨_, rfl⟩
              rw [hx] at hb B0 B1
              obtain ⟨u, hu⟩ : ∃ u : Int, pw B 2 9 = u := ⟨_, rfl⟩
              rw [hu] at d2
              have HX := Lib.hid hx
              have HUU := Lib.hid hu
              clear hx hu
              have j0 : 0 ≤ 16 * (k : Int) + 9 := by omega
              have j1 : 16 * (k : Int) + 9 < 16 * (q : Int) := by omega
              have j2 : (16 * (k : Int) + 9).toNat = 16 * k + 9 := by omega
              go_wp2_with fail
              go_region
              go_wp2_with fail
              go_roundw
              case rel =>
                have hu := HUU.out
                have hx := HX.out
                have g0 := HBB2.out 8
                have hu2 : 0 ≤ u ∧ u < 256 := by
                  rw [← hu]
                  simp [pw]
                  try omega
                have key : ∀ X : Int, X = x * 256 → bits .or .u32 u X = u + x * 256 := by
                  intro X hX
                  rw [hX]
                  exact or_at u x 256 8 (by decide) (by decide) hu2.1 hu2.2 B0 (by omega)
                have q0 : pw B 0 10 = pw B 0 9 := by simp [pw]
                have q1 : pw B 1 10 = pw B 1 9 := by simp [pw]
                have q3 : pw B 3 10 = pw B 3 9 := by simp [pw]
                have q2 : pw B 2 10 = u + x * 256 := by
                  rw [← hu, ← hx]
                  simp [pw]
                  try omega
                refine ⟨10, by omega, by go_num, Lib.hid (HR.out.set 2 _ 10 ?_).drew⟩
                rw [key, q0, q1, q2, q3]
                · simp
                · omega
              case measure => simp [intOf]
            · obtain ⟨d0, d1, d2, d3, e0, e1, e2, e3⟩ := cells4 HR.out.hm
              have hb : wr.cell? ⟨g, o + (16 * k + 10), none⟩ = some (.int .u8 (B 10)) := HR.out.hs _ _ (HBK.out 10 (by omega))
              obtain ⟨B0, B1⟩ := HBB2.out 10
              obtain ⟨x, hx⟩ : ∃ x : Int, B 10 = x := ⟨_, rfl⟩
              rw [hx] at hb B0 B1
              obtain ⟨u, hu⟩ : ∃ u : Int, pw B 2 10 = u := ⟨_, rfl⟩
              rw [hu] at d2
              have HX := Lib.hid hx
              have HUU := Lib.hid hu
              clear hx hu
              have j0 : 0 ≤ 16 * (k : Int) + 10 := by omega
              have j1 : 16 * (k : Int) + 10 < 16 * (q : Int) := by omega
              have j2 : (16 * (k : Int) + 10).toNat = 16 * k + 10 := by omega
              go_wp2_with fail
              go_region
              go_wp2_with fail
              go_roundw
              case rel =>
                have hu := HUU.out
                have hx := HX.out
                have g0 := HBB2.out 8
                have g1 := HBB2.out 9
                have hu2 : 0 ≤ u ∧ u < 65536 := by
                  rw [← hu]
                  simp [pw]
                  try omega
                have key : ∀ X : Int, X = x * 65536 → bits .or .u32 u X = u + x * 65536 := by
                  intro X hX
                  rw [hX]
                  exact or_at u x 65536 16 (by decide) (by decide) hu2.1 hu2.2 B0 (by omega)
                have q0 : pw B 0 11 = pw B 0 10 := by simp [pw]
                have q1 : pw B 1 11 = pw B 1 10 := by simp [pw]
                have q3 : pw B 3 11 = pw B 3 10 := by simp [pw]
                have q2 : pw B 2 11 = u + x * 65536 := by
                  rw [← hu, ← hx]
                  simp [pw]
                  try omega
                refine ⟨11, by omega, by go_num, Lib.hid (HR.out.set 2 _ 11 ?_).drew⟩
                rw [key, q0, q1, q2, q3]
                · simp
                · omega
              case measure => simp [intOf]
            · obtain ⟨d0, d1, d2, d3, e0, e1, e2, e3⟩ := cells4 HR.out.hm
              have hb : wr.cell? ⟨g, o + (16 * k + 11), none⟩ = some (.int .u8 (B 11)) := HR.out.hs _ _ (HBK.out 11 (by omega))
              obtain ⟨B0, B1⟩ := HBB2.out 11
              obtain ⟨x, hx⟩ : ∃ x : Int, B 11 = x := ⟨_, rfl⟩
              rw [hx] at hb B0 B1
              obtain ⟨u, hu⟩ : ∃ u : Int, pw B 2 11 = u := ⟨_, rfl⟩
              rw [hu] at d2
              have HX := Lib.hid hx
              have HUU := Lib.hid hu
              clear hx hu
              have j0 : 0 ≤ 16 * (k : Int) + 11 := by omega
              have j1 : 16 * (k : Int) + 11 < 16 * (q : Int) := by omega
              have j2 : (16 * (k : Int) + 11).toNat = 16 * k + 11 := by omega
              go_wp2_with fail
              go_region
              go_wp2_with fail
              go_roundw
              case rel =>
                have hu := HUU.out
                have hx := HX.out
                have g0 := HBB2.out 8
                have g1 := HBB2.out 9
                have g2 := HBB2.out 10
                have hu2 : 0 ≤ u ∧ u < 16777216 := by
                  rw [← hu]
                  simp [pw]
                  try omega
                have key : ∀ X : Int, X = x * 16777216 → bits .or .u32 u X = u + x * 16777216 := by
                  intro X hX
                  rw [hX]
                  exact or_at u x 16777216 24 (by decide) (by decide) hu2.1 hu2.2 B0 (by omega)
                have q0 : pw B 0 12 = pw B 0 11 := by simp [pw]
                have q1 : pw B 1 12 = pw B 1 11 := by simp [pw]
                have q3 : pw B 3 12 = pw B 3 11 := by simp [pw]
                have q2 : pw B 2 12 = u + x * 16777216 := by
                  rw [← hu, ← hx]
                  simp [pw]
                  try omega
                refine ⟨12, by omega, by go_num, Lib.hid (HR.out.set 2 _ 12 ?_).drew⟩
                rw [key, q0, q1, q2, q3]
                · simp
                · omega
              case measure => simp [intOf]
            · obtain ⟨d0, d1, d2, d3, e0, e1, e2, e3⟩ := cells4 HR.out.hm
              have hb : wr.cell? ⟨g, o + (16 * k + 12), none⟩ = some (.int .u8 (B 12)) := HR.out.hs _ _ (HBK.out 12 (by omega))
              obtain ⟨B0, B1⟩ := HBB2.out 12
              obtain ⟨x, hx⟩ : ∃ x : Int, B 12 = x := ⟨_, rfl⟩
              rw [hx] at hb B0 B1
              obtain ⟨u, hu⟩ : ∃ u : Int, pw B 3 12 = u := ⟨_, rfl⟩
              rw [hu] at d3
              have HX := Lib.hid hx
              have HUU := Lib.hid hu
              clear hx hu
              have j0 : 0 ≤ 16 * (k : Int) + 12 := by omega
              have j1 : 16 * (k : Int) + 12 < 16 * (q : Int) := by omega
              have j2 : (16 * (k : Int) + 12).toNat = 16 * k + 12 := by omega
              go_wp2_with fail
              go_region
              go_wp2_with fail
              go_roundw
              case rel =>
                have hu := HUU.out
                have hx := HX.out
                have hu2 : 0 ≤ u ∧ u < 1 := by
                  rw [← hu]
                  simp [pw]
                  try omega
                have key : ∀ X : Int, X = x * 1 → bits .or .u32 u X = u + x * 1 := by
                  intro X hX
                  rw [hX]
                  exact or_at u x 1 0 (by decide) (by decide) hu2.1 hu2.2 B0 (by omega)
                have q0 : pw B 0 13 = pw B 0 12 := by simp [pw]
                have q1 : pw B 1 13 = pw B 1 12 := by simp [pw]
                have q2 : pw B 2 13 = pw B 2 12 := by simp [pw]
                have q3 : pw B 3 13 = u + x * 1 := by
                  rw [← hu, ← hx]
                  simp [pw]
                  try omega
                refine ⟨13, by omega, by go_num, Lib.hid (HR.out.set 3 _ 13 ?_).drew⟩
                rw [key, q0, q1, q2, q3]
                · simp
                · omega
              case measure => simp [intOf]
            · obtain ⟨d0, d1, d2, d3, e0, e1, e2, e3⟩ := cells4 HR.out.hm
              have hb : wr.cell? ⟨g, o + (16 * k + 13), none⟩ = some (.int .u8 (B 13)) := HR.out.hs _ _ (HBK.out 13 (by omega))
              obtain ⟨B0, B1⟩ := HBB2.out 13
              obtain ⟨x, hx⟩ : ∃ x : Int, B 13 = x := ⟨_, rfl⟩
              rw [hx] at hb B0 B1
              obtain ⟨u, hu⟩ : ∃ u : Int, pw B 3 13 = u := ⟨_, rfl⟩
              rw [hu] at d3
              have HX := Lib.hid hx
              have HUU := Lib.hid hu
              clear hx hu
              have j0 : 0 ≤ 16 * (k : Int) + 13 := by omega
              have j1 : 16 * (k : Int) + 13 < 16 * (q : Int) := by omega
              have j2 : (16 * (k : Int) + 13).toNat = 16 * k + 13 := by omega
              go_wp2_with fail
              go_region
              go_wp2_with fail
              go_roundw
              case rel =>
                have hu := HUU.out
                have hx := HX.out
                have g0 := HBB2.out 12
                have hu2 : 0 ≤ u ∧ u < 256 := by
                  rw [← hu]
                  simp [pw]
                  try omega
                have key : ∀ X : Int, X = x * 256 → bits .or .u32 u X = u + x * 256 := by
                  intro X hX
                  rw [hX]
                  exact or_at u x 256 8 (by decide) (by decide) hu2.1 hu2.2 B0 (by omega)
                have q0 : pw B 0 14 = pw B 0 13 := by simp [pw]
                have q1 : pw B 1 14 = pw B 1 13 := by simp [pw]
                have q2 : pw B 2 14 = pw B 2 13 := by simp [pw]
                have q3 : pw B 3 14 = u + x * 256 := by
                  rw [← hu, ← hx]
                  simp [pw]
                  try omega
                refine ⟨14, by omega, by go_num, Lib.hid (HR.out.set 3 _ 14 ?_).drew⟩
                rw [key, q0, q1, q2, q3]
                · simp
                · omega
              case measure => simp [intOf]
            · obtain ⟨d0, d1, d2, d3, e0, e1, e2, e3⟩ := cells4 HR.out.hm
              have hb : wr.cell? ⟨g, o + (16 * k + 14), none⟩ = some (.int .u8 (B 14)) := HR.out.hs _ _ (HBK.out 14 (by omega))
              obtain ⟨B0, B1⟩ := HBB2.out 14
              obtain ⟨x, hx⟩ : ∃ x : Int, B 14 = x := ⟨_, rfl⟩
              rw [hx] at hb B0 B1
              obtain ⟨u, hu⟩ : ∃ u : Int, pw B 3 14 = u := ⟨_, rfl⟩
              rw [hu] at d3
              have HX := Lib.hid hx
              have HUU := Lib.hid hu
              clear hx hu
              have j0 : 0 ≤ 16 * (k : Int) + 14 := by omega
              have j1 : 16 * (k : Int) + 14 < 16 * (q : Int) := by omega
              have j2 : (16 * (k : Int) + 14).toNat = 16 * k + 14 := by omega
              go_wp2_with fail
              go_region
              go_wp2_with fail
              go_roundw
              case rel =>
                have hu := HUU.out
                have hx := HX.out
                have g0 := HBB2.out 12
                have g1 := HBB2.out 13
                have hu2 : 0 ≤ u ∧ u < 65536 := by
                  rw [← hu]
                  simp [pw]
                  try omega
                have key : ∀ X : Int, X = x * 65536 → bits .or .u32 u X = u + x * 65536 := by
                  intro X hX
                  rw [hX]
                  exact or_at u x 65536 16 (by decide) (by decide) hu2.1 hu2.2 B0 (by omega)
                have q0 : pw B 0 15 = pw B 0 14 := by simp [pw]
                have q1 : pw B 1 15 = pw B 1 14 := by simp [pw]
                have q2 : pw B 2 15 = pw B 2 14 := by simp [pw]
                have q3 : pw B 3 15 = u + x * 65536 := by
                  rw [← hu, ← hx]
                  simp [pw]
                  try omega
                refine ⟨15, by omega, by go_num, Lib.hid (HR.out.set 3 _ 15 ?_).drew⟩
                rw [key, q0, q1, q2, q3]
                · simp
                · omega
              case measure => simp [intOf]
            · obtain ⟨d0, d1, d2, d3, e0, e1, e2, e3⟩ := cells4 HR.out.hm
              have hb : wr.cell? ⟨g, o + (16 * k + 15), none⟩ = some (.int .u8 (B 15)) := HR.out.hs _ _ (HBK.out 15 (by omega))
              obtain ⟨B0, B1⟩ := HBB2.out 15
              obtain ⟨x, hx⟩ : ∃ x : Int, B 15 = x := ⟨_, rfl⟩
              rw [hx] at hb B0 B1
              obtain ⟨u, hu⟩ : ∃ u : Int, pw B 3 15 = u := ⟨_, rfl⟩
              rw [hu] at d3
              have HX := Lib.hid hx
              have HUU := Lib.hid hu
              clear hx hu
              have j0 : 0 ≤ 16 * (k : Int) + 15 := by omega
              have j1 : 16 * (k : Int) + 15 < 16 * (q : Int) := by omega
              have j2 : (16 * (k : Int) + 15).toNat = 16 * k + 15 := by omega
              go_wp2_with fail
              go_region
              go_wp2_with fail
              go_roundw
              case rel =>
                have hu := HUU.out
                have hx := HX.out
                have g0 := HBB2.out 12
                have g1 := HBB2.out 13
                have g2 := HBB2.out 14
                have hu2 : 0 ≤ u ∧ u < 16777216 := by
                  rw [← hu]
                  simp [pw]
                  try omega
                have key : ∀ X : Int, X = x * 16777216 → bits .or .u32 u X = u + x * 16777216 := by
                  intro X hX
                  rw [hX]
                  exact or_at u x 16777216 24 (by decide) (by decide) hu2.1 hu2.2 B0 (by omega)
                have q0 : pw B 0 16 = pw B 0 15 := by simp [pw]
                have q1 : pw B 1 16 = pw B 1 15 := by simp [pw]
                have q2 : pw B 2 16 = pw B 2 15 := by simp [pw]
                have q3 : pw B 3 16 = u + x * 16777216 := by
                  rw [← hu, ← hx]
                  simp [pw]
                  try omega
                refine ⟨16, by omega, by go_num, Lib.hid (HR.out.set 3 _ 16 ?_).drew⟩
                rw [key, q0, q1, q2, q3]
                · simp
                · omega
              case measure => simp [intOf]
            · obtain ⟨m0, m1, m2, m3⟩ := HP.out
              have hm := HR.out.hm
              rw [m0, m1, m2, m3] at hm
              obtain ⟨d0, d1, d2, d3, _⟩ := cells4 hm
              obtain ⟨r0, r1, r2, r3, r4, r5, r6, r7, z0, z1, z2, z3, z4, z5, z6, z7⟩ := cells8 HR.out.ha
              have HTB := Lib.hid (HT.out.low (HL.out.below HR.out.be))
              clear hm m0 m1 m2 m3
              go_wp2_with fail
              refine (took_ex _ HO.out HX4.out HFF.out HTB.out).mono ?_
              rintro e w5 ⟨rfl, b5⟩
              have S5 := HR.out.toSq.after b5
              clear r0 r1 r2 r3 r4 r5 r6 r7 z0 z1 z2 z3 z4 z5 z6 z7 d0 d1 d2 d3 b5
              obtain ⟨r0, r1, r2, r3, r4, r5, r6, r7, z0, z1, z2, z3, z4, z5, z6, z7⟩ := cells8 S5.ha
              have HS5 := Lib.hid S5
              clear S5
              go_wp2_with fail
              go_roundw
              case rel =>
                refine ⟨k + 1, [f0, f1, f2, f3, f4, f5, f6, f7], by omega, by go_num, HNO, HTN, ?_⟩
                show Sq _ _ _ _ _ _ _
                exact (((((((HS5.out.set 0 _).set 1 _).set 2 _).set 3 _).set 4 _).set 5 _).set 6 _).set 7 _
              case measure => simp [intOf]; omega
        · obtain rfl : k = q := by omega
          obtain ⟨x0, x1, x2, x3, y0, y1, y2, y3, rfl, _⟩ := ok8 HO.out
          have hTx : [x0, x1, x2, x3, y0, y1, y2, y3] = [v0, v1, v2, v3, v4, v5, v6, v7] := by
            have h := HTK.out
            rw [HFI.out] at h
            exact h
          injection hTx with e0 hTx
          injection hTx with e1 hTx
          injection hTx with e2 hTx
          injection hTx with e3 hTx
          subst e0 e1 e2 e3
          clear hTx
          have u0 : ¬ 16 * (k : Int) < 16 * (k : Int) := by omega
          have HKK : Hid (Sl w wr N (.cells #[.int .u32 x0, .int .u32 x1, .int .u32 x2, .int .u32 x3, .int .u32 y0, .int .u32 y1, .int .u32 y2, .int .u32 y3] 26 (0, 0))) := Lib.hid ⟨HS.out.ha, HL.out.below HS.out.be, HS.out.NW⟩
          have q4 := eq4s
          have s0 := same_self
          clear HS HTK HFI HF HWD HBY HBB HKL HQ HZ h0
          go_wp2_with fail
          replace HKK := Lib.hid HKK.out.drew
          go_region_held3 (fun W => Sl w W N (.cells #[.int .u32 x0, .int .u32 x1, .int .u32 x2, .int .u32 x3, .int .u32 y0, .int .u32 y1, .int .u32 y2, .int .u32 y3] 26 (0, 0)) ∧ W.cell? ⟨N, 0, none⟩ = some (.int .u32 x0) ∧ W.cell? ⟨N, 1, none⟩ = some (.int .u32 x1) ∧ W.cell? ⟨N, 2, none⟩ = some (.int .u32 x2) ∧ W.cell? ⟨N, 3, none⟩ = some (.int .u32 x3))
            (exact allSp HKK.out)
            (first
              | (go_at_call 4; with_reducible refine (awake_any _ (HT.out.low HKK.out.lo)).mono ?_; rintro e w' ⟨rfl, hb⟩; replace HKK := Lib.hid (HKK.out.after hb); clear hb)
              | (go_at_call 6; with_reducible refine (COF.out _ (HT.out.low HKK.out.lo)).mono ?_; rintro e w' ⟨rfl, hb⟩; replace HKK := Lib.hid (HKK.out.after hb); clear hb))
          all_goals
            go_wp2_with fail
            go_ret
            exact ⟨rfl, HKK.out.lo⟩
end Go.Proofs.YtflggcnojfmlmaaDoor
