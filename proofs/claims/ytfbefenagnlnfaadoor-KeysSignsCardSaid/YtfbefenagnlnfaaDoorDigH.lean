/- The reference of layer 3: the contract of its Of. -/
import Derived.Test.YtfbefenagnlnfaaDoorDigG
set_option linter.unusedVariables false
namespace Go.Proofs.YtfbefenagnlnfaaDoor
open Go.RowKit

theorem own_slice {w : World} {B e n : Nat} {v : Value} {xs : List Value} (h : w.ownsRow B e 1 v n xs) (hn : 0 < n) : ∃ g cap, v = .slice (some ⟨g, 0, none⟩) n cap ∧ B ≤ g ∧ g < w.heap.size := by
  obtain ⟨_, h | ⟨g, cap, cur, hv, hb, hg, _⟩⟩ := h
  · omega
  · exact ⟨g, cap, hv, hb, (Array.getElem?_eq_some_iff.1 hg).1⟩
theorem two_new (w : World) (a b : Value) (t : TypeId) :
    ∀ (j : Nat) (u : Value), [a, b][j]? = some u → (w.alloc (.cells #[a, b] t)).cell? ((⟨w.heap.size, 0, none⟩ : Addr).add j) = some u := by
  intro j u hj
  match j, hj with
  | 0, hj => simp at hj; subst hj; simp [Addr.add]
  | 1, hj => simp at hj; subst hj; simp [Addr.add]
  | n + 2, hj => simp at hj
def szOf : Value → Nat
  | .string S => S.size
  | _ => 0
/-- What the loop of the reference keeps. -/
structure Q2 (w W : World) (N g : Nat) (l M : Ws) : Prop where
  hz : W.heap[w.heap.size]? = some (.cells #[.int .u32 0, .int .u32 0, .int .u32 0, .int .u32 0] 24 (0, 0))
  ha : W.heap[N]? = some (.cells (l.map (Value.int .u32)).toArray 89 (0, 0))
  hs : ∀ (j : Nat) (v : Int), M[j]? = some v → W.cell? ⟨g, j, none⟩ = some (.int .u32 v)
  be : Below w.heap.size w W
  zg : w.heap.size < g
  gN : g < N
  NW : N < W.heap.size
theorem Q2.after {w W W' : World} {N g : Nat} {l M : Ws} (h : Q2 w W N g l M) (hb : Below W.heap.size W W') : Q2 w W' N g l M :=
  ⟨by rw [hb.block _ (by have := h.zg; have := h.gN; have := h.NW; omega)]; exact h.hz,
   by rw [hb.block _ h.NW]; exact h.ha,
   fun j v hv => by rw [hb.cell (p := ⟨g, j, none⟩) (by have := h.gN; have := h.NW; simp; omega)]; exact h.hs j v hv,
   h.be.trans (hb.mono h.be.size), h.zg, h.gN, Nat.lt_of_lt_of_le h.NW hb.size⟩
theorem Q2.drew {w W : World} {N g : Nat} {l M : Ws} (h : Q2 w W N g l M) : Q2 w W.drew N g l M := ⟨h.hz, h.ha, h.hs, h.be.drew, h.zg, h.gN, h.NW⟩

theorem Q2.set {w W : World} {N g : Nat} {l M : Ws} (h : Q2 w W N g l M) (i : Nat) (v : Int) : Q2 w (W.setCell ⟨N, i, none⟩ (.int .u32 v)) N g (l.set i v) M := by
  have h1 := h.zg
  have h2 := h.gN
  refine ⟨?_, ?_, ?_, h.be.setCell (by simp; omega) _, h.zg, h.gN, by simpa using h.NW⟩
  · rw [heap_setCell_other _ _ _ _ (by simp; omega)]; exact h.hz
  · rw [heap_setCell_same W _ i _ _ _ h.ha]
    simp [List.map_set]
  · intro j u hu
    rw [World.cell?_of_block (w := W) (heap_setCell_other _ _ _ _ (by simp; omega))]
    exact h.hs j u hu

set_option maxRecDepth 100000 in
set_option maxHeartbeats 2000000 in
theorem of_ref (s : ByteArray) (w : World) (hn : s.size ≤ 300) :
    Calls Tryd.prog 44 #[.string s] w fun e w' => e = .returned (ag (dof s)) ∧ Below w.heap.size w w' := by
  rw [dof_all s hn]
  obtain ⟨n, hnn⟩ : ∃ n, s.size = n := ⟨_, rfl⟩
  rw [hnn] at hn
  obtain ⟨z, hz⟩ : ∃ z, (23 - n % 16) % 16 = z := ⟨_, rfl⟩
  rw [hnn, hz]
  obtain ⟨m, hm⟩ : ∃ m, n + 1 + z = 4 * m := ⟨(n + 1 + z) / 4, by omega⟩
  obtain ⟨q, hq⟩ : ∃ q, m + 2 = 4 * q := ⟨(m + 2) / 4, by omega⟩
  have hps : (pd s z).size = 4 * m := by rw [size_pd]; omega
  have c1 := fun w => ref_words_any (pd s z) m w (by omega) hps
  obtain ⟨hLl, hLw⟩ := words_of_text (pd s z) m hps
  obtain ⟨L, hL⟩ : ∃ L, wdsL (nums (pd s z)) = L := ⟨_, rfl⟩
  rw [hL] at c1 hLl hLw ⊢
  obtain ⟨M, hM⟩ : ∃ M, L ++ [(n : Int), 0] = M := ⟨_, rfl⟩
  have hMl : M.length = 4 * q := by rw [← hM]; simp; omega
  have hMw : ∀ x ∈ M, W32 x := by
    intro x hx
    rw [← hM] at hx
    simp only [List.mem_append, List.mem_cons, List.not_mem_nil, or_false] at hx
    rcases hx with hx | rfl | rfl
    · exact hLw x hx
    · exact ⟨by omega, by omega⟩
    · exact ⟨by omega, by omega⟩
  have hF := fun k (hk : k < q) => four_of hMl hMw hk
  have hfin : M.drop (4 * q) = [] := List.drop_of_length_le (by omega)
  rw [hM]
  have hT8 := tkAll_ok _ one8 M (Nat.le_refl _) one8_ok hMw
  obtain ⟨T, hT⟩ : ∃ T, tkAll one8 M = T := ⟨_, rfl⟩
  rw [hT] at hT8 ⊢
  obtain ⟨v0, v1, v2, v3, v4, v5, v6, v7, rfl, _⟩ := ok8 hT8
  show Calls Tryd.prog 44 #[.string s] w fun e w' => e = .returned (ag [v0, v1, v2, v3]) ∧ Below w.heap.size w w'
  rw [ag4]
  have C1 := Lib.hid c1
  have HF := Lib.hid hF
  have HFI := Lib.hid hfin
  have HM := Lib.hid hM
  have HML := Lib.hid hMl
  have HT := Lib.hid hT
  have HZ := Lib.hid hz
  have HMM := Lib.hid hm
  have HQ := Lib.hid hq
  have HLL := Lib.hid hLl
  have HP := Lib.hid hps
  have p1 : (s ++ (⟨#[128]⟩ : ByteArray)).size = n + 1 := by rw [ByteArray.size_append, hnn]; rfl
  have i0 : (s.size : Int) = (n : Int) := by omega
  have i1 : ¬ 9223372036854775807 < n + 1 := by omega
  have i2 : (n : Int) % 18446744073709551616 = (n : Int) := by omega
  have i3 : (n : Int) % 4294967296 = (n : Int) := by omega
  have i4 : (n : Int) / 4294967296 = 0 := by omega
  have i5 : (0 : Int) ≤ (n : Int) := by omega
  have i6 : (n : Int) ≤ 300 := by omega
  have hz15 : z ≤ 15 := by omega
  have hm80 : m ≤ 80 := by omega
  clear c1 hF hfin hM hMl hMw hT hz hL hLl hLw hT8 hps hm hq
  obtain ⟨t0, hi, hz0, hz1, hz2⟩ := info_parts infoU32
  go_enter Tryd.func44, Tryd.ntmps44
  go_wp2_with fail
  go_loop [0] (fun st => ∃ (j : Nat) (S : ByteArray), j ≤ z ∧ st = .string S ∧ Hid (S = pd s j)) (fun st => 400 - szOf st)
  case atStart => exact ⟨0, _, Nat.zero_le _, rfl, (pd_zero s).symm⟩
  case round =>
    obtain ⟨j, S, hj, rfl, HS⟩ := hrel
    have hSs : S.size = n + 1 + j := by rw [HS.out, size_pd, hnn]
    have hSI : (S.size : Int) = (n : Int) + 1 + (j : Int) := by omega
    by_cases hlt : j < z
    · have e1 : (((n : Int) + 1 + (j : Int)) % 16 != 8) = true := by
        rw [bne_iff_ne]
        have := HZ.out
        omega
      have p2 : (S ++ (⟨#[0]⟩ : ByteArray)).size = n + 1 + j + 1 := by rw [ByteArray.size_append, hSs]; rfl
      have p3 : ¬ 9223372036854775807 < n + 1 + j + 1 := by omega
      have HS2 := Lib.hid (show S ++ (⟨#[0]⟩ : ByteArray) = pd s (j + 1) by rw [HS.out, pd_succ])
      go_wp2_with fail
      go_round
      case rel => exact ⟨j + 1, _, by omega, rfl, HS2⟩
      case measure => simp [szOf, p2, hSs]; omega
    · obtain rfl : j = z := by omega
      have e1 : (((n : Int) + 1 + (j : Int)) % 16 != 8) = false := by
        rw [bne_eq_false_iff_eq]
        have := HZ.out
        omega
      have hS := HS.out
      subst hS
      go_wp2_with fail
      refine (C1.out _).mono ?_
      rintro e w1 ⟨rfl, o1, b1⟩
      have BE := Lib.hid (((Below.refl _ w).alloc (Nat.le_refl _) (.cells #[.int .u32 0, .int .u32 0, .int .u32 0, .int .u32 0] 24 (0, 0))).trans (b1.mono (by simp)))
      have HB0 := Lib.hid ((b1.block w.heap.size (by simp)).trans (heap_alloc_new w (.cells #[.int .u32 0, .int .u32 0, .int .u32 0, .int .u32 0] 24 (0, 0))))
      have hs1 : w.heap.size < w1.heap.size := by have := b1.size; simp at this; omega
      have hsB : w.heap.size + 1 ≤ w1.heap.size := by omega
      have O1 : Hid (w1.ownsRow (w.heap.size + 1) 22 1 (.slice (some ⟨w.heap.size + 1, 0, none⟩) m m) m (L.map (Value.int .u32))) := Lib.hid (by simpa using o1)
      clear b1 o1
      go_wp2_with (at_builtin; refine wpList_append_own _ rfl _ _ 76 rfl (w.heap.size + 1) 22 t0 (.int .u32 0) 1 4 Tryd.underlying76 hi hz0 hz1 hz2 rfl (by decide) _ _ _ rfl (O1.out.alloc _) ⟨w1.heap.size, 0, none⟩ 2 2 ([(n : Int), 0].map (Value.int .u32)) rfl rfl (two_new _ _ _ _) (ints_oneCell _ _) ?c3 ?c4 ?c5 ?_)
      case c3 => unfold maxLen; omega
      case c4 => omega
      case c5 => simp; omega
      intro v' w2 hown hgrow _
      rw [show L.map (Value.int .u32) ++ [.int .u32 (n : Int), .int .u32 0] = M.map (Value.int .u32) by rw [← HM.out]; simp] at hown
      obtain ⟨g, cap, rfl, hg1, hg2⟩ := own_slice hown (by omega)
      have BE2 := Lib.hid ((BE.out.alloc (by omega) (.cells #[.int .u32 (n : Int), .int .u32 0] 22)).grown hgrow (by simp; omega) (fun k hk => by have := (O1.out.lt k hk).1; omega))
      have HB2 : Hid (w2.heap[w.heap.size]? = some (.cells #[.int .u32 0, .int .u32 0, .int .u32 0, .int .u32 0] 24 (0, 0))) := Lib.hid (by
        rw [hgrow.block w.heap.size (by simp; omega) (fun e => by have := (O1.out.lt _ e.symm).1; omega), heap_alloc_old _ _ hs1]
        exact HB0.out)
      have HC : Hid (∀ (j : Nat) (v : Int), M[j]? = some v → w2.cell? ⟨g, j, none⟩ = some (.int .u32 v)) := Lib.hid (by
        intro j v hv
        have hjl := (List.getElem?_eq_some_iff.1 hv).1
        have := HML.out
        have := HQ.out
        rw [hown.cellAt j (by omega), List.getElem?_map, hv]
        rfl)
      have HW2 : w.heap.size < w2.heap.size := by omega
      clear hown hgrow
      have Q0 : Hid (Q2 w (w2.alloc (.cells (one8.map (Value.int .u32)).toArray 89)) w2.heap.size g one8 M) := Lib.hid
        ⟨by rw [heap_alloc_old _ _ HW2]; exact HB2.out, heap_alloc_new _ _,
         fun j v hv => by rw [World.cell?_alloc_old _ _ _ (Nat.ne_of_lt hg2)]; exact HC.out j v hv,
         BE2.out.alloc (by omega) _, by omega, hg2, by simp⟩
      have h0 : Hid (tkAll one8 (M.drop (4 * 0)) = [v0, v1, v2, v3, v4, v5, v6, v7]) := by show _ = _; simpa using HT.out
      obtain ⟨N, hN⟩ : ∃ N, w2.heap.size = N := ⟨_, rfl⟩
      go_wp2_with fail
      go_loopw [7] (fun si wr => ∃ (k : Nat) (s' : Ws), k ≤ q ∧ si = .int .i64 (4 * (k : Int)) ∧ Hid (Ok8 s') ∧ Hid (tkAll s' (M.drop (4 * k)) = [v0, v1, v2, v3, v4, v5, v6, v7]) ∧ Hid (Q2 w wr N g s' M)) (fun si _ => 4 * q - (intOf si).toNat)
      case atStart =>
        refine ⟨0, one8, Nat.zero_le _, rfl, Lib.hid one8_ok, h0, ?_⟩
        show Q2 _ _ _ _ _ _
        rw [← hN]
        exact Q0.out
      case round =>
        obtain ⟨k, s', hk, rfl, HO, HTK, HS⟩ := hrel
        clear Q0 HC HB2 BE2 HB0 BE O1
        by_cases hlt : k < q
        · obtain ⟨x0, x1, x2, x3, hx, hx4⟩ := HF.out k hlt
          have htk := HTK.out
          rw [hx, tkAll_step] at htk
          have hno := taken_ok HO.out hx4
          obtain ⟨a0, a1, a2, a3, b0, b1, b2, b3, rfl, _⟩ := ok8 HO.out
          obtain ⟨f0, f1, f2, f3, f4, f5, f6, f7, hf, _⟩ := ok8 hno
          rw [hf] at htk hno
          have HNO := Lib.hid hno
          have HTN := Lib.hid htk
          have HX4 := Lib.hid hx4
          have HFF := Lib.hid hf
          have g0 : M[4 * k]? = some x0 := by have := congrArg (·[0]?) hx; simpa [List.getElem?_drop] using this
          have g1 : M[4 * k + 1]? = some x1 := by have := congrArg (·[1]?) hx; simpa [List.getElem?_drop] using this
          have g2 : M[4 * k + 2]? = some x2 := by have := congrArg (·[2]?) hx; simpa [List.getElem?_drop] using this
          have g3 : M[4 * k + 3]? = some x3 := by have := congrArg (·[3]?) hx; simpa [List.getElem?_drop] using this
          have q0 := HS.out.hs _ _ g0
          have q1 := HS.out.hs _ _ g1
          have q2 := HS.out.hs _ _ g2
          have q3 := HS.out.hs _ _ g3
          have hqq := HQ.out
          have y0 : 4 * (k : Int) < (m : Int) + 2 := by omega
          have y1 : 4 * (k : Int) + 1 < (m : Int) + 2 := by omega
          have y2 : 4 * (k : Int) + 2 < (m : Int) + 2 := by omega
          have y3 : 4 * (k : Int) + 3 < (m : Int) + 2 := by omega
          have y4 : 0 ≤ 4 * (k : Int) := by omega
          have y5 : 0 ≤ 4 * (k : Int) + 1 := by omega
          have y6 : 0 ≤ 4 * (k : Int) + 2 := by omega
          have y7 : 0 ≤ 4 * (k : Int) + 3 := by omega
          have w0 : (4 * (k : Int)).toNat = 4 * k := by omega
          have w1 : (4 * (k : Int) + 1).toNat = 4 * k + 1 := by omega
          have w2 : (4 * (k : Int) + 2).toNat = 4 * k + 2 := by omega
          have w3 : (4 * (k : Int) + 3).toNat = 4 * k + 3 := by omega
          have v1 : IntKind.i64.wrap (4 * (k : Int) + 1) = 4 * (k : Int) + 1 := by rw [IntKind.wrap_i64]; omega
          have v2 : IntKind.i64.wrap (4 * (k : Int) + 2) = 4 * (k : Int) + 2 := by rw [IntKind.wrap_i64]; omega
          have v3 : IntKind.i64.wrap (4 * (k : Int) + 3) = 4 * (k : Int) + 3 := by rw [IntKind.wrap_i64]; omega
          clear hqq
          obtain ⟨r0, r1, r2, r3, r4, r5, r6, r7, z0, z1, z2, z3, z4, z5, z6, z7⟩ := cells8 HS.out.ha
          clear hx hx4 htk hno hf g0 g1 g2 g3
          go_wp2_with fail
          go_still_tail 21, (by kernel_rfl)
          change wpList _ _ _ _ _ wr.drew
          go_wp2_with fail
          refine (taker_ex _ HO.out HX4.out HFF.out).mono ?_
          rintro e w5 ⟨rfl, b5⟩
          have S5 := HS.out.drew.after b5
          clear r0 r1 r2 r3 r4 r5 r6 r7 z0 z1 z2 z3 z4 z5 z6 z7 q0 q1 q2 q3 b5
          obtain ⟨r0, r1, r2, r3, r4, r5, r6, r7, z0, z1, z2, z3, z4, z5, z6, z7⟩ := cells8 S5.ha
          have HS5 := Lib.hid S5
          clear S5
          go_wp2_with fail
          refine ⟨⟨k + 1, [f0, f1, f2, f3, f4, f5, f6, f7], by omega, by go_num, HNO, HTN, ?_⟩, by simp [intOf]; omega⟩
          show Q2 _ _ _ _ _ _
          exact (((((((HS5.out.set 0 _).set 1 _).set 2 _).set 3 _).set 4 _).set 5 _).set 6 _).set 7 _
        · obtain rfl : k = q := by omega
          obtain ⟨x0, x1, x2, x3, y0, y1, y2, y3, rfl, _⟩ := ok8 HO.out
          have hTx : [x0, x1, x2, x3, y0, y1, y2, y3] = [v0, v1, v2, v3, v4, v5, v6, v7] := by
            have h := HTK.out
            rw [HFI.out] at h
            exact h
          injection hTx with e0 hTx
          injection hTx with e1 hTx
          injection hTx with e2 hTx
          injection hTx with e3 hTx
          subst e0 e1 e2 e3
          clear hTx
          have hqq := HQ.out
          have u0 : ¬ 4 * (k : Int) < (m : Int) + 2 := by omega
          clear hqq
          obtain ⟨r0, r1, r2, r3, r4, r5, r6, r7, z0, z1, z2, z3, z4, z5, z6, z7⟩ := cells8 HS.out.ha
          obtain ⟨d0, d1, d2, d3, f0, f1, f2, f3⟩ := cells4 HS.out.hz
          have HR := Lib.hid (row4 HS.out.hz (.int .u32 x0) (.int .u32 x1) (.int .u32 x2) (.int .u32 x3))
          have HBE := Lib.hid HS.out.be
          go_wp2_with fail
          exact bodyPost_ret (v := .agg #[.int .u32 x0, .int .u32 x1, .int .u32 x2, .int .u32 x3]) (by
            obtain ⟨k0, k1, k2, k3, _⟩ := cells4 HR.out
            simp [results, go_sem, k0, k1, k2, k3]) rfl ⟨rfl, below_row4 HBE.out (Nat.le_refl _) _ _ _ _⟩
end Go.Proofs.YtfbefenagnlnfaaDoor
