/- Package digest: the contracts of takeText, ending and Of. -/
import Derived.Test.YtfbefenagnlnfaaDoorKl
import Derived.Test.YtfbefenagnlnfaaDoorDigQ
import Derived.Test.YtfbefenagnlnfaaDoorPackC
import Derived.Test.YtfbefenagnlnfaaDoorOwn4
import Derived.Test.YtfbefenagnlnfaaDoorHexM
import Derived.Test.YtfbefenagnlnfaaDoorRep
set_option linter.unusedVariables false
namespace Go.Proofs.YtfbefenagnlnfaaDoor
open Go.RowKit

theorem nums_extract (t : ByteArray) (a b : Nat) : nums (t.extract a b) = ((nums t).drop a).take (b - a) := by
  unfold nums
  rw [← List.map_drop, ← List.map_take]
  congr 1
  simp [ByteArray.data_extract]
theorem wdsL_drop : ∀ (j : Nat) (l : List Int), wdsL (l.drop (4 * j)) = (wdsL l).drop j
  | 0, l => by simp
  | j + 1, a :: b :: c :: d :: r => by
    rw [show 4 * (j + 1) = 4 * j + 4 by omega]
    exact wdsL_drop j r
  | j + 1, [] => by simp [wdsL]
  | j + 1, [_] => by rw [List.drop_of_length_le (by simp; omega)]; simp [wdsL]
  | j + 1, [_, _] => by rw [List.drop_of_length_le (by simp; omega)]; simp [wdsL]
  | j + 1, [_, _, _] => by rw [List.drop_of_length_le (by simp; omega)]; simp [wdsL]
theorem wdsL_take : ∀ (j : Nat) (l : List Int), wdsL (l.take (4 * j)) = (wdsL l).take j
  | 0, l => by simp [wdsL]
  | j + 1, a :: b :: c :: d :: r => by
    rw [show 4 * (j + 1) = 4 * j + 4 by omega]
    simp only [List.take_succ_cons, wdsL]
    rw [wdsL_take j r]
  | j + 1, [] => by simp [wdsL]
  | j + 1, [_] => by rw [show 4 * (j + 1) = 4 * j + 4 by omega]; simp [wdsL]
  | j + 1, [_, _] => by rw [show 4 * (j + 1) = 4 * j + 4 by omega]; simp [wdsL]
  | j + 1, [_, _, _] => by rw [show 4 * (j + 1) = 4 * j + 4 by omega]; simp [wdsL]
theorem four_of {l : Ws} {k m : Nat} (hl : l.length = 4 * m) (hw : ∀ x ∈ l, W32 x) (hk : k < m) : ∃ v0 v1 v2 v3, l.drop (4 * k) = v0 :: v1 :: v2 :: v3 :: l.drop (4 * (k + 1)) ∧ Ok4 [v0, v1, v2, v3] := by
  have hlen : (l.drop (4 * k)).length = 4 * (m - k) := by rw [List.length_drop, hl]; omega
  have hd : l.drop (4 * (k + 1)) = (l.drop (4 * k)).drop 4 := by rw [List.drop_drop]; congr 1
  have hm : ∀ x ∈ l.drop (4 * k), W32 x := fun x hx => hw x (List.mem_of_mem_drop hx)
  rw [hd]
  match h : l.drop (4 * k), hlen, hm with
  | v0 :: v1 :: v2 :: v3 :: r, _, hm => exact ⟨v0, v1, v2, v3, rfl, mk4 (hm _ (by simp)) (hm _ (by simp)) (hm _ (by simp)) (hm _ (by simp))⟩
  | [], hlen, _ => simp at hlen; omega
  | [_], hlen, _ => simp at hlen; omega
  | [_, _], hlen, _ => simp at hlen; omega
  | [_, _, _], hlen, _ => simp at hlen; omega
theorem words_of_text (t : ByteArray) (m : Nat) (h : t.size = 4 * m) : (wdsL (nums t)).length = m ∧ ∀ x ∈ wdsL (nums t), W32 x := by
  have hn : (nums t).length = 4 * m := by rw [length_nums, h]
  have ho := wdsL_word m _ hn (nums_byte t)
  exact ⟨length_wdsL m _ hn, fun x hx => ⟨(ho x hx).1, by have := (ho x hx).2; omega⟩⟩
theorem tkAll_step (s : Ws) (v0 v1 v2 v3 : Int) (r : List Int) : tkAll s (v0 :: v1 :: v2 :: v3 :: r) = tkAll (taken s [v0, v1, v2, v3]) r := rfl
theorem tkAll_ok : ∀ (n : Nat) (s : Ws) (l : List Int), l.length ≤ n → Ok8 s → (∀ x ∈ l, W32 x) → Ok8 (tkAll s l)
  | 0, s, l, hl, h, _ => by
    have : l = [] := List.length_eq_zero_iff.1 (by omega)
    subst this; exact h
  | n + 1, s, a :: b :: c :: d :: r, hl, h, hw => by
    rw [tkAll_step]
    exact tkAll_ok n _ r (by simp at hl; omega) (taken_ok h (mk4 (hw _ (by simp)) (hw _ (by simp)) (hw _ (by simp)) (hw _ (by simp)))) (fun x hx => hw x (by simp [hx]))
  | n + 1, s, [], _, h, _ => h
  | n + 1, s, [_], _, h, _ => h
  | n + 1, s, [_, _], _, h, _ => h
  | n + 1, s, [_, _, _], _, h, _ => h

set_option maxRecDepth 100000 in
set_option maxHeartbeats 2000000 in
theorem takeText_code (s : Ws) (t : ByteArray) (m : Nat) (w : World) (hs : Ok8 s) (hm : t.size = 16 * m) (h64 : m ≤ 64) (ht : Tabs w) :
    Calls Tryd.prog 64 #[ag s, .string t] w fun e w' => e = .returned (ag (tkAll s (wdsL (nums t)))) ∧ Below w.heap.size w w' := by
  obtain ⟨hWl, hWw⟩ := words_of_text t (4 * m) (by omega)
  have hF := fun k (hk : k < m) => four_of hWl hWw hk
  have hX := fun k => (show wdsL (nums (t.extract (16 * k) (16 * k + 16))) = ((wdsL (nums t)).drop (4 * k)).take 4 by
    rw [nums_extract, show 16 * k + 16 - 16 * k = 4 * 4 by omega, wdsL_take, show 16 * k = 4 * (4 * k) by omega, wdsL_drop])
  have hfin : (wdsL (nums t)).drop (4 * m) = [] := List.drop_of_length_le (by omega)
  obtain ⟨T, hT⟩ : ∃ T, tkAll s (wdsL (nums t)) = T := ⟨_, rfl⟩
  have h0 : Hid (tkAll s ((wdsL (nums t)).drop (4 * 0)) = T) := by show _ = _; simpa using hT
  rw [hT]
  have S0 := Lib.hid (St.new w s)
  have HOK := Lib.hid hs
  have HF := Lib.hid hF
  have HX := Lib.hid hX
  have HFI := Lib.hid hfin
  have HT := Lib.hid ht
  have hmI : (t.size : Int) = 16 * (m : Int) := by omega
  obtain ⟨a0, a1, a2, a3, b0, b1, b2, b3, hl8, _⟩ := ok8 hs
  have HL8 := Lib.hid hl8
  have e : ag s = .agg #[.int .u32 a0, .int .u32 a1, .int .u32 a2, .int .u32 a3, .int .u32 b0, .int .u32 b1, .int .u32 b2, .int .u32 b3] := by rw [hl8]; rfl
  rw [e]
  clear hF hX hfin hT ht e hl8 hs hWl hWw
  go_enter Tryd.func64, Tryd.ntmps64
  go_wp2
  go_loopw [5] (fun si wr => ∃ (k : Nat) (s' : Ws), k ≤ m ∧ si = .int .i64 (16 * (k : Int)) ∧ Hid (Ok8 s') ∧ Hid (tkAll s' ((wdsL (nums t)).drop (4 * k)) = T) ∧ Hid (St w wr s')) (fun si _ => 16 * m - (intOf si).toNat)
  case atStart =>
    have S1 := S0.out
    rw [HL8.out] at S1
    refine ⟨0, s, Nat.zero_le _, rfl, HOK, h0, ?_⟩
    show St _ _ _
    rw [HL8.out]
    exact S1
  case round =>
    obtain ⟨k, s', hk, rfl, HO, HTK, HS⟩ := hrel
    by_cases hlt : k < m
    · have p0 : 0 ≤ 16 * (k : Int) := by omega
      have p1 : 16 * (k : Int) ≤ 16 * (k : Int) + 16 := by omega
      have p2 : 16 * (k : Int) + 16 ≤ 16 * (m : Int) := by omega
      have p3 : 16 * (k : Int) < 16 * (m : Int) := by omega
      have hbs : (t.extract (16 * k) (16 * k + 16)).size = 4 * 4 := by rw [ByteArray.size_extract]; omega
      obtain ⟨v0, v1, v2, v3, hv, hv4⟩ := HF.out k hlt
      have hx := HX.out k
      rw [hv] at hx
      have hx4 : wdsL (nums (t.extract (16 * k) (16 * k + 16))) = [v0, v1, v2, v3] := hx
      have c2 := words_any (t.extract (16 * k) (16 * k + 16)) 4 wr (by omega) hbs
      rw [hx4] at c2
      have C2 := Lib.hid c2
      have htk := HTK.out
      rw [hv, tkAll_step] at htk
      have hno := taken_ok HO.out hv4
      obtain ⟨x0, x1, x2, x3, y0, y1, y2, y3, rfl, _⟩ := ok8 HO.out
      obtain ⟨f0, f1, f2, f3, f4, f5, f6, f7, hf, _⟩ := ok8 hno
      rw [hf] at htk hno
      have HNO := Lib.hid hno
      have HTN := Lib.hid htk
      have HV4 := Lib.hid hv4
      have HFF := Lib.hid hf
      clear hbs hv hx hx4 c2 htk hno hf hv4
      go_wp2_with fail
      refine C2.out.mono ?_
      rintro e w2 ⟨rfl, o2, b2⟩
      have S2 := HS.out.after b2
      have BW := Lib.hid (HS.out.hb.trans (b2.mono HS.out.hb.size))
      have q := cells_own4 o2
      have q0 : w2.cell? ⟨wr.heap.size, 0, none⟩ = some (.int .u32 v0) := q 0 (by omega)
      have q1 : w2.cell? ⟨wr.heap.size, 1, none⟩ = some (.int .u32 v1) := q 1 (by omega)
      have q2 : w2.cell? ⟨wr.heap.size, 2, none⟩ = some (.int .u32 v2) := q 2 (by omega)
      have q3 : w2.cell? ⟨wr.heap.size, 3, none⟩ = some (.int .u32 v3) := q 3 (by omega)
      obtain ⟨c0, c1, c2, c3, c4, c5, c6, c7, z0, z1, z2, z3, z4, z5, z6, z7⟩ := S2.cells
      have HS2 := Lib.hid S2.drew
      clear S2 q o2 b2
      go_wp2_with fail
      go_still_tail 14, (by kernel_rfl)
      change wpList _ _ _ _ _ w2.drew
      go_wp2_with fail
      refine (take_ex _ HO.out HV4.out HFF.out (HT.out.below HS2.out.hb)).mono ?_
      rintro e w3 ⟨rfl, b3⟩
      have S3 := HS2.out.after b3
      clear c0 c1 c2 c3 c4 c5 c6 c7 z0 z1 z2 z3 z4 z5 z6 z7 q0 q1 q2 q3 b3
      obtain ⟨c0, c1, c2, c3, c4, c5, c6, c7, z0, z1, z2, z3, z4, z5, z6, z7⟩ := S3.cells
      have HS3 := Lib.hid S3
      clear S3
      go_wp2_with fail
      refine ⟨⟨k + 1, [f0, f1, f2, f3, f4, f5, f6, f7], by omega, by go_num, HNO, HTN, ?_⟩, by simp [intOf]; omega⟩
      show St _ _ _
      exact (((((((HS3.out.set 0 _).set 1 _).set 2 _).set 3 _).set 4 _).set 5 _).set 6 _).set 7 _
    · obtain rfl : k = m := by omega
      obtain ⟨x0, x1, x2, x3, y0, y1, y2, y3, rfl, _⟩ := ok8 HO.out
      have S := HS.out
      obtain ⟨c0, c1, c2, c3, c4, c5, c6, c7, z0, z1, z2, z3, z4, z5, z6, z7⟩ := S.cells
      obtain ⟨r0, r1, r2, r3, r4, r5, r6, r7, g0, g1, g2, g3, g4, g5, g6, g7⟩ := cells8 S.hr
      have HR := Lib.hid S.hr
      have HB := Lib.hid S.hb
      have hTx : T = [x0, x1, x2, x3, y0, y1, y2, y3] := by
        have h := HTK.out
        rw [HFI.out] at h
        exact h.symm
      have HTX := Lib.hid hTx
      clear hTx S
      go_wp2_with fail
      refine bodyPost_ret (v := .agg #[.int .u32 x0, .int .u32 x1, .int .u32 x2, .int .u32 x3, .int .u32 y0, .int .u32 y1, .int .u32 y2, .int .u32 y3]) (by
        obtain ⟨k0, k1, k2, k3, k4, k5, k6, k7, _⟩ := cells8 (row8 HR.out (.int .u32 x0) (.int .u32 x1) (.int .u32 x2) (.int .u32 x3) (.int .u32 y0) (.int .u32 y1) (.int .u32 y2) (.int .u32 y3))
        simp [results, go_sem, k0, k1, k2, k3, k4, k5, k6, k7]) rfl ⟨by rw [HTX.out]; rfl, ?_⟩
      exact below_row8 HB.out _ _ _ _ _ _ _ _
end Go.Proofs.YtfbefenagnlnfaaDoor
