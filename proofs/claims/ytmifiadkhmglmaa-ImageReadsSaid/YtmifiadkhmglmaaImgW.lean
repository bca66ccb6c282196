/- Stage 8: the laws' arguments: words, images. -/
import Derived.Test.YtmifiadkhmglmaaRows
import Derived.WalkKit
import Derived.ProofKit
import Derived.OpenShut
import Derived.ShutString
import Derived.ChangeOld
import Derived.Below
import Derived.Deep.Slices
import Derived.Test.YtmifiadkhmglmaaImgA
namespace Go.Proofs.Ytmifiadkhmglmaa
open Go.ChangeShapes Go.WideShapes Go.ChangeAt Go.RowKit
set_option linter.unusedVariables false

theorem own : ownKnob Try.prog.godebug = none := by kernel_rfl
theorem laidOut : laidOutB Try.prog = true := by kernel_rfl
theorem cInt : Try.prog.cellsOf 3 = 1 := by kernel_rfl
theorem cWs : Try.prog.cellsOf 22 = 1 := by kernel_rfl
theorem cImg : Try.prog.cellsOf 24 = 2 := by kernel_rfl
/-- What is known of words that came in. -/
theorem rd_cells {w : World} {x : Addr} {len cap : Nat} {zs : List Int} (hl : len ≤ cap) (hz : zs.length = cap) (hc : ∀ i, i < zs.length → w.cell? (x.add i) = some (.int .u32 (zs.getD i 0))) (hw : ∀ n ∈ zs, (Lit.int .u32 n).wf = true) :
    Rd w (some x) len (zs.take len) ∧ W32s (zs.take len) := by
  have k : W32s (zs.take len) := by
    intro z hz
    have := bounds_u32 (hw z (List.mem_of_mem_take hz))
    omega
  have k2 : ∀ j, 0 ≤ (zs.take len).getD j 0 ∧ (zs.take len).getD j 0 < 4294967296 := by
    intro j
    by_cases hj : j < (zs.take len).length
    · have h1 := k _ (List.getElem_mem hj)
      have e : (zs.take len).getD j 0 = (zs.take len)[j] := by
        rw [List.getD, List.getElem?_eq_getElem hj]; rfl
      rw [e]; exact h1
    · have e : (zs.take len).getD j 0 = 0 := by
        rw [List.getD, List.getElem?_eq_none (by omega)]; rfl
      rw [e]; omega
  refine ⟨⟨by rw [List.length_take]; omega, ?_, k2⟩, k⟩
  by_cases h0 : len = 0
  · exact Or.inl h0
  · obtain ⟨b, off, rfl, hcc⟩ := ints_at hc (by omega)
    refine Or.inr ⟨b, off, rfl, ?_, ?_⟩
    · have h := hcc 0 (by omega)
      rcases Nat.lt_or_ge b w.heap.size with hb | hb
      · exact hb
      · simp [World.cell?, Array.getElem?_eq_none hb] at h
    · intro j hj
      rw [hcc j (by omega)]
      simp [List.getD, hj]
section
variable {H : Type} {enc : TypeId × Value → H} {W : World}
theorem open_ws {cs : List Value} {x : DataW H × List MemPlace} {fuel : Nat} (h : DataW.trod enc Try.prog W 0 (fun _ => true) true fuel 22 cs = some x) :
    ∃ (A : Option Addr) (n c : Nat) (l : List Int), cs = [.slice A n c] ∧ n ≤ c ∧ c ≤ maxLen ∧ Rd W A n l ∧ W32s l := by
  rcases open_ints Try.underlying22 Try.underlying35 (by kernel_rfl) h with ⟨hcs, _⟩ | ⟨x, l, c, zs, hcs, _, hl, hm, hz, _, hcell, hwz⟩
  · exact ⟨none, 0, 0, [], hcs, Nat.le_refl _, Nat.zero_le _, ⟨rfl, .inl rfl, fun j => by simp⟩, by intro z hz; simp at hz⟩
  · obtain ⟨r, k⟩ := rd_cells hl (by simpa using hz) hcell hwz
    exact ⟨some x, l, c, _, hcs, hl, hm, r, k⟩
theorem open_wl {b0 : Nat} {v : Value} {d : DataW H} {p : List MemPlace} (hv : Value.okWide Try.prog W .any b0 22 v) (h : DataW.Trod enc Try.prog W 0 (fun _ => true) true 22 v d p) :
    ∃ (A : Option Addr) (n c : Nat) (l : List Int), v = .slice A n c ∧ n ≤ c ∧ c ≤ maxLen ∧ Rd W A n l ∧ W32s l := by
  obtain ⟨a, len, cap, rfl⟩ := okWide_slice Try.underlying22 hv
  obtain ⟨fuel, hf⟩ := h
  obtain ⟨A, n, c, l, hcs, r⟩ := open_ws hf
  simp [Value.cells] at hcs
  obtain ⟨rfl, rfl, rfl⟩ := hcs
  exact ⟨_, _, _, l, rfl, r⟩
set_option maxRecDepth 100000 in
theorem open_img {b0 : Nat} {v : Value} {d : DataW H} {p : List MemPlace} (hv : Value.okWide Try.prog W .any b0 24 v) (h : DataW.Trod enc Try.prog W 0 (fun _ => true) true 24 v d p) :
    ∃ (A : Option Addr) (n c : Nat) (l : List Int) (I : Int), v = .agg #[.slice A n c, .int .i64 I] ∧ (n ≤ c ∧ c ≤ maxLen ∧ Rd W A n l ∧ W32s l) ∧ (Lit.int .i64 I).wf = true := by
  obtain ⟨cs, rfl, hsz, _⟩ : ∃ cs, v = .agg cs ∧ cs.size = Try.prog.cellsOf 24 ∧ Row.okWide Try.prog W .any b0 24 cs := by
    simpa [Value.okWide, Try.underlying24] using hv
  rw [cImg] at hsz
  obtain ⟨fuel, hf⟩ := h
  obtain ⟨ls⟩ := cs
  match ls, hsz with
  | [e0, e1], _ =>
    have hf2 : DataW.trod enc Try.prog W 0 (fun _ => true) true fuel 24 [e0, e1] = some (d, p) := by simpa [Value.cells] using hf
    obtain ⟨xs, n, _, _, _, hlen, hg⟩ := DataW.trod_struct Try.underlying24 hf2
    have hxl : xs.length = 2 := hlen
    match xs, hxl with
    | [(t0, p0), (t1, p1)], _ =>
      have g0 : DataW.trod enc Try.prog W 0 (fun _ => true) true n 22 (([e0, e1].drop 0).take (Try.prog.cellsOf 22)) = some (t0, p0) := hg 0 _ rfl
      rw [cWs] at g0
      have g0 : DataW.trod enc Try.prog W 0 (fun _ => true) true n 22 [e0] = some (t0, p0) := g0
      obtain ⟨A, m, c, l, q0, r0⟩ := open_ws g0
      have g1 : DataW.trod enc Try.prog W 0 (fun _ => true) true n 3 (([e0, e1].drop 1).take (Try.prog.cellsOf 3)) = some (t1, p1) := hg 1 _ rfl
      rw [cInt] at g1
      have g1 : DataW.trod enc Try.prog W 0 (fun _ => true) true n 3 [e1] = some (t1, p1) := g1
      obtain ⟨I, q1, _, o1⟩ := DataW.trod_int Try.underlying3 g1
      simp only [List.cons.injEq, and_true] at q0 q1
      subst q0 q1
      exact ⟨A, m, c, l, I, rfl, r0, o1⟩
end
end Go.Proofs.Ytmifiadkhmglmaa
