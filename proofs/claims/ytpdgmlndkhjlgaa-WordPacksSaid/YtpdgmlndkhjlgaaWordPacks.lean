/- The law WordPacks: for every slice of words l and every string s it returns true, and its arguments read as before. No condition. -/
import Derived.Test.YtpdgmlndkhjlgaaRows
import Derived.WalkKit
import Derived.ProofKit
import Derived.OpenShut
import Derived.ShutString
import Derived.ChangeOld
import Derived.Below
import Derived.Test.YtpdgmlndkhjlgaaAlive
import Derived.Test.YtpdgmlndkhjlgaaPackC
namespace Go.Proofs.Ytpdgmlndkhjlgaa.wordPacks
open Go.ChangeShapes Go.WideShapes Go.ChangeAt Go.RowKit
open Go.ChangeMaps (open_string shut_string)
set_option linter.unusedVariables false

theorem own : ownKnob Try.prog.godebug = none := by kernel_rfl
theorem laidOut : laidOutB Try.prog = true := by kernel_rfl

/-- What is known of a slice that came in: it is nil, or it leads to a row of cap cells, the numbers zs, of which the first len are its elements. -/
def IsRow (k : IntKind) (w : World) (a : Option Addr) (len cap : Nat) (zs : List Int) : Prop :=
  (a = none ∧ len = 0 ∧ cap = 0 ∧ zs = []) ∨
  ∃ x, a = some x ∧ len ≤ cap ∧ cap ≤ maxLen ∧ zs.length = cap ∧ (∀ i, i < zs.length → w.cell? (x.add i) = some (.int k (zs.getD i 0))) ∧ ∀ n ∈ zs, (Lit.int k n).wf = true

/-- A slice of words that reads as the list zs. -/
def Rd (w : World) (a : Option Addr) (n : Nat) (zs : List Int) : Prop :=
  zs.length = n ∧ (n = 0 ∨ ∃ b off, a = some ⟨b, off, none⟩ ∧ b < w.heap.size ∧ ∀ j, j < n → w.cell? ⟨b, off + j, none⟩ = some (.int .u32 (zs.getD j 0))) ∧ ∀ j, 0 ≤ zs.getD j 0 ∧ zs.getD j 0 < 4294967296

theorem Rd.below {w w' : World} {a : Option Addr} {n : Nat} {zs : List Int} (h : Rd w a n zs) (hb : Below w.heap.size w w') : Rd w' a n zs := by
  obtain ⟨h1, h2, h3⟩ := h
  refine ⟨h1, ?_, h3⟩
  rcases h2 with h2 | ⟨b, off, ha, hlt, hc⟩
  · exact Or.inl h2
  · exact Or.inr ⟨b, off, ha, Nat.lt_of_lt_of_le hlt hb.size, fun j hj => (hb.cell (p := ⟨b, off + j, none⟩) hlt).trans (hc j hj)⟩

theorem bytes_rd {w : World} {a : Option Addr} {n cap : Nat} {zs : List Int} (h : Rd w a n zs) (hn : n ≤ 4096) :
    Calls Try.prog 15 #[.slice a n cap] w fun e w' => e = .returned (.string (strOfNums (bytsAll zs))) ∧ Below w.heap.size w w' := by
  obtain ⟨h1, h2, h3⟩ := h
  by_cases h0 : n = 0
  · subst h0
    have e : zs = [] := List.length_eq_zero_iff.1 h1
    subst e
    exact bytes_nil a cap w
  · rcases h2 with h2 | ⟨b, off, ha, hlt, hc⟩
    · exact absurd h2 h0
    · subst ha
      exact bytes_row b off n cap zs w h1 hn (by omega) hlt hc h3
theorem ref_bytes_rd {w : World} {a : Option Addr} {n cap : Nat} {zs : List Int} (h : Rd w a n zs) (hn : n ≤ 4096) :
    Calls Try.prog 17 #[.slice a n cap] w fun e w' => e = .returned (.string (strOfNums (bytsAll zs))) ∧ Below w.heap.size w w' := by
  obtain ⟨h1, h2, h3⟩ := h
  by_cases h0 : n = 0
  · subst h0
    have e : zs = [] := List.length_eq_zero_iff.1 h1
    subst e
    exact ref_bytes_nil a cap w
  · rcases h2 with h2 | ⟨b, off, ha, hlt, hc⟩
    · exact absurd h2 h0
    · subst ha
      exact ref_bytes_row b off n cap zs w h1 hn (by omega) hlt hc h3
theorem same_rd {w : World} {a b : Option Addr} {n ca cb : Nat} {zs : List Int} (ha : Rd w a n zs) (hb : Rd w b n zs) (hn : n ≤ 4096) :
    Calls Try.prog 18 #[.slice a n ca, .slice b n cb] w fun e w' => e = .returned (.bool true) ∧ Below w.heap.size w w' := by
  by_cases h0 : n = 0
  · subst h0
    exact same_nil a b ca cb w
  · obtain ⟨h1, h2, h3⟩ := ha
    obtain ⟨g1, g2, g3⟩ := hb
    rcases h2 with h2 | ⟨b1, off1, e1, l1, c1⟩
    · exact absurd h2 h0
    · rcases g2 with g2 | ⟨b2, off2, e2, l2, c2⟩
      · exact absurd g2 h0
      · subst e1 e2
        exact same_row b1 off1 ca b2 off2 cb n zs w hn l1 l2 c1 c2
theorem rd_own {w : World} {B g n cap : Nat} {zs : List Int} (h : w.ownsRow B 22 1 (.slice (some ⟨g, 0, none⟩) n cap) n (zs.map (Value.int .u32))) (hl : zs.length = n) (hz : ∀ z ∈ zs, 0 ≤ z ∧ z < 4294967296) :
    Rd w (some ⟨g, 0, none⟩) n zs := by
  refine ⟨hl, Or.inr ⟨g, 0, rfl, (h.lt g rfl).2, ?_⟩, ?_⟩
  · intro j hj
    rw [Nat.zero_add, h.cellAt j (by omega)]
    simp [List.getElem?_map, List.getD, List.getElem?_eq_getElem (show j < zs.length by omega)]
  · intro j
    by_cases hj : j < zs.length
    · have := hz _ (List.getElem_mem hj)
      simpa [List.getD, hj] using this
    · simp [List.getD, List.getElem?_eq_none (by omega : zs.length ≤ j)]
theorem rd_row {w : World} {a : Option Addr} {len cap : Nat} {zs : List Int} (h : IsRow .u32 w a len cap zs) : Rd w a len (zs.take len) ∧ ∀ z ∈ zs.take len, 0 ≤ z ∧ z < 4294967296 := by
  have key : (∀ z ∈ zs, (Lit.int .u32 z).wf = true) → ∀ z ∈ zs.take len, 0 ≤ z ∧ z < 4294967296 := by
    intro hw z hz
    have := bounds_u32 (hw z (List.mem_of_mem_take hz))
    omega
  have key2 : (∀ z ∈ zs.take len, 0 ≤ z ∧ z < 4294967296) → ∀ j, 0 ≤ (zs.take len).getD j 0 ∧ (zs.take len).getD j 0 < 4294967296 := by
    intro hz j
    by_cases hj : j < (zs.take len).length
    · have h1 := hz _ (List.getElem_mem hj)
      have e : (zs.take len).getD j 0 = (zs.take len)[j] := by
        rw [List.getD, List.getElem?_eq_getElem hj]; rfl
      rw [e]; exact h1
    · have e : (zs.take len).getD j 0 = 0 := by
        rw [List.getD, List.getElem?_eq_none (by omega)]; rfl
      rw [e]; omega
  rcases h with ⟨rfl, rfl, rfl, rfl⟩ | ⟨x, rfl, hl, hm, hz, hc, hw⟩
  · exact ⟨⟨rfl, Or.inl rfl, key2 (by intro z hz; simp at hz)⟩, by intro z hz; simp at hz⟩
  · have k := key hw
    refine ⟨⟨by rw [List.length_take]; omega, ?_, key2 k⟩, k⟩
    by_cases h0 : len = 0
    · exact Or.inl h0
    · obtain ⟨b, off, rfl, hcc⟩ := ints_at hc (by omega)
      refine Or.inr ⟨b, off, rfl, ?_, ?_⟩
      · have h := hcc 0 (by omega)
        rcases Nat.lt_or_ge b w.heap.size with hb | hb
        · exact hb
        · simp [World.cell?, Array.getElem?_eq_none hb] at h
      · intro j hj
        rw [hcc j (by omega)]
        simp [List.getD, hj]

theorem wdsL_word : ∀ (m : Nat) (l : List Int), l.length = 4 * m → (∀ x ∈ l, 0 ≤ x ∧ x < 256) → ∀ z ∈ wdsL l, 0 ≤ z ∧ z < 4294967296
  | 0, l, h, _ => by
    have : l = [] := List.length_eq_zero_iff.1 (by omega)
    subst this; intro z hz; simp [wdsL] at hz
  | m + 1, a :: b :: c :: d :: r, h, hb => by
    have ih := wdsL_word m r (by simp at h; omega) (fun x hx => hb x (by simp [hx]))
    have h1 := hb a (by simp)
    have h2 := hb b (by simp)
    have h3 := hb c (by simp)
    have h4 := hb d (by simp)
    intro z hz
    simp only [wdsL, List.mem_cons] at hz
    rcases hz with rfl | hz
    · omega
    · exact ih z hz
  | m + 1, [], h, _ => by simp at h
  | m + 1, [_], h, _ => by simp at h; omega
  | m + 1, [_, _], h, _ => by simp at h; omega
  | m + 1, [_, _, _], h, _ => by simp at h; omega
theorem chain9 {w0 w1 w2 w3 w4 w5 w6 w7 w8 w9 : World} (h1 : Below w0.heap.size w0 w1) (h2 : Below w1.heap.size w1 w2) (h3 : Below w2.heap.size w2 w3) (h4 : Below w3.heap.size w3 w4) (h5 : Below w4.heap.size w4 w5)
    (h6 : Below w5.heap.size w5 w6) (h7 : Below w6.heap.size w6 w7) (h8 : Below w7.heap.size w7 w8) (h9 : Below w8.heap.size w8 w9) : Below w0.heap.size w0 w9 := by
  have k2 := h1.trans (h2.mono h1.size)
  have k3 := k2.trans (h3.mono k2.size)
  have k4 := k3.trans (h4.mono k3.size)
  have k5 := k4.trans (h5.mono k4.size)
  have k6 := k5.trans (h6.mono k5.size)
  have k7 := k6.trans (h7.mono k6.size)
  have k8 := k7.trans (h8.mono k7.size)
  exact k8.trans (h9.mono k8.size)

set_option maxHeartbeats 1000000 in
theorem walk (a0 : Option Addr) (len0 cap0 : Nat) (z0 : List Int) (a1 : ByteArray) (w : World) (w0 : IsRow .u32 w a0 len0 cap0 z0) (w1 : a1.size ≤ maxLen) :
    Calls Try.prog 5 #[.slice a0 len0 cap0, .string a1] w fun e w' => e = .returned (.bool true) ∧ Below w.heap.size w w' := by
  obtain ⟨hl, hlz⟩ := rd_row w0
  obtain ⟨zs, hzs⟩ : ∃ zs, z0.take len0 = zs := ⟨_, rfl⟩
  rw [hzs] at hl hlz
  clear hzs w0 w1
  by_cases h1 : 300 < len0
  · go_enter Try.func5, Try.ntmps5
    go_wp2_with fail
    refine (alive_any _).mono ?_
    rintro e w1 ⟨rfl, hb⟩
    go_wp2
    go_ret
    exact ⟨rfl, hb⟩
  by_cases h2 : 1000 < a1.size
  · go_enter Try.func5, Try.ntmps5
    go_wp2_with fail
    refine (alive_any _).mono ?_
    rintro e w1 ⟨rfl, hb⟩
    go_wp2
    go_ret
    exact ⟨rfl, hb⟩
  have n1 : len0 ≤ 300 := by omega
  have n2 : a1.size ≤ 1000 := by omega
  clear h1 h2
  have hlen : zs.length = len0 := hl.1
  obtain ⟨T, hT⟩ : ∃ T, strOfNums (bytsAll zs) = T := ⟨_, rfl⟩
  have hTs : T.size = 4 * len0 := by rw [← hT, strOfNums_size, length_bytsAll, hlen]
  have hTw : wdsL (nums T) = zs := by rw [← hT, nums_strOfNums _ (bytsAll_byte zs hlz), wdsL_bytsAll zs hlz]
  have C1 := Lib.hid (fun (w : World) (h : Rd w a0 len0 zs) => bytes_rd (cap := cap0) h (show len0 ≤ 4096 by omega))
  have C2 := Lib.hid (fun (w : World) (h : Rd w a0 len0 zs) => ref_bytes_rd (cap := cap0) h (show len0 ≤ 4096 by omega))
  have C3 := Lib.hid (fun (w : World) => words_any T len0 w (by omega) hTs)
  rw [hT] at C1 C2
  rw [hTw] at C3
  have HL := Lib.hid hl
  have HLZ := Lib.hid hlz
  have HLEN := Lib.hid hlen
  clear hlen hT hTs hTw hl hlz
  by_cases h4 : a1.size % 4 = 0
  · obtain ⟨m, hm⟩ : ∃ m, a1.size = 4 * m := ⟨a1.size / 4, by omega⟩
    have m1 : m ≤ 1024 := by omega
    have hln : (nums a1).length = 4 * m := by rw [length_nums]; exact hm
    have hlw := length_wdsL m (nums a1) hln
    have hback : strOfNums (bytsAll (wdsL (nums a1))) = a1 := by rw [bytsAll_wdsL m (nums a1) hln (nums_byte a1), strOfNums_nums]
    have C4 := Lib.hid (fun (w : World) => words_any a1 m w m1 hm)
    have C5 := Lib.hid (fun (w : World) => ref_words_any a1 m w m1 hm)
    have hwz : ∀ z ∈ wdsL (nums a1), 0 ≤ z ∧ z < 4294967296 := wdsL_word m (nums a1) hln (nums_byte a1)
    obtain ⟨vs, hvs⟩ : ∃ vs, wdsL (nums a1) = vs := ⟨_, rfl⟩
    rw [hvs] at C4 C5 hback hwz hlw
    have C6 := Lib.hid (fun (w : World) (a : Option Addr) (cap : Nat) (h : Rd w a m vs) => bytes_rd (cap := cap) h (show m ≤ 4096 by omega))
    rw [hback] at C6
    have HLW := Lib.hid hlw
    have HWZ := Lib.hid hwz
    clear hvs hback hlw hln hm h4 hwz
    go_enter Try.func5, Try.ntmps5
    go_wp2_with fail
    refine (alive_any _).mono ?_
    rintro e w1 ⟨rfl, hb1⟩
    have r1 := Lib.hid (HL.out.below hb1)
    go_wp2_with fail
    refine (C1.out _ r1.out).mono ?_
    rintro e w2 ⟨rfl, hb2⟩
    have r2 := Lib.hid (r1.out.below hb2)
    go_wp2_with fail
    refine (C3.out _).mono ?_
    rintro e w3 ⟨rfl, ho3, hb3⟩
    have r3 := Lib.hid (r2.out.below hb3)
    have q3 := Lib.hid (rd_own ho3 HLEN.out HLZ.out)
    clear ho3
    go_wp2_with fail
    refine (C2.out _ r3.out).mono ?_
    rintro e w4 ⟨rfl, hb4⟩
    have r4 := Lib.hid (r3.out.below hb4)
    have q4 := Lib.hid (q3.out.below hb4)
    go_wp2_with fail
    refine (same_rd q4.out r4.out (by omega)).mono ?_
    rintro e w5 ⟨rfl, hb5⟩
    go_wp2_with fail
    refine (C4.out _).mono ?_
    rintro e w6 ⟨rfl, ho6, hb6⟩
    have q6 := Lib.hid (rd_own ho6 HLW.out HWZ.out)
    clear ho6
    go_wp2_with fail
    refine (C5.out _).mono ?_
    rintro e w7 ⟨rfl, ho7, hb7⟩
    have p7 := Lib.hid (rd_own ho7 HLW.out HWZ.out)
    have q7 := Lib.hid (q6.out.below hb7)
    clear ho7
    go_wp2_with fail
    refine (same_rd q7.out p7.out (by omega)).mono ?_
    rintro e w8 ⟨rfl, hb8⟩
    have q8 := Lib.hid (q7.out.below hb8)
    go_wp2_with fail
    refine (C6.out _ _ _ q8.out).mono ?_
    rintro e w9 ⟨rfl, hb9⟩
    go_wp2
    go_ret
    exact ⟨rfl, chain9 hb1 hb2 hb3 hb4 hb5 hb6 hb7 hb8 hb9⟩
  · have C4 := Lib.hid (fun (w : World) => words_form a1 w (by omega) h4)
    have C5 := Lib.hid (fun (w : World) => ref_words_form a1 w (by omega) h4)
    clear h4
    go_enter Try.func5, Try.ntmps5
    go_wp2_with fail
    refine (alive_any _).mono ?_
    rintro e w1 ⟨rfl, hb1⟩
    have r1 := Lib.hid (HL.out.below hb1)
    go_wp2_with fail
    refine (C1.out _ r1.out).mono ?_
    rintro e w2 ⟨rfl, hb2⟩
    have r2 := Lib.hid (r1.out.below hb2)
    go_wp2_with fail
    refine (C3.out _).mono ?_
    rintro e w3 ⟨rfl, ho3, hb3⟩
    have r3 := Lib.hid (r2.out.below hb3)
    have q3 := Lib.hid (rd_own ho3 HLEN.out HLZ.out)
    clear ho3
    go_wp2_with fail
    refine (C2.out _ r3.out).mono ?_
    rintro e w4 ⟨rfl, hb4⟩
    have r4 := Lib.hid (r3.out.below hb4)
    have q4 := Lib.hid (q3.out.below hb4)
    go_wp2_with fail
    refine (same_rd q4.out r4.out (by omega)).mono ?_
    rintro e w5 ⟨rfl, hb5⟩
    go_wp2_with fail
    refine (C4.out _).mono ?_
    rintro e w6 ⟨rfl, hb6⟩
    go_wp2_with fail
    refine (C5.out _).mono ?_
    rintro e w7 ⟨rfl, hb7⟩
    go_wp2_with fail
    refine (same_nil _ _ _ _ _).mono ?_
    rintro e w8 ⟨rfl, hb8⟩
    go_wp2
    go_ret
    exact ⟨rfl, chain9 hb1 hb2 hb3 hb4 hb5 hb6 hb7 hb8 (Below.refl _ _)⟩
set_option maxRecDepth 100000 in
theorem lifted (os : Os) (started : os.Started) (H : Type) (enc : TypeId × Value → H) :
    ReturnsInHanded {} Try.checked os 5 .any (Rows.wordPacksSpec.pre6 enc Try.prog Try.f5 Rows.wordPacksRow.domain false) (Rows.wordPacksSpec.post enc Try.prog Try.f5 false true false false) := by
  refine returnsInHanded_of_change (C := Try.checked) own started (by kernel_rfl) Try.func5
    (ChangeSpec.witness6 (enc := enc) (C := Try.checked) false ⟨#[], #[.slice none 0 0, .string ByteArray.empty], []⟩ 8 (by kernel_rfl) (by kernel_rfl) (by kernel_rfl) (by kernel_rfl)) ?_
  intro W base args ds gs before hval0 hW hcnd _
  have hval : ∀ (j : Nat) t v, Try.f5.params[j]? = some t → args[j]? = some v → Value.okWide Try.prog W .any base t v := hval0
  have hW' := hW
  obtain ⟨p, q, hA0, hV, rfl, hfz, hnd⟩ := hW
  have hA : DataW.TrodAll enc Try.prog W 0 (fun _ => true) true Try.f5.params.toList args.toList ds p := hA0
  rw [Try.params5] at hA hval
  obtain ⟨v0, vs0, d0, ds0, p0, q0, hargs, rfl, rfl, h0, r0⟩ := trodAll_cons hA
  obtain ⟨v1, vs1, d1, ds1, p1, q1, rfl, rfl, rfl, h1, r1⟩ := trodAll_cons r0
  obtain ⟨rfl, rfl, rfl⟩ := trodAll_nil r1
  obtain rfl : args = #[v0, v1] := by cases args; simp_all
  obtain ⟨rfl, rfl⟩ := trodVars_none hV
  obtain ⟨a0, len0, cap0, rfl⟩ := okWide_slice Try.underlying30 (hval 0 30 v0 rfl rfl)
  have k0 := h0
  have lt0 : ∀ x ∈ p0, x.block < W.heap.size := by obtain ⟨m, hm⟩ := k0; exact DataW.trod_lt m _ _ _ hm
  obtain ⟨z0, w0⟩ : ∃ zs, IsRow .u32 W a0 len0 cap0 zs := by
    obtain ⟨fuel, hf⟩ := h0
    rcases open_ints Try.underlying30 Try.underlying22 (by kernel_rfl) hf with ⟨hcs, _⟩ | ⟨x, l, c, zs, hcs, _, hl, hm, hz, _, hcell, hwz⟩
    · simp [Value.cells] at hcs
      obtain ⟨rfl, rfl, rfl⟩ := hcs
      exact ⟨[], .inl ⟨rfl, rfl, rfl, rfl⟩⟩
    · simp [Value.cells] at hcs
      obtain ⟨rfl, rfl, rfl⟩ := hcs
      exact ⟨zs, .inr ⟨_, rfl, hl, hm, by simpa using hz, hcell, hwz⟩⟩
  obtain ⟨a1, rfl, rfl, rfl, w1⟩ := open_string Try.underlying9 (hval 1 9 v1 rfl rfl) h1
  clear hA0 hval0
  refine (walk a0 len0 cap0 z0 a1 W w0 w1).mono fun e W' ⟨he, bel⟩ => ?_
  subst he
  exact ⟨_, rfl, _, _, _, [], _, [], hW', trodAll_mk1 (shut_bool Try.underlying4 _), (trodAll_cons_mk (Below.trod laidOut (by kernel_rfl) (of_decide_eq_true (by kernel_rfl)) k0 bel lt0) (trodAll_cons_mk (shut_string Try.underlying9 w1) trodAll_mk0)), rfl, bel.frame _, fun h => by cases h⟩

theorem over : Rows.wordPacksRow.holds Try.pinned (OpenSpec.ofChange Rows.wordPacksSpec) :=
  OpenClaim.holds_of_wide 5 Try.f5 rfl rfl rfl rfl rfl rfl rfl ⟨rfl, rfl, rfl, rfl, rfl⟩ rfl rfl rfl rfl rfl (by kernel_rfl) Try.func5 (by kernel_rfl)
    (of_decide_eq_true (by kernel_rfl)) (by unfold Func.isWrapper; first | (rw [if_pos (by decide +kernel)]; kernel_rfl) | (rw [if_neg (by decide +kernel)]; exact ⟨rfl, rfl⟩))
    (fun os started H enc _ => lifted os started H enc)

/-- The statement. -/
theorem proved : Rows.WordPacksSaid := over
end Go.Proofs.Ytpdgmlndkhjlgaa.wordPacks
