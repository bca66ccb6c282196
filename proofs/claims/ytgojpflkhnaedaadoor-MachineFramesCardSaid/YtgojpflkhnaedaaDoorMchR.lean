/- The machine as plain functions: what a step changes. -/
import Derived.Test.YtgojpflkhnaedaaDoorG9c
set_option linter.unusedVariables false
namespace Go.Proofs.YtgojpflkhnaedaaDoor
open Go

/-- How a state may be behind a step: nothing of its registers, memory, input and output is changed, or just one thing. -/
def Stp (inp : ByteArray) (x y : Mst) : Prop := ∃ pc st en, (st = x.st ∨ st = x.st + 1) ∧
  (y = ⟨pc, x.g, x.mem, x.rd, x.out, st, en⟩
  ∨ (∃ a v, a < 16 ∧ (0 ≤ v ∧ v < 4294967296) ∧ y = ⟨pc, gset x.g a v, x.mem, x.rd, x.out, st, en⟩)
  ∨ (∃ a v, a < 16 ∧ (0 ≤ v ∧ v < 4294967296) ∧ (0 ≤ x.rd ∧ x.rd < (inp.size : Int)) ∧ y = ⟨pc, gset x.g a v, x.mem, x.rd + 1, x.out, st, en⟩)
  ∨ (∃ j v, (0 ≤ v ∧ v < 4294967296) ∧ y = ⟨pc, x.g, x.mem.set j v, x.rd, x.out, st, en⟩)
  ∨ (∃ b, x.out.size < 65536 ∧ y = ⟨pc, x.g, x.mem, x.rd, x.out ++ ⟨#[b]⟩, st, en⟩))
theorem ap_range (op : Int) {a b : Int} (ha : 0 ≤ a ∧ a < 4294967296) (hb : 0 ≤ b ∧ b < 4294967296) : 0 ≤ ap op a b ∧ ap op a b < 4294967296 :=
  ⟨ap_nonneg op a b ha.1 hb.1, ap_lt op a b ha.1 ha.2 hb.1 hb.2⟩
theorem Stp.ite {inp : ByteArray} {x a b : Mst} {c : Prop} [Decidable c] (ha : c → Stp inp x a) (hb : Stp inp x b) : Stp inp x (if c then a else b) := by
  by_cases h : c
  · rw [if_pos h]; exact ha h
  · rw [if_neg h]; exact hb
def Bd (l : List Int) : Prop := ∀ j, 0 ≤ l.getD j 0 ∧ l.getD j 0 < 4294967296
theorem wof_range {l : List Int} (h : Bd l) (b c : Int) : 0 ≤ wof l b c ∧ wof l b c < 4294967296 := by
  unfold wof
  split
  · exact h _
  · omega
theorem xop_stp {code : List Int} {inp : ByteArray} {pc : Int} {g : Nat → Int} {mem : List Int} {rd st0 : Int} {out : ByteArray} (hg : Wg g) (hm : Bd mem) (hc : Bd code) {op c : Int} {a b : Nat} (ha : a < 16) (hcc : 0 ≤ c ∧ c ≤ 65535) :
    Stp inp ⟨pc, g, mem, rd, out, st0, 0⟩ (xop code inp ⟨pc, g, mem, rd, out, st0 + 1, 0⟩ op a b c) := by
  have ga := hg a
  have K : ∀ p e, Stp inp ⟨pc, g, mem, rd, out, st0, 0⟩ ⟨p, g, mem, rd, out, st0 + 1, e⟩ := fun p e => ⟨p, st0 + 1, e, .inr rfl, .inl rfl⟩
  have G : ∀ p v, 0 ≤ v ∧ v < 4294967296 → Stp inp ⟨pc, g, mem, rd, out, st0, 0⟩ ⟨p, gset g a v, mem, rd, out, st0 + 1, 0⟩ := fun p v hv => ⟨p, st0 + 1, 0, .inr rfl, .inr (.inl ⟨a, v, ha, hv, rfl⟩)⟩
  have X : ∀ e, Stp inp ⟨pc, g, mem, rd, out, st0, 0⟩ (Mst.ended ⟨pc, g, mem, rd, out, st0 + 1, 0⟩ e) := fun e => K pc e
  have J : ∀ t, Stp inp ⟨pc, g, mem, rd, out, st0, 0⟩ (Mst.jump ⟨pc, g, mem, rd, out, st0 + 1, 0⟩ t) := fun t => K t 0
  have R : ∀ v, 0 ≤ v ∧ v < 4294967296 → Stp inp ⟨pc, g, mem, rd, out, st0, 0⟩ (Mst.setr ⟨pc, g, mem, rd, out, st0 + 1, 0⟩ a v) := fun v hv => G (pc + 1) v hv
  unfold xop
  refine Stp.ite (fun _ => Stp.ite (fun _ => R _ (ap_range _ (hg b) (hg c.toNat))) (X 2)) ?_
  refine Stp.ite (fun _ => R c (by omega)) ?_
  refine Stp.ite (fun _ => R _ ?_) ?_
  · show 0 ≤ g a % 65536 + c * 65536 ∧ g a % 65536 + c * 65536 < 4294967296
    omega
  refine Stp.ite (fun _ => R _ (hg b)) ?_
  refine Stp.ite (fun _ => Stp.ite (fun _ => R _ (wof_range hm _ _)) (X 8)) ?_
  refine Stp.ite (fun _ => Stp.ite (fun _ => ⟨pc + 1, st0 + 1, 0, .inr rfl, .inr (.inr (.inr (.inl ⟨_, g a, ga, rfl⟩)))⟩) (X 8)) ?_
  refine Stp.ite (fun _ => J c) ?_
  refine Stp.ite (fun _ => J _) ?_
  refine Stp.ite (fun _ => J _) ?_
  refine Stp.ite (fun _ => G c ((pc + 1) % 4294967296) (by omega)) ?_
  refine Stp.ite (fun _ => J _) ?_
  refine Stp.ite (fun _ => Stp.ite (fun hr => ⟨pc + 1, st0 + 1, 0, .inr rfl, .inr (.inr (.inl ⟨a, _, ha, ?_, hr, rfl⟩))⟩) (R 256 (by omega))) ?_
  · show 0 ≤ (inp.data.toList.map fun u => (u.toNat : Int)).getD rd.toNat 0 ∧ (inp.data.toList.map fun u => (u.toNat : Int)).getD rd.toNat 0 < 4294967296
    rw [List.getD_eq_getElem?_getD, List.getElem?_map]
    cases inp.data.toList[rd.toNat]? with
    | none => simp
    | some u =>
      have := u.toNat_lt
      simp
      omega
  refine Stp.ite (fun _ => Stp.ite (fun ho => ⟨pc + 1, st0 + 1, 0, .inr rfl, .inr (.inr (.inr (.inr ⟨_, ho, rfl⟩)))⟩) (X 4)) ?_
  refine Stp.ite (fun _ => Stp.ite (fun _ => J _) (X 3)) ?_
  refine Stp.ite (fun _ => Stp.ite (fun _ => R _ (wof_range hc _ _)) (X 8)) ?_
  exact X 1
theorem nxt_stp {code : List Int} {inp : ByteArray} {x : Mst} (hg : Wg x.g) (hm : Bd x.mem) (hc : Bd code) : Stp inp x (nxt code inp x) := by
  obtain ⟨pc, g, mem, rd, out, st, en⟩ := x
  unfold nxt
  split
  · exact ⟨pc, st, en, .inl rfl, .inl rfl⟩
  · rename_i he
    obtain rfl : en = 0 := Decidable.byContradiction he
    split
    · exact ⟨pc, st, 7, .inl rfl, .inl rfl⟩
    · dsimp only
      split
      · rename_i hr
        have hb := rgt_bounds hr
        exact xop_stp hg hm hc (by omega) hb.2.2.2
      · exact ⟨pc, st + 1, 6, .inr rfl, .inl rfl⟩
theorem xop_code {code code2 : List Int} {inp : ByteArray} {x : Mst} {op c : Int} {a b : Nat} (h : ¬ op = 27) : xop code inp x op a b c = xop code2 inp x op a b c := by
  unfold xop
  rw [if_neg h, if_neg h]
/-- What a step does hangs on the word at its place, but of ldc. -/
theorem nxt_hang {code code2 : List Int} {inp : ByteArray} {x : Mst} {p : Nat} (hx : x.pc = (p : Int)) (h1 : p < code.length) (h2 : p < code2.length) (he : code.getD p 0 = code2.getD p 0)
    (hn : ¬ (rgt (code.getD p 0 / 16777216) (code.getD p 0 / 1048576 % 16) (code.getD p 0 / 65536 % 16) (code.getD p 0 % 65536) = true ∧ code.getD p 0 / 16777216 = 27)) : nxt code2 inp x = nxt code inp x := by
  obtain ⟨pc, g, mem, rd, out, st, en⟩ := x
  obtain rfl : pc = (p : Int) := hx
  unfold nxt
  by_cases h0 : en ≠ 0
  · rw [if_pos h0, if_pos h0]
  · have c1 : ¬ ((p : Int) < 0 ∨ (code.length : Int) ≤ (p : Int)) := by omega
    have c2 : ¬ ((p : Int) < 0 ∨ (code2.length : Int) ≤ (p : Int)) := by omega
    rw [if_neg h0, if_neg h0, if_neg c1, if_neg c2]
    simp only [Int.toNat_natCast, ← he]
    cases hr : rgt (code.getD p 0 / 16777216) (code.getD p 0 / 1048576 % 16) (code.getD p 0 / 65536 % 16) (code.getD p 0 % 65536) with
    | false => rfl
    | true =>
      rw [if_pos rfl, if_pos rfl]
      exact xop_code (fun h => hn ⟨hr, h⟩)
theorem Stp.wg {inp : ByteArray} {x y : Mst} (h : Stp inp x y) (hg : Wg x.g) : Wg y.g := by
  obtain ⟨pc, st, en, _, rfl | ⟨a, v, _, hv, rfl⟩ | ⟨a, v, _, hv, _, rfl⟩ | ⟨j, v, _, rfl⟩ | ⟨b, _, rfl⟩⟩ := h
  · exact hg
  · exact hg.set a hv
  · exact hg.set a hv
  · exact hg
  · exact hg
theorem Stp.st {inp : ByteArray} {x y : Mst} (h : Stp inp x y) : x.st ≤ y.st ∧ y.st ≤ x.st + 1 := by
  obtain ⟨pc, st, en, hs, rfl | ⟨a, v, _, hv, rfl⟩ | ⟨a, v, _, hv, _, rfl⟩ | ⟨j, v, _, rfl⟩ | ⟨b, _, rfl⟩⟩ := h <;> dsimp only <;> omega
theorem Stp.mem {inp : ByteArray} {x y : Mst} (h : Stp inp x y) : y.mem.length = x.mem.length := by
  obtain ⟨pc, st, en, hs, rfl | ⟨a, v, _, hv, rfl⟩ | ⟨a, v, _, hv, _, rfl⟩ | ⟨j, v, _, rfl⟩ | ⟨b, _, rfl⟩⟩ := h <;> simp
end Go.Proofs.YtgojpflkhnaedaaDoor
