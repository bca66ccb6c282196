/- Layer 7's own code: a part of a text, and Text. -/
import Derived.Test.YtihgkmjlefaaoaaDoorInsH
import Derived.Test.YtihgkmjlefaaoaaDoorDec
import Derived.Test.YtihgkmjlefaaoaaDoorJoin
import Derived.Test.YtihgkmjlefaaoaaDoorText
import Derived.OwnWalk
import Derived.Laws.AppendOwn
set_option linter.unusedVariables false
namespace Go.Proofs.YtihgkmjlefaaoaaDoor
open Go.RowKit

theorem info9 : (Tryd.prog.info? 9).map (fun i => (i.zero, i.size, i.bytes)) = some (some (.string ⟨#[]⟩), 1, 16) := by kernel_rfl
theorem own_bel {w w' : World} {B K : Nat} {e : TypeId} {size n : Nat} {v : Value} {xs : List Value} (h : w.ownsRow B e size v n xs) (hb : Below K w w') (hk : w.heap.size ≤ K) : w'.ownsRow B e size v n xs := by
  have hl := h.lt
  obtain ⟨h1, h2⟩ := h
  refine ⟨h1, ?_⟩
  rcases h2 with h2 | ⟨g, cap, cur, hv, hg, hh, r⟩
  · exact Or.inl h2
  · subst hv
    exact Or.inr ⟨g, cap, cur, rfl, hg, by rw [hb.block g (Nat.lt_of_lt_of_le (hl g rfl).2 hk)]; exact hh, r⟩
theorem strs_oneCell (zs : List ByteArray) : ∀ u ∈ zs.map Value.string, u.oneCell' = true := by
  intro u hu
  obtain ⟨_, _, rfl⟩ := List.mem_map.1 hu
  rfl
/-- What a field adds to the parts. -/
def pps (g x : Int) : List ByteArray := if g = 15 then [⟨(114 :: Lib.decDigits x.toNat).toArray⟩] else if g = 65535 then [⟨(Lib.decDigits x.toNat).toArray⟩] else []
theorem r_str (l : List UInt8) : (⟨#[114]⟩ : ByteArray) ++ ⟨l.toArray⟩ = ⟨(114 :: l).toArray⟩ := by
  apply ByteArray.ext
  simp
set_option maxRecDepth 100000 in
set_option maxHeartbeats 1000000 in
theorem app_code (B : Nat) (v : Value) (xs : List ByteArray) (x g : Int) (w : World) (x0 : 0 ≤ x) (x1 : x < 65536) (hl : xs.length ≤ 2)
    (hown : w.ownsRow B 9 1 v xs.length (xs.map Value.string)) (hB : B ≤ w.heap.size) (ht : Tabs w) :
    Calls Tryd.prog 27 #[v, .int .i64 x, .int .i64 g] w fun e w' => ∃ v', e = .returned v' ∧ w'.ownsRow B 9 1 v' (xs ++ pps g x).length ((xs ++ pps g x).map Value.string) ∧ Below B w w' := by
  obtain ⟨i0, hi, hz0, hz1, hz2⟩ := info_parts info9
  obtain ⟨n, rfl⟩ : ∃ n : Nat, x = (n : Int) := ⟨x.toNat, by omega⟩
  have c1 := text_any n (by omega) w ht.pow
  obtain ⟨D, hD⟩ : ∃ D, Lib.decDigits n = D := ⟨_, rfl⟩
  rw [hD] at c1
  have C1 := Lib.hid c1
  have hs : (⟨D.toArray⟩ : ByteArray).size ≤ 10 := by
    have := length_dec 9 n (by omega)
    rw [hD] at this
    simpa [ByteArray.size] using this
  obtain ⟨S, hS⟩ : ∃ S : ByteArray, ⟨D.toArray⟩ = S := ⟨_, rfl⟩
  have e1 := r_str D
  rw [hS] at C1 hs e1
  unfold pps
  rw [Int.toNat_natCast, hD, hS]
  obtain ⟨R, hR⟩ : ∃ R : ByteArray, ⟨(114 :: D).toArray⟩ = R := ⟨_, rfl⟩
  rw [hR] at e1 ⊢
  clear c1 hD ht
  by_cases g1 : g = 15
  · subst g1
    rw [if_pos rfl]
    go_enter Tryd.func27, Tryd.ntmps27
    go_wp2_with fail
    refine C1.out.mono ?_
    rintro e w1 ⟨rfl, hb1⟩
    have hown1 := own_bel hown hb1 (Nat.le_refl _)
    have hB1 := Nat.le_trans hB hb1.size
    have Hb := Lib.hid (hb1.mono hB)
    clear hown hb1
    go_wp2_with (at_builtin; refine wpList_append_own _ rfl _ _ 48 rfl B 9 i0 (.string ⟨#[]⟩) 1 16 Tryd.underlying48 hi hz0 hz1 hz2 rfl (by decide) _ _ _ rfl (hown1.alloc _) ⟨w1.heap.size, 0, none⟩ 1 1 [_] rfl rfl (one_new _ _ _) (strs_oneCell [_]) ?c3 ?c4 ?c5 ?_)
    case c3 => unfold maxLen; omega
    case c4 => omega
    case c5 => simp; omega
    intro v' w2 hown2 hgrow _
    have hbel := (Hb.out.alloc hB1 _).grown hgrow (by simp; omega) (fun k hk => (hown1.lt k hk).1)
    clear hown1 hgrow
    go_wp2_with fail
    go_ret
    refine ⟨v', rfl, ?_, hbel⟩
    rw [List.length_append, List.map_append]
    exact hown2
  · rw [if_neg g1]
    by_cases g2 : g = 65535
    · subst g2
      rw [if_pos rfl]
      go_enter Tryd.func27, Tryd.ntmps27
      go_wp2_with fail
      refine C1.out.mono ?_
      rintro e w1 ⟨rfl, hb1⟩
      have hown1 := own_bel hown hb1 (Nat.le_refl _)
      have hB1 := Nat.le_trans hB hb1.size
      have Hb := Lib.hid (hb1.mono hB)
      clear hown hb1
      go_wp2_with (at_builtin; refine wpList_append_own _ rfl _ _ 48 rfl B 9 i0 (.string ⟨#[]⟩) 1 16 Tryd.underlying48 hi hz0 hz1 hz2 rfl (by decide) _ _ _ rfl (hown1.alloc _) ⟨w1.heap.size, 0, none⟩ 1 1 [_] rfl rfl (one_new _ _ _) (strs_oneCell [_]) ?c3 ?c4 ?c5 ?_)
      case c3 => unfold maxLen; omega
      case c4 => omega
      case c5 => simp; omega
      intro v' w2 hown2 hgrow _
      have hbel := (Hb.out.alloc hB1 _).grown hgrow (by simp; omega) (fun k hk => (hown1.lt k hk).1)
      clear hown1 hgrow
      go_wp2_with fail
      go_ret
      refine ⟨v', rfl, ?_, hbel⟩
      rw [List.length_append, List.map_append]
      exact hown2
    · rw [if_neg g2, List.append_nil]
      have d1 : (g == 15) = false := beq_eq_false_iff_ne.2 g1
      have d2 : (g == 65535) = false := beq_eq_false_iff_ne.2 g2
      go_enter Tryd.func27, Tryd.ntmps27
      go_wp2_with fail
      refine C1.out.mono ?_
      rintro e w1 ⟨rfl, hb1⟩
      have hown1 := own_bel hown hb1 (Nat.le_refl _)
      have Hb := Lib.hid (hb1.mono hB)
      clear hown hb1
      go_wp2_with fail
      go_ret
      exact ⟨v, rfl, hown1, Hb.out⟩
end Go.Proofs.YtihgkmjlefaaoaaDoor
