/- The reference of layer 9: Start. -/
import Derived.Test.YtgojpflkhnaedaaDoorG9d
import Derived.Test.YtgojpflkhnaedaaDoorMchO
import Derived.Deep.OwnRows
set_option linter.unusedVariables false
namespace Go.Proofs.YtgojpflkhnaedaaDoor
open Go.RowKit

/-- The memory at the beginning. -/
def zer (d : Int) : List Int := if 0 < d ∧ d ≤ 32768 then List.replicate d.toNat 0 else []
def mst0 (d : Int) : Mst := ⟨0, fun _ => 0, zer d, 0, ⟨#[]⟩, 0, 0⟩
theorem made_get (n j : Nat) (hj : j < n) : (madeCells #[Value.int .u32 0] n)[j]? = some (.int .u32 0) := by
  unfold madeCells
  simp [hj, Nat.mod_one]
theorem rd_made {W : World} {q n : Nat} {t : TypeId} (h : W.heap[q]? = some (.cells (madeCells #[Value.int .u32 0] n) t (0, 0))) : Rd W (some ⟨q, 0, none⟩) n (List.replicate n 0) := by
  refine ⟨List.length_replicate, .inr ⟨q, 0, rfl, (Array.getElem?_eq_some_iff.1 h).1, fun j hj => ?_⟩, fun j => ?_⟩
  · rw [Nat.zero_add, row_cell h j (made_get n j hj)]
    simp [List.getD, hj]
  · rw [List.getD_eq_getElem?_getD, List.getElem?_replicate]
    split <;> simp
set_option maxRecDepth 100000 in
set_option maxHeartbeats 2000000 in
theorem start9_ref {B : Option Addr} {m k : Nat} {d : Int} (w : World) :
    Calls Tryd.prog 13 #[.agg #[.slice B m k, .int .i64 d]] w fun e w' => ∃ A n c, e = .returned (.agg (stc 0 (fun _ => 0) (.slice A n c) 0 ⟨#[]⟩ 0 0)) ∧ Rd w' A n (zer d) ∧ n ≤ c ∧ c ≤ maxLen ∧ Frs w none A ∧ Below w.heap.size w w' := by
  have hk : Kx none w (((w.alloc (.cells #[.slice B m k, .int .i64 d] 24 (0, 0))).alloc (.cells #[.int .i64 0, .int .u32 0, .int .u32 0, .int .u32 0, .int .u32 0, .int .u32 0, .int .u32 0, .int .u32 0, .int .u32 0, .int .u32 0, .int .u32 0, .int .u32 0, .int .u32 0, .int .u32 0, .int .u32 0, .int .u32 0, .int .u32 0, .slice none 0 0, .int .i64 0, .string ⟨#[]⟩, .int .i64 0, .int .i64 0] 30 (0, 0))).alloc (.cells #[.int .i64 0, .int .u32 0, .int .u32 0, .int .u32 0, .int .u32 0, .int .u32 0, .int .u32 0, .int .u32 0, .int .u32 0, .int .u32 0, .int .u32 0, .int .u32 0, .int .u32 0, .int .u32 0, .int .u32 0, .int .u32 0, .int .u32 0, .slice none 0 0, .int .i64 0, .string ⟨#[]⟩, .int .i64 0, .int .i64 0] 30 (0, 0))) [(w.heap.size, .cells #[.slice B m k, .int .i64 d] 24 (0, 0)), (w.heap.size + 1, .cells (stc 0 (fun _ => 0) (.slice none 0 0) 0 ⟨#[]⟩ 0 0) 30 (0, 0)), (w.heap.size + 1 + 1, .cells (stc 0 (fun _ => 0) (.slice none 0 0) 0 ⟨#[]⟩ 0 0) 30 (0, 0))] :=
    (((Kx.nil none w).more (.cells #[.slice B m k, .int .i64 d] 24 (0, 0))).add (w.heap.size + 1) (by simp) _).add (w.heap.size + 1 + 1) (by simp) _
  obtain ⟨W0, hW0⟩ : ∃ W, ((w.alloc (.cells #[.slice B m k, .int .i64 d] 24 (0, 0))).alloc (.cells #[.int .i64 0, .int .u32 0, .int .u32 0, .int .u32 0, .int .u32 0, .int .u32 0, .int .u32 0, .int .u32 0, .int .u32 0, .int .u32 0, .int .u32 0, .int .u32 0, .int .u32 0, .int .u32 0, .int .u32 0, .int .u32 0, .int .u32 0, .slice none 0 0, .int .i64 0, .string ⟨#[]⟩, .int .i64 0, .int .i64 0] 30 (0, 0))).alloc (.cells #[.int .i64 0, .int .u32 0, .int .u32 0, .int .u32 0, .int .u32 0, .int .u32 0, .int .u32 0, .int .u32 0, .int .u32 0, .int .u32 0, .int .u32 0, .int .u32 0, .int .u32 0, .int .u32 0, .int .u32 0, .int .u32 0, .int .u32 0, .slice none 0 0, .int .i64 0, .string ⟨#[]⟩, .int .i64 0, .int .i64 0] 30 (0, 0)) = W := ⟨_, rfl⟩
  rw [hW0] at hk
  have cd := row_cell (hk.at 0 rfl) 1 (v := .int .i64 d) rfl
  by_cases h1 : 0 < d
  · by_cases h2 : d ≤ 32768
    · obtain ⟨n, rfl⟩ : ∃ n : Nat, d = (n : Int) := ⟨d.toNat, by omega⟩
      rw [show zer (n : Int) = List.replicate n 0 from by unfold zer; rw [if_pos ⟨h1, h2⟩, Int.toNat_natCast]]
      have i1 : 0 < n := by omega
      have i2 : (n : Int) ≤ 32768 := h2
      obtain ⟨q, hq⟩ : ∃ q, W0.heap.size = q := ⟨_, rfl⟩
      have hqw : w.heap.size ≤ q := by rw [← hq]; exact hk.be.size
      have ka := hk.add q hq (.cells (madeCells #[Value.int .u32 0] n) 27 (0, 0))
      obtain ⟨W1, hW1⟩ : ∃ W, W0.alloc (.cells (madeCells #[Value.int .u32 0] n) 27 (0, 0)) = W := ⟨_, rfl⟩
      rw [hW1] at ka
      have k1 := ka.putc 2 rfl (.inr (by omega)) 17 (.slice (some ⟨q, 0, none⟩) n n) (set_mem _ _ _ _ _ _ _ (.slice (some ⟨q, 0, none⟩) n n))
      have c1 := row_cell (ka.at 2 rfl) 17 (stc_mem _ _ _ _ _ _ _)
      have f1 := row_froz (ka.at 2 rfl) 17
      have hz := k1.putRow 1 rfl (.inr (by omega)) (stc 0 (fun _ => 0) (.slice (some ⟨q, 0, none⟩) n n) 0 ⟨#[]⟩ 0 0)
      have g0 := Lib.hid (k1.at 2 rfl)
      have g1 := Lib.hid (k1.at 1 rfl)
      have g2 := Lib.hid (hz.at 1 rfl)
      have HR := Lib.hid (rd_made (hz.at 3 rfl))
      have HB := Lib.hid hz.be.plain
      have S1 : Hid ((stc 0 (fun _ => 0) (.slice (some ⟨q, 0, none⟩) n n) 0 ⟨#[]⟩ 0 0).all (·.oneCell') = true) := Lib.hid (stc_one _ _ _ _ _ _ _ _ _)
      obtain ⟨z0, hz', hz0, hz1, hz2⟩ := info_parts infoU32
      have hzn : n ≤ 32768 := by omega
      clear hk ka k1 hz h1 h2
      go_enter Tryd.func13, Tryd.ntmps13
      go_upto_region 2 with fail
      go_upto_region 4 with (at_make; refine wpList_make_row _ rfl _ _ 22 rfl 27 z0 (.int .u32 0) Tryd.underlying22 hz' hz0 hz1 rfl .i64 .i64 n rfl rfl (by rw [hz2]; omega) (by omega) ?_)
      go_wp2_with (first
        | (refine wpList_load_row rfl 30 _ rfl _ rfl 30 _ _ _ g0.out Tryd.underlying30 rfl (infoS2 rfl) ?_)
        | (refine wpList_store_rowTo rfl 30 _ _ rfl rfl _ _ rfl rfl 30 _ g1.out (infoS2 rfl) rfl S1.out ?_)
        | fail)
      exact bodyPost_ret (results_cell_row rfl _ _ _ 30 (stc 0 (fun _ => 0) (.slice (some ⟨q, 0, none⟩) n n) 0 ⟨#[]⟩ 0 0) _ _ rfl g2.out Tryd.underlying30 rfl (infoS2 rfl)) rfl ⟨_, n, n, rfl, HR.out, Nat.le_refl _, by unfold maxLen; omega, frs_new hqw, HB.out⟩
    · rw [show zer d = [] from by unfold zer; rw [if_neg (fun h => h2 h.2)]]
      have i1 : decide ((0 : Int) < d) = true := decide_eq_true h1
      have i2 : decide (d ≤ 32768) = false := decide_eq_false h2
      have hz := hk.putRow 1 rfl (.inr (by omega)) (stc 0 (fun _ => 0) (.slice none 0 0) 0 ⟨#[]⟩ 0 0)
      have g0 := Lib.hid (hk.at 2 rfl)
      have g1 := Lib.hid (hk.at 1 rfl)
      have g2 := Lib.hid (hz.at 1 rfl)
      have HB := Lib.hid hz.be.plain
      have S1 : Hid ((stc 0 (fun _ => 0) (.slice none 0 0) 0 ⟨#[]⟩ 0 0).all (·.oneCell') = true) := Lib.hid (stc_one _ _ _ _ _ _ _ _ _)
      clear hk hz h1 h2
      go_enter Tryd.func13, Tryd.ntmps13
      go_upto_region 2 with fail
      go_upto_region 4 with fail
      go_wp2_with (first
        | (refine wpList_load_row rfl 30 _ rfl _ rfl 30 _ _ _ g0.out Tryd.underlying30 rfl (infoS2 rfl) ?_)
        | (refine wpList_store_rowTo rfl 30 _ _ rfl rfl _ _ rfl rfl 30 _ g1.out (infoS2 rfl) rfl S1.out ?_)
        | fail)
      exact bodyPost_ret (results_cell_row rfl _ _ _ 30 (stc 0 (fun _ => 0) (.slice none 0 0) 0 ⟨#[]⟩ 0 0) _ _ rfl g2.out Tryd.underlying30 rfl (infoS2 rfl)) rfl ⟨_, 0, 0, rfl, ⟨rfl, .inl rfl, fun j => by simp⟩, Nat.le_refl _, by unfold maxLen; omega, frs_none w none, HB.out⟩
  · rw [show zer d = [] from by unfold zer; rw [if_neg (fun h => h1 h.1)]]
    have i1 : decide ((0 : Int) < d) = false := decide_eq_false h1
    have hz := hk.putRow 1 rfl (.inr (by omega)) (stc 0 (fun _ => 0) (.slice none 0 0) 0 ⟨#[]⟩ 0 0)
    have g0 := Lib.hid (hk.at 2 rfl)
    have g1 := Lib.hid (hk.at 1 rfl)
    have g2 := Lib.hid (hz.at 1 rfl)
    have HB := Lib.hid hz.be.plain
    have S1 : Hid ((stc 0 (fun _ => 0) (.slice none 0 0) 0 ⟨#[]⟩ 0 0).all (·.oneCell') = true) := Lib.hid (stc_one _ _ _ _ _ _ _ _ _)
    clear hk hz h1
    go_enter Tryd.func13, Tryd.ntmps13
    go_upto_region 2 with fail
    go_upto_region 4 with fail
    go_wp2_with (first
      | (refine wpList_load_row rfl 30 _ rfl _ rfl 30 _ _ _ g0.out Tryd.underlying30 rfl (infoS2 rfl) ?_)
      | (refine wpList_store_rowTo rfl 30 _ _ rfl rfl _ _ rfl rfl 30 _ g1.out (infoS2 rfl) rfl S1.out ?_)
      | fail)
    exact bodyPost_ret (results_cell_row rfl _ _ _ 30 (stc 0 (fun _ => 0) (.slice none 0 0) 0 ⟨#[]⟩ 0 0) _ _ rfl g2.out Tryd.underlying30 rfl (infoS2 rfl)) rfl ⟨_, 0, 0, rfl, ⟨rfl, .inl rfl, fun j => by simp⟩, Nat.le_refl _, by unfold maxLen; omega, frs_none w none, HB.out⟩
end Go.Proofs.YtgojpflkhnaedaaDoor
