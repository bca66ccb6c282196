/- The reference of layer 2: the contracts of its decimal and its Dump. -/
import Derived.Test.YtlbaejebgldlkaaDoorHexD
import Derived.Lib.ConvBytes
set_option linter.unusedVariables false
namespace Go.Proofs.YtlbaejebgldlkaaDoor
open Go.RowKit

theorem own_shape {w : World} {B e n : Nat} {v : Value} {xs : List Value} (h : w.ownsRow B e 1 v n xs) (hn : 0 < n) :
    ∃ g cap, v = .slice (some ⟨g, 0, none⟩) n cap ∧ B ≤ g ∧ g < w.heap.size := by
  have h2 := h
  obtain ⟨_, h | ⟨g, cap, cur, hv, hg, hb, _⟩⟩ := h
  · omega
  · refine ⟨g, cap, hv, hg, ?_⟩
    have := h2.lt g (by rw [hv]; rfl)
    exact this.2
theorem own_new (w : World) (B : Nat) (a : Value) (hB : B ≤ w.heap.size) : (w.alloc (.cells #[a] 5)).ownsRow B 5 1 (.slice (some ⟨w.heap.size, 0, none⟩) 1 1) 1 [a] :=
  ⟨by simp, .inr ⟨w.heap.size, 1, #[a], rfl, hB, heap_alloc_new w _, Nat.le_refl _, by unfold maxLen; omega, by simp, by simp⟩⟩
/-- The digits of c ahead of r. -/
def decR (c : Nat) (r : List UInt8) : List UInt8 := if c = 0 then r else Lib.decDigits c ++ r
open Go.Lib in
theorem dec_step (c : Nat) (h : 9 < c) : decDigits c = decDigits (c / 10) ++ [UInt8.ofNat (48 + c % 10)] := by
  rw [decDigits, dif_neg (by omega)]
theorem decR_step (c : Nat) (r : List UInt8) (h : 0 < c) : decR (c / 10) (UInt8.ofNat (48 + c % 10) :: r) = decR c r := by
  unfold decR
  rw [if_neg (by omega : ¬ c = 0)]
  by_cases h9 : 9 < c
  · rw [if_neg (by omega), dec_step c h9, List.append_assoc]; rfl
  · rw [if_pos (by omega), Lib.decDigits_one (by omega), Nat.mod_eq_of_lt (by omega)]; rfl
theorem digit_byte (c : Nat) : (48 : Int) + (c : Int) % 10 = ((UInt8.ofNat (48 + c % 10)).toNat : Int) := by
  have : (UInt8.ofNat (48 + c % 10)).toNat = 48 + c % 10 := by simp; omega
  rw [this]; omega

set_option maxHeartbeats 1600000 in
theorem decimal_any (n : Nat) (w : World) (hn : n < 4294967296) :
    Calls Tryd.prog 30 #[.int .i64 (n : Int)] w fun e w' => e = .returned (.string ⟨(Lib.decDigits n).toArray⟩) ∧ Below w.heap.size w w' := by
  obtain ⟨i0, hi, hz0, hz1, hz2⟩ := info_parts info5
  by_cases h10 : n < 10
  · have e : Lib.decDigits n = [UInt8.ofNat (48 + n % 10)] := by rw [Lib.decDigits_one h10, Nat.mod_eq_of_lt h10]
    rw [e]
    have hv : (48 : Int) + (n : Int) = ((UInt8.ofNat (48 + n % 10)).toNat : Int) := by
      have := digit_byte n
      rw [← this]; omega
    obtain ⟨d, hd⟩ : ∃ d, UInt8.ofNat (48 + n % 10) = d := ⟨_, rfl⟩
    rw [hd] at hv ⊢
    have hcv := conv_own (l := [d]) (own_new w w.heap.size (.int .u8 (d.toNat : Int)) (Nat.le_refl _)) rfl
    rw [← hv] at hcv
    clear hv e hd
    go_enter Tryd.func30, Tryd.ntmps30
    go_wp2
    go_ret
    exact ⟨rfl, (Below.refl _ w).alloc (Nat.le_refl _) _⟩
  · have HL := Lib.hid (length_dec 9 n (by omega))
    go_enter Tryd.func30, Tryd.ntmps30
    go_wp2_with fail
    go_loopw [0, 3] (fun sn out wr => ∃ (c : Nat) (r : List UInt8), sn = .int .i64 (c : Int) ∧ c < 4294967296 ∧ r.length ≤ 10 ∧ Hid (decR c r = Lib.decDigits n) ∧
        Hid ((r = [] ∧ out = .slice none 0 0) ∨ (∃ g cap, out = .slice (some ⟨g, 0, none⟩) r.length cap ∧ wr.ownsRow w.heap.size 5 1 (.slice (some ⟨g, 0, none⟩) r.length cap) r.length (Lib.byteCells r))) ∧ Below w.heap.size w wr) (fun sn _ _ => (intOf sn).toNat)
    case atStart => exact ⟨n, [], rfl, hn, by simp, by show _ = _; unfold decR; rw [if_neg (by omega)]; simp, .inl ⟨rfl, rfl⟩, Below.refl _ _⟩
    case round =>
      obtain ⟨c, r, rfl, c1, hr, HR, HO, hnx⟩ := hrel
      have hsz := hnx.size
      by_cases hc : 0 < c
      · have hs := decR_step c r hc
        have hd0 := digit_byte c
        obtain ⟨d, hd⟩ : ∃ d, UInt8.ofNat (48 + c % 10) = d := ⟨_, rfl⟩
        rw [hd] at hs hd0
        have hlen : r.length + 1 ≤ 10 := by
          have h1 := HL.out
          rw [← HR.out, ← hs] at h1
          unfold decR at h1
          split at h1
          · simpa using h1
          · rw [List.length_append, List.length_cons] at h1; omega
        have HS := Lib.hid hs
        have HD := Lib.hid hd0
        clear hs hd0 hd
        have hcp : (0 : Int) < (c : Int) := by omega
        rcases HO.out with ⟨rfl, rfl⟩ | ⟨g, cap, rfl, hown⟩
        · have hown := own_new wr w.heap.size (.int .u8 (48 + (c : Int) % 10)) hsz
          have HE := Lib.hid (HS.out.trans HR.out)
          rw [HD.out] at hown
          go_wp2_with fail
          go_roundw
          case rel => exact ⟨c / 10, [d], by go_num, by omega, by simp, HE, .inr ⟨wr.heap.size, 1, rfl, by rw [HD.out]; exact hown⟩, hnx.alloc hsz _⟩
          case measure => simp [intOf]; omega
        · have hown2 := own_new wr w.heap.size (.int .u8 (48 + (c : Int) % 10)) hsz
          have hrc := (hown.alloc (.cells #[.int .u8 (48 + (c : Int) % 10)] 5)).cells (g := g) rfl
          have HO2 := Lib.hid hown2
          have HRC := Lib.hid hrc
          clear hown2 hrc
          go_wp2_with (at_builtin; refine wpList_append_own _ rfl _ _ 32 rfl w.heap.size 5 i0 (.int .u8 0) 1 1 Tryd.underlying32 hi hz0 hz1 hz2 rfl (by decide) _ _ _ rfl HO2.out ⟨g, 0, none⟩ r.length cap (Lib.byteCells r) rfl (by rw [byteCells_len]; omega) HRC.out (byteCells_one r) ?c3 ?c4 ?c5 ?_)
          case c3 => unfold maxLen; omega
          case c4 => omega
          case c5 => simp; omega
          intro v' w1 hown1 hgrow1 _
          have hbel := (hnx.alloc hsz _).grown hgrow1 (by simp; omega) (fun k hk => by cases hk; exact hsz)
          rw [HD.out, Nat.add_comm] at hown1
          obtain ⟨g', cap', rfl, _, _⟩ := own_shape hown1 (by omega)
          have HO3 := Lib.hid hown1
          have HE := Lib.hid (HS.out.trans HR.out)
          clear hown1 hgrow1
          go_wp2
          go_roundw
          case rel => exact ⟨c / 10, d :: r, by go_num, by omega, by simp only [List.length_cons]; omega, HE, .inr ⟨g', cap', rfl, HO3.out⟩, hbel⟩
          case measure => simp [intOf]; omega
      · obtain rfl : c = 0 := by omega
        have hre : r = Lib.decDigits n := by
          have h1 := HR.out
          unfold decR at h1
          rw [if_pos rfl] at h1
          exact h1
        have HRE := Lib.hid hre
        clear hre
        rcases HO.out with ⟨rfl, rfl⟩ | ⟨g, cap, rfl, hown⟩
        · have hcv := conv_own (World.ownsRow_nil wr w.heap.size 5 1) (l := []) rfl
          go_wp2
          go_ret
          exact ⟨by rw [← HRE.out]; rfl, hnx⟩
        · have hcv := conv_own hown rfl
          clear hown
          go_wp2
          go_ret
          exact ⟨by rw [← HRE.out]; rfl, hnx⟩

theorem own_kept {w w' : World} {B e n : Nat} {v : Value} {xs : List Value} (h : w.ownsRow B e 1 v n xs) (hb : Below w.heap.size w w') : w'.ownsRow B e 1 v n xs := by
  refine h.kept (row := none) ⟨hb.os, hb.tape, hb.output, hb.size, fun k hk _ => hb.block k hk⟩ ?_
  cases v.ownBlock with
  | none => exact .inl rfl
  | some k => exact .inr (by simp)
theorem dm_cons (k : Nat) (l r t : List UInt8) (c : UInt8) (h : l ++ dm k (c :: r) = t) :
    ((l ++ (if k % 16 = 0 then [] else [32])) ++ hx c) ++ ((if k % 16 = 15 ∨ r = [] then tl (k - k % 16) else []) ++ dm (k + 1) r) = t := by
  rw [← h]; simp only [dm, List.append_assoc]

theorem conv_new (w : World) (S : ByteArray) (n : Nat) (hn : S.size = n) : ∃ C W, (convert 9 32 (.string S)).run Tryd.prog w = .ok (.slice (some ⟨w.heap.size, 0, none⟩) n C) W ∧
    (∀ (j : Nat) (u : Value), (Lib.byteCells S.data.toList)[j]? = some u → W.cell? ((⟨w.heap.size, 0, none⟩ : Addr).add j) = some u) ∧ Below w.heap.size w W ∧ w.heap.size < W.heap.size := by
  subst hn
  refine ⟨_, _, Lib.run_convert_string_bytes w 9 32 5 S Tryd.underlying9 Tryd.underlying32 Tryd.underlying5, ?_, ⟨rfl, rfl, rfl, by rw [Lib.bytesWorld_size]; omega, fun j hj => Lib.bytesWorld_at_old w _ S j hj⟩, by rw [Lib.bytesWorld_size]; omega⟩
  intro j u hu
  have hj : j < S.size := by
    have := (List.getElem?_eq_some_iff.1 hu).1
    rw [byteCells_len, list_size] at this
    exact this
  have hadd : (⟨w.heap.size, 0, none⟩ : Addr).add j = ⟨w.heap.size, j, none⟩ := by unfold Addr.add; split <;> simp_all
  rw [hadd, Lib.bytesWorld_cell w _ S j hj, ← hu]
  have hj' : j < S.data.toList.length := by rw [list_size]; exact hj
  simp [Lib.byteCells, List.getD, List.getElem?_eq_getElem hj']
theorem dm_fin {k : Nat} {A T D r t : List UInt8} (h : A ++ ((if k % 16 = 15 ∨ r = [] then T else []) ++ D) = t) (hc : k % 16 = 15 ∨ r = []) : (A ++ T) ++ D = t := by
  rw [if_pos hc] at h; rw [← h, List.append_assoc]
theorem dm_mid {k : Nat} {A T D r t : List UInt8} (h : A ++ ((if k % 16 = 15 ∨ r = [] then T else []) ++ D) = t) (h1 : k % 16 ≠ 15) (h2 : r ≠ []) : A ++ D = t := by
  rw [if_neg (by simp [h1, h2])] at h; exact h
theorem drop_end (s : ByteArray) (k : Nat) (h : k + 1 = s.size) : s.data.toList.drop (k + 1) = [] := by rw [h]; exact drop_all s
theorem drop_mid (s : ByteArray) (k : Nat) (h : k + 1 ≠ s.size) (h2 : k < s.size) : s.data.toList.drop (k + 1) ≠ [] := by
  intro e
  have := congrArg List.length e
  simp at this
  omega
theorem tail_bytes (T : ByteArray) (p : Nat) (h : T.data.toList = Lib.decDigits p) : ((⟨#[32, 32, 35, 32]⟩ : ByteArray) ++ T ++ ⟨#[10]⟩).data.toList = tl p := by
  simp [tl, h]

set_option maxRecDepth 100000 in
set_option maxHeartbeats 6400000 in
theorem dump_ref (s : ByteArray) (w : World) (hs : s.size ≤ 16777216) :
    Calls Tryd.prog 19 #[.string s] w fun e w' => e = .returned (.string ⟨(dm 0 s.data.toList).toArray⟩) ∧ Below w.heap.size w w' := by
  obtain ⟨i0, hi, hz0, hz1, hz2⟩ := info_parts info5
  go_enter Tryd.func19, Tryd.ntmps19
  go_wp2_with fail
  go_loopw [3, 4] (fun out si wr => ∃ (k : Nat) (l : List UInt8), k ≤ s.size ∧ si = .int .i64 k ∧ Hid (l ++ dm k (s.data.toList.drop k) = dm 0 s.data.toList) ∧ l.length ≤ 18 * k ∧
      Hid (wr.ownsRow w.heap.size 5 1 out l.length (Lib.byteCells l)) ∧ Below w.heap.size w wr) (fun _ si _ => s.size - (intOf si).toNat)
  case atStart => exact ⟨0, [], Nat.zero_le _, rfl, rfl, Nat.zero_le _, World.ownsRow_nil _ _ _ _, Below.refl _ _⟩
  case round =>
    obtain ⟨k, l, hk, rfl, HX, hl, HO, hnx⟩ := hrel
    by_cases hlt : k < s.size
    · have HX2 := HX.out
      rw [drop_cons s k hlt] at HX2
      have HX3 := Lib.hid (dm_cons _ _ _ _ _ HX2)
      clear HX2
      obtain ⟨c, hc⟩ : ∃ c, s[k] = c := ⟨_, rfl⟩
      rw [hc] at HX3
      have hc8 : c.toNat < 256 := c.toNat_lt
      have hi0 : (0 : Int) ≤ (k : Int) := by omega
      have hi1 : (k : Int) < (s.size : Int) := by omega
      have HQ := Lib.hid (wrap_quo c.toNat hc8)
      have HR := Lib.hid (wrap_rem c.toNat hc8)
      by_cases h0 : k % 16 = 0
      · have hz : (k : Int) % 16 = 0 := by omega
        have HX4 := HX3.out
        rw [if_pos h0, List.append_nil, show k - k % 16 = k by omega] at HX4
        have HX5 := Lib.hid HX4
        have HTL := Lib.hid (tl_len k (by omega))
        have HC := Lib.hid (hx_cells l c)
        have HS := Lib.hid hnx.size
        clear HX4
        go_wp2_with fail
        go_region_held3 (fun _ => True) (exact trivial)
          (first
            | (go_at_call 25; rw [HQ.out]; refine (sign_any (c.toNat / 16) _ (by omega)).mono ?_; rintro e w' ⟨rfl, rfl⟩)
            | (go_at_call 25; rw [HR.out]; refine (sign_any (c.toNat % 16) _ (by omega)).mono ?_; rintro e w' ⟨rfl, rfl⟩)
            | (refine step_append_lies _ (by rfl) _ _ _ (by rfl) w.heap.size 5 i0 _ 1 1 Tryd.underlying32 hi hz0 hz1 hz2 rfl (by omega) _ (l.length) (Lib.byteCells (l)) (by rfl) ((HO.out.alloc _).drew)
                ⟨wr.heap.size, 0, none⟩ 2 2 [.int .u8 ((sg (c.toNat / 16)).toNat : Int), .int .u8 ((sg (c.toNat % 16)).toNat : Int)] (by rfl) (by rfl)
                (World.news_of_block (cs := #[.int .u8 ((sg (c.toNat / 16)).toNat : Int), .int .u8 ((sg (c.toNat % 16)).toNat : Int)]) (t := 5) (fr := (0, 0)) (heap_alloc_new wr _)) (by simp [Value.oneCell'])
                (by omega) (by unfold maxLen; omega) (by omega) (by have := HS.out; simp; omega) (wr.heap.size + 1) (by simp) ?_; intro gg cap w1 hown1 hgrow hat hlt1))
        all_goals
          have hown2 := hown1
          rw [HC.out] at hown2
          have HO2 := Lib.hid hown2
          have hb2 := (((Below.refl w.heap.size wr).alloc hnx.size _).drew.grown hgrow (by have := hnx.size; simp; omega) (fun k hk => (HO.out.lt k hk).1))
          clear hown1 hgrow hown2
          by_cases hend : k + 1 = s.size
          · have e2 : ((k : Int) == (s.size : Int) - 1) = true := by rw [beq_iff_eq]; omega
            have hsz2 := hb2.size
            have hsz0 := hnx.size
            have hdc := decimal_any k w1 (by omega)
            obtain ⟨T, hT⟩ : ∃ T : ByteArray, ⟨(Lib.decDigits k).toArray⟩ = T := ⟨_, rfl⟩
            have hTl : T.data.toList = Lib.decDigits k := by rw [← hT]
            have htb := tail_bytes T k hTl
            have hTs : T.size ≤ 10 := by rw [← list_size, hTl]; exact length_dec 9 k (by omega)
            rw [hT] at hdc
            have HDC := Lib.hid hdc
            have HTB := Lib.hid htb
            have HX6 := Lib.hid (dm_fin HX5.out (.inr (drop_end s k hend)))
            have hnn : ((⟨#[32, 32, 35, 32]⟩ : ByteArray) ++ T ++ ⟨#[10]⟩).size = (tl k).length := by rw [← list_size, htb]
            have HNN := Lib.hid hnn
            clear hdc hT hTl htb hnn
            go_wp2_with fail
            refine HDC.out.mono ?_
            rintro e w2 ⟨rfl, b2⟩
            have hb3 := (hnx.trans hb2).trans (b2.mono (by omega))
            have hsz3 := b2.size
            obtain ⟨C, W3, hcv, hnews, b3, hlt3⟩ := conv_new w2 _ _ HNN.out
            rw [HTB.out] at hnews
            have HN := Lib.hid hnews
            have HO3 := Lib.hid (own_kept (own_kept HO2.out b2) b3)
            have hb4 := hb3.trans (b3.mono (by omega))
            clear hnews b2 b3
            go_wp2_with (at_builtin; refine wpList_append_own _ rfl _ _ 32 rfl w.heap.size 5 i0 (.int .u8 0) 1 1 Tryd.underlying32 hi hz0 hz1 hz2 rfl (by decide) _ _ _ rfl HO3.out ⟨w2.heap.size, 0, none⟩ (tl k).length C (Lib.byteCells (tl k)) rfl (by rw [byteCells_len]; omega) HN.out (byteCells_one (tl k)) ?c3 ?c4 ?c5 ?_)
            case c3 => have := HTL.out; unfold maxLen; omega
            case c4 => have := HTL.out; omega
            case c5 => omega
            intro v' w4 hown4 hgrow4 _
            have hb5 := hb4.grown hgrow4 (by omega) (fun k hk => (HO3.out.lt k hk).1)
            rw [← byteCells_append] at hown4
            have HO4 := Lib.hid hown4
            have hll : (l ++ hx c ++ tl k).length = l.length + 2 + (tl k).length := by simp [hx]; omega
            have HLL := Lib.hid hll
            clear hown4 hgrow4 hcv hll
            go_wp2
            go_roundw
            case rel => exact ⟨k + 1, l ++ hx c ++ tl k, by omega, by go_num, HX6.out, by have := HTL.out; rw [HLL.out]; omega, by rw [HLL.out]; exact HO4, hb5⟩
            case measure => simp [intOf]; omega
          · have e2 : ((k : Int) == (s.size : Int) - 1) = false := by rw [beq_eq_false_iff_ne]; omega
            have HX6 := Lib.hid (dm_mid HX5.out (by omega) (drop_mid s k hend hlt))
            go_wp2_with fail
            go_roundw
            case rel => exact ⟨k + 1, l ++ hx c, by omega, by go_num, HX6.out, by simp [hx]; omega, by rw [show (l ++ hx c).length = l.length + 2 by simp [hx]; try omega]; exact HO2.out, hnx.trans hb2⟩
            case measure => simp [intOf]; omega
      · have hpos : (0 : Int) < (k : Int) % 16 := by omega
        have HX4 := HX3.out
        obtain ⟨p, hp⟩ : ∃ p, k - k % 16 = p := ⟨_, rfl⟩
        obtain ⟨q, hq⟩ : ∃ q, l ++ [32] = q := ⟨_, rfl⟩
        have hql : q.length = l.length + 1 := by rw [← hq]; simp
        rw [if_neg h0, hp, hq] at HX4
        have HX5 := Lib.hid HX4
        have HTL := Lib.hid (tl_len p (by omega))
        have hpi : (k : Int) - (k : Int) % 16 = (p : Int) := by omega
        have HP := Lib.hid hpi
        have hp16 : p < 4294967296 := by omega
        have HC := Lib.hid (hx_cells q c)
        have HB := Lib.hid hnx.size
        have HQ2 := Lib.hid hq
        clear HX4 hp hpi hq
        go_wp2_with (at_builtin; refine wpList_append_own _ rfl _ _ 32 rfl w.heap.size 5 i0 (.int .u8 0) 1 1 Tryd.underlying32 hi hz0 hz1 hz2 rfl (by decide) _ _ _ rfl (HO.out.alloc _) ⟨wr.heap.size, 0, none⟩ 1 1 [.int .u8 32] rfl rfl (one_new _ _ _) (by simp [Value.oneCell']) ?c3 ?c4 ?c5 ?_)
        case c3 => unfold maxLen; omega
        case c4 => omega
        case c5 => have := HB.out; simp; omega
        intro v0 w0 hown0 hgrow0 _
        have hnx1 := (hnx.alloc hnx.size _).grown hgrow0 (by simp; have := hnx.size; omega) (fun k hk => (HO.out.lt k hk).1)
        have hown00 : w0.ownsRow w.heap.size 5 1 v0 (l.length + 1) (Lib.byteCells q) := by
          rw [← HQ2.out, ← byteCells_snoc]; exact hown0
        have HO1 := Lib.hid hown00
        have HS := Lib.hid hnx1.size
        clear hown0 hown00 hgrow0
        go_wp2_with fail
        go_region_held3 (fun _ => True) (exact trivial)
          (first
            | (go_at_call 25; rw [HQ.out]; refine (sign_any (c.toNat / 16) _ (by omega)).mono ?_; rintro e w' ⟨rfl, rfl⟩)
            | (go_at_call 25; rw [HR.out]; refine (sign_any (c.toNat % 16) _ (by omega)).mono ?_; rintro e w' ⟨rfl, rfl⟩)
            | (refine step_append_lies _ (by rfl) _ _ _ (by rfl) w.heap.size 5 i0 _ 1 1 Tryd.underlying32 hi hz0 hz1 hz2 rfl (by omega) _ (l.length + 1) (Lib.byteCells (q)) (by rfl) ((HO1.out.alloc _).drew)
                ⟨w0.heap.size, 0, none⟩ 2 2 [.int .u8 ((sg (c.toNat / 16)).toNat : Int), .int .u8 ((sg (c.toNat % 16)).toNat : Int)] (by rfl) (by rfl)
                (World.news_of_block (cs := #[.int .u8 ((sg (c.toNat / 16)).toNat : Int), .int .u8 ((sg (c.toNat % 16)).toNat : Int)]) (t := 5) (fr := (0, 0)) (heap_alloc_new w0 _)) (by simp [Value.oneCell'])
                (by omega) (by unfold maxLen; omega) (by omega) (by have := HS.out; simp; omega) (w0.heap.size + 1) (by simp) ?_; intro gg cap w1 hown1 hgrow hat hlt1))
        all_goals
          have hown2 := hown1
          rw [HC.out] at hown2
          have HO2 := Lib.hid hown2
          have hb2 := (((Below.refl w.heap.size w0).alloc hnx1.size _).drew.grown hgrow (by have := hnx1.size; simp; omega) (fun k hk => (HO1.out.lt k hk).1))
          clear hown1 hgrow hown2
          by_cases h15 : k % 16 = 15
          · have e15 : ((k : Int) % 16 == 15) = true := by rw [beq_iff_eq]; omega
            have hsz2 := hb2.size
            have hsz0 := hnx1.size
            have hdc := decimal_any p w1 (by omega)
            obtain ⟨T, hT⟩ : ∃ T : ByteArray, ⟨(Lib.decDigits p).toArray⟩ = T := ⟨_, rfl⟩
            have hTl : T.data.toList = Lib.decDigits p := by rw [← hT]
            have htb := tail_bytes T p hTl
            have hTs : T.size ≤ 10 := by rw [← list_size, hTl]; exact length_dec 9 p (by omega)
            rw [hT] at hdc
            have HDC := Lib.hid hdc
            have HTB := Lib.hid htb
            have HX6 := Lib.hid (dm_fin HX5.out (.inl h15))
            have hnn : ((⟨#[32, 32, 35, 32]⟩ : ByteArray) ++ T ++ ⟨#[10]⟩).size = (tl p).length := by rw [← list_size, htb]
            have HNN := Lib.hid hnn
            clear hdc hT hTl htb hnn
            go_wp2_with fail
            rw [HP.out]
            refine HDC.out.mono ?_
            rintro e w2 ⟨rfl, b2⟩
            have hb3 := (hnx1.trans hb2).trans (b2.mono (by omega))
            have hsz3 := b2.size
            obtain ⟨C, W3, hcv, hnews, b3, hlt3⟩ := conv_new w2 _ _ HNN.out
            rw [HTB.out] at hnews
            have HN := Lib.hid hnews
            have HO3 := Lib.hid (own_kept (own_kept HO2.out b2) b3)
            have hb4 := hb3.trans (b3.mono (by omega))
            clear hnews b2 b3
            go_wp2_with (at_builtin; refine wpList_append_own _ rfl _ _ 32 rfl w.heap.size 5 i0 (.int .u8 0) 1 1 Tryd.underlying32 hi hz0 hz1 hz2 rfl (by decide) _ _ _ rfl HO3.out ⟨w2.heap.size, 0, none⟩ (tl p).length C (Lib.byteCells (tl p)) rfl (by rw [byteCells_len]; omega) HN.out (byteCells_one (tl p)) ?c3 ?c4 ?c5 ?_)
            case c3 => have := HTL.out; unfold maxLen; omega
            case c4 => have := HTL.out; omega
            case c5 => omega
            intro v' w4 hown4 hgrow4 _
            have hb5 := hb4.grown hgrow4 (by omega) (fun k hk => (HO3.out.lt k hk).1)
            rw [← byteCells_append] at hown4
            have HO4 := Lib.hid hown4
            have hll : (q ++ hx c ++ tl p).length = l.length + 1 + 2 + (tl p).length := by simp [hx, hql]; omega
            have HLL := Lib.hid hll
            clear hown4 hgrow4 hcv hll
            go_wp2
            go_roundw
            case rel => exact ⟨k + 1, q ++ hx c ++ tl p, by omega, by go_num, HX6.out, by have := HTL.out; rw [HLL.out]; omega, by rw [HLL.out]; exact HO4, hb5⟩
            case measure => simp [intOf]; omega
          · have e15 : ((k : Int) % 16 == 15) = false := by rw [beq_eq_false_iff_ne]; omega
            by_cases hend : k + 1 = s.size
            · have e2 : ((k : Int) == (s.size : Int) - 1) = true := by rw [beq_iff_eq]; omega
              have hsz2 := hb2.size
              have hsz0 := hnx1.size
              have hdc := decimal_any p w1 (by omega)
              obtain ⟨T, hT⟩ : ∃ T : ByteArray, ⟨(Lib.decDigits p).toArray⟩ = T := ⟨_, rfl⟩
              have hTl : T.data.toList = Lib.decDigits p := by rw [← hT]
              have htb := tail_bytes T p hTl
              have hTs : T.size ≤ 10 := by rw [← list_size, hTl]; exact length_dec 9 p (by omega)
              rw [hT] at hdc
              have HDC := Lib.hid hdc
              have HTB := Lib.hid htb
              have HX6 := Lib.hid (dm_fin HX5.out (.inr (drop_end s k hend)))
              have hnn : ((⟨#[32, 32, 35, 32]⟩ : ByteArray) ++ T ++ ⟨#[10]⟩).size = (tl p).length := by rw [← list_size, htb]
              have HNN := Lib.hid hnn
              clear hdc hT hTl htb hnn
              go_wp2_with fail
              rw [HP.out]
              refine HDC.out.mono ?_
              rintro e w2 ⟨rfl, b2⟩
              have hb3 := (hnx1.trans hb2).trans (b2.mono (by omega))
              have hsz3 := b2.size
              obtain ⟨C, W3, hcv, hnews, b3, hlt3⟩ := conv_new w2 _ _ HNN.out
              rw [HTB.out] at hnews
              have HN := Lib.hid hnews
              have HO3 := Lib.hid (own_kept (own_kept HO2.out b2) b3)
              have hb4 := hb3.trans (b3.mono (by omega))
              clear hnews b2 b3
              go_wp2_with (at_builtin; refine wpList_append_own _ rfl _ _ 32 rfl w.heap.size 5 i0 (.int .u8 0) 1 1 Tryd.underlying32 hi hz0 hz1 hz2 rfl (by decide) _ _ _ rfl HO3.out ⟨w2.heap.size, 0, none⟩ (tl p).length C (Lib.byteCells (tl p)) rfl (by rw [byteCells_len]; omega) HN.out (byteCells_one (tl p)) ?c3 ?c4 ?c5 ?_)
              case c3 => have := HTL.out; unfold maxLen; omega
              case c4 => have := HTL.out; omega
              case c5 => omega
              intro v' w4 hown4 hgrow4 _
              have hb5 := hb4.grown hgrow4 (by omega) (fun k hk => (HO3.out.lt k hk).1)
              rw [← byteCells_append] at hown4
              have HO4 := Lib.hid hown4
              have hll : (q ++ hx c ++ tl p).length = l.length + 1 + 2 + (tl p).length := by simp [hx, hql]; omega
              have HLL := Lib.hid hll
              clear hown4 hgrow4 hcv hll
              go_wp2
              go_roundw
              case rel => exact ⟨k + 1, q ++ hx c ++ tl p, by omega, by go_num, HX6.out, by have := HTL.out; rw [HLL.out]; omega, by rw [HLL.out]; exact HO4, hb5⟩
              case measure => simp [intOf]; omega
            · have e2 : ((k : Int) == (s.size : Int) - 1) = false := by rw [beq_eq_false_iff_ne]; omega
              have HX6 := Lib.hid (dm_mid HX5.out h15 (drop_mid s k hend hlt))
              go_wp2_with fail
              go_roundw
              case rel => exact ⟨k + 1, q ++ hx c, by omega, by go_num, HX6.out, by simp [hx, hql]; omega, by rw [show (q ++ hx c).length = l.length + 1 + 2 from by simp [hx, hql]]; exact HO2.out, hnx1.trans hb2⟩
              case measure => simp [intOf]; omega
    · obtain rfl : k = s.size := by omega
      have HX2 := HX.out
      rw [drop_all] at HX2
      simp only [dm, List.append_nil] at HX2
      subst HX2
      have hcv := conv_own HO.out rfl
      go_wp2
      go_ret
      exact ⟨rfl, hnx⟩
end Go.Proofs.YtlbaejebgldlkaaDoor
