/- The law InstFields: for every word and bit it returns true, and all read as before. The tables that it reads hold what the program's text lays (the card ties them). No other condition. -/
import Derived.Test.YtihgkmjlefaaoaaDoorInsQ
import Derived.Test.YtihgkmjlefaaoaaDoorInsR
import Derived.Test.YtihgkmjlefaaoaaDoorInsW
import Derived.Deep.DeepCutAuto
import Derived.Deep.RegionHeld3
import Derived.Test.YtihgkmjlefaaoaaDoorInsF
import Derived.Test.YtihgkmjlefaaoaaDoorRefC
namespace Go.Proofs.YtihgkmjlefaaoaaDoor.instFields
open Go.ChangeShapes Go.WideShapes Go.ChangeAt Go.RowKit
open Go.ChangeMaps (open_string shut_string)
set_option linter.unusedVariables false

set_option maxRecDepth 100000 in
set_option maxHeartbeats 4000000 in
theorem walk_no {v bit op a b c : Int} (hr : rgt op a b c = false) (h0 : 0 ≤ v) (h1 : v < 4294967296) (k0 : 0 ≤ bit) (k1 : bit < 256) (hop : v / 16777216 = op) (ha : v / 1048576 % 16 = a) (hb1 : v / 65536 % 16 = b) (hc : v % 65536 = c) (w : World) (ht : Tabs w) :
    Calls Tryd.prog 7 #[.int .u32 v, .int .u8 bit] w fun e w' => e = .returned (.bool true) ∧ Below w.heap.size w w' := by
  have CA := Lib.hid (fun w ht => awake7 w ht)
  have c1 := fun w ht => decode7 v w h0 h1 ht
  unfold dcd dce at c1
  rw [hop, ha, hb1, hc, hr] at c1
  simp only [Bool.false_eq_true, if_false] at c1
  have HT := Lib.hid ht
  have HK := Lib.hid (Kx.nil none w)
  have C1 := Lib.hid c1
  clear c1 hr ht hop ha hb1 hc h0 h1 k0 k1
  go_enter Tryd.func7, Tryd.ntmps7
  go_wp2_with fail
  refine (CA.out _ (HT.out.oldn HK.out)).mono ?_
  rintro e w1 ⟨rfl, hb⟩
  replace HK := Lib.hid (HK.out.after hb)
  clear hb
  go_wp2_with fail
  refine (C1.out _ (HT.out.oldn HK.out)).mono ?_
  rintro e w2 ⟨rfl, hb⟩
  replace HK := Lib.hid (HK.out.after hb)
  clear hb
  replace HK := Lib.hid (HK.out.more (.cells #[.int .i64 0, .int .i64 0, .int .i64 0, .int .i64 0] 23 (0, 0)))
  go_wp2_with fail
  go_ret
  exact ⟨rfl, HK.out.be.plain⟩
theorem dcd_shape (v : Int) : ∃ r0 r1 r2 r3 : Int, dcd v = #[.int .i64 r0, .int .i64 r1, .int .i64 r2, .int .i64 r3] := by
  unfold dcd
  split
  · exact ⟨_, _, _, _, rfl⟩
  · exact ⟨0, 0, 0, 0, rfl⟩
/-- Does the bit stand in the field p? -/
def ffl (t : Nat) (p : UInt8) : Bool := if p = 97 then decide (20 ≤ t) else if p = 98 then decide (16 ≤ t) && decide (t < 20) else if p = 99 then decide (t < 16) else decide (t < 4)
theorem thr_ffl (op : Int) (t : Nat) : thr op t = (prt op).any (ffl t) := rfl
theorem xor_cases (v : Int) (h0 : 0 ≤ v) (t : Nat) : (v / 2 ^ t % 2 = 0 ∧ ap 11 v (2 ^ t) = v + 2 ^ t) ∨ (v / 2 ^ t % 2 = 1 ∧ ap 11 v (2 ^ t) + 2 ^ t = v) := by
  obtain ⟨n, rfl⟩ : ∃ n : Nat, v = (n : Int) := ⟨v.toNat, by omega⟩
  have e : ap 11 (n : Int) (2 ^ t) = ((n ^^^ 2 ^ t : Nat) : Int) := by
    show (((n : Int).toNat ^^^ ((2 : Int) ^ t).toNat : Nat) : Int) = _
    rw [Int.toNat_natCast, show ((2 : Int) ^ t) = ((2 ^ t : Nat) : Int) by push_cast; rfl, Int.toNat_natCast]
  rw [e]
  rcases xor_bit n t with ⟨h1, h2⟩ | ⟨h1, h2⟩
  · exact .inl ⟨by exact_mod_cast h1, by rw [h2]; push_cast; rfl⟩
  · exact .inr ⟨by exact_mod_cast h1, by exact_mod_cast h2⟩
set_option maxRecDepth 100000 in
set_option maxHeartbeats 4000000 in
theorem walk_yes {v bit op a b c : Int} (hr : rgt op a b c = true) (h0 : 0 ≤ v) (h1 : v < 4294967296) (k0 : 0 ≤ bit) (k1 : bit < 256) (hop : v / 16777216 = op) (ha : v / 1048576 % 16 = a) (hb1 : v / 65536 % 16 = b) (hc : v % 65536 = c) (w : World) (ht : Tabs w) :
    Calls Tryd.prog 7 #[.int .u32 v, .int .u8 bit] w fun e w' => e = .returned (.bool true) ∧ Below w.heap.size w w' := by
  have CA := Lib.hid (fun w ht => awake7 w ht)
  have c1 := fun w ht => decode7 v w h0 h1 ht
  unfold dcd dce at c1
  rw [hop, ha, hb1, hc, hr] at c1
  simp only [if_true] at c1
  have HT := Lib.hid ht
  have HK := Lib.hid (Kx.nil none w)
  have hbd := rgt_bounds hr
  have n1 : bits .and .u32 (v / 1048576) 15 = a := by rw [low15 _ (by omega) (by omega), ha]
  have n2 : bits .and .u32 (v / 65536) 15 = b := by rw [low15 _ (by omega) (by omega), hb1]
  have n3 : bits .and .u32 v 65535 = c := by rw [low65535 _ (by omega) (by omega), hc]
  obtain ⟨t, ht2, ht3⟩ : ∃ t : Nat, bit % 24 = (t : Int) ∧ t < 24 := ⟨(bit % 24).toNat, by omega, by omega⟩
  obtain ⟨⟨m0, m1⟩, ⟨m2, m3⟩, ⟨m4, m5⟩, m6, m7⟩ := hbd
  have HX0 := xor_cases v h0 t
  have hfl := fun V2 hv => flip_rgt (w := v) (v := V2) t ht3 h0 h1 hv (by rw [hop, ha, hb1, hc]; exact hr)
  have hff := fun V2 hv => flip_fields (w := v) (v := V2) t ht3 h0 h1 hv
  have hpow : (2 : Int) ^ t % 4294967296 = 2 ^ t ∧ 0 ≤ (2 : Int) ^ t ∧ (2 : Int) ^ t < 4294967296 := by
    have h1 : (2 : Nat) ^ t < 2 ^ 24 := Nat.pow_lt_pow_right (by omega) ht3
    have h2 : ((2 : Int) ^ t) = ((2 ^ t : Nat) : Int) := by push_cast; rfl
    rw [h2]
    rw [show (2 : Nat) ^ 24 = 16777216 from rfl] at h1
    obtain ⟨N, hN⟩ : ∃ N : Nat, (2 : Nat) ^ t = N := ⟨_, rfl⟩
    rw [hN] at h1 ⊢
    omega
  have c2 := fun w => ref_bo 11 v (2 ^ t) w (.inr (.inr rfl)) h0 h1 hpow.2.1 hpow.2.2
  have hw := hff _ HX0
  have hg := hfl _ HX0
  rw [hop, thr_ffl] at hg
  obtain ⟨V2, hV2⟩ : ∃ x, ap 11 v (2 ^ t) = x := ⟨_, rfl⟩
  rw [hV2] at c2 hw hg
  have c3 := fun w => parts_ref op w
  have c4 := fun w ht => decode7 V2 w hw.1.1 hw.1.2 ht
  obtain ⟨r0, r1, r2, r3, hsh⟩ := dcd_shape V2
  rw [hsh, show dce V2 = (if (prt op).any (ffl t) then 0 else 7) from by unfold dce; rw [hg]] at c4
  have hps := prt_size op
  obtain ⟨S, hS⟩ : ∃ S : ByteArray, ⟨(prt op).toArray⟩ = S := ⟨_, rfl⟩
  have hSl : S.data.toList = prt op := by rw [← hS]
  rw [hS] at c3 hps
  obtain ⟨PW, hPW⟩ : ∃ x : Int, (2 : Int) ^ t = x := ⟨_, rfl⟩
  have pw : (2 : Int) ^ t % 4294967296 = PW := by rw [← hPW]; exact hpow.1
  rw [hPW] at c2
  rw [← hSl] at c4
  have C1 := Lib.hid c1
  have C2 := Lib.hid c2
  have C3 := Lib.hid c3
  have C4 := Lib.hid c4
  have H24 := Lib.hid ht3
  have m8 : (t : Int) < 24 := by omega
  clear c1 c2 c3 c4 ht hr ht3 ha hb1 hc HX0 hfl hff hpow hw hg hV2 hsh hS hSl hPW
  rcases (show t < 4 ∨ (4 ≤ t ∧ t < 16) ∨ (16 ≤ t ∧ t < 20) ∨ 20 ≤ t by omega) with hr | hr | hr | hr
  · skip
    have q20 : decide ((20 : Int) ≤ (t : Int)) = false := decide_eq_false (by omega)
    have q16 : decide ((16 : Int) ≤ (t : Int)) = false := decide_eq_false (by omega)
    have p20 : decide ((t : Int) < 20) = true := decide_eq_true (by omega)
    have p16 : decide ((t : Int) < 16) = true := decide_eq_true (by omega)
    have p4 : decide ((t : Int) < 4) = true := decide_eq_true (by omega)
    have HCL := Lib.hid hr
    clear hr
    go_enter Tryd.func7, Tryd.ntmps7
    go_wp2_with fail
    refine (CA.out _ (HT.out.oldn HK.out)).mono ?_
    rintro e w1 ⟨rfl, hb⟩
    replace HK := Lib.hid (HK.out.after hb)
    clear hb
    go_wp2_with fail
    refine (C1.out _ (HT.out.oldn HK.out)).mono ?_
    rintro e w2 ⟨rfl, hb⟩
    replace HK := Lib.hid (HK.out.after hb)
    clear hb
    replace HK := Lib.hid (HK.out.more (.cells #[.int .i64 op, .int .i64 a, .int .i64 b, .int .i64 c] 23 (0, 0)))
    obtain ⟨a0, a1, a2, a3, _⟩ := cells4 (HK.out.at 0 rfl)
    go_wp2_with fail
    refine (C2.out _).mono ?_
    rintro e w3 ⟨rfl, hb⟩
    replace HK := Lib.hid (HK.out.after hb)
    clear hb
    clear a0 a1 a2 a3
    obtain ⟨a0, a1, a2, a3, _⟩ := cells4 (HK.out.at 0 rfl)
    go_wp2_with fail
    refine (C3.out _).mono ?_
    rintro e w4 ⟨rfl, rfl⟩
    go_wp2_with fail
    go_loopw [11, 12] (fun sq sn wr => ∃ (k : Nat) (q : Bool), k ≤ S.size ∧ sq = .bool q ∧ sn = .int .i64 (k : Int) ∧ Hid ((q || (S.data.toList.drop k).any (ffl t)) = S.data.toList.any (ffl t)) ∧ Hid (Kx none w wr [])) (fun _ sn _ => S.size - (intOf sn).toNat)
    case atStart => exact ⟨0, false, Nat.zero_le _, rfl, rfl, by rw [List.drop_zero, Bool.false_or]; exact Lib.hid rfl, Lib.hid (HK.out.first 0)⟩
    case round =>
      clear HK a0 a1 a2 a3
      obtain ⟨k, q, hk, rfl, rfl, HX, HK⟩ := hrel
      by_cases hlt : k < S.size
      · have i1 : (k : Int) < (S.size : Int) := by omega
        have i0 : (0 : Int) ≤ (k : Int) := by omega
        have hx := HX.out
        rw [sd_cons S k hlt, List.any_cons] at hx
        obtain ⟨p, hp⟩ : ∃ p, S[k] = p := ⟨_, rfl⟩
        rw [hp] at hx
        have hcl := HCL.out
        by_cases p97 : p = 97
        · have e97 : ((p.toNat : Int) == 97) = true := by rw [beq_iff_eq, p97]; rfl
          have hf : ffl t p = false := by
            unfold ffl
            rw [if_pos p97]; simp; try omega
          rw [hf] at hx
          have HX2 := Lib.hid hx
          clear hx hf hcl p97
          cases q
          · go_wp2_with fail
            go_roundw
            case rel => exact ⟨k + 1, false, by omega, rfl, by go_num, Lib.hid (by rw [← HX2.out]; simp), HK⟩
            case measure => simp [intOf]; omega
          · go_wp2_with fail
            go_roundw
            case rel => exact ⟨k + 1, true, by omega, rfl, by go_num, Lib.hid (by rw [← HX2.out]; simp), HK⟩
            case measure => simp [intOf]; omega
        · have e97 : ((p.toNat : Int) == 97) = false := by
            rw [beq_eq_false_iff_ne]
            intro e
            exact p97 (UInt8.toNat_inj.1 (by have h : (97 : UInt8).toNat = 97 := rfl; omega))
          by_cases p98 : p = 98
          · have e98 : ((p.toNat : Int) == 98) = true := by rw [beq_iff_eq, p98]; rfl
            have hf : ffl t p = false := by
              unfold ffl
              rw [if_neg p97, if_pos p98]; simp; try omega
            rw [hf] at hx
            have HX2 := Lib.hid hx
            clear hx hf hcl p97 p98
            cases q
            · go_wp2_with fail
              go_roundw
              case rel => exact ⟨k + 1, false, by omega, rfl, by go_num, Lib.hid (by rw [← HX2.out]; simp), HK⟩
              case measure => simp [intOf]; omega
            · go_wp2_with fail
              go_roundw
              case rel => exact ⟨k + 1, true, by omega, rfl, by go_num, Lib.hid (by rw [← HX2.out]; simp), HK⟩
              case measure => simp [intOf]; omega
          · have e98 : ((p.toNat : Int) == 98) = false := by
              rw [beq_eq_false_iff_ne]
              intro e
              exact p98 (UInt8.toNat_inj.1 (by have h : (98 : UInt8).toNat = 98 := rfl; omega))
            by_cases p99 : p = 99
            · have e99 : ((p.toNat : Int) == 99) = true := by rw [beq_iff_eq, p99]; rfl
              have hf : ffl t p = true := by
                unfold ffl
                rw [if_neg p97, if_neg p98, if_pos p99]; simp; try omega
              rw [hf] at hx
              have HX2 := Lib.hid hx
              clear hx hf hcl p97 p98 p99
              cases q
              · go_wp2_with fail
                go_roundw
                case rel => exact ⟨k + 1, true, by omega, rfl, by go_num, Lib.hid (by rw [← HX2.out]; simp), HK⟩
                case measure => simp [intOf]; omega
              · go_wp2_with fail
                go_roundw
                case rel => exact ⟨k + 1, true, by omega, rfl, by go_num, Lib.hid (by rw [← HX2.out]; simp), HK⟩
                case measure => simp [intOf]; omega
            · have e99 : ((p.toNat : Int) == 99) = false := by
                rw [beq_eq_false_iff_ne]
                intro e
                exact p99 (UInt8.toNat_inj.1 (by have h : (99 : UInt8).toNat = 99 := rfl; omega))
              have hf : ffl t p = true := by
                unfold ffl
                rw [if_neg p97, if_neg p98, if_neg p99]; simp; try omega
              rw [hf] at hx
              have HX2 := Lib.hid hx
              clear hx hf hcl p97 p98 p99
              cases q
              · go_wp2_with fail
                go_roundw
                case rel => exact ⟨k + 1, true, by omega, rfl, by go_num, Lib.hid (by rw [← HX2.out]; simp), HK⟩
                case measure => simp [intOf]; omega
              · go_wp2_with fail
                go_roundw
                case rel => exact ⟨k + 1, true, by omega, rfl, by go_num, Lib.hid (by rw [← HX2.out]; simp), HK⟩
                case measure => simp [intOf]; omega
      · obtain rfl : k = S.size := by omega
        have hx := HX.out
        rw [sd_all, List.any_nil, Bool.or_false] at hx
        have u1 : ¬ ((S.size : Nat) : Int) < (S.size : Int) := by omega
        have c4 := C4.out
        rw [← hx] at c4
        cases q
        all_goals
          simp only [if_true, Bool.false_eq_true, if_false] at c4
          have C5 := Lib.hid c4
          clear c4 hx HX
          go_wp2_with fail
          refine (C5.out _ (HT.out.oldn HK.out)).mono ?_
          rintro e w6 ⟨rfl, hb⟩
          replace HK := Lib.hid ((HK.out.after hb).more (.cells #[.int .i64 r0, .int .i64 r1, .int .i64 r2, .int .i64 r3] 23 (0, 0)))
          clear hb
          go_wp2_with fail
          go_ret
          exact ⟨rfl, HK.out.be.plain⟩
  · skip
    have q20 : decide ((20 : Int) ≤ (t : Int)) = false := decide_eq_false (by omega)
    have q16 : decide ((16 : Int) ≤ (t : Int)) = false := decide_eq_false (by omega)
    have p20 : decide ((t : Int) < 20) = true := decide_eq_true (by omega)
    have p16 : decide ((t : Int) < 16) = true := decide_eq_true (by omega)
    have p4 : decide ((t : Int) < 4) = false := decide_eq_false (by omega)
    have HCL := Lib.hid hr
    clear hr
    go_enter Tryd.func7, Tryd.ntmps7
    go_wp2_with fail
    refine (CA.out _ (HT.out.oldn HK.out)).mono ?_
    rintro e w1 ⟨rfl, hb⟩
    replace HK := Lib.hid (HK.out.after hb)
    clear hb
    go_wp2_with fail
    refine (C1.out _ (HT.out.oldn HK.out)).mono ?_
    rintro e w2 ⟨rfl, hb⟩
    replace HK := Lib.hid (HK.out.after hb)
    clear hb
    replace HK := Lib.hid (HK.out.more (.cells #[.int .i64 op, .int .i64 a, .int .i64 b, .int .i64 c] 23 (0, 0)))
    obtain ⟨a0, a1, a2, a3, _⟩ := cells4 (HK.out.at 0 rfl)
    go_wp2_with fail
    refine (C2.out _).mono ?_
    rintro e w3 ⟨rfl, hb⟩
    replace HK := Lib.hid (HK.out.after hb)
    clear hb
    clear a0 a1 a2 a3
    obtain ⟨a0, a1, a2, a3, _⟩ := cells4 (HK.out.at 0 rfl)
    go_wp2_with fail
    refine (C3.out _).mono ?_
    rintro e w4 ⟨rfl, rfl⟩
    go_wp2_with fail
    go_loopw [11, 12] (fun sq sn wr => ∃ (k : Nat) (q : Bool), k ≤ S.size ∧ sq = .bool q ∧ sn = .int .i64 (k : Int) ∧ Hid ((q || (S.data.toList.drop k).any (ffl t)) = S.data.toList.any (ffl t)) ∧ Hid (Kx none w wr [])) (fun _ sn _ => S.size - (intOf sn).toNat)
    case atStart => exact ⟨0, false, Nat.zero_le _, rfl, rfl, by rw [List.drop_zero, Bool.false_or]; exact Lib.hid rfl, Lib.hid (HK.out.first 0)⟩
    case round =>
      clear HK a0 a1 a2 a3
      obtain ⟨k, q, hk, rfl, rfl, HX, HK⟩ := hrel
      by_cases hlt : k < S.size
      · have i1 : (k : Int) < (S.size : Int) := by omega
        have i0 : (0 : Int) ≤ (k : Int) := by omega
        have hx := HX.out
        rw [sd_cons S k hlt, List.any_cons] at hx
        obtain ⟨p, hp⟩ : ∃ p, S[k] = p := ⟨_, rfl⟩
        rw [hp] at hx
        have hcl := HCL.out
        by_cases p97 : p = 97
        · have e97 : ((p.toNat : Int) == 97) = true := by rw [beq_iff_eq, p97]; rfl
          have hf : ffl t p = false := by
            unfold ffl
            rw [if_pos p97]; simp; try omega
          rw [hf] at hx
          have HX2 := Lib.hid hx
          clear hx hf hcl p97
          cases q
          · go_wp2_with fail
            go_roundw
            case rel => exact ⟨k + 1, false, by omega, rfl, by go_num, Lib.hid (by rw [← HX2.out]; simp), HK⟩
            case measure => simp [intOf]; omega
          · go_wp2_with fail
            go_roundw
            case rel => exact ⟨k + 1, true, by omega, rfl, by go_num, Lib.hid (by rw [← HX2.out]; simp), HK⟩
            case measure => simp [intOf]; omega
        · have e97 : ((p.toNat : Int) == 97) = false := by
            rw [beq_eq_false_iff_ne]
            intro e
            exact p97 (UInt8.toNat_inj.1 (by have h : (97 : UInt8).toNat = 97 := rfl; omega))
          by_cases p98 : p = 98
          · have e98 : ((p.toNat : Int) == 98) = true := by rw [beq_iff_eq, p98]; rfl
            have hf : ffl t p = false := by
              unfold ffl
              rw [if_neg p97, if_pos p98]; simp; try omega
            rw [hf] at hx
            have HX2 := Lib.hid hx
            clear hx hf hcl p97 p98
            cases q
            · go_wp2_with fail
              go_roundw
              case rel => exact ⟨k + 1, false, by omega, rfl, by go_num, Lib.hid (by rw [← HX2.out]; simp), HK⟩
              case measure => simp [intOf]; omega
            · go_wp2_with fail
              go_roundw
              case rel => exact ⟨k + 1, true, by omega, rfl, by go_num, Lib.hid (by rw [← HX2.out]; simp), HK⟩
              case measure => simp [intOf]; omega
          · have e98 : ((p.toNat : Int) == 98) = false := by
              rw [beq_eq_false_iff_ne]
              intro e
              exact p98 (UInt8.toNat_inj.1 (by have h : (98 : UInt8).toNat = 98 := rfl; omega))
            by_cases p99 : p = 99
            · have e99 : ((p.toNat : Int) == 99) = true := by rw [beq_iff_eq, p99]; rfl
              have hf : ffl t p = true := by
                unfold ffl
                rw [if_neg p97, if_neg p98, if_pos p99]; simp; try omega
              rw [hf] at hx
              have HX2 := Lib.hid hx
              clear hx hf hcl p97 p98 p99
              cases q
              · go_wp2_with fail
                go_roundw
                case rel => exact ⟨k + 1, true, by omega, rfl, by go_num, Lib.hid (by rw [← HX2.out]; simp), HK⟩
                case measure => simp [intOf]; omega
              · go_wp2_with fail
                go_roundw
                case rel => exact ⟨k + 1, true, by omega, rfl, by go_num, Lib.hid (by rw [← HX2.out]; simp), HK⟩
                case measure => simp [intOf]; omega
            · have e99 : ((p.toNat : Int) == 99) = false := by
                rw [beq_eq_false_iff_ne]
                intro e
                exact p99 (UInt8.toNat_inj.1 (by have h : (99 : UInt8).toNat = 99 := rfl; omega))
              have hf : ffl t p = false := by
                unfold ffl
                rw [if_neg p97, if_neg p98, if_neg p99]; simp; try omega
              rw [hf] at hx
              have HX2 := Lib.hid hx
              clear hx hf hcl p97 p98 p99
              cases q
              · go_wp2_with fail
                go_roundw
                case rel => exact ⟨k + 1, false, by omega, rfl, by go_num, Lib.hid (by rw [← HX2.out]; simp), HK⟩
                case measure => simp [intOf]; omega
              · go_wp2_with fail
                go_roundw
                case rel => exact ⟨k + 1, true, by omega, rfl, by go_num, Lib.hid (by rw [← HX2.out]; simp), HK⟩
                case measure => simp [intOf]; omega
      · obtain rfl : k = S.size := by omega
        have hx := HX.out
        rw [sd_all, List.any_nil, Bool.or_false] at hx
        have u1 : ¬ ((S.size : Nat) : Int) < (S.size : Int) := by omega
        have c4 := C4.out
        rw [← hx] at c4
        cases q
        all_goals
          simp only [if_true, Bool.false_eq_true, if_false] at c4
          have C5 := Lib.hid c4
          clear c4 hx HX
          go_wp2_with fail
          refine (C5.out _ (HT.out.oldn HK.out)).mono ?_
          rintro e w6 ⟨rfl, hb⟩
          replace HK := Lib.hid ((HK.out.after hb).more (.cells #[.int .i64 r0, .int .i64 r1, .int .i64 r2, .int .i64 r3] 23 (0, 0)))
          clear hb
          go_wp2_with fail
          go_ret
          exact ⟨rfl, HK.out.be.plain⟩
  · skip
    have q20 : decide ((20 : Int) ≤ (t : Int)) = false := decide_eq_false (by omega)
    have q16 : decide ((16 : Int) ≤ (t : Int)) = true := decide_eq_true (by omega)
    have p20 : decide ((t : Int) < 20) = true := decide_eq_true (by omega)
    have p16 : decide ((t : Int) < 16) = false := decide_eq_false (by omega)
    have p4 : decide ((t : Int) < 4) = false := decide_eq_false (by omega)
    have HCL := Lib.hid hr
    clear hr
    go_enter Tryd.func7, Tryd.ntmps7
    go_wp2_with fail
    refine (CA.out _ (HT.out.oldn HK.out)).mono ?_
    rintro e w1 ⟨rfl, hb⟩
    replace HK := Lib.hid (HK.out.after hb)
    clear hb
    go_wp2_with fail
    refine (C1.out _ (HT.out.oldn HK.out)).mono ?_
    rintro e w2 ⟨rfl, hb⟩
    replace HK := Lib.hid (HK.out.after hb)
    clear hb
    replace HK := Lib.hid (HK.out.more (.cells #[.int .i64 op, .int .i64 a, .int .i64 b, .int .i64 c] 23 (0, 0)))
    obtain ⟨a0, a1, a2, a3, _⟩ := cells4 (HK.out.at 0 rfl)
    go_wp2_with fail
    refine (C2.out _).mono ?_
    rintro e w3 ⟨rfl, hb⟩
    replace HK := Lib.hid (HK.out.after hb)
    clear hb
    clear a0 a1 a2 a3
    obtain ⟨a0, a1, a2, a3, _⟩ := cells4 (HK.out.at 0 rfl)
    go_wp2_with fail
    refine (C3.out _).mono ?_
    rintro e w4 ⟨rfl, rfl⟩
    go_wp2_with fail
    go_loopw [11, 12] (fun sq sn wr => ∃ (k : Nat) (q : Bool), k ≤ S.size ∧ sq = .bool q ∧ sn = .int .i64 (k : Int) ∧ Hid ((q || (S.data.toList.drop k).any (ffl t)) = S.data.toList.any (ffl t)) ∧ Hid (Kx none w wr [])) (fun _ sn _ => S.size - (intOf sn).toNat)
    case atStart => exact ⟨0, false, Nat.zero_le _, rfl, rfl, by rw [List.drop_zero, Bool.false_or]; exact Lib.hid rfl, Lib.hid (HK.out.first 0)⟩
    case round =>
      clear HK a0 a1 a2 a3
      obtain ⟨k, q, hk, rfl, rfl, HX, HK⟩ := hrel
      by_cases hlt : k < S.size
      · have i1 : (k : Int) < (S.size : Int) := by omega
        have i0 : (0 : Int) ≤ (k : Int) := by omega
        have hx := HX.out
        rw [sd_cons S k hlt, List.any_cons] at hx
        obtain ⟨p, hp⟩ : ∃ p, S[k] = p := ⟨_, rfl⟩
        rw [hp] at hx
        have hcl := HCL.out
        by_cases p97 : p = 97
        · have e97 : ((p.toNat : Int) == 97) = true := by rw [beq_iff_eq, p97]; rfl
          have hf : ffl t p = false := by
            unfold ffl
            rw [if_pos p97]; simp; try omega
          rw [hf] at hx
          have HX2 := Lib.hid hx
          clear hx hf hcl p97
          cases q
          · go_wp2_with fail
            go_roundw
            case rel => exact ⟨k + 1, false, by omega, rfl, by go_num, Lib.hid (by rw [← HX2.out]; simp), HK⟩
            case measure => simp [intOf]; omega
          · go_wp2_with fail
            go_roundw
            case rel => exact ⟨k + 1, true, by omega, rfl, by go_num, Lib.hid (by rw [← HX2.out]; simp), HK⟩
            case measure => simp [intOf]; omega
        · have e97 : ((p.toNat : Int) == 97) = false := by
            rw [beq_eq_false_iff_ne]
            intro e
            exact p97 (UInt8.toNat_inj.1 (by have h : (97 : UInt8).toNat = 97 := rfl; omega))
          by_cases p98 : p = 98
          · have e98 : ((p.toNat : Int) == 98) = true := by rw [beq_iff_eq, p98]; rfl
            have hf : ffl t p = true := by
              unfold ffl
              rw [if_neg p97, if_pos p98]; simp; try omega
            rw [hf] at hx
            have HX2 := Lib.hid hx
            clear hx hf hcl p97 p98
            cases q
            · go_wp2_with fail
              go_roundw
              case rel => exact ⟨k + 1, true, by omega, rfl, by go_num, Lib.hid (by rw [← HX2.out]; simp), HK⟩
              case measure => simp [intOf]; omega
            · go_wp2_with fail
              go_roundw
              case rel => exact ⟨k + 1, true, by omega, rfl, by go_num, Lib.hid (by rw [← HX2.out]; simp), HK⟩
              case measure => simp [intOf]; omega
          · have e98 : ((p.toNat : Int) == 98) = false := by
              rw [beq_eq_false_iff_ne]
              intro e
              exact p98 (UInt8.toNat_inj.1 (by have h : (98 : UInt8).toNat = 98 := rfl; omega))
            by_cases p99 : p = 99
            · have e99 : ((p.toNat : Int) == 99) = true := by rw [beq_iff_eq, p99]; rfl
              have hf : ffl t p = false := by
                unfold ffl
                rw [if_neg p97, if_neg p98, if_pos p99]; simp; try omega
              rw [hf] at hx
              have HX2 := Lib.hid hx
              clear hx hf hcl p97 p98 p99
              cases q
              · go_wp2_with fail
                go_roundw
                case rel => exact ⟨k + 1, false, by omega, rfl, by go_num, Lib.hid (by rw [← HX2.out]; simp), HK⟩
                case measure => simp [intOf]; omega
              · go_wp2_with fail
                go_roundw
                case rel => exact ⟨k + 1, true, by omega, rfl, by go_num, Lib.hid (by rw [← HX2.out]; simp), HK⟩
                case measure => simp [intOf]; omega
            · have e99 : ((p.toNat : Int) == 99) = false := by
                rw [beq_eq_false_iff_ne]
                intro e
                exact p99 (UInt8.toNat_inj.1 (by have h : (99 : UInt8).toNat = 99 := rfl; omega))
              have hf : ffl t p = false := by
                unfold ffl
                rw [if_neg p97, if_neg p98, if_neg p99]; simp; try omega
              rw [hf] at hx
              have HX2 := Lib.hid hx
              clear hx hf hcl p97 p98 p99
              cases q
              · go_wp2_with fail
                go_roundw
                case rel => exact ⟨k + 1, false, by omega, rfl, by go_num, Lib.hid (by rw [← HX2.out]; simp), HK⟩
                case measure => simp [intOf]; omega
              · go_wp2_with fail
                go_roundw
                case rel => exact ⟨k + 1, true, by omega, rfl, by go_num, Lib.hid (by rw [← HX2.out]; simp), HK⟩
                case measure => simp [intOf]; omega
      · obtain rfl : k = S.size := by omega
        have hx := HX.out
        rw [sd_all, List.any_nil, Bool.or_false] at hx
        have u1 : ¬ ((S.size : Nat) : Int) < (S.size : Int) := by omega
        have c4 := C4.out
        rw [← hx] at c4
        cases q
        all_goals
          simp only [if_true, Bool.false_eq_true, if_false] at c4
          have C5 := Lib.hid c4
          clear c4 hx HX
          go_wp2_with fail
          refine (C5.out _ (HT.out.oldn HK.out)).mono ?_
          rintro e w6 ⟨rfl, hb⟩
          replace HK := Lib.hid ((HK.out.after hb).more (.cells #[.int .i64 r0, .int .i64 r1, .int .i64 r2, .int .i64 r3] 23 (0, 0)))
          clear hb
          go_wp2_with fail
          go_ret
          exact ⟨rfl, HK.out.be.plain⟩
  · skip
    have q20 : decide ((20 : Int) ≤ (t : Int)) = true := decide_eq_true (by omega)
    have q16 : decide ((16 : Int) ≤ (t : Int)) = true := decide_eq_true (by omega)
    have p20 : decide ((t : Int) < 20) = false := decide_eq_false (by omega)
    have p16 : decide ((t : Int) < 16) = false := decide_eq_false (by omega)
    have p4 : decide ((t : Int) < 4) = false := decide_eq_false (by omega)
    have HCL := Lib.hid hr
    clear hr
    go_enter Tryd.func7, Tryd.ntmps7
    go_wp2_with fail
    refine (CA.out _ (HT.out.oldn HK.out)).mono ?_
    rintro e w1 ⟨rfl, hb⟩
    replace HK := Lib.hid (HK.out.after hb)
    clear hb
    go_wp2_with fail
    refine (C1.out _ (HT.out.oldn HK.out)).mono ?_
    rintro e w2 ⟨rfl, hb⟩
    replace HK := Lib.hid (HK.out.after hb)
    clear hb
    replace HK := Lib.hid (HK.out.more (.cells #[.int .i64 op, .int .i64 a, .int .i64 b, .int .i64 c] 23 (0, 0)))
    obtain ⟨a0, a1, a2, a3, _⟩ := cells4 (HK.out.at 0 rfl)
    go_wp2_with fail
    refine (C2.out _).mono ?_
    rintro e w3 ⟨rfl, hb⟩
    replace HK := Lib.hid (HK.out.after hb)
    clear hb
    clear a0 a1 a2 a3
    obtain ⟨a0, a1, a2, a3, _⟩ := cells4 (HK.out.at 0 rfl)
    go_wp2_with fail
    refine (C3.out _).mono ?_
    rintro e w4 ⟨rfl, rfl⟩
    go_wp2_with fail
    go_loopw [11, 12] (fun sq sn wr => ∃ (k : Nat) (q : Bool), k ≤ S.size ∧ sq = .bool q ∧ sn = .int .i64 (k : Int) ∧ Hid ((q || (S.data.toList.drop k).any (ffl t)) = S.data.toList.any (ffl t)) ∧ Hid (Kx none w wr [])) (fun _ sn _ => S.size - (intOf sn).toNat)
    case atStart => exact ⟨0, false, Nat.zero_le _, rfl, rfl, by rw [List.drop_zero, Bool.false_or]; exact Lib.hid rfl, Lib.hid (HK.out.first 0)⟩
    case round =>
      clear HK a0 a1 a2 a3
      obtain ⟨k, q, hk, rfl, rfl, HX, HK⟩ := hrel
      by_cases hlt : k < S.size
      · have i1 : (k : Int) < (S.size : Int) := by omega
        have i0 : (0 : Int) ≤ (k : Int) := by omega
        have hx := HX.out
        rw [sd_cons S k hlt, List.any_cons] at hx
        obtain ⟨p, hp⟩ : ∃ p, S[k] = p := ⟨_, rfl⟩
        rw [hp] at hx
        have hcl := HCL.out
        by_cases p97 : p = 97
        · have e97 : ((p.toNat : Int) == 97) = true := by rw [beq_iff_eq, p97]; rfl
          have hf : ffl t p = true := by
            unfold ffl
            rw [if_pos p97]; simp; try omega
          rw [hf] at hx
          have HX2 := Lib.hid hx
          clear hx hf hcl p97
          cases q
          · go_wp2_with fail
            go_roundw
            case rel => exact ⟨k + 1, true, by omega, rfl, by go_num, Lib.hid (by rw [← HX2.out]; simp), HK⟩
            case measure => simp [intOf]; omega
          · go_wp2_with fail
            go_roundw
            case rel => exact ⟨k + 1, true, by omega, rfl, by go_num, Lib.hid (by rw [← HX2.out]; simp), HK⟩
            case measure => simp [intOf]; omega
        · have e97 : ((p.toNat : Int) == 97) = false := by
            rw [beq_eq_false_iff_ne]
            intro e
            exact p97 (UInt8.toNat_inj.1 (by have h : (97 : UInt8).toNat = 97 := rfl; omega))
          by_cases p98 : p = 98
          · have e98 : ((p.toNat : Int) == 98) = true := by rw [beq_iff_eq, p98]; rfl
            have hf : ffl t p = false := by
              unfold ffl
              rw [if_neg p97, if_pos p98]; simp; try omega
            rw [hf] at hx
            have HX2 := Lib.hid hx
            clear hx hf hcl p97 p98
            cases q
            · go_wp2_with fail
              go_roundw
              case rel => exact ⟨k + 1, false, by omega, rfl, by go_num, Lib.hid (by rw [← HX2.out]; simp), HK⟩
              case measure => simp [intOf]; omega
            · go_wp2_with fail
              go_roundw
              case rel => exact ⟨k + 1, true, by omega, rfl, by go_num, Lib.hid (by rw [← HX2.out]; simp), HK⟩
              case measure => simp [intOf]; omega
          · have e98 : ((p.toNat : Int) == 98) = false := by
              rw [beq_eq_false_iff_ne]
              intro e
              exact p98 (UInt8.toNat_inj.1 (by have h : (98 : UInt8).toNat = 98 := rfl; omega))
            by_cases p99 : p = 99
            · have e99 : ((p.toNat : Int) == 99) = true := by rw [beq_iff_eq, p99]; rfl
              have hf : ffl t p = false := by
                unfold ffl
                rw [if_neg p97, if_neg p98, if_pos p99]; simp; try omega
              rw [hf] at hx
              have HX2 := Lib.hid hx
              clear hx hf hcl p97 p98 p99
              cases q
              · go_wp2_with fail
                go_roundw
                case rel => exact ⟨k + 1, false, by omega, rfl, by go_num, Lib.hid (by rw [← HX2.out]; simp), HK⟩
                case measure => simp [intOf]; omega
              · go_wp2_with fail
                go_roundw
                case rel => exact ⟨k + 1, true, by omega, rfl, by go_num, Lib.hid (by rw [← HX2.out]; simp), HK⟩
                case measure => simp [intOf]; omega
            · have e99 : ((p.toNat : Int) == 99) = false := by
                rw [beq_eq_false_iff_ne]
                intro e
                exact p99 (UInt8.toNat_inj.1 (by have h : (99 : UInt8).toNat = 99 := rfl; omega))
              have hf : ffl t p = false := by
                unfold ffl
                rw [if_neg p97, if_neg p98, if_neg p99]; simp; try omega
              rw [hf] at hx
              have HX2 := Lib.hid hx
              clear hx hf hcl p97 p98 p99
              cases q
              · go_wp2_with fail
                go_roundw
                case rel => exact ⟨k + 1, false, by omega, rfl, by go_num, Lib.hid (by rw [← HX2.out]; simp), HK⟩
                case measure => simp [intOf]; omega
              · go_wp2_with fail
                go_roundw
                case rel => exact ⟨k + 1, true, by omega, rfl, by go_num, Lib.hid (by rw [← HX2.out]; simp), HK⟩
                case measure => simp [intOf]; omega
      · obtain rfl : k = S.size := by omega
        have hx := HX.out
        rw [sd_all, List.any_nil, Bool.or_false] at hx
        have u1 : ¬ ((S.size : Nat) : Int) < (S.size : Int) := by omega
        have c4 := C4.out
        rw [← hx] at c4
        cases q
        all_goals
          simp only [if_true, Bool.false_eq_true, if_false] at c4
          have C5 := Lib.hid c4
          clear c4 hx HX
          go_wp2_with fail
          refine (C5.out _ (HT.out.oldn HK.out)).mono ?_
          rintro e w6 ⟨rfl, hb⟩
          replace HK := Lib.hid ((HK.out.after hb).more (.cells #[.int .i64 r0, .int .i64 r1, .int .i64 r2, .int .i64 r3] 23 (0, 0)))
          clear hb
          go_wp2_with fail
          go_ret
          exact ⟨rfl, HK.out.be.plain⟩
theorem walk {v bit : Int} (h0 : 0 ≤ v) (h1 : v < 4294967296) (k0 : 0 ≤ bit) (k1 : bit < 256) (w : World) (ht : Tabs w) :
    Calls Tryd.prog 7 #[.int .u32 v, .int .u8 bit] w fun e w' => e = .returned (.bool true) ∧ Below w.heap.size w w' := by
  cases hr : rgt (v / 16777216) (v / 1048576 % 16) (v / 65536 % 16) (v % 65536) with
  | false => exact walk_no hr h0 h1 k0 k1 rfl rfl rfl rfl w ht
  | true => exact walk_yes hr h0 h1 k0 k1 rfl rfl rfl rfl w ht

set_option maxRecDepth 100000 in
theorem contract (H : Type) (enc : TypeId × Value → H) (W : World) (base : Nat) (args : Array Value) (ds gs : List (DataW H)) (before : List MemPlace)
    (hval : ∀ (j : Nat) t v, Tryd.f7.params[j]? = some t → args[j]? = some v → Value.okWide Tryd.prog W .any base t v)
    (hW : DataW.Whole enc Tryd.prog Tryd.f7.params.toList Rows.instFieldsSpec.vars false W args.toList ds gs before) (hL : laidMetH Tryd.prog Rows.instFieldsRow.laid W) :
    Calls Tryd.prog 7 args W fun e W' => ∃ v, e = .returned v ∧ Rows.instFieldsSpec.post enc Tryd.prog Tryd.f7 false true false false W args v W' := by
  have hW' := hW
  obtain ⟨p, q, hA0, hV, rfl, hfz, hnd⟩ := hW
  have hA : DataW.TrodAll enc Tryd.prog W 0 (fun _ => true) true Tryd.f7.params.toList args.toList ds p := hA0
  rw [Tryd.params7] at hA hval
  obtain ⟨v0, vs0, d0, ds0, p0, q0, hargs, rfl, rfl, h0, r0⟩ := trodAll_cons hA
  obtain ⟨v1, vs1, d1, ds1, p1, q1, rfl, rfl, rfl, h1, r1⟩ := trodAll_cons r0
  obtain ⟨rfl, rfl, rfl⟩ := trodAll_nil r1
  obtain rfl : args = #[v0, v1] := by cases args; simp_all
  obtain ⟨rfl, rfl⟩ := trodVars_none hV
  have lt0 : ∀ x ∈ p0, x.block < W.heap.size := by obtain ⟨m, hm⟩ := h0; exact DataW.trod_lt m _ _ _ hm
  have k0 := h0
  obtain ⟨a0, rfl, _, _, w0⟩ := open_int Tryd.underlying25 (hval 0 25 v0 rfl rfl) k0
  have lt1 : ∀ x ∈ p1, x.block < W.heap.size := by obtain ⟨m, hm⟩ := h1; exact DataW.trod_lt m _ _ _ hm
  have k1 := h1
  obtain ⟨a1, rfl, _, _, w1⟩ := open_int Tryd.underlying5 (hval 1 5 v1 rfl rfl) k1
  clear hA0
  refine (walk (bounds_u32 w0).1 (by have := (bounds_u32 w0).2; omega) (bounds_u8 w1).1 (by have := (bounds_u8 w1).2; omega) W  (tabs_of hL)).mono fun e W' ⟨he, bel⟩ => ?_
  subst he
  exact ⟨_, rfl, _, _, _, [], _, [], hW', trodAll_mk1 (shut_bool Tryd.underlying4 _), (trodAll_cons_mk (Below.trod laidOut (by kernel_rfl) (of_decide_eq_true (by kernel_rfl)) h0 bel lt0) (trodAll_cons_mk (Below.trod laidOut (by kernel_rfl) (of_decide_eq_true (by kernel_rfl)) h1 bel lt1) trodAll_mk0)), rfl, bel.frame _, fun h => by cases h⟩

theorem laid_met (os : Os) : laidMet Tryd.prog Rows.instFieldsRow.laid ((laidWorld os).forCall (fun _ _ => 0) ⟨#[], #[.int .u32 0, .int .u8 0], []⟩).memory :=
  laidMet_of_run' 8 (by kernel_rfl) (by kernel_rfl)
theorem reads (os : Os) {H : Type} (enc : TypeId × Value → H) : ∃ places, DataW.whole enc Tryd.prog ((laidWorld os).forCall (fun _ _ => 0) ⟨#[], #[.int .u32 0, .int .u8 0], []⟩).memory Tryd.f7.params.toList Rows.instFieldsSpec.vars false (#[.int .u32 0, .int .u8 0] : Array Value).toList 8 = some ([.lit (.int .u32 0), .lit (.int .u8 0)], [], places) :=
  ⟨[], by kernel_rfl⟩

set_option maxRecDepth 100000 in
theorem lifted (os : Os) (started : os.Started) (H : Type) (enc : TypeId × Value → H) (F : Stop.Interp) :
    ReturnsInHanded {} Tryd.checked os 7 .any ((OpenSpec.ofChange Rows.instFieldsSpec).preRow enc Tryd.prog Tryd.f7 Rows.instFieldsRow.domain false Rows.instFieldsRow.laid) (((OpenSpec.ofChange Rows.instFieldsSpec).at F).post enc Tryd.prog Tryd.f7 false true false false) := by
  obtain ⟨places, hx⟩ := reads os enc
  refine returnsInHanded_of_row (C := Tryd.checked) (s := OpenSpec.ofChange Rows.instFieldsSpec) own started (by kernel_rfl) Tryd.func7
    (witness_row_at (enc := enc) (C := Tryd.checked) false (laidWorld os) #[.int .u32 0, .int .u8 0] rfl (by kernel_rfl) (by kernel_rfl) (by kernel_rfl)
      (OpenSpec.preRow_of_cond 8 hx (by kernel_rfl) (fun k hk => by cases hk) (by kernel_rfl) (laid_met os))) ?_
  intro W base args ds gs before hval hW _ _ _ hL _ _
  exact contract H enc W base args ds gs before hval hW hL

theorem said : Rows.InstFieldsSaid :=
  OpenClaim.holds_of_cond 7 Tryd.f7 rfl rfl rfl rfl rfl rfl rfl ⟨rfl, rfl, rfl, rfl, rfl⟩ rfl rfl rfl rfl rfl (by kernel_rfl) Tryd.func7 (by kernel_rfl)
    (of_decide_eq_true (by kernel_rfl)) (by unfold Func.isWrapper; first | (rw [if_pos (by decide +kernel)]; kernel_rfl) | (rw [if_neg (by decide +kernel)]; exact ⟨rfl, rfl⟩))
    (fun os started H enc _ F => by rw [OpenClaim.pre_eq_preRow]; exact lifted os started H enc F)

theorem plain (f : FuncId) (fn : Func) (hf : Tryd.pinned.checked.prog.funcNamed "seedcorn/seedcornlaw07.InstFields" = some f) (hfn : Tryd.pinned.checked.prog.funcs[f]? = some fn) :
    false = Tryd.pinned.checked.prog.looks [] ∧ ∀ (j : Nat) t, fn.params[j]? = some t → Tryd.pinned.checked.prog.wantsStandIn t = false := by
  obtain rfl : f = 7 := Option.some.inj ((show Tryd.prog.funcNamed "seedcorn/seedcornlaw07.InstFields" = some 7 by kernel_rfl).symm.trans hf) |>.symm
  obtain rfl : fn = Tryd.f7 := (Option.some.inj (Tryd.func7.symm.trans hfn)).symm
  refine ⟨by kernel_rfl, fun j t ht => ?_⟩
  rw [Tryd.params7] at ht
  have hm := Array.mem_of_getElem? ht
  have hm' : t = 25 ∨ t = 5 := by simpa using hm
  rcases hm' with rfl | rfl
  · exact (show Tryd.prog.wantsStandIn 25 = false by kernel_rfl)
  · exact (show Tryd.prog.wantsStandIn 5 = false by kernel_rfl)

/-- The card. -/
theorem card : Rows.InstFieldsCardSaid :=
  Claim7.holds_tied_plain_at .later [] _ _ _ _ said (fun _ h => by cases h) (by kernel_rfl) (fun _ h => by cases h) instFields_row_tie rfl ⟨rfl, rfl⟩ (by kernel_rfl) rfl plain (by kernel_rfl)
end Go.Proofs.YtihgkmjlefaaoaaDoor.instFields
