/- SetsTell, walked. -/
import Derived.Test.YtpokpaaaeedniaaDoorSetLaw2
namespace Go.Proofs.YtpokpaaaeedniaaDoor
open Go.RowKit

theorem mask_all (k : Nat) (id : Int) (hk : k ≤ 32) (h : S.all id = S.all (k : Int)) : S.mask (List.range k) % 4294967296 = S.all id := by
  rw [h, S.all_nat k hk, S.mask_range, Nat.mod_eq_of_lt]
  have : 2 ^ k ≤ 2 ^ 32 := Nat.pow_le_pow_right (by decide) hk
  have : 2 ^ 32 = 4294967296 := by decide
  omega

set_option maxRecDepth 1000000 in
set_option maxHeartbeats 4000000 in
theorem tellIn (a b : Nat) (ha : a < 4294967296) (hb : b < 4294967296) (id : Int) (hid : -9223372036854775808 ≤ id ∧ id ≤ 9223372036854775807) (h0 : 0 ≤ id) (h1 : id ≤ 31) (w : World) (hL : Tab w) :
    Calls Tryd.prog 3 #[.int .u32 (a : Int), .int .u32 (b : Int), .int .i64 id] w fun e w' => e = .returned (.bool true) ∧ Below w.heap.size w w' := by
  have hs := hL.size
  have HT := kp hL
  have HId := kp hid
  obtain ⟨m, rfl⟩ : ∃ m : Nat, id = (m : Int) := ⟨id.toNat, by omega⟩
  have hm31 : m ≤ 31 := by omega
  obtain ⟨o, ho⟩ : ∃ o, 2 ^ m = o := ⟨_, rfl⟩
  have hp := pow_le31 m hm31
  have HOne : Kept (S.one (m : Int) = o) := kp <| by rw [S.one_nat m hm31, ho]
  have HMk1 : Kept (S.mask [m] % 4294967296 = o) := kp <| by rw [← ho]; simp only [S.mask, List.map_cons, List.map_nil, List.sum_cons, List.sum_nil]; omega
  have H131 : Kept (∀ x ∈ [m], x ≤ 31) := kp <| by simp; omega
  have hmask := mask_all m (m : Int) (by omega) rfl
  clear ho hp
  obtain ⟨l, hl⟩ : ∃ l, S.ids a 32 = l := ⟨_, rfl⟩
  obtain ⟨n, hn⟩ : ∃ n, l.length = n := ⟨_, rfl⟩
  have hn32 : n ≤ 32 := by rw [← hn, ← hl]; exact S.ids_len a 32
  obtain ⟨rh, hrh⟩ : ∃ r, S.has a (m : Int) = r := ⟨_, rfl⟩
  obtain ⟨rw', hrw⟩ : ∃ r, S.within a b 32 = r := ⟨_, rfl⟩
  obtain ⟨al, hal⟩ : ∃ r, S.all (m : Int) = r := ⟨_, rfl⟩
  have HMask : Kept (S.mask (List.range m) % 4294967296 = al) := kp <| by rw [← hal]; exact hmask
  have hb1 : (rh == rh) = true := by cases rh <;> rfl
  have hb2 : (rw' == rw') = true := by cases rw' <;> rfl
  have HC : Kept (S.count a = n) := kp <| by rw [← hn, ← hl]; rfl
  have HL := kp hl; have HN := kp hn; have HH := kp hrh; have HW := kp hrw; have HAl := kp hal
  have HR31 : Kept (∀ x ∈ List.range m, x ≤ 31) := kp <| fun x hx => by have := List.mem_range.1 hx; omega
  clear hL hrh hrw hal hmask hid
  have hcase : (a = 0 ∧ n = 0 ∧ S.least a = -1) ∨ ∃ k0 : Nat, k0 ≤ 31 ∧ 0 < n ∧ l[0]? = some k0 ∧ S.least a = (k0 : Int) := by
    by_cases h0 : a = 0
    · subst h0
      refine .inl ⟨rfl, ?_, by unfold S.least; rw [S.ids_zero]⟩
      rw [← hn, ← hl, S.ids_zero]; rfl
    · obtain ⟨k0, hk0, hi, _, _⟩ := S.low a h0 ha
      refine .inr ⟨k0, hk0, ?_, ?_, S.least_low a k0 _ hi⟩
      · rw [← hn, ← hl, hi]; simp
      · rw [← hl, hi]; rfl
  clear hl hn
  rcases hcase with ⟨-, hn0, hle⟩ | ⟨k0, hk0, hn0, hl0, hle⟩
  · have HLe := kp hle
    clear hle
    subst hn0
    go_enter Tryd.func3, Tryd.ntmps3
    go_wp2_with (first
      | (go_at_call 9; go_must (refine (awake_any _ HT.out hs).mono ?_); rintro e w1 ⟨rfl, hb1⟩; have HB1 := kp hb1; have hs1 := hb1.size; clear hb1)
      | (go_at_call 10; go_must (refine (ref_list a ha w1).mono ?_); rintro e w2 ⟨v, rfl, hown, hb2⟩
         rw [HL.out] at hown
         obtain ⟨A2, c2, rfl, hc2, hm2, hr2⟩ := Own.readsN hown HN.out
         have HR2 := kp hr2
         have HB2 := kp (HB1.out.trans (hb2.mono (by omega)))
         have hs2 := hb2.size
         have hm22 : c2 ≤ 9223372036854775807 := by unfold maxLen at hm2; omega
         clear hown hb2 hr2 hm2)
      | (go_at_call 11
         obtain ⟨w3, e3, hm1, hb23⟩ : ∃ w3, w2.alloc (.cells #[.int .i64 (m : Int)] 3) = w3 ∧ Row natV w3 w3.heap.size (some ⟨w2.heap.size, 0, none⟩) 1 [m] ∧ Below w2.heap.size w2 w3 := ⟨_, rfl, Row.made natV w2 [m] #[.int .i64 (m : Int)] rfl 3, (Below.refl _ _).alloc (Nat.le_refl _) _⟩
         rw [e3]
         have HM1 := kp hm1; have HB23 := kp hb23
         clear e3 hm1 hb23
         go_must (refine (ref_mask _ _ 1 1 [m] _ HM1.out H131.out (by omega) o HMk1.out).mono ?_); rintro e w' ⟨rfl, rfl⟩
         have hs23 := HB23.out.size
         have HB3 := kp (HB2.out.trans (HB23.out.mono HB2.out.size))
         have HR3 := kp (HR2.out.below HB23.out)))
    have hs3 : 1 ≤ w3.heap.size := by omega
    go_loopw [10, 11] (fun v10 v11 wr => ∃ i : Nat, i ≤ m ∧ v11 = .int .i64 i ∧ Own wr w3.heap.size 3 v10 ((List.range i).map natV) ∧ Below w3.heap.size w3 wr) (fun _ v11 _ => m - (intOf v11).toNat)
    case atStart => exact ⟨0, by omega, rfl, Own.nil _ _ _, Below.refl _ _⟩
    case round =>
      obtain ⟨i, hi, rfl, hown, hbl⟩ := hrel
      have hB := hbl.size
      have HOwn := kp hown; have HBL := kp hbl
      have hln : (List.range i).length = i := List.length_range
      have HLn := kp hln
      clear hown hbl
      by_cases hlt : i < m
      · have HN2 : Kept (List.range (i + 1) = List.range i ++ [i]) := kp List.range_succ
        generalize hq : List.range i = q at *
        clear hq
        go_wp2_with (at_builtin; go_must (refine wpList_append_one rfl (.tmp 40) (.tmp 42) 24 rfl w3.heap.size 3 _ _ Tryd.underlying24 int_info rfl _ _ _ _ rfl HOwn.out _ 1 rfl rfl rfl (by simp [maxLen]; omega) (by simp; omega) hB ?_); intro v1 w5 hown1 hg1; have HO1 := kp hown1; clear hown1; have HG1 := kp hg1; clear hg1)
        go_roundw
        case rel => exact ⟨i + 1, by omega, by go_num, by rw [HN2.out, List.map_append]; exact HO1.out, HG1.out.below HBL.out HOwn.out hB⟩
        case measure => simp [intOf]; omega
      · have hik : m = i := by omega
        subst hik
        obtain ⟨A4, c4, rfl, hc4, hm4, hr4⟩ := Own.readsN HOwn.out HLn.out
        have HR4 := kp hr4
        have HBW : Kept (Below w.heap.size w wr) := kp (HB3.out.trans (HBL.out.mono (by have := HB3.out.size; omega)))
        have HR2r : Kept (Row natV wr w2.heap.size A2 0 l) := kp (HR3.out.below (HBL.out.mono hs23))
        have hm44 : c4 ≤ 9223372036854775807 := by unfold maxLen at hm4; omega
        have HTr : Kept (Tab wr) := kp (HT.out.below HBW.out hs)
        have hsr := HBW.out.size
        have hs2r : w2.heap.size ≤ wr.heap.size := by omega
        clear hr4 hm4 hlt HLn hln
        go_wp2_with (first
          | (go_at_call 12; go_must (refine (has_any a ha (m : Int) HId.out rh HH.out _).mono ?_); rintro e w' ⟨rfl, rfl⟩)
          | (go_at_call 13; go_must (refine (ref_has a ha (m : Int) HId.out rh HH.out _).mono ?_); rintro e w' ⟨rfl, rfl⟩)
          | (go_at_call 14; go_must (refine (within_any a b ha hb rw' HW.out _).mono ?_); rintro e w' ⟨rfl, rfl⟩)
          | (go_at_call 15; go_must (refine (ref_within a b ha hb rw' HW.out _).mono ?_); rintro e w' ⟨rfl, rfl⟩)
          | (go_at_call 16; go_must (refine (count_any a ha 0 HC.out _).mono ?_); rintro e w' ⟨rfl, rfl⟩)
          | (go_at_call 17; go_must (refine (least_any a ha (-1) HLe.out _ HTr.out).mono ?_); rintro e w' ⟨rfl, rfl⟩)
          | (go_at_call 19; go_must (refine (list_any a ha wr HTr.out (by omega)).mono ?_); rintro e w5 ⟨v, rfl, hown5, hb5⟩
             rw [HL.out] at hown5
             obtain ⟨A5, c5, rfl, hc5, hm5, hr5⟩ := Own.readsN hown5 HN.out
             have HR5 := kp hr5
             have HB5 := kp hb5
             have hs5 := hb5.size
             have hm55 : c5 ≤ 9223372036854775807 := by unfold maxLen at hm5; omega
             have HR2z : Kept (Row natV w5 w5.heap.size A2 0 l) := kp ((HR2r.out.below (hb5.mono hs2r)).more (by omega))
             have HR4z : Kept (Row natV w5 w5.heap.size A4 m (List.range m)) := kp ((HR4.out.below hb5).more hs5)
             have HBZ : Kept (Below w.heap.size w w5) := kp (HBW.out.trans (hb5.mono hsr))
             clear hown5 hb5 hr5 hm5)
          | (go_at_call 18; go_must (refine (same_any _ _ _ 0 0 _ _ l l w5 HR5.out HR2z.out (by omega) (by omega) true (decide_eq_true rfl)).mono ?_); rintro e w6 ⟨rfl, kd, rfl⟩)
          | (go_at_call 20; go_must (refine (one_any (m : Int) HId.out _ HOne.out _).mono ?_); rintro e w' ⟨rfl, rfl⟩)
          | (go_at_call 21; go_must (refine (all_any (m : Int) HId.out al HAl.out _).mono ?_); rintro e w' ⟨rfl, rfl⟩)
          | (go_at_call 11; go_must (refine (ref_mask _ A4 m c4 _ _ (HR4z.out.keep (w' := w5.drewN kd) fun _ _ => rfl) HR31.out (by omega) al HMask.out).mono ?_); rintro e w' ⟨rfl, rfl⟩))
        go_ret
        exact ⟨rfl, below_drewN HBZ.out _⟩
  · have HLe := kp hle
    clear hle
    go_enter Tryd.func3, Tryd.ntmps3
    go_wp2_with (first
      | (go_at_call 9; go_must (refine (awake_any _ HT.out hs).mono ?_); rintro e w1 ⟨rfl, hb1⟩; have HB1 := kp hb1; have hs1 := hb1.size; clear hb1)
      | (go_at_call 10; go_must (refine (ref_list a ha w1).mono ?_); rintro e w2 ⟨v, rfl, hown, hb2⟩
         rw [HL.out] at hown
         obtain ⟨A2, c2, rfl, hc2, hm2, hr2⟩ := Own.readsN hown HN.out
         have HR2 := kp hr2
         have HB2 := kp (HB1.out.trans (hb2.mono (by omega)))
         have hs2 := hb2.size
         have hm22 : c2 ≤ 9223372036854775807 := by unfold maxLen at hm2; omega
         clear hown hb2 hr2 hm2
         obtain ⟨ad, x, rfl, _, hx, hc⟩ := HR2.out.get hn0
         rw [hl0] at hx
         cases hx
         have hc0 : w2.cell? ad = some (.int .i64 (k0 : Int)) := by simpa [Addr.add, natV] using hc
         have HAd : Kept (some ad = some ad) := kp rfl
         clear hc)
      | (go_at_call 11
         obtain ⟨w3, e3, hm1, hb23⟩ : ∃ w3, w2.alloc (.cells #[.int .i64 (m : Int)] 3) = w3 ∧ Row natV w3 w3.heap.size (some ⟨w2.heap.size, 0, none⟩) 1 [m] ∧ Below w2.heap.size w2 w3 := ⟨_, rfl, Row.made natV w2 [m] #[.int .i64 (m : Int)] rfl 3, (Below.refl _ _).alloc (Nat.le_refl _) _⟩
         rw [e3]
         have HM1 := kp hm1; have HB23 := kp hb23
         clear e3 hm1 hb23
         go_must (refine (ref_mask _ _ 1 1 [m] _ HM1.out H131.out (by omega) o HMk1.out).mono ?_); rintro e w' ⟨rfl, rfl⟩
         have hs23 := HB23.out.size
         have HB3 := kp (HB2.out.trans (HB23.out.mono HB2.out.size))
         have HR3 := kp (HR2.out.below HB23.out)))
    have hs3 : 1 ≤ w3.heap.size := by omega
    go_loopw [10, 11] (fun v10 v11 wr => ∃ i : Nat, i ≤ m ∧ v11 = .int .i64 i ∧ Own wr w3.heap.size 3 v10 ((List.range i).map natV) ∧ Below w3.heap.size w3 wr) (fun _ v11 _ => m - (intOf v11).toNat)
    case atStart => exact ⟨0, by omega, rfl, Own.nil _ _ _, Below.refl _ _⟩
    case round =>
      obtain ⟨i, hi, rfl, hown, hbl⟩ := hrel
      have hB := hbl.size
      have HOwn := kp hown; have HBL := kp hbl
      have hln : (List.range i).length = i := List.length_range
      have HLn := kp hln
      clear hown hbl
      by_cases hlt : i < m
      · have HN2 : Kept (List.range (i + 1) = List.range i ++ [i]) := kp List.range_succ
        generalize hq : List.range i = q at *
        clear hq
        go_wp2_with (at_builtin; go_must (refine wpList_append_one rfl (.tmp 40) (.tmp 42) 24 rfl w3.heap.size 3 _ _ Tryd.underlying24 int_info rfl _ _ _ _ rfl HOwn.out _ 1 rfl rfl rfl (by simp [maxLen]; omega) (by simp; omega) hB ?_); intro v1 w5 hown1 hg1; have HO1 := kp hown1; clear hown1; have HG1 := kp hg1; clear hg1)
        go_roundw
        case rel => exact ⟨i + 1, by omega, by go_num, by rw [HN2.out, List.map_append]; exact HO1.out, HG1.out.below HBL.out HOwn.out hB⟩
        case measure => simp [intOf]; omega
      · have hik : m = i := by omega
        subst hik
        obtain ⟨A4, c4, rfl, hc4, hm4, hr4⟩ := Own.readsN HOwn.out HLn.out
        have HR4 := kp hr4
        have HBW : Kept (Below w.heap.size w wr) := kp (HB3.out.trans (HBL.out.mono (by have := HB3.out.size; omega)))
        have HR2r : Kept (Row natV wr w2.heap.size (some ad) n l) := kp (HR3.out.below (HBL.out.mono hs23))
        have hm44 : c4 ≤ 9223372036854775807 := by unfold maxLen at hm4; omega
        have HTr : Kept (Tab wr) := kp (HT.out.below HBW.out hs)
        have hsr := HBW.out.size
        have hs2r : w2.heap.size ≤ wr.heap.size := by omega
        clear hr4 hm4 hlt HLn hln
        go_wp2_with (first
          | (go_at_call 12; go_must (refine (has_any a ha (m : Int) HId.out rh HH.out _).mono ?_); rintro e w' ⟨rfl, rfl⟩)
          | (go_at_call 13; go_must (refine (ref_has a ha (m : Int) HId.out rh HH.out _).mono ?_); rintro e w' ⟨rfl, rfl⟩)
          | (go_at_call 14; go_must (refine (within_any a b ha hb rw' HW.out _).mono ?_); rintro e w' ⟨rfl, rfl⟩)
          | (go_at_call 15; go_must (refine (ref_within a b ha hb rw' HW.out _).mono ?_); rintro e w' ⟨rfl, rfl⟩)
          | (go_at_call 16; go_must (refine (count_any a ha n HC.out _).mono ?_); rintro e w' ⟨rfl, rfl⟩)
          | (go_at_call 17; go_must (refine (least_any a ha (k0 : Int) HLe.out _ HTr.out).mono ?_); rintro e w' ⟨rfl, rfl⟩)
          | (go_at_call 19; go_must (refine (list_any a ha wr HTr.out (by omega)).mono ?_); rintro e w5 ⟨v, rfl, hown5, hb5⟩
             rw [HL.out] at hown5
             obtain ⟨A5, c5, rfl, hc5, hm5, hr5⟩ := Own.readsN hown5 HN.out
             have HR5 := kp hr5
             have HB5 := kp hb5
             have hs5 := hb5.size
             have hm55 : c5 ≤ 9223372036854775807 := by unfold maxLen at hm5; omega
             have HR2z : Kept (Row natV w5 w5.heap.size (some ad) n l) := kp ((HR2r.out.below (hb5.mono hs2r)).more (by omega))
             have HR4z : Kept (Row natV w5 w5.heap.size A4 m (List.range m)) := kp ((HR4.out.below hb5).more hs5)
             have HBZ : Kept (Below w.heap.size w w5) := kp (HBW.out.trans (hb5.mono hsr))
             clear hown5 hb5 hr5 hm5)
          | (go_at_call 18; go_must (refine (same_any _ _ _ n n _ _ l l w5 HR5.out HR2z.out (by omega) (by omega) true (decide_eq_true rfl)).mono ?_); rintro e w6 ⟨rfl, kd, rfl⟩)
          | (go_at_call 20; go_must (refine (one_any (m : Int) HId.out _ HOne.out _).mono ?_); rintro e w' ⟨rfl, rfl⟩)
          | (go_at_call 21; go_must (refine (all_any (m : Int) HId.out al HAl.out _).mono ?_); rintro e w' ⟨rfl, rfl⟩)
          | (go_at_call 11; go_must (refine (ref_mask _ A4 m c4 _ _ (HR4z.out.keep (w' := w5.drewN kd) fun _ _ => rfl) HR31.out (by omega) al HMask.out).mono ?_); rintro e w' ⟨rfl, rfl⟩))
        go_ret
        exact ⟨rfl, below_drewN HBZ.out _⟩

set_option maxRecDepth 1000000 in
set_option maxHeartbeats 4000000 in
theorem tellLow (a b : Nat) (ha : a < 4294967296) (hb : b < 4294967296) (id : Int) (hid : -9223372036854775808 ≤ id ∧ id ≤ 9223372036854775807) (h0 : id < 0) (w : World) (hL : Tab w) :
    Calls Tryd.prog 3 #[.int .u32 (a : Int), .int .u32 (b : Int), .int .i64 id] w fun e w' => e = .returned (.bool true) ∧ Below w.heap.size w w' := by
  have hs := hL.size
  have HT := kp hL
  have HId := kp hid
  have HOne : Kept (S.one id = 0) := kp (S.one_out id (by omega))
  have hmask := mask_all 0 id (by omega) (by unfold S.all; rw [if_pos (by omega), if_pos (by omega)])
  obtain ⟨l, hl⟩ : ∃ l, S.ids a 32 = l := ⟨_, rfl⟩
  obtain ⟨n, hn⟩ : ∃ n, l.length = n := ⟨_, rfl⟩
  have hn32 : n ≤ 32 := by rw [← hn, ← hl]; exact S.ids_len a 32
  obtain ⟨rh, hrh⟩ : ∃ r, S.has a id = r := ⟨_, rfl⟩
  obtain ⟨rw', hrw⟩ : ∃ r, S.within a b 32 = r := ⟨_, rfl⟩
  obtain ⟨al, hal⟩ : ∃ r, S.all id = r := ⟨_, rfl⟩
  have HMask : Kept (S.mask (List.range 0) % 4294967296 = al) := kp <| by rw [← hal]; exact hmask
  have hb1 : (rh == rh) = true := by cases rh <;> rfl
  have hb2 : (rw' == rw') = true := by cases rw' <;> rfl
  have HC : Kept (S.count a = n) := kp <| by rw [← hn, ← hl]; rfl
  have HL := kp hl; have HN := kp hn; have HH := kp hrh; have HW := kp hrw; have HAl := kp hal
  have HR31 : Kept (∀ x ∈ List.range 0, x ≤ 31) := kp <| fun x hx => by have := List.mem_range.1 hx; omega
  clear hL hrh hrw hal hmask hid
  have hcase : (a = 0 ∧ n = 0 ∧ S.least a = -1) ∨ ∃ k0 : Nat, k0 ≤ 31 ∧ 0 < n ∧ l[0]? = some k0 ∧ S.least a = (k0 : Int) := by
    by_cases h0 : a = 0
    · subst h0
      refine .inl ⟨rfl, ?_, by unfold S.least; rw [S.ids_zero]⟩
      rw [← hn, ← hl, S.ids_zero]; rfl
    · obtain ⟨k0, hk0, hi, _, _⟩ := S.low a h0 ha
      refine .inr ⟨k0, hk0, ?_, ?_, S.least_low a k0 _ hi⟩
      · rw [← hn, ← hl, hi]; simp
      · rw [← hl, hi]; rfl
  clear hl hn
  rcases hcase with ⟨-, hn0, hle⟩ | ⟨k0, hk0, hn0, hl0, hle⟩
  · have HLe := kp hle
    clear hle
    subst hn0
    go_enter Tryd.func3, Tryd.ntmps3
    go_wp2_with (first
      | (go_at_call 9; go_must (refine (awake_any _ HT.out hs).mono ?_); rintro e w1 ⟨rfl, hb1⟩; have HB1 := kp hb1; have hs1 := hb1.size; clear hb1)
      | (go_at_call 10; go_must (refine (ref_list a ha w1).mono ?_); rintro e w2 ⟨v, rfl, hown, hb2⟩
         rw [HL.out] at hown
         obtain ⟨A2, c2, rfl, hc2, hm2, hr2⟩ := Own.readsN hown HN.out
         have HR2 := kp hr2
         have HB2 := kp (HB1.out.trans (hb2.mono (by omega)))
         have hs2 := hb2.size
         have hm22 : c2 ≤ 9223372036854775807 := by unfold maxLen at hm2; omega
         clear hown hb2 hr2 hm2))
    have HB3 := HB2; have HR3 := HR2; have hs23 : w2.heap.size ≤ w2.heap.size := Nat.le_refl _
    have hs3 : 1 ≤ w2.heap.size := by omega
    go_loopw [10, 11] (fun v10 v11 wr => ∃ i : Nat, i ≤ 0 ∧ v11 = .int .i64 i ∧ Own wr w2.heap.size 3 v10 ((List.range i).map natV) ∧ Below w2.heap.size w2 wr) (fun _ v11 _ => 0 - (intOf v11).toNat)
    case atStart => exact ⟨0, by omega, rfl, Own.nil _ _ _, Below.refl _ _⟩
    case round =>
      obtain ⟨i, hi, rfl, hown, hbl⟩ := hrel
      have hB := hbl.size
      have HOwn := kp hown; have HBL := kp hbl
      have hln : (List.range i).length = i := List.length_range
      have HLn := kp hln
      clear hown hbl
      by_cases hlt : i < 0
      · exfalso; omega
      · have hik : 0 = i := by omega
        subst hik
        obtain ⟨A4, c4, rfl, hc4, hm4, hr4⟩ := Own.readsN HOwn.out HLn.out
        have HR4 := kp hr4
        have HBW : Kept (Below w.heap.size w wr) := kp (HB3.out.trans (HBL.out.mono (by have := HB3.out.size; omega)))
        have HR2r : Kept (Row natV wr w2.heap.size A2 0 l) := kp (HR3.out.below (HBL.out.mono hs23))
        have hm44 : c4 ≤ 9223372036854775807 := by unfold maxLen at hm4; omega
        have HTr : Kept (Tab wr) := kp (HT.out.below HBW.out hs)
        have hsr := HBW.out.size
        have hs2r : w2.heap.size ≤ wr.heap.size := by omega
        clear hr4 hm4 hlt HLn hln
        go_wp2_with (first
          | (go_at_call 12; go_must (refine (has_any a ha id HId.out rh HH.out _).mono ?_); rintro e w' ⟨rfl, rfl⟩)
          | (go_at_call 13; go_must (refine (ref_has a ha id HId.out rh HH.out _).mono ?_); rintro e w' ⟨rfl, rfl⟩)
          | (go_at_call 14; go_must (refine (within_any a b ha hb rw' HW.out _).mono ?_); rintro e w' ⟨rfl, rfl⟩)
          | (go_at_call 15; go_must (refine (ref_within a b ha hb rw' HW.out _).mono ?_); rintro e w' ⟨rfl, rfl⟩)
          | (go_at_call 16; go_must (refine (count_any a ha 0 HC.out _).mono ?_); rintro e w' ⟨rfl, rfl⟩)
          | (go_at_call 17; go_must (refine (least_any a ha (-1) HLe.out _ HTr.out).mono ?_); rintro e w' ⟨rfl, rfl⟩)
          | (go_at_call 19; go_must (refine (list_any a ha wr HTr.out (by omega)).mono ?_); rintro e w5 ⟨v, rfl, hown5, hb5⟩
             rw [HL.out] at hown5
             obtain ⟨A5, c5, rfl, hc5, hm5, hr5⟩ := Own.readsN hown5 HN.out
             have HR5 := kp hr5
             have HB5 := kp hb5
             have hs5 := hb5.size
             have hm55 : c5 ≤ 9223372036854775807 := by unfold maxLen at hm5; omega
             have HR2z : Kept (Row natV w5 w5.heap.size A2 0 l) := kp ((HR2r.out.below (hb5.mono hs2r)).more (by omega))
             have HR4z : Kept (Row natV w5 w5.heap.size A4 0 (List.range 0)) := kp ((HR4.out.below hb5).more hs5)
             have HBZ : Kept (Below w.heap.size w w5) := kp (HBW.out.trans (hb5.mono hsr))
             clear hown5 hb5 hr5 hm5)
          | (go_at_call 18; go_must (refine (same_any _ _ _ 0 0 _ _ l l w5 HR5.out HR2z.out (by omega) (by omega) true (decide_eq_true rfl)).mono ?_); rintro e w6 ⟨rfl, kd, rfl⟩)
          | (go_at_call 20; go_must (refine (one_any id HId.out _ HOne.out _).mono ?_); rintro e w' ⟨rfl, rfl⟩)
          | (go_at_call 21; go_must (refine (all_any id HId.out al HAl.out _).mono ?_); rintro e w' ⟨rfl, rfl⟩)
          | (go_at_call 11; go_must (refine (ref_mask _ A4 0 c4 _ _ (HR4z.out.keep (w' := w5.drewN kd) fun _ _ => rfl) HR31.out (by omega) al HMask.out).mono ?_); rintro e w' ⟨rfl, rfl⟩))
        go_ret
        exact ⟨rfl, below_drewN HBZ.out _⟩
  · have HLe := kp hle
    clear hle
    go_enter Tryd.func3, Tryd.ntmps3
    go_wp2_with (first
      | (go_at_call 9; go_must (refine (awake_any _ HT.out hs).mono ?_); rintro e w1 ⟨rfl, hb1⟩; have HB1 := kp hb1; have hs1 := hb1.size; clear hb1)
      | (go_at_call 10; go_must (refine (ref_list a ha w1).mono ?_); rintro e w2 ⟨v, rfl, hown, hb2⟩
         rw [HL.out] at hown
         obtain ⟨A2, c2, rfl, hc2, hm2, hr2⟩ := Own.readsN hown HN.out
         have HR2 := kp hr2
         have HB2 := kp (HB1.out.trans (hb2.mono (by omega)))
         have hs2 := hb2.size
         have hm22 : c2 ≤ 9223372036854775807 := by unfold maxLen at hm2; omega
         clear hown hb2 hr2 hm2
         obtain ⟨ad, x, rfl, _, hx, hc⟩ := HR2.out.get hn0
         rw [hl0] at hx
         cases hx
         have hc0 : w2.cell? ad = some (.int .i64 (k0 : Int)) := by simpa [Addr.add, natV] using hc
         have HAd : Kept (some ad = some ad) := kp rfl
         clear hc))
    have HB3 := HB2; have HR3 := HR2; have hs23 : w2.heap.size ≤ w2.heap.size := Nat.le_refl _
    have hs3 : 1 ≤ w2.heap.size := by omega
    go_loopw [10, 11] (fun v10 v11 wr => ∃ i : Nat, i ≤ 0 ∧ v11 = .int .i64 i ∧ Own wr w2.heap.size 3 v10 ((List.range i).map natV) ∧ Below w2.heap.size w2 wr) (fun _ v11 _ => 0 - (intOf v11).toNat)
    case atStart => exact ⟨0, by omega, rfl, Own.nil _ _ _, Below.refl _ _⟩
    case round =>
      obtain ⟨i, hi, rfl, hown, hbl⟩ := hrel
      have hB := hbl.size
      have HOwn := kp hown; have HBL := kp hbl
      have hln : (List.range i).length = i := List.length_range
      have HLn := kp hln
      clear hown hbl
      by_cases hlt : i < 0
      · exfalso; omega
      · have hik : 0 = i := by omega
        subst hik
        obtain ⟨A4, c4, rfl, hc4, hm4, hr4⟩ := Own.readsN HOwn.out HLn.out
        have HR4 := kp hr4
        have HBW : Kept (Below w.heap.size w wr) := kp (HB3.out.trans (HBL.out.mono (by have := HB3.out.size; omega)))
        have HR2r : Kept (Row natV wr w2.heap.size (some ad) n l) := kp (HR3.out.below (HBL.out.mono hs23))
        have hm44 : c4 ≤ 9223372036854775807 := by unfold maxLen at hm4; omega
        have HTr : Kept (Tab wr) := kp (HT.out.below HBW.out hs)
        have hsr := HBW.out.size
        have hs2r : w2.heap.size ≤ wr.heap.size := by omega
        clear hr4 hm4 hlt HLn hln
        go_wp2_with (first
          | (go_at_call 12; go_must (refine (has_any a ha id HId.out rh HH.out _).mono ?_); rintro e w' ⟨rfl, rfl⟩)
          | (go_at_call 13; go_must (refine (ref_has a ha id HId.out rh HH.out _).mono ?_); rintro e w' ⟨rfl, rfl⟩)
          | (go_at_call 14; go_must (refine (within_any a b ha hb rw' HW.out _).mono ?_); rintro e w' ⟨rfl, rfl⟩)
          | (go_at_call 15; go_must (refine (ref_within a b ha hb rw' HW.out _).mono ?_); rintro e w' ⟨rfl, rfl⟩)
          | (go_at_call 16; go_must (refine (count_any a ha n HC.out _).mono ?_); rintro e w' ⟨rfl, rfl⟩)
          | (go_at_call 17; go_must (refine (least_any a ha (k0 : Int) HLe.out _ HTr.out).mono ?_); rintro e w' ⟨rfl, rfl⟩)
          | (go_at_call 19; go_must (refine (list_any a ha wr HTr.out (by omega)).mono ?_); rintro e w5 ⟨v, rfl, hown5, hb5⟩
             rw [HL.out] at hown5
             obtain ⟨A5, c5, rfl, hc5, hm5, hr5⟩ := Own.readsN hown5 HN.out
             have HR5 := kp hr5
             have HB5 := kp hb5
             have hs5 := hb5.size
             have hm55 : c5 ≤ 9223372036854775807 := by unfold maxLen at hm5; omega
             have HR2z : Kept (Row natV w5 w5.heap.size (some ad) n l) := kp ((HR2r.out.below (hb5.mono hs2r)).more (by omega))
             have HR4z : Kept (Row natV w5 w5.heap.size A4 0 (List.range 0)) := kp ((HR4.out.below hb5).more hs5)
             have HBZ : Kept (Below w.heap.size w w5) := kp (HBW.out.trans (hb5.mono hsr))
             clear hown5 hb5 hr5 hm5)
          | (go_at_call 18; go_must (refine (same_any _ _ _ n n _ _ l l w5 HR5.out HR2z.out (by omega) (by omega) true (decide_eq_true rfl)).mono ?_); rintro e w6 ⟨rfl, kd, rfl⟩)
          | (go_at_call 20; go_must (refine (one_any id HId.out _ HOne.out _).mono ?_); rintro e w' ⟨rfl, rfl⟩)
          | (go_at_call 21; go_must (refine (all_any id HId.out al HAl.out _).mono ?_); rintro e w' ⟨rfl, rfl⟩)
          | (go_at_call 11; go_must (refine (ref_mask _ A4 0 c4 _ _ (HR4z.out.keep (w' := w5.drewN kd) fun _ _ => rfl) HR31.out (by omega) al HMask.out).mono ?_); rintro e w' ⟨rfl, rfl⟩))
        go_ret
        exact ⟨rfl, below_drewN HBZ.out _⟩

set_option maxRecDepth 1000000 in
set_option maxHeartbeats 4000000 in
theorem tellHigh (a b : Nat) (ha : a < 4294967296) (hb : b < 4294967296) (id : Int) (hid : -9223372036854775808 ≤ id ∧ id ≤ 9223372036854775807) (h0 : 31 < id) (w : World) (hL : Tab w) :
    Calls Tryd.prog 3 #[.int .u32 (a : Int), .int .u32 (b : Int), .int .i64 id] w fun e w' => e = .returned (.bool true) ∧ Below w.heap.size w w' := by
  have hs := hL.size
  have HT := kp hL
  have HId := kp hid
  have HOne : Kept (S.one id = 0) := kp (S.one_out id (by omega))
  have hmask := mask_all 32 id (by omega) (by unfold S.all; rw [if_neg (by omega), if_pos (by omega), if_neg (by decide), if_pos (by decide)])
  obtain ⟨l, hl⟩ : ∃ l, S.ids a 32 = l := ⟨_, rfl⟩
  obtain ⟨n, hn⟩ : ∃ n, l.length = n := ⟨_, rfl⟩
  have hn32 : n ≤ 32 := by rw [← hn, ← hl]; exact S.ids_len a 32
  obtain ⟨rh, hrh⟩ : ∃ r, S.has a id = r := ⟨_, rfl⟩
  obtain ⟨rw', hrw⟩ : ∃ r, S.within a b 32 = r := ⟨_, rfl⟩
  obtain ⟨al, hal⟩ : ∃ r, S.all id = r := ⟨_, rfl⟩
  have HMask : Kept (S.mask (List.range 32) % 4294967296 = al) := kp <| by rw [← hal]; exact hmask
  have hb1 : (rh == rh) = true := by cases rh <;> rfl
  have hb2 : (rw' == rw') = true := by cases rw' <;> rfl
  have HC : Kept (S.count a = n) := kp <| by rw [← hn, ← hl]; rfl
  have HL := kp hl; have HN := kp hn; have HH := kp hrh; have HW := kp hrw; have HAl := kp hal
  have HR31 : Kept (∀ x ∈ List.range 32, x ≤ 31) := kp <| fun x hx => by have := List.mem_range.1 hx; omega
  clear hL hrh hrw hal hmask hid
  have hcase : (a = 0 ∧ n = 0 ∧ S.least a = -1) ∨ ∃ k0 : Nat, k0 ≤ 31 ∧ 0 < n ∧ l[0]? = some k0 ∧ S.least a = (k0 : Int) := by
    by_cases h0 : a = 0
    · subst h0
      refine .inl ⟨rfl, ?_, by unfold S.least; rw [S.ids_zero]⟩
      rw [← hn, ← hl, S.ids_zero]; rfl
    · obtain ⟨k0, hk0, hi, _, _⟩ := S.low a h0 ha
      refine .inr ⟨k0, hk0, ?_, ?_, S.least_low a k0 _ hi⟩
      · rw [← hn, ← hl, hi]; simp
      · rw [← hl, hi]; rfl
  clear hl hn
  rcases hcase with ⟨-, hn0, hle⟩ | ⟨k0, hk0, hn0, hl0, hle⟩
  · have HLe := kp hle
    clear hle
    subst hn0
    go_enter Tryd.func3, Tryd.ntmps3
    go_wp2_with (first
      | (go_at_call 9; go_must (refine (awake_any _ HT.out hs).mono ?_); rintro e w1 ⟨rfl, hb1⟩; have HB1 := kp hb1; have hs1 := hb1.size; clear hb1)
      | (go_at_call 10; go_must (refine (ref_list a ha w1).mono ?_); rintro e w2 ⟨v, rfl, hown, hb2⟩
         rw [HL.out] at hown
         obtain ⟨A2, c2, rfl, hc2, hm2, hr2⟩ := Own.readsN hown HN.out
         have HR2 := kp hr2
         have HB2 := kp (HB1.out.trans (hb2.mono (by omega)))
         have hs2 := hb2.size
         have hm22 : c2 ≤ 9223372036854775807 := by unfold maxLen at hm2; omega
         clear hown hb2 hr2 hm2))
    have HB3 := HB2; have HR3 := HR2; have hs23 : w2.heap.size ≤ w2.heap.size := Nat.le_refl _
    have hs3 : 1 ≤ w2.heap.size := by omega
    go_loopw [10, 11] (fun v10 v11 wr => ∃ i : Nat, i ≤ 32 ∧ v11 = .int .i64 i ∧ Own wr w2.heap.size 3 v10 ((List.range i).map natV) ∧ Below w2.heap.size w2 wr) (fun _ v11 _ => 32 - (intOf v11).toNat)
    case atStart => exact ⟨0, by omega, rfl, Own.nil _ _ _, Below.refl _ _⟩
    case round =>
      obtain ⟨i, hi, rfl, hown, hbl⟩ := hrel
      have hB := hbl.size
      have HOwn := kp hown; have HBL := kp hbl
      have hln : (List.range i).length = i := List.length_range
      have HLn := kp hln
      clear hown hbl
      by_cases hlt : i < 32
      · have HN2 : Kept (List.range (i + 1) = List.range i ++ [i]) := kp List.range_succ
        generalize hq : List.range i = q at *
        clear hq
        go_wp2_with (at_builtin; go_must (refine wpList_append_one rfl (.tmp 40) (.tmp 42) 24 rfl w2.heap.size 3 _ _ Tryd.underlying24 int_info rfl _ _ _ _ rfl HOwn.out _ 1 rfl rfl rfl (by simp [maxLen]; omega) (by simp; omega) hB ?_); intro v1 w5 hown1 hg1; have HO1 := kp hown1; clear hown1; have HG1 := kp hg1; clear hg1)
        go_roundw
        case rel => exact ⟨i + 1, by omega, by go_num, by rw [HN2.out, List.map_append]; exact HO1.out, HG1.out.below HBL.out HOwn.out hB⟩
        case measure => simp [intOf]; omega
      · have hik : 32 = i := by omega
        subst hik
        obtain ⟨A4, c4, rfl, hc4, hm4, hr4⟩ := Own.readsN HOwn.out HLn.out
        have HR4 := kp hr4
        have HBW : Kept (Below w.heap.size w wr) := kp (HB3.out.trans (HBL.out.mono (by have := HB3.out.size; omega)))
        have HR2r : Kept (Row natV wr w2.heap.size A2 0 l) := kp (HR3.out.below (HBL.out.mono hs23))
        have hm44 : c4 ≤ 9223372036854775807 := by unfold maxLen at hm4; omega
        have HTr : Kept (Tab wr) := kp (HT.out.below HBW.out hs)
        have hsr := HBW.out.size
        have hs2r : w2.heap.size ≤ wr.heap.size := by omega
        clear hr4 hm4 hlt HLn hln
        go_wp2_with (first
          | (go_at_call 12; go_must (refine (has_any a ha id HId.out rh HH.out _).mono ?_); rintro e w' ⟨rfl, rfl⟩)
          | (go_at_call 13; go_must (refine (ref_has a ha id HId.out rh HH.out _).mono ?_); rintro e w' ⟨rfl, rfl⟩)
          | (go_at_call 14; go_must (refine (within_any a b ha hb rw' HW.out _).mono ?_); rintro e w' ⟨rfl, rfl⟩)
          | (go_at_call 15; go_must (refine (ref_within a b ha hb rw' HW.out _).mono ?_); rintro e w' ⟨rfl, rfl⟩)
          | (go_at_call 16; go_must (refine (count_any a ha 0 HC.out _).mono ?_); rintro e w' ⟨rfl, rfl⟩)
          | (go_at_call 17; go_must (refine (least_any a ha (-1) HLe.out _ HTr.out).mono ?_); rintro e w' ⟨rfl, rfl⟩)
          | (go_at_call 19; go_must (refine (list_any a ha wr HTr.out (by omega)).mono ?_); rintro e w5 ⟨v, rfl, hown5, hb5⟩
             rw [HL.out] at hown5
             obtain ⟨A5, c5, rfl, hc5, hm5, hr5⟩ := Own.readsN hown5 HN.out
             have HR5 := kp hr5
             have HB5 := kp hb5
             have hs5 := hb5.size
             have hm55 : c5 ≤ 9223372036854775807 := by unfold maxLen at hm5; omega
             have HR2z : Kept (Row natV w5 w5.heap.size A2 0 l) := kp ((HR2r.out.below (hb5.mono hs2r)).more (by omega))
             have HR4z : Kept (Row natV w5 w5.heap.size A4 32 (List.range 32)) := kp ((HR4.out.below hb5).more hs5)
             have HBZ : Kept (Below w.heap.size w w5) := kp (HBW.out.trans (hb5.mono hsr))
             clear hown5 hb5 hr5 hm5)
          | (go_at_call 18; go_must (refine (same_any _ _ _ 0 0 _ _ l l w5 HR5.out HR2z.out (by omega) (by omega) true (decide_eq_true rfl)).mono ?_); rintro e w6 ⟨rfl, kd, rfl⟩)
          | (go_at_call 20; go_must (refine (one_any id HId.out _ HOne.out _).mono ?_); rintro e w' ⟨rfl, rfl⟩)
          | (go_at_call 21; go_must (refine (all_any id HId.out al HAl.out _).mono ?_); rintro e w' ⟨rfl, rfl⟩)
          | (go_at_call 11; go_must (refine (ref_mask _ A4 32 c4 _ _ (HR4z.out.keep (w' := w5.drewN kd) fun _ _ => rfl) HR31.out (by omega) al HMask.out).mono ?_); rintro e w' ⟨rfl, rfl⟩))
        go_ret
        exact ⟨rfl, below_drewN HBZ.out _⟩
  · have HLe := kp hle
    clear hle
    go_enter Tryd.func3, Tryd.ntmps3
    go_wp2_with (first
      | (go_at_call 9; go_must (refine (awake_any _ HT.out hs).mono ?_); rintro e w1 ⟨rfl, hb1⟩; have HB1 := kp hb1; have hs1 := hb1.size; clear hb1)
      | (go_at_call 10; go_must (refine (ref_list a ha w1).mono ?_); rintro e w2 ⟨v, rfl, hown, hb2⟩
         rw [HL.out] at hown
         obtain ⟨A2, c2, rfl, hc2, hm2, hr2⟩ := Own.readsN hown HN.out
         have HR2 := kp hr2
         have HB2 := kp (HB1.out.trans (hb2.mono (by omega)))
         have hs2 := hb2.size
         have hm22 : c2 ≤ 9223372036854775807 := by unfold maxLen at hm2; omega
         clear hown hb2 hr2 hm2
         obtain ⟨ad, x, rfl, _, hx, hc⟩ := HR2.out.get hn0
         rw [hl0] at hx
         cases hx
         have hc0 : w2.cell? ad = some (.int .i64 (k0 : Int)) := by simpa [Addr.add, natV] using hc
         have HAd : Kept (some ad = some ad) := kp rfl
         clear hc))
    have HB3 := HB2; have HR3 := HR2; have hs23 : w2.heap.size ≤ w2.heap.size := Nat.le_refl _
    have hs3 : 1 ≤ w2.heap.size := by omega
    go_loopw [10, 11] (fun v10 v11 wr => ∃ i : Nat, i ≤ 32 ∧ v11 = .int .i64 i ∧ Own wr w2.heap.size 3 v10 ((List.range i).map natV) ∧ Below w2.heap.size w2 wr) (fun _ v11 _ => 32 - (intOf v11).toNat)
    case atStart => exact ⟨0, by omega, rfl, Own.nil _ _ _, Below.refl _ _⟩
    case round =>
      obtain ⟨i, hi, rfl, hown, hbl⟩ := hrel
      have hB := hbl.size
      have HOwn := kp hown; have HBL := kp hbl
      have hln : (List.range i).length = i := List.length_range
      have HLn := kp hln
      clear hown hbl
      by_cases hlt : i < 32
      · have HN2 : Kept (List.range (i + 1) = List.range i ++ [i]) := kp List.range_succ
        generalize hq : List.range i = q at *
        clear hq
        go_wp2_with (at_builtin; go_must (refine wpList_append_one rfl (.tmp 40) (.tmp 42) 24 rfl w2.heap.size 3 _ _ Tryd.underlying24 int_info rfl _ _ _ _ rfl HOwn.out _ 1 rfl rfl rfl (by simp [maxLen]; omega) (by simp; omega) hB ?_); intro v1 w5 hown1 hg1; have HO1 := kp hown1; clear hown1; have HG1 := kp hg1; clear hg1)
        go_roundw
        case rel => exact ⟨i + 1, by omega, by go_num, by rw [HN2.out, List.map_append]; exact HO1.out, HG1.out.below HBL.out HOwn.out hB⟩
        case measure => simp [intOf]; omega
      · have hik : 32 = i := by omega
        subst hik
        obtain ⟨A4, c4, rfl, hc4, hm4, hr4⟩ := Own.readsN HOwn.out HLn.out
        have HR4 := kp hr4
        have HBW : Kept (Below w.heap.size w wr) := kp (HB3.out.trans (HBL.out.mono (by have := HB3.out.size; omega)))
        have HR2r : Kept (Row natV wr w2.heap.size (some ad) n l) := kp (HR3.out.below (HBL.out.mono hs23))
        have hm44 : c4 ≤ 9223372036854775807 := by unfold maxLen at hm4; omega
        have HTr : Kept (Tab wr) := kp (HT.out.below HBW.out hs)
        have hsr := HBW.out.size
        have hs2r : w2.heap.size ≤ wr.heap.size := by omega
        clear hr4 hm4 hlt HLn hln
        go_wp2_with (first
          | (go_at_call 12; go_must (refine (has_any a ha id HId.out rh HH.out _).mono ?_); rintro e w' ⟨rfl, rfl⟩)
          | (go_at_call 13; go_must (refine (ref_has a ha id HId.out rh HH.out _).mono ?_); rintro e w' ⟨rfl, rfl⟩)
          | (go_at_call 14; go_must (refine (within_any a b ha hb rw' HW.out _).mono ?_); rintro e w' ⟨rfl, rfl⟩)
          | (go_at_call 15; go_must (refine (ref_within a b ha hb rw' HW.out _).mono ?_); rintro e w' ⟨rfl, rfl⟩)
          | (go_at_call 16; go_must (refine (count_any a ha n HC.out _).mono ?_); rintro e w' ⟨rfl, rfl⟩)
          | (go_at_call 17; go_must (refine (least_any a ha (k0 : Int) HLe.out _ HTr.out).mono ?_); rintro e w' ⟨rfl, rfl⟩)
          | (go_at_call 19; go_must (refine (list_any a ha wr HTr.out (by omega)).mono ?_); rintro e w5 ⟨v, rfl, hown5, hb5⟩
             rw [HL.out] at hown5
             obtain ⟨A5, c5, rfl, hc5, hm5, hr5⟩ := Own.readsN hown5 HN.out
             have HR5 := kp hr5
             have HB5 := kp hb5
             have hs5 := hb5.size
             have hm55 : c5 ≤ 9223372036854775807 := by unfold maxLen at hm5; omega
             have HR2z : Kept (Row natV w5 w5.heap.size (some ad) n l) := kp ((HR2r.out.below (hb5.mono hs2r)).more (by omega))
             have HR4z : Kept (Row natV w5 w5.heap.size A4 32 (List.range 32)) := kp ((HR4.out.below hb5).more hs5)
             have HBZ : Kept (Below w.heap.size w w5) := kp (HBW.out.trans (hb5.mono hsr))
             clear hown5 hb5 hr5 hm5)
          | (go_at_call 18; go_must (refine (same_any _ _ _ n n _ _ l l w5 HR5.out HR2z.out (by omega) (by omega) true (decide_eq_true rfl)).mono ?_); rintro e w6 ⟨rfl, kd, rfl⟩)
          | (go_at_call 20; go_must (refine (one_any id HId.out _ HOne.out _).mono ?_); rintro e w' ⟨rfl, rfl⟩)
          | (go_at_call 21; go_must (refine (all_any id HId.out al HAl.out _).mono ?_); rintro e w' ⟨rfl, rfl⟩)
          | (go_at_call 11; go_must (refine (ref_mask _ A4 32 c4 _ _ (HR4z.out.keep (w' := w5.drewN kd) fun _ _ => rfl) HR31.out (by omega) al HMask.out).mono ?_); rintro e w' ⟨rfl, rfl⟩))
        go_ret
        exact ⟨rfl, below_drewN HBZ.out _⟩

theorem walkSetsTell (a0 : Int) (a1 : Int) (a2 : Int) (w : World) (w0 : (Lit.int .u32 a0).wf = true) (w1 : (Lit.int .u32 a1).wf = true) (w2 : (Lit.int .i64 a2).wf = true) (hL : Tab w) :
    Calls Tryd.prog 3 #[.int .u32 a0, .int .u32 a1, .int .i64 a2] w fun e w' => e = .returned (.bool true) ∧ Below w.heap.size w w' := by
  obtain ⟨a, rfl, ha⟩ := nat_u32 w0
  obtain ⟨b, rfl, hb⟩ := nat_u32 w1
  have hid := int_i64 w2
  by_cases h0 : a2 < 0
  · exact tellLow a b ha hb a2 hid h0 w hL
  · by_cases h1 : 31 < a2
    · exact tellHigh a b ha hb a2 hid h1 w hL
    · exact tellIn a b ha hb a2 hid (by omega) (by omega) w hL
end Go.Proofs.YtpokpaaaeedniaaDoor
