/- ShaKeeps, walked. -/
import Derived.Test.YtoagmmelklkoaaaDoorShaLaw2
import Derived.Test.YtoagmmelklkoaaaDoorOwn
namespace Go.Proofs.YtoagmmelklkoaaaDoor
open Go.RowKit

set_option maxRecDepth 1000000 in
set_option maxHeartbeats 1600000 in
theorem walkShaKeeps (a0 : Option Addr) (len0 cap0 : Nat) (z0 : List Int) (a1 : Option Addr) (len1 cap1 : Nat) (z1 : List Int) (w : World) (w0 : IsRow .u8 w a0 len0 cap0 z0) (w1 : IsRow .u8 w a1 len1 cap1 z1) (hL : Row wordV w 1 (some ⟨0, 0, none⟩) 64 H.K) :
    Calls Tryd.prog 5 #[.slice a0 len0 cap0, .slice a1 len1 cap1] w fun e w' => e = .returned (.bool true) ∧ Below w.heap.size w w' := by
  obtain ⟨bs, hr, hb, hm, hlc, hcm⟩ := w0.bytes
  obtain ⟨cs, hr1, hb1, hm1, hlc1, hcm1⟩ := w1.bytes
  have HR := kp hr; have HN := kp hb; have HR1 := kp hr1; have HN1 := kp hb1; have HK := kp hL
  have hk1 := keys_size hL
  have hlen0 := hr.len; have hlen1 := hr1.len
  have HL0 := kp hlen0; have HL1 := kp hlen1
  unfold maxLen at hm hcm hm1 hcm1
  clear w0 hr hb w1 hr1 hb1 hL hlen0 hlen1
  by_cases h : 3000 < len0 ∨ 3000 < len1
  · have hor : ∀ (P : Prop), (3000 < len0 → P) → (¬ 3000 < len0 → 3000 < len1 → P) → P := fun P f g => by
      by_cases h0 : 3000 < len0
      · exact f h0
      · exact g h0 (h.resolve_left h0)
    clear h
    refine hor _ ?_ ?_
    all_goals
      clear hor
      intros
      go_enter Tryd.func5, Tryd.ntmps5
      go_wp2_with fail
      refine (awake_any _ HK.out).mono ?_
      rintro e w1 ⟨rfl, hb1⟩
      have HB1 := kp hb1; clear hb1
      go_wp2_with fail
      refine (awake_any _ (HK.out.below (HB1.out.mono hk1))).mono ?_
      rintro e w2 ⟨rfl, hb2⟩
      have HB2 := kp hb2; clear hb2
      go_wp2
      go_ret
      exact ⟨rfl, HB1.out.trans (HB2.out.mono HB1.out.size)⟩
  · have h0 : len0 ≤ 3000 := by omega
    have h1 : len1 ≤ 3000 := by omega
    clear h
    go_enter Tryd.func5, Tryd.ntmps5
    go_wp2_with (first
      | (go_at_call 7; go_must (refine (awake_any _ HK.out).mono ?_); rintro e w1 ⟨rfl, hb1⟩; have HB1 := kp hb1; have HO0 := kp (Own.new w1 w.heap.size 5 [] hb1.size (by simp [maxLen])); have HB1a := kp (hb1.alloc hb1.size (.cells #[] 5)); clear hb1)
      | ((with_reducible show wpList _ _ _ (⟨some 23, _, _, _, _, _⟩ :: _) _ _); go_must (refine wpList_append_row rfl (.tmp 21) (.tmp 22) 22 rfl w.heap.size 5 _ _ Tryd.underlying22 byte_info rfl _ _ _ rfl HO0.out a0 len0 cap0 _ _ rfl ((HR.out.below HB1a.out).vals) (ones _ one_byteV _) (by simp [maxLen]; omega) (by simp; omega) HB1a.out.size ?_); intro v2 w2 hown2 hg2; have HO2 := kp hown2; have HB2 := kp (hg2.below HB1a.out HO0.out HB1a.out.size); clear hown2 hg2)
      | (go_at_call 10; go_must (refine (new_any _).mono ?_); rintro e w3 ⟨g, rfl, hg3, hs3, hw3⟩
         obtain ⟨A2, c2, rfl, hlc2, hcm2, hr2, hbk2, hcell2⟩ := Own.split (bs := bs) (n := len0) (HO2.out.below hw3 (Nat.le_refl _)) HL0.out
         have hB3 : Below w.heap.size w w3 := HB2.out.trans (hw3.mono HB2.out.size)
         have hwg : w.heap.size ≤ g := Nat.le_trans HB2.out.size hg3
         have HO2b := HO2.out.block
         have hne : ∀ ad, A2 = some ad → ad.block ≠ g := by
           intro ad e e2
           have := (HO2b ad.block (by rw [e]; rfl)).2
           omega
         have HS3 := kp hs3; have HB3 := kp hB3; have HR2 := kp hr2; have HBk2 := kp hbk2; have HC2 := kp hcell2; have HNe := kp hne
         clear hg3 hs3 hw3 hr2 hbk2 hcell2 hB3 HO2b hne)
      | (go_at_call 11; go_must (refine (write_any g [] bs A2 len0 c2 w3.heap.size w3 HS3.out HR2.out (Nat.le_refl _) HN.out (fun ad _ e => HNe.out ad e) (HK.out.below (HB3.out.mono hk1)) (by omega) hlc2 (by simp; omega)).mono ?_); rintro e w4 ⟨rfl, hs4, hg4⟩
         have hB4 : Below w.heap.size w w4 := HB3.out.grown hg4 HB3.out.size (by intro k e; cases e; exact hwg)
         have hr4 := HR2.out.grown hg4 (Nat.le_refl _) (by intro a _ e e2; exact HNe.out a e (by cases e2; rfl))
         have hcv1 := run_string (P := Tryd.prog) hr4 22 5 9 c2 Tryd.underlying22 Tryd.underlying5 Tryd.underlying9
         have hcv2 := run_string (P := Tryd.prog) (HR.out.below hB4) 22 5 9 cap0 Tryd.underlying22 Tryd.underlying5 Tryd.underlying9
         have HS4 := kp hs4; have HG4 := kp hg4; have HB4 := kp hB4
         clear hs4 hg4 hB4 hr4))
    clear hcv1 hcv2
    have hgw4 : g < w4.heap.size := by obtain ⟨_, _, _, hb⟩ := HS4.out; exact hb.lt
    -- the block of what was handed in, if it has any
    obtain ⟨g1, hg1, hgw1, hgg⟩ : ∃ g1, (0 < len0 → A2 = some ⟨g1, 0, none⟩ ∧ ∃ cur, Blk w4 g1 5 cur ∧ ∀ k, k < len0 → ∃ x, x < 256 ∧ cur[k]? = some (byteV x)) ∧ w.heap.size ≤ g1 ∧ g1 ≠ g := by
      by_cases hz : 0 < len0
      · obtain ⟨g1, cur, e1, hb, _, hx⟩ := HC2.out hz
        have hne := HNe.out _ e1
        refine ⟨g1, fun _ => ⟨e1, cur, hb.grown HG4.out (by intro e; cases e; exact hne rfl), fun k hk => ?_⟩, (HBk2.out _ e1).1, hne⟩
        have hkl : k < bs.length := by rw [HL0.out]; exact hk
        exact ⟨bs[k], HN.out _ (List.getElem_mem hkl), hx k _ (List.getElem?_eq_getElem hkl)⟩
      · exact ⟨w4.heap.size, fun h => absurd h hz, HB4.out.size, by omega⟩
    have HG1 := kp hg1
    clear hg1
    go_loopw [7] (fun v7 wr => ∃ i : Nat, i ≤ len0 ∧ v7 = .int .i64 i ∧ (0 < len0 → ∃ cur, Blk wr g1 5 cur ∧ ∀ k, k < len0 → ∃ x, x < 256 ∧ cur[k]? = some (byteV x)) ∧ w4.grownBy wr (some g1)) (fun v7 _ => len0 - (intOf v7).toNat)
    case atStart => exact ⟨0, by omega, rfl, fun h => (HG1.out h).2, grown_refl _ _⟩
    case round =>
      obtain ⟨i, hi, rfl, hcur, hgr⟩ := hrel
      have HGr := kp hgr; have HCur := kp hcur
      clear hgr hcur
      by_cases hlt : i < len0
      · obtain ⟨rfl, _⟩ := HG1.out (by omega)
        obtain ⟨cur, hbk, hx⟩ := HCur.out (by omega)
        obtain ⟨x, hx8, hxi⟩ := hx i hlt
        have hc : wr.cell? ⟨g1, i, none⟩ = some (.int .u8 (x : Int)) := (hbk.cell i).trans hxi
        have hf := hbk.frozen i
        have HBk := kp hbk; have HX := kp hx
        clear hbk hx hxi
        go_wp2
        go_roundw
        case rel =>
          refine ⟨i + 1, by omega, by go_num, fun _ => ⟨_, HBk.out.set i _, fun k hk => ?_⟩, grown_set HGr.out⟩
          by_cases hki : i = k
          · subst hki
            refine ⟨(x + 1) % 256, Nat.mod_lt _ (by decide), ?_⟩
            obtain ⟨y, _, hy⟩ := HX.out i hk
            have hil : i < cur.length := (List.getElem?_eq_some_iff.1 hy).1
            rw [List.getElem?_set_self hil]
            unfold byteV
            congr 2
          · obtain ⟨y, hy8, hy⟩ := HX.out k hk
            exact ⟨y, hy8, by rw [List.getElem?_set_ne hki]; exact hy⟩
        case measure => simp [intOf]; omega
      · have hge : len0 ≤ i := by omega
        clear hlt hi
        have hBr : Below w.heap.size w wr := HB4.out.grown HGr.out HB4.out.size (by intro k e; cases e; exact hgw1)
        have HBr := kp hBr
        have hszr := hBr.size
        have hSr : Holds wr g bs := by
          obtain ⟨ws, blk, h1, h2⟩ := HS4.out
          exact ⟨ws, blk, h1, h2.grown HGr.out (by intro e; cases e; exact hgg rfl)⟩
        have HSr := kp hSr
        have HKr := kp (HK.out.below (hBr.mono hk1))
        clear hBr hSr
        obtain ⟨dig, hdig⟩ : ∃ dig, H.digest (bs ++ cs) = dig := ⟨_, rfl⟩
        have HDig := kp hdig
        have HDL : Kept (dig.length = 32) := kp <| by rw [← hdig]; exact digest_len _
        have HLen : Kept ((bs ++ cs).length ≤ 900000000) := kp <| by rw [List.length_append, HL0.out, HL1.out]; omega
        clear hdig
        go_wp2_with (first
          | (go_at_call 11; go_must (refine (write_any g bs cs a1 len1 cap1 w.heap.size wr HSr.out (HR1.out.below HBr.out) hszr HN1.out (by intro ad h0 e e2; obtain ⟨a2, e3, hb2, _⟩ := HR1.out.cells h0; rw [e] at e3; cases e3; omega) HKr.out (by omega) hlc1 (by rw [HL0.out]; omega)).mono ?_); rintro e w6 ⟨rfl, hs6, hg6⟩
             have hB6 : Below w.heap.size w w6 := HBr.out.grown hg6 hszr (by intro k e; cases e; exact hwg)
             have HS6 := kp hs6; have HB6 := kp hB6; have HK6 := kp (HK.out.below (hB6.mono hk1))
             clear hs6 hg6 hB6)
          | (go_at_call 12; go_must (refine (sum_any g (bs ++ cs) w6 HS6.out HK6.out (by omega) HLen.out dig HDig.out).mono ?_); rintro e w7 ⟨rfl, hw7⟩
             have hB7 : Below w.heap.size w w7 := HB6.out.trans (hw7.mono HB6.out.size)
             have HO7 := kp (Own.new w7 w.heap.size 5 [] hB7.size (by simp [maxLen])); have HB7a := kp (hB7.alloc hB7.size (.cells #[] 5))
             clear hw7 hB7)
          | ((with_reducible show wpList _ _ _ (⟨some 54, _, _, _, _, _⟩ :: _) _ _); go_must (refine wpList_append_row rfl (.tmp 52) (.tmp 53) 22 rfl w.heap.size 5 _ _ Tryd.underlying22 byte_info rfl _ _ _ rfl HO7.out a0 len0 cap0 _ _ rfl ((HR.out.below HB7a.out).vals) (ones _ one_byteV _) (by simp [maxLen]; omega) (by simp; omega) HB7a.out.size ?_); intro v8 w8 hown8 hg8; have HO8 := kp hown8; have HB8 := kp (hg8.below HB7a.out HO7.out HB7a.out.size); clear hown8 hg8)
          | ((with_reducible show wpList _ _ _ (⟨some 56, _, _, _, _, _⟩ :: _) _ _); go_must (refine wpList_append_row rfl (.tmp 54) (.tmp 55) 22 rfl w.heap.size 5 _ _ Tryd.underlying22 byte_info rfl _ _ _ rfl HO8.out a1 len1 cap1 _ _ rfl ((HR1.out.below HB8.out).vals) (ones _ one_byteV _) (by simp [maxLen, HL0.out]; omega) (by simp [HL0.out]; omega) HB8.out.size ?_); intro v9 w9 hown9 hg9; have HO9 := kp hown9; have HB9 := kp (hg9.below HB8.out HO8.out HB8.out.size); clear hown9 hg9
             have HO10 : Kept (Own w9 w.heap.size 5 v9 ((bs ++ cs).map byteV)) := kp <| by have h := HO9.out; rw [List.nil_append, ← List.map_append] at h; exact h
             obtain ⟨A9, c9, rfl, hlc9, hcm9, hr9, _, _⟩ := Own.split (n := len0 + len1) HO10.out (by rw [List.length_append, HL0.out, HL1.out])
             have HR9 := kp hr9; clear hr9)
          | (go_at_call 8; go_must (refine (of_lit A9 _ c9 w9.heap.size (bs ++ cs) w9 HR9.out (Nat.le_refl _) (fun x hx => (List.mem_append.1 hx).elim (HN.out x) (HN1.out x)) hlc9 (HK.out.below (HB9.out.mono hk1)) HLen.out dig HDig.out).mono ?_); rintro e w10 ⟨rfl, hw10⟩; have HB10 := kp (HB9.out.trans (hw10.mono HB9.out.size)); clear hw10)
          | ((with_reducible show wpList _ _ _ (⟨some 59, _, _, _, _, _⟩ :: _) _ _); go_must (refine wpList_eql_dig rfl (.tmp 51) (.tmp 58) _ rfl dig HDL.out rfl rfl ?_)))
        go_ret
        exact ⟨rfl, HB10.out⟩
end Go.Proofs.YtoagmmelklkoaaaDoor
