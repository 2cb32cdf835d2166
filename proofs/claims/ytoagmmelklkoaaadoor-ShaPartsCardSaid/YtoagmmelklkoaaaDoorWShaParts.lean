/- ShaParts, walked. -/
import Derived.Test.YtoagmmelklkoaaaDoorShaLaw2
import Derived.Test.YtoagmmelklkoaaaDoorOwn
namespace Go.Proofs.YtoagmmelklkoaaaDoor
open Go.RowKit

/-- What the count comes to, as far as it goes. -/
def cnt (ps : List Part) : Nat := ps.foldl (fun n p => n + 1 + min p.n 3001) 0
theorem cnt_snoc (ps : List Part) (p : Part) : cnt (ps ++ [p]) = cnt ps + 1 + min p.n 3001 := by simp [cnt]
theorem cnt_len (ps : List Part) : ps.length ≤ cnt ps := by
  have h : ∀ (ps : List Part) (n : Nat), n + ps.length ≤ ps.foldl (fun n p => n + 1 + min p.n 3001) n := by
    intro ps
    induction ps with
    | nil => intro n; simp
    | cons p r ih => intro n; have := ih (n + 1 + min p.n 3001); simp only [List.foldl_cons, List.length_cons]; omega
  have := h ps 0; unfold cnt; omega
theorem cnt_joined (w : World) (B : Nat) (ps : List Part) (hok : ∀ p ∈ ps, p.Ok w B) (h : cnt ps ≤ 3000) : (joined ps).length ≤ 3000 := by
  have g : ∀ (ps : List Part) (n : Nat), (∀ p ∈ ps, p.Ok w B) → ps.foldl (fun n p => n + 1 + min p.n 3001) n ≤ 3000 → n + (joined ps).length ≤ 3000 := by
    intro ps
    induction ps with
    | nil => intro n _ h; simpa [joined] using h
    | cons p r ih =>
      intro n hok h
      have := ih (n + 1 + min p.n 3001) (fun q hq => hok q (by simp [hq])) h
      have hl := (hok p (by simp)).row.len
      have e : (joined (p :: r)).length = p.n + (joined r).length := by simp [joined, hl]
      rw [e]
      rcases Nat.le_total p.n 3001 with h1 | h1
      · rw [Nat.min_eq_left h1] at this; omega
      · rw [Nat.min_eq_right h1] at this; omega
  have := g ps 0 hok h; omega

set_option maxRecDepth 1000000 in
set_option maxHeartbeats 1600000 in
theorem walkShaParts (a0 : Option Addr) (len0 cap0 : Nat) (z0 : List (Option Addr × Nat × Nat × List Nat)) (w : World) (w0 : Row (fun p => .slice p.1 p.2.1 p.2.2.1) w w.heap.size a0 len0 z0) (r0 : ∀ p ∈ z0, Row byteV w w.heap.size p.1 p.2.1 p.2.2.2 ∧ (∀ x ∈ p.2.2.2, x < 256) ∧ p.2.1 ≤ p.2.2.1 ∧ p.2.2.1 ≤ maxLen) (c0 : len0 ≤ cap0 ∧ cap0 ≤ maxLen) (hL : Row wordV w 1 (some ⟨0, 0, none⟩) 64 H.K) :
    Calls Tryd.prog 4 #[.slice a0 len0 cap0] w fun e w' => e = .returned (.bool true) ∧ Below w.heap.size w w' := by
  obtain ⟨ps, hr, hok, hpm⟩ : ∃ ps : List Part, Row partV w w.heap.size a0 len0 ps ∧ (∀ p ∈ ps, p.Ok w w.heap.size) ∧ ∀ p ∈ ps, p.n ≤ maxLen := by
    refine ⟨z0.map fun p => ⟨p.1, p.2.1, p.2.2.1, p.2.2.2⟩, ⟨by rw [List.length_map]; exact w0.len, fun h0 => ?_⟩, ?_, ?_⟩
    · obtain ⟨ad, e, hb, hc⟩ := w0.cells h0
      exact ⟨ad, e, hb, fun k hk => by rw [hc k hk, List.getElem?_map, Option.map_map]; rfl⟩
    · intro p hp
      obtain ⟨q, hq, rfl⟩ := List.mem_map.1 hp
      obtain ⟨h1, h2, h3, _⟩ := r0 q hq
      exact ⟨h1, h2, h3⟩
    · intro p hp
      obtain ⟨q, hq, rfl⟩ := List.mem_map.1 hp
      obtain ⟨_, _, h3, h4⟩ := r0 q hq
      exact Nat.le_trans h3 h4
  obtain ⟨hlc, hcm⟩ := c0
  have HR := kp hr; have HOk := kp hok; have HPM := kp hpm; have HK := kp hL
  have hk1 := keys_size hL
  have hlen := hr.len
  have HL := kp hlen
  unfold maxLen at hcm
  clear w0 r0 hr hok hpm hL hlen
  go_enter Tryd.func4, Tryd.ntmps4
  go_wp2
  go_loop [3, 4] (fun v3 v4 => ∃ k : Nat, k ≤ len0 ∧ v4 = .int .i64 k ∧ v3 = .int .i64 (cnt (ps.take k)) ∧ cnt (ps.take k) ≤ 6002) (fun _ v4 => len0 - (intOf v4).toNat)
  case atStart => exact ⟨0, by omega, rfl, rfl, by simp [cnt]⟩
  case round =>
    obtain ⟨k, hk, rfl, rfl, hc⟩ := hrel
    by_cases hgo : k < len0 ∧ cnt (ps.take k) ≤ 3000
    · obtain ⟨hlt, hle⟩ := hgo
      obtain ⟨ad, p, rfl, hab, hp, hc0⟩ := HR.out.get hlt
      rw [partV_def] at hc0
      have hpn := HPM.out p (List.mem_of_getElem? hp)
      unfold maxLen at hpn
      have HN : Kept (cnt (ps.take (k + 1)) = cnt (ps.take k) + 1 + min p.n 3001) := kp <| by rw [List.take_add_one, hp]; exact cnt_snoc _ _
      have hmin : min p.n 3001 ≤ 3001 := Nat.min_le_right _ _
      clear hp hc
      generalize cnt (ps.take k) = q at *
      go_wp2
      go_round
      case rel =>
        refine ⟨k + 1, by omega, by go_num, ?_, by rw [HN.out]; omega⟩
        rw [HN.out]
        congr 1
        split <;> omega
      case measure => simp [intOf]; omega
    · by_cases hle : cnt (ps.take k) ≤ 3000
      · have hkn : len0 ≤ k := by omega
        have HT : Kept (ps.take k = ps) := kp <| List.take_of_length_le (by rw [HL.out]; exact hkn)
        have HJ : Kept ((joined ps).length ≤ 3000) := kp <| cnt_joined w _ ps HOk.out (by rw [← HT.out]; exact hle)
        have hl3 : len0 ≤ 3000 := by have := cnt_len ps; rw [HL.out] at this; rw [HT.out] at hle; omega
        clear hgo hc HT
        generalize cnt (ps.take k) = q at *
        obtain ⟨digA, hdigA⟩ : ∃ d, H.digest (joined ps) = d := ⟨_, rfl⟩
        have HDigA := kp hdigA; clear hdigA
        have HDLA : Kept (digA.length = 32) := kp <| by rw [← HDigA.out]; exact digest_len _
        go_wp2_with (first
          | (go_at_call 7; go_must (refine (awake_any _ HK.out).mono ?_); rintro e w1 ⟨rfl, hb1⟩; have HB1 := kp hb1; clear hb1)
          | (go_at_call 10; go_must (refine (new_any _).mono ?_); rintro e w3 ⟨g, rfl, hg3, hs3, hw3⟩
             have hB3 : Below w.heap.size w w3 := HB1.out.trans (hw3.mono HB1.out.size)
             have hwg : w.heap.size ≤ g := Nat.le_trans HB1.out.size hg3
             have HS3 := kp hs3; have HB3 := kp hB3
             clear hg3 hs3 hw3 hB3))
        go_loopw [6, 7] (fun v6 v7 wr => ∃ k : Nat, k ≤ len0 ∧ v7 = .int .i64 k ∧ Own wr w.heap.size 5 v6 ((joined (ps.take k)).map byteV) ∧ v6.ownBlock ≠ some g ∧ Holds wr g (joined (ps.take k)) ∧ Below w.heap.size w wr) (fun _ v7 _ => len0 - (intOf v7).toNat)
        case atStart => exact ⟨0, by omega, rfl, Own.nil _ _ _, (by simp [Value.ownBlock]), HS3.out, HB3.out⟩
        case round =>
          obtain ⟨j, hj, rfl, hown, hob, hs, hbl⟩ := hrel
          have HOwn := kp hown; have HOb := kp hob; have HS := kp hs; have HBL := kp hbl
          have HKr := kp (HK.out.below (hbl.mono hk1))
          have hszr := hbl.size
          have hgr : g < wr.heap.size := by obtain ⟨_, _, _, hb⟩ := hs; exact hb.lt
          clear hown hob hs hbl
          by_cases hlt : j < len0
          · obtain ⟨ad, p, rfl, hab, hp, hc0⟩ := HR.out.get hlt
            rw [partV_def] at hc0
            have HC0 := kp hc0
            have hpn := HPM.out p (List.mem_of_getElem? hp)
            have hok := HOk.out p (List.mem_of_getElem? hp)
            have HOkp : Kept (p.Ok w w.heap.size) := kp hok
            have HJk : Kept (joined (ps.take (j + 1)) = joined (ps.take j) ++ p.bs) := kp <| by rw [List.take_add_one, hp]; exact joined_snoc _ _
            have HJl : Kept ((joined (ps.take j)).length + p.n ≤ 3000) := kp <| by
              have h1 := joined_take_le ps (j + 1)
              rw [HJk.out, List.length_append, hok.row.len] at h1
              have := HJ.out; omega
            obtain ⟨dig, hdig⟩ : ∃ d, H.digest (joined (ps.take (j + 1))) = d := ⟨_, rfl⟩
            have HDig := kp hdig; clear hdig
            have HDL : Kept (dig.length = 32) := kp <| by rw [← HDig.out]; exact digest_len _
            have hc := (HBL.out.cell (p := ad.add j) (by rw [add_block]; omega)).trans hc0
            clear hok hp hc0 hpn
            go_wp2_with (first
              | (go_at_call 11; go_must (refine (write_any g _ p.bs p.A p.n p.c w.heap.size wr HS.out (HOkp.out.row.below HBL.out) hszr HOkp.out.byte (by intro a h0 e e2; obtain ⟨a2, e3, hb2, _⟩ := HOkp.out.row.cells h0; rw [e] at e3; cases e3; omega) HKr.out (by omega) HOkp.out.cap (by have := HJl.out; omega)).mono ?_); rintro e w5 ⟨rfl, hs5, hg5⟩
                 have hB5 : Below w.heap.size w w5 := HBL.out.grown hg5 hszr (by intro k e; cases e; exact hwg)
                 clear hc
                 have hc := (hB5.cell (p := ad.add j) (by rw [add_block]; omega)).trans HC0.out
                 have HO5 := kp (HOwn.out.far hg5 (.inr HOb.out))
                 have HS5 := kp hs5; have HB5 := kp hB5; have HG5 := kp hg5
                 clear hs5 hg5 hB5)
              | ((with_reducible show wpList _ _ _ (⟨some 52, _, _, _, _, _⟩ :: _) _ _); go_must (refine wpList_append_row rfl (.tmp 47) (.tmp 51) 22 rfl w.heap.size 5 _ _ Tryd.underlying22 byte_info rfl _ _ _ rfl HO5.out p.A p.n p.c _ _ rfl ((HOkp.out.row.below HB5.out).vals) (ones _ one_byteV _) (by have := HJl.out; simp [maxLen]; omega) (by have := HJl.out; simp; omega) HB5.out.size ?_); intro v6' w6 hown6 hg6
                 have hgw5 : g < w5.heap.size := by obtain ⟨_, _, _, hb⟩ := HS5.out; exact hb.lt
                 have hob6 : v6'.ownBlock ≠ some g := by
                   rcases hg6.2 with h | h
                   · rw [h]; exact HOb.out
                   · intro e; have := h g e; omega
                 have hs6 : Holds w6 g (joined (ps.take (j + 1))) := by
                   rw [HJk.out]
                   obtain ⟨ws, blk, h1, h2⟩ := HS5.out
                   exact ⟨ws, blk, h1, h2.grown hg6.1 (by intro e; exact HOb.out e.symm)⟩
                 have HO6 : Kept (Own w6 w.heap.size 5 v6' ((joined (ps.take (j + 1))).map byteV)) := kp <| by rw [HJk.out, List.map_append]; exact hown6
                 have HB6 := kp (hg6.below HB5.out HO5.out HB5.out.size)
                 have HOb6 := kp hob6; have HS6 := kp hs6
                 obtain ⟨A6, c6, rfl, hlc6, _, hr6, _, _⟩ := Own.split (n := (joined (ps.take j)).length + p.n) HO6.out (by rw [HJk.out, List.length_append, HOkp.out.row.len])
                 have HR6 := kp hr6
                 have HK6 := kp (HK.out.below (HB6.out.mono hk1))
                 have HJ6 : Kept ((joined (ps.take (j + 1))).length ≤ 900000000) := kp <| by rw [HJk.out, List.length_append, HOkp.out.row.len]; have := HJl.out; omega
                 have HBy6 : Kept (∀ x ∈ joined (ps.take (j + 1)), x < 256) := kp <| by
                   intro x hx
                   obtain ⟨q, hq, hx2⟩ := List.mem_flatMap.1 hx
                   exact (HOk.out q (List.mem_of_mem_take hq)).byte x hx2
                 clear hown6 hg6 hob6 hs6 hr6 hc hgw5)
              | (go_at_call 12; go_must (refine (sum_any g _ w6 HS6.out HK6.out (by omega) HJ6.out dig HDig.out).mono ?_); rintro e w7 ⟨rfl, hw7⟩; have HW7 := kp hw7; have HB7 := kp (HB6.out.trans (hw7.mono HB6.out.size)); clear hw7)
              | (go_at_call 8; go_must (refine (of_lit A6 _ c6 w6.heap.size _ w7 (HR6.out.below HW7.out) HW7.out.size HBy6.out hlc6 (HK.out.below (HB7.out.mono hk1)) HJ6.out dig HDig.out).mono ?_); rintro e w8 ⟨rfl, hw8⟩; have HW8 := kp (HW7.out.trans (hw8.mono HW7.out.size)); clear hw8)
              | ((with_reducible show wpList _ _ _ (⟨some 58, _, _, _, _, _⟩ :: _) _ _); go_must (refine wpList_neq_dig rfl (.tmp 54) (.tmp 57) _ rfl dig HDL.out rfl rfl ?_)))
            go_roundw
            case rel =>
              refine ⟨j + 1, by omega, by go_num, HO6.out.below HW8.out (Nat.le_refl _), HOb6.out, ?_, HB6.out.trans (HW8.out.mono HB6.out.size)⟩
              obtain ⟨ws, blk, h1, h2⟩ := HS6.out
              exact ⟨ws, blk, h1, h2.below HW8.out h2.lt⟩
            case measure => simp [intOf]; omega
          · have hge : len0 ≤ j := by omega
            have HT : Kept (ps.take j = ps) := kp <| List.take_of_length_le (by rw [HL.out]; exact hge)
            clear hlt
            obtain ⟨A6, c6, rfl, hlc6, _, hr6, _, _⟩ := Own.split (n := (joined ps).length) HOwn.out (by rw [HT.out])
            have HR6 : Kept (Row byteV wr wr.heap.size A6 (joined ps).length (joined ps)) := kp <| by rw [HT.out] at hr6; exact hr6
            have HS6 : Kept (Holds wr g (joined ps)) := kp <| by have h := HS.out; rw [HT.out] at h; exact h
            have HBy : Kept (∀ x ∈ joined ps, x < 256) := kp <| by
              intro x hx
              obtain ⟨q, hq, hx2⟩ := List.mem_flatMap.1 hx
              exact (HOk.out q hq).byte x hx2
            have HJ9 : Kept ((joined ps).length ≤ 900000000) := kp <| by have := HJ.out; omega
            clear hr6
            generalize hjl : (joined ps).length = jl at HR6 hlc6 ⊢
            have HJL := kp hjl; clear hjl
            go_wp2_with (first
              | (go_at_call_of 8 (Value.slice a0 len0 cap0); go_must (refine (of_any a0 len0 cap0 w.heap.size ps wr (HR.out.below HBL.out) hszr (fun p hp => (HOk.out p hp).keep fun q hq => HBL.out.cell hq) HKr.out (by omega) HJ9.out digA HDigA.out).mono ?_); rintro e w10 ⟨rfl, hw10⟩
                 have HW10 := kp hw10; have HB10 := kp (HBL.out.trans (hw10.mono hszr)); clear hw10)
              | (go_at_call_of 8 (Value.slice (some ⟨w10.heap.size, 0, none⟩) 1 1); go_must (refine (of_lit A6 _ c6 wr.heap.size _ w10 (HR6.out.below HW10.out) HW10.out.size HBy.out hlc6 (HK.out.below (HB10.out.mono hk1)) HJ9.out digA HDigA.out).mono ?_); rintro e w11 ⟨rfl, hw11⟩
                 have HW11 := kp (HW10.out.trans (hw11.mono HW10.out.size)); clear hw11
                 have HB11 := kp (HBL.out.trans (HW11.out.mono hszr))
                 have HS11 : Kept (Holds w11 g (joined ps)) := kp <| by
                   obtain ⟨ws, blk, h1, h2⟩ := HS6.out
                   exact ⟨ws, blk, h1, h2.below HW11.out h2.lt⟩)
              | (go_at_call 12; go_must (refine (sum_any g _ w11 HS11.out (HK.out.below (HB11.out.mono hk1)) (by omega) HJ9.out digA HDigA.out).mono ?_); rintro e w12 ⟨rfl, hw12⟩
                 have HW12 := kp (HW11.out.trans (hw12.mono HW11.out.size)); clear hw12
                 have HB12 := kp (HBL.out.trans (HW12.out.mono hszr)))
              | (go_at_call_of 8 (Value.slice (some ⟨w12.heap.size, 0, none⟩) 1 1); go_must (refine (of_lit A6 _ c6 wr.heap.size _ w12 (HR6.out.below HW12.out) HW12.out.size HBy.out hlc6 (HK.out.below (HB12.out.mono hk1)) HJ9.out digA HDigA.out).mono ?_); rintro e w13 ⟨rfl, hw13⟩
                 have HB13 := kp (HB12.out.trans (hw13.mono HB12.out.size)); clear hw13)
              | ((with_reducible show wpList _ _ _ (⟨some 64, _, _, _, _, _⟩ :: _) _ _); go_must (refine wpList_eql_dig rfl (.tmp 60) (.tmp 63) _ rfl digA HDLA.out rfl rfl ?_))
              | ((with_reducible show wpList _ _ _ (⟨some 71, _, _, _, _, _⟩ :: _) _ _); go_must (refine wpList_eql_dig_want rfl (.tmp 67) (.tmp 70) _ rfl digA HDLA.out rfl rfl ?_)))
            go_ret
            exact ⟨rfl, HB13.out⟩
      · have hgt : 3000 < cnt (ps.take k) := by omega
        clear hgo
        clear hc
        generalize cnt (ps.take k) = q at *
        have hand : ¬ (k < len0 ∧ q ≤ 3000) := by omega
        by_cases hlt : k < len0
        all_goals
          clear hand
          go_wp2_with fail
          refine (awake_any _ HK.out).mono ?_
          rintro e w1 ⟨rfl, hb1⟩
          have HB1 := kp hb1; clear hb1
          go_wp2_with fail
          refine (awake_any _ (HK.out.below (HB1.out.mono hk1))).mono ?_
          rintro e w2 ⟨rfl, hb2⟩
          have HB2 := kp hb2; clear hb2
          go_wp2
          go_ret
          exact ⟨rfl, HB1.out.trans (HB2.out.mono HB1.out.size)⟩
end Go.Proofs.YtoagmmelklkoaaaDoor
