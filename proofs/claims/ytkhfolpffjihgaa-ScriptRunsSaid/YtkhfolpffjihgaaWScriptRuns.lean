/- ScriptRuns, walked. -/
import Derived.Test.YtkhfolpffjihgaaPk39
import Derived.Test.YtkhfolpffjihgaaPk20
import Derived.Test.YtkhfolpffjihgaaPk4
import Derived.Test.YtkhfolpffjihgaaPk40
import Derived.Test.YtkhfolpffjihgaaPm1
namespace Go.Proofs.Ytkhfolpffjihgaa
open Go.RowKit
set_option maxRecDepth 1000000 in
set_option maxHeartbeats 8000000 in
theorem walkScriptRuns (pg0 : Pg) (a1 : Option Addr) (len1 cap1 : Nat) (z1 : List (Int × Bool)) (a2 : Int) (w : World) (w0 : pg0.Ok w w.heap.size) (w1 : Picks w w.heap.size a1 len1 z1) (c1 : len1 ≤ cap1 ∧ cap1 ≤ maxLen) (w2 : (Lit.int .u8 a2).wf = true) :
    Calls Try.prog 5 #[pgA pg0, .slice a1 len1 cap1, .int .u8 a2] w fun e w' => e = .returned (.bool true) ∧ Below w.heap.size w w' := by
  have HP := kp w0
  have HPi := kp w1
  have HC1 := kp c1
  have hc1 := c1.1; have hm1 := c1.2
  unfold maxLen at hm1
  have ha2 := u8_range a2 w2
  have HA2 := kp ha2
  obtain ⟨r, hr⟩ : ∃ r, Q.small pg0 = r := ⟨_, rfl⟩
  have HR := kp hr
  clear hr w0 w1 c1 w2
  rw [jO]
  cases r
  · go_enter Try.func5, Try.ntmps5
    go_wp2_with (first
      | ((with_reducible refine j2 rfl 38 (.tmp 0) rfl (pgC pg0) rfl ?_); intro g1 u1 hg1 hk1 hu1; have HK1 := kp hk1; have HG1 := kp hg1; have HU1 := kp hu1; have hz1 := hu1.size; have hl1 := hk1.lt; clear hg1 hk1 hu1)
      | ((with_reducible show Sl 4); go_must (refine wpList_box_one rfl 22 (.tmp 1) rfl (.slice a1 len1 cap1) rfl rfl ?_); intro gl u1b hgl hkl hbl; have HKl1 := kp hkl; have HGl : Kept (w.heap.size ≤ gl ∧ gl ≠ g1) := kp ⟨by omega, by omega⟩; have HU1b := kp (HU1.out.trans (hbl.mono hz1)); have hz1b := HU1b.out.size; have HK1b := kp (HK1.out.below hbl hl1); have hl1b := HK1b.out.lt; have hll1 := hkl.lt; clear hgl hkl hbl)
      | ((with_reducible show Sl 5); go_must (refine wpList_box_one rfl 5 (.tmp 2) rfl (.int .u8 a2) rfl rfl ?_); intro gs u1c hgs hks hbs; have HKs1 := kp hks; have HGs : Kept (w.heap.size ≤ gs) := kp (by omega); have HU1c := kp (HU1b.out.trans (hbs.mono hz1b)); have hz1c := HU1c.out.size; have HK1c := kp (HK1b.out.below hbs hl1b); have HKl1c := kp (HKl1.out.below hbs hll1); have hl1c := HK1c.out.lt; have hll1c := HKl1c.out.lt; have hls1 := hks.lt; clear hgs hks hbs)
      | (go_at_call 9; fail))
    refine (lH u1c).mono ?_
    rintro e u2 ⟨rfl, hb2⟩
    have HU2 : Kept (Below w.heap.size w u2) := kp (HU1c.out.trans (hb2.mono hz1c))
    have hs2 := HU2.out.size
    have HP2 := kp (HP.out.below HU2.out)
    have HK2 := kp (HK1c.out.below hb2 hl1c)
    have HL2 := kp (HKl1c.out.below hb2 hll1c)
    have HS2 := kp (HKs1.out.below hb2 hls1)
    obtain ⟨hc0, hc1', hc2, hc3⟩ := jL HK2.out
    clear hb2
    go_wp2_with fail
    refine (vO _ pg0 u2 HP2.out hs2 _ HR.out).mono ?_
    rintro e u3 ⟨rfl, hb3⟩
    have HU3 : Kept (Below w.heap.size w u3) := kp (HU2.out.trans (hb3.mono hs2))
    have hs3 := HU3.out.size
    have HP3 := kp (HP.out.below HU3.out)
    have HK3 := kp (HK2.out.below hb3 HK2.out.lt)
    have HL3 := kp (HL2.out.below hb3 HL2.out.lt)
    have HS3 := kp (HS2.out.below hb3 HS2.out.lt)
    have hcl := HL3.out.cell 0
    clear hb3 hc0 hc1' hc2 hc3
    obtain ⟨hc0, hc1', hc2, hc3⟩ := jL HK3.out
    go_wp2_with fail
    refine (lH u3).mono ?_
    rintro e u4 ⟨rfl, hb4⟩
    have HU4 := kp (HU3.out.trans (hb4.mono hs3))
    clear hb4
    go_wp2
    go_ret
    exact ⟨rfl, HU4.out⟩
  by_cases hbig : 120 < len1
  · go_enter Try.func5, Try.ntmps5
    go_wp2_with (first
      | ((with_reducible refine j2 rfl 38 (.tmp 0) rfl (pgC pg0) rfl ?_); intro g1 u1 hg1 hk1 hu1; have HK1 := kp hk1; have HG1 := kp hg1; have HU1 := kp hu1; have hz1 := hu1.size; have hl1 := hk1.lt; clear hg1 hk1 hu1)
      | ((with_reducible show Sl 4); go_must (refine wpList_box_one rfl 22 (.tmp 1) rfl (.slice a1 len1 cap1) rfl rfl ?_); intro gl u1b hgl hkl hbl; have HKl1 := kp hkl; have HGl : Kept (w.heap.size ≤ gl ∧ gl ≠ g1) := kp ⟨by omega, by omega⟩; have HU1b := kp (HU1.out.trans (hbl.mono hz1)); have hz1b := HU1b.out.size; have HK1b := kp (HK1.out.below hbl hl1); have hl1b := HK1b.out.lt; have hll1 := hkl.lt; clear hgl hkl hbl)
      | ((with_reducible show Sl 5); go_must (refine wpList_box_one rfl 5 (.tmp 2) rfl (.int .u8 a2) rfl rfl ?_); intro gs u1c hgs hks hbs; have HKs1 := kp hks; have HGs : Kept (w.heap.size ≤ gs) := kp (by omega); have HU1c := kp (HU1b.out.trans (hbs.mono hz1b)); have hz1c := HU1c.out.size; have HK1c := kp (HK1b.out.below hbs hl1b); have HKl1c := kp (HKl1.out.below hbs hll1); have hl1c := HK1c.out.lt; have hll1c := HKl1c.out.lt; have hls1 := hks.lt; clear hgs hks hbs)
      | (go_at_call 9; fail))
    refine (lH u1c).mono ?_
    rintro e u2 ⟨rfl, hb2⟩
    have HU2 : Kept (Below w.heap.size w u2) := kp (HU1c.out.trans (hb2.mono hz1c))
    have hs2 := HU2.out.size
    have HP2 := kp (HP.out.below HU2.out)
    have HK2 := kp (HK1c.out.below hb2 hl1c)
    have HL2 := kp (HKl1c.out.below hb2 hll1c)
    have HS2 := kp (HKs1.out.below hb2 hls1)
    obtain ⟨hc0, hc1', hc2, hc3⟩ := jL HK2.out
    clear hb2
    go_wp2_with fail
    refine (vO _ pg0 u2 HP2.out hs2 _ HR.out).mono ?_
    rintro e u3 ⟨rfl, hb3⟩
    have HU3 : Kept (Below w.heap.size w u3) := kp (HU2.out.trans (hb3.mono hs2))
    have hs3 := HU3.out.size
    have HP3 := kp (HP.out.below HU3.out)
    have HK3 := kp (HK2.out.below hb3 HK2.out.lt)
    have HL3 := kp (HL2.out.below hb3 HL2.out.lt)
    have HS3 := kp (HS2.out.below hb3 HS2.out.lt)
    have hcl := HL3.out.cell 0
    clear hb3 hc0 hc1' hc2 hc3
    obtain ⟨hc0, hc1', hc2, hc3⟩ := jL HK3.out
    go_wp2_with fail
    refine (lH u3).mono ?_
    rintro e u4 ⟨rfl, hb4⟩
    have HU4 := kp (HU3.out.trans (hb4.mono hs3))
    clear hb4
    go_wp2
    go_ret
    exact ⟨rfl, HU4.out⟩
  have hsm : len1 ≤ 120 := by omega
  clear hbig
  obtain ⟨ca, cb, cc, hcc⟩ : ∃ ca cb cc, Q.check pg0 = (ca, cb, cc) := ⟨_, _, _, rfl⟩
  have HC := kp hcc
  clear hcc
  go_enter Try.func5, Try.ntmps5
  go_wp2_with (first
    | ((with_reducible refine j2 rfl 38 (.tmp 0) rfl (pgC pg0) rfl ?_); intro g1 u1 hg1 hk1 hu1; have HK1 := kp hk1; have HG1 := kp hg1; have HU1 := kp hu1; have hz1 := hu1.size; have hl1 := hk1.lt; clear hg1 hk1 hu1)
    | ((with_reducible show Sl 4); go_must (refine wpList_box_one rfl 22 (.tmp 1) rfl (.slice a1 len1 cap1) rfl rfl ?_); intro gl u1b hgl hkl hbl; have HKl1 := kp hkl; have HGl : Kept (w.heap.size ≤ gl ∧ gl ≠ g1) := kp ⟨by omega, by omega⟩; have HU1b := kp (HU1.out.trans (hbl.mono hz1)); have hz1b := HU1b.out.size; have HK1b := kp (HK1.out.below hbl hl1); have hl1b := HK1b.out.lt; have hll1 := hkl.lt; clear hgl hkl hbl)
    | ((with_reducible show Sl 5); go_must (refine wpList_box_one rfl 5 (.tmp 2) rfl (.int .u8 a2) rfl rfl ?_); intro gs u1c hgs hks hbs; have HKs1 := kp hks; have HGs : Kept (w.heap.size ≤ gs) := kp (by omega); have HU1c := kp (HU1b.out.trans (hbs.mono hz1b)); have hz1c := HU1c.out.size; have HK1c := kp (HK1b.out.below hbs hl1b); have HKl1c := kp (HKl1.out.below hbs hll1); have hl1c := HK1c.out.lt; have hll1c := HKl1c.out.lt; have hls1 := hks.lt; clear hgs hks hbs)
    | (go_at_call 9; fail))
  refine (lH u1c).mono ?_
  rintro e u2 ⟨rfl, hb2⟩
  have HU2 : Kept (Below w.heap.size w u2) := kp (HU1c.out.trans (hb2.mono hz1c))
  have hs2 := HU2.out.size
  have HP2 := kp (HP.out.below HU2.out)
  have HK2 := kp (HK1c.out.below hb2 hl1c)
  have HL2 := kp (HKl1c.out.below hb2 hll1c)
  have HS2 := kp (HKs1.out.below hb2 hls1)
  obtain ⟨hc0, hc1', hc2, hc3⟩ := jL HK2.out
  clear hb2
  go_wp2_with fail
  refine (vO _ pg0 u2 HP2.out hs2 _ HR.out).mono ?_
  rintro e u3 ⟨rfl, hb3⟩
  have HU3 : Kept (Below w.heap.size w u3) := kp (HU2.out.trans (hb3.mono hs2))
  have hs3 := HU3.out.size
  have HP3 := kp (HP.out.below HU3.out)
  have HK3 := kp (HK2.out.below hb3 HK2.out.lt)
  have HL3 := kp (HL2.out.below hb3 HL2.out.lt)
  have HS3 := kp (HS2.out.below hb3 HS2.out.lt)
  have hcl := HL3.out.cell 0
  clear hb3 hc0 hc1' hc2 hc3
  obtain ⟨hc0, hc1', hc2, hc3⟩ := jL HK3.out
  go_wp2_with (first
    | (go_at_call 13; fail))
  clear hc0 hc1' hc2 hc3 hcl
  refine (sc_run w.heap.size pg0 a1 len1 cap1 z1 u3 HP3.out (HPi.out.below HU3.out) (by omega) hs3 ca cb cc HC.out).mono ?_
  unfold RunPost
  rintro e u4 ⟨q0, rfl, hmi, h16, h0, hcf, hb4⟩
  have HMi4 := kp (hmi.less hs3); have HCf := kp hcf; have H0 := kp h0; have H016 := kp h16; have H017 := kp (jG h16); have HU4 := kp (HU3.out.trans (hb4.mono hs3)); have hs4 := HU4.out.size; have HK4 := kp (HK3.out.below hb4 HK3.out.lt); have HL4 := kp (HL3.out.below hb4 HL3.out.lt); have HS4 := kp (HS3.out.below hb4 HS3.out.lt); have hl4 := HK4.out.lt; have hll4 := HL4.out.lt; have hls4 := HS4.out.lt
  clear hmi hcf h0 h16 hb4
  by_cases hz : cc = 0
  case neg =>
    have HZ := kp hz
    have HT : Kept (q0.len = 0) := kp (H0.out hz)
    have hb0 : ((cc : Int) != 0) = true := by simpa using hz
    have hbc : ((cc : Int) == (cc : Int)) = true := beq_self_eq_true _
    clear hz
    go_wp2_with (first
      | ((with_reducible show Sl 7); go_must (refine j3 rfl 43 rfl _ jP ?_); intro gC u5 hgC hk5 hb5; have HKc := kp hk5; have HGC : Kept (w.heap.size ≤ gC ∧ gC ≠ g1 ∧ gC ≠ gl ∧ gC ≠ gs) := kp ⟨by omega, by omega, by omega, by omega⟩; have HU5 := kp (HU4.out.trans (hb5.mono hs4)); have hs5 := HU5.out.size; have HK5 := kp (HK4.out.below hb5 hl4); have HL5 := kp (HL4.out.below hb5 hll4); have HS5 := kp (HS4.out.below hb5 hls4); have HMi5 := kp (HMi4.out.below hb5 (Nat.le_refl _)); clear hk5 hb5 hgC)
      | ((with_reducible show Sn); (refine j4 rfl 43 (.tmp 7) (.tmp 35) rfl gC (pcC q0) rfl rfl _ _ HKc.out (by rw [H017.out]; exact j6) (by rw [H017.out]; rfl) (jN q0) ?_); intro u6 hk6 hg6 hz6
         have HU6 := kp (HU5.out.grown hg6 hs5 (fun k e => by cases e; exact HGC.out.1)); have hs6 := HU6.out.size; have HKC6 := kp hk6; have HMi6 := kp (Mine.typed HMi5.out HKc.out hg6)
         have HK6 := kp (HK5.out.grown hg6 (fun e => by cases e; exact HGC.out.2.1 rfl)); have HL6 := kp (HL5.out.grown hg6 (fun e => by cases e; exact HGC.out.2.2.1 rfl)); have HS6 := kp (HS5.out.grown hg6 (fun e => by cases e; exact HGC.out.2.2.2 rfl)); have hl6 := HK6.out.lt; have hll6 := HL6.out.lt; have hlc6 := hk6.lt; have hls6 := HS6.out.lt
         have hcl : u6.cell? ⟨gl, 0, none⟩ = some (.slice a1 len1 cap1) := HL6.out.cell 0
         clear hk6 hg6 hz6)
      | ((with_reducible show Sl 38); go_must (refine j1 rfl 38 (.tmp 3) rfl g1 rfl _ (pgC pg0) _ HK6.out Try.underlying38 rfl jB ?_))
      | (go_at_call 14; go_must (refine (sc_meets w.heap.size pg0 a1 len1 cap1 z1 u6 (HP.out.below HU6.out) (HPi.out.below HU6.out) (by omega) hs6 ca cb cc HC.out).mono ?_); unfold MeetsPost; rintro e u7 ⟨ka, bx, rfl, hme, hb7⟩
         have HMe := kp hme; have HU7 := kp (HU6.out.trans (hb7.mono hs6)); have hs7 := HU7.out.size; have HK7 := kp (HK6.out.below hb7 hl6); have HL7 := kp (HL6.out.below hb7 hll6); have HS7 := kp (HS6.out.below hb7 hls6); have HKC7 := kp (HKC6.out.below hb7 hlc6); have HMi7 := kp (HMi6.out.below hb7 (Nat.le_refl _)); have hl7 := HK7.out.lt; have hll7 := HL7.out.lt; have hls7 := HS7.out.lt; have hlc7 := HKC7.out.lt
         clear hme hb7 hcl)
      | ((with_reducible show Sl 44); go_must (refine j1 rfl 38 (.tmp 3) rfl g1 rfl _ (pgC pg0) _ HK7.out Try.underlying38 rfl jB ?_))
      | (go_at_call 15; go_must (refine (ref_check w.heap.size pg0 u7 (HP.out.below HU7.out) hs7 ca cb cc HC.out).mono ?_); rintro e u8 ⟨rfl, hb8⟩
         have HU8 := kp (HU7.out.trans (hb8.mono hs7)); have hs8 := HU8.out.size; have HK8 := kp (HK7.out.below hb8 hl7); have HL8 := kp (HL7.out.below hb8 hll7); have HS8 := kp (HS7.out.below hb8 hls7); have HKC8 := kp (HKC7.out.below hb8 hlc7); have HMi8 := kp (HMi7.out.below hb8 (Nat.le_refl _)); have hl8 := HK8.out.lt; have hll8 := HL8.out.lt; have hls8 := HS8.out.lt; have hlc8 := HKC8.out.lt
         have hcl : u8.cell? ⟨gl, 0, none⟩ = some (.slice a1 len1 cap1) := HL8.out.cell 0
         clear hb8)
      | ((with_reducible show Sl 14); go_must (refine xT rfl 3 rfl _ int_zero11 rfl ?_); intro gN u9 hgN hk9 hb9; have HKn9 := kp hk9; have HGN : Kept (w.heap.size ≤ gN) := kp (by omega); have HU9 := kp (HU8.out.trans (hb9.mono hs8)); have hs9 := HU9.out.size; have HK9 := kp (HK8.out.below hb9 hl8); have HL9 := kp (HL8.out.below hb9 hll8); have HKC9 := kp (HKC8.out.below hb9 hlc8); clear hk9 hb9 hgN hcl)
      | ((with_reducible show Sn); (refine j7 rfl 3 (.tmp 14) (.const (.int .i64 0)) rfl gN 0 (.int .i64 0) rfl rfl rfl rfl _ _ HKn9.out (by show 0 < 1; decide) l5 ?_); intro u10 hk10 hg10 hz10
         have HKn10 : Kept (Blk u10 gN 3 [.int .i64 0]) := kp hk10; have HU10 := kp (HU9.out.grown hg10 hs9 (fun k e => by cases e; exact HGN.out)); have hs10 := HU10.out.size
         have HK10 := kp (HK9.out.grown hg10 (fun e => HK9.out.twoNe HKn9.out (by decide) (by cases e; rfl))); have HL10 := kp (HL9.out.grown hg10 (fun e => HL9.out.twoNe HKn9.out (by decide) (by cases e; rfl))); have HKC10 := kp (HKC9.out.grown hg10 (fun e => HKC9.out.twoNe HKn9.out (by decide) (by cases e; rfl)))
         have hcl : u10.cell? ⟨gl, 0, none⟩ = some (.slice a1 len1 cap1) := HL10.out.cell 0; have hln10 := hk10.lt; have hlc10 := HKC10.out.lt
         clear hk10 hg10 hz10)
      | ((with_reducible show Sl 51); go_must (refine j1 rfl 38 (.tmp 3) rfl g1 rfl _ (pgC pg0) _ HK10.out Try.underlying38 rfl jB ?_))
      | (go_at_call 16; go_must (refine (sc_along w.heap.size pg0 a1 len1 cap1 z1 u10 (HP.out.below HU10.out) (HPi.out.below HU10.out) (by omega) hs10 ca cb cc HC.out).mono ?_); unfold AlongPost; rintro e u11 ⟨h, hb11⟩
         rcases h with ⟨_, rfl⟩ | ⟨hz0, _⟩
         case inr => exact absurd hz0 HZ.out
         have HU11 := kp (HU10.out.trans (hb11.mono hs10))
         have hcn : u11.cell? ⟨gN, 0, none⟩ = some (.int .i64 0) := (HKn10.out.below hb11 hln10).cell 0
         have hcq : u11.cell? ⟨gC, 0, none⟩ = some (.slice q0.A 0 q0.cap) := ((HKC10.out.below hb11 hlc10).cell 0).trans (by show some (Value.slice q0.A q0.len q0.cap) = _; rw [HT.out])
         obtain ⟨rfl, rfl⟩ := HMe.out.1 HZ.out
         clear hb11 hcl)
      | (go_at_call 33; go_must (refine (sc_along1 _ u11).mono ?_); rintro e u12 ⟨rfl, rfl⟩))
    go_ret
    exact ⟨rfl, HU11.out⟩
  subst hz
  have HF : Kept (Fine pg0) := kp (zD HC.out)
  have HGd : Kept (∀ i, M.Good pg0 (runTo pg0 z1 i)) := kp (qG HF.out HP.out.row.len z1)
  have HCf0 : Kept (q0.cf = runTo pg0 z1 len1) := kp (HCf.out rfl)
  have HGq : Kept (M.Good pg0 q0.cf) := kp (by rw [HCf0.out]; exact HGd.out len1)
  go_wp2_with (first
    | ((with_reducible show Sl 7); go_must (refine j3 rfl 43 rfl _ jP ?_); intro gC u5 hgC hk5 hb5; have HKc := kp hk5; have HGC : Kept (w.heap.size ≤ gC ∧ gC ≠ g1 ∧ gC ≠ gl ∧ gC ≠ gs) := kp ⟨by omega, by omega, by omega, by omega⟩; have HU5 := kp (HU4.out.trans (hb5.mono hs4)); have hs5 := HU5.out.size; have HK5 := kp (HK4.out.below hb5 hl4); have HL5 := kp (HL4.out.below hb5 hll4); have HS5 := kp (HS4.out.below hb5 hls4); have HMi5 := kp (HMi4.out.below hb5 (Nat.le_refl _)); clear hk5 hb5 hgC)
    | ((with_reducible show Sn); (refine j4 rfl 43 (.tmp 7) (.tmp 35) rfl gC (pcC q0) rfl rfl _ _ HKc.out (by rw [H017.out]; exact j6) (by rw [H017.out]; rfl) (jN q0) ?_); intro u6 hk6 hg6 hz6
       have HU6 := kp (HU5.out.grown hg6 hs5 (fun k e => by cases e; exact HGC.out.1)); have hs6 := HU6.out.size; have HKC6 := kp hk6; have HMi6 := kp (Mine.typed HMi5.out HKc.out hg6)
       have HK6 := kp (HK5.out.grown hg6 (fun e => by cases e; exact HGC.out.2.1 rfl)); have HL6 := kp (HL5.out.grown hg6 (fun e => by cases e; exact HGC.out.2.2.1 rfl)); have HS6 := kp (HS5.out.grown hg6 (fun e => by cases e; exact HGC.out.2.2.2 rfl)); have hl6 := HK6.out.lt; have hll6 := HL6.out.lt; have hlc6 := hk6.lt; have hls6 := HS6.out.lt
       have hcl : u6.cell? ⟨gl, 0, none⟩ = some (.slice a1 len1 cap1) := HL6.out.cell 0
       clear hk6 hg6 hz6)
    | ((with_reducible show Sl 38); go_must (refine j1 rfl 38 (.tmp 3) rfl g1 rfl _ (pgC pg0) _ HK6.out Try.underlying38 rfl jB ?_))
    | (go_at_call 14; go_must (refine (sc_meets w.heap.size pg0 a1 len1 cap1 z1 u6 (HP.out.below HU6.out) (HPi.out.below HU6.out) (by omega) hs6 ca cb 0 HC.out).mono ?_); unfold MeetsPost; rintro e u7 ⟨ka, bx, rfl, hme, hb7⟩
       have HMe := kp hme; have HU7 := kp (HU6.out.trans (hb7.mono hs6)); have hs7 := HU7.out.size; have HK7 := kp (HK6.out.below hb7 hl6); have HL7 := kp (HL6.out.below hb7 hll6); have HS7 := kp (HS6.out.below hb7 hls6); have HKC7 := kp (HKC6.out.below hb7 hlc6); have HMi7 := kp (HMi6.out.below hb7 (Nat.le_refl _)); have hl7 := HK7.out.lt; have hll7 := HL7.out.lt; have hls7 := HS7.out.lt; have hlc7 := HKC7.out.lt
       clear hme hb7 hcl)
    | ((with_reducible show Sl 44); go_must (refine j1 rfl 38 (.tmp 3) rfl g1 rfl _ (pgC pg0) _ HK7.out Try.underlying38 rfl jB ?_))
    | (go_at_call 15; go_must (refine (ref_check w.heap.size pg0 u7 (HP.out.below HU7.out) hs7 ca cb 0 HC.out).mono ?_); rintro e u8 ⟨rfl, hb8⟩
       have HU8 := kp (HU7.out.trans (hb8.mono hs7)); have hs8 := HU8.out.size; have HK8 := kp (HK7.out.below hb8 hl7); have HL8 := kp (HL7.out.below hb8 hll7); have HS8 := kp (HS7.out.below hb8 hls7); have HKC8 := kp (HKC7.out.below hb8 hlc7); have HMi8 := kp (HMi7.out.below hb8 (Nat.le_refl _)); have hl8 := HK8.out.lt; have hll8 := HL8.out.lt; have hls8 := HS8.out.lt; have hlc8 := HKC8.out.lt
       have hcl : u8.cell? ⟨gl, 0, none⟩ = some (.slice a1 len1 cap1) := HL8.out.cell 0
       clear hb8)
    | ((with_reducible show Sl 77); go_must (refine j1 rfl 38 (.tmp 3) rfl g1 rfl _ (pgC pg0) _ HK8.out Try.underlying38 rfl jB ?_))
    | (go_at_call 18; fail))
  refine (doc_meets w.heap.size pg0 a1 len1 cap1 z1 u8 (HP.out.below HU8.out) (HPi.out.below HU8.out) HC1.out (by omega) HF.out hs8).mono ?_
  unfold DocMeets
  rintro e u9 ⟨m, k', b', rfl, hmi, hmt, hmf, hb9⟩
  obtain ⟨rfl, rfl⟩ := meet_one (HMe.out.2 rfl) hmi
  have HMt := kp hmt; have HMf := kp hmf; have HK0' : Kept (bx = false → ka = 0) := kp (fun h => by
    rcases hmi with ⟨h1, _⟩ | ⟨_, h2, _⟩
    · rw [h] at h1; cases h1
    · exact h2)
  have HU9 := kp (HU8.out.trans (hb9.mono hs8)); have hs9 := HU9.out.size; have hz89 := hb9.size; have HK9 := kp (HK8.out.below hb9 hl8); have HL9 := kp (HL8.out.below hb9 hll8); have HS9 := kp (HS8.out.below hb9 hls8); have HKC9 := kp (HKC8.out.below hb9 hlc8); have hl9 := HK9.out.lt; have hll9 := HL9.out.lt; have hls9 := HS9.out.lt; have hlc9 := HKC9.out.lt
  have HR9 := kp (((HMi8.out.below hb9 (Nat.le_refl _)).ok))
  have HP9 := kp (qZ (HP.out.below HU9.out) hs9); have HZ9 := kp ((HPi.out.below HU9.out).more hs9)
  clear hmi hmt hmf hb9 hcl
  cases bx with
  | true =>
    obtain rfl := HMt.out rfl
    have hkk : ((ka : Int) != (ka : Int)) = false := by simp
    go_wp2
    apply lI (.is (.int .i64 0) :: .is (.bool false) :: .is (.bool false) :: .is (pcA q0) :: (.plain u9.heap.size q0.cf) :: .is (pgA pg0) :: .is (.slice a1 len1 cap1) :: (.rsteppedR u9.heap.size q0.cf) :: .is (.bool true) :: .is (.bool false) :: .is (.bool false) :: .is (.bool false) :: .is (.bool true) :: .is (.int .i64 (ka : Int)) :: .is (.bool true) :: .is (.bool false) :: .is (.bool false) :: .is (.bool false) :: .is (.bool true) :: .is (.bool true) :: .is (.int .i64 (ka : Int)) :: .is (.int .i64 (ka : Int)) :: .is (.bool false) :: .is (.bool false) :: .is (.bool false) :: .is (.bool false) :: .is (.bool true) :: .is (.bool false) :: .is (.bool false) :: .is _ :: .is _ :: .is (.bool false) :: .is (.bool false) :: [])
      [[], [(0, 80)], [(1, 81)], [(2, 82)], [(3, 83), (2, 82)], [(2, 82)], [(2, 82)], [(5, 85), (6, 86), (2, 82)], [(4, 84), (7, 87), (2, 82)], [(8, 88), (2, 82)], [(2, 82), (9, 89)], [(10, 90)], [(11, 91)], [(11, 91)], [(13, 93), (11, 91)], [(12, 92), (14, 94), (11, 91)], [(11, 91), (15, 95)], [(16, 96)], [(17, 97)], [(18, 98), (17, 97)], [(19, 99)], [(19, 99)], [(20, 100), (21, 101), (19, 99)], [(19, 99), (22, 102), (17, 97)], [(17, 97), (23, 103)], [(24, 104)], [(25, 105)], [(26, 106), (25, 105)], [(27, 107), (25, 105)], [(28, 108)], [(29, 109), (28, 108)], [(28, 108), (30, 110), (25, 105)], [(25, 105), (31, 111)]]
      [(0, 80), (1, 81), (2, 82), (3, 83), (4, 84), (5, 85), (6, 86), (7, 87), (8, 88), (9, 89), (10, 90), (11, 91), (12, 92), (13, 93), (14, 94), (15, 95), (16, 96), (17, 97), (18, 98), (19, 99), (20, 100), (21, 101), (22, 102), (23, 103), (24, 104), (25, 105), (26, 106), (27, 107), (28, 108), (29, 109), (30, 110), (31, 111), (32, 112)] (by kernel_rfl) (by kernel_rfl)
    case hob =>
      refine ⟨?o0, ?o1, ?o2, ?o3, ?o4, ?o5, ?o6, ?o7, ?o8, ?o9, ?o10, ?o11, ?o12, ?o13, ?o14, ?o15, ?o16, ?o17, ?o18, ?o19, ?o20, ?o21, ?o22, ?o23, ?o24, ?o25, ?o26, ?o27, ?o28, ?o29, ?o30, ?o31, ?o32, trivial⟩
      case o0 => intro W hW; change wpList _ _ _ _ _ _; go_wp2; exact j0 rfl rfl rfl
      case o1 => intro W hW; rintro _ rfl; change wpList _ _ _ _ _ _; go_wp2; exact j0 rfl rfl rfl
      case o2 => intro W hW; rintro _ rfl; change wpList _ _ _ _ _ _; go_wp2; exact j0 rfl rfl rfl
      case o3 =>
        intro W hW; rintro _ rfl; change wpList _ _ _ _ _ _
        go_must (refine l3 rfl 43 (.tmp 7) rfl gC rfl _ (pcC q0) _ (HKC9.out.below hW hlc9) Try.underlying43 rfl (by rw [H017.out]; exact j6) ?_)
        go_wp2; exact j0 rfl rfl rfl
      case o4 =>
        intro W hW; rintro _ rfl; rintro _ rfl; change wpList _ _ _ _ _ _
        have hsW := hW.size
        go_wp2_with fail
        refine (law_plain q0 W ((HR9.out.below hW).more hsW) (most_8 HGq.out HR9.out) HGq.out.owns (low_stacks HF.out HP9.out.row.len HGq.out HR9.out) (good_8s HGq.out)).mono ?_
        rintro e w2 ⟨q', rfl, hm2, hcf2, _, _, hsl2, hb2⟩
        have HB2 := kp hb2; have HM2 := kp (hm2.lower hsW); have HC2 := kp hcf2; have HS2 := kp hsl2; clear hb2 hm2 hcf2 hsl2
        go_wp2
        exact jC rfl rfl rfl HB2.out ⟨q', rfl, HM2.out, HC2.out, HS2.out⟩
      case o5 =>
        intro W hW; rintro _ rfl; change wpList _ _ _ _ _ _
        go_must (refine l3 rfl 38 (.tmp 3) rfl g1 rfl _ (pgC pg0) _ (HK9.out.below hW hl9) Try.underlying38 rfl jB ?_)
        go_wp2; exact j0 rfl rfl rfl
      case o6 =>
        intro W hW; rintro _ rfl; change wpList _ _ _ _ _ _
        have hx : W.cell? ⟨gl, 0, none⟩ = some (.slice a1 len1 cap1) := (HL9.out.below hW hll9).cell 0
        go_wp2; exact j0 rfl rfl rfl
      case o7 =>
        intro W hW; rintro _ rfl; rintro _ rfl; rintro _ rfl; change wpList _ _ _ _ _ _
        have hsW := hW.size
        go_wp2_with fail
        refine (ref_run pg0 a1 len1 cap1 z1 W (qZ (HP9.out.below hW) hsW) ((HZ9.out.below hW).more hsW) HC1.out (by omega) HF.out).mono ?_
        unfold StepR
        rintro e w2 ⟨q', rfl, hm2, hcf2, hb2⟩
        have HB2 := kp hb2; have HM2 := kp (hm2.lower hsW); have HC2 : Kept (q'.cf = q0.cf) := kp (by rw [hcf2, HCf0.out]); clear hb2 hm2 hcf2
        go_wp2
        exact jC rfl rfl rfl HB2.out ⟨q', rfl, HM2.out, HC2.out⟩
      case o8 =>
        intro W hW; rintro _ ⟨p1, rfl, hmx1, hcp1, hsp1⟩; rintro _ ⟨p2, rfl, hmx3, hcp3⟩; rintro _ rfl; change wpList _ _ _ _ _ _
        have hsW := hW.size
        go_wp2_with fail
        refine (rs_same W.heap.size p1 p2 W hmx1.ok hmx3.ok (Nat.le_refl _) hsp1 (xQ (show M.Good pg0 p2.cf by rw [hcp3]; exact HGq.out) hmx3.ok) (rc_own hcp1 HGq.out.owns) (rc_own hcp3 HGq.out.owns) true ⟨fun _ => by rw [hcp1, hcp3], fun _ => rfl⟩).mono ?_
        rintro e w2 ⟨rfl, hb2⟩
        have HB2 := kp hb2; clear hb2
        go_wp2
        exact jC rfl rfl rfl HB2.out rfl
      case o9 => intro W hW; rintro _ rfl; rintro _ rfl; change wpList _ _ _ _ _ _; go_wp2; exact j0 rfl rfl rfl
      case o10 => intro W hW; rintro _ rfl; rintro _ rfl; change wpList _ _ _ _ _ _; go_wp2; exact j0 rfl rfl rfl
      case o11 => intro W hW; rintro _ rfl; change wpList _ _ _ _ _ _; go_wp2; exact j0 rfl rfl rfl
      case o12 => intro W hW; rintro _ rfl; change wpList _ _ _ _ _ _; go_wp2; exact j0 rfl rfl rfl
      case o13 => intro W hW; rintro _ rfl; change wpList _ _ _ _ _ _; go_wp2; exact j0 rfl rfl rfl
      case o14 => intro W hW; rintro _ rfl; rintro _ rfl; change wpList _ _ _ _ _ _; go_wp2; exact j0 rfl rfl rfl
      case o15 => intro W hW; rintro _ rfl; rintro _ rfl; rintro _ rfl; change wpList _ _ _ _ _ _; go_wp2; exact j0 rfl rfl rfl
      case o16 => intro W hW; rintro _ rfl; rintro _ rfl; change wpList _ _ _ _ _ _; go_wp2; exact j0 rfl rfl rfl
      case o17 => intro W hW; rintro _ rfl; change wpList _ _ _ _ _ _; go_wp2; exact j0 rfl rfl rfl
      case o18 => intro W hW; rintro _ rfl; change wpList _ _ _ _ _ _; go_wp2; exact j0 rfl rfl rfl
      case o19 => intro W hW; rintro _ rfl; rintro _ rfl; change wpList _ _ _ _ _ _; go_wp2; exact j0 rfl rfl rfl
      case o20 => intro W hW; rintro _ rfl; change wpList _ _ _ _ _ _; go_wp2; exact j0 rfl rfl rfl
      case o21 => intro W hW; rintro _ rfl; change wpList _ _ _ _ _ _; go_wp2; exact j0 rfl rfl rfl
      case o22 => intro W hW; rintro _ rfl; rintro _ rfl; rintro _ rfl; change wpList _ _ _ _ _ _; go_wp2; exact j0 rfl rfl rfl
      case o23 => intro W hW; rintro _ rfl; rintro _ rfl; rintro _ rfl; change wpList _ _ _ _ _ _; go_wp2; exact j0 rfl rfl rfl
      case o24 => intro W hW; rintro _ rfl; rintro _ rfl; change wpList _ _ _ _ _ _; go_wp2; exact j0 rfl rfl rfl
      case o25 => intro W hW; rintro _ rfl; change wpList _ _ _ _ _ _; go_wp2; exact j0 rfl rfl rfl
      case o26 => intro W hW; rintro _ rfl; change wpList _ _ _ _ _ _; go_wp2; exact j0 rfl rfl rfl
      case o27 => intro W hW; rintro _ rfl; rintro _ rfl; change wpList _ _ _ _ _ _; go_wp2; exact j0 rfl rfl rfl
      case o28 => intro W hW; rintro _ rfl; rintro _ rfl; change wpList _ _ _ _ _ _; go_wp2; exact j0 rfl rfl rfl
      case o29 => intro W hW; rintro _ rfl; change wpList _ _ _ _ _ _; go_wp2; exact j0 rfl rfl rfl
      case o30 => intro W hW; rintro _ rfl; rintro _ rfl; change wpList _ _ _ _ _ _; go_wp2; exact j0 rfl rfl rfl
      case o31 => intro W hW; rintro _ rfl; rintro _ rfl; rintro _ rfl; change wpList _ _ _ _ _ _; go_wp2; exact j0 rfl rfl rfl
      case o32 => intro W hW; rintro _ rfl; rintro _ rfl; change wpList _ _ _ _ _ _; go_wp2; exact j0 rfl rfl rfl
    case hend =>
      intro W hW; rintro _ rfl; rintro _ rfl; rintro _ rfl; rintro _ rfl; rintro _ ⟨p1, rfl, hmx1, hcp1, hsp1⟩; rintro _ rfl; rintro _ rfl; rintro _ ⟨p2, rfl, hmx3, hcp3⟩; rintro _ rfl; rintro _ rfl; rintro _ rfl; rintro _ rfl; rintro _ rfl; rintro _ rfl; rintro _ rfl; rintro _ rfl; rintro _ rfl; rintro _ rfl; rintro _ rfl; rintro _ rfl; rintro _ rfl; rintro _ rfl; rintro _ rfl; rintro _ rfl; rintro _ rfl; rintro _ rfl; rintro _ rfl; rintro _ rfl; rintro _ rfl; rintro _ rfl; rintro _ rfl; rintro _ rfl; rintro _ rfl
      simp only [given, jI, List.set]
      obtain ⟨w10, rfl⟩ : ∃ x, x = W := ⟨_, rfl⟩
      have HB10 := kp (HU9.out.trans (hW.mono hs9)); have hs10 := HB10.out.size
      have HK10 := kp (HK9.out.below hW hl9); have HL10 := kp (HL9.out.below hW hll9); have HS10 := kp (HS9.out.below hW hls9); have hl10 := HK10.out.lt; have hll10 := HL10.out.lt; have hls10 := HS10.out.lt
      clear hW hkk
      go_wp2_with (first
        | ((with_reducible show Sl 16); go_must (refine xT rfl 4 rfl _ bool_zero11 rfl ?_); intro gG w11 hgG hk11 hb11; have HKg11 := kp hk11; have HGg : Kept (w.heap.size ≤ gG) := kp (by omega); have HB11 := kp (HB10.out.trans (hb11.mono hs10)); have hs11 := HB11.out.size; have HK11 := kp (HK10.out.below hb11 hl10); have HL11 := kp (HL10.out.below hb11 hll10); have HS11 := kp (HS10.out.below hb11 hls10); have hl11 := HK11.out.lt; have hll11 := HL11.out.lt; have hls11 := HS11.out.lt; have hlg11 := hk11.lt; clear hk11 hb11 hgG)
        | ((with_reducible show Sl 17); go_must (refine xT rfl 3 rfl _ int_zero11 rfl ?_); intro gK w12 hgK hk12 hb12; have HKk12 := kp hk12; have HGk : Kept (w.heap.size ≤ gK) := kp (by omega); have HB12 := kp (HB11.out.trans (hb12.mono hs11)); have hs12 := HB12.out.size; have HK12 := kp (HK11.out.below hb12 hl11); have HL12 := kp (HL11.out.below hb12 hll11); have HS12 := kp (HS11.out.below hb12 hls11); have HKg12 := kp (HKg11.out.below hb12 hlg11); clear hk12 hb12 hgK)
        | ((with_reducible show Sn); (refine j7 rfl 4 (.tmp 16) (.const (.bool true)) rfl gG 0 (.bool true) rfl rfl rfl rfl _ _ HKg12.out (by show 0 < 1; decide) xA ?_); intro w13 hk13 hg13 hz13
           have HKg13 : Kept (Blk w13 gG 4 [.bool true]) := kp hk13; have HB13 := kp (HB12.out.grown hg13 hs12 (fun k e => by cases e; exact HGg.out)); have hs13 := HB13.out.size
           have HK13 := kp (HK12.out.grown hg13 (fun e => HK12.out.twoNe HKg12.out (by decide) (by cases e; rfl))); have HL13 := kp (HL12.out.grown hg13 (fun e => HL12.out.twoNe HKg12.out (by decide) (by cases e; rfl))); have HS13 := kp (HS12.out.grown hg13 (fun e => HS12.out.twoNe HKg12.out (by decide) (by cases e; rfl))); have HKk13 := kp (HKk12.out.grown hg13 (fun e => HKk12.out.twoNe HKg12.out (by decide) (by cases e; rfl)))
           clear hk13 hg13 hz13)
        | ((with_reducible show Sn); (refine j7 rfl 3 (.tmp 17) (.const (.int .i64 0)) rfl gK 0 (.int .i64 0) rfl rfl rfl rfl _ _ HKk13.out (by show 0 < 1; decide) l5 ?_); intro w14 hk14 hg14 hz14
           have HKk14 : Kept (Blk w14 gK 3 [.int .i64 0]) := kp hk14; have HB14 := kp (HB13.out.grown hg14 hs13 (fun k e => by cases e; exact HGk.out)); have hs14 := HB14.out.size
           have HK14 := kp (HK13.out.grown hg14 (fun e => HK13.out.twoNe HKk13.out (by decide) (by cases e; rfl))); have HL14 := kp (HL13.out.grown hg14 (fun e => HL13.out.twoNe HKk13.out (by decide) (by cases e; rfl))); have HS14 := kp (HS13.out.grown hg14 (fun e => HS13.out.twoNe HKk13.out (by decide) (by cases e; rfl))); have HKg14 := kp (HKg13.out.grown hg14 (fun e => HKg13.out.twoNe HKk13.out (by decide) (by cases e; rfl)))
           have hcl : w14.cell? ⟨gl, 0, none⟩ = some (.slice a1 len1 cap1) := HL14.out.cell 0; have hl14 := HK14.out.lt; have hll14 := HL14.out.lt; have hls14 := HS14.out.lt; have hlg14 := HKg14.out.lt; have hlk14 := hk14.lt
           clear hk14 hg14 hz14)
        | ((with_reducible show Sl 113); go_must (refine j1 rfl 38 (.tmp 3) rfl g1 rfl _ (pgC pg0) _ HK14.out Try.underlying38 rfl jB ?_))
        | (go_at_call 16; fail))
      refine (sc_along w.heap.size pg0 a1 len1 cap1 z1 w14 (HP.out.below HB14.out) (HPi.out.below HB14.out) (by omega) hs14 ca cb 0 HC.out).mono ?_
      unfold AlongPost
      rintro e w15 ⟨h, hb15⟩
      rcases h with ⟨hz0, rfl⟩ | ⟨_, gP2, gL2, q2, A2, c2, rfl, htw, hsrc, hc2'⟩
      · exact absurd rfl hz0
      have HTw := kp htw
      have HB15 := kp (HB14.out.trans (hb15.mono hs14)); have hs15 := HB15.out.size; have hzz := hb15.size
      have HJ0 : Kept (RunsJ w w15.heap.size w14.heap.size gP2 gL2 g1 gG gK gl gs q2 pg0 A2 a1 len1 c2 len1 cap1 z1 a2 0 w15) := kp ⟨hsrc, HK14.out.below hb15 hl14, HKg14.out.below hb15 hlg14, HKk14.out.below hb15 hlk14, HL14.out.below hb15 hll14, HS14.out.below hb15 hls14, Nat.le_refl _, HB15.out⟩
      have HLg : Kept (gG < w14.heap.size ∧ gK < w14.heap.size ∧ w.heap.size ≤ gG ∧ w.heap.size ≤ gK) := kp ⟨hlg14, hlk14, HGg.out, HGk.out⟩
      clear htw hsrc hb15 hcl
      go_wp2_with (first
        | (go_at_call 36; fail))
      have hgc := HLg.out
      refine (sc_along2 (.func (.func 22) #[] #[.pointer (some ⟨gG, 0, none⟩), .pointer (some ⟨gK, 0, none⟩), .pointer (some ⟨gl, 0, none⟩), .pointer (some ⟨g1, 0, none⟩), .pointer (some ⟨gs, 0, none⟩)]) gP2 gL2 q2 A2 len1 c2 z1 w15 0 0 (HTw.out.check HF.out) (by omega)
        (fun i W => RunsJ w w15.heap.size w14.heap.size gP2 gL2 g1 gG gK gl gs q2 pg0 A2 a1 len1 c2 len1 cap1 z1 a2 (i : Int) W ∧ (i : Int) ≤ a2) (fun i W => RunsJ w w15.heap.size w14.heap.size gP2 gL2 g1 gG gK gl gs q2 pg0 A2 a1 len1 c2 len1 cap1 z1 a2 ((i : Int) + 1) W ∧ a2 = (i : Int))
        (fun i A hj => hj.1.src.src) (fun i A A' hj hb => ⟨hj.1.more hb, hj.2⟩) (fun i A A' g cs hj hg hk hgr => ⟨hj.1.conf hg hk hgr hs15, hj.2⟩) ?round ⟨HJ0.out, HA2.out.1⟩).mono ?last
      case round =>
        intro i Wr q1 hi hj hsz hmq hcq h16q
        have hj1 := hj.1
        have hbl := hj1.below
        have hsr := hbl.size
        refine hands_closure (enters_of Try.func22 (by kernel_rfl) rfl) ?_
        refine (sc_runs2 pg0 a1 i len1 cap1 z1 a2 HA2.out hsm hi HC1.out gG gK gl g1 gs q1 Wr (qZ (HP.out.below hbl) hsr) ((HPi.out.below hbl).more hsr) HF.out hj1.bb hj1.bk hj1.bl hj1.pb hj1.bs hmq.ok (hcq.trans (HTw.out.runTo _ i))).mono ?_
        rintro e W' ⟨Wa, rfl, hgr1, hkg, hgr2, hkk2⟩
        have hja := hj1.turnG hkg hgr1 (by omega) (by omega)
        have hjb := hja.turnK hkk2 hgr2 (by omega) (by omega)
        have hHd : Held (fun k => w15.heap.size ≤ k ∧ k < Wr.heap.size) Wr W' := (Held.of_grown hgr1 fun k hk => ⟨hk.2, fun e => by cases e; omega⟩).trans (Held.of_grown hgr2 fun k hk => ⟨by have := hgr1.size; omega, fun e => by cases e; omega⟩)
        have hcast : ((i + 1 : Nat) : Int) = (i : Int) + 1 := by omega
        refine ⟨?_, hHd⟩
        by_cases h : (i : Int) + 1 ≤ a2
        · exact .inl ⟨by rw [decide_eq_true h], by rw [hcast]; exact ⟨hjb, h⟩⟩
        · exact .inr ⟨by rw [decide_eq_false h], hjb, by have := hj.2; omega⟩
      case last =>
        rintro e w16 ⟨⟨v16, rfl⟩, hJ | ⟨i, hi, hJ, hst⟩⟩
        · have hcG : w16.cell? ⟨gG, 0, none⟩ = some (.bool true) := hJ.1.bb.cell 0
          have hcK : w16.cell? ⟨gK, 0, none⟩ = some (.int .i64 ((len1 : Int) + 1)) := by have h := hJ.1.bk; rw [show ((len1 + 1 : Nat) : Int) = (len1 : Int) + 1 by omega] at h; exact h.cell 0
          have hcl : w16.cell? ⟨gl, 0, none⟩ = some (.slice a1 len1 cap1) := hJ.1.bl.cell 0
          have hcs : w16.cell? ⟨gs, 0, none⟩ = some (.int .u8 a2) := hJ.1.bs.cell 0
          have HB16 := kp hJ.1.below
          have hle : (len1 : Int) + 1 ≤ a2 := by have := hJ.2; omega
          have hmn : min ((len1 : Int) + 1) (a2 + 1) = (len1 : Int) + 1 := by omega
          have hee : ((len1 : Int) + 1 == (len1 : Int) + 1) = true := beq_self_eq_true _
          clear hJ
          go_wp2
          go_ret
          exact ⟨rfl, HB16.out⟩
        · subst hst
          have hcG : w16.cell? ⟨gG, 0, none⟩ = some (.bool true) := hJ.bb.cell 0
          have hcK : w16.cell? ⟨gK, 0, none⟩ = some (.int .i64 ((i : Int) + 1)) := hJ.bk.cell 0
          have hcl : w16.cell? ⟨gl, 0, none⟩ = some (.slice a1 len1 cap1) := hJ.bl.cell 0
          have hcs : w16.cell? ⟨gs, 0, none⟩ = some (.int .u8 (i : Int)) := hJ.bs.cell 0
          have HB16 := kp hJ.below
          clear hJ
          rcases Nat.lt_or_eq_of_le hi with hlt | rfl
          · have hmn : min ((len1 : Int) + 1) ((i : Int) + 1) = (i : Int) + 1 := by omega
            have hee : ((i : Int) + 1 == (i : Int) + 1) = true := beq_self_eq_true _
            go_wp2
            go_ret
            exact ⟨rfl, HB16.out⟩
          · have hee : ((i : Int) + 1 == (i : Int) + 1) = true := beq_self_eq_true _
            go_wp2
            go_ret
            exact ⟨rfl, HB16.out⟩
  | false =>
    obtain rfl := HMf.out rfl
    obtain rfl := HK0'.out rfl
    go_wp2
    apply lI (.is (.int .i64 0) :: .is (.bool false) :: .is (.bool false) :: .is (pcA q0) :: (.plain u9.heap.size q0.cf) :: .is (pgA pg0) :: .is (.slice a1 len1 cap1) :: (.rsteppedR u9.heap.size q0.cf) :: .is (.bool true) :: .is (.bool false) :: .is (.bool false) :: .is (.bool false) :: .is (.bool false) :: .is (.int .i64 (-1)) :: .is (.bool false) :: .is (.bool false) :: .is (.bool false) :: .is (.bool false) :: .is (.bool false) :: .is (.bool false) :: .is _ :: .is _ :: .is _ :: .is (.bool false) :: .is (.bool false) :: .is (.bool false) :: .is (.bool false) :: .is (.bool true) :: .is (.bool true) :: .is (.int .i64 0) :: .is (.bool false) :: .is (.bool false) :: .is (.bool false) :: [])
      [[], [(0, 80)], [(1, 81)], [(2, 82)], [(3, 83), (2, 82)], [(2, 82)], [(2, 82)], [(5, 85), (6, 86), (2, 82)], [(4, 84), (7, 87), (2, 82)], [(8, 88), (2, 82)], [(2, 82), (9, 89)], [(10, 90)], [(11, 91)], [(11, 91)], [(13, 93), (11, 91)], [(12, 92), (14, 94), (11, 91)], [(11, 91), (15, 95)], [(16, 96)], [(17, 97)], [(18, 98), (17, 97)], [(19, 99)], [(19, 99)], [(20, 100), (21, 101), (19, 99)], [(19, 99), (22, 102), (17, 97)], [(17, 97), (23, 103)], [(24, 104)], [(25, 105)], [(26, 106), (25, 105)], [(27, 107), (25, 105)], [(28, 108)], [(29, 109), (28, 108)], [(28, 108), (30, 110), (25, 105)], [(25, 105), (31, 111)]]
      [(0, 80), (1, 81), (2, 82), (3, 83), (4, 84), (5, 85), (6, 86), (7, 87), (8, 88), (9, 89), (10, 90), (11, 91), (12, 92), (13, 93), (14, 94), (15, 95), (16, 96), (17, 97), (18, 98), (19, 99), (20, 100), (21, 101), (22, 102), (23, 103), (24, 104), (25, 105), (26, 106), (27, 107), (28, 108), (29, 109), (30, 110), (31, 111), (32, 112)] (by kernel_rfl) (by kernel_rfl)
    case hob =>
      refine ⟨?o0, ?o1, ?o2, ?o3, ?o4, ?o5, ?o6, ?o7, ?o8, ?o9, ?o10, ?o11, ?o12, ?o13, ?o14, ?o15, ?o16, ?o17, ?o18, ?o19, ?o20, ?o21, ?o22, ?o23, ?o24, ?o25, ?o26, ?o27, ?o28, ?o29, ?o30, ?o31, ?o32, trivial⟩
      case o0 => intro W hW; change wpList _ _ _ _ _ _; go_wp2; exact j0 rfl rfl rfl
      case o1 => intro W hW; rintro _ rfl; change wpList _ _ _ _ _ _; go_wp2; exact j0 rfl rfl rfl
      case o2 => intro W hW; rintro _ rfl; change wpList _ _ _ _ _ _; go_wp2; exact j0 rfl rfl rfl
      case o3 =>
        intro W hW; rintro _ rfl; change wpList _ _ _ _ _ _
        go_must (refine l3 rfl 43 (.tmp 7) rfl gC rfl _ (pcC q0) _ (HKC9.out.below hW hlc9) Try.underlying43 rfl (by rw [H017.out]; exact j6) ?_)
        go_wp2; exact j0 rfl rfl rfl
      case o4 =>
        intro W hW; rintro _ rfl; rintro _ rfl; change wpList _ _ _ _ _ _
        have hsW := hW.size
        go_wp2_with fail
        refine (law_plain q0 W ((HR9.out.below hW).more hsW) (most_8 HGq.out HR9.out) HGq.out.owns (low_stacks HF.out HP9.out.row.len HGq.out HR9.out) (good_8s HGq.out)).mono ?_
        rintro e w2 ⟨q', rfl, hm2, hcf2, _, _, hsl2, hb2⟩
        have HB2 := kp hb2; have HM2 := kp (hm2.lower hsW); have HC2 := kp hcf2; have HS2 := kp hsl2; clear hb2 hm2 hcf2 hsl2
        go_wp2
        exact jC rfl rfl rfl HB2.out ⟨q', rfl, HM2.out, HC2.out, HS2.out⟩
      case o5 =>
        intro W hW; rintro _ rfl; change wpList _ _ _ _ _ _
        go_must (refine l3 rfl 38 (.tmp 3) rfl g1 rfl _ (pgC pg0) _ (HK9.out.below hW hl9) Try.underlying38 rfl jB ?_)
        go_wp2; exact j0 rfl rfl rfl
      case o6 =>
        intro W hW; rintro _ rfl; change wpList _ _ _ _ _ _
        have hx : W.cell? ⟨gl, 0, none⟩ = some (.slice a1 len1 cap1) := (HL9.out.below hW hll9).cell 0
        go_wp2; exact j0 rfl rfl rfl
      case o7 =>
        intro W hW; rintro _ rfl; rintro _ rfl; rintro _ rfl; change wpList _ _ _ _ _ _
        have hsW := hW.size
        go_wp2_with fail
        refine (ref_run pg0 a1 len1 cap1 z1 W (qZ (HP9.out.below hW) hsW) ((HZ9.out.below hW).more hsW) HC1.out (by omega) HF.out).mono ?_
        unfold StepR
        rintro e w2 ⟨q', rfl, hm2, hcf2, hb2⟩
        have HB2 := kp hb2; have HM2 := kp (hm2.lower hsW); have HC2 : Kept (q'.cf = q0.cf) := kp (by rw [hcf2, HCf0.out]); clear hb2 hm2 hcf2
        go_wp2
        exact jC rfl rfl rfl HB2.out ⟨q', rfl, HM2.out, HC2.out⟩
      case o8 =>
        intro W hW; rintro _ ⟨p1, rfl, hmx1, hcp1, hsp1⟩; rintro _ ⟨p2, rfl, hmx3, hcp3⟩; rintro _ rfl; change wpList _ _ _ _ _ _
        have hsW := hW.size
        go_wp2_with fail
        refine (rs_same W.heap.size p1 p2 W hmx1.ok hmx3.ok (Nat.le_refl _) hsp1 (xQ (show M.Good pg0 p2.cf by rw [hcp3]; exact HGq.out) hmx3.ok) (rc_own hcp1 HGq.out.owns) (rc_own hcp3 HGq.out.owns) true ⟨fun _ => by rw [hcp1, hcp3], fun _ => rfl⟩).mono ?_
        rintro e w2 ⟨rfl, hb2⟩
        have HB2 := kp hb2; clear hb2
        go_wp2
        exact jC rfl rfl rfl HB2.out rfl
      case o9 => intro W hW; rintro _ rfl; rintro _ rfl; change wpList _ _ _ _ _ _; go_wp2; exact j0 rfl rfl rfl
      case o10 => intro W hW; rintro _ rfl; rintro _ rfl; change wpList _ _ _ _ _ _; go_wp2; exact j0 rfl rfl rfl
      case o11 => intro W hW; rintro _ rfl; change wpList _ _ _ _ _ _; go_wp2; exact j0 rfl rfl rfl
      case o12 => intro W hW; rintro _ rfl; change wpList _ _ _ _ _ _; go_wp2; exact j0 rfl rfl rfl
      case o13 => intro W hW; rintro _ rfl; change wpList _ _ _ _ _ _; go_wp2; exact j0 rfl rfl rfl
      case o14 => intro W hW; rintro _ rfl; rintro _ rfl; change wpList _ _ _ _ _ _; go_wp2; exact j0 rfl rfl rfl
      case o15 => intro W hW; rintro _ rfl; rintro _ rfl; rintro _ rfl; change wpList _ _ _ _ _ _; go_wp2; exact j0 rfl rfl rfl
      case o16 => intro W hW; rintro _ rfl; rintro _ rfl; change wpList _ _ _ _ _ _; go_wp2; exact j0 rfl rfl rfl
      case o17 => intro W hW; rintro _ rfl; change wpList _ _ _ _ _ _; go_wp2; exact j0 rfl rfl rfl
      case o18 => intro W hW; rintro _ rfl; change wpList _ _ _ _ _ _; go_wp2; exact j0 rfl rfl rfl
      case o19 => intro W hW; rintro _ rfl; rintro _ rfl; change wpList _ _ _ _ _ _; go_wp2; exact j0 rfl rfl rfl
      case o20 => intro W hW; rintro _ rfl; change wpList _ _ _ _ _ _; go_wp2; exact j0 rfl rfl rfl
      case o21 => intro W hW; rintro _ rfl; change wpList _ _ _ _ _ _; go_wp2; exact j0 rfl rfl rfl
      case o22 => intro W hW; rintro _ rfl; rintro _ rfl; rintro _ rfl; change wpList _ _ _ _ _ _; go_wp2; exact j0 rfl rfl rfl
      case o23 => intro W hW; rintro _ rfl; rintro _ rfl; rintro _ rfl; change wpList _ _ _ _ _ _; go_wp2; exact j0 rfl rfl rfl
      case o24 => intro W hW; rintro _ rfl; rintro _ rfl; change wpList _ _ _ _ _ _; go_wp2; exact j0 rfl rfl rfl
      case o25 => intro W hW; rintro _ rfl; change wpList _ _ _ _ _ _; go_wp2; exact j0 rfl rfl rfl
      case o26 => intro W hW; rintro _ rfl; change wpList _ _ _ _ _ _; go_wp2; exact j0 rfl rfl rfl
      case o27 => intro W hW; rintro _ rfl; rintro _ rfl; change wpList _ _ _ _ _ _; go_wp2; exact j0 rfl rfl rfl
      case o28 => intro W hW; rintro _ rfl; rintro _ rfl; change wpList _ _ _ _ _ _; go_wp2; exact j0 rfl rfl rfl
      case o29 => intro W hW; rintro _ rfl; change wpList _ _ _ _ _ _; go_wp2; exact j0 rfl rfl rfl
      case o30 => intro W hW; rintro _ rfl; rintro _ rfl; change wpList _ _ _ _ _ _; go_wp2; exact j0 rfl rfl rfl
      case o31 => intro W hW; rintro _ rfl; rintro _ rfl; rintro _ rfl; change wpList _ _ _ _ _ _; go_wp2; exact j0 rfl rfl rfl
      case o32 => intro W hW; rintro _ rfl; rintro _ rfl; change wpList _ _ _ _ _ _; go_wp2; exact j0 rfl rfl rfl
    case hend =>
      intro W hW; rintro _ rfl; rintro _ rfl; rintro _ rfl; rintro _ rfl; rintro _ ⟨p1, rfl, hmx1, hcp1, hsp1⟩; rintro _ rfl; rintro _ rfl; rintro _ ⟨p2, rfl, hmx3, hcp3⟩; rintro _ rfl; rintro _ rfl; rintro _ rfl; rintro _ rfl; rintro _ rfl; rintro _ rfl; rintro _ rfl; rintro _ rfl; rintro _ rfl; rintro _ rfl; rintro _ rfl; rintro _ rfl; rintro _ rfl; rintro _ rfl; rintro _ rfl; rintro _ rfl; rintro _ rfl; rintro _ rfl; rintro _ rfl; rintro _ rfl; rintro _ rfl; rintro _ rfl; rintro _ rfl; rintro _ rfl; rintro _ rfl
      simp only [given, jI, List.set]
      obtain ⟨w10, rfl⟩ : ∃ x, x = W := ⟨_, rfl⟩
      have HB10 := kp (HU9.out.trans (hW.mono hs9)); have hs10 := HB10.out.size
      have HK10 := kp (HK9.out.below hW hl9); have HL10 := kp (HL9.out.below hW hll9); have HS10 := kp (HS9.out.below hW hls9); have hl10 := HK10.out.lt; have hll10 := HL10.out.lt; have hls10 := HS10.out.lt
      clear hW
      go_wp2_with (first
        | ((with_reducible show Sl 16); go_must (refine xT rfl 4 rfl _ bool_zero11 rfl ?_); intro gG w11 hgG hk11 hb11; have HKg11 := kp hk11; have HGg : Kept (w.heap.size ≤ gG) := kp (by omega); have HB11 := kp (HB10.out.trans (hb11.mono hs10)); have hs11 := HB11.out.size; have HK11 := kp (HK10.out.below hb11 hl10); have HL11 := kp (HL10.out.below hb11 hll10); have HS11 := kp (HS10.out.below hb11 hls10); have hl11 := HK11.out.lt; have hll11 := HL11.out.lt; have hls11 := HS11.out.lt; have hlg11 := hk11.lt; clear hk11 hb11 hgG)
        | ((with_reducible show Sl 17); go_must (refine xT rfl 3 rfl _ int_zero11 rfl ?_); intro gK w12 hgK hk12 hb12; have HKk12 := kp hk12; have HGk : Kept (w.heap.size ≤ gK) := kp (by omega); have HB12 := kp (HB11.out.trans (hb12.mono hs11)); have hs12 := HB12.out.size; have HK12 := kp (HK11.out.below hb12 hl11); have HL12 := kp (HL11.out.below hb12 hll11); have HS12 := kp (HS11.out.below hb12 hls11); have HKg12 := kp (HKg11.out.below hb12 hlg11); clear hk12 hb12 hgK)
        | ((with_reducible show Sn); (refine j7 rfl 4 (.tmp 16) (.const (.bool true)) rfl gG 0 (.bool true) rfl rfl rfl rfl _ _ HKg12.out (by show 0 < 1; decide) xA ?_); intro w13 hk13 hg13 hz13
           have HKg13 : Kept (Blk w13 gG 4 [.bool true]) := kp hk13; have HB13 := kp (HB12.out.grown hg13 hs12 (fun k e => by cases e; exact HGg.out)); have hs13 := HB13.out.size
           have HK13 := kp (HK12.out.grown hg13 (fun e => HK12.out.twoNe HKg12.out (by decide) (by cases e; rfl))); have HL13 := kp (HL12.out.grown hg13 (fun e => HL12.out.twoNe HKg12.out (by decide) (by cases e; rfl))); have HS13 := kp (HS12.out.grown hg13 (fun e => HS12.out.twoNe HKg12.out (by decide) (by cases e; rfl))); have HKk13 := kp (HKk12.out.grown hg13 (fun e => HKk12.out.twoNe HKg12.out (by decide) (by cases e; rfl)))
           clear hk13 hg13 hz13)
        | ((with_reducible show Sn); (refine j7 rfl 3 (.tmp 17) (.const (.int .i64 0)) rfl gK 0 (.int .i64 0) rfl rfl rfl rfl _ _ HKk13.out (by show 0 < 1; decide) l5 ?_); intro w14 hk14 hg14 hz14
           have HKk14 : Kept (Blk w14 gK 3 [.int .i64 0]) := kp hk14; have HB14 := kp (HB13.out.grown hg14 hs13 (fun k e => by cases e; exact HGk.out)); have hs14 := HB14.out.size
           have HK14 := kp (HK13.out.grown hg14 (fun e => HK13.out.twoNe HKk13.out (by decide) (by cases e; rfl))); have HL14 := kp (HL13.out.grown hg14 (fun e => HL13.out.twoNe HKk13.out (by decide) (by cases e; rfl))); have HS14 := kp (HS13.out.grown hg14 (fun e => HS13.out.twoNe HKk13.out (by decide) (by cases e; rfl))); have HKg14 := kp (HKg13.out.grown hg14 (fun e => HKg13.out.twoNe HKk13.out (by decide) (by cases e; rfl)))
           have hcl : w14.cell? ⟨gl, 0, none⟩ = some (.slice a1 len1 cap1) := HL14.out.cell 0; have hl14 := HK14.out.lt; have hll14 := HL14.out.lt; have hls14 := HS14.out.lt; have hlg14 := HKg14.out.lt; have hlk14 := hk14.lt
           clear hk14 hg14 hz14)
        | ((with_reducible show Sl 113); go_must (refine j1 rfl 38 (.tmp 3) rfl g1 rfl _ (pgC pg0) _ HK14.out Try.underlying38 rfl jB ?_))
        | (go_at_call 16; fail))
      refine (sc_along w.heap.size pg0 a1 len1 cap1 z1 w14 (HP.out.below HB14.out) (HPi.out.below HB14.out) (by omega) hs14 ca cb 0 HC.out).mono ?_
      unfold AlongPost
      rintro e w15 ⟨h, hb15⟩
      rcases h with ⟨hz0, rfl⟩ | ⟨_, gP2, gL2, q2, A2, c2, rfl, htw, hsrc, hc2'⟩
      · exact absurd rfl hz0
      have HTw := kp htw
      have HB15 := kp (HB14.out.trans (hb15.mono hs14)); have hs15 := HB15.out.size; have hzz := hb15.size
      have HJ0 : Kept (RunsJ w w15.heap.size w14.heap.size gP2 gL2 g1 gG gK gl gs q2 pg0 A2 a1 len1 c2 len1 cap1 z1 a2 0 w15) := kp ⟨hsrc, HK14.out.below hb15 hl14, HKg14.out.below hb15 hlg14, HKk14.out.below hb15 hlk14, HL14.out.below hb15 hll14, HS14.out.below hb15 hls14, Nat.le_refl _, HB15.out⟩
      have HLg : Kept (gG < w14.heap.size ∧ gK < w14.heap.size ∧ w.heap.size ≤ gG ∧ w.heap.size ≤ gK) := kp ⟨hlg14, hlk14, HGg.out, HGk.out⟩
      clear htw hsrc hb15 hcl
      go_wp2_with (first
        | (go_at_call 36; fail))
      have hgc := HLg.out
      refine (sc_along2 (.func (.func 22) #[] #[.pointer (some ⟨gG, 0, none⟩), .pointer (some ⟨gK, 0, none⟩), .pointer (some ⟨gl, 0, none⟩), .pointer (some ⟨g1, 0, none⟩), .pointer (some ⟨gs, 0, none⟩)]) gP2 gL2 q2 A2 len1 c2 z1 w15 0 0 (HTw.out.check HF.out) (by omega)
        (fun i W => RunsJ w w15.heap.size w14.heap.size gP2 gL2 g1 gG gK gl gs q2 pg0 A2 a1 len1 c2 len1 cap1 z1 a2 (i : Int) W ∧ (i : Int) ≤ a2) (fun i W => RunsJ w w15.heap.size w14.heap.size gP2 gL2 g1 gG gK gl gs q2 pg0 A2 a1 len1 c2 len1 cap1 z1 a2 ((i : Int) + 1) W ∧ a2 = (i : Int))
        (fun i A hj => hj.1.src.src) (fun i A A' hj hb => ⟨hj.1.more hb, hj.2⟩) (fun i A A' g cs hj hg hk hgr => ⟨hj.1.conf hg hk hgr hs15, hj.2⟩) ?round ⟨HJ0.out, HA2.out.1⟩).mono ?last
      case round =>
        intro i Wr q1 hi hj hsz hmq hcq h16q
        have hj1 := hj.1
        have hbl := hj1.below
        have hsr := hbl.size
        refine hands_closure (enters_of Try.func22 (by kernel_rfl) rfl) ?_
        refine (sc_runs2 pg0 a1 i len1 cap1 z1 a2 HA2.out hsm hi HC1.out gG gK gl g1 gs q1 Wr (qZ (HP.out.below hbl) hsr) ((HPi.out.below hbl).more hsr) HF.out hj1.bb hj1.bk hj1.bl hj1.pb hj1.bs hmq.ok (hcq.trans (HTw.out.runTo _ i))).mono ?_
        rintro e W' ⟨Wa, rfl, hgr1, hkg, hgr2, hkk2⟩
        have hja := hj1.turnG hkg hgr1 (by omega) (by omega)
        have hjb := hja.turnK hkk2 hgr2 (by omega) (by omega)
        have hHd : Held (fun k => w15.heap.size ≤ k ∧ k < Wr.heap.size) Wr W' := (Held.of_grown hgr1 fun k hk => ⟨hk.2, fun e => by cases e; omega⟩).trans (Held.of_grown hgr2 fun k hk => ⟨by have := hgr1.size; omega, fun e => by cases e; omega⟩)
        have hcast : ((i + 1 : Nat) : Int) = (i : Int) + 1 := by omega
        refine ⟨?_, hHd⟩
        by_cases h : (i : Int) + 1 ≤ a2
        · exact .inl ⟨by rw [decide_eq_true h], by rw [hcast]; exact ⟨hjb, h⟩⟩
        · exact .inr ⟨by rw [decide_eq_false h], hjb, by have := hj.2; omega⟩
      case last =>
        rintro e w16 ⟨⟨v16, rfl⟩, hJ | ⟨i, hi, hJ, hst⟩⟩
        · have hcG : w16.cell? ⟨gG, 0, none⟩ = some (.bool true) := hJ.1.bb.cell 0
          have hcK : w16.cell? ⟨gK, 0, none⟩ = some (.int .i64 ((len1 : Int) + 1)) := by have h := hJ.1.bk; rw [show ((len1 + 1 : Nat) : Int) = (len1 : Int) + 1 by omega] at h; exact h.cell 0
          have hcl : w16.cell? ⟨gl, 0, none⟩ = some (.slice a1 len1 cap1) := hJ.1.bl.cell 0
          have hcs : w16.cell? ⟨gs, 0, none⟩ = some (.int .u8 a2) := hJ.1.bs.cell 0
          have HB16 := kp hJ.1.below
          have hle : (len1 : Int) + 1 ≤ a2 := by have := hJ.2; omega
          have hmn : min ((len1 : Int) + 1) (a2 + 1) = (len1 : Int) + 1 := by omega
          have hee : ((len1 : Int) + 1 == (len1 : Int) + 1) = true := beq_self_eq_true _
          clear hJ
          go_wp2
          go_ret
          exact ⟨rfl, HB16.out⟩
        · subst hst
          have hcG : w16.cell? ⟨gG, 0, none⟩ = some (.bool true) := hJ.bb.cell 0
          have hcK : w16.cell? ⟨gK, 0, none⟩ = some (.int .i64 ((i : Int) + 1)) := hJ.bk.cell 0
          have hcl : w16.cell? ⟨gl, 0, none⟩ = some (.slice a1 len1 cap1) := hJ.bl.cell 0
          have hcs : w16.cell? ⟨gs, 0, none⟩ = some (.int .u8 (i : Int)) := hJ.bs.cell 0
          have HB16 := kp hJ.below
          clear hJ
          rcases Nat.lt_or_eq_of_le hi with hlt | rfl
          · have hmn : min ((len1 : Int) + 1) ((i : Int) + 1) = (i : Int) + 1 := by omega
            have hee : ((i : Int) + 1 == (i : Int) + 1) = true := beq_self_eq_true _
            go_wp2
            go_ret
            exact ⟨rfl, HB16.out⟩
          · have hee : ((i : Int) + 1 == (i : Int) + 1) = true := beq_self_eq_true _
            go_wp2
            go_ret
            exact ⟨rfl, HB16.out⟩
end Go.Proofs.Ytkhfolpffjihgaa
