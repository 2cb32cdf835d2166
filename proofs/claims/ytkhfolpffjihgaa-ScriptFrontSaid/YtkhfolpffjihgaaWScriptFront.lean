/- ScriptFront, walked. -/
import Derived.Test.YtkhfolpffjihgaaPk39
import Derived.Test.YtkhfolpffjihgaaScriptP8
import Derived.Test.YtkhfolpffjihgaaPk20
import Derived.Test.YtkhfolpffjihgaaPk26
import Derived.Test.YtkhfolpffjihgaaPk4
import Derived.Test.YtkhfolpffjihgaaPk40
import Derived.Test.YtkhfolpffjihgaaPk42
import Derived.Test.YtkhfolpffjihgaaScriptFr2
namespace Go.Proofs.Ytkhfolpffjihgaa
open Go.RowKit
set_option maxRecDepth 1000000 in
set_option maxHeartbeats 8000000 in
theorem walkScriptFront (pg0 : Pg) (a1 : Option Addr) (len1 cap1 : Nat) (z1 : List (Int × Bool)) (a2 : Option Addr) (len2 cap2 : Nat) (z2 : List (Int × Bool)) (w : World) (w0 : pg0.Ok w w.heap.size) (w1 : Picks w w.heap.size a1 len1 z1) (c1 : len1 ≤ cap1 ∧ cap1 ≤ maxLen) (w2 : Picks w w.heap.size a2 len2 z2) (c2 : len2 ≤ cap2 ∧ cap2 ≤ maxLen) :
    Calls Try.prog 6 #[pgA pg0, .slice a1 len1 cap1, .slice a2 len2 cap2] w fun e w' => e = .returned (.bool true) ∧ Below w.heap.size w w' := by
  have HP := kp w0
  have HPi := kp w1
  have HPm := kp w2
  have hc1 := c1.1; have hm1 := c1.2
  have hc2x := c2.1; have hm2 := c2.2
  unfold maxLen at hm1 hm2
  obtain ⟨r, hr⟩ : ∃ r, Q.small pg0 = r := ⟨_, rfl⟩
  have HR := kp hr
  clear hr w0 w1 c1 w2 c2
  rw [jO]
  cases r
  · go_enter Try.func6, Try.ntmps6
    go_wp2_with (first
      | ((with_reducible refine j2 rfl 38 (.tmp 0) rfl (pgC pg0) rfl ?_); intro g1 u1 hg1 hk1 hu1; have HK1 := kp hk1; have HG1 := kp hg1; have HU1 := kp hu1; have hz1 := hu1.size; have hl1 := hk1.lt; clear hg1 hk1 hu1)
      | ((with_reducible show Sl 4); go_must (refine wpList_box_one rfl 22 (.tmp 1) rfl (.slice a1 len1 cap1) rfl rfl ?_); intro gl u1b hgl hkl hbl; have HKl1 := kp hkl; have HGl : Kept (w.heap.size ≤ gl ∧ gl ≠ g1) := kp ⟨by omega, by omega⟩; have HU1b := kp (HU1.out.trans (hbl.mono hz1)); have hz1b := HU1b.out.size; have HK1b := kp (HK1.out.below hbl hl1); have hl1b := HK1b.out.lt; have hll1 := hkl.lt; clear hgl hkl hbl)
      | (go_at_call 9; fail))
    refine (lH u1b).mono ?_
    rintro e u2 ⟨rfl, hb2⟩
    have HU2 : Kept (Below w.heap.size w u2) := kp (HU1b.out.trans (hb2.mono hz1b))
    have hs2 := HU2.out.size
    have HP2 := kp (HP.out.below HU2.out)
    have HK2 := kp (HK1b.out.below hb2 hl1b)
    have HL2 := kp (HKl1.out.below hb2 hll1)
    obtain ⟨hc0, hc1', hc2, hc3⟩ := jL HK2.out
    clear hb2
    go_wp2_with fail
    refine (vO _ pg0 u2 HP2.out hs2 _ HR.out).mono ?_
    rintro e u3 ⟨rfl, hb3⟩
    have HU3 : Kept (Below w.heap.size w u3) := kp (HU2.out.trans (hb3.mono hs2))
    have hs3 := HU3.out.size
    have HP3 := kp (HP.out.below HU3.out)
    have HK3 := kp (HK2.out.below hb3 HK2.out.lt)
    have HL3 := kp (HL2.out.below hb3 HL2.out.lt)
    have hcl := HL3.out.cell 0
    clear hb3 hc0 hc1' hc2 hc3
    obtain ⟨hc0, hc1', hc2, hc3⟩ := jL HK3.out
    go_wp2_with fail
    refine (lH u3).mono ?_
    rintro e u4 ⟨rfl, hb4⟩
    have HU4 := kp (HU3.out.trans (hb4.mono hs3))
    clear hb4
    go_wp2
    go_ret
    exact ⟨rfl, HU4.out⟩
  by_cases hbig : 120 < len1
  · go_enter Try.func6, Try.ntmps6
    go_wp2_with (first
      | ((with_reducible refine j2 rfl 38 (.tmp 0) rfl (pgC pg0) rfl ?_); intro g1 u1 hg1 hk1 hu1; have HK1 := kp hk1; have HG1 := kp hg1; have HU1 := kp hu1; have hz1 := hu1.size; have hl1 := hk1.lt; clear hg1 hk1 hu1)
      | ((with_reducible show Sl 4); go_must (refine wpList_box_one rfl 22 (.tmp 1) rfl (.slice a1 len1 cap1) rfl rfl ?_); intro gl u1b hgl hkl hbl; have HKl1 := kp hkl; have HGl : Kept (w.heap.size ≤ gl ∧ gl ≠ g1) := kp ⟨by omega, by omega⟩; have HU1b := kp (HU1.out.trans (hbl.mono hz1)); have hz1b := HU1b.out.size; have HK1b := kp (HK1.out.below hbl hl1); have hl1b := HK1b.out.lt; have hll1 := hkl.lt; clear hgl hkl hbl)
      | (go_at_call 9; fail))
    refine (lH u1b).mono ?_
    rintro e u2 ⟨rfl, hb2⟩
    have HU2 : Kept (Below w.heap.size w u2) := kp (HU1b.out.trans (hb2.mono hz1b))
    have hs2 := HU2.out.size
    have HP2 := kp (HP.out.below HU2.out)
    have HK2 := kp (HK1b.out.below hb2 hl1b)
    have HL2 := kp (HKl1.out.below hb2 hll1)
    obtain ⟨hc0, hc1', hc2, hc3⟩ := jL HK2.out
    clear hb2
    go_wp2_with fail
    refine (vO _ pg0 u2 HP2.out hs2 _ HR.out).mono ?_
    rintro e u3 ⟨rfl, hb3⟩
    have HU3 : Kept (Below w.heap.size w u3) := kp (HU2.out.trans (hb3.mono hs2))
    have hs3 := HU3.out.size
    have HP3 := kp (HP.out.below HU3.out)
    have HK3 := kp (HK2.out.below hb3 HK2.out.lt)
    have HL3 := kp (HL2.out.below hb3 HL2.out.lt)
    have hcl := HL3.out.cell 0
    clear hb3 hc0 hc1' hc2 hc3
    obtain ⟨hc0, hc1', hc2, hc3⟩ := jL HK3.out
    go_wp2_with fail
    refine (lH u3).mono ?_
    rintro e u4 ⟨rfl, hb4⟩
    have HU4 := kp (HU3.out.trans (hb4.mono hs3))
    clear hb4
    go_wp2
    go_ret
    exact ⟨rfl, HU4.out⟩
  have hsm : len1 ≤ 120 := by omega
  clear hbig
  by_cases hbig : 120 < len2
  · go_enter Try.func6, Try.ntmps6
    go_wp2_with (first
      | ((with_reducible refine j2 rfl 38 (.tmp 0) rfl (pgC pg0) rfl ?_); intro g1 u1 hg1 hk1 hu1; have HK1 := kp hk1; have HG1 := kp hg1; have HU1 := kp hu1; have hz1 := hu1.size; have hl1 := hk1.lt; clear hg1 hk1 hu1)
      | ((with_reducible show Sl 4); go_must (refine wpList_box_one rfl 22 (.tmp 1) rfl (.slice a1 len1 cap1) rfl rfl ?_); intro gl u1b hgl hkl hbl; have HKl1 := kp hkl; have HGl : Kept (w.heap.size ≤ gl ∧ gl ≠ g1) := kp ⟨by omega, by omega⟩; have HU1b := kp (HU1.out.trans (hbl.mono hz1)); have hz1b := HU1b.out.size; have HK1b := kp (HK1.out.below hbl hl1); have hl1b := HK1b.out.lt; have hll1 := hkl.lt; clear hgl hkl hbl)
      | (go_at_call 9; fail))
    refine (lH u1b).mono ?_
    rintro e u2 ⟨rfl, hb2⟩
    have HU2 : Kept (Below w.heap.size w u2) := kp (HU1b.out.trans (hb2.mono hz1b))
    have hs2 := HU2.out.size
    have HP2 := kp (HP.out.below HU2.out)
    have HK2 := kp (HK1b.out.below hb2 hl1b)
    have HL2 := kp (HKl1.out.below hb2 hll1)
    obtain ⟨hc0, hc1', hc2, hc3⟩ := jL HK2.out
    clear hb2
    go_wp2_with fail
    refine (vO _ pg0 u2 HP2.out hs2 _ HR.out).mono ?_
    rintro e u3 ⟨rfl, hb3⟩
    have HU3 : Kept (Below w.heap.size w u3) := kp (HU2.out.trans (hb3.mono hs2))
    have hs3 := HU3.out.size
    have HP3 := kp (HP.out.below HU3.out)
    have HK3 := kp (HK2.out.below hb3 HK2.out.lt)
    have HL3 := kp (HL2.out.below hb3 HL2.out.lt)
    have hcl := HL3.out.cell 0
    clear hb3 hc0 hc1' hc2 hc3
    obtain ⟨hc0, hc1', hc2, hc3⟩ := jL HK3.out
    go_wp2_with fail
    refine (lH u3).mono ?_
    rintro e u4 ⟨rfl, hb4⟩
    have HU4 := kp (HU3.out.trans (hb4.mono hs3))
    clear hb4
    go_wp2
    go_ret
    exact ⟨rfl, HU4.out⟩
  have hsm2 : len2 ≤ 120 := by omega
  clear hbig
  obtain ⟨ca, cb, cc, hcc⟩ : ∃ ca cb cc, Q.check pg0 = (ca, cb, cc) := ⟨_, _, _, rfl⟩
  have HC := kp hcc
  clear hcc
  go_enter Try.func6, Try.ntmps6
  go_wp2_with (first
    | ((with_reducible refine j2 rfl 38 (.tmp 0) rfl (pgC pg0) rfl ?_); intro g1 u1 hg1 hk1 hu1; have HK1 := kp hk1; have HG1 := kp hg1; have HU1 := kp hu1; have hz1 := hu1.size; have hl1 := hk1.lt; clear hg1 hk1 hu1)
    | ((with_reducible show Sl 4); go_must (refine wpList_box_one rfl 22 (.tmp 1) rfl (.slice a1 len1 cap1) rfl rfl ?_); intro gl u1b hgl hkl hbl; have HKl1 := kp hkl; have HGl : Kept (w.heap.size ≤ gl ∧ gl ≠ g1) := kp ⟨by omega, by omega⟩; have HU1b := kp (HU1.out.trans (hbl.mono hz1)); have hz1b := HU1b.out.size; have HK1b := kp (HK1.out.below hbl hl1); have hl1b := HK1b.out.lt; have hll1 := hkl.lt; clear hgl hkl hbl)
    | (go_at_call 9; fail))
  refine (lH u1b).mono ?_
  rintro e u2 ⟨rfl, hb2⟩
  have HU2 : Kept (Below w.heap.size w u2) := kp (HU1b.out.trans (hb2.mono hz1b))
  have hs2 := HU2.out.size
  have HP2 := kp (HP.out.below HU2.out)
  have HK2 := kp (HK1b.out.below hb2 hl1b)
  have HL2 := kp (HKl1.out.below hb2 hll1)
  obtain ⟨hc0, hc1', hc2, hc3⟩ := jL HK2.out
  clear hb2
  go_wp2_with fail
  refine (vO _ pg0 u2 HP2.out hs2 _ HR.out).mono ?_
  rintro e u3 ⟨rfl, hb3⟩
  have HU3 : Kept (Below w.heap.size w u3) := kp (HU2.out.trans (hb3.mono hs2))
  have hs3 := HU3.out.size
  have HP3 := kp (HP.out.below HU3.out)
  have HK3 := kp (HK2.out.below hb3 HK2.out.lt)
  have HL3 := kp (HL2.out.below hb3 HL2.out.lt)
  have hcl := HL3.out.cell 0
  clear hb3 hc0 hc1' hc2 hc3
  obtain ⟨hc0, hc1', hc2, hc3⟩ := jL HK3.out
  go_wp2_with (first
    | (go_at_call 13; fail))
  clear hc0 hc1' hc2 hc3 hcl
  refine (sc_run w.heap.size pg0 a1 len1 cap1 z1 u3 HP3.out (HPi.out.below HU3.out) (by omega) hs3 ca cb cc HC.out).mono ?_
  unfold RunPost
  rintro e u4 ⟨q0, rfl, hmi, h16, h0, hcf, hb4⟩
  have HMi4 := kp (hmi.less hs3); have HCf := kp hcf; have H0 := kp h0; have H016 := kp h16; have H017 := kp (jG h16); have HU4 := kp (HU3.out.trans (hb4.mono hs3)); have hs4 := HU4.out.size; have HK4 := kp (HK3.out.below hb4 HK3.out.lt); have HL4 := kp (HL3.out.below hb4 HL3.out.lt); have hl4 := HK4.out.lt; have hll4 := HL4.out.lt
  clear hmi hcf h0 h16 hb4
  by_cases hz : cc = 0
  case neg =>
    have HZ := kp hz
    have HT : Kept (q0.len = 0) := kp (H0.out hz)
    have hb0 : ((cc : Int) != 0) = true := by simpa using hz
    clear hz
    go_wp2_with (first
      | ((with_reducible show Sl 7); go_must (refine j3 rfl 43 rfl _ jP ?_); intro gC u5 hgC hk5 hb5; have HKc := kp hk5; have HGC : Kept (w.heap.size ≤ gC ∧ gC ≠ g1 ∧ gC ≠ gl) := kp ⟨by omega, by omega, by omega⟩; have HU5 := kp (HU4.out.trans (hb5.mono hs4)); have hs5 := HU5.out.size; have HK5 := kp (HK4.out.below hb5 hl4); have HL5 := kp (HL4.out.below hb5 hll4); have HMi5 := kp (HMi4.out.below hb5 (Nat.le_refl _)); clear hk5 hb5 hgC)
      | ((with_reducible show Sn); (refine j4 rfl 43 (.tmp 7) (.tmp 37) rfl gC (pcC q0) rfl rfl _ _ HKc.out (by rw [H017.out]; exact j6) (by rw [H017.out]; rfl) (jN q0) ?_); intro u6 hk6 hg6 hz6
         have HU6 := kp (HU5.out.grown hg6 hs5 (fun k e => by cases e; exact HGC.out.1)); have hs6 := HU6.out.size; have HKC6 := kp hk6; have HMi6 := kp (Mine.typed HMi5.out HKc.out hg6)
         have HK6 := kp (HK5.out.grown hg6 (fun e => by cases e; exact HGC.out.2.1 rfl)); have HL6 := kp (HL5.out.grown hg6 (fun e => by cases e; exact HGC.out.2.2 rfl)); have hl6 := HK6.out.lt; have hll6 := HL6.out.lt; have hlc6 := hk6.lt
         have hcq : u6.cell? ⟨gC, 0, none⟩ = some (.slice q0.A 0 q0.cap) := (HKC6.out.cell 0).trans (by show some (Value.slice q0.A q0.len q0.cap) = _; rw [HT.out])
         clear hk6 hg6 hz6))
    go_ret
    exact ⟨rfl, HU6.out⟩
  subst hz
  have HF : Kept (Fine pg0) := kp (zD HC.out)
  have HGd : Kept (∀ i, M.Good pg0 (runTo pg0 z1 i)) := kp (qG HF.out HP.out.row.len z1)
  have HCf0 : Kept (q0.cf = runTo pg0 z1 len1) := kp (HCf.out rfl)
  have HGz : Kept (∀ i, M.Good pg0 (runTo pg0 (z1 ++ z2) i)) := kp (qG HF.out HP.out.row.len (z1 ++ z2))
  have HZ1 : Kept (z1.length = len1) := kp HPi.out.1.len
  have HZ2 : Kept (z2.length = len2) := kp HPm.out.1.len
  go_wp2_with (first
    | ((with_reducible show Sl 7); go_must (refine j3 rfl 43 rfl _ jP ?_); intro gC u5 hgC hk5 hb5; have HKc := kp hk5; have HGC : Kept (w.heap.size ≤ gC ∧ gC ≠ g1 ∧ gC ≠ gl) := kp ⟨by omega, by omega, by omega⟩; have HU5 := kp (HU4.out.trans (hb5.mono hs4)); have hs5 := HU5.out.size; have HK5 := kp (HK4.out.below hb5 hl4); have HL5 := kp (HL4.out.below hb5 hll4); have HMi5 := kp (HMi4.out.below hb5 (Nat.le_refl _)); clear hk5 hb5 hgC)
    | ((with_reducible show Sn); (refine j4 rfl 43 (.tmp 7) (.tmp 37) rfl gC (pcC q0) rfl rfl _ _ HKc.out (by rw [H017.out]; exact j6) (by rw [H017.out]; rfl) (jN q0) ?_); intro u6 hk6 hg6 hz6
       have HU6 := kp (HU5.out.grown hg6 hs5 (fun k e => by cases e; exact HGC.out.1)); have hs6 := HU6.out.size; have HKC6 := kp hk6; have HMi6 := kp (Mine.typed HMi5.out HKc.out hg6)
       have HK6 := kp (HK5.out.grown hg6 (fun e => by cases e; exact HGC.out.2.1 rfl)); have HL6 := kp (HL5.out.grown hg6 (fun e => by cases e; exact HGC.out.2.2 rfl)); have hl6 := HK6.out.lt; have hll6 := HL6.out.lt; have hlc6 := hk6.lt
       have hcl : u6.cell? ⟨gl, 0, none⟩ = some (.slice a1 len1 cap1) := HL6.out.cell 0; have HE := kp (OwnR.empty 2 pkV u6 w.heap.size 29 hs6); have HB0 : Kept (Below w.heap.size w (u6.alloc (.cells #[] 29))) := kp (HU6.out.alloc hs6 _); have HS0 : Kept (w.heap.size ≤ (u6.alloc (.cells #[] 29)).heap.size) := kp HB0.out.size; have HZe : Kept ((u6.alloc (.cells #[] 29)).heap.size = u6.heap.size + 1) := kp (World.size_alloc _ _); have HBe0 : Kept (Below u6.heap.size u6 (u6.alloc (.cells #[] 29))) := kp ((Below.refl _ _).alloc (Nat.le_refl _) _)
       clear hk6 hg6 hz6)
    | (at_builtin; (with_reducible show Sl 47); go_must (refine lD rfl (.tmp 45) (.tmp 46) 22 rfl w.heap.size 29 2 _ 16 Try.underlying22 zB rfl (by omega) pkV pkV_one _ _ [] rfl HE.out a1 len1 cap1 w.heap.size z1 rfl ((HPi.out.1.below HB0.out)) (by unfold maxLen; simp; omega) (by simp; omega) HS0.out ?_); intro v7 w7 hown7 hgr7; rw [List.nil_append] at hown7; have HOw7 := kp hown7; have HGr7 := kp hgr7; have HB7 := kp (grew_below HE.out hgr7 HB0.out HS0.out); have hs7 := HB7.out.size
       have HK7 := kp (vD HE.out hgr7 (HK6.out.below HBe0.out hl6) (by decide)); have HL7 := kp (vD HE.out hgr7 (HL6.out.below HBe0.out hll6) (by decide)); have HKC7 := kp (vD HE.out hgr7 (HKC6.out.below HBe0.out hlc6) (by decide)); have HM7 := kp (grew_mine HE.out hgr7 (HMi6.out.below HBe0.out (Nat.le_refl _)) (by decide) (by decide))
       clear hown7 hgr7 hcl)
    | (at_builtin; (with_reducible show Sl 49); go_must (refine lD rfl (.tmp 47) (.tmp 48) 22 rfl w.heap.size 29 2 _ 16 Try.underlying22 zB rfl (by omega) pkV pkV_one w7 v7 z1 rfl HOw7.out a2 len2 cap2 w.heap.size z2 rfl ((HPm.out.1.below HB7.out)) (by rw [HZ1.out]; unfold maxLen; omega) (by rw [HZ1.out]; omega) hs7 ?_); intro v8 w8 hown8 hgr8; have HOw8 := kp hown8; have HB8 := kp (grew_below HOw7.out hgr8 HB7.out hs7); have hs8 := HB8.out.size
       have HK8 := kp (vD HOw7.out hgr8 HK7.out (by decide)); have HL8 := kp (vD HOw7.out hgr8 HL7.out (by decide)); have HKC8 := kp (vD HOw7.out hgr8 HKC7.out (by decide)); have HM8 := kp (grew_mine HOw7.out hgr8 HM7.out (by decide) (by decide))
       obtain ⟨A8, c8, rfl, hl8', hm8', _⟩ := hown8.form
       have HN8 : Kept ((z1 ++ z2).length = len1 + len2) := kp (by rw [List.length_append, HZ1.out, HZ2.out])
       have HO8 : Kept (OwnR 2 pkV w8 w.heap.size 29 (.slice A8 (len1 + len2) c8) (z1 ++ z2)) := kp (by have := hown8; rw [HN8.out] at this; exact this)
       rw [HN8.out] at hl8'
       rw [HN8.out]
       have hl8 := HK8.out.lt; have hll8 := HL8.out.lt; have hlc8 := HKC8.out.lt
       clear hown8 hgr8)
    | ((with_reducible show Sl 10); go_must (refine xT rfl 4 rfl _ bool_zero11 rfl ?_); intro gG w9 hgG hk9 hb9; have HKg9 := kp hk9; have HGg : Kept (w.heap.size ≤ gG) := kp (by omega); have HB9 := kp (HB8.out.trans (hb9.mono hs8)); have hs9 := HB9.out.size; have HK9 := kp (HK8.out.below hb9 hl8); have HL9 := kp (HL8.out.below hb9 hll8); have HKC9 := kp (HKC8.out.below hb9 hlc8); have HM9 := kp (HM8.out.below hb9 (Nat.le_refl _)); have HO9 := kp (HO8.out.below hb9 (Nat.le_refl _)); have hgg := hgG; have hz89 := hb9.size; clear hk9 hb9 hgG)
    | ((with_reducible show Sn); (refine j7 rfl 4 (.tmp 10) (.const (.bool false)) rfl gG 0 (.bool false) rfl rfl rfl rfl _ _ HKg9.out (by show 0 < 1; decide) xA ?_); intro w10 hk10 hg10 hz10
       have HKg10 : Kept (Blk w10 gG 4 [.bool false]) := kp hk10; have HB10 := kp (HB9.out.grown hg10 hs9 (fun k e => by cases e; exact HGg.out)); have hs10 := HB10.out.size
       have HK10 := kp (HK9.out.grown hg10 (fun e => HK9.out.twoNe HKg9.out (by decide) (by cases e; rfl))); have HL10 := kp (HL9.out.grown hg10 (fun e => HL9.out.twoNe HKg9.out (by decide) (by cases e; rfl))); have HKC10 := kp (HKC9.out.grown hg10 (fun e => HKC9.out.twoNe HKg9.out (by decide) (by cases e; rfl))); have HM10 := kp (HM9.out.turnB HKg9.out hg10)
       have HO10 := kp (HO9.out.turnB11 HKg9.out hg10)
       have hl10 := HK10.out.lt; have hll10 := HL10.out.lt; have hlc10 := HKC10.out.lt; have hlg10 := hk10.lt
       clear hk10 hg10 hz10)
    | ((with_reducible show Sl 50); go_must (refine j1 rfl 38 (.tmp 3) rfl g1 rfl _ (pgC pg0) _ HK10.out Try.underlying38 rfl jB ?_))
    | (go_at_call 16; fail))
  have HZz : Kept (∀ x ∈ z1 ++ z2, I64 x.1) := kp (fun x hx => by rcases List.mem_append.1 hx with h | h; exact HPi.out.2 x h; exact HPm.out.2 x h)
  refine (sc_along w10.heap.size pg0 A8 (len1 + len2) c8 (z1 ++ z2) w10 (qZ (HP.out.below HB10.out) hs10) ⟨HO10.out.recs, HZz.out⟩ (by omega) (Nat.le_refl _) ca cb 0 HC.out).mono ?_
  unfold AlongPost
  rintro e w11 ⟨h, hb11⟩
  rcases h with ⟨hz0, rfl⟩ | ⟨_, gP2, gL2, q2, A2, c2, rfl, htw, hsrc, hc2'⟩
  · exact absurd rfl hz0
  have HTw := kp htw
  have HB11 := kp (HB10.out.trans (hb11.mono hs10)); have hs11 := HB11.out.size; have hzz := hb11.size
  have HJ0 : Kept (FrontJ w w11.heap.size w10.heap.size gP2 gL2 g1 gG gl gC q2 pg0 A2 a1 (len1 + len2) c2 len1 cap1 (z1 ++ z2) (.slice A8 (len1 + len2) c8) q0 (decide (len1 < 0)) w11) := kp ⟨hsrc, HK10.out.below hb11 hl10, HKg10.out.below hb11 hlg10, HL10.out.below hb11 hll10, HKC10.out.below hb11 hlc10, HM10.out.below hb11 (Nat.le_refl _), HO10.out.below hb11 (Nat.le_refl _), Nat.le_refl _, HB11.out⟩
  have HLg : Kept (gG < w10.heap.size ∧ gC < w10.heap.size ∧ w.heap.size ≤ gG) := kp ⟨hlg10, hlc10, HGg.out⟩
  clear htw hsrc hb11
  go_wp2_with (first
    | (go_at_call 36; fail))
  have hgc := HLg.out
  refine (sc_along2 (.func (.func 23) #[] #[.pointer (some ⟨gG, 0, none⟩), .pointer (some ⟨gl, 0, none⟩), .pointer (some ⟨gC, 0, none⟩)]) gP2 gL2 q2 A2 (len1 + len2) c2 (z1 ++ z2) w11 0 0 (HTw.out.check HF.out) (by omega)
    (fun i W => FrontJ w w11.heap.size w10.heap.size gP2 gL2 g1 gG gl gC q2 pg0 A2 a1 (len1 + len2) c2 len1 cap1 (z1 ++ z2) (.slice A8 (len1 + len2) c8) q0 (decide (len1 < i)) W) (fun _ _ => False)
    (fun i A hj => hj.src.src) (fun i A A' hj hb => hj.more hb) (fun i A A' g cs hj hg hk hgr => hj.conf hg hk hgr (by omega) hs11) ?round HJ0.out).mono ?last
  case round =>
    intro i Wr q1 hi hj hsz hm1' hcq h16q
    have hcq' : q1.cf = runTo pg0 (z1 ++ z2) i := hcq.trans (HTw.out.runTo _ i)
    refine hands_closure (enters_of Try.func23 (by kernel_rfl) rfl) ?_
    refine (sc_front1 i len1 cap1 a1 (by omega) gG gl gC (decide (len1 < i)) q0 q1 Wr hj.bb hj.bl hj.bc (hj.qm.ok) (hm1'.ok) (tvs_8 (HGd.out len1) HCf0.out) (tvs_8 (HGz.out i) hcq') H016.out h16q (@decide (q0.cf = q1.cf) (Classical.propDecidable _)) (by rw [@decide_eq_true_iff _ (Classical.propDecidable _)])).mono ?_
    rintro e W' ⟨rfl, hgr, hkb⟩
    refine ⟨.inl ⟨rfl, ?_⟩, Held.of_grown hgr fun k hk => ⟨hk.2, fun e => by cases e; omega⟩⟩
    have hv : (decide (len1 < i) || (decide (i = len1) && @decide (q0.cf = q1.cf) (Classical.propDecidable _))) = decide (len1 < i + 1) := by
      by_cases h1 : len1 < i
      · rw [decide_eq_true h1, decide_eq_true (by omega : len1 < i + 1)]; rfl
      · by_cases h2 : i = len1
        · have h3 : q0.cf = q1.cf := by rw [HCf0.out, hcq', h2, runTo_app _ _ _ (by rw [HZ1.out]; exact Nat.le_refl _)]
          rw [decide_eq_false h1, decide_eq_true h2, decide_eq_true (by omega : len1 < i + 1), @decide_eq_true _ (Classical.propDecidable _) h3]; rfl
        · rw [decide_eq_false h1, decide_eq_false h2, decide_eq_false (by omega : ¬ len1 < i + 1)]; rfl
    rw [hv] at hkb
    exact hj.turn hkb hgr (by omega) (by omega)
  case last =>
    rintro e w12 ⟨⟨v12, rfl⟩, hJ | ⟨_, _, hx⟩⟩
    case inr => exact hx.elim
    have HT12 : Kept (decide (len1 < len1 + len2 + 1) = true) := kp (decide_eq_true (by omega))
    have HKg12 : Kept (Blk w12 gG 4 [.bool true]) := kp (by have := hJ.bb; rw [HT12.out] at this; exact this)
    have HK12 := kp hJ.pb; have HL12 := kp hJ.bl; have HB12 := kp hJ.below; have hs12 := HB12.out.size
    have HPk12 : Kept (Picks w12 w12.heap.size A8 (len1 + len2) (z1 ++ z2)) := kp ⟨hJ.al.recs, HZz.out⟩
    have hcl : w12.cell? ⟨gl, 0, none⟩ = some (.slice a1 len1 cap1) := HL12.out.cell 0
    have hl12 := HK12.out.lt; have hll12 := HL12.out.lt; have hlg12 := HKg12.out.lt
    clear hJ
    go_wp2_with (first
      | ((with_reducible show Sl 56); go_must (refine j1 rfl 38 (.tmp 3) rfl g1 rfl _ (pgC pg0) _ HK12.out Try.underlying38 rfl jB ?_))
      | (go_at_call 14; fail))
    refine (sc_meets w.heap.size pg0 a1 len1 cap1 z1 w12 (HP.out.below HB12.out) (HPi.out.below HB12.out) (by omega) hs12 ca cb 0 HC.out).mono ?_
    unfold MeetsPost
    rintro e w13 ⟨ka, bx, rfl, hme, hb13⟩
    have HMa := kp (hme.2 rfl); have HB13 := kp (HB12.out.trans (hb13.mono hs12)); have hs13 := HB13.out.size; have HK13 := kp (HK12.out.below hb13 hl12); have HL13 := kp (HL12.out.below hb13 hll12); have HKg13 := kp (HKg12.out.below hb13 hlg12); have HPk13 := kp (HPk12.out.below hb13); have hl13 := HK13.out.lt; have hll13 := HL13.out.lt; have hlg13 := HKg13.out.lt; have hz1213 := hb13.size
    clear hme hb13 hcl
    go_wp2_with (first
      | ((with_reducible show Sl 62); go_must (refine j1 rfl 38 (.tmp 3) rfl g1 rfl _ (pgC pg0) _ HK13.out Try.underlying38 rfl jB ?_))
      | (go_at_call 14; fail))
    refine (sc_meets w13.heap.size pg0 A8 (len1 + len2) c8 (z1 ++ z2) w13 (qZ (HP.out.below HB13.out) hs13) (HPk13.out.more hz1213) (by omega) (Nat.le_refl _) ca cb 0 HC.out).mono ?_
    unfold MeetsPost
    rintro e w14 ⟨kb, bY, rfl, hme, hb14⟩
    have HMb := kp (meet_front HZ1.out HMa.out (hme.2 rfl) (by omega)); have HB14 := kp (HB13.out.trans (hb14.mono hs13)); have HL14 := kp (HL13.out.below hb14 hll13); have HKg14 := kp (HKg13.out.below hb14 hlg13)
    clear hme hb14
    have hcg : w14.cell? ⟨gG, 0, none⟩ = some (.bool true) := HKg14.out.cell 0
    have hcl : w14.cell? ⟨gl, 0, none⟩ = some (.slice a1 len1 cap1) := HL14.out.cell 0
    cases bx with
    | true =>
      obtain ⟨rfl, rfl⟩ := HMb.out.1 rfl
      go_wp2
      go_ret
      exact ⟨rfl, HB14.out⟩
    | false =>
      rcases HMb.out.2 rfl with rfl | ⟨rfl, hgt⟩
      · go_wp2
        go_ret
        exact ⟨rfl, HB14.out⟩
      · go_wp2
        go_ret
        exact ⟨rfl, HB14.out⟩
end Go.Proofs.Ytkhfolpffjihgaa
