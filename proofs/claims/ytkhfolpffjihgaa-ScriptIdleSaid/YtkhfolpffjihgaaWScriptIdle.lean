/- ScriptIdle, walked. -/
import Derived.Test.YtkhfolpffjihgaaPk39
import Derived.Test.YtkhfolpffjihgaaScriptP7
import Derived.Test.YtkhfolpffjihgaaPk27
import Derived.Test.YtkhfolpffjihgaaPk20
import Derived.Test.YtkhfolpffjihgaaPk26
import Derived.Test.YtkhfolpffjihgaaPk4
import Derived.Test.YtkhfolpffjihgaaPk40
import Derived.Test.YtkhfolpffjihgaaPk42
namespace Go.Proofs.Ytkhfolpffjihgaa
open Go.RowKit
theorem put_none_id (a : Act) (v : Value) : a.put none v = a := rfl
set_option maxRecDepth 1000000 in
set_option maxHeartbeats 8000000 in
theorem walkScriptIdle (pg0 : Pg) (a1 : Option Addr) (len1 cap1 : Nat) (z1 : List (Int × Bool)) (a2 : Int) (w : World) (w0 : pg0.Ok w w.heap.size) (w1 : Picks w w.heap.size a1 len1 z1) (c1 : len1 ≤ cap1 ∧ cap1 ≤ maxLen) (w2 : (Lit.int .u8 a2).wf = true) :
    Calls Try.prog 8 #[pgA pg0, .slice a1 len1 cap1, .int .u8 a2] w fun e w' => e = .returned (.bool true) ∧ Below w.heap.size w w' := by
  have HP := kp w0
  have HPi := kp w1
  have hc1 := c1.1; have hm1 := c1.2
  unfold maxLen at hm1
  have ha2 := u8_range a2 w2
  obtain ⟨r, hr⟩ : ∃ r, Q.small pg0 = r := ⟨_, rfl⟩
  have HR := kp hr
  clear hr w0 w1 c1 w2
  rw [jO]
  cases r
  · go_enter Try.func8, Try.ntmps8
    go_wp2_with (first
      | ((with_reducible refine j2 rfl 38 (.tmp 0) rfl (pgC pg0) rfl ?_); intro g1 u1 hg1 hk1 hu1; have HK1 := kp hk1; have HG1 := kp hg1; have HU1 := kp hu1; have hz1 := hu1.size; clear hg1 hk1 hu1)
      | (go_at_call 9; fail))
    refine (lH u1).mono ?_
    rintro e u2 ⟨rfl, hb2⟩
    have HU2 : Kept (Below w.heap.size w u2) := kp (HU1.out.trans (hb2.mono hz1))
    have hs2 := HU2.out.size
    have HP2 := kp (HP.out.below HU2.out)
    have HK2 := kp (HK1.out.below hb2 HK1.out.lt)
    obtain ⟨hc0, hc1', hc2, hc3⟩ := jL HK2.out
    clear hb2
    go_wp2_with fail
    refine (vO _ pg0 u2 HP2.out hs2 _ HR.out).mono ?_
    rintro e u3 ⟨rfl, hb3⟩
    have HU3 : Kept (Below w.heap.size w u3) := kp (HU2.out.trans (hb3.mono hs2))
    have hs3 := HU3.out.size
    have HP3 := kp (HP.out.below HU3.out)
    have HK3 := kp (HK2.out.below hb3 HK2.out.lt)
    clear hb3 hc0 hc1' hc2 hc3
    obtain ⟨hc0, hc1', hc2, hc3⟩ := jL HK3.out
    go_wp2_with fail
    refine (lH u3).mono ?_
    rintro e u4 ⟨rfl, hb4⟩
    have HU4 := kp (HU3.out.trans (hb4.mono hs3))
    clear hb4
    go_wp2
    go_ret
    exact ⟨rfl, HU4.out⟩
  by_cases hbig : 120 < len1
  · go_enter Try.func8, Try.ntmps8
    go_wp2_with (first
      | ((with_reducible refine j2 rfl 38 (.tmp 0) rfl (pgC pg0) rfl ?_); intro g1 u1 hg1 hk1 hu1; have HK1 := kp hk1; have HG1 := kp hg1; have HU1 := kp hu1; have hz1 := hu1.size; clear hg1 hk1 hu1)
      | (go_at_call 9; fail))
    refine (lH u1).mono ?_
    rintro e u2 ⟨rfl, hb2⟩
    have HU2 : Kept (Below w.heap.size w u2) := kp (HU1.out.trans (hb2.mono hz1))
    have hs2 := HU2.out.size
    have HP2 := kp (HP.out.below HU2.out)
    have HK2 := kp (HK1.out.below hb2 HK1.out.lt)
    obtain ⟨hc0, hc1', hc2, hc3⟩ := jL HK2.out
    clear hb2
    go_wp2_with fail
    refine (vO _ pg0 u2 HP2.out hs2 _ HR.out).mono ?_
    rintro e u3 ⟨rfl, hb3⟩
    have HU3 : Kept (Below w.heap.size w u3) := kp (HU2.out.trans (hb3.mono hs2))
    have hs3 := HU3.out.size
    have HP3 := kp (HP.out.below HU3.out)
    have HK3 := kp (HK2.out.below hb3 HK2.out.lt)
    clear hb3 hc0 hc1' hc2 hc3
    obtain ⟨hc0, hc1', hc2, hc3⟩ := jL HK3.out
    go_wp2_with fail
    refine (lH u3).mono ?_
    rintro e u4 ⟨rfl, hb4⟩
    have HU4 := kp (HU3.out.trans (hb4.mono hs3))
    clear hb4
    go_wp2
    go_ret
    exact ⟨rfl, HU4.out⟩
  have hsm : len1 ≤ 120 := by omega
  clear hbig
  obtain ⟨ca, cb, cc, hcc⟩ : ∃ ca cb cc, Q.check pg0 = (ca, cb, cc) := ⟨_, _, _, rfl⟩
  have HC := kp hcc
  clear hcc
  go_enter Try.func8, Try.ntmps8
  go_wp2_with (first
    | ((with_reducible refine j2 rfl 38 (.tmp 0) rfl (pgC pg0) rfl ?_); intro g1 u1 hg1 hk1 hu1; have HK1 := kp hk1; have HG1 := kp hg1; have HU1 := kp hu1; have hz1 := hu1.size; clear hg1 hk1 hu1)
    | (go_at_call 9; fail))
  refine (lH u1).mono ?_
  rintro e u2 ⟨rfl, hb2⟩
  have HU2 : Kept (Below w.heap.size w u2) := kp (HU1.out.trans (hb2.mono hz1))
  have hs2 := HU2.out.size
  have HP2 := kp (HP.out.below HU2.out)
  have HK2 := kp (HK1.out.below hb2 HK1.out.lt)
  obtain ⟨hc0, hc1', hc2, hc3⟩ := jL HK2.out
  clear hb2
  go_wp2_with fail
  refine (vO _ pg0 u2 HP2.out hs2 _ HR.out).mono ?_
  rintro e u3 ⟨rfl, hb3⟩
  have HU3 : Kept (Below w.heap.size w u3) := kp (HU2.out.trans (hb3.mono hs2))
  have hs3 := HU3.out.size
  have HP3 := kp (HP.out.below HU3.out)
  have HK3 := kp (HK2.out.below hb3 HK2.out.lt)
  clear hb3 hc0 hc1' hc2 hc3
  obtain ⟨hc0, hc1', hc2, hc3⟩ := jL HK3.out
  go_wp2_with (first
    | (go_at_call 26; fail))
  clear hc0 hc1' hc2 hc3
  refine (y5 _ pg0 u3 HP3.out hs3 ca cb cc HC.out).mono ?_
  unfold StartPost2
  rintro e u4 ⟨q0, rfl, hmi, hcf, _, h16, hb4⟩
  have HMi4 := kp (hmi.less hs3); have HCf := kp hcf; have H016 := kp h16; have H017 := kp (jG h16); have HU4 := kp (HU3.out.trans (hb4.mono hs3)); have hs4 := HU4.out.size; have HK4 := kp (HK3.out.below hb4 HK3.out.lt); have hl4 := HK4.out.lt
  clear hmi hcf h16 hb4
  by_cases hz : cc = 0
  case neg =>
    have HZ := kp hz
    have hb0 : ((cc : Int) != 0) = true := by simpa using hz
    clear hz
    go_wp2_with (first
      | ((with_reducible show Sl 7); go_must (refine j3 rfl 43 rfl _ jP ?_); intro gC u5 hgC hk5 hb5; have HKc := kp hk5; have HGC : Kept (w.heap.size ≤ gC ∧ gC ≠ g1) := kp ⟨by omega, by omega⟩; have HU5 := kp (HU4.out.trans (hb5.mono hs4)); have hs5 := HU5.out.size; have HK5 := kp (HK4.out.below hb5 hl4); have HMi5 := kp (HMi4.out.below hb5 (Nat.le_refl _)); clear hk5 hb5 hgC)
      | ((with_reducible show Sn); (refine j4 rfl 43 (.tmp 7) (.tmp 30) rfl gC (pcC q0) rfl rfl _ _ HKc.out (by rw [H017.out]; exact j6) (by rw [H017.out]; rfl) (jN q0) ?_); intro u6 hk6 hg6 hz6
         have HU6 := kp (HU5.out.grown hg6 hs5 (fun k e => by cases e; exact HGC.out.1)); have hs6 := HU6.out.size; have HKC6 := kp hk6; have HMi6 := kp (Mine.typed HMi5.out HKc.out hg6)
         have HK6 := kp (HK5.out.grown hg6 (fun e => by cases e; exact HGC.out.2 rfl))
         clear hk6 hg6 hz6))
    go_ret
    exact ⟨rfl, HU6.out⟩
  subst hz
  have HF : Kept (Fine pg0) := kp (zD HC.out)
  have HGd : Kept (∀ i, M.Good pg0 (runTo pg0 z1 i)) := kp (qG HF.out HP.out.row.len z1)
  have HCf0 : Kept (q0.cf = M.start) := kp (HCf.out rfl)
  go_wp2_with (first
    | ((with_reducible show Sl 7); go_must (refine j3 rfl 43 rfl _ jP ?_); intro gC u5 hgC hk5 hb5; have HKc := kp hk5; have HGC : Kept (w.heap.size ≤ gC ∧ gC ≠ g1) := kp ⟨by omega, by omega⟩; have HU5 := kp (HU4.out.trans (hb5.mono hs4)); have hs5 := HU5.out.size; have HK5 := kp (HK4.out.below hb5 hl4); have HMi5 := kp (HMi4.out.below hb5 (Nat.le_refl _)); clear hk5 hb5 hgC)
    | ((with_reducible show Sn); (refine j4 rfl 43 (.tmp 7) (.tmp 30) rfl gC (pcC q0) rfl rfl _ _ HKc.out (by rw [H017.out]; exact j6) (by rw [H017.out]; rfl) (jN q0) ?_); intro u6 hk6 hg6 hz6
       have HU6 := kp (HU5.out.grown hg6 hs5 (fun k e => by cases e; exact HGC.out.1)); have hs6 := HU6.out.size; have HKC6 := kp hk6; have HMi6 := kp (Mine.typed HMi5.out HKc.out hg6)
       have HK6 := kp (HK5.out.grown hg6 (fun e => by cases e; exact HGC.out.2 rfl))
       clear hk6 hg6 hz6))
  go_loopw [9, 10] (fun v9 v10 wr => ∃ (i : Nat) (zm : List (Int × Bool)) (q : Pc), i ≤ len1 ∧ v10 = .int .i64 i ∧ OwnR 2 pkV wr w.heap.size 29 v9 zm ∧ zm.length ≤ 10 * i ∧ (∀ x ∈ zm, I64 x.1) ∧ runTo pg0 zm zm.length = runTo pg0 z1 i ∧
      Mine wr w.heap.size q ∧ q.cf = runTo pg0 z1 i ∧ q.ow.length = 16 ∧ Blk wr gC 43 (pcC q) ∧ Blk wr g1 38 (pgC pg0) ∧ Below w.heap.size w wr) (fun _ v10 _ => len1 - (intOf v10).toNat)
  case atStart => exact ⟨0, [], q0, by omega, rfl, OwnR.nil _ _ _ _ _, by simp, (fun _ h => by cases h), by simp [runTo], HMi6.out, by rw [y6]; exact HCf0.out, H016.out, HKC6.out, HK6.out, HU6.out⟩
  case round =>
    obtain ⟨i, zm, q, hi, rfl, hown, hml, hmi, hrt, hmq, hcq, h16q, hkC, hk1, hbl⟩ := hrel
    have HOw := kp hown; have HMl := kp hml; have HMi := kp hmi; have HRt := kp hrt; have HMq := kp hmq; have HCq := kp hcq; have H16q := kp h16q; have H17 := kp (jG h16q); have HKC := kp hkC; have HK1r := kp hk1; have HB := kp hbl; have hBs := hbl.size; have hlC := hkC.lt; have hl1 := hk1.lt
    clear hown hml hmi hrt hmq hcq h16q hkC hk1 hbl
    by_cases hlt : i < len1
    · go_wp2
      go_loopw [9, 11] (fun v9 v11 wr2 => ∃ (t : Nat) (zm2 : List (Int × Bool)), t ≤ 9 ∧ v11 = .int .i64 t ∧ OwnR 2 pkV wr2 w.heap.size 29 v9 zm2 ∧ zm2.length ≤ 10 * i + t ∧ (∀ x ∈ zm2, I64 x.1) ∧ runTo pg0 zm2 zm2.length = runTo pg0 z1 i ∧
        Mine wr2 w.heap.size q ∧ Blk wr2 gC 43 (pcC q) ∧ Blk wr2 g1 38 (pgC pg0) ∧ Below w.heap.size w wr2) (fun _ v11 _ => 9 - (intOf v11).toNat)
      case atStart => exact ⟨0, zm, by omega, rfl, HOw.out, by have := HMl.out; omega, HMi.out, HRt.out, HMq.out, HKC.out, HK1r.out, HB.out⟩
      case round =>
        clear HOw HMl HMi HRt HMq HKC HK1r HB hBs hlC hl1
        obtain ⟨t, zm2, ht, rfl, hown, hml, hmi, hrt, hmq, hkC, hk1, hbl⟩ := hrel
        have HOw := kp hown; have HMl := kp hml; have HMi := kp hmi; have HRt := kp hrt; have HMq := kp hmq; have HKC := kp hkC; have HK1r := kp hk1; have HB := kp hbl; have hBs := hbl.size; have hlC := hkC.lt; have hl1 := hk1.lt
        clear hown hml hmi hrt hmq hkC hk1 hbl
        by_cases hlt9 : t < 9
        · by_cases hmod : ((i : Int) + (t : Int)) % (1 + a2 % 5) = 0
          case neg =>
            have HKC5 := HKC
            go_wp2
            go_roundw
            case rel => exact ⟨t + 1, zm2, by omega, by go_num, HOw.out, by have := HMl.out; omega, HMi.out, HRt.out, HMq.out, HKC.out, HK1r.out, HB.out⟩
            case measure => simp [intOf]; omega
          case pos =>
            obtain ⟨be, hbe⟩ : ∃ b, M.enabled pg0 q.cf (t : Int) = b := ⟨_, rfl⟩
            have HBe := kp hbe
            clear hbe
            go_wp2_with (first
              | ((with_reducible show Sl 54); go_must (refine l3 rfl 43 (.tmp 7) rfl gC rfl _ (pcC q) _ HKC.out Try.underlying43 rfl (by rw [H17.out]; exact j6) ?_))
              | ((with_reducible show Sl 55); go_must (refine l3 rfl 38 (.tmp 3) rfl g1 rfl _ (pgC pg0) _ HK1r.out Try.underlying38 rfl jB ?_))
              | (go_at_call 27; fail))
            refine (l6 wr.heap.size pg0 HF.out q wr (qZ (HP.out.below HB.out) hBs) HMq.out.ok (by rw [HCq.out]; exact HGd.out i) (Nat.le_refl _) (t : Int) (by unfold I64; omega) be HBe.out).mono ?_
            rintro e w4 ⟨rfl, hb4⟩
            have HB4 := kp (HB.out.trans (hb4.mono hBs)); have hs4' := HB4.out.size; have HOw4 := kp (HOw.out.below hb4 (Nat.le_refl _)); have HMq4 := kp (HMq.out.below hb4 (Nat.le_refl _)); have HKC4 := kp (HKC.out.below hb4 hlC); have HK14 := kp (HK1r.out.below hb4 hl1)
            clear hb4
            cases be with
            | true =>
              go_wp2
              go_roundw
              case rel => exact ⟨t + 1, zm2, by omega, by go_num, HOw4.out, by have := HMl.out; omega, HMi.out, HRt.out, HMq4.out, HKC4.out, HK14.out, HB4.out⟩
              case measure => simp [intOf]; omega
            | false =>
              have HLz : Kept (zm2.length + 1 ≤ 2000) := kp (by have := HMl.out; omega)
              go_wp2_with (at_builtin; go_must (refine lF rfl (.tmp 60) (.tmp 66) 22 rfl w.heap.size 29 2 _ _ Try.underlying22 zB rfl (by omega) pkV pkV_one w4 u9 zm2 ((t : Int), _) rfl HOw4.out _ 1 rfl rfl _ rfl (by have := HLz.out; unfold maxLen; omega) (by have := HLz.out; omega) hs4' ?_); intro v7 w7 hown7 hgr7; have HOw7 := kp hown7; have HB7 := kp (grew_below HOw4.out hgr7 HB4.out hs4'); have HMq7 := kp (grew_mine HOw4.out hgr7 HMq4.out (by decide) (by decide)); have HKC7 := kp (vD HOw4.out hgr7 HKC4.out (by decide)); have HK17 := kp (vD HOw4.out hgr7 HK14.out (by decide)); clear hown7 hgr7)
              go_roundw
              case rel =>
                refine ⟨t + 1, _, by omega, by go_num, HOw7.out, by have := HMl.out; simp; omega, fun x hx => ?_, ?_, HMq7.out, HKC7.out, HK17.out, HB7.out⟩
                · rcases List.mem_append.1 hx with h1 | h1
                  · exact HMi.out x h1
                  · rw [List.mem_singleton.1 h1]; show I64 (t : Int); unfold I64; omega
                · rw [runTo_snoc, HRt.out, ← HCq.out]; exact M.step_same HBe.out
              case measure => simp [intOf]; omega
        · have hge9 : 9 ≤ t := by omega
          clear hlt9
          obtain ⟨ad, x, hA, hadB, hx, hx1, hcx0, hcx1⟩ := HPi.out.pick hlt
          have hadw : ad.block < wr.heap.size := by omega
          have HX := kp hx; have HX1 := kp hx1
          have HCx0 := kp hcx0; have HCx1 := kp hcx1
          have hd0 := (HB.out.cell (p := ad.add (i * 2)) (by rw [j8]; exact hadB)).trans hcx0
          have hd1 := (HB.out.cell (p := ⟨(ad.add (i * 2)).block, (ad.add (i * 2)).off + 1, none⟩) (by rw [j8]; exact hadB)).trans hcx1
          subst hA
          clear hx hx1 hcx0 hcx1
          have HLz : Kept (zm2.length + 1 ≤ 2000) := kp (by have := HMl.out; omega)
          go_wp2_with (at_builtin; go_must (refine lF rfl (.tmp 68) (.tmp 73) 22 rfl w.heap.size 29 2 _ _ Try.underlying22 zB rfl (by omega) pkV pkV_one wr u9 zm2 x rfl HOw.out _ 1 rfl rfl _ rfl (by have := HLz.out; unfold maxLen; omega) (by have := HLz.out; omega) hBs ?_); intro v7 w7 hown7 hgr7; have HOw7 := kp hown7; have HB7 := kp (grew_below HOw.out hgr7 HB.out hBs); have HMq7 := kp (grew_mine HOw.out hgr7 HMq.out (by decide) (by decide)); have HKC7 := kp (vD HOw.out hgr7 HKC.out (by decide)); have HK17 := kp (vD HOw.out hgr7 HK1r.out (by decide)); clear hown7 hgr7 hd0 hd1)
          have hs7 := HB7.out.size; have hlC7 := HKC7.out.lt; have hl17 := HK17.out.lt
          have HCx : Kept (w7.cell? (ad.add (i * 2)) = some (.int .i64 x.1) ∧ w7.cell? ⟨(ad.add (i * 2)).block, (ad.add (i * 2)).off + 1, none⟩ = some (.bool x.2)) := kp ⟨(HB7.out.cell (by rw [j8]; exact hadB)).trans HCx0.out, (HB7.out.cell (by rw [j8]; exact hadB)).trans HCx1.out⟩
          have hadw7 : ad.block < w7.heap.size := by omega
          have HOq := kp HMq7.out.ok
          apply jD 7 (.is (pcA q) :: .is (pgA pg0) :: .is _ :: .is _ :: .is (.pointer (some (ad.add (i * 2)))) :: .is (.agg #[.int .i64 x.1, .bool x.2]) :: (.stepped w7.heap.size (M.step pg0 q.cf x.1 x.2)) :: [])
            [[], [], [], [], [(2, 77), (3, 78)], [(4, 79)], [(0, 75), (1, 76), (5, 80)], [(6, 81)]]
            [(0, 75), (1, 76), (2, 77), (3, 78), (4, 79), (5, 80), (6, 81)] (by kernel_rfl) (by kernel_rfl) (by kernel_rfl) (by kernel_rfl) (by kernel_rfl)
          case hob =>
            refine ⟨?o0, ?o1, ?o2, ?o3, ?o4, ?o5, ?o6, trivial⟩
            case o0 =>
              intro W hW; change wpList _ _ _ _ _ _
              go_must (refine j1 rfl 43 (.tmp 7) rfl gC rfl _ (pcC q) _ (HKC7.out.below hW hlC7) Try.underlying43 rfl (by rw [H17.out]; exact j6) ?_)
              go_wp2; exact j0 rfl rfl rfl
            case o1 =>
              intro W hW; change wpList _ _ _ _ _ _
              go_must (refine j1 rfl 38 (.tmp 3) rfl g1 rfl _ (pgC pg0) _ (HK17.out.below hW hl17) Try.underlying38 rfl jB ?_)
              go_wp2; exact j0 rfl rfl rfl
            case o2 => intro W hW; change wpList _ _ _ _ _ _; go_wp2; exact j0 rfl rfl rfl
            case o3 => intro W hW; change wpList _ _ _ _ _ _; go_wp2; exact j0 rfl rfl rfl
            case o4 => intro W hW; rintro _ rfl; rintro _ rfl; change wpList _ _ _ _ _ _; go_wp2; exact j0 rfl rfl rfl
            case o5 =>
              intro W hW; rintro _ rfl; change wpList _ _ _ _ _ _
              have hd0 := (hW.cell (p := ad.add (i * 2)) (by rw [j8]; exact hadw7)).trans HCx.out.1
              have hd1 := (hW.cell (p := ⟨(ad.add (i * 2)).block, (ad.add (i * 2)).off + 1, none⟩) (by rw [j8]; exact hadw7)).trans HCx.out.2
              go_wp2; exact j0 rfl rfl rfl
            case o6 =>
              intro W hW; rintro _ rfl; rintro _ rfl; rintro _ rfl; change wpList _ _ _ _ _ _
              have hsW := hW.size
              go_wp2_with fail
              refine (sem_step W.heap.size pg0 HF.out q W (qZ (HP.out.below (HB7.out.trans (hW.mono hs7))) (by omega)) ((HOq.out.below hW).more hsW) (by rw [HCq.out]; exact HGd.out i) (Nat.le_refl _) x.1 HX1.out x.2).mono ?_
              rintro e w9 ⟨q', rfl, hm2, hcf2, hb2⟩
              have HB2 := kp hb2; have HM2 := kp hm2; have HC2 := kp hcf2; clear hb2 hm2 hcf2
              go_wp2
              exact jC rfl rfl rfl HB2.out ⟨q', rfl, HM2.out.less hsW, HC2.out⟩
          case hend =>
            intro W hW; rintro _ rfl; rintro _ rfl; rintro _ rfl; rintro _ rfl; rintro _ rfl; rintro _ rfl; rintro _ ⟨q1, rfl, hmi, hcf1⟩
            simp only [given, jI, List.set, List.drop]
            have HMi9 := kp (hmi.less hs7); have HCf1 : Kept (q1.cf = runTo pg0 z1 (i + 1)) := kp (by rw [hcf1, HCq.out, xD pg0 z1 i x HX.out])
            have H161 : Kept (q1.ow.length = 16) := kp (good_owp (HGd.out (i + 1)) HCf1.out)
            have H171 := kp (jG H161.out)
            have HKC9 := kp (HKC7.out.below hW hlC7); have HK19 := kp (HK17.out.below hW hl17); have HOw9 := kp (HOw7.out.below hW (Nat.le_refl _)); have HB9 := kp (HB7.out.trans (hW.mono hs7)); have hs9 := HB9.out.size
            clear hW hmi hcf1
            refine j4 rfl 43 (.tmp 7) (.tmp 81) rfl gC (pcC q1) rfl rfl _ _ HKC9.out (by rw [H171.out]; exact j6) (by rw [H171.out, H17.out]) (jN q1) ?_
            intro u7 hk7 hg7 hz7
            have HK27 := kp hk7; have HM7 := kp (Mine.typed HMi9.out HKC9.out hg7); have HBe := kp (HB9.out.grown hg7 hs9 (fun k e => by cases e; exact HGC.out.1))
            have HK1e := kp (HK19.out.grown hg7 (fun e => by cases e; exact HGC.out.2 rfl)); have HOwe := kp (OwnR.conf11 HOw9.out HKC9.out (by decide) hg7)
            clear hk7 hg7 hz7
            simp only [put_none_id]
            go_wp2
            go_roundw
            case rel =>
              refine ⟨i + 1, zm2 ++ [x], q1, by omega, by go_num, HOwe.out, by have := HMl.out; simp; omega, fun y hy => ?_, ?_, HM7.out, HCf1.out, H161.out, HK27.out, HK1e.out, HBe.out⟩
              · rcases List.mem_append.1 hy with h1 | h1
                · exact HMi.out y h1
                · rw [List.mem_singleton.1 h1]; exact HX1.out
              · rw [runTo_snoc, HRt.out, xD pg0 z1 i x HX.out]
            case measure => simp [intOf]; omega
    · have HEi : Kept (i = len1) := kp (by omega)
      have hge : len1 ≤ i := by omega
      clear hlt
      obtain ⟨A9, c9, rfl, hl9, hm9, _⟩ := HOw.out.form
      obtain ⟨n9, hn9⟩ : ∃ n, zm.length = n := ⟨_, rfl⟩
      have HN9 := kp hn9
      have HO9 : Kept (OwnR 2 pkV wr w.heap.size 29 (.slice A9 n9 c9) zm) := kp (by have := HOw.out; rw [hn9] at this; exact this)
      have h9 : n9 ≤ 2000 := by have := HMl.out; omega
      rw [hn9]
      clear hn9 hl9 hm9
      go_wp2_with (first
        | ((with_reducible show Sl 83); go_must (refine j1 rfl 38 (.tmp 3) rfl g1 rfl _ (pgC pg0) _ HK1r.out Try.underlying38 rfl jB ?_))
        | (go_at_call 13; fail))
      refine (sc_run wr.heap.size pg0 A9 n9 c9 zm wr (qZ (HP.out.below HB.out) hBs) ⟨HO9.out.recs, HMi.out⟩ h9 (Nat.le_refl _) ca cb 0 HC.out).mono ?_
      unfold RunPost
      rintro e u7 ⟨qr, rfl, hmr, h16r, _, hcr, hb7⟩
      have HEq : Kept (q.cf = qr.cf) := kp (by rw [HCq.out, hcr rfl, ← HRt.out, HN9.out])
      have HCr : Kept (qr.cf = runTo pg0 z1 i) := kp (by rw [hcr rfl, ← HRt.out, HN9.out])
      have HMr := kp hmr; have H16r := kp h16r; have H17r := kp (jG h16r); have HU7 := kp (HB.out.trans (hb7.mono hBs)); have hs7 := HU7.out.size; have HKC7 := kp (HKC.out.below hb7 hlC); have HMq7 := kp (HMq.out.below hb7 (Nat.le_refl _)); have hlC7 := HKC7.out.lt
      clear hmr h16r hcr hb7
      go_wp2_with (first
        | ((with_reducible show Sl 12); go_must (refine j3 rfl 43 rfl _ jP ?_); intro gD u8 hgD hk8 hb8; have HKd := kp hk8; have HGD : Kept (w.heap.size ≤ gD) := kp (by omega); have HU8 := kp (HU7.out.trans (hb8.mono hs7)); have hs8 := HU8.out.size; have HKC8 := kp (HKC7.out.below hb8 hlC7); have HMq8 := kp (HMq7.out.below hb8 (Nat.le_refl _)); have HMr8 := kp (HMr.out.below hb8 (Nat.le_refl _)); have HneD : Kept (gC ≠ gD) := kp (by omega); clear hk8 hb8 hgD)
        | ((with_reducible show Sn); (refine j4 rfl 43 (.tmp 12) (.tmp 86) rfl gD (pcC qr) rfl rfl _ _ HKd.out (by rw [H17r.out]; exact j6) (by rw [H17r.out]; rfl) (jN qr) ?_); intro u9 hk9 hg9 hz9
           have HU9 := kp (HU8.out.grown hg9 hs8 (fun k e => by cases e; exact HGD.out)); have hs9 := HU9.out.size; have HKd9 := kp hk9; have HMq9 := kp (Mine.typed HMq8.out HKd.out hg9); have HMr9 := kp (Mine.typed HMr8.out HKd.out hg9)
           have HKC9 := kp (HKC8.out.grown hg9 (fun e => by cases e; exact HneD.out rfl))
           clear hk9 hg9 hz9)
        | ((with_reducible show Sl 91); go_must (refine l3 rfl 43 (.tmp 7) rfl gC rfl _ (pcC q) _ HKC9.out Try.underlying43 rfl (by rw [H17.out]; exact j6) ?_))
        | ((with_reducible show Sl 92); go_must (refine l3 rfl 43 (.tmp 12) rfl gD rfl _ (pcC qr) _ HKd9.out Try.underlying43 rfl (by rw [H17r.out]; exact j6) ?_))
        | (go_at_call 24; fail))
      refine (sem_same u9.heap.size q qr u9 HMq9.out.ok HMr9.out.ok (Nat.le_refl _) (tvs_8 (HGd.out i) HCq.out) (tvs_8 (HGd.out i) HCr.out) H16q.out H16r.out true ⟨fun _ => HEq.out, fun _ => rfl⟩).mono ?_
      rintro e u10 ⟨rfl, hb10⟩
      have HU10 := kp (HU9.out.trans (hb10.mono hs9))
      clear hb10
      go_wp2
      go_ret
      exact ⟨rfl, HU10.out⟩
end Go.Proofs.Ytkhfolpffjihgaa
