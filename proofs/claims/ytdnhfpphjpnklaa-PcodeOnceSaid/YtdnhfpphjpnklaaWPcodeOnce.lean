/- PcodeOnce, walked. -/
import Derived.Test.YtdnhfpphjpnklaaPk11
import Derived.Test.YtdnhfpphjpnklaaProgRef3
import Derived.Test.YtdnhfpphjpnklaaPk5
namespace Go.Proofs.Ytdnhfpphjpnklaa
open Go.RowKit

set_option maxRecDepth 1000000 in
set_option maxHeartbeats 8000000 in
theorem walkPcodeOnce (a0 : Option Addr) (len0 cap0 : Nat) (z0 : List Int) (w : World) (w0 : IsRow .u8 w a0 len0 cap0 z0) :
    Calls Try.prog 5 #[.slice a0 len0 cap0] w fun e w' => e = .returned (.bool true) ∧ Below w.heap.size w w' := by
  obtain ⟨bs, hr, hb, hm, hlc, hcm⟩ := w0.bytes
  have HR := kp hr; have HB := kp hb; have HCm := kp hcm
  have hlen := hr.len
  have HLen := kp hlen
  have hm' := hm
  unfold maxLen at hm'
  have HM := kp hm
  have HW0 : Kept (Below w.heap.size w w) := kp (Below.refl _ _)
  have hs0 : w.heap.size ≤ w.heap.size := Nat.le_refl _
  clear w0 hr hb hcm hlen hm
  by_cases h : 70000 < len0
  · go_enter Try.func5, Try.ntmps5
    go_wp2_with fail
    refine (pc_awake w).mono ?_
    rintro e w1 ⟨rfl, hb1⟩
    have HW1 : Kept (Below w.heap.size w w1) := kp (HW0.out.trans (hb1.mono hs0))
    have hs1 := HW1.out.size
    clear hb1
    go_wp2_with fail
    refine (pc_awake w1).mono ?_
    rintro e w2 ⟨rfl, hb2⟩
    have HW2 : Kept (Below w.heap.size w w2) := kp (HW1.out.trans (hb2.mono hs1))
    have hs2 := HW2.out.size
    clear hb2
    go_wp2
    go_ret
    exact ⟨rfl, HW2.out⟩
  · obtain ⟨d, at_, why, hx⟩ : ∃ d at_ why, C.read bs = (d, at_, why) := ⟨_, _, _, rfl⟩
    have HX := kp hx
    by_cases hw : why = 0
    · subst hw
      obtain ⟨hpb, hck, ha0, _⟩ := C.read_once HB.out hx
      have HPB := kp hpb
      obtain ⟨a, b, hc⟩ : ∃ a b, Q.check (C.pgOf d) = (a, b, 0) := ⟨_, _, by rw [← hck]⟩
      have HC := kp hc
      clear hx hpb hck ha0 hc
      go_enter Try.func5, Try.ntmps5
      go_wp2_with fail
      refine (pc_awake w).mono ?_
      rintro e w1 ⟨rfl, hb1⟩
      have HW1 : Kept (Below w.heap.size w w1) := kp (HW0.out.trans (hb1.mono hs0))
      have hs1 := HW1.out.size
      clear hb1
      go_wp2_with fail
      have HR1 := kp (HR.out.below HW1.out)
      refine (pc_read a0 len0 cap0 bs w1 (HR1.out.more hs1) HB.out HM.out d at_ 0 HX.out).mono ?_
      rintro e w2 ⟨p, rfl, hpok, hpd, hps, hb2⟩
      have HP2 := kp hpok; have HPd := kp hpd; have HPs := kp hps
      have HW2 : Kept (Below w.heap.size w w2) := kp (HW1.out.trans (hb2.mono hs1))
      have hs2 := HW2.out.size
      clear hpok hpd hps hb2
      go_wp2_with (first
        | ((with_reducible show wpList _ _ _ (⟨some 3, _, _, _, _, _⟩ :: _) _ _); go_must (refine wpList_alloc_zero rfl 26 rfl _ pcp_zero ?_); intro gp3 x1 hgp3 hk1 hx1; have Kpa := kp hk1; have XB1 := kp hx1; have xs1 := hx1.size; have xl1 := hk1.lt; clear hk1 hx1)
        | ((with_reducible show wpList _ _ _ (⟨some 4, _, _, _, _, _⟩ :: _) _ _); go_must (refine wpList_alloc_zero rfl 29 rfl _ spot_zero ?_); intro gp4 x2 hgp4 hk2 hx2; have Ksb := kp hk2; have Kpb := kp (Kpa.out.below hx2 xl1); have XB2 := kp (XB1.out.trans (hx2.mono xs1)); have xs2 := hx2.size; have xl2 := hk2.lt; clear hk2 hx2)
        | ((with_reducible show wpList _ _ _ (⟨none, _, _, _, _, _⟩ :: _) _ _); (refine wpList_store_blk rfl 26 (.tmp 3) (.tmp 18) rfl gp3 (pgC p) rfl rfl _ _ Kpb.out pg_size rfl (pcp_ones p) ?_); intro x3 hk3 hg3 hz3
           have Kpc := kp hk3; have Ksc := kp (Ksb.out.grown hg3 (by intro e; cases e; omega)); have XB3 := kp (XB2.out.grown hg3 (by omega) (by intro k e; cases e; exact hgp3))
           have hy3 := Nat.le_of_eq hz3.symm
           clear hk3 hg3 hz3)
        | ((with_reducible show wpList _ _ _ (⟨none, _, _, _, _, _⟩ :: _) _ _); (refine wpList_store_blk rfl 29 (.tmp 4) (.tmp 19) rfl gp4 [.int .i64 (at_ : Int), .int .i64 ((0 : Nat) : Int)] rfl rfl _ _ Ksc.out spot_size rfl (spot_ones _ _) ?_); intro w3 hk4 hg4 hz4
           have KS4 := kp hk4; have KP3 := kp (Kpc.out.grown hg4 (by intro e; cases e; omega)); have XB4 := kp (XB3.out.grown hg4 (by omega) (by intro k e; cases e; omega))
           have HW3 : Kept (Below w.heap.size w w3) := kp (HW2.out.trans (XB4.out.mono hs2))
           have hs3 := HW3.out.size; have hb23 := XB4.out.size
           have HBL3 := kp XB4.out
           obtain ⟨hp0, hp1, hp2, hp3⟩ := pg_cells KP3.out
           have hs41 : w3.cell? ⟨gp4, 1, none⟩ = some (.int .i64 ((0 : Nat) : Int)) := KS4.out.cell 1
           clear hk4 hg4 hz4 XB1 XB2 XB3 XB4 Kpa Kpb Kpc Ksb Ksc xs1 xs2 xl1 xl2)
        | (go_at_call 12; fail))
      have HP3 := kp (HP2.out.below HBL3.out)
      refine (pc_write w2.heap.size p w3 HP3.out (by omega) HPs.out a b (by rw [C.check_data HP3.out.row.len, HPd.out]; exact HC.out)).mono ?_
      rintro e w4 ⟨v, rfl, hown, hb4⟩
      rw [HPd.out, HPB.out] at hown
      obtain ⟨A4, c4, rfl, hc4, hm4, hr4⟩ := Own.readsN hown rfl
      have HW4 : Kept (Below w.heap.size w w4) := kp (HW3.out.trans (hb4.mono hs3))
      have hcv1 := cvr (c := c4) hr4
      have hcv2 := cvr (c := cap0) (HR.out.below HW4.out)
      clear hown hr4 hb4
      go_wp2
      go_ret
      exact ⟨rfl, HW4.out⟩
    · have hdn := C.read_none hx hw
      have HD := kp hdn
      have hwb : ((why : Int) != 0) = true := by rw [bne_iff_ne]; omega
      clear hx hdn hw
      go_enter Try.func5, Try.ntmps5
      go_wp2_with fail
      refine (pc_awake w).mono ?_
      rintro e w1 ⟨rfl, hb1⟩
      have HW1 : Kept (Below w.heap.size w w1) := kp (HW0.out.trans (hb1.mono hs0))
      have hs1 := HW1.out.size
      clear hb1
      go_wp2_with fail
      have HR1 := kp (HR.out.below HW1.out)
      refine (pc_read a0 len0 cap0 bs w1 (HR1.out.more hs1) HB.out HM.out d at_ why HX.out).mono ?_
      rintro e w2 ⟨p, rfl, hpok, hpd, hps, hb2⟩
      have HP2 := kp hpok; have HPd := kp hpd; have HPs := kp hps
      have HW2 : Kept (Below w.heap.size w w2) := kp (HW1.out.trans (hb2.mono hs1))
      have hs2 := HW2.out.size
      clear hpok hpd hps hb2
      go_wp2_with (first
        | ((with_reducible show wpList _ _ _ (⟨some 3, _, _, _, _, _⟩ :: _) _ _); go_must (refine wpList_alloc_zero rfl 26 rfl _ pcp_zero ?_); intro gp3 x1 hgp3 hk1 hx1; have Kpa := kp hk1; have XB1 := kp hx1; have xs1 := hx1.size; have xl1 := hk1.lt; clear hk1 hx1)
        | ((with_reducible show wpList _ _ _ (⟨some 4, _, _, _, _, _⟩ :: _) _ _); go_must (refine wpList_alloc_zero rfl 29 rfl _ spot_zero ?_); intro gp4 x2 hgp4 hk2 hx2; have Ksb := kp hk2; have Kpb := kp (Kpa.out.below hx2 xl1); have XB2 := kp (XB1.out.trans (hx2.mono xs1)); have xs2 := hx2.size; have xl2 := hk2.lt; clear hk2 hx2)
        | ((with_reducible show wpList _ _ _ (⟨none, _, _, _, _, _⟩ :: _) _ _); (refine wpList_store_blk rfl 26 (.tmp 3) (.tmp 18) rfl gp3 (pgC p) rfl rfl _ _ Kpb.out pg_size rfl (pcp_ones p) ?_); intro x3 hk3 hg3 hz3
           have Kpc := kp hk3; have Ksc := kp (Ksb.out.grown hg3 (by intro e; cases e; omega)); have XB3 := kp (XB2.out.grown hg3 (by omega) (by intro k e; cases e; exact hgp3))
           have hy3 := Nat.le_of_eq hz3.symm
           clear hk3 hg3 hz3)
        | ((with_reducible show wpList _ _ _ (⟨none, _, _, _, _, _⟩ :: _) _ _); (refine wpList_store_blk rfl 29 (.tmp 4) (.tmp 19) rfl gp4 [.int .i64 (at_ : Int), .int .i64 (why : Int)] rfl rfl _ _ Ksc.out spot_size rfl (spot_ones _ _) ?_); intro w3 hk4 hg4 hz4
           have KS4 := kp hk4; have KP3 := kp (Kpc.out.grown hg4 (by intro e; cases e; omega)); have XB4 := kp (XB3.out.grown hg4 (by omega) (by intro k e; cases e; omega))
           have HW3 : Kept (Below w.heap.size w w3) := kp (HW2.out.trans (XB4.out.mono hs2))
           have hs3 := HW3.out.size; have hb23 := XB4.out.size
           have HBL3 := kp XB4.out
           have hpl : p.len = 0 := by
             have h1 := congrArg (fun x => x.L.length) (HPd.out.trans HD.out)
             have h2 := HP2.out.row.len
             simp [C.dataOf, C.none_] at h1
             rw [h1] at h2
             simpa using h2.symm
           obtain ⟨hp0, hp1, hp2, hp3⟩ := pg_cells KP3.out
           have hs41 : w3.cell? ⟨gp4, 1, none⟩ = some (.int .i64 (why : Int)) := KS4.out.cell 1
           clear hk4 hg4 hz4 XB1 XB2 XB3 XB4 Kpa Kpb Kpc Ksb Ksc xs1 xs2 xl1 xl2)
        | fail)
      go_wp2
      go_ret
      exact ⟨rfl, HW3.out⟩
end Go.Proofs.Ytdnhfpphjpnklaa

