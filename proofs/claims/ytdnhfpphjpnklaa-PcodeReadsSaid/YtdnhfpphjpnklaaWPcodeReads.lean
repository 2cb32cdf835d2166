/- PcodeReads, walked. -/
import Derived.Test.YtdnhfpphjpnklaaPk11
import Derived.Test.YtdnhfpphjpnklaaPcodeRef5
import Derived.Test.YtdnhfpphjpnklaaProgRef3
import Derived.Test.YtdnhfpphjpnklaaPk5
namespace Go.Proofs.Ytdnhfpphjpnklaa
open Go.RowKit

theorem pg_more {p : Pg} {w : World} {B B' : Nat} (h : p.Ok w B) (hB : B ≤ B') : p.Ok w B' := ⟨h.g, h.l, h.s, h.row.more hB, fun f hf => ⟨⟨(h.fns f hf).nodes.1.more hB, (h.fns f hf).nodes.2⟩, (h.fns f hf).lc, (h.fns f hf).cm, (h.fns f hf).nil⟩, h.lc, h.cm, h.nil⟩

set_option maxRecDepth 1000000 in
set_option maxHeartbeats 8000000 in
theorem walkPcodeReads (a0 : Option Addr) (len0 cap0 : Nat) (z0 : List Int) (w : World) (w0 : IsRow .u8 w a0 len0 cap0 z0) :
    Calls Try.prog 3 #[.slice a0 len0 cap0] w fun e w' => e = .returned (.bool true) ∧ Below w.heap.size w w' := by
  obtain ⟨bs, hr, hb, hm, hlc, hcm⟩ := w0.bytes
  have HR := kp hr; have HB := kp hb; have HCm := kp hcm
  have hlen := hr.len
  have HLen := kp hlen
  have hm' := hm
  unfold maxLen at hm'
  have HM := kp hm
  have HW0 : Kept (Below w.heap.size w w) := kp (Below.refl _ _)
  have hs0 : w.heap.size ≤ w.heap.size := Nat.le_refl _
  clear w0 hr hb hcm hlen hm
  by_cases h : 70000 < len0
  · go_enter Try.func3, Try.ntmps3
    go_wp2_with fail
    refine (pc_awake w).mono ?_
    rintro e w1 ⟨rfl, hb1⟩
    have HW1 : Kept (Below w.heap.size w w1) := kp (HW0.out.trans (hb1.mono hs0))
    have hs1 := HW1.out.size
    clear hb1
    go_wp2_with fail
    refine (pc_awake w1).mono ?_
    rintro e w2 ⟨rfl, hb2⟩
    have HW2 : Kept (Below w.heap.size w w2) := kp (HW1.out.trans (hb2.mono hs1))
    have hs2 := HW2.out.size
    clear hb2
    go_wp2
    go_ret
    exact ⟨rfl, HW2.out⟩
  · go_enter Try.func3, Try.ntmps3
    obtain ⟨d, at_, why, hx⟩ : ∃ d at_ why, C.read bs = (d, at_, why) := ⟨_, _, _, rfl⟩
    have HX := kp hx
    clear hx
    go_wp2_with fail
    refine (pc_awake w).mono ?_
    rintro e w1 ⟨rfl, hb1⟩
    have HW1 : Kept (Below w.heap.size w w1) := kp (HW0.out.trans (hb1.mono hs0))
    have hs1 := HW1.out.size
    clear hb1
    go_wp2_with fail
    have HR1 := kp (HR.out.below HW1.out)
    refine (pc_read a0 len0 cap0 bs w1 (HR1.out.more hs1) HB.out HM.out d at_ why HX.out).mono ?_
    rintro e w2 ⟨p, rfl, hpok, hpd, hps, hb2⟩
    have HP2 := kp hpok; have HPd := kp hpd; have HPs := kp hps
    have HW2 : Kept (Below w.heap.size w w2) := kp (HW1.out.trans (hb2.mono hs1))
    have hs2 := HW2.out.size
    clear hpok hpd hps hb2
    go_wp2_with (first
      | ((with_reducible show wpList _ _ _ (⟨some 3, _, _, _, _, _⟩ :: _) _ _); go_must (refine wpList_alloc_zero rfl 26 rfl _ pcp_zero ?_); intro gp3 x1 hgp3 hk1 hx1; have Kpa := kp hk1; have XB1 := kp hx1; have xs1 := hx1.size; have xl1 := hk1.lt; clear hk1 hx1)
      | ((with_reducible show wpList _ _ _ (⟨some 4, _, _, _, _, _⟩ :: _) _ _); go_must (refine wpList_alloc_zero rfl 29 rfl _ spot_zero ?_); intro gp4 x2 hgp4 hk2 hx2; have Ksb := kp hk2; have Kpb := kp (Kpa.out.below hx2 xl1); have XB2 := kp (XB1.out.trans (hx2.mono xs1)); have xs2 := hx2.size; have xl2 := hk2.lt; clear hk2 hx2)
      | ((with_reducible show wpList _ _ _ (⟨none, _, _, _, _, _⟩ :: _) _ _); (refine wpList_store_blk rfl 26 (.tmp 3) (.tmp 19) rfl gp3 (pgC p) rfl rfl _ _ Kpb.out pg_size rfl (pcp_ones p) ?_); intro x3 hk3 hg3 hz3
         have Kpc := kp hk3; have Ksc := kp (Ksb.out.grown hg3 (by intro e; cases e; omega)); have XB3 := kp (XB2.out.grown hg3 (by omega) (by intro k e; cases e; exact hgp3))
         have hy3 := Nat.le_of_eq hz3.symm
         clear hk3 hg3 hz3)
      | ((with_reducible show wpList _ _ _ (⟨none, _, _, _, _, _⟩ :: _) _ _); (refine wpList_store_blk rfl 29 (.tmp 4) (.tmp 20) rfl gp4 [.int .i64 (at_ : Int), .int .i64 (why : Int)] rfl rfl _ _ Ksc.out spot_size rfl (spot_ones _ _) ?_); intro w3 hk4 hg4 hz4
         have KS4 := kp hk4; have KP3 := kp (Kpc.out.grown hg4 (by intro e; cases e; omega)); have XB4 := kp (XB3.out.grown hg4 (by omega) (by intro k e; cases e; omega))
         have HW3 : Kept (Below w.heap.size w w3) := kp (HW2.out.trans (XB4.out.mono hs2))
         have hs3 := HW3.out.size; have hb23 := XB4.out.size
         have HBL3 := kp XB4.out
         clear hk4 hg4 hz4 XB1 XB2 XB3 XB4 Kpa Kpb Kpc Ksb Ksc xs1 xs2 xl1 xl2)
      | fail)
    have HR3 := kp (HR.out.below HW3.out)
    refine (ref_read a0 len0 cap0 bs w3 (HR3.out.more hs3) HB.out hlc HCm.out d at_ why HX.out).mono ?_
    rintro e w4 ⟨q, rfl, hqok, hqd, hb4⟩
    have HQ4 := kp hqok; have HQd := kp hqd
    have HW4 : Kept (Below w.heap.size w w4) := kp (HW3.out.trans (hb4.mono hs3))
    have HP4 := kp ((HP2.out.below HBL3.out).below (hb4.mono hb23))
    have KP3' := kp (KP3.out.below hb4 KP3.out.lt); have KS4' := kp (KS4.out.below hb4 KS4.out.lt)
    have hs4 := HW4.out.size; have hb34 := hb4.size
    clear hqok hqd hb4
    go_wp2_with (first
      | ((with_reducible show wpList _ _ _ (⟨some 5, _, _, _, _, _⟩ :: _) _ _); go_must (refine wpList_alloc_zero rfl 26 rfl _ pcp_zero ?_); intro g5 x1 hg5 hk1 hx1; have K5 := kp hk1; have X5 := kp hx1; have xs1 := hx1.size; have xl1 := hk1.lt; clear hk1 hx1)
      | ((with_reducible show wpList _ _ _ (⟨none, _, _, _, _, _⟩ :: _) _ _); (refine wpList_store_blk rfl 26 (.tmp 5) (.tmp 24) rfl g5 (pgC q) rfl rfl _ _ K5.out pg_size rfl (pcp_ones q) ?_); intro w5 hk3 hg3 hz3
         have K5b := kp hk3; have XB5 := kp (X5.out.grown hg3 (by omega) (by intro k e; cases e; exact hg5))
         have HW5 : Kept (Below w.heap.size w w5) := kp (HW4.out.trans (XB5.out.mono hs4))
         have HP5 := kp (HP4.out.below (XB5.out.mono (by omega))); have HQ5 := kp (HQ4.out.below XB5.out)
         have hs5 := HW5.out.size; have hb45 := XB5.out.size
         obtain ⟨hp0, hp1, hp2, hp3⟩ := pg_cells (KP3'.out.below XB5.out KP3'.out.lt)
         obtain ⟨hq0, hq1, hq2, hq3⟩ := pg_cells hk3
         have hs40 : w5.cell? ⟨gp4, 0, none⟩ = some (.int .i64 (at_ : Int)) := (KS4'.out.below XB5.out KS4'.out.lt).cell 0
         have hs41 : w5.cell? ⟨gp4, 1, none⟩ = some (.int .i64 (why : Int)) := (KS4'.out.below XB5.out KS4'.out.lt).cell 1
         have hy3 := Nat.le_of_eq hz3.symm
         clear hk3 hg3 hz3)
      | (go_at_call 10; fail))
    refine (ref_same w4.heap.size p q w5 (pg_more HP5.out (by omega)) HQ5.out (by omega) true ⟨fun _ => C.same_iff.2 (by rw [HPd.out, HQd.out]), fun _ => rfl⟩).mono ?_
    rintro e w6 ⟨rfl, hb6⟩
    have HW6 : Kept (Below w.heap.size w w6) := kp (HW5.out.trans (hb6.mono hs5))
    clear hb6
    go_wp2
    go_ret
    exact ⟨rfl, HW6.out⟩
end Go.Proofs.Ytdnhfpphjpnklaa

