/- The document's own reader, walked: Raw. -/
import Derived.Test.YtgdnimhhhllgaaaDoorWireRef1
import Derived.Test.YtgdnimhhhllgaaaDoorTail
import Derived.Deep.RegionWith
namespace Go.Proofs.YtgdnimhhhllgaaaDoor
open Go.RowKit

set_option maxRecDepth 100000 in
set_option maxHeartbeats 1600000 in
theorem rd_raw (g B : Nat) (A : Option Addr) (n c : Nat) (bs : List Nat) (s : R.St) (hs : R.Ok bs s) (m : Int) (hm64 : -9223372036854775808 ≤ m ∧ m ≤ 9223372036854775807) (out : List Nat) (s' : R.St) (hx : R.raw bs s m = (out, s')) (w : World) (hk : Rd w g A n c s)
    (hr : Row byteV w B A n bs) (hn : n ≤ 1000000) (hBg : B ≤ g) (hBw : B ≤ w.heap.size) :
    Calls Tryd.prog 20 #[.pointer (some ⟨g, 0, none⟩), .int .i64 m] w fun r w' => ∃ v, r = .returned v ∧ Own w' w.heap.size 5 v (out.map byteV) ∧ Rd w' g A n c s' ∧ w.grownBy w' (some g) ∧ Row byteV w' B A n bs := by
  obtain ⟨hc0, hc1, hc2, hc3, hf1, hf2, hf3⟩ := hk.cells
  obtain ⟨hm1, hm2⟩ := hm64
  have HK := kp hk; have HR := kp hr
  have hlen := hr.len
  have hat := hs.1
  have hgs := hk.lt
  have HX := kp hx
  clear hk hr hs hx
  obtain ⟨at_, wh, why⟩ := s
  simp only at *
  have hatn : at_ ≤ n := by omega
  have HRd : Kept (∀ k, Rd (w.drewN k) g A n c ⟨at_, wh, why⟩) := kp fun k => HK.out
  by_cases h : why = 0
  · have hz : ((why : Int) != 0) = false := by simp; omega
    have HW0 := kp h
    by_cases hneg : m < 0
    · have HE : Kept (([], R.fail ⟨at_, wh, why⟩ 1) = (out, s')) := kp <| by rw [← HX.out]; unfold R.raw; rw [if_pos h, if_pos hneg]
      clear h
      go_enter Tryd.func20, Tryd.ntmps20
      go_wp2_with (go_at_call 26; go_must (refine (rd_fail g A n c ⟨at_, wh, why⟩ 1 _ rfl _ HK.out).mono ?_); rintro e2 w2 ⟨rfl, hk2, hg2⟩; have HK2 := kp hk2; have HG2 := kp hg2; clear hk2 hg2)
      go_ret
      have h1 := HE.out
      cases h1
      exact ⟨_, rfl, Own.nil _ _ _, HK2.out, HG2.out, HR.out.turned HG2.out hBw hBg⟩
    · obtain ⟨k, rfl⟩ : ∃ k : Nat, m = (k : Int) := ⟨m.toNat, by omega⟩
      by_cases hlong : n - at_ < k
      · have HE : Kept (([], R.fail ⟨at_, wh, why⟩ 2) = (out, s')) := kp <| by rw [← HX.out]; unfold R.raw; rw [if_pos h, if_neg hneg, if_pos (by show (bs.length : Int) - (at_ : Int) < (k : Int); omega)]
        have hgt : (n : Int) - (at_ : Int) < (k : Int) := by omega
        clear h hneg
        go_enter Tryd.func20, Tryd.ntmps20
        go_wp2
        go_quiet (fail)
        go_wp2_with (go_at_call 26; go_must (refine (rd_fail g A n c ⟨at_, wh, why⟩ 2 _ rfl _ (HRd.out _)).mono ?_); rintro e2 w2 ⟨rfl, hk2, hg2⟩; have HK2 := kp hk2; have HG2 := kp hg2; clear hk2 hg2)
        go_ret
        have h1 := HE.out
        cases h1
        exact ⟨_, rfl, Own.nil _ _ _, HK2.out, grown_trans (grown_drews (grown_refl _ _) _) HG2.out, (HR.out.drewN _).turned HG2.out hBw hBg⟩
      · have HE : Kept (((bs.drop at_).take k, ⟨at_ + k, wh, 0⟩) = (out, s')) := kp <| by rw [← HX.out]; unfold R.raw; rw [if_pos h, if_neg hneg, if_neg (by show ¬ (bs.length : Int) - (at_ : Int) < (k : Int); omega)]; rfl
        have hle : (k : Int) ≤ (n : Int) - (at_ : Int) := by omega
        have hak : at_ + k ≤ n := by omega
        clear h hneg hlong
        go_enter Tryd.func20, Tryd.ntmps20
        go_wp2
        go_quiet (fail)
        go_wp2
        go_loopw [5, 6] (fun v5 v6 wr => ∃ i : Nat, i ≤ k ∧ v6 = .int .i64 i ∧ Own wr w.heap.size 5 v5 (((bs.drop at_).take i).map byteV) ∧ Below w.heap.size w wr) (fun _ v6 _ => k - (intOf v6).toNat)
        case atStart => exact ⟨0, by omega, rfl, Own.nil _ _ _, below_drewN (Below.refl _ _) _⟩
        case round =>
          obtain ⟨i, hi, rfl, hown, hbl⟩ := hrel
          have hB := hbl.size
          have HOwn := kp hown; have HBL := kp hbl
          have HRd2 : Kept (Blk wr g 41 (rdC A n c ⟨at_, wh, why⟩)) := kp (HK.out.below hbl hgs)
          clear hown hbl
          by_cases hlt : i < k
          · obtain ⟨ad, x, rfl, hab, hx, hcell⟩ := HR.out.get (k := at_ + i) (by omega)
            rw [byteV_def] at hcell
            have hln : ((bs.drop at_).take i).length ≤ 1000000 := by rw [List.length_take]; omega
            have HN : Kept ((bs.drop at_).take (i + 1) = (bs.drop at_).take i ++ [x]) := kp <| by rw [List.take_add_one, List.getElem?_drop, hx]; rfl
            have habw : ad.block < wr.heap.size := by omega
            have HCx : Kept (wr.cell? (ad.add (at_ + i)) = some (.int .u8 (x : Int))) := kp <| (HBL.out.cell (by rw [add_block]; omega)).trans hcell
            generalize (bs.drop at_).take i = l at *
            clear hx hcell
            have HRd := HRd2
            clear hc0 hc1 hc2 hc3 hf1 hf2 hf3
            go_wp2
            apply region_tail 14 (.is _ :: .is _ :: .is _ :: .is _ :: .is _ :: .is _ :: .is _ :: .is _ :: .is _ :: .is _ :: .is _ :: .is _ :: .is _ :: .vals [Value.int .u8 (x : Int)] :: [])
              [[], [], [(1, 36)], [(2, 37)], [(3, 38)], [], [(5, 40)], [(6, 41)], [(7, 42)], [], [(8, 43), (9, 44)], [(4, 39), (10, 45)], [(11, 46)], [(12, 47)], [(0, 35), (13, 48)], [(14, 49)]]
              [(0, 35), (1, 36), (2, 37), (3, 38), (4, 39), (5, 40), (6, 41), (7, 42), (8, 43), (9, 44), (10, 45), (11, 46), (12, 47), (13, 48)] (by kernel_rfl) (by kernel_rfl) (by kernel_rfl) (by kernel_rfl) (by kernel_rfl)
            case hob =>
              refine ⟨?o0, ?o1, ?o2, ?o3, ?o4, ?o5, ?o6, ?o7, ?o8, ?o9, ?o10, ?o11, ?o12, ?o13, trivial⟩
              case o0 => intro W hW; change wpList _ _ _ _ _ _; go_wp2; exact pure_post rfl rfl rfl
              case o1 => intro W hW; change wpList _ _ _ _ _ _; go_wp2; exact pure_post rfl rfl rfl
              case o2 => intro W hW; rintro _ rfl; change wpList _ _ _ _ _ _; go_wp2; exact pure_post rfl rfl rfl
              case o3 => intro W hW; rintro _ rfl; change wpList _ _ _ _ _ _; go_wp2; exact pure_post rfl rfl rfl
              case o4 =>
                intro W hW; rintro _ rfl; change wpList _ _ _ _ _ _
                have hc : W.cell? ⟨g, 0, none⟩ = some (.slice (some ad) n c) := (HRd.out.below hW HRd.out.lt).cell 0
                go_wp2; exact pure_post rfl rfl rfl
              case o5 => intro W hW; change wpList _ _ _ _ _ _; go_wp2; exact pure_post rfl rfl rfl
              case o6 => intro W hW; rintro _ rfl; change wpList _ _ _ _ _ _; go_wp2; exact pure_post rfl rfl rfl
              case o7 => intro W hW; rintro _ rfl; change wpList _ _ _ _ _ _; go_wp2; exact pure_post rfl rfl rfl
              case o8 =>
                intro W hW; rintro _ rfl; change wpList _ _ _ _ _ _
                have hc : W.cell? ⟨g, 1, none⟩ = some (.int .i64 (at_ : Int)) := (HRd.out.below hW HRd.out.lt).cell 1
                go_wp2; exact pure_post rfl rfl rfl
              case o9 => intro W hW; change wpList _ _ _ _ _ _; go_wp2; exact pure_post rfl rfl rfl
              case o10 => intro W hW; rintro _ rfl; rintro _ rfl; change wpList _ _ _ _ _ _; go_wp2; exact pure_post rfl rfl rfl
              case o11 => intro W hW; rintro _ rfl; rintro _ rfl; change wpList _ _ _ _ _ _; go_wp2; exact pure_post rfl rfl rfl
              case o12 =>
                intro W hW; rintro _ rfl; change wpList _ _ _ _ _ _
                have hcw : W.cell? (ad.add (at_ + i)) = some (.int .u8 (x : Int)) := (hW.cell (by rw [add_block]; exact habw)).trans HCx.out
                go_wp2; exact pure_post rfl rfl rfl
              case o13 =>
                intro W hW; rintro _ rfl; change wpList _ _ _ _ _ _
                go_wp2
                exact made_post rfl rfl rfl ((Below.refl _ _).alloc (Nat.le_refl _) _) ⟨_, _, rfl, Row.made (fun u => u) W [_] _ rfl _⟩
            case hend =>
              intro W hW; rintro _ rfl; rintro _ rfl; rintro _ rfl; rintro _ rfl; rintro _ rfl; rintro _ rfl; rintro _ rfl; rintro _ rfl; rintro _ rfl; rintro _ rfl; rintro _ rfl; rintro _ rfl; rintro _ rfl; rintro _ ⟨A13, c13, rfl, hr13⟩
              simp only [given, put_lit, List.set, List.drop]
              have HOW := kp (HOwn.out.below hW (Nat.le_refl _))
              have HVR := kp hr13
              clear hr13
              have hBW : w.heap.size ≤ W.heap.size := Nat.le_trans hB hW.size
              have HBW := kp (HBL.out.trans (hW.mono hB))
              go_wp2_with (at_builtin; go_must (refine wpList_append_row rfl (.tmp 35) (.tmp 48) 25 rfl w.heap.size 5 _ _ Tryd.underlying25 byte_info rfl _ _ _ rfl HOW.out A13 _ c13 _ _ rfl HVR.out (by intro u hu; rw [List.mem_singleton] at hu; subst hu; rfl) (by simp [maxLen]; omega) (by simp; omega) hBW ?_); intro v8 w8 hown8 hg8; have HO8 := kp hown8; clear hown8; have HG8 := kp hg8; clear hg8)
              go_roundw
              case rel => exact ⟨i + 1, by omega, by go_num, by rw [HN.out, List.map_append]; exact HO8.out, HG8.out.below HBW.out HOW.out hBW⟩
              case measure => simp [intOf]; omega
          · have hik : k = i := by omega
            subst hik
            have hm9 : n ≤ 1000000 := hn
            obtain ⟨_, hd1, _, _, hg1, _, _⟩ := (show Rd wr g A n c ⟨at_, wh, why⟩ from HRd2.out).cells
            simp only at hd1
            clear hc0 hc1 hc2 hc3 hf1 hf2 hf3 hlt
            go_wp2
            go_ret
            have h1 := HE.out
            cases h1
            have hset := HRd2.out.set 1 (.int .i64 ((at_ + k : Nat) : Int))
            have hw0 := HW0.out
            subst hw0
            refine ⟨_, rfl, HOwn.out.far (grown_set (g := g) (grown_refl _ _)) ?_, hset, grown_set (grown_of_below HBL.out _), (HR.out.below (HBL.out.mono hBw)).turned (grown_set (grown_refl _ _)) (by omega) hBg⟩
            rcases hob : Value.ownBlock _ with _ | b0
            · exact .inl rfl
            · refine .inr ?_
              have := (HOwn.out.block b0 hob).1
              intro e
              cases e
              omega
  · have hz : ((why : Int) != 0) = true := by simp; omega
    have HE : Kept (([], ⟨at_, wh, why⟩) = (out, s')) := kp <| by rw [← HX.out]; unfold R.raw; rw [if_neg h]
    clear h
    go_enter Tryd.func20, Tryd.ntmps20
    go_wp2
    go_ret
    have h1 := HE.out
    cases h1
    exact ⟨_, rfl, Own.nil _ _ _, HK.out, grown_refl _ _, HR.out⟩
end Go.Proofs.YtgdnimhhhllgaaaDoor
