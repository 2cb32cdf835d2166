/- WireRef1, WireRef2, in one text. -/
import Derived.Test.YtdnhfpphjpnklaaPk2
import Derived.Test.YtdnhfpphjpnklaaPk1
import Derived.Test.YtdnhfpphjpnklaaPk4
import Derived.Test.YtdnhfpphjpnklaaPk3
import Derived.Test.YtdnhfpphjpnklaaPk5
import Derived.Deep.RegionWith
/- The document's own reader, walked: Fail, Num. -/
namespace Go.Proofs.Ytdnhfpphjpnklaa
open Go.RowKit

/-- What a reader of the document has in its block. -/
def rdC (A : Option Addr) (n c : Nat) (s : R.St) : List Value := [.slice A n c, .int .i64 (s.at_ : Int), .int .i64 (s.wh : Int), .int .i64 (s.why : Int)]
def Rd (w : World) (g : Nat) (A : Option Addr) (n c : Nat) (s : R.St) : Prop := Blk w g 53 (rdC A n c s)
theorem Rd.cells {w : World} {g : Nat} {A : Option Addr} {n c : Nat} {s : R.St} (h : Rd w g A n c s) :
    w.cell? ⟨g, 0, none⟩ = some (.slice A n c) ∧ w.cell? ⟨g, 1, none⟩ = some (.int .i64 (s.at_ : Int)) ∧ w.cell? ⟨g, 2, none⟩ = some (.int .i64 (s.wh : Int)) ∧ w.cell? ⟨g, 3, none⟩ = some (.int .i64 (s.why : Int)) ∧
      w.frozen? ⟨g, 1, none⟩ = false ∧ w.frozen? ⟨g, 2, none⟩ = false ∧ w.frozen? ⟨g, 3, none⟩ = false :=
  ⟨Blk.cell h 0, Blk.cell h 1, Blk.cell h 2, Blk.cell h 3, Blk.frozen h 1, Blk.frozen h 2, Blk.frozen h 3⟩
theorem Rd.drewN {w : World} {g : Nat} {A : Option Addr} {n c : Nat} {s : R.St} (h : Rd w g A n c s) (k : Nat) : Rd (w.drewN k) g A n c s := h

set_option maxRecDepth 100000 in
set_option maxHeartbeats 800000 in
theorem rd_fail (g : Nat) (A : Option Addr) (n c : Nat) (s : R.St) (e : Nat) (s' : R.St) (hs' : R.fail s e = s') (w : World) (hk : Rd w g A n c s) :
    Calls Try.prog 22 #[.pointer (some ⟨g, 0, none⟩), .int .i64 (e : Int)] w fun r w' => r = .returned (.tuple #[]) ∧ Rd w' g A n c s' ∧ w.grownBy w' (some g) := by
  obtain ⟨_, hc1, hc2, hc3, hf1, hf2, hf3⟩ := hk.cells
  have HK := kp hk; have HS := kp hs'
  clear hk hs'
  obtain ⟨at_, wh, why⟩ := s
  simp only at hc1 hc2 hc3
  by_cases h : why = 0
  · have hz : ((why : Int) == 0) = true := by simp; omega
    have HE : Kept (⟨at_, at_, e⟩ = s') := kp <| by rw [← HS.out]; unfold R.fail; rw [if_pos h]
    clear h
    go_enter Try.func22, Try.ntmps22
    go_wp2
    go_end0
    refine ⟨rfl, ?_, grown_set (grown_set (grown_refl _ _))⟩
    rw [← HE.out]
    exact (HK.out.set 2 _).set 3 _
  · have hz : ((why : Int) == 0) = false := by simp; omega
    have HE : Kept (⟨at_, wh, why⟩ = s') := kp <| by rw [← HS.out]; unfold R.fail; rw [if_neg h]
    clear h
    go_enter Try.func22, Try.ntmps22
    go_wp2
    go_end0
    exact ⟨rfl, by rw [← HE.out]; exact HK.out, grown_refl _ _⟩

set_option maxRecDepth 100000 in
set_option maxHeartbeats 1600000 in
theorem rd_num (g B : Nat) (A : Option Addr) (n c : Nat) (bs : List Nat) (s : R.St) (hs : R.Ok bs s) (most : Int) (x : Nat) (s' : R.St) (hx : R.num bs s most = (x, s')) (w : World) (hk : Rd w g A n c s)
    (hr : Row byteV w B A n bs) (hb : ∀ x ∈ bs, x < 256) (hnc : n ≤ c) (hm : c ≤ maxLen) (hBg : B ≤ g) (hBw : B ≤ w.heap.size) :
    Calls Try.prog 20 #[.pointer (some ⟨g, 0, none⟩), .int .i64 most] w fun r w' => r = .returned (.int .i64 (x : Int)) ∧ Rd w' g A n c s' ∧ w.grownBy w' (some g) ∧ Row byteV w' B A n bs := by
  obtain ⟨hc0, hc1, hc2, hc3, hf1, hf2, hf3⟩ := hk.cells
  have HK := kp hk; have HR := kp hr; have HB := kp hb; have HS := kp hs
  have hlen := hr.len
  have hat := hs.1
  have hgs := hk.lt
  have HX := kp hx
  have HM := kp hm
  unfold maxLen at hm
  clear hk hr hb hs hx
  by_cases h : s.why = 0
  · have hz : ((s.why : Int) != 0) = false := by simp; omega
    obtain ⟨y, hy⟩ : ∃ y, (V.get (bs.drop s.at_)).1 = y := ⟨_, rfl⟩
    obtain ⟨u, hu⟩ : ∃ y, (V.get (bs.drop s.at_)).2.1 = y := ⟨_, rfl⟩
    obtain ⟨e, he⟩ : ∃ y, (V.get (bs.drop s.at_)).2.2 = y := ⟨_, rfl⟩
    have hbd : ∀ x ∈ bs.drop s.at_, x < 256 := fun x hx => HB.out x (List.mem_of_mem_drop hx)
    obtain ⟨hy1, hu1, he1⟩ := V.get_small (bs.drop s.at_) hbd
    rw [hy] at hy1; rw [hu] at hu1; rw [he] at he1
    have HBD := kp hbd
    have HG : Kept (V.get (bs.drop s.at_) = (y, u, e)) := kp <| by rw [← hy, ← hu, ← he]
    have HNum : Kept ((if e = 0 then if most < (y : Int) then (0, R.fail s 4) else (y, ⟨s.at_ + u, s.wh, 0⟩) else (0, R.fail s e)) = (x, s')) := kp <| by
      rw [← HX.out]; unfold R.num; rw [if_pos h, he, hy, hu]
    have HCut := kp (HR.out.cutOpt (l := s.at_) (c := c) (by omega) hnc)
    have HGet : Kept (∀ W : World, Row byteV W B (if c = s.at_ then A else A.map (·.add s.at_)) (n - s.at_) (bs.drop s.at_) → Calls Try.prog 37 #[.slice (if c = s.at_ then A else A.map (·.add s.at_)) (n - s.at_) (c - s.at_)] W fun r w' => r = .returned (.tuple #[.int .i64 (y : Int), .int .i64 (u : Int), .int .i64 (e : Int)]) ∧ W = w') := kp <| fun W hW => by
      have := ref_get_any B _ (n - s.at_) (c - s.at_) (bs.drop s.at_) W hW HBD.out (by unfold maxLen; omega)
      rw [HG.out] at this
      exact this
    obtain ⟨at_, wh, why⟩ := s
    simp only at *
    have HW0 : Kept (why = 0) := kp h
    clear hbd hy hu he h
    have hatn : at_ ≤ n := by omega
    have HRd : Kept (∀ k, Rd (w.drewN k) g A n c ⟨at_, wh, why⟩) := kp fun k => HK.out
    by_cases h0 : e = 0
    · have hze : ((e : Int) != 0) = false := by simp; omega
      have hau : at_ + u ≤ n := by
        have h1 := (V.get_once (bs.drop at_) HBD.out (by rw [HG.out]; exact h0)).2.2
        rw [HG.out, List.length_drop] at h1
        simp only at h1
        omega
      have hm9 : c ≤ 9223372036854775807 := by omega
      by_cases hmo : most < (y : Int)
      · have HE := kp ((show (if e = 0 then if most < (y : Int) then ((0 : Nat), R.fail (⟨at_, wh, why⟩ : R.St) 4) else (y, ⟨at_ + u, wh, 0⟩) else (0, R.fail ⟨at_, wh, why⟩ e)) = (0, R.fail ⟨at_, wh, why⟩ 4) by rw [if_pos h0, if_pos hmo]).symm.trans HNum.out)
        go_enter Try.func20, Try.ntmps20
        go_wp2
        go_quiet ((go_at_call 37; exact quiet_eq (HGet.out _ (HCut.out.drewN _))))
        generalize (if c = at_ then A else A.map (·.add at_)) = A2
        go_wp2_with (go_at_call 22; go_must (refine (rd_fail g A n c ⟨at_, wh, why⟩ 4 _ rfl _ (HRd.out _)).mono ?_); rintro e2 w2 ⟨rfl, hk2, hg2⟩; have HK2 := kp hk2; have HG2 := kp hg2; clear hk2 hg2)
        go_ret
        have h1 := HE.out
        cases h1
        exact ⟨rfl, HK2.out, grown_trans (grown_drews (grown_refl _ _) _) HG2.out, (HR.out.drewN _).turned HG2.out hBw hBg⟩
      · have HE := kp ((show (if e = 0 then if most < (y : Int) then ((0 : Nat), R.fail (⟨at_, wh, why⟩ : R.St) 4) else (y, ⟨at_ + u, wh, 0⟩) else (0, R.fail ⟨at_, wh, why⟩ e)) = (y, ⟨at_ + u, wh, 0⟩) by rw [if_pos h0, if_neg hmo]).symm.trans HNum.out)
        go_enter Try.func20, Try.ntmps20
        go_wp2
        go_quiet ((go_at_call 37; exact quiet_eq (HGet.out _ (HCut.out.drewN _))))
        generalize (if c = at_ then A else A.map (·.add at_)) = A2
        go_wp2
        go_ret
        have h1 := HE.out
        cases h1
        have hset := HK.out.set 1 (.int .i64 ((at_ + u : Nat) : Int))
        refine ⟨rfl, ?_, grown_set (grown_drews (grown_refl _ _) _), (HR.out.drewN nq).turned (grown_set (grown_refl _ _)) hBw hBg⟩
        have hw0 := HW0.out
        subst hw0
        exact hset
    · have hze : ((e : Int) != 0) = true := by simp; omega
      have HE := kp ((show (if e = 0 then if most < (y : Int) then ((0 : Nat), R.fail (⟨at_, wh, why⟩ : R.St) 4) else (y, ⟨at_ + u, wh, 0⟩) else (0, R.fail ⟨at_, wh, why⟩ e)) = (0, R.fail ⟨at_, wh, why⟩ e) by rw [if_neg h0]).symm.trans HNum.out)
      go_enter Try.func20, Try.ntmps20
      go_wp2
      go_quiet ((go_at_call 37; exact quiet_eq (HGet.out _ (HCut.out.drewN _))))
      generalize (if c = at_ then A else A.map (·.add at_)) = A2
      go_wp2_with (go_at_call 22; go_must (refine (rd_fail g A n c ⟨at_, wh, why⟩ e _ rfl _ (HRd.out _)).mono ?_); rintro e2 w2 ⟨rfl, hk2, hg2⟩; have HK2 := kp hk2; have HG2 := kp hg2; clear hk2 hg2)
      go_ret
      have h1 := HE.out
      cases h1
      exact ⟨rfl, HK2.out, grown_trans (grown_drews (grown_refl _ _) _) HG2.out, (HR.out.drewN _).turned HG2.out hBw hBg⟩
  · have hz : ((s.why : Int) != 0) = true := by simp; omega
    have HE : Kept ((0, s) = (x, s')) := kp <| by rw [← HX.out, R.num_why h]
    clear h
    go_enter Try.func20, Try.ntmps20
    go_wp2
    go_ret
    have h1 := HE.out
    cases h1
    exact ⟨rfl, HK.out, grown_refl _ _, HR.out⟩
end Go.Proofs.Ytdnhfpphjpnklaa

/- The document's own reader, walked: Raw. -/
namespace Go.Proofs.Ytdnhfpphjpnklaa
open Go.RowKit

set_option maxRecDepth 100000 in
set_option maxHeartbeats 1600000 in
theorem rd_raw (g B : Nat) (A : Option Addr) (n c : Nat) (bs : List Nat) (s : R.St) (hs : R.Ok bs s) (m : Int) (hm64 : -9223372036854775808 ≤ m ∧ m ≤ 9223372036854775807) (out : List Nat) (s' : R.St) (hx : R.raw bs s m = (out, s')) (w : World) (hk : Rd w g A n c s)
    (hr : Row byteV w B A n bs) (hn : n ≤ 1000000) (hBg : B ≤ g) (hBw : B ≤ w.heap.size) :
    Calls Try.prog 19 #[.pointer (some ⟨g, 0, none⟩), .int .i64 m] w fun r w' => ∃ v, r = .returned v ∧ Own w' w.heap.size 5 v (out.map byteV) ∧ Rd w' g A n c s' ∧ w.grownBy w' (some g) ∧ Row byteV w' B A n bs := by
  obtain ⟨hc0, hc1, hc2, hc3, hf1, hf2, hf3⟩ := hk.cells
  obtain ⟨hm1, hm2⟩ := hm64
  have HK := kp hk; have HR := kp hr
  have hlen := hr.len
  have hat := hs.1
  have hgs := hk.lt
  have HX := kp hx
  clear hk hr hs hx
  obtain ⟨at_, wh, why⟩ := s
  simp only at *
  have hatn : at_ ≤ n := by omega
  have HRd : Kept (∀ k, Rd (w.drewN k) g A n c ⟨at_, wh, why⟩) := kp fun k => HK.out
  by_cases h : why = 0
  · have hz : ((why : Int) != 0) = false := by simp; omega
    have HW0 := kp h
    by_cases hneg : m < 0
    · have HE : Kept (([], R.fail ⟨at_, wh, why⟩ 1) = (out, s')) := kp <| by rw [← HX.out]; unfold R.raw; rw [if_pos h, if_pos hneg]
      clear h
      go_enter Try.func19, Try.ntmps19
      go_wp2_with (go_at_call 22; go_must (refine (rd_fail g A n c ⟨at_, wh, why⟩ 1 _ rfl _ HK.out).mono ?_); rintro e2 w2 ⟨rfl, hk2, hg2⟩; have HK2 := kp hk2; have HG2 := kp hg2; clear hk2 hg2)
      go_ret
      have h1 := HE.out
      cases h1
      exact ⟨_, rfl, Own.nil _ _ _, HK2.out, HG2.out, HR.out.turned HG2.out hBw hBg⟩
    · obtain ⟨k, rfl⟩ : ∃ k : Nat, m = (k : Int) := ⟨m.toNat, by omega⟩
      by_cases hlong : n - at_ < k
      · have HE : Kept (([], R.fail ⟨at_, wh, why⟩ 2) = (out, s')) := kp <| by rw [← HX.out]; unfold R.raw; rw [if_pos h, if_neg hneg, if_pos (by show (bs.length : Int) - (at_ : Int) < (k : Int); omega)]
        have hgt : (n : Int) - (at_ : Int) < (k : Int) := by omega
        clear h hneg
        go_enter Try.func19, Try.ntmps19
        go_wp2
        go_quiet (fail)
        go_wp2_with (go_at_call 22; go_must (refine (rd_fail g A n c ⟨at_, wh, why⟩ 2 _ rfl _ (HRd.out _)).mono ?_); rintro e2 w2 ⟨rfl, hk2, hg2⟩; have HK2 := kp hk2; have HG2 := kp hg2; clear hk2 hg2)
        go_ret
        have h1 := HE.out
        cases h1
        exact ⟨_, rfl, Own.nil _ _ _, HK2.out, grown_trans (grown_drews (grown_refl _ _) _) HG2.out, (HR.out.drewN _).turned HG2.out hBw hBg⟩
      · have HE : Kept (((bs.drop at_).take k, ⟨at_ + k, wh, 0⟩) = (out, s')) := kp <| by rw [← HX.out]; unfold R.raw; rw [if_pos h, if_neg hneg, if_neg (by show ¬ (bs.length : Int) - (at_ : Int) < (k : Int); omega)]; rfl
        have hle : (k : Int) ≤ (n : Int) - (at_ : Int) := by omega
        have hak : at_ + k ≤ n := by omega
        clear h hneg hlong
        go_enter Try.func19, Try.ntmps19
        go_wp2
        go_quiet (fail)
        go_wp2
        go_loopw [5, 6] (fun v5 v6 wr => ∃ i : Nat, i ≤ k ∧ v6 = .int .i64 i ∧ Own wr w.heap.size 5 v5 (((bs.drop at_).take i).map byteV) ∧ Below w.heap.size w wr) (fun _ v6 _ => k - (intOf v6).toNat)
        case atStart => exact ⟨0, by omega, rfl, Own.nil _ _ _, below_drewN (Below.refl _ _) _⟩
        case round =>
          obtain ⟨i, hi, rfl, hown, hbl⟩ := hrel
          have hB := hbl.size
          have HOwn := kp hown; have HBL := kp hbl
          have HRd2 : Kept (Blk wr g 53 (rdC A n c ⟨at_, wh, why⟩)) := kp (HK.out.below hbl hgs)
          clear hown hbl
          by_cases hlt : i < k
          · obtain ⟨ad, x, rfl, hab, hx, hcell⟩ := HR.out.get (k := at_ + i) (by omega)
            rw [byteV_def] at hcell
            have hln : ((bs.drop at_).take i).length ≤ 1000000 := by rw [List.length_take]; omega
            have HN : Kept ((bs.drop at_).take (i + 1) = (bs.drop at_).take i ++ [x]) := kp <| by rw [List.take_add_one, List.getElem?_drop, hx]; rfl
            have habw : ad.block < wr.heap.size := by omega
            have HCx : Kept (wr.cell? (ad.add (at_ + i)) = some (.int .u8 (x : Int))) := kp <| (HBL.out.cell (by rw [add_block]; omega)).trans hcell
            generalize (bs.drop at_).take i = l at *
            clear hx hcell
            have HRd := HRd2
            clear hc0 hc1 hc2 hc3 hf1 hf2 hf3
            go_wp2
            apply region_tail 14 (.is _ :: .is _ :: .is _ :: .is _ :: .is _ :: .is _ :: .is _ :: .is _ :: .is _ :: .is _ :: .is _ :: .is _ :: .is _ :: .vals [Value.int .u8 (x : Int)] :: [])
              [[], [], [(1, 36)], [(2, 37)], [(3, 38)], [], [(5, 40)], [(6, 41)], [(7, 42)], [], [(8, 43), (9, 44)], [(4, 39), (10, 45)], [(11, 46)], [(12, 47)], [(0, 35), (13, 48)], [(14, 49)]]
              [(0, 35), (1, 36), (2, 37), (3, 38), (4, 39), (5, 40), (6, 41), (7, 42), (8, 43), (9, 44), (10, 45), (11, 46), (12, 47), (13, 48)] (by kernel_rfl) (by kernel_rfl) (by kernel_rfl) (by kernel_rfl) (by kernel_rfl)
            case hob =>
              refine ⟨?o0, ?o1, ?o2, ?o3, ?o4, ?o5, ?o6, ?o7, ?o8, ?o9, ?o10, ?o11, ?o12, ?o13, trivial⟩
              case o0 => intro W hW; change wpList _ _ _ _ _ _; go_wp2; exact pure_post rfl rfl rfl
              case o1 => intro W hW; change wpList _ _ _ _ _ _; go_wp2; exact pure_post rfl rfl rfl
              case o2 => intro W hW; rintro _ rfl; change wpList _ _ _ _ _ _; go_wp2; exact pure_post rfl rfl rfl
              case o3 => intro W hW; rintro _ rfl; change wpList _ _ _ _ _ _; go_wp2; exact pure_post rfl rfl rfl
              case o4 =>
                intro W hW; rintro _ rfl; change wpList _ _ _ _ _ _
                have hc : W.cell? ⟨g, 0, none⟩ = some (.slice (some ad) n c) := (HRd.out.below hW HRd.out.lt).cell 0
                go_wp2; exact pure_post rfl rfl rfl
              case o5 => intro W hW; change wpList _ _ _ _ _ _; go_wp2; exact pure_post rfl rfl rfl
              case o6 => intro W hW; rintro _ rfl; change wpList _ _ _ _ _ _; go_wp2; exact pure_post rfl rfl rfl
              case o7 => intro W hW; rintro _ rfl; change wpList _ _ _ _ _ _; go_wp2; exact pure_post rfl rfl rfl
              case o8 =>
                intro W hW; rintro _ rfl; change wpList _ _ _ _ _ _
                have hc : W.cell? ⟨g, 1, none⟩ = some (.int .i64 (at_ : Int)) := (HRd.out.below hW HRd.out.lt).cell 1
                go_wp2; exact pure_post rfl rfl rfl
              case o9 => intro W hW; change wpList _ _ _ _ _ _; go_wp2; exact pure_post rfl rfl rfl
              case o10 => intro W hW; rintro _ rfl; rintro _ rfl; change wpList _ _ _ _ _ _; go_wp2; exact pure_post rfl rfl rfl
              case o11 => intro W hW; rintro _ rfl; rintro _ rfl; change wpList _ _ _ _ _ _; go_wp2; exact pure_post rfl rfl rfl
              case o12 =>
                intro W hW; rintro _ rfl; change wpList _ _ _ _ _ _
                have hcw : W.cell? (ad.add (at_ + i)) = some (.int .u8 (x : Int)) := (hW.cell (by rw [add_block]; exact habw)).trans HCx.out
                go_wp2; exact pure_post rfl rfl rfl
              case o13 =>
                intro W hW; rintro _ rfl; change wpList _ _ _ _ _ _
                go_wp2
                exact made_post rfl rfl rfl ((Below.refl _ _).alloc (Nat.le_refl _) _) ⟨_, _, rfl, Row.made (fun u => u) W [_] _ rfl _⟩
            case hend =>
              intro W hW; rintro _ rfl; rintro _ rfl; rintro _ rfl; rintro _ rfl; rintro _ rfl; rintro _ rfl; rintro _ rfl; rintro _ rfl; rintro _ rfl; rintro _ rfl; rintro _ rfl; rintro _ rfl; rintro _ rfl; rintro _ ⟨A13, c13, rfl, hr13⟩
              simp only [given, put_lit, List.set, List.drop]
              have HOW := kp (HOwn.out.below hW (Nat.le_refl _))
              have HVR := kp hr13
              clear hr13
              have hBW : w.heap.size ≤ W.heap.size := Nat.le_trans hB hW.size
              have HBW := kp (HBL.out.trans (hW.mono hB))
              go_wp2_with (at_builtin; go_must (refine wpList_append_row rfl (.tmp 35) (.tmp 48) 22 rfl w.heap.size 5 _ _ Try.underlying22 byte_info rfl _ _ _ rfl HOW.out A13 _ c13 _ _ rfl HVR.out (by intro u hu; rw [List.mem_singleton] at hu; subst hu; rfl) (by simp [maxLen]; omega) (by simp; omega) hBW ?_); intro v8 w8 hown8 hg8; have HO8 := kp hown8; clear hown8; have HG8 := kp hg8; clear hg8)
              go_roundw
              case rel => exact ⟨i + 1, by omega, by go_num, by rw [HN.out, List.map_append]; exact HO8.out, HG8.out.below HBW.out HOW.out hBW⟩
              case measure => simp [intOf]; omega
          · have hik : k = i := by omega
            subst hik
            have hm9 : n ≤ 1000000 := hn
            obtain ⟨_, hd1, _, _, hg1, _, _⟩ := (show Rd wr g A n c ⟨at_, wh, why⟩ from HRd2.out).cells
            simp only at hd1
            clear hc0 hc1 hc2 hc3 hf1 hf2 hf3 hlt
            go_wp2
            go_ret
            have h1 := HE.out
            cases h1
            have hset := HRd2.out.set 1 (.int .i64 ((at_ + k : Nat) : Int))
            have hw0 := HW0.out
            subst hw0
            refine ⟨_, rfl, HOwn.out.far (grown_set (g := g) (grown_refl _ _)) ?_, hset, grown_set (grown_of_below HBL.out _), (HR.out.below (HBL.out.mono hBw)).turned (grown_set (grown_refl _ _)) (by omega) hBg⟩
            rcases hob : Value.ownBlock _ with _ | b0
            · exact .inl rfl
            · refine .inr ?_
              have := (HOwn.out.block b0 hob).1
              intro e
              cases e
              omega
  · have hz : ((why : Int) != 0) = true := by simp; omega
    have HE : Kept (([], ⟨at_, wh, why⟩) = (out, s')) := kp <| by rw [← HX.out]; unfold R.raw; rw [if_neg h]
    clear h
    go_enter Try.func19, Try.ntmps19
    go_wp2
    go_ret
    have h1 := HE.out
    cases h1
    exact ⟨_, rfl, Own.nil _ _ _, HK.out, grown_refl _ _, HR.out⟩
end Go.Proofs.Ytdnhfpphjpnklaa
