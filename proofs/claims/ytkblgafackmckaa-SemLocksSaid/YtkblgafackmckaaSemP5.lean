/- The program's interpreter, walked: At, Enabled. -/
import Derived.Test.YtkblgafackmckaaSemP3
import Derived.Test.YtkblgafackmckaaPk15
import Derived.Test.YtkblgafackmckaaPk7
namespace Go.Proofs.Ytkblgafackmckaa
open Go.RowKit

/-- What At tells: the node of a thread that lives, a zero one of another. -/
def atNd (p : Pg) (c : M.Cf) (t : Int) : Nd := if M.lives c t = true then M.node p c t.toNat else ⟨0, 0, 0, 0⟩
theorem conf_ones (q : Pc) : ∀ u ∈ pcC q, u.oneCell' = true := by
  intro u hu
  unfold pcC at hu
  rcases List.mem_cons.1 hu with rfl | hu
  · rfl
  · obtain ⟨x, _, rfl⟩ := List.mem_map.1 hu
    rfl
theorem conf_len {q : Pc} (h : q.ow.length = 16) : (pcC q).length = 17 := by simp [pcC, h]
theorem pcA_is (q : Pc) : pcA q = .agg (pcC q).toArray := rfl
theorem nd_zero_ok : Nd.Ok ⟨0, 0, 0, 0⟩ := ⟨by unfold I64; simp, by unfold I64; simp, by unfold I64; simp, by unfold I64; simp⟩

set_option maxRecDepth 100000 in
set_option maxHeartbeats 1600000 in
theorem sem_at (B : Nat) (p : Pg) (hf : Fine p) (q : Pc) (w : World) (hp : p.Ok w B) (hq : q.Ok w B) (hg : M.Good p q.cf) (hB : B ≤ w.heap.size) (t : Int) (ht : I64 t) (b : Bool) (hb : M.lives q.cf t = b) (x : Nd) (hx : atNd p q.cf t = x) :
    Calls Try.prog 20 #[pcA q, pgA p, .int .i64 t] w fun e w' => e = .returned (.tuple #[ndA x, .bool b]) ∧ Below w.heap.size w w' := by
  have h8 : q.len ≤ 8 := by rw [← hq.len]; exact hg.most
  have hq17 : (pcC q).length = 17 := conf_len hg.owns
  have HQ17 := kp hq17
  have HP := kp hp; have HQ := kp hq; have HT := kp ht; have HB := kp hb
  cases b
  · have HX : Kept (x = ⟨0, 0, 0, 0⟩) := kp (by rw [← hx]; unfold atNd; rw [hb]; rfl)
    rw [HX.out]
    clear hp hq ht hb hx hg hf hq17
    rw [pcA_is, pgA_is]
    go_enter Try.func20, Try.ntmps20
    go_wp2_with (first
      | ((with_reducible refine wpList_box_agg rfl 31 (.tmp 0) rfl (pcC q) rfl ?_); intro g1 w1 hg1 hk1 hw1; have HK1 := kp hk1; have HW1 := kp hw1; have hs1 := hw1.size; have hl1 := hk1.lt; clear hk1 hw1)
      | ((with_reducible refine wpList_box_agg rfl 24 (.tmp 1) rfl (pgC p) rfl ?_); intro g2 w2 hg2 hk2 hw2; have HK12 := kp (HK1.out.below hw2 hl1); have HW2 := kp (HW1.out.trans (hw2.mono hs1)); have hs2 := HW2.out.size; have hl12 := HK12.out.lt; clear hk2 hw2)
      | ((with_reducible show wpList _ _ _ (⟨some 6, _, _, _, _, _⟩ :: _) _ _); go_must (refine wpList_alloc_zero rfl 47 rfl (ndC ⟨0, 0, 0, 0⟩) nd_zero ?_); intro g3 w3 hg3 hk3 hw3
         have HK3 := kp hk3; have HK13 := kp (HK12.out.below hw3 hl12); have HW3 := kp (HW2.out.trans (hw3.mono hs2)); have hs3 := HW3.out.size; have hl3 := hk3.lt; clear hk3 hw3)
      | ((with_reducible show wpList _ _ _ (⟨some 8, _, _, _, _, _⟩ :: _) _ _); go_must (refine wpList_load_blk rfl 31 (.tmp 3) rfl g1 rfl _ (pcC q) _ HK13.out Try.underlying31 rfl (by rw [HQ17.out]; exact conf_size) ?_))
      | (go_at_call 16; go_must (refine (sem_lives B q w3 (HQ.out.below (HW3.out.mono hB)) (by omega) (by omega) t HT.out false HB.out).mono ?_); rintro e w4 ⟨rfl, hb4⟩
         have HW4 := kp (HW3.out.trans (hb4.mono hs3)); have HK4 := kp (HK3.out.below hb4 hl3); have hs4 := HW4.out.size; clear hb4)
      | ((with_reducible show wpList _ _ _ (⟨none, _, _, _, _, _⟩ :: _) _ _); go_must (refine wpList_store_blk rfl 47 (.tmp 6) (.tmp 12) rfl g3 (ndC ⟨0, 0, 0, 0⟩) rfl rfl _ _ HK4.out nd_size rfl (nd_ones _) ?_); intro w8 hk8 hg8 hs8; have HK8 := kp hk8; have HW8 := kp (HW4.out.grown hg8 hs4 (fun k e => by cases e; omega)); clear hk8 hg8)
      | ((with_reducible show bodyPost _ _ _ _ _ _); exact bodyPost_ret (results_cell1 (P := Try.prog) (fn := Try.f20) rfl _ _ g3 47 _ _ _ rfl rfl HK8.out Try.underlying47 rfl nd_size) rfl ⟨rfl, HW8.out⟩))
  · obtain ⟨k, rfl⟩ : ∃ k : Nat, t = (k : Int) := ⟨t.toNat, by
      unfold M.lives at hb
      rw [Bool.and_eq_true, decide_eq_true_eq] at hb
      omega⟩
    have hb2 := hb
    rw [M.lives_nat] at hb2
    have hkl : k < q.len := by rw [← hq.len]; exact M.lives_lt hb2
    have hxn : M.node p q.cf k = x := by rw [← hx]; unfold atNd; rw [hb]; rfl
    obtain ⟨ad, th, hA, hadB, hth, hsok, hthc, hsl, hc0, _⟩ := hq.thread hkl
    have hs0 : 0 < th.sv.len := by
      unfold M.livesN at hb2
      rw [hthc, decide_eq_true_eq] at hb2
      rw [← hsl]; exact hb2
    obtain ⟨ad2, hA2, hadB2, hl0, hl1⟩ := hsok.last hs0
    obtain ⟨fn, hfn, hfi, hfx⟩ := M.node_is hg hb2
    rw [hxn, hthc] at hfx
    rw [hthc] at hfn
    have hlen16 : th.sv.len ≤ 1000 := by
      have h1 := M.high hf hp.row.len hg (x := tvT th) (List.mem_map_of_mem (List.mem_of_getElem? hth))
      have h2 := hf.counts.f
      have h3 : (tvT th).stack.length = th.sv.len := hsl
      omega
    rw [hA2] at hc0
    obtain ⟨F, hF⟩ : ∃ F, (M.top (tvT th).stack).1 = F := ⟨_, rfl⟩
    obtain ⟨N, hN⟩ : ∃ N, (M.top (tvT th).stack).2 = N := ⟨_, rfl⟩
    rw [hF] at hfn
    rw [hN] at hfx
    have hl0' : w.cell? (ad2.add ((th.sv.len - 1) * 2)) = some (.int .i64 (F : Int)) := by rw [← hF]; exact hl0
    have hl1' : w.cell? ⟨(ad2.add ((th.sv.len - 1) * 2)).block, (ad2.add ((th.sv.len - 1) * 2)).off + 1, none⟩ = some (.int .i64 (N : Int)) := by rw [← hN]; exact hl1
    have HC0 := kp hc0; have HL0 := kp hl0'; have HL1 := kp hl1'; have HFn := kp hfn; have HFx := kp hfx; have HFine := kp hf
    have hqc := hq.lc; have hqm := hq.cm; have hxc := hsok.lc; have hxm := hsok.cm
    unfold maxLen at hqm hxm
    obtain ⟨n, hn⟩ : ∃ n, th.sv.len = n := ⟨_, rfl⟩
    obtain ⟨cp, hcp⟩ : ∃ cp, th.sv.cap = cp := ⟨_, rfl⟩
    rw [hn] at HC0 HL0 HL1 hs0 hlen16 hxc
    rw [hcp] at HC0 hxc hxm
    have HE : Kept (pcC q = .slice (some ad) q.len q.cap :: q.ow.map natV) := kp (by unfold pcC; rw [hA])
    clear hp hq ht hb hx hg hf hq17 hc0 hl0 hl1 hl0' hl1' hfn hfx hF hN hb2 hxn hth hsok hthc hsl hA hA2 hfi hn hcp
    rw [pcA_is, pgA_is]
    go_enter Try.func20, Try.ntmps20
    go_wp2_with (first
      | ((with_reducible refine wpList_box_agg rfl 31 (.tmp 0) rfl (pcC q) rfl ?_); intro g1 w1 hg1 hk1 hw1; have HK1 := kp hk1; have HW1 := kp hw1; have hs1 := hw1.size; have hl1 := hk1.lt; clear hk1 hw1)
      | ((with_reducible refine wpList_box_agg rfl 24 (.tmp 1) rfl (pgC p) rfl ?_); intro g2 w2 hg2 hk2 hw2; have HK12 := kp (HK1.out.below hw2 hl1); have HK2 := kp hk2; have HW2 := kp (HW1.out.trans (hw2.mono hs1)); have hs2 := HW2.out.size; have hl12 := HK12.out.lt; have hl2 := hk2.lt; clear hk2 hw2)
      | ((with_reducible show wpList _ _ _ (⟨some 6, _, _, _, _, _⟩ :: _) _ _); go_must (refine wpList_alloc_zero rfl 47 rfl (ndC ⟨0, 0, 0, 0⟩) nd_zero ?_); intro g3 w3 hg3 hk3 hw3
         have HK3 := kp hk3; have HK13 := kp (HK12.out.below hw3 hl12); have HK23 := kp (HK2.out.below hw3 hl2); have HW3 := kp (HW2.out.trans (hw3.mono hs2)); have hs3 := HW3.out.size; have hl3 := hk3.lt; clear hk3 hw3)
      | ((with_reducible show wpList _ _ _ (⟨some 8, _, _, _, _, _⟩ :: _) _ _); go_must (refine wpList_load_blk rfl 31 (.tmp 3) rfl g1 rfl _ (pcC q) _ HK13.out Try.underlying31 rfl (by rw [HQ17.out]; exact conf_size) ?_))
      | (go_at_call 16; go_must (refine (sem_lives B q w3 (HQ.out.below (HW3.out.mono hB)) (by omega) (by omega) (k : Int) HT.out true HB.out).mono ?_); rintro e w4 ⟨rfl, hb4⟩
         have HW4 := kp (HW3.out.trans (hb4.mono hs3)); have HK34 := kp (HK3.out.below hb4 hl3); have HK14 := kp (HK13.out.below hb4 HK13.out.lt); have HK24 := kp (HK23.out.below hb4 HK23.out.lt); have hs4 := HW4.out.size; clear hb4))
    have hd1 := HK14.out.lt; have hd2 := HK24.out.lt
    apply region_tail 11 (.is (pgA p) :: .is _ :: .is _ :: .is _ :: .is _ :: .is _ :: .is _ :: .is (.agg #[.int .i64 (F : Int), .int .i64 (N : Int)]) :: .is (.tuple #[ndA x, .bool true]) :: .is _ :: .is _ :: [])
      [[], [], [(1, 14)], [], [(2, 15), (3, 16)], [(4, 17)], [(5, 18)], [(6, 19)], [(0, 13), (7, 20)], [(8, 21)], [(8, 21)], [(9, 22)], [(10, 23)]]
      [(0, 13), (1, 14), (2, 15), (3, 16), (4, 17), (5, 18), (6, 19), (7, 20), (8, 21), (9, 22), (10, 23)] (by kernel_rfl) (by kernel_rfl) (by kernel_rfl) (by kernel_rfl) (by kernel_rfl)
    case hob =>
      refine ⟨?o0, ?o1, ?o2, ?o3, ?o4, ?o5, ?o6, ?o7, ?o8, ?o9, ?o10, trivial⟩
      case o0 =>
        intro W hW; change wpList _ _ _ _ _ _
        obtain ⟨hc0, hc1, hc2, hc3⟩ := pg_cells (HK24.out.below hW hd2)
        go_wp2; exact pure_post rfl rfl rfl
      case o1 => intro W hW; change wpList _ _ _ _ _ _; go_wp2; exact pure_post rfl rfl rfl
      case o2 =>
        intro W hW; rintro _ rfl; change wpList _ _ _ _ _ _
        have hc := (HK14.out.below hW hd1).cell 0
        rw [HE.out, List.getElem?_cons_zero] at hc
        go_wp2; exact pure_post rfl rfl rfl
      case o3 => intro W hW; change wpList _ _ _ _ _ _; go_wp2; exact pure_post rfl rfl rfl
      case o4 => intro W hW; rintro _ rfl; rintro _ rfl; change wpList _ _ _ _ _ _; go_wp2; exact pure_post rfl rfl rfl
      case o5 =>
        intro W hW; rintro _ rfl; change wpList _ _ _ _ _ _
        have hc := ((HW4.out.trans (hW.mono hs4)).cell (p := ad.add (k * 9)) (by rw [add_block]; omega)).trans HC0.out
        have HC := kp (sem_last (ad.add (k * 9)) ad2 n cp W hs0 hlen16 hc)
        clear hc
        go_wp2_with fail
        refine HC.out.mono ?_
        rintro e w2 ⟨rfl, m, rfl⟩
        go_wp2
        exact made_post rfl rfl rfl (below_drewN (Below.refl _ _) m) rfl
      case o6 => intro W hW; rintro _ rfl; change wpList _ _ _ _ _ _; go_wp2; exact pure_post rfl rfl rfl
      case o7 =>
        intro W hW; rintro _ rfl; change wpList _ _ _ _ _ _
        have hb := HW4.out.trans (hW.mono hs4)
        have hc0 := (hb.cell (p := ad2.add ((n - 1) * 2)) (by rw [add_block]; omega)).trans HL0.out
        have hc1 := (hb.cell (p := ⟨(ad2.add ((n - 1) * 2)).block, (ad2.add ((n - 1) * 2)).off + 1, none⟩) (by show (ad2.add ((n - 1) * 2)).block < _; rw [add_block]; omega)).trans HL1.out
        clear hb
        go_wp2; exact pure_post rfl rfl rfl
      case o8 =>
        intro W hW; rintro _ rfl; rintro _ rfl; change wpList _ _ _ _ _ _
        have hb := HW4.out.trans (hW.mono hs4)
        have HC := kp (sem_nodeAt B p HFine.out F N fn x HFn.out HFx.out W (HP.out.below (hb.mono hB)) (by have := hb.size; omega))
        clear hb
        go_wp2_with fail
        refine HC.out.mono ?_
        rintro e w2 ⟨rfl, hb2⟩
        have HB2 := kp hb2; clear hb2
        go_wp2
        exact made_post rfl rfl rfl HB2.out rfl
      case o9 => intro W hW; rintro _ rfl; change wpList _ _ _ _ _ _; go_wp2; exact pure_post rfl rfl rfl
      case o10 => intro W hW; rintro _ rfl; change wpList _ _ _ _ _ _; go_wp2; exact pure_post rfl rfl rfl
    case hend =>
      intro W hW; rintro _ rfl; rintro _ rfl; rintro _ rfl; rintro _ rfl; rintro _ rfl; rintro _ rfl; rintro _ rfl; rintro _ rfl; rintro _ rfl; rintro _ rfl; rintro _ rfl
      simp only [given, put_lit, List.set, List.drop]
      have HWw := kp (HW4.out.trans (hW.mono hs4))
      have hsw := HWw.out.size
      have HK3w := kp (HK34.out.below hW HK34.out.lt)
      clear hW
      go_wp2_with (first
        | ((with_reducible show wpList _ _ _ (⟨none, _, _, _, _, _⟩ :: _) _ _); go_must (refine wpList_store_blk rfl 47 (.tmp 6) (.tmp 22) rfl g3 (ndC x) rfl rfl _ _ HK3w.out nd_size rfl (nd_ones x) ?_); intro w8 hk8 hg8 hs8; have HK8 := kp hk8; have HW8 := kp (HWw.out.grown hg8 hsw (fun k e => by cases e; omega)); clear hk8 hg8)
        | ((with_reducible show bodyPost _ _ _ _ _ _); exact bodyPost_ret (results_cell1 (P := Try.prog) (fn := Try.f20) rfl _ _ g3 47 _ _ _ rfl rfl HK8.out Try.underlying47 rfl nd_size) rfl ⟨rfl, HW8.out⟩))
end Go.Proofs.Ytkblgafackmckaa
