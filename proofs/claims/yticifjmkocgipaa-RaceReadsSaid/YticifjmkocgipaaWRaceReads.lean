/- RaceReads, walked. -/
import Derived.Test.YticifjmkocgipaaRaceLaw2
import Derived.Test.YticifjmkocgipaaRaceCopy
import Derived.Test.YticifjmkocgipaaPk31
namespace Go.Proofs.Yticifjmkocgipaa
open Go.RowKit

theorem node_info10 : (Try.prog.info? 56).map (fun i => (i.zero, i.size, i.bytes)) = some (some (.agg #[.int .i64 0, .int .i64 0, .int .i64 0, .int .i64 0]), 4, 32) := by kernel_rfl

theorem nodes_info10 : (Try.prog.info? 67).map (fun i => (i.zero, i.size, i.bytes)) = some (some (.slice none 0 0), 1, 24) := by kernel_rfl

theorem funcs_size10 : (Try.prog.info? 22).map (·.size) = some 1 := by kernel_rfl

theorem OwnR.rowBlk {α : Type} {sz : Nat} {f : α → Nat → Value} {w : World} {B : Nat} {e : TypeId} {v : Value} {l : List α} (h : OwnR sz f w B e v l) {b : Nat} (hb : v.ownBlock = some b) : ∃ cs, Blk w b e cs := by
  rcases h.2 with ⟨rfl, _⟩ | ⟨g, cap, cur, rfl, _, hg, _⟩
  · cases hb
  · have e1 : g = b := by have h2 : some g = some b := hb; injection h2
    subst e1
    exact ⟨cur.toList, by unfold Blk; simpa using hg⟩
theorem FnsOwn.turn {w w' : World} {B : Nat} {l : List Fn} (h : FnsOwn w B l) {row : Option Nat} (hg : w.grownBy w' row) (hr : ∀ b, row = some b → ∃ t cs, Blk w b t cs ∧ 56 ≠ t) : FnsOwn w' B l :=
  ⟨fun x hx => (h.own x hx).far hg (by
    cases hv : (fnV x).ownBlock with
    | none => exact .inl rfl
    | some b =>
      refine .inr fun e => ?_
      obtain ⟨t, cs, hb, hne⟩ := hr b e.symm
      exact (h.own x hx).typed hb hne hv), h.ok⟩
theorem OwnR.nil_cap {α : Type} {sz : Nat} {f : α → Nat → Value} {w : World} {B n c : Nat} {e : TypeId} {A : Option Addr} {l : List α} (h : OwnR sz f w B e (.slice A n c) l) (hA : A = none) : c = 0 := by
  rcases h.2 with ⟨h2, _⟩ | ⟨g, cap, cur, h2, _⟩
  · injection h2
  · rw [hA] at h2
    injection h2 with h3
    cases h3
theorem blk_two {w : World} {g : Nat} {t t2 : TypeId} {cs cs2 : List Value} (h : Blk w g t cs) (h2 : Blk w g t2 cs2) (hne : t ≠ t2) : False := by
  unfold Blk at h h2
  rw [h] at h2
  injection h2 with h2
  injection h2 with _ h3
  exact hne h3
theorem nd_set_read {x : Nd} (h : x.kind = 2) : (ndC x).set 0 (.int .i64 1) = ndC (rdN x) := by rw [rdN_yes h]; rfl

set_option maxRecDepth 1000000 in
set_option maxHeartbeats 8000000 in
theorem walkRaceReads (pg0 : Pg) (a1 : Option Addr) (len1 cap1 : Nat) (z1 : List (Int × Bool)) (w : World) (w0 : pg0.Ok w w.heap.size) (w1 : Picks w w.heap.size a1 len1 z1) (c1 : len1 ≤ cap1 ∧ cap1 ≤ maxLen) :
    Calls Try.prog 6 #[pgA pg0, .slice a1 len1 cap1] w fun e w' => e = .returned (.bool true) ∧ Below w.heap.size w w' := by
  have HP := kp w0
  have HPi := kp w1
  have hc1 := c1.1; have hm1 := c1.2
  unfold maxLen at hm1
  obtain ⟨r, hr⟩ : ∃ r, Q.small pg0 = r := ⟨_, rfl⟩
  have HR := kp hr
  clear hr w0 w1 c1
  rw [pgA_is]
  cases r
  · go_enter Try.func6, Try.ntmps6
    go_wp2_with (first
      | ((with_reducible refine wpList_box_agg rfl 24 (.tmp 0) rfl (pgC pg0) rfl ?_); intro g1 u1 hg1 hk1 hu1; have HK1 := kp hk1; have HG1 := kp hg1; have HU1 := kp hu1; have hz1 := hu1.size; clear hg1 hk1 hu1))
    refine (race_awake u1).mono ?_
    rintro e u2 ⟨rfl, hb2⟩
    have HU2 : Kept (Below w.heap.size w u2) := kp (HU1.out.trans (hb2.mono hz1))
    have hs2 := HU2.out.size
    have HP2 := kp (HP.out.below HU2.out)
    have HK2 := kp (HK1.out.below hb2 HK1.out.lt)
    obtain ⟨hc0, hc1', hc2, hc3⟩ := pg_cells HK2.out
    clear hb2
    go_wp2_with fail
    refine (ref_small _ pg0 u2 HP2.out hs2 _ HR.out).mono ?_
    rintro e u3 ⟨rfl, hb3⟩
    have HU3 : Kept (Below w.heap.size w u3) := kp (HU2.out.trans (hb3.mono hs2))
    have hs3 := HU3.out.size
    have HP3 := kp (HP.out.below HU3.out)
    have HK3 := kp (HK2.out.below hb3 HK2.out.lt)
    clear hb3 hc0 hc1' hc2 hc3
    obtain ⟨hc0, hc1', hc2, hc3⟩ := pg_cells HK3.out
    go_wp2_with fail
    refine (race_awake u3).mono ?_
    rintro e u4 ⟨rfl, hb4⟩
    have HU4 := kp (HU3.out.trans (hb4.mono hs3))
    clear hb4
    go_wp2
    go_ret
    exact ⟨rfl, HU4.out⟩
  by_cases hbig : 300 < len1
  · go_enter Try.func6, Try.ntmps6
    go_wp2_with (first
      | ((with_reducible refine wpList_box_agg rfl 24 (.tmp 0) rfl (pgC pg0) rfl ?_); intro g1 u1 hg1 hk1 hu1; have HK1 := kp hk1; have HG1 := kp hg1; have HU1 := kp hu1; have hz1 := hu1.size; clear hg1 hk1 hu1))
    refine (race_awake u1).mono ?_
    rintro e u2 ⟨rfl, hb2⟩
    have HU2 : Kept (Below w.heap.size w u2) := kp (HU1.out.trans (hb2.mono hz1))
    have hs2 := HU2.out.size
    have HP2 := kp (HP.out.below HU2.out)
    have HK2 := kp (HK1.out.below hb2 HK1.out.lt)
    obtain ⟨hc0, hc1', hc2, hc3⟩ := pg_cells HK2.out
    clear hb2
    go_wp2_with fail
    refine (ref_small _ pg0 u2 HP2.out hs2 _ HR.out).mono ?_
    rintro e u3 ⟨rfl, hb3⟩
    have HU3 : Kept (Below w.heap.size w u3) := kp (HU2.out.trans (hb3.mono hs2))
    have hs3 := HU3.out.size
    have HP3 := kp (HP.out.below HU3.out)
    have HK3 := kp (HK2.out.below hb3 HK2.out.lt)
    clear hb3 hc0 hc1' hc2 hc3
    obtain ⟨hc0, hc1', hc2, hc3⟩ := pg_cells HK3.out
    go_wp2_with fail
    refine (race_awake u3).mono ?_
    rintro e u4 ⟨rfl, hb4⟩
    have HU4 := kp (HU3.out.trans (hb4.mono hs3))
    clear hb4
    go_wp2
    go_ret
    exact ⟨rfl, HU4.out⟩
  have HN3 := kp hbig
  go_enter Try.func6, Try.ntmps6
  go_wp2_with (first
    | ((with_reducible refine wpList_box_agg rfl 24 (.tmp 0) rfl (pgC pg0) rfl ?_); intro g1 u1 hg1 hk1 hu1; have HK1 := kp hk1; have HG1 := kp hg1; have HU1 := kp hu1; have hz1 := hu1.size; clear hg1 hk1 hu1))
  refine (race_awake u1).mono ?_
  rintro e u2 ⟨rfl, hb2⟩
  have HU2 : Kept (Below w.heap.size w u2) := kp (HU1.out.trans (hb2.mono hz1))
  have hs2 := HU2.out.size
  have HP2 := kp (HP.out.below HU2.out)
  have HK2 := kp (HK1.out.below hb2 HK1.out.lt)
  obtain ⟨hc0, hc1', hc2, hc3⟩ := pg_cells HK2.out
  clear hb2
  go_wp2_with fail
  refine (ref_small _ pg0 u2 HP2.out hs2 _ HR.out).mono ?_
  rintro e u3 ⟨rfl, hb3⟩
  have HU3 : Kept (Below w.heap.size w u3) := kp (HU2.out.trans (hb3.mono hs2))
  have hs3 := HU3.out.size
  have HP3 := kp (HP.out.below HU3.out)
  have HK3 := kp (HK2.out.below hb3 HK2.out.lt)
  clear hb3 hc0 hc1' hc2 hc3
  obtain ⟨hc0, hc1', hc2, hc3⟩ := pg_cells HK3.out
  have HSm : Kept (pg0.len ≤ 40 ∧ ∀ fn ∈ pg0.fns, fn.nodes.length ≤ 100) := kp (by
    have h := HR.out
    unfold Q.small at h
    rw [Bool.and_eq_true, decide_eq_true_eq, List.all_eq_true] at h
    exact ⟨by rw [← HP.out.row.len]; exact h.1, fun fn hfn => by have := h.2 fn hfn; simpa using this⟩)
  have hn300 : len1 ≤ 300 := by have := HN3.out; omega
  have hpc := HP.out.lc; have hpm := HP.out.cm
  unfold maxLen at hpm
  have h40 := HSm.out.1
  go_wp2_with (first
    | ((with_reducible show wpList _ _ _ (⟨some 5, _, _, _, _, _⟩ :: _) _ _); go_must (refine wpList_alloc_zero rfl 24 rfl [.int .i64 0, .int .i64 0, .int .i64 0, .slice none 0 0] (by kernel_rfl) ?_); intro gQ u4 hgQ hk4 hu4; have HKQ4 := kp hk4; have HGQ := kp hgQ; have HB4 := kp hu4; have hs34 := hu4.size; clear hk4 hu4 hgQ)
    | ((with_reducible show wpList _ _ _ (⟨none, _, _, _, _, _⟩ :: _) _ _); go_must (refine wpList_store_blk rfl 24 (.tmp 5) (.tmp 41) rfl gQ [.int .i64 pg0.g, .int .i64 pg0.l, .int .i64 pg0.s, .slice none 0 0] rfl rfl _ _ HKQ4.out pg_size rfl (by simp [Value.oneCell']) ?_); intro u5 hk5 hg5 hs5'
       have HKQ5 := kp hk5; have HB5 := kp (HB4.out.grown hg5 hs34 (fun k e => by cases e; exact HGQ.out)); clear hk5 hg5 hs5' hc0 hc1' hc2 hc3))
  have HlK := kp HK3.out.lt
  have HNeQ : Kept (g1 ≠ gQ) := kp (by have := HlK.out; have := HGQ.out; omega)
  go_loopw [6] (fun v6 wr => ∃ (f : Nat) (AF : Option Addr) (cF : Nat) (l : List Fn), f ≤ pg0.len ∧ v6 = .int .i64 f ∧ OwnR 1 fnR wr u3.heap.size 67 (.slice AF f cF) l ∧ FnsOwn wr u3.heap.size l ∧ l.map (·.nodes) = (pg0.fns.take f).map (fun x => x.nodes.map rdN) ∧ Blk wr gQ 24 [.int .i64 pg0.g, .int .i64 pg0.l, .int .i64 pg0.s, .slice AF f cF] ∧ Below u3.heap.size u3 wr) (fun v6 _ => pg0.len - (intOf v6).toNat)
  case atStart => exact ⟨0, none, 0, [], by omega, rfl, OwnR.nil _ _ _ _ _, FnsOwn.nil _ _, rfl, HKQ5.out, HB5.out⟩
  case round =>
    obtain ⟨wA, rfl⟩ : ∃ x, x = wr := ⟨_, rfl⟩
    obtain ⟨f, AF, cF, l, hf, rfl, howF, hfns, hmap, hkq, hbl⟩ := hrel
    have HOwF := kp howF; have HFns := kp hfns; have HMap := kp hmap; have HKQ := kp hkq; have HBl := kp hbl
    have hsA := hbl.size; have hlQ := hkq.lt
    have HLnF := kp howF.len_is
    have HKr := kp (HK3.out.below hbl HlK.out); have hlKr := HKr.out.lt
    have HPr := kp (HP3.out.below (hbl.mono hs3))
    obtain ⟨_, _, _, hc3⟩ := pg_cells HKr.out
    clear howF hfns hmap hkq hbl
    by_cases hlt : f < pg0.len
    · obtain ⟨ad, fn, hA, hadb, hfn, hfok, hfc⟩ := HPr.out.fn hlt
      have HE : Kept (pgC pg0 = [.int .i64 pg0.g, .int .i64 pg0.l, .int .i64 pg0.s, .slice (some ad) pg0.len pg0.cap]) := kp (by unfold pgC; rw [hA])
      have HFn := kp hfn; have HFok := kp hfok; have HFc := kp hfc
      have h100 : fn.nodes.length ≤ 100 := HSm.out.2 fn (List.mem_of_getElem? hfn)
      have HLn := kp hfok.nodes.1.len
      have hl100 : fn.len ≤ 100 := by rw [← HLn.out]; exact h100
      have hfcc := hfok.lc; have hfmm := hfok.cm
      unfold maxLen at hfmm
      rw [hA] at hc3
      have hadA : ad.block < wA.heap.size := by omega
      clear hfn hfok hfc hA
      go_wp2
      clear hc3
      go_loopw [7, 8] (fun v7 v8 W2 => ∃ (j : Nat) (Ai : Option Addr) (ci : Nat), j ≤ fn.len ∧ v8 = .int .i64 j ∧ v7 = .slice Ai j ci ∧ OwnR 4 ndV W2 wA.heap.size 56 (.slice Ai j ci) ((fn.nodes.take j).map rdN) ∧ Below wA.heap.size wA W2) (fun _ v8 _ => fn.len - (intOf v8).toNat)
      case atStart => exact ⟨0, none, 0, by omega, rfl, rfl, OwnR.nil _ _ _ _ _, Below.refl _ _⟩
      case round =>
        obtain ⟨j, Ai, ci, hj, rfl, rfl, hown, hbj⟩ := hrel
        have HOw := kp hown; have HBj := kp hbj
        have hsj := hbj.size
        have HKr2 := kp (HKr.out.below hbj hlKr)
        have hc3 := HKr2.out.cell 3
        rw [HE.out] at hc3
        simp only [List.getElem?_cons_zero, List.getElem?_cons_succ] at hc3
        have hfc := (hbj.cell (p := ad.add f) (by rw [add_block]; exact hadA)).trans HFc.out
        have HFok2 := kp (HFok.out.keep (w' := wr) fun p hp => hbj.cell (by omega))
        clear hown hbj
        by_cases hjl : j < fn.len
        · obtain ⟨ad2, x, hA2, hb2, hx, hxok, hn0, hn1, hn2, hn3⟩ := HFok2.out.nodes.get hjl
          rw [hA2] at hfc
          have HXi := kp hx
          have HTk : Kept ((fn.nodes.take (j + 1)).map rdN = (fn.nodes.take j).map rdN ++ [rdN x]) := kp (by rw [List.take_add_one, hx, List.map_append]; rfl)
          have HLt : Kept (((fn.nodes.take j).map rdN).length = j) := kp (by rw [List.length_map, List.length_take, HLn.out]; omega)
          clear hx hxok hA2
          by_cases hk2 : x.kind = 2
          · have kb : (x.kind == 2) = true := by rw [beq_iff_eq]; exact hk2
            have HSet := kp (nd_set_read hk2)
            have HRd : Kept (rdN x = ⟨1, x.arg, x.next, x.alt⟩) := kp (rdN_yes hk2)
            clear hk2
            go_wp2_with (first
              | ((with_reducible show wpList _ _ _ (⟨some 9, _, _, _, _, _⟩ :: _) _ _); go_must (refine wpList_alloc_zero rfl 56 rfl (ndC ⟨0, 0, 0, 0⟩) nd_zero ?_); intro g9 w7 hg9 hk7 hw7; have HK7 := kp hk7; have HG9 := kp hg9; have HB7 := kp hw7; have hs7 := hw7.size; clear hk7 hw7 hg9)
              | ((with_reducible show wpList _ _ _ (⟨none, _, _, _, _, _⟩ :: _) _ _); (refine wpList_store_blk rfl 56 (.tmp 9) (.tmp 66) rfl g9 (ndC x) rfl rfl _ _ HK7.out nd_size rfl (nd_ones9 x) ?_); intro w8 hk8 hg8 hs8'
                 have HK8 := kp hk8; have HB8 := kp (HB7.out.grown hg8 hs7 (fun k e => by cases e; exact HG9.out)); have hs8 := HB8.out.size
                 obtain ⟨hx0, _, _, _⟩ := nd_cells hk8
                 clear hk8 hg8 hs8' hc3 hfc hn0 hn1 hn2 hn3)
              | ((with_reducible show wpList _ _ _ (⟨none, _, _, _, _, _⟩ :: _) _ _); (refine wpList_store_cell rfl 3 (.tmp 70) (.const (.int .i64 1)) rfl g9 0 (.int .i64 1) rfl rfl rfl rfl _ _ HK8.out (by show 0 < 4; omega) size1i ?_); intro w9 hk9 hg9' hs9'
                 have HB9 := kp (HB8.out.grown hg9' hs8 (fun k e => by cases e; exact HG9.out)); have hs9 := HB9.out.size
                 rw [HSet.out, HRd.out] at hk9
                 obtain ⟨hy0, hy1, hy2, hy3⟩ := nd_cells hk9
                 have HOw9 := kp (HOw.out.below HB9.out (Nat.le_refl _))
                 clear hk9 hg9' hs9' hx0)
              | (at_builtin; go_must (refine wpList_append_rec rfl (.tmp 71) (.tmp 73) 67 rfl wA.heap.size 56 4 _ 32 Try.underlying67 node_info10 rfl (by omega) ndV ndV_one w9 (.slice Ai j ci) ((fn.nodes.take j).map rdN) ⟨1, x.arg, x.next, x.alt⟩ rfl HOw9.out _ 1 rfl rfl _ rfl (by rw [HLt.out]; unfold maxLen; omega) (by rw [HLt.out]; omega) (by omega) ?_); intro v10 w10 hown10 hgr10
                 obtain ⟨A10, c10, rfl, _⟩ := hown10.form
                 have hl10 : ((fn.nodes.take j).map rdN ++ [(⟨1, x.arg, x.next, x.alt⟩ : Nd)]).length = j + 1 := by rw [List.length_append, HLt.out]; rfl
                 rw [hl10] at hown10 hgr10 ⊢
                 rw [← HRd.out, ← HTk.out] at hown10
                 have HOw10 := kp hown10
                 have HB10 := kp ((HBj.out.trans (HB9.out.mono hsj)).grown hgr10.1 (HBj.out.trans (HB9.out.mono hsj)).size (fun k hk => (HOw9.out.block k hk).1))
                 clear hown10 hgr10 hl10))
            go_roundw
            case rel => exact ⟨j + 1, A10, c10, by omega, by go_num, rfl, HOw10.out, HB10.out⟩
            case measure => simp [intOf]; omega
          · have kb : (x.kind == 2) = false := by rw [beq_eq_false_iff_ne]; exact hk2
            have HRd : Kept (rdN x = x) := kp (rdN_no hk2)
            clear hk2
            go_wp2_with (first
              | ((with_reducible show wpList _ _ _ (⟨some 9, _, _, _, _, _⟩ :: _) _ _); go_must (refine wpList_alloc_zero rfl 56 rfl (ndC ⟨0, 0, 0, 0⟩) nd_zero ?_); intro g9 w7 hg9 hk7 hw7; have HK7 := kp hk7; have HG9 := kp hg9; have HB7 := kp hw7; have hs7 := hw7.size; clear hk7 hw7 hg9)
              | ((with_reducible show wpList _ _ _ (⟨none, _, _, _, _, _⟩ :: _) _ _); (refine wpList_store_blk rfl 56 (.tmp 9) (.tmp 66) rfl g9 (ndC x) rfl rfl _ _ HK7.out nd_size rfl (nd_ones9 x) ?_); intro w8 hk8 hg8 hs8'
                 have HB8 := kp (HB7.out.grown hg8 hs7 (fun k e => by cases e; exact HG9.out)); have hs8 := HB8.out.size
                 obtain ⟨hx0, hx1, hx2, hx3⟩ := nd_cells hk8
                 have HOw9 := kp (HOw.out.below HB8.out (Nat.le_refl _))
                 clear hk8 hg8 hs8' hc3 hfc hn0 hn1 hn2 hn3)
              | (at_builtin; go_must (refine wpList_append_rec rfl (.tmp 71) (.tmp 73) 67 rfl wA.heap.size 56 4 _ 32 Try.underlying67 node_info10 rfl (by omega) ndV ndV_one w8 (.slice Ai j ci) ((fn.nodes.take j).map rdN) x rfl HOw9.out _ 1 rfl rfl _ rfl (by rw [HLt.out]; unfold maxLen; omega) (by rw [HLt.out]; omega) (by omega) ?_); intro v10 w10 hown10 hgr10
                 obtain ⟨A10, c10, rfl, _⟩ := hown10.form
                 have hl10 : ((fn.nodes.take j).map rdN ++ [x]).length = j + 1 := by rw [List.length_append, HLt.out]; rfl
                 rw [hl10] at hown10 hgr10 ⊢
                 have hTk := HTk.out
                 rw [HRd.out] at hTk
                 rw [← hTk] at hown10
                 have HOw10 := kp hown10
                 have HB10 := kp ((HBj.out.trans (HB8.out.mono hsj)).grown hgr10.1 (HBj.out.trans (HB8.out.mono hsj)).size (fun k hk => (HOw9.out.block k hk).1))
                 clear hown10 hgr10 hl10 hTk))
            go_roundw
            case rel => exact ⟨j + 1, A10, c10, by omega, by go_num, rfl, HOw10.out, HB10.out⟩
            case measure => simp [intOf]; omega
        · have hje : fn.len ≤ j := by omega
          have HOws : Kept (OwnR 4 ndV wr u3.heap.size 56 (fnV ⟨Ai, j, ci, fn.nodes.map rdN⟩) (fn.nodes.map rdN)) := kp (by
            have h := HOw.out
            rw [List.take_of_length_le (by rw [HLn.out]; omega)] at h
            exact h.less hsA)
          have HNodes : Kept (∀ y ∈ fn.nodes.map rdN, y.Ok) := kp (fun y hy => by
            obtain ⟨x, hx, rfl⟩ := List.mem_map.1 hy
            exact rdN_ok (HFok2.out.nodes.2 x hx))
          have HFj := kp ((HFns.out.below HBj.out).snoc (x := ⟨Ai, j, ci, fn.nodes.map rdN⟩) HOws.out HNodes.out)
          have HOwj := kp (HOwF.out.below HBj.out (Nat.le_refl _))
          have HKQj := kp (HKQ.out.below HBj.out hlQ)
          have hcQ := HKQj.out.cell 3
          simp only [List.getElem?_cons_zero, List.getElem?_cons_succ] at hcQ
          have HBA := kp (HBl.out.trans (HBj.out.mono hsA)); have hsBA := HBA.out.size
          have hj100 : j ≤ 100 := by omega
          have HMapn : Kept ((l ++ [(⟨Ai, j, ci, fn.nodes.map rdN⟩ : Fn)]).map (·.nodes) = (pg0.fns.take (f + 1)).map (fun x => x.nodes.map rdN)) := kp (by rw [List.map_append, HMap.out, List.take_add_one, HFn.out, List.map_append]; rfl)
          go_wp2_with (first
            | (at_builtin; go_must (refine wpList_append_rec rfl (.tmp 76) (.tmp 78) 22 rfl u3.heap.size 67 1 _ 24 Try.underlying22 nodes_info10 rfl (by omega) fnR fnR_one wr (.slice AF f cF) l ⟨Ai, j, ci, fn.nodes.map rdN⟩ rfl HOwj.out _ 1 rfl rfl _ rfl (by unfold maxLen; rw [HLnF.out.1]; omega) (by rw [HLnF.out.1]; omega) (by omega) ?_); intro v9 w9 hown9 hgr9
               obtain ⟨A9, c9, rfl, _⟩ := hown9.form
               have hl9 : (l ++ [(⟨Ai, j, ci, fn.nodes.map rdN⟩ : Fn)]).length = f + 1 := by rw [List.length_append, HLnF.out.1]; rfl
               rw [hl9] at hown9 hgr9 ⊢
               have HOw9 := kp hown9
               have HF9 := kp (HFj.out.turn hgr9.1 (fun b hb => by obtain ⟨cs, hk⟩ := HOwj.out.rowBlk hb; exact ⟨_, cs, hk, by decide⟩))
               have HKw := kp (HKQj.out.grown hgr9.1 (fun e => by obtain ⟨cs, hk⟩ := HOwj.out.rowBlk e.symm; exact blk_two hk HKQj.out (by decide)))
               have HB9 := kp (HBA.out.grown hgr9.1 hsBA (fun k hk => (HOwj.out.block k hk).1)); have hs9 := HB9.out.size
               clear hown9 hgr9)
            | ((with_reducible show wpList _ _ _ (⟨none, _, _, _, _, _⟩ :: _) _ _); go_must (refine wpList_store_cell rfl 22 (.tmp 80) (.tmp 79) rfl gQ 3 (.slice A9 (f + 1) c9) rfl rfl rfl rfl _ _ HKw.out (by simp) funcs_size10 ?_); intro w10 hk10 hg10 hs10
               have HKQ10 : Kept (Blk w10 gQ 24 [.int .i64 pg0.g, .int .i64 pg0.l, .int .i64 pg0.s, .slice A9 (f + 1) c9]) := kp hk10
               have HOw10 := kp (HOw9.out.far hg10 (by
                 cases hv : (Value.slice A9 (f + 1) c9).ownBlock with
                 | none => exact .inl rfl
                 | some b => exact .inr fun e => HOw9.out.typed HKw.out (by decide) (hv.trans e)))
               have HF10 := kp (HF9.out.turn hg10 (fun b hb => by cases hb; exact ⟨_, _, HKw.out, by decide⟩))
               have HB10 := kp (HB9.out.grown hg10 hs9 (fun k e => by cases e; exact HGQ.out))
               clear hk10 hg10 hs10))
          go_roundw
          case rel => exact ⟨f + 1, A9, c9, _, by omega, by go_num, HOw10.out, HF10.out, HMapn.out, HKQ10.out, HB10.out⟩
          case measure => simp [intOf]; omega
    · have hfe : f = pg0.len := by omega
      obtain ⟨qp, hqp⟩ : ∃ qp : Pg, (⟨pg0.g, pg0.l, pg0.s, AF, f, cF, l⟩ : Pg) = qp := ⟨_, rfl⟩
      have HQC : Kept (pgC qp = [.int .i64 pg0.g, .int .i64 pg0.l, .int .i64 pg0.s, .slice AF f cF]) := kp (by rw [← hqp]; rfl)
      have HCopy : Kept (CopyOf pg0 qp) := kp (by rw [← hqp]; exact ⟨rfl, rfl, rfl, hfe, by rw [HMap.out, List.take_of_length_le (by rw [HP.out.row.len]; omega)]⟩)
      have HQP : Kept (qp.Ok wA wA.heap.size) := kp (by
        rw [← hqp]
        exact ⟨HP.out.g, HP.out.l, HP.out.s, recs_fns HOwF.out.recs, HFns.out.fn, HLnF.out.2.1, HLnF.out.2.2, fun h => HOwF.out.nil_cap h⟩)
      have HKQq : Kept (Blk wA gQ 24 (pgC qp)) := kp (by rw [HQC.out]; exact HKQ.out)
      have HUA := kp (HU3.out.trans (HBl.out.mono hs3)); have hsU := HUA.out.size
      have hge : pg0.len ≤ f := by omega
      obtain ⟨ca, cb, cc, hcc⟩ : ∃ a b c, Q.check qp = (a, b, c) := ⟨_, _, _, rfl⟩
      have HC := kp hcc
      clear hqp hcc hfe
      go_wp2_with (first
        | ((with_reducible show wpList _ _ _ (⟨some 82, _, _, _, _, _⟩ :: _) _ _); go_must (refine wpList_load_blk rfl 24 (.tmp 5) rfl gQ rfl _ (pgC qp) _ HKQq.out Try.underlying24 rfl pg_size ?_))
        | (go_at_call 10; fail))
      refine (law_runs qp a1 len1 cap1 z1 wA HQP.out (picks_up HPi.out HUA.out) ⟨hc1, by unfold maxLen; exact hm1⟩ hn300 ca cb cc HC.out).mono ?_
      unfold RunsPost
      rintro e u6 ⟨q, ok, rfl, hmi, h16, hno, hyes, hb6⟩
      have HMi6 := kp hmi; have H17 := kp (conf_len h16); have HU6 := kp (HUA.out.trans (hb6.mono hsU)); have hs6 := HU6.out.size; have hsA6 := hb6.size
      have HKQ6 := kp (HKQq.out.below hb6 HKQq.out.lt); have HKr6 := kp (HKr.out.below hb6 hlKr); have hlQ6 := HKQ6.out.lt; have hlr6 := HKr6.out.lt
      have HQP6 := kp (pg_more9 (HQP.out.below hb6) hsA6); have HPr6 := kp (pg_more9 (HPr.out.below (hb6.mono (by omega))) hs6)
      clear hmi h16 hb6 hc3
      by_cases hz : cc = 0
      case neg =>
        obtain rfl := hno hz
        clear hno hyes
        go_wp2_with (first
          | ((with_reducible show wpList _ _ _ (⟨some 10, _, _, _, _, _⟩ :: _) _ _); go_must (refine wpList_alloc_zero rfl 31 rfl _ conf_zero ?_); intro gC u7 hgC hk7 hu7; have HKc := kp hk7; have HGC := kp hgC; have HU7 := kp (HU6.out.trans (hu7.mono hs6)); have hs7 := HU7.out.size; clear hk7 hu7 hgC)
          | ((with_reducible show wpList _ _ _ (⟨none, _, _, _, _, _⟩ :: _) _ _); go_must (refine wpList_store_blk rfl 31 (.tmp 10) (.tmp 85) rfl gC (pcC q) rfl rfl _ _ HKc.out (by rw [H17.out]; exact conf_size) (by rw [H17.out]; rfl) (conf_ones q) ?_); intro u8 hk8 hg8 hs8'; have HU8 := kp (HU7.out.grown hg8 hs7 (fun k e => by cases e; have := HGC.out; omega)); clear hk8 hg8 hs8'))
        go_ret
        exact ⟨rfl, HU8.out⟩
      obtain ⟨rfl, hcf⟩ := hyes hz
      have HCf := kp hcf
      have HFq : Kept (Fine qp) := kp (fine_of (by rw [HC.out, hz]))
      have HCp := kp (check_copy HCopy.out HFq.out)
      have HFp := kp (fine_of HCp.out)
      have HGq : Kept (M.Good qp q.cf) := kp (by rw [hcf]; exact runTo_good HFq.out HQP.out.row.len z1 len1)
      clear hno hyes hz hcf
      go_wp2_with (first
        | ((with_reducible show wpList _ _ _ (⟨some 10, _, _, _, _, _⟩ :: _) _ _); go_must (refine wpList_alloc_zero rfl 31 rfl _ conf_zero ?_); intro gC u7 hgC hk7 hu7; have HKc := kp hk7; have HGC := kp hgC; have HB7 := kp hu7; have HMi7 := kp (HMi6.out.below hu7 (Nat.le_refl _)); have hs67 := hu7.size; clear hk7 hu7 hgC)
        | ((with_reducible show wpList _ _ _ (⟨none, _, _, _, _, _⟩ :: _) _ _); go_must (refine wpList_store_blk rfl 31 (.tmp 10) (.tmp 85) rfl gC (pcC q) rfl rfl _ _ HKc.out (by rw [H17.out]; exact conf_size) (by rw [H17.out]; rfl) (conf_ones q) ?_); intro u8 hk8 hg8 hs8'
           have HKC8 := kp hk8; have HB8 := kp (HB7.out.grown hg8 hs67 (fun k e => by cases e; exact HGC.out)); have hb := HB8.out; have hs68 := hb.size; have hlC8 := hk8.lt
           have HU8 := kp (HU6.out.trans (hb.mono hs6)); have hs8 := HU8.out.size
           have HOq8 := kp ((Mine.typed HMi7.out HKc.out hg8).ok)
           have HKQ8 := kp (HKQ6.out.below hb hlQ6); have HKr8 := kp (HKr6.out.below hb hlr6); have hlr8 := HKr8.out.lt
           have HQP8 := kp (pg_more9 (HQP6.out.below hb) hs68); have HPr8 := kp (pg_more9 (HPr6.out.below hb) hs68)
           clear hk8 hg8 hs8' hb)
        | ((with_reducible show wpList _ _ _ (⟨some 90, _, _, _, _, _⟩ :: _) _ _); go_must (refine wpList_load_blk rfl 24 (.tmp 5) rfl gQ rfl _ (pgC qp) _ HKQ8.out Try.underlying24 rfl pg_size ?_))
        | ((with_reducible show wpList _ _ _ (⟨some 91, _, _, _, _, _⟩ :: _) _ _); go_must (refine wpList_load_blk rfl 31 (.tmp 10) rfl gC rfl _ (pcC q) _ HKC8.out Try.underlying31 rfl (by rw [H17.out]; exact conf_size) ?_))
        | (go_at_call 15; fail))
      refine (race_first _ qp HFq.out q u8 HQP8.out HOq8.out HGq.out (Nat.le_refl _)).mono ?_
      unfold FirstPost
      rintro e u9 ⟨x, y, z, b, rfl, hfi, hb9⟩
      obtain rfl := copy_first HCopy.out HGq.out hfi
      have HU9 := kp (HU8.out.trans (hb9.mono hs8)); have hs9 := HU9.out.size; have hs89 := hb9.size
      have HKr9 := kp (HKr8.out.below hb9 hlr8); have hlr9 := HKr9.out.lt; have HPr9 := kp (pg_more9 (HPr8.out.below hb9) hs89)
      clear hfi hb9
      go_wp2_with (first
        | ((with_reducible show wpList _ _ _ (⟨some 98, _, _, _, _, _⟩ :: _) _ _); go_must (refine wpList_load_blk rfl 24 (.tmp 2) rfl g1 rfl _ (pgC pg0) _ HKr9.out Try.underlying24 rfl pg_size ?_))
        | (go_at_call 10; fail))
      refine (law_runs pg0 a1 len1 cap1 z1 u9 HPr9.out (picks_up HPi.out HU9.out) ⟨hc1, by unfold maxLen; exact hm1⟩ hn300 0 0 0 HCp.out).mono ?_
      unfold RunsPost
      rintro e u10 ⟨d, ok, rfl, hmi, h16, _, hyes, hb10⟩
      obtain ⟨rfl, hcf⟩ := hyes rfl
      have HMi10 := kp hmi; have HD17 := kp (conf_len h16); have HU10 := kp (HU9.out.trans (hb10.mono hs9)); have hs10 := HU10.out.size; have hs910 := hb10.size
      have HGd : Kept (M.Good pg0 d.cf) := kp (by rw [hcf]; exact runTo_good HFp.out HP.out.row.len z1 len1)
      have HKr10 := kp (HKr9.out.below hb10 hlr9); have hlr10 := HKr10.out.lt; have HPr10 := kp (pg_more9 (HPr9.out.below hb10) hs910)
      clear hmi h16 hyes hb10 hcf
      go_wp2_with (first
        | ((with_reducible show wpList _ _ _ (⟨some 16, _, _, _, _, _⟩ :: _) _ _); go_must (refine wpList_alloc_zero rfl 31 rfl _ conf_zero ?_); intro gD u11 hgD hk11 hu11; have HKd := kp hk11; have HGD := kp hgD; have HB11 := kp hu11; have HMi11 := kp (HMi10.out.below hu11 (Nat.le_refl _)); have hs1011 := hu11.size; clear hk11 hu11 hgD)
        | ((with_reducible show wpList _ _ _ (⟨none, _, _, _, _, _⟩ :: _) _ _); go_must (refine wpList_store_blk rfl 31 (.tmp 16) (.tmp 101) rfl gD (pcC d) rfl rfl _ _ HKd.out (by rw [HD17.out]; exact conf_size) (by rw [HD17.out]; rfl) (conf_ones d) ?_); intro u12 hk12 hg12 hs12'
           have HKD := kp hk12; have HB12 := kp (HB11.out.grown hg12 hs1011 (fun k e => by cases e; exact HGD.out)); have hb := HB12.out; have hs1012 := hb.size; have hlD := hk12.lt
           have HU12 := kp (HU10.out.trans (hb.mono hs10)); have hs12 := HU12.out.size
           have HOd := kp ((Mine.typed HMi11.out HKd.out hg12).ok)
           have HKr12 := kp (HKr10.out.below hb hlr10); have HPr12 := kp (pg_more9 (HPr10.out.below hb) hs1012)
           clear hk12 hg12 hs12' hb)
        | ((with_reducible show wpList _ _ _ (⟨some 104, _, _, _, _, _⟩ :: _) _ _); go_must (refine wpList_load_blk rfl 24 (.tmp 2) rfl g1 rfl _ (pgC pg0) _ HKr12.out Try.underlying24 rfl pg_size ?_))
        | ((with_reducible show wpList _ _ _ (⟨some 105, _, _, _, _, _⟩ :: _) _ _); go_must (refine wpList_load_blk rfl 31 (.tmp 16) rfl gD rfl _ (pcC d) _ HKD.out Try.underlying31 rfl (by rw [HD17.out]; exact conf_size) ?_))
        | (go_at_call 15; fail))
      refine (race_first _ pg0 HFp.out d u12 HPr12.out HOd.out HGd.out (Nat.le_refl _)).mono ?_
      unfold FirstPost
      rintro e u13 ⟨x', y', z', b, rfl, hfi, hb13⟩
      have HU13 := kp (HU12.out.trans (hb13.mono hs12)); have HKD13 := kp (HKD.out.below hb13 hlD)
      have hcD := conf_cell HKD13.out
      have HOne : Kept (b = true → 1 < d.len) := kp (fun hb => by
        rcases first_cases hfi with ⟨h1, _⟩ | ⟨_, i, j, _, _, _, _, hp⟩
        · rw [hb] at h1; cases h1
        · have := M.pair_two hp
          rw [HOd.out.len] at this
          exact this)
      have hdc := HOd.out.lc; have hdm := HOd.out.cm
      unfold maxLen at hdm
      clear hfi hb13
      cases b with
      | false =>
        go_wp2
        go_ret
        exact ⟨rfl, HU13.out⟩
      | true =>
        have h1 := HOne.out rfl
        go_wp2
        go_ret
        exact ⟨ret_bool (decide_eq_true (by omega)), HU13.out⟩
end Go.Proofs.Yticifjmkocgipaa
