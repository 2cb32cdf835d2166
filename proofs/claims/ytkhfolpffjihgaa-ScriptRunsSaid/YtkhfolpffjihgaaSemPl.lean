/- The laws' Plain: a config as the document has it. -/
import Derived.Test.YtkhfolpffjihgaaSemR5
import Derived.Test.YtkhfolpffjihgaaPk27
namespace Go.Proofs.Ytkhfolpffjihgaa
open Go.RowKit
theorem frame_zero9 : (Try.prog.info? 90).map (·.zero) = some (some (.agg [Value.int .i64 0, .int .i64 0].toArray)) := by kernel_rfl
theorem frame_size9 : (Try.prog.info? 90).map (·.size) = some 2 := by kernel_rfl
theorem add_at9 (b o j : Nat) : (⟨b, o, none⟩ : Addr).add j = ⟨b, o + j, none⟩ := by
  unfold Addr.add
  by_cases hj : j = 0 <;> simp [hj]
theorem plain_cf {A A2 : Option Addr} {cap cap2 n : Nat} {svs : List Sv} {sls : List (List Nat)} {q : Pc} (h : svs.map (·.stack) = q.tvs.map (·.sv.stack)) (h2 : sls = q.tvs.map (·.slots)) : (⟨A, cap, svs, A2, cap2, sls, n, q.ow⟩ : Rc).cf = q.cf := by
  subst h2
  unfold Rc.cf Pc.cf
  congr 1
  apply List.ext_getElem?
  intro k
  have hk := congrArg (·[k]?) h
  simp only [List.getElem?_map] at hk
  rw [List.getElem?_zipWith, List.getElem?_map, List.getElem?_map]
  cases h1 : q.tvs[k]? with
  | none => rw [h1] at hk; cases h3 : svs[k]? with
    | none => rfl
    | some y => rfl
  | some x => rw [h1] at hk; cases h3 : svs[k]? with
    | none => rw [h3] at hk; cases hk
    | some y =>
      rw [h3] at hk
      simp only [Option.map_some, Option.some.injEq] at hk
      show some _ = some _
      rw [hk]; rfl
set_option maxRecDepth 100000 in
set_option maxHeartbeats 8000000 in
theorem law_plain (q : Pc) (w : World) (hq : q.Ok w w.heap.size) (h8 : q.len ≤ 8) (h16 : q.ow.length = 16) (hst : ∀ x ∈ q.tvs, x.sv.len ≤ 1000) (hsl : ∀ x ∈ q.tvs, x.slots.length = 8) :
    Calls Try.prog 20 #[pcA q] w fun e w' => ∃ q', e = .returned (rcA q') ∧ RMine w' w.heap.size q' ∧ q'.cf = q.cf ∧ q'.len = q.len ∧ q'.ow = q.ow ∧ (∀ l ∈ q'.sls, l.length = 8) ∧ Below w.heap.size w w' := by
  have HQ := kp hq
  have HQ17 := kp (jG h16)
  have HStk := kp hst; have HSl := kp hsl; have H16 := kp h16
  obtain ⟨n, hn⟩ : ∃ n, q.len = n := ⟨_, rfl⟩
  have HN := kp hn
  have hqc := hq.lc; have hqm := hq.cm
  unfold maxLen at hqm
  rw [hn] at h8 hqc
  have HE0 : Kept (pcC q = .slice q.A n q.cap :: q.ow.map natV) := kp (by unfold pcC; rw [hn])
  have HBo := kp (vI q.ow h16)
  clear hq hst hsl hn h16
  rw [lC]
  go_enter Try.func20, Try.ntmps20
  go_wp2_with (first
    | ((with_reducible refine j2 rfl 43 (.tmp 0) rfl (pcC q) rfl ?_); intro g1 w1 hg1 hk1 hw1; have HK1 := kp hk1; have HW1 := kp hw1; have hs1 := hw1.size; have hl1 := hk1.lt; clear hk1 hw1)
    | ((with_reducible show Sl 2); go_must (refine j3 rfl 59 rfl _ jV ?_); intro gR w2 hgR hk2 hw2
       have HKR2 := kp hk2; have HK12 := kp (HK1.out.below hw2 hl1); have HW2 := kp (HW1.out.trans (hw2.mono hs1)); have hs2 := HW2.out.size; have hl12 := HK12.out.lt; have hlR2 := hk2.lt
       have HR1 : Kept (w2.rangeAt g1 1 (q.ow.map natV)) := kp (by have h := HK12.out.range 1 16; unfold pcC at h; rw [List.drop_succ_cons, List.drop_zero, List.take_of_length_le (by rw [List.length_map, H16.out]; exact Nat.le_refl _)] at h; exact h)
       clear hk2 hw2)
    | ((with_reducible show Sl 9); go_must (refine wpList_load_mid rfl 41 (.tmp 8) rfl g1 1 rfl (q.ow.map natV) _ HR1.out Try.underlying41 rfl (by rw [List.length_map, H16.out]; exact lR) ?_))
    | ((with_reducible show Sl 10); go_must (refine qK rfl 59 2 (.tmp 9) rfl (.agg (q.ow.map natV).toArray) rfl (Value.slice none 0 0 :: .slice none 0 0 :: q.ow.map natV) HBo.out ?_))
    | ((with_reducible show Sl 3); go_must (refine j3 rfl 59 rfl _ jV ?_); intro gO w3 hgO hk3 hw3; have HKO := kp hk3; have HW3 := kp hw3; have hs3 := hw3.size; have HNeO := kp hgO; clear hk3 hw3)
    | ((with_reducible show Sn); go_must (refine j4 rfl 59 (.tmp 3) (.tmp 10) rfl gO (Value.slice none 0 0 :: .slice none 0 0 :: q.ow.map natV) rfl rfl _ _ HKO.out (by rw [zU H16.out]; exact j5) (by rw [zU H16.out]; rfl) (rown_ones _ _ _ _ _ _ _) ?_); intro w4 hk4 hg4 hs4
       have HKO4 := kp hk4; have HW4 := kp (HW3.out.grown hg4 hs3 (fun k e => by cases e; exact HNeO.out)); have hcO := hk4.cell 0; have hsw4 := HW4.out.size; clear hk4 hg4 hs4))
  have HRB0 : Kept (RB w4 w2.heap.size gO gR none 0 0 [] none 0 0 [] q.ow) := kp ⟨HKO4.out, OwnR.nil _ _ _ _ _, OwnR.nil _ _ _ _ _, Fam.nil _ _ _ _, (fun _ h => by cases h), (fun _ h => by cases h), ⟨HNeO.out, by omega⟩⟩
  have hc1 := (HK12.out.below HW4.out hl12).cell 0
  rw [HE0.out, List.getElem?_cons_zero] at hc1
  go_loopw [4] (fun v4 wr => ∃ (i : Nat) (A : Option Addr) (cap : Nat) (svs : List Sv) (A2 : Option Addr) (cap2 : Nat) (sls : List (List Nat)), i ≤ n ∧ v4 = .int .i64 i ∧ RB wr w2.heap.size gO gR A i cap svs A2 i cap2 sls q.ow ∧ svs.map (·.stack) = (q.tvs.take i).map (·.sv.stack) ∧ sls = (q.tvs.take i).map (·.slots) ∧ Below w2.heap.size w2 wr) (fun v4 _ => n - (intOf v4).toNat)
  case atStart => exact ⟨0, none, 0, [], none, 0, [], by omega, rfl, HRB0.out, rfl, rfl, HW4.out⟩
  case round =>
    obtain ⟨wA, rfl⟩ : ∃ x, x = wr := ⟨_, rfl⟩
    obtain ⟨i, A, cap, svs, A2, cap2, sls, hi, rfl, hrb, hsv, hsl, hbl⟩ := hrel
    have HRB := kp hrb; have HSt := kp hsv; have HSls := kp hsl; have HB := kp hbl
    have hBs := hbl.size
    have HK1r := kp (HK12.out.below hbl hl12)
    have hc1r := HK1r.out.cell 0
    rw [HE0.out, List.getElem?_cons_zero] at hc1r
    clear hrb hsv hsl hbl hc1
    by_cases hlt : i < n
    · obtain ⟨ad, x, hA0, hadb, hx, hxok, _, hxl, hct, hcs⟩ := HQ.out.thread (show i < q.len by rw [HN.out]; exact hlt)
      have hx1000 := HStk.out x (List.mem_of_getElem? hx)
      have HSl8 := kp (HSl.out x (List.mem_of_getElem? hx))
      have HXi := kp hx
      have HX : Kept (x.sv.Ok w2 w2.heap.size) := kp ((hxok.keep fun _ hp => HW2.out.cell hp).more hs2)
      have HCt : Kept (w2.cell? (ad.add (i * 9)) = some (.slice x.sv.A x.sv.len x.sv.cap)) := kp ((HW2.out.cell (by rw [j8]; exact hadb)).trans hct)
      have HCs : Kept (∀ j, j < 8 → w2.cell? ⟨(ad.add (i * 9)).block, (ad.add (i * 9)).off + (j + 1), none⟩ = some (.int .i64 (x.slots.getD j 0 : Int))) := kp (fun j hj => by
        rcases hcs j with h | h
        · exact (HW2.out.cell (by rw [j8]; exact hadb)).trans h
        · omega)
      have HE : Kept (pcC q = .slice (some ad) n q.cap :: q.ow.map natV) := kp (by rw [HE0.out, hA0])
      have hadw : ad.block < w2.heap.size := by omega
      have hg1 := HK1r.out.lt; have hgO := HRB.out.conf.lt
      have HLn := kp HRB.out.len
      have hxc := HX.out.lc; have hxm := HX.out.cm
      unfold maxLen at hxm
      have HXl := kp hxl
      rw [hA0] at hc1r
      clear hx hxok hxl hct hcs hA0
      go_wp2
      clear hc1r
      go_loopw [5, 6] (fun v5 v6 W2 => ∃ (j : Nat) (Ai : Option Addr) (ci : Nat), j ≤ x.sv.len ∧ v6 = .int .i64 j ∧ v5 = .slice Ai j ci ∧ OwnR 2 frV W2 w2.heap.size 86 (.slice Ai j ci) (x.sv.stack.take j) ∧ (∀ b, (Value.slice Ai j ci).ownBlock = some b → wA.heap.size ≤ b) ∧ Below wA.heap.size wA W2) (fun _ v6 _ => x.sv.len - (intOf v6).toNat)
      case atStart => exact ⟨0, none, 0, by omega, rfl, rfl, OwnR.nil _ _ _ _ _, (fun _ h => by cases h), Below.refl _ _⟩
      case round =>
        obtain ⟨j, Ai, ci, hj, rfl, rfl, hown, hbk, hbj⟩ := hrel
        have HOw := kp hown; have HBk := kp hbk; have HBj := kp hbj
        have hsj := hbj.size
        have hc1r := (HK1r.out.below hbj hg1).cell 0
        rw [HE.out, List.getElem?_cons_zero] at hc1r
        have HBw := kp (HB.out.trans (hbj.mono hBs)); have hsw := HBw.out.size
        have hct := (HBw.out.cell (by rw [j8]; exact hadw)).trans HCt.out
        clear hown hbk hbj
        by_cases hjl : j < x.sv.len
        · obtain ⟨ax, f, e1, hax, hfx, k0, hk⟩ := HX.out.row.field hjl
          have hE1 : x.sv.A = some ax := e1
          have hf0 := (HBw.out.cell (p := ax.add (j * 2)) (by rw [j8]; omega)).trans (k0 (by omega))
          have hf1 := (HBw.out.cell (p := ⟨(ax.add (j * 2)).block, (ax.add (j * 2)).off + 1, none⟩) (by rw [j8]; omega)).trans (hk 1 (by omega) (by omega))
          obtain ⟨a1, a2⟩ := f
          have hf0' : wr.cell? (ax.add (j * 2)) = some (.int .i64 (a1 : Int)) := hf0
          have hf1' : wr.cell? ⟨(ax.add (j * 2)).block, (ax.add (j * 2)).off + 1, none⟩ = some (.int .i64 (a2 : Int)) := hf1
          have HFx := kp hfx
          rw [hE1] at hct
          clear hf0 hf1 k0 hk e1 hE1 hfx
          have HWr : Kept (wr.heap.size ≤ wr.heap.size) := kp (Nat.le_refl _)
          go_wp2_with (first
            | ((with_reducible show Sl 7); go_must (refine j3 rfl 90 rfl [.int .i64 0, .int .i64 0] frame_zero9 ?_); intro g7 w7 hg7 hk7 hw7; have HK7 := kp hk7; have HG7 := kp hg7; have HB7 := kp hw7; have hs7 := hw7.size; clear hk7 hw7 hg7)
            | ((with_reducible show Sn); go_must (refine j4 rfl 90 (.tmp 7) (.tmp 37) rfl g7 [.int .i64 (a1 : Int), .int .i64 (a2 : Int)] rfl rfl _ _ HK7.out frame_size9 rfl (by simp [Value.oneCell']) ?_); intro w8 hk8 hg8 hs8'
               have hd0 := hk8.cell 0; have hd1 := hk8.cell 1
               simp only [List.getElem?_cons_zero, List.getElem?_cons_succ] at hd0 hd1
               have HB8 := kp (HB7.out.grown hg8 hs7 (fun k e => by cases e; exact HG7.out)); have hs8 := HB8.out.size
               have HOw8 := kp (HOw.out.below HB8.out (Nat.le_refl _))
               clear hk8 hg8 hs8')
            | (at_builtin; go_must (refine lF rfl (.tmp 38) (.tmp 44) 84 rfl w2.heap.size 86 2 _ 16 Try.underlying84 qJ rfl (by omega) frV x9 w8 (.slice Ai j ci) (x.sv.stack.take j) (a1, a2) rfl HOw8.out _ 1 rfl rfl _ rfl (by unfold maxLen; rw [List.length_take]; omega) (by rw [List.length_take]; omega) (by omega) ?_); intro v9 w9 hown9 hgr9
               obtain ⟨A9, c9, rfl, _⟩ := hown9.form
               have hl9 : (x.sv.stack.take j ++ [(a1, a2)]).length = j + 1 := by rw [List.length_append, List.length_take, HXl.out]; simp; omega
               have ht9 : x.sv.stack.take j ++ [(a1, a2)] = x.sv.stack.take (j + 1) := by rw [List.take_add_one, HFx.out]; rfl
               rw [hl9] at hown9 hgr9 ⊢
               rw [ht9] at hown9
               have HOw9 := kp hown9; have HGr9 := kp hgr9
               have HBk9 := kp (fun b (hb : (Value.slice A9 (j + 1) c9).ownBlock = some b) => by
                 rcases hgr9.2 with h | h
                 · exact HBk.out b (by rw [← h]; exact hb)
                 · have := h b hb; omega)
               have HBj9 := kp ((HBj.out.trans (HB8.out.mono hsj)).grown hgr9.1 (HBj.out.trans (HB8.out.mono hsj)).size (fun k hk => HBk.out k hk))
               clear hown9 hgr9 hl9 ht9))
          go_roundw
          case rel => exact ⟨j + 1, A9, c9, by omega, by go_num, rfl, HOw9.out, HBk9.out, HBj9.out⟩
          case measure => simp [intOf]; omega
        · have hje : x.sv.len ≤ j := by omega
          have HOws : Kept (OwnR 2 frV wr w2.heap.size 86 (.slice Ai j ci) x.sv.stack) := kp (by have h := HOw.out; rwa [List.take_of_length_le (by rw [HXl.out]; omega)] at h)
          have HRBj := kp (HRB.out.below HBj.out (Nat.le_refl _))
          have hcO := HRBj.out.conf.cell 0
          rw [List.getElem?_cons_zero] at hcO
          have hj8 : j ≤ 1000 := by omega
          have hgOj := HRBj.out.conf.lt
          go_wp2_with (first
            | (at_builtin; go_must (refine lF rfl (.tmp 47) (.tmp 49) 56 rfl w2.heap.size 84 1 _ 24 Try.underlying56 x8 rfl (by omega) svR svR_one wr (.slice A i cap) svs ⟨Ai, j, ci, x.sv.stack⟩ rfl HRBj.out.row _ 1 rfl rfl _ rfl (by unfold maxLen; rw [HLn.out.1]; omega) (by rw [HLn.out.1]; omega) (by omega) ?_); intro v9 w9 hown9 hgr9
               obtain ⟨A9, c9, rfl, _⟩ := hown9.form
               have hl9 : (svs ++ [(⟨Ai, j, ci, x.sv.stack⟩ : Sv)]).length = i + 1 := by simp [HLn.out.1]
               rw [hl9] at hown9 hgr9 ⊢
               have HOw9 := kp hown9; have HGr9 := kp hgr9; have hs9 := hgr9.1.size
               have HKw := kp (show Blk w9 gO 59 (.slice A i cap :: .slice A2 i cap2 :: q.ow.map natV) by
                 have hk := HRBj.out.conf
                 unfold Blk at hk ⊢
                 rw [hgr9.1.block gO hgOj (fun e => (HRBj.out.ne gO e.symm).1 rfl)]
                 exact hk)
               obtain ⟨gN, _, hAN, _⟩ := hown9.blk (by omega)
               subst hAN
               have HOwN := kp hown9
               have HB9 := kp ((HB.out.trans (HBj.out.mono hBs)).grown hgr9.1 (HB.out.trans (HBj.out.mono hBs)).size (fun k hk => (HRB.out.row.block k hk).1))
               have HV : Kept ((Value.slice A i cap).ownBlock = some gN ∨ wA.heap.size ≤ gN) := kp (by
                 rcases hgr9.2 with h | h
                 · exact .inl (by rw [← h]; rfl)
                 · exact .inr (by have := h gN rfl; have := HBj.out.size; omega))
               have HFar : Kept ((Value.slice Ai j ci).ownBlock = none ∨ (Value.slice Ai j ci).ownBlock ≠ (Value.slice A i cap).ownBlock) := kp (by
                 cases hb : (Value.slice Ai j ci).ownBlock with
                 | none => exact .inl rfl
                 | some b => exact .inr fun e => by have h1 := HBk.out b hb; have h2 := (HRB.out.row.block b e.symm).2; omega)
               have HSt9 : Kept (∀ b, (svV ⟨Ai, j, ci, x.sv.stack⟩).ownBlock = some b → wA.heap.size ≤ b ∧ b ≠ gN) := kp (fun b hb => by
                 have h1 := HBk.out b hb
                 refine ⟨h1, fun e => ?_⟩
                 subst e
                 rcases hgr9.2 with h | h
                 · have h2 := (HRB.out.row.block b (by rw [← h]; rfl)).2; omega
                 · have h2 := h b rfl
                   have h3 := (HOws.out.block b hb).2
                   omega)
               clear hown9 hgr9)
            | ((with_reducible show Sn); go_must (refine j7 rfl 56 (.tmp 51) (.tmp 50) rfl gO 0 (.slice (some ⟨gN, 0, none⟩) (i + 1) c9) rfl rfl rfl rfl _ _ HKw.out (by simp) yY ?_); intro w10 hk10 hg10 hs10
               have HFin := kp (HRB.out.row_push (l2 (jM HBj.out _) HGr9.out.1) HOwN.out HV.out (HOws.out.far HGr9.out.1 HFar.out) HSt9.out hk10 hg10 (by omega))
               have HB10 := kp (HB9.out.grown hg10 HB9.out.size (fun k e => by cases e; exact HNeO.out))
               clear hk10 hg10 hs10))
          obtain ⟨A5, cap5, svs5, h5, hst5⟩ : StkDone w10 w2.heap.size gO gR (i + 1) (svs.map (·.stack) ++ [x.sv.stack]) A2 i cap2 sls q.ow := ⟨_, _, _, HFin.out, by rw [List.map_append]; rfl⟩
          have HRB5 := kp h5; have HSt5 := kp hst5
          have HBe := kp HB10.out
          have HK15 := kp (HK12.out.below HBe.out hl12)
          obtain ⟨sl, hsl⟩ : ∃ sl, x.slots = sl := ⟨_, rfl⟩
          have HSlE := kp hsl
          have HSl8 : Kept (sl.length = 8) := kp (by rw [← HSlE.out]; exact HSl8.out)
          clear h5 hst5 hsl
          simp only [y9]
          go_wp2
          have HCs5 : Kept (∀ W, Below w10.heap.size w10 W → ∀ j v, (sl.map natV)[j]? = some v → W.cell? ((⟨(ad.add (i * 9)).block, (ad.add (i * 9)).off + 1, none⟩ : Addr).add j) = some v) := kp (fun W hW j v hj => by
            have h8 := HSl8.out
            have hj8 : j < 8 := by have := (List.getElem?_eq_some_iff.1 hj).1; rw [List.length_map] at this; omega
            have hv : v = .int .i64 ((sl.getD j 0 : Nat) : Int) := by
              rw [List.getElem?_map, List.getElem?_eq_getElem (by omega)] at hj
              rw [List.getD_eq_getElem?_getD, List.getElem?_eq_getElem (by omega)]
              exact (Option.some.inj hj).symm
            have h1 := ((HBe.out.trans (hW.mono HBe.out.size)).cell (p := ⟨(ad.add (i * 9)).block, (ad.add (i * 9)).off + (j + 1), none⟩) (by rw [j8]; exact hadw)).trans (HCs.out j hj8)
            rw [hv, ← HSlE.out, add_at9, show (ad.add (i * 9)).off + 1 + j = (ad.add (i * 9)).off + (j + 1) by omega]
            exact h1)
          have hgO5 := HRB5.out.conf.lt; have hg15 := HK15.out.lt
          have hBs5 := HBe.out.size
          rcases HRB5.out.slr.room_or with ⟨gL, hL, hroom2⟩ | hfull2
          · subst hL
            have hLO : gL ≠ gO := (HRB5.out.ne2 gL rfl).1
            have hLb := HRB5.out.slr.block gL rfl
            have hgO2 := HNeO.out
            apply lU (fun k => k = gL ∨ k = gO) [9, 11] [0, 1, 2, 3, 4, 5, 6, 7, 8] (phs ([fun W => Below w10.heap.size w10 W, fun W => SlIn w10 W w2.heap.size gL i cap2 (sls ++ [sl]), fun W => SlDone W w2.heap.size gO gR A5 (i + 1) cap5 svs5 (sls ++ [sl]) q.ow] : List (World → Prop))) (.is _ :: .is _ :: .is _ :: .is _ :: .is _ :: .is _ :: .is _ :: .is (.agg (sl.map natV).toArray) :: GFact.elem _ 83 (sl.map natV) w10.heap.size :: .is _ :: .is _ :: .any _ :: [])
              [[], [(0, 52)], [], [(2, 54)], [], [(3, 55), (4, 56)], [(5, 57)], [(6, 58)], [(7, 59)], [(1, 53), (8, 60)], [], [(10, 62), (9, 61)]]
              [(0, 52), (1, 53), (2, 54), (3, 55), (4, 56), (5, 57), (6, 58), (7, 59), (8, 60), (9, 61), (10, 62)] (by kernel_rfl) (by kernel_rfl) (by kernel_rfl) (by kernel_rfl) (by decide)
            case h0 => exact (⟨rfl, rfl, rfl, Nat.le_refl _, fun _ _ => rfl⟩ : Below w10.heap.size w10 w10.drew)
            case hob =>
              refine j9 rfl rfl ?o0 (j9 rfl rfl ?o1 (j9 rfl rfl ?o2 (j9 rfl rfl ?o3 (j9 rfl rfl ?o4 (j9 rfl rfl ?o5 (j9 rfl rfl ?o6 (j9 rfl rfl ?o7 (j9 rfl rfl ?o8 (lL 0 rfl rfl ?o9 (lA rfl rfl ?o10 (lL 1 rfl rfl ?o11 (xI))))))))))))
              case o0 => intro W hO hJ; change wpList _ _ _ _ _ _; go_wp2; exact jA rfl rfl rfl hJ
              case o1 =>
                intro W hO hJ; rintro _ rfl; change wpList _ _ _ _ _ _
                have hb : Below w10.heap.size w10 W := hJ
                have hc := (HRB5.out.conf.below hb hgO5).cell 1
                simp only [List.getElem?_cons_zero, List.getElem?_cons_succ] at hc
                clear hb
                go_wp2; exact jA rfl rfl rfl hJ
              case o2 => intro W hO hJ; change wpList _ _ _ _ _ _; go_wp2; exact jA rfl rfl rfl hJ
              case o3 =>
                intro W hO hJ; rintro _ rfl; change wpList _ _ _ _ _ _
                have hb : Below w10.heap.size w10 W := hJ
                have hc := (HK15.out.below hb hg15).cell 0
                rw [HE.out, List.getElem?_cons_zero] at hc
                clear hb
                go_wp2; exact jA rfl rfl rfl hJ
              case o4 => intro W hO hJ; change wpList _ _ _ _ _ _; go_wp2; exact jA rfl rfl rfl hJ
              case o5 => intro W hO hJ; rintro _ rfl; rintro _ rfl; change wpList _ _ _ _ _ _; go_wp2; exact jA rfl rfl rfl hJ
              case o6 => intro W hO hJ; rintro _ rfl; change wpList _ _ _ _ _ _; go_wp2; exact jA rfl rfl rfl hJ
              case o7 =>
                intro W hO hJ; rintro _ rfl; change wpList _ _ _ _ _ _
                have hb : Below w10.heap.size w10 W := hJ
                have HCs := kp (HCs5.out W hb)
                clear hb
                go_wp2_with ((with_reducible show Sl 59); go_must (refine jT rfl 83 (.tmp 58) rfl ⟨(ad.add (i * 9)).block, (ad.add (i * 9)).off + 1, none⟩ rfl (sl.map natV) _ HCs.out Try.underlying83 rfl (by rw [List.length_map, HSl8.out]; exact l4) ?_))
                exact jA rfl rfl rfl hJ
              case o8 =>
                intro W hO hJ; rintro _ rfl; change wpList _ _ _ _ _ _
                have hb : Below w10.heap.size w10 W := hJ
                have HBw := kp hb
                have hbs := hb.size
                clear hJ hb hO
                go_wp2_with ((with_reducible show Sl 60); go_must (refine jF rfl 57 83 (.tmp 59) rfl 8 Try.underlying57 qI (by omega) (by omega) _ (sl.map natV) rfl rfl (by rw [List.length_map]; exact HSl8.out) ?_); intro g6 w6 hg6 hk6 hb6; have HK6 := kp hk6; have HB6 := kp hb6; clear hk6 hb6)
                exact l9 rfl rfl rfl (Only.of_below HB6.out) (HBw.out.trans (HB6.out.mono hbs)) ⟨g6, rfl, HK6.out, by omega, by omega⟩
              case o9 =>
                intro W hO hJ; rintro _ rfl; rintro _ ⟨gn, rfl, hbk, hng, hgk⟩; change wpList _ _ _ _ _ _
                have hb : Below w10.heap.size w10 W := hJ
                have HBw := kp hb
                have HBk : Kept (Blk W gn 83 ((List.range 8).map (slV sl))) := kp (by rw [slC HSl8.out]; exact hbk)
                have HOw := kp (HRB5.out.below hb (Nat.le_refl _)).slr
                clear hJ hO hb hbk
                go_wp2_with (at_builtin; go_must (refine jX rfl (.tmp 53) (.tmp 60) 57 rfl w2.heap.size 83 8 _ 64 Try.underlying57 qF rfl (by omega) slV y4 gL cap2 i sls HLn.out.2 sl rfl HOw.out hroom2 gn 1 rfl HBk.out (by omega) ?_); intro w6 hown6 hgr6)
                exact l9 rfl rfl rfl (Only.of_grown hgr6 (.inl rfl)) ⟨l2 (jM HBw.out _) hgr6, hown6⟩ rfl
              case o10 => intro p W hO hJ; change wpList _ _ _ _ _ _; go_wp2; exact jA rfl rfl rfl hJ
              case o11 =>
                intro W hO hJ; rintro _ rfl; rintro _ rfl; change wpList _ _ _ _ _ _
                have hJ1 : SlIn w10 W w2.heap.size gL i cap2 (sls ++ [sl]) := hJ
                obtain ⟨hg0, hrow0⟩ := hJ1
                have HKw := kp (HRB5.out.conf.grown hg0 (fun e => hLO (by cases e; rfl)))
                have HG0 := kp hg0; have HRow0 := kp hrow0
                clear hJ hO hg0 hrow0
                go_wp2_with ((with_reducible show Sn); go_must (refine j7 rfl 57 (.tmp 62) (.tmp 61) rfl gO 1 (.slice (some ⟨gL, 0, none⟩) (i + 1) cap2) rfl rfl rfl rfl _ _ HKw.out (by simp) qR ?_); intro w7 hk7 hg7 hs7; have HFin := kp (HRB5.out.slr_push HG0.out HRow0.out (.inl rfl) hk7 hg7 (by omega)); have HOn := kp (Only.of_grown (G := fun k => k = gL ∨ k = gO) hg7 (.inr rfl)); clear hk7 hg7 hs7)
                exact qU rfl HOn.out ⟨_, _, HFin.out⟩
            case hend =>
              intro W hO hJ; rintro _ rfl; rintro _ rfl; rintro _ rfl; rintro _ rfl; rintro _ rfl; rintro _ rfl; rintro _ rfl; rintro _ rfl; rintro _ ⟨gn, rfl, hbk, hng, hgk⟩; rintro _ rfl; rintro _ rfl
              simp only [ggiven, jI, List.set]
              have hJ2 : SlDone W w2.heap.size gO gR A5 (i + 1) cap5 svs5 (sls ++ [sl]) q.ow := hJ
              obtain ⟨A6, cap6, h6⟩ := hJ2
              have HRB6 := kp h6
              have HB6 := kp (HBe.out.trans (hO.below (B := w2.heap.size) HBe.out.size (fun k hk => by have := HNeO.out; rcases hk with rfl | rfl <;> omega)))
              clear hJ hO hbk h6
              go_wp2
              go_roundw
              case rel => exact ⟨i + 1, _, _, _, _, _, _, by omega, by go_num, HRB6.out, by rw [HSt5.out, HSt.out, List.take_add_one, HXi.out, List.map_append]; rfl, by rw [HSls.out, List.take_add_one, HXi.out, List.map_append]; show _ ++ _ = _ ++ [x.slots]; rw [HSlE.out], HB6.out⟩
              case measure => simp [intOf]; omega
          · have HFull2 := kp hfull2
            clear hfull2
            apply jD 11 (.is _ :: .is _ :: .is _ :: .is _ :: .is _ :: .is _ :: .is _ :: .is (.agg (sl.map natV).toArray) :: Fact.elem 83 (sl.map natV) :: Fact.ownR 8 slV w2.heap.size 83 w10.heap.size (i + 1) (sls ++ [sl]) :: .is _ :: [])
              [[], [(0, 52)], [], [(2, 54)], [], [(3, 55), (4, 56)], [(5, 57)], [(6, 58)], [(7, 59)], [(1, 53), (8, 60)], [], [(10, 62), (9, 61)]]
              [(0, 52), (1, 53), (2, 54), (3, 55), (4, 56), (5, 57), (6, 58), (7, 59), (8, 60), (9, 61), (10, 62)] (by kernel_rfl) (by kernel_rfl) (by kernel_rfl) (by kernel_rfl) (by kernel_rfl)
            case hob =>
              refine ⟨?o0, ?o1, ?o2, ?o3, ?o4, ?o5, ?o6, ?o7, ?o8, ?o9, ?o10, trivial⟩
              case o0 => intro W hW; change wpList _ _ _ _ _ _; go_wp2; exact j0 rfl rfl rfl
              case o1 =>
                intro W hW; rintro _ rfl; change wpList _ _ _ _ _ _
                have hc := (HRB5.out.conf.below hW hgO5).cell 1
                simp only [List.getElem?_cons_zero, List.getElem?_cons_succ] at hc
                go_wp2; exact j0 rfl rfl rfl
              case o2 => intro W hW; change wpList _ _ _ _ _ _; go_wp2; exact j0 rfl rfl rfl
              case o3 =>
                intro W hW; rintro _ rfl; change wpList _ _ _ _ _ _
                have hc := (HK15.out.below hW hg15).cell 0
                rw [HE.out, List.getElem?_cons_zero] at hc
                go_wp2; exact j0 rfl rfl rfl
              case o4 => intro W hW; change wpList _ _ _ _ _ _; go_wp2; exact j0 rfl rfl rfl
              case o5 => intro W hW; rintro _ rfl; rintro _ rfl; change wpList _ _ _ _ _ _; go_wp2; exact j0 rfl rfl rfl
              case o6 => intro W hW; rintro _ rfl; change wpList _ _ _ _ _ _; go_wp2; exact j0 rfl rfl rfl
              case o7 =>
                intro W hW; rintro _ rfl; change wpList _ _ _ _ _ _
                have HCs := kp (HCs5.out W hW)
                clear hW
                go_wp2_with ((with_reducible show Sl 59); go_must (refine jT rfl 83 (.tmp 58) rfl ⟨(ad.add (i * 9)).block, (ad.add (i * 9)).off + 1, none⟩ rfl (sl.map natV) _ HCs.out Try.underlying83 rfl (by rw [List.length_map, HSl8.out]; exact l4) ?_))
                exact j0 rfl rfl rfl
              case o8 =>
                intro W hW; rintro _ rfl; change wpList _ _ _ _ _ _
                clear hW
                go_wp2_with ((with_reducible show Sl 60); go_must (refine jF rfl 57 83 (.tmp 59) rfl 8 Try.underlying57 qI (by omega) (by omega) _ (sl.map natV) rfl rfl (by rw [List.length_map]; exact HSl8.out) ?_); intro g6 w6 hg6 hk6 hb6; have HK6 := kp hk6; have HB6 := kp hb6; clear hk6 hb6)
                exact jC rfl rfl rfl HB6.out ⟨g6, rfl, HK6.out⟩
              case o9 =>
                intro W hW; rintro _ rfl; rintro _ ⟨gn, rfl, hbk⟩; change wpList _ _ _ _ _ _
                have HBk : Kept (Blk W gn 83 ((List.range 8).map (slV sl))) := kp (by rw [slC HSl8.out]; exact hbk)
                have HOw := kp (HRB5.out.below hW (Nat.le_refl _)).slr
                have hWs := hW.size
                clear hW hbk
                go_wp2_with (at_builtin; go_must (refine l0 rfl (.tmp 53) (.tmp 60) 57 rfl w2.heap.size 83 8 _ 64 Try.underlying57 qF rfl (by omega) slV y4 A2 cap2 i sls HLn.out.2 sl rfl HOw.out HFull2.out gn 1 rfl HBk.out (by unfold maxLen; omega) (by omega) (by omega) ?_); intro g6 c6 w6 hown6 hb6 hg6)
                exact jC rfl rfl rfl hb6 ⟨g6, c6, rfl, hown6, by omega⟩
              case o10 => intro W hW; change wpList _ _ _ _ _ _; go_wp2; exact j0 rfl rfl rfl
            case hend =>
              intro W hW; rintro _ rfl; rintro _ rfl; rintro _ rfl; rintro _ rfl; rintro _ rfl; rintro _ rfl; rintro _ rfl; rintro _ rfl; rintro _ ⟨gn, rfl, hbk⟩; rintro _ ⟨gV, cV, rfl, hrow6, hgV⟩; rintro _ rfl
              simp only [given, jI, List.set, List.drop]
              have HKw := kp (HRB5.out.conf.below hW hgO5)
              have HBw := kp (HBe.out.trans (hW.mono HBe.out.size))
              have HRow6 := kp hrow6
              have hWs := hW.size
              have HGr := kp (jM hW (Value.slice A2 i cap2).ownBlock)
              clear hW hbk hrow6
              go_wp2_with (first
                | ((with_reducible show Sn); go_must (refine j7 rfl 57 (.tmp 62) (.tmp 61) rfl gO 1 (.slice (some ⟨gV, 0, none⟩) (i + 1) cV) rfl rfl rfl rfl _ _ HKw.out (by simp) qR ?_); intro w9 hk9 hg9 hs9
                   have HRB6 := kp (HRB5.out.slr_push HGr.out HRow6.out (.inr hgV) hk9 hg9 (by omega)); have HB6 := kp (HBw.out.grown hg9 HBw.out.size (fun k e => by cases e; exact HNeO.out))
                   clear hk9 hg9 hs9))
              go_wp2
              go_roundw
              case rel => exact ⟨i + 1, _, _, _, _, _, _, by omega, by go_num, HRB6.out, by rw [HSt5.out, HSt.out, List.take_add_one, HXi.out, List.map_append]; rfl, by rw [HSls.out, List.take_add_one, HXi.out, List.map_append]; show _ ++ _ = _ ++ [x.slots]; rw [HSlE.out], HB6.out⟩
              case measure => simp [intOf]; omega
    · have hge : n ≤ i := by omega
      have hie : i = n := by omega
      subst hie
      have HCf : Kept ((⟨A, cap, svs, A2, cap2, sls, i, q.ow⟩ : Rc).cf = q.cf) := kp (by
        have h1 : sls = q.tvs.map (·.slots) := by rw [HSls.out, List.take_of_length_le (by rw [HQ.out.row.len, HN.out]; exact Nat.le_refl _)]
        have h2 : svs.map (·.stack) = q.tvs.map (·.sv.stack) := by rw [HSt.out, List.take_of_length_le (by rw [HQ.out.row.len, HN.out]; exact Nat.le_refl _)]
        exact plain_cf h2 h1)
      have HL8 : Kept (∀ l ∈ sls, l.length = 8) := kp (fun l hl => by
        rw [HSls.out] at hl
        obtain ⟨y, hy, rfl⟩ := List.mem_map.1 hl
        exact HSl.out y (List.mem_of_mem_take hy))
      have HKRr := kp (HKR2.out.below HB.out hlR2)
      have HM := kp HRB.out.mine
      have HKOr := kp HRB.out.conf
      have HL18 : Kept ((rcC ⟨A, cap, svs, A2, cap2, sls, i, q.ow⟩).length = 18) := kp (jW H16.out)
      clear hlt
      go_wp2_with (first
        | ((with_reducible show Sl 63); go_must (refine j1 rfl 59 (.tmp 3) rfl gO rfl _ (rcC ⟨A, cap, svs, A2, cap2, sls, i, q.ow⟩) _ HKOr.out Try.underlying59 rfl (by rw [HL18.out]; exact j5) ?_))
        | ((with_reducible show Sn); go_must (refine j4 rfl 59 (.tmp 2) (.tmp 63) rfl gR (rcC ⟨A, cap, svs, A2, cap2, sls, i, q.ow⟩) rfl rfl _ _ HKRr.out (by rw [HL18.out]; exact j5) (by rw [HL18.out]; rfl) (jZ _) ?_); intro w8 hk8 hg8 hs8
           have HK8 := kp hk8; have HM8 := kp (HM.out.far hg8 (.inl hlR2)); have HB8 := kp ((HW2.out.trans (HB.out.mono hs2)).grown hg8 (by omega) (fun k e => by cases e; omega)); clear hk8 hg8 hs8)
        | ((with_reducible show bodyPost _ _ _ _ _ _); exact bodyPost_ret (jJ (P := Try.prog) (fn := Try.f20) rfl _ _ gR 59 _ _ rfl HK8.out Try.underlying59 rfl (by rw [HL18.out]; exact j5)) rfl ⟨⟨A, cap, svs, A2, cap2, sls, i, q.ow⟩, rfl, ⟨HM8.out.row.less hs2, HM8.out.slr.less hs2, ⟨fun k x hx => (HM8.out.fam.own k x hx).less hs2, HM8.out.fam.out, HM8.out.fam.apart⟩, HM8.out.ne⟩, HCf.out, HN.out.symm, rfl, HL8.out, HB8.out⟩))
end Go.Proofs.Ytkhfolpffjihgaa
