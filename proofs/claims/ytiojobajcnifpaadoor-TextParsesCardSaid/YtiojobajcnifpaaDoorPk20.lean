/- TextQ2, TextQ3, TextQ4, in one text. -/
import Derived.Test.YtiojobajcnifpaaDoorPk19
/- A line read, as the program has it, walked: refuses, a case. -/
namespace Go.Proofs.YtiojobajcnifpaaDoor
open Go.RowKit
set_option linter.unusedVariables false

set_option maxRecDepth 1000000 in
set_option maxHeartbeats 8000000 in
theorem tx_refuses_alibi (g C0 N : Nat) (st : T.St) (ln : List UInt8) (w : World) (hE : Env w) (h : Rdr w C0 g N st) (hg : g < C0) (hg2 : 2 ≤ g) (hC : C0 ≤ w.heap.size) (hl : ln.length ≤ 100000) (hN : N ≤ 900000) (hne : ln ≠ []) (hfst : st.first = true) (hnm : (T.parts 32 ln).headD [] = T.alibi) :
    Calls Tryd.prog 21 #[.pointer (some ⟨g, 0, none⟩), .string (T.str ln)] w fun e w' => LinePost C0 g N st ln w e w' := by
  have hnn := T.words_tail ln
  obtain ⟨name, ns, hps⟩ := T.parts_pos 32 ln
  obtain ⟨n, hn⟩ : ∃ n, ns.length = n := ⟨_, rfl⟩
  have HN := kp hn
  have HStep : Kept (T.step st ln = T.lineW st name ns) := kp (by rw [T.step_line hne, hps]; rfl)
  have HWs : Kept (∀ x ∈ ns, x.length ≤ 1000000) := kp fun x hx => by
    have := (T.parts_mem 32 ln x (by rw [hps]; exact List.mem_cons_of_mem _ hx)).2
    omega
  have hnl : n ≤ 100001 := by
    have h1 := T.parts_len 32 ln
    have h2 := List.count_le_length (a := (32 : UInt8)) (l := ln)
    rw [hps, List.length_cons, hn] at h1
    omega
  have hsp := tx_split 32 ln w hE (by omega)
  rw [hps, List.length_cons, hn] at hsp
  have HSp := kp hsp
  have hnil : ((T.str ln).toList == ([] : List UInt8)) = false := lit_not hne
  replace hnm : name = T.alibi := by rw [hps] at hnm; exact hnm
  have HNm := kp hnm
  clear hnm
  obtain ⟨v, us, hk, hF⟩ := h.blk
  obtain ⟨Av, cv, hv, _⟩ := hF.own.form
  subst hv
  obtain ⟨nu, hnu⟩ : ∃ nu, us.length = nu := ⟨_, rfl⟩
  have HNu := kp hnu
  rw [hnu] at hk hF
  rw [hfst] at hk
  have HK := kp hk; have HF := kp hF; have HRd := kp h; have HE := kp hE
  have hgw : g < w.heap.size := by omega
  clear hsp hn hnu hk hF h hE hps hnn
  go_enter Tryd.func21, Tryd.ntmps21
  go_wp2_with (first
    | (go_at_call 20; go_must (refine HSp.out.mono ?_); rintro e9 w1 ⟨rfl, hk1, hw1⟩
       have HK1 := kp hk1; have HW1 := kp hw1
       have hs1 := hw1.size
       have hl1 := hk1.lt
       have HR1 : Kept (Row wordT w1 w1.heap.size (some ⟨w.heap.size, 0, none⟩) (n + 1) (name :: ns)) := kp (Blk.row (l := name :: ns) hk1 (by rw [List.length_cons, HN.out]) (Nat.le_refl _))
       have hq0 : w1.cell? ⟨w.heap.size, 0, none⟩ = some (.string (T.str name)) := by rw [hk1.cell]; rfl
       clear hk1 hw1))
  apply region_list (.is _ :: .is _ :: .is _ :: .is _ :: Fact.words w.heap.size n ns :: .is _ :: Fact.words w.heap.size n ns :: [])
    [[], [(0, 13)], [(1, 14)], [], [(3, 16)], [(2, 15)], [(4, 17)]]
    [(0, 13), (1, 14), (2, 15), (3, 16), (4, 17), (5, 6), (6, 7)] (by kernel_rfl) (by kernel_rfl)
  case hob =>
    refine ⟨?o0, ?o1, ?o2, ?o3, ?o4, ?o5, ?o6, trivial⟩
    case o0 => intro W hW; change wpList _ _ _ _ _ _; go_wp2; exact pure_post rfl rfl rfl
    case o1 => intro W hW; rintro _ rfl; change wpList _ _ _ _ _ _; go_wp2; exact pure_post rfl rfl rfl
    case o2 =>
      intro W hW; rintro _ rfl; change wpList _ _ _ _ _ _
      have hc := (hW.cell (p := ⟨w.heap.size, 0, none⟩) HK1.out.lt).trans hq0
      go_wp2; exact pure_post rfl rfl rfl
    case o3 => intro W hW; change wpList _ _ _ _ _ _; go_wp2; exact pure_post rfl rfl rfl
    case o4 =>
      intro W hW; rintro _ rfl; change wpList _ _ _ _ _ _
      refine wpList_slice_from rfl 34 (.tmp 16) (.const (.int .i64 1)) rfl 9 Tryd.underlying34 str_size1 (some ⟨w.heap.size, 0, none⟩) (n + 1) (n + 1) rfl .i64 1 rfl (by omega) (Nat.le_refl _) ?_
      intro A2 hin hrow
      have hr2 := hrow wordT W W.heap.size (name :: ns) ((HR1.out.below hW).more hW.size)
      exact made_post rfl rfl rfl (Below.refl _ _) ⟨A2, _, rfl, hr2, fun ad e => by obtain ⟨a0, e1, e2⟩ := hin ad e; cases e1; exact e2⟩
    case o5 => intro W hW; rintro _ rfl; change wpList _ _ _ _ _ _; go_wp2; exact pure_post rfl rfl rfl
    case o6 =>
      intro W hW; rintro _ ⟨A4, c4, rfl, hr4, hq4⟩; change wpList _ _ _ _ _ _
      have HR4 := kp hr4; have HQ4 := kp hq4
      clear hr4 hq4
      go_wp2; exact made_post rfl rfl rfl (Below.refl _ _) ⟨A4, c4, rfl, HR4.out, HQ4.out⟩
  case hend =>
    intro W hW; rintro _ rfl; rintro _ rfl; rintro _ rfl; rintro _ rfl; rintro _ ⟨A4, c4, rfl, _, _⟩; rintro _ rfl; rintro _ ⟨A7, c7, rfl, hr7, hq7⟩
    simp only [given, put_lit, List.set]
    have HWW : Kept (Below w.heap.size w W) := kp (HW1.out.trans (hW.mono (by omega)))
    have hsW := HWW.out.size
    have HKW := kp (HK.out.below HWW.out hgw)
    have HFW := kp (HF.out.on HWW.out)
    have HEW := kp (HE.out.on HWW.out)
    have HR7 := kp hr7; have HQ7 := kp hq7
    have hA7 : Kept (∀ ad, 0 < n → A7 = some ad → ad.block ≠ g) := kp fun ad _ e => by rw [HQ7.out ad e]; omega
    have hgW : g < W.heap.size := by omega
    have k4 : W.cell? ⟨g, 4, none⟩ = some (.bool false) := by rw [HKW.out.cell]; rfl
    have z4 : W.frozen? ⟨g, 4, none⟩ = false := HKW.out.frozen 4
    clear hr7 hq7 hq0 hnil hW
    have hyes : ((T.str name).toList == ([97, 108, 105, 98, 105] : List UInt8)) = true := lit_is HNm.out
    have HLine : Kept (T.step st ln = T.line1 st name ns) := kp (by rw [HStep.out]; unfold T.lineW; rw [if_pos hfst])
    clear hfst
    go_wp2
    try simp only [put_nil]
    have HK8 : Kept (Blk (W.setCell ⟨g, 4, none⟩ (.bool true)) g 51 (.int .i64 st.d.g :: .int .i64 st.d.l :: .int .i64 st.d.s :: .slice Av nu cv :: .bool true :: [])) := kp (HKW.out.set 4 _)
    have HO8 : Kept (Only (fun k => k = g) W (W.setCell ⟨g, 4, none⟩ (.bool true))) := kp (Only.set rfl)
    obtain ⟨W1, hW1⟩ : ∃ W1, W.setCell ⟨g, 4, none⟩ (.bool true) = W1 := ⟨_, rfl⟩
    rw [hW1] at HK8 HO8 ⊢
    have hs8 := HO8.out.size
    clear hW1 k4 z4
    apply region_tail 14 (.is _ :: .is _ :: .is _ :: .is _ :: .is _ :: .is _ :: .is _ :: .is _ :: .is _ :: .is _ :: .is _ :: .is _ :: .is _ :: Fact.spots W1.heap.size g 3 [0, 1, 2] :: [])
      [[], [(0, 30)], [(1, 31)], [(2, 32)], [(2, 32)], [(4, 34), (2, 32)], [(5, 35), (2, 32)], [(2, 32)], [(7, 37), (2, 32)], [(8, 38), (2, 32)], [(2, 32)], [(10, 40), (2, 32)], [(11, 41), (2, 32)], [(6, 36), (9, 39), (12, 42), (2, 32)], [(3, 33), (13, 43), (2, 32)], [(14, 44), (2, 32)], [(2, 32), (15, 45)], [(16, 46)]]
      [(0, 30), (1, 31), (2, 32), (3, 33), (4, 34), (5, 35), (6, 36), (7, 37), (8, 38), (9, 39), (10, 40), (11, 41), (12, 42), (13, 43)] (by kernel_rfl) (by kernel_rfl) (by kernel_rfl) (by kernel_rfl) (by kernel_rfl)
    case hob =>
      refine ⟨?o0, ?o1, ?o2, ?o3, ?o4, ?o5, ?o6, ?o7, ?o8, ?o9, ?o10, ?o11, ?o12, ?o13, trivial⟩
      case o0 => intro W hW; change wpList _ _ _ _ _ _; go_wp2; exact pure_post rfl rfl rfl
      case o1 => intro W hW; rintro _ rfl; change wpList _ _ _ _ _ _; go_wp2; exact pure_post rfl rfl rfl
      case o2 => intro W hW; rintro _ rfl; change wpList _ _ _ _ _ _; go_wp2; exact pure_post rfl rfl rfl
      case o3 => intro W hW; rintro _ rfl; change wpList _ _ _ _ _ _; go_wp2; exact pure_post rfl rfl rfl
      case o4 => intro W hW; rintro _ rfl; change wpList _ _ _ _ _ _; go_wp2; exact pure_post rfl rfl rfl
      case o5 => intro W hW; rintro _ rfl; rintro _ rfl; change wpList _ _ _ _ _ _; go_wp2; exact pure_post rfl rfl rfl
      case o6 => intro W hW; rintro _ rfl; rintro _ rfl; change wpList _ _ _ _ _ _; go_wp2; exact pure_post rfl rfl rfl
      case o7 => intro W hW; rintro _ rfl; change wpList _ _ _ _ _ _; go_wp2; exact pure_post rfl rfl rfl
      case o8 => intro W hW; rintro _ rfl; rintro _ rfl; change wpList _ _ _ _ _ _; go_wp2; exact pure_post rfl rfl rfl
      case o9 => intro W hW; rintro _ rfl; rintro _ rfl; change wpList _ _ _ _ _ _; go_wp2; exact pure_post rfl rfl rfl
      case o10 => intro W hW; rintro _ rfl; change wpList _ _ _ _ _ _; go_wp2; exact pure_post rfl rfl rfl
      case o11 => intro W hW; rintro _ rfl; rintro _ rfl; change wpList _ _ _ _ _ _; go_wp2; exact pure_post rfl rfl rfl
      case o12 => intro W hW; rintro _ rfl; rintro _ rfl; change wpList _ _ _ _ _ _; go_wp2; exact pure_post rfl rfl rfl
      case o13 =>
        intro W2 hW2; rintro _ rfl; rintro _ rfl; rintro _ rfl; rintro _ rfl; change wpList _ _ _ _ _ _
        have hs2 := hW2.size
        go_wp2; exact made_post rfl rfl rfl ((Below.refl _ _).alloc (Nat.le_refl _) _) ⟨W2.heap.size, rfl, Blk.new _ _ _, hs2⟩
    case hend =>
      intro W2 hW2; rintro _ rfl; rintro _ rfl; rintro _ rfl; rintro _ rfl; rintro _ rfl; rintro _ rfl; rintro _ rfl; rintro _ rfl; rintro _ rfl; rintro _ rfl; rintro _ rfl; rintro _ rfl; rintro _ rfl
      simp only [given, put_lit, List.set, List.drop]
      rintro _ ⟨gn, rfl, hbn, hgn⟩
      have hs2 := hW2.size
      have HO2 : Kept (Only (fun k => k = g) W W2) := kp (HO8.out.trans (Only.of_below hW2))
      have HK2 := kp (HK8.out.below hW2 HK8.out.lt)
      have HR2 : Kept (Row wordT W2 W2.heap.size A7 n ns) := kp ((HR7.out.only HO2.out (Nat.le_refl _) hA7.out).more HO2.out.size)
      have HSp2 : Kept (Row (spotT g) W2 W2.heap.size (some ⟨gn, 0, none⟩) 3 [0, 1, 2]) := kp (Blk.row (l := [0, 1, 2]) hbn rfl (Nat.le_refl _))
      have HG2 : Kept (∀ ad : Addr, 0 < 3 → some (⟨gn, 0, none⟩ : Addr) = some ad → ad.block ≠ g) := kp fun ad _ e => by cases e; show gn ≠ g; omega
      clear hbn hgn hW2
      have hnm9 : n ≤ maxLen := by unfold maxLen; omega
      go_wp2_with (first
        | (go_at_call 38; go_must (refine (tx_readNumbers g 51 (.int .i64 st.d.g :: .int .i64 st.d.l :: .int .i64 st.d.s :: .slice Av nu cv :: .bool true :: []) [0, 1, 2] W2.heap.size A7 (some ⟨gn, 0, none⟩) n c7 3 3 ns W2 HR2.out HSp2.out (Nat.le_refl _) hA7.out HG2.out HK2.out (by intro j hj; simp at hj ⊢; omega) HWs.out hnm9).mono ?_); rintro e9 w4 ⟨b, vs, rfl, hk4, ho4, ht4, hf4, hv4⟩
           have HK4 := kp hk4; have HO4 := kp ho4; have HT4 := kp ht4; have HF4 := kp hf4; have HV4 := kp hv4
           clear hk4 ho4 ht4 hf4 hv4))
      have HOw : Kept (Only (fun k => k = g) w w4) := kp ((Only.of_below HWW.out).trans (HO2.out.trans HO4.out))
      go_ret
      cases b with
      | false =>
        refine refuses_none ?_ (HOw.out.less fun k _ e => .inl e)
        rw [HLine.out]
        unfold T.line1
        by_cases h3 : ns.length = 3
        · rw [HF4.out rfl h3]
          split <;> rfl
        · rw [if_neg (fun hc => h3 hc.2)]
      | true =>
        obtain ⟨h3, hvs⟩ := HT4.out rfl
        have h3 : ns.length = 3 := h3
        have hvl := T.nums_len hvs
        rw [h3] at hvl
        obtain ⟨a, b, c, rfl⟩ : ∃ a b c, vs = a :: b :: c :: [] := by
          match vs, hvl with
          | [a, b, c], _ => exact ⟨a, b, c, rfl⟩
        have ha := HV4.out a (by simp); have hb := HV4.out b (by simp); have hc := HV4.out c (by simp)
        refine ⟨HOw.out.less fun k _ e => .inl e, .inl ⟨⟨false, ⟨a, b, c, st.d.L⟩⟩, ?_, rfl, ⟨⟨.slice Av nu cv, us, HK4.out, ?_⟩, ⟨?_, ?_, ?_⟩, ?_⟩⟩⟩
        · rw [HLine.out]
          unfold T.line1
          rw [if_pos ⟨HNm.out, h3⟩, hvs]; rfl
        · exact HFW.out.keep (HO2.out.trans HO4.out) fun k hk => ⟨by have := HO2.out.size; have := HO4.out.size; omega, .inl hk⟩
        · unfold I64; simp only; omega
        · unfold I64; simp only; omega
        · unfold I64; simp only; omega
        · have := HRd.out.few
          exact ⟨by simp only; omega, fun l hl => by have := this.2 l hl; omega⟩
end Go.Proofs.YtiojobajcnifpaaDoor

/- A line read, as the program has it, walked: refuses, a case. -/
namespace Go.Proofs.YtiojobajcnifpaaDoor
open Go.RowKit
set_option linter.unusedVariables false

set_option maxRecDepth 1000000 in
set_option maxHeartbeats 8000000 in
theorem tx_refuses_func (g C0 N : Nat) (st : T.St) (ln : List UInt8) (w : World) (hE : Env w) (h : Rdr w C0 g N st) (hg : g < C0) (hg2 : 2 ≤ g) (hC : C0 ≤ w.heap.size) (hl : ln.length ≤ 100000) (hN : N ≤ 900000) (hne : ln ≠ []) (hfst : st.first = false) (hnm : (T.parts 32 ln).headD [] = T.func) :
    Calls Tryd.prog 21 #[.pointer (some ⟨g, 0, none⟩), .string (T.str ln)] w fun e w' => LinePost C0 g N st ln w e w' := by
  have hnn := T.words_tail ln
  obtain ⟨name, ns, hps⟩ := T.parts_pos 32 ln
  obtain ⟨n, hn⟩ : ∃ n, ns.length = n := ⟨_, rfl⟩
  have HN := kp hn
  have HStep : Kept (T.step st ln = T.lineW st name ns) := kp (by rw [T.step_line hne, hps]; rfl)
  have HWs : Kept (∀ x ∈ ns, x.length ≤ 1000000) := kp fun x hx => by
    have := (T.parts_mem 32 ln x (by rw [hps]; exact List.mem_cons_of_mem _ hx)).2
    omega
  have hnl : n ≤ 100001 := by
    have h1 := T.parts_len 32 ln
    have h2 := List.count_le_length (a := (32 : UInt8)) (l := ln)
    rw [hps, List.length_cons, hn] at h1
    omega
  have hsp := tx_split 32 ln w hE (by omega)
  rw [hps, List.length_cons, hn] at hsp
  have HSp := kp hsp
  have hnil : ((T.str ln).toList == ([] : List UInt8)) = false := lit_not hne
  replace hnm : name = T.func := by rw [hps] at hnm; exact hnm
  have HNm := kp hnm
  clear hnm
  obtain ⟨v, us, hk, hF⟩ := h.blk
  obtain ⟨Av, cv, hv, _⟩ := hF.own.form
  subst hv
  obtain ⟨nu, hnu⟩ : ∃ nu, us.length = nu := ⟨_, rfl⟩
  have HNu := kp hnu
  rw [hnu] at hk hF
  rw [hfst] at hk
  have HK := kp hk; have HF := kp hF; have HRd := kp h; have HE := kp hE
  have hgw : g < w.heap.size := by omega
  clear hsp hn hnu hk hF h hE hps hnn
  go_enter Tryd.func21, Tryd.ntmps21
  go_wp2_with (first
    | (go_at_call 20; go_must (refine HSp.out.mono ?_); rintro e9 w1 ⟨rfl, hk1, hw1⟩
       have HK1 := kp hk1; have HW1 := kp hw1
       have hs1 := hw1.size
       have hl1 := hk1.lt
       have HR1 : Kept (Row wordT w1 w1.heap.size (some ⟨w.heap.size, 0, none⟩) (n + 1) (name :: ns)) := kp (Blk.row (l := name :: ns) hk1 (by rw [List.length_cons, HN.out]) (Nat.le_refl _))
       have hq0 : w1.cell? ⟨w.heap.size, 0, none⟩ = some (.string (T.str name)) := by rw [hk1.cell]; rfl
       clear hk1 hw1))
  apply region_list (.is _ :: .is _ :: .is _ :: .is _ :: Fact.words w.heap.size n ns :: .is _ :: Fact.words w.heap.size n ns :: [])
    [[], [(0, 13)], [(1, 14)], [], [(3, 16)], [(2, 15)], [(4, 17)]]
    [(0, 13), (1, 14), (2, 15), (3, 16), (4, 17), (5, 6), (6, 7)] (by kernel_rfl) (by kernel_rfl)
  case hob =>
    refine ⟨?o0, ?o1, ?o2, ?o3, ?o4, ?o5, ?o6, trivial⟩
    case o0 => intro W hW; change wpList _ _ _ _ _ _; go_wp2; exact pure_post rfl rfl rfl
    case o1 => intro W hW; rintro _ rfl; change wpList _ _ _ _ _ _; go_wp2; exact pure_post rfl rfl rfl
    case o2 =>
      intro W hW; rintro _ rfl; change wpList _ _ _ _ _ _
      have hc := (hW.cell (p := ⟨w.heap.size, 0, none⟩) HK1.out.lt).trans hq0
      go_wp2; exact pure_post rfl rfl rfl
    case o3 => intro W hW; change wpList _ _ _ _ _ _; go_wp2; exact pure_post rfl rfl rfl
    case o4 =>
      intro W hW; rintro _ rfl; change wpList _ _ _ _ _ _
      refine wpList_slice_from rfl 34 (.tmp 16) (.const (.int .i64 1)) rfl 9 Tryd.underlying34 str_size1 (some ⟨w.heap.size, 0, none⟩) (n + 1) (n + 1) rfl .i64 1 rfl (by omega) (Nat.le_refl _) ?_
      intro A2 hin hrow
      have hr2 := hrow wordT W W.heap.size (name :: ns) ((HR1.out.below hW).more hW.size)
      exact made_post rfl rfl rfl (Below.refl _ _) ⟨A2, _, rfl, hr2, fun ad e => by obtain ⟨a0, e1, e2⟩ := hin ad e; cases e1; exact e2⟩
    case o5 => intro W hW; rintro _ rfl; change wpList _ _ _ _ _ _; go_wp2; exact pure_post rfl rfl rfl
    case o6 =>
      intro W hW; rintro _ ⟨A4, c4, rfl, hr4, hq4⟩; change wpList _ _ _ _ _ _
      have HR4 := kp hr4; have HQ4 := kp hq4
      clear hr4 hq4
      go_wp2; exact made_post rfl rfl rfl (Below.refl _ _) ⟨A4, c4, rfl, HR4.out, HQ4.out⟩
  case hend =>
    intro W hW; rintro _ rfl; rintro _ rfl; rintro _ rfl; rintro _ rfl; rintro _ ⟨A4, c4, rfl, _, _⟩; rintro _ rfl; rintro _ ⟨A7, c7, rfl, hr7, hq7⟩
    simp only [given, put_lit, List.set]
    have HWW : Kept (Below w.heap.size w W) := kp (HW1.out.trans (hW.mono (by omega)))
    have hsW := HWW.out.size
    have HKW := kp (HK.out.below HWW.out hgw)
    have HFW := kp (HF.out.on HWW.out)
    have HEW := kp (HE.out.on HWW.out)
    have HR7 := kp hr7; have HQ7 := kp hq7
    have hA7 : Kept (∀ ad, 0 < n → A7 = some ad → ad.block ≠ g) := kp fun ad _ e => by rw [HQ7.out ad e]; omega
    have hgW : g < W.heap.size := by omega
    have k4 : W.cell? ⟨g, 4, none⟩ = some (.bool true) := by rw [HKW.out.cell]; rfl
    have z4 : W.frozen? ⟨g, 4, none⟩ = false := HKW.out.frozen 4
    clear hr7 hq7 hq0 hnil hW
    have hyes : ((T.str name).toList == ([102, 117, 110, 99] : List UInt8)) = true := lit_is HNm.out
    have HLine : Kept (T.step st ln = if ns = [] then some ⟨false, { st.d with L := st.d.L ++ [[]] }⟩ else none) := kp (by rw [HStep.out]; unfold T.lineW; rw [hfst, if_neg (by simp), if_pos HNm.out])
    have k3 : W.cell? ⟨g, 3, none⟩ = some (.slice Av nu cv) := by rw [HKW.out.cell]; rfl
    have hnuN : nu ≤ 900000 := by have := HRd.out.few.1; have := HFW.out.len; have := HNu.out; omega
    have hCW : C0 ≤ W.heap.size := by omega
    have hnm9 : n ≤ maxLen := by unfold maxLen; omega
    have hOwn : Own W C0 47 (.slice Av nu cv) us := HFW.out.own
    clear hfst z4
    go_wp2_with (first
      | (at_builtin; go_must (refine wpList_append_one rfl (.tmp 54) (.tmp 55) 23 rfl C0 47 _ 24 Tryd.underlying23 nodes_info8 rfl W _ us (.slice none 0 0) rfl hOwn _ 1 rfl rfl rfl (by unfold maxLen; have := HNu.out; omega) (by have := HNu.out; omega) hCW ?_); intro v6 w6 hown6 hgr6
         obtain ⟨A6, c6, hv6, _⟩ := hown6.form
         rw [List.length_append, List.length_singleton, HNu.out] at hv6
         subst hv6
         have hng : some g ≠ (Value.slice Av nu cv).ownBlock := fun e => HFW.out.nv g e.symm rfl
         have hkb : Blk w6 g 51 (.int .i64 st.d.g :: .int .i64 st.d.l :: .int .i64 st.d.s :: .slice Av nu cv :: .bool true :: []) := HKW.out.grown hgr6.1 hng
         have k6 : w6.cell? ⟨g, 3, none⟩ = some (.slice Av nu cv) := by rw [hkb.cell]; rfl
         have z6 : w6.frozen? ⟨g, 3, none⟩ = false := hkb.frozen 3
         have HF6 : Kept (Fns (w6.setCell ⟨g, 3, none⟩ (.slice A6 (nu + 1) c6)) C0 (fun k => k = g) (.slice A6 (nu + 1) c6) (us ++ [.slice none 0 0]) (st.d.L ++ [[]])) := kp ((HFW.out.func hown6 hgr6).keep (Only.set rfl) fun k hk => ⟨by have := hgr6.1.size; simp; omega, .inl hk⟩)
         have HK6 : Kept (Blk (w6.setCell ⟨g, 3, none⟩ (.slice A6 (nu + 1) c6)) g 51 (.int .i64 st.d.g :: .int .i64 st.d.l :: .int .i64 st.d.s :: .slice A6 (nu + 1) c6 :: .bool true :: [])) := kp (hkb.set 3 _)
         have HO6 : Kept (Only (fun k => k = g ∨ C0 ≤ k) W (w6.setCell ⟨g, 3, none⟩ (.slice A6 (nu + 1) c6))) := kp ((Only.of_grow hgr6.1 fun k hk => .inr (hOwn.block k hk).1).trans (Only.set (.inl rfl)))
         have HR6 : Kept (Row wordT (w6.setCell ⟨g, 3, none⟩ (.slice A6 (nu + 1) c6)) W.heap.size A7 n ns) := kp (HR7.out.only (G := fun k => k = g ∨ (Value.slice Av nu cv).ownBlock = some k) ((Only.of_grow hgr6.1 fun k hk => .inr hk).trans (Only.set (.inl rfl))) (Nat.le_refl _) fun ad h0 e hc => by
           rcases hc with hc | hc
           · exact hA7.out ad h0 e hc
           · have h1 := HQ7.out ad e
             rw [h1] at hc
             have h2 := (HF.out.own.block _ hc).2
             omega)
         have hs6 : W.heap.size ≤ (w6.setCell ⟨g, 3, none⟩ (.slice A6 (nu + 1) c6)).heap.size := HO6.out.size
         clear hown6 hgr6 hkb hng hOwn k3)
      | (go_at_call 38; go_must (refine (tx_readNumbers g 51 (.int .i64 st.d.g :: .int .i64 st.d.l :: .int .i64 st.d.s :: .slice A6 (nu + 1) c6 :: .bool true :: []) [] W.heap.size A7 none n c7 0 0 ns _ HR6.out (Row.none_ rfl rfl) hs6 hA7.out (fun _ h => absurd h (Nat.lt_irrefl 0)) HK6.out (by simp) HWs.out hnm9).mono ?_); rintro e9 w8 ⟨b, vs, rfl, hk8, ho8, ht8, hf8, _⟩
         have HK8 := kp hk8; have HO8 := kp ho8; have HT8 := kp ht8; have HF8 := kp hf8
         clear hk8 ho8 ht8 hf8))
    have HOw : Kept (Only (fun k => k = g ∨ C0 ≤ k) w w8) := kp ((Only.of_below HWW.out).trans (HO6.out.trans (HO8.out.less fun k _ e => .inl e)))
    go_ret
    cases b with
    | false =>
      refine refuses_none ?_ HOw.out
      rw [HLine.out, if_neg]
      intro e
      have := HF8.out rfl (by rw [e]; rfl)
      rw [e] at this
      cases this
    | true =>
      obtain ⟨h0, _⟩ := HT8.out rfl
      have h0 : ns = [] := List.eq_nil_of_length_eq_zero h0
      have hK8 := HK8.out
      rw [setC_nil2] at hK8
      refine ⟨HOw.out, .inl ⟨⟨false, { st.d with L := st.d.L ++ [[]] }⟩, by rw [HLine.out, if_pos h0], rfl, ⟨⟨.slice A6 (nu + 1) c6, us ++ [.slice none 0 0], hK8, ?_⟩, HRd.out.ok, ?_⟩⟩⟩
      · exact HF6.out.keep HO8.out fun k hk => ⟨by have := HO6.out.size; have := HO8.out.size; omega, .inl hk⟩
      · have := HRd.out.few
        refine ⟨by simp; omega, fun l hl => ?_⟩
        rcases List.mem_append.1 hl with h | h
        · have := this.2 l h; omega
        · have e : l = [] := by simpa using h
          rw [e]; simp
end Go.Proofs.YtiojobajcnifpaaDoor

/- A line read, as the program has it, walked: refuses, a case. -/
namespace Go.Proofs.YtiojobajcnifpaaDoor
open Go.RowKit
set_option linter.unusedVariables false

set_option maxRecDepth 1000000 in
set_option maxHeartbeats 8000000 in
theorem tx_refuses_none (g C0 N : Nat) (st : T.St) (ln : List UInt8) (w : World) (hE : Env w) (h : Rdr w C0 g N st) (hg : g < C0) (hg2 : 2 ≤ g) (hC : C0 ≤ w.heap.size) (hl : ln.length ≤ 100000) (hN : N ≤ 900000) (hne : ln ≠ []) (hfst : st.first = false) (hL : st.d.L = []) (hnm : (T.parts 32 ln).headD [] ≠ T.func) :
    Calls Tryd.prog 21 #[.pointer (some ⟨g, 0, none⟩), .string (T.str ln)] w fun e w' => LinePost C0 g N st ln w e w' := by
  have hnn := T.words_tail ln
  obtain ⟨name, ns, hps⟩ := T.parts_pos 32 ln
  obtain ⟨n, hn⟩ : ∃ n, ns.length = n := ⟨_, rfl⟩
  have HN := kp hn
  have HStep : Kept (T.step st ln = T.lineW st name ns) := kp (by rw [T.step_line hne, hps]; rfl)
  have HWs : Kept (∀ x ∈ ns, x.length ≤ 1000000) := kp fun x hx => by
    have := (T.parts_mem 32 ln x (by rw [hps]; exact List.mem_cons_of_mem _ hx)).2
    omega
  have hnl : n ≤ 100001 := by
    have h1 := T.parts_len 32 ln
    have h2 := List.count_le_length (a := (32 : UInt8)) (l := ln)
    rw [hps, List.length_cons, hn] at h1
    omega
  have hsp := tx_split 32 ln w hE (by omega)
  rw [hps, List.length_cons, hn] at hsp
  have HSp := kp hsp
  have hnil : ((T.str ln).toList == ([] : List UInt8)) = false := lit_not hne
  replace hnm : name ≠ T.func := by rw [hps] at hnm; exact hnm
  have HNm := kp hnm
  clear hnm
  obtain ⟨v, us, hk, hF⟩ := h.blk
  obtain ⟨Av, cv, hv, _⟩ := hF.own.form
  subst hv
  obtain ⟨nu, hnu⟩ : ∃ nu, us.length = nu := ⟨_, rfl⟩
  have HNu := kp hnu
  rw [hnu] at hk hF
  rw [hfst] at hk
  have HK := kp hk; have HF := kp hF; have HRd := kp h; have HE := kp hE
  have hgw : g < w.heap.size := by omega
  clear hsp hn hnu hk hF h hE hps hnn
  go_enter Tryd.func21, Tryd.ntmps21
  go_wp2_with (first
    | (go_at_call 20; go_must (refine HSp.out.mono ?_); rintro e9 w1 ⟨rfl, hk1, hw1⟩
       have HK1 := kp hk1; have HW1 := kp hw1
       have hs1 := hw1.size
       have hl1 := hk1.lt
       have HR1 : Kept (Row wordT w1 w1.heap.size (some ⟨w.heap.size, 0, none⟩) (n + 1) (name :: ns)) := kp (Blk.row (l := name :: ns) hk1 (by rw [List.length_cons, HN.out]) (Nat.le_refl _))
       have hq0 : w1.cell? ⟨w.heap.size, 0, none⟩ = some (.string (T.str name)) := by rw [hk1.cell]; rfl
       clear hk1 hw1))
  apply region_list (.is _ :: .is _ :: .is _ :: .is _ :: Fact.words w.heap.size n ns :: .is _ :: Fact.words w.heap.size n ns :: [])
    [[], [(0, 13)], [(1, 14)], [], [(3, 16)], [(2, 15)], [(4, 17)]]
    [(0, 13), (1, 14), (2, 15), (3, 16), (4, 17), (5, 6), (6, 7)] (by kernel_rfl) (by kernel_rfl)
  case hob =>
    refine ⟨?o0, ?o1, ?o2, ?o3, ?o4, ?o5, ?o6, trivial⟩
    case o0 => intro W hW; change wpList _ _ _ _ _ _; go_wp2; exact pure_post rfl rfl rfl
    case o1 => intro W hW; rintro _ rfl; change wpList _ _ _ _ _ _; go_wp2; exact pure_post rfl rfl rfl
    case o2 =>
      intro W hW; rintro _ rfl; change wpList _ _ _ _ _ _
      have hc := (hW.cell (p := ⟨w.heap.size, 0, none⟩) HK1.out.lt).trans hq0
      go_wp2; exact pure_post rfl rfl rfl
    case o3 => intro W hW; change wpList _ _ _ _ _ _; go_wp2; exact pure_post rfl rfl rfl
    case o4 =>
      intro W hW; rintro _ rfl; change wpList _ _ _ _ _ _
      refine wpList_slice_from rfl 34 (.tmp 16) (.const (.int .i64 1)) rfl 9 Tryd.underlying34 str_size1 (some ⟨w.heap.size, 0, none⟩) (n + 1) (n + 1) rfl .i64 1 rfl (by omega) (Nat.le_refl _) ?_
      intro A2 hin hrow
      have hr2 := hrow wordT W W.heap.size (name :: ns) ((HR1.out.below hW).more hW.size)
      exact made_post rfl rfl rfl (Below.refl _ _) ⟨A2, _, rfl, hr2, fun ad e => by obtain ⟨a0, e1, e2⟩ := hin ad e; cases e1; exact e2⟩
    case o5 => intro W hW; rintro _ rfl; change wpList _ _ _ _ _ _; go_wp2; exact pure_post rfl rfl rfl
    case o6 =>
      intro W hW; rintro _ ⟨A4, c4, rfl, hr4, hq4⟩; change wpList _ _ _ _ _ _
      have HR4 := kp hr4; have HQ4 := kp hq4
      clear hr4 hq4
      go_wp2; exact made_post rfl rfl rfl (Below.refl _ _) ⟨A4, c4, rfl, HR4.out, HQ4.out⟩
  case hend =>
    intro W hW; rintro _ rfl; rintro _ rfl; rintro _ rfl; rintro _ rfl; rintro _ ⟨A4, c4, rfl, _, _⟩; rintro _ rfl; rintro _ ⟨A7, c7, rfl, hr7, hq7⟩
    simp only [given, put_lit, List.set]
    have HWW : Kept (Below w.heap.size w W) := kp (HW1.out.trans (hW.mono (by omega)))
    have hsW := HWW.out.size
    have HKW := kp (HK.out.below HWW.out hgw)
    have HFW := kp (HF.out.on HWW.out)
    have HEW := kp (HE.out.on HWW.out)
    have HR7 := kp hr7; have HQ7 := kp hq7
    have hA7 : Kept (∀ ad, 0 < n → A7 = some ad → ad.block ≠ g) := kp fun ad _ e => by rw [HQ7.out ad e]; omega
    have hgW : g < W.heap.size := by omega
    have k4 : W.cell? ⟨g, 4, none⟩ = some (.bool true) := by rw [HKW.out.cell]; rfl
    have z4 : W.frozen? ⟨g, 4, none⟩ = false := HKW.out.frozen 4
    clear hr7 hq7 hq0 hnil hW
    have hno : ((T.str name).toList == ([102, 117, 110, 99] : List UInt8)) = false := lit_not HNm.out
    have HLine : Kept (T.step st ln = none) := kp (by rw [HStep.out]; unfold T.lineW; rw [hfst, if_neg (by simp), if_neg HNm.out, if_pos hL])
    have hnu0 : nu = 0 := by have h1 := HFW.out.len; have h2 := HNu.out; rw [hL, h2] at h1; simpa using h1
    subst hnu0
    have k3 : W.cell? ⟨g, 3, none⟩ = some (.slice Av 0 cv) := by rw [HKW.out.cell]; rfl
    clear hfst hL z4
    go_wp2
    go_ret
    exact refuses_none HLine.out (Only.of_below HWW.out)
end Go.Proofs.YtiojobajcnifpaaDoor
