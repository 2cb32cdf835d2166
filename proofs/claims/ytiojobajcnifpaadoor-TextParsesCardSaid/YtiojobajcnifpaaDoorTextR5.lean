/- The document's Print, walked. -/
import Derived.Test.YtiojobajcnifpaaDoorPk26
import Derived.Test.YtiojobajcnifpaaDoorTextW3
namespace Go.Proofs.YtiojobajcnifpaaDoor
open Go.RowKit
set_option linter.unusedVariables false

/-- A pointer at a cell that holds this. -/
def Fact.at_ (u : Value) : Fact := ⟨fun v w => ∃ ad : Addr, v = .pointer (some ad) ∧ w.cell? ad = some u, fun _ w w' hb ⟨ad, h1, h2⟩ => ⟨ad, h1, (hb.cell (cell_block h2)).trans h2⟩⟩
theorem at_fact {ad : Addr} {u : Value} {w : World} (h : w.cell? ad = some u) : (Fact.at_ u).holds (.pointer (some ad)) w := ⟨ad, rfl, h⟩
theorem dec_size {n : Nat} (h : n < 100) : (T.str (Lib.decDigits n)).size ≤ 2 := by rw [T.str_size]; exact dec_small100 h

set_option maxRecDepth 1000000 in
set_option maxHeartbeats 16000000 in
theorem rf_print (B : Nat) (p : Pg) (w : World) (hp : p.Ok w B) (hB : B ≤ w.heap.size) (hok : C.PDOk (C.dataOf p)) :
    Calls Tryd.prog 17 #[pgA p] w fun e w' => e = .returned (.string (T.str (T.print (C.dataOf p)))) ∧ Below w.heap.size w w' := by
  have HP := kp hp; have HOk := kp hok
  have hlen := hp.row.len
  have HLen := kp hlen
  obtain ⟨gn, hgn⟩ : ∃ gn : Nat, p.g = gn := ⟨p.g.toNat, by have := hok.g.1; have h : 0 ≤ p.g := this; omega⟩
  obtain ⟨ln, hln⟩ : ∃ ln : Nat, p.l = ln := ⟨p.l.toNat, by have := hok.l.1; have h : 0 ≤ p.l := this; omega⟩
  obtain ⟨sn, hsn⟩ : ∃ sn : Nat, p.s = sn := ⟨p.s.toNat, by have := hok.s.1; have h : 0 ≤ p.s := this; omega⟩
  have hg9 : gn < 100 := by have := hok.g.2; have h : p.g ≤ 16 := this; omega
  have hl9 : ln < 100 := by have := hok.l.2; have h : p.l ≤ 16 := this; omega
  have hs9 : sn < 100 := by have := hok.s.2; have h : p.s ≤ 8 := this; omega
  have hg5 : gn < 100000 := by omega
  have hl5 : ln < 100000 := by omega
  have hs5 : sn < 100000 := by omega
  have hz1 := dec_size hg9; have hz2 := dec_size hl9; have hz3 := dec_size hs9
  have hp16 : p.len ≤ 16 := by have := hok.len; unfold C.dataOf at this; simp at this; omega
  have HG := kp hgn; have HL := kp hln; have HS := kp hsn
  obtain ⟨hd, hhd⟩ : ∃ hd, T.lineOf T.alibi (p.g :: p.l :: p.s :: []) = hd := ⟨_, rfl⟩
  have HHd := kp hhd
  have HHd2 : Kept (T.str (T.text [hd]) = ((((((⟨#[97, 108, 105, 98, 105, 32]⟩ : ByteArray) ++ T.str (Lib.decDigits gn)) ++ ⟨#[32]⟩) ++ T.str (Lib.decDigits ln)) ++ ⟨#[32]⟩) ++ T.str (Lib.decDigits sn)) ++ ⟨#[10]⟩) := kp (by
    have e1 : (⟨#[97, 108, 105, 98, 105, 32]⟩ : ByteArray) = T.str [97, 108, 105, 98, 105, 32] := rfl
    have e2 : (⟨#[32]⟩ : ByteArray) = T.str [32] := rfl
    have e3 : (⟨#[10]⟩ : ByteArray) = T.str [10] := rfl
    rw [e1, e2, e3, rf_str, rf_str, rf_str, rf_str, rf_str, rf_str, ← hhd, hgn, hln, hsn]
    congr 1
    simp [T.text, T.lineOf, T.tail, T.dig, T.alibi])
  have hhl : hd.length ≤ 20 := by
    rw [← hhd]
    unfold T.lineOf
    have h := tail_len (p.g :: p.l :: p.s :: []) (by intro v hv; simp at hv; omega)
    rw [List.length_append]
    have h2 : T.alibi.length = 5 := rfl
    simp only [List.length_cons, List.length_nil] at h
    omega
  clear hp hok hgn hln hsn hlen hhd
  rw [pgA_is]
  go_enter Tryd.func17, Tryd.ntmps17
  go_wp2_with (first
    | ((with_reducible refine wpList_box_agg rfl 25 (.tmp 0) rfl (pgC p) rfl ?_); intro g1 w1 hg1 hk1 hw1; have HK1 := kp hk1; have HW1 := kp hw1; have hs1 := hw1.size; have hgl1 := hk1.lt
       have HCell : Kept (∀ W, Below w1.heap.size w1 W → W.cell? ⟨g1, 0, none⟩ = some (.int .i64 (gn : Int)) ∧ W.cell? ⟨g1, 1, none⟩ = some (.int .i64 (ln : Int)) ∧ W.cell? ⟨g1, 2, none⟩ = some (.int .i64 (sn : Int)) ∧ W.cell? ⟨g1, 3, none⟩ = some (.slice p.A p.len p.cap)) := kp (fun W hW => by
         have h := pg_cells (HK1.out.below hW HK1.out.lt)
         rw [HG.out, HL.out, HS.out] at h
         exact h)
       clear hk1 hw1)
    | fail)
  apply region_list (.is _ :: .is _ :: .is (.string (T.str (Lib.decDigits gn))) :: .is _ :: .is _ :: .is _ :: .is _ :: .is (.string (T.str (Lib.decDigits ln))) :: .is _ :: .is _ :: .is _ :: .is _ :: .is (.string (T.str (Lib.decDigits sn))) :: .is _ :: .is _ :: .is _ :: [])
    [[], [(0, 10)], [(1, 11)], [(2, 12)], [(3, 13)], [], [(5, 15)], [(6, 16)], [(4, 14), (7, 17)], [(8, 18)], [], [(10, 20)], [(11, 21)], [(9, 19), (12, 22)], [(13, 23)], [(14, 24)]]
    [(0, 10), (1, 11), (2, 12), (3, 13), (4, 14), (5, 15), (6, 16), (7, 17), (8, 18), (9, 19), (10, 20), (11, 21), (12, 22), (13, 23), (14, 24), (15, 3)] (by kernel_rfl) (by kernel_rfl)
  case hob =>
    refine ⟨?o0, ?o1, ?o2, ?o3, ?o4, ?o5, ?o6, ?o7, ?o8, ?o9, ?o10, ?o11, ?o12, ?o13, ?o14, ?o15, trivial⟩
    case o0 => intro W hW; change wpList _ _ _ _ _ _; go_wp2; exact pure_post rfl rfl rfl
    case o1 =>
      intro W hW; rintro _ rfl; change wpList _ _ _ _ _ _
      obtain ⟨hc0, hc1, hc2, hc3⟩ := HCell.out W hW
      go_wp2; exact pure_post rfl rfl rfl
    case o2 =>
      intro W hW; rintro _ rfl; change wpList _ _ _ _ _ _
      go_wp2_with fail
      refine (rf_digits gn W hg5).mono ?_
      rintro e w2 ⟨rfl, hb2⟩
      have HB2 := kp hb2; clear hb2
      go_wp2
      exact made_post rfl rfl rfl HB2.out rfl
    case o3 => intro W hW; rintro _ rfl; change wpList _ _ _ _ _ _; go_wp2; exact pure_post rfl rfl rfl
    case o4 => intro W hW; rintro _ rfl; change wpList _ _ _ _ _ _; go_wp2; exact pure_post rfl rfl rfl
    case o5 => intro W hW; change wpList _ _ _ _ _ _; go_wp2; exact pure_post rfl rfl rfl
    case o6 =>
      intro W hW; rintro _ rfl; change wpList _ _ _ _ _ _
      obtain ⟨hc0, hc1, hc2, hc3⟩ := HCell.out W hW
      go_wp2; exact pure_post rfl rfl rfl
    case o7 =>
      intro W hW; rintro _ rfl; change wpList _ _ _ _ _ _
      go_wp2_with fail
      refine (rf_digits ln W hl5).mono ?_
      rintro e w2 ⟨rfl, hb2⟩
      have HB2 := kp hb2; clear hb2
      go_wp2
      exact made_post rfl rfl rfl HB2.out rfl
    case o8 => intro W hW; rintro _ rfl; rintro _ rfl; change wpList _ _ _ _ _ _; go_wp2; exact pure_post rfl rfl rfl
    case o9 => intro W hW; rintro _ rfl; change wpList _ _ _ _ _ _; go_wp2; exact pure_post rfl rfl rfl
    case o10 => intro W hW; change wpList _ _ _ _ _ _; go_wp2; exact pure_post rfl rfl rfl
    case o11 =>
      intro W hW; rintro _ rfl; change wpList _ _ _ _ _ _
      obtain ⟨hc0, hc1, hc2, hc3⟩ := HCell.out W hW
      go_wp2; exact pure_post rfl rfl rfl
    case o12 =>
      intro W hW; rintro _ rfl; change wpList _ _ _ _ _ _
      go_wp2_with fail
      refine (rf_digits sn W hs5).mono ?_
      rintro e w2 ⟨rfl, hb2⟩
      have HB2 := kp hb2; clear hb2
      go_wp2
      exact made_post rfl rfl rfl HB2.out rfl
    case o13 => intro W hW; rintro _ rfl; rintro _ rfl; change wpList _ _ _ _ _ _; go_wp2; exact pure_post rfl rfl rfl
    case o14 => intro W hW; rintro _ rfl; change wpList _ _ _ _ _ _; go_wp2; exact pure_post rfl rfl rfl
    case o15 => intro W hW; rintro _ rfl; change wpList _ _ _ _ _ _; go_wp2; exact pure_post rfl rfl rfl
  case hend =>
    intro W hW; rintro _ rfl; rintro _ rfl; rintro _ rfl; rintro _ rfl; rintro _ rfl; rintro _ rfl; rintro _ rfl; rintro _ rfl; rintro _ rfl; rintro _ rfl; rintro _ rfl; rintro _ rfl; rintro _ rfl; rintro _ rfl; rintro _ rfl; rintro _ rfl
    simp only [given, put_lit, List.set]
    rw [← HHd2.out]
    have HW2 := kp (HW1.out.trans (hW.mono hs1)); have HV2 := kp hW
    clear hW
    have hs2 := HW2.out.size
    go_wp2
    go_loopw [3, 4] (fun v3 v4 wr => ∃ f : Nat, f ≤ p.len ∧ v4 = .int .i64 f ∧ v3 = .string (T.str (T.text (hd :: T.linesL ((C.dataOf p).L.take f)))) ∧ (T.text (hd :: T.linesL ((C.dataOf p).L.take f))).length ≤ 100 + f * 2000 ∧ Below w1.heap.size w1 wr) (fun _ v4 _ => p.len - (intOf v4).toNat)
    case atStart => exact ⟨0, by omega, rfl, rfl, by simp [T.text, T.linesL]; omega, HV2.out⟩
    case round =>
      obtain ⟨wA, rfl⟩ : ∃ x, x = wr := ⟨_, rfl⟩
      obtain ⟨f, hf, rfl, rfl, htl, hwr⟩ := hrel
      have HVr := kp hwr; have HTl := kp htl
      have hsr := hwr.size
      have HWr := kp (HW1.out.trans (hwr.mono hs1))
      obtain ⟨hc0, hc1, hc2, hc3⟩ := HCell.out wA hwr
      clear hwr htl hc0 hc1 hc2
      by_cases hlt : f < p.len
      · obtain ⟨ad, fn, e1, hab, hx, hfok, hcf⟩ := (HP.out.below (HWr.out.mono hB)).fn hlt
        rw [e1] at hc3
        have hLf : (C.dataOf p).L[f]? = some fn.nodes := by unfold C.dataOf; simp only [List.getElem?_map, hx, Option.map_some]
        have HLf := kp hLf
        have hfno := HOk.out.fns fn.nodes (List.mem_of_getElem? hLf)
        have HFn := kp hfno
        have hn64 := hfno.len
        have hnl : fn.nodes.length = fn.len := hfok.nodes.1.len
        have HNl := kp hnl
        rw [hnl] at hn64
        obtain ⟨S0, hS0⟩ : ∃ S0, T.text (hd :: T.linesL ((C.dataOf p).L.take f)) = S0 := ⟨_, rfl⟩
        have HS0 := kp hS0
        rw [hS0] at HTl ⊢
        have hst := T.str_size S0
        have htl9 := HTl.out
        have HT6 : Kept (T.text (hd :: (T.linesL ((C.dataOf p).L.take f) ++ [T.func])) = S0 ++ (T.func ++ [10])) := kp (by rw [← hS0, ← List.cons_append, text_snoc])
        have HF0 : Kept (fn.Ok w B) := kp (hfok.keep (w' := w) (fun q hq => (HWr.out.cell (by omega)).symm))
        have HC3 : Kept (∀ W, Below wA.heap.size wA W → W.cell? ⟨g1, 3, none⟩ = some (.slice (some ad) p.len p.cap) ∧ W.cell? (ad.add f) = some (.slice fn.A fn.len fn.cap)) := kp (fun W hW => ⟨(hW.cell (cell_block hc3)).trans hc3, (hW.cell (cell_block hcf)).trans hcf⟩)
        clear hx hfok hLf hfno hnl hS0 hcf e1
        go_wp2
        clear hc3
        go_loopw [3, 5] (fun v3 v5 wq => ∃ i : Nat, i ≤ fn.len ∧ v5 = .int .i64 i ∧ v3 = .string (T.str (T.text (hd :: (T.linesL ((C.dataOf p).L.take f) ++ T.func :: (fn.nodes.take i).map T.ndL)))) ∧ (T.text (hd :: (T.linesL ((C.dataOf p).L.take f) ++ T.func :: (fn.nodes.take i).map T.ndL))).length ≤ 200 + f * 2000 + i * 25 ∧ Below wA.heap.size wA wq) (fun _ v5 _ => fn.len - (intOf v5).toNat)
        case atStart =>
          refine ⟨0, by omega, rfl, ?_, ?_, Below.refl _ _⟩
          · rw [List.take_zero, List.map_nil, HT6.out, ← rf_str]; rfl
          · rw [List.take_zero, List.map_nil, HT6.out, List.length_append]; have h2 : (T.func ++ [10]).length = 5 := rfl; omega
        case round =>
          obtain ⟨wq, rfl⟩ : ∃ x, x = wr := ⟨_, rfl⟩
          obtain ⟨i, hi, rfl, rfl, htq, hwq⟩ := hrel
          have HTq := kp htq; have HVq := kp hwq
          have HWq := kp (HWr.out.trans (hwq.mono HWr.out.size))
          have HUq := kp (HVr.out.trans (hwq.mono hsr))
          have hsq := hwq.size
          obtain ⟨hc3, hcf⟩ := HC3.out wq hwq
          clear htq hwq
          by_cases hli : i < fn.len
          · obtain ⟨ad2, x, e2, hab2, hxn, hxok, k0, k1, k2, k3⟩ := (HF0.out.keep (w' := wq) (fun q hq => HWq.out.cell (by omega))).nodes.get hli
            rw [e2] at hcf
            have hNd := HFn.out.nodes x (List.mem_of_getElem? hxn)
            have HNd := kp hNd; have HXn := kp hxn
            obtain ⟨kn, hkn⟩ : ∃ kn : Nat, x.kind = kn := ⟨x.kind.toNat, by have h : 0 ≤ x.kind := hNd.kind.1; omega⟩
            have HKn := kp hkn
            have hk10 : kn < 10 := by have h : x.kind ≤ 9 := hNd.kind.2; omega
            obtain ⟨nm, hnm⟩ : ∃ nm, T.names[kn]? = some nm := ⟨_, List.getElem?_eq_getElem (show kn < T.names.length from hk10)⟩
            have HNm := kp hnm
            have hnmk : T.name x.kind = nm := by unfold T.name; rw [hkn, Int.toNat_natCast, List.getD_eq_getElem?_getD, hnm]; rfl
            have HNmk := kp hnmk
            have hnl6 : nm.length ≤ 6 := by rw [← hnmk]; exact name_len _
            have hnms := T.str_size nm
            obtain ⟨S1, hS1⟩ : ∃ S1, T.text (hd :: (T.linesL ((C.dataOf p).L.take f) ++ T.func :: (fn.nodes.take i).map T.ndL)) = S1 := ⟨_, rfl⟩
            have HS1 := kp hS1
            rw [hS1] at HTq ⊢
            have htq9 := HTq.out
            have hst1 := T.str_size S1
            have hk0 : wq.cell? ad2 = some (.int .i64 (kn : Int)) ∨ True := .inr trivial
            clear hNd hxn hnm hnmk hS1 hk0 hkn e2 hxok
            go_wp2_with (first
              | ((with_reducible show wpList _ _ _ (⟨some 6, _, _, _, _, _⟩ :: _) _ _); go_must (refine wpList_alloc_zero rfl 49 rfl (ndC ⟨0, 0, 0, 0⟩) tx_node_zero ?_); intro g6 w7 hg7 hk7 hw7; have HK7 := kp hk7; have HW7 := kp hw7; have hs7 := hw7.size; clear hk7 hw7)
              | ((with_reducible show wpList _ _ _ (⟨none, _, _, _, _, _⟩ :: _) _ _); go_must (refine wpList_store_blk rfl 49 (.tmp 6) (.tmp 51) rfl g6 (ndC x) rfl rfl _ _ HK7.out tx_node_size rfl (tx_node_ones _) ?_); intro w8 hk8 hg8 hs8
                 have HK8 : Kept (Blk w8 g6 49 [.int .i64 (kn : Int), .int .i64 x.arg, .int .i64 x.next, .int .i64 x.alt]) := kp (by rw [← HKn.out]; exact hk8)
                 have HW8 : Kept (Below wq.heap.size wq w8) := kp (HW7.out.grown hg8 (by omega) (fun k e => by cases e; omega))
                 clear hk8 hg8))
            apply region_list (.is _ :: .row wordT 10 T.names :: .is _ :: .is _ :: (.at_ (.string (T.str nm))) :: .is (.string (T.str nm)) :: .is _ :: .is _ :: [])
              [[], [], [], [(2, 54)], [(1, 53), (3, 55)], [(4, 56)], [(0, 52), (5, 57)], [(6, 58)]]
              [(0, 52), (1, 53), (2, 54), (3, 55), (4, 56), (5, 57), (6, 58), (7, 3)] (by kernel_rfl) (by kernel_rfl)
            case hob =>
              refine ⟨?o0, ?o1, ?o2, ?o3, ?o4, ?o5, ?o6, ?o7, trivial⟩
              case o0 => intro W hW; change wpList _ _ _ _ _ _; go_wp2; exact pure_post rfl rfl rfl
              case o1 =>
                intro W hW; change wpList _ _ _ _ _ _
                go_wp2_with fail
                refine (rf_names W).mono ?_
                rintro e w2 ⟨v2, rfl, hown2, hb2⟩
                obtain ⟨A, cap, rfl, _, _, hr2⟩ := Own.readsN (f := wordT) (l := T.names) hown2 rfl
                have HR2 := kp hr2; have HB2 := kp hb2; clear hown2 hr2 hb2
                go_wp2
                exact made_post rfl rfl rfl HB2.out ⟨A, cap, rfl, HR2.out⟩
              case o2 => intro W hW; change wpList _ _ _ _ _ _; go_wp2; exact pure_post rfl rfl rfl
              case o3 =>
                intro W hW; rintro _ rfl; change wpList _ _ _ _ _ _
                have hc8 := (HK8.out.below hW HK8.out.lt).cell 0; have hc8 : W.cell? ⟨g6, 0, none⟩ = some (.int .i64 (kn : Int)) := hc8
                go_wp2; exact pure_post rfl rfl rfl
              case o4 =>
                intro W hW; rintro _ ⟨A1, c1, rfl, hr1⟩; rintro _ rfl; change wpList _ _ _ _ _ _
                obtain ⟨ad, y, rfl, hab, hy, hcy⟩ := hr1.get (k := kn) (by omega)
                have hy : T.names[kn]? = some y := hy
                rw [HNm.out] at hy
                cases hy
                have hcy : W.cell? (ad.add kn) = some (.string (T.str nm)) := hcy
                have HCy := kp hcy
                clear hr1 hcy
                go_wp2
                exact made_post rfl rfl rfl (Below.refl _ _) (at_fact HCy.out)
              case o5 => intro W hW; rintro _ ⟨p4, rfl, hc4⟩; change wpList _ _ _ _ _ _; go_wp2; exact pure_post rfl rfl rfl
              case o6 => intro W hW; rintro _ rfl; rintro _ rfl; change wpList _ _ _ _ _ _; go_wp2; exact pure_post rfl rfl rfl
              case o7 => intro W hW; rintro _ rfl; change wpList _ _ _ _ _ _; go_wp2; exact pure_post rfl rfl rfl
            case hend =>
              intro W hW; rintro _ rfl; rintro _ ⟨A1, c1, rfl, hr1⟩; rintro _ rfl; rintro _ rfl; rintro _ ⟨p4, rfl, hc4⟩; rintro _ rfl; rintro _ rfl; rintro _ rfl
              simp only [given, put_lit, List.set]
              have HB9 := kp hW
              have hs9 := hW.size
              have HVk := kp (HW8.out.trans (hW.mono HW8.out.size))
              have hkc : W.cell? ⟨g6, 0, none⟩ = some (.int .i64 (kn : Int)) := (HK8.out.below hW HK8.out.lt).cell 0
              have HKw := kp (HK8.out.below hW HK8.out.lt)
              rw [rf_str]
              obtain ⟨S2, hS2⟩ : ∃ S2, S1 ++ nm = S2 := ⟨_, rfl⟩
              have HS2 := kp hS2
              rw [hS2]
              have hst2 := T.str_size S2
              have hS2l : S2.length ≤ 206 + f * 2000 + i * 25 := by rw [← hS2, List.length_append]; omega
              clear hW hS2 hc3 hcf
              go_wp2_with fail
              refine (rf_told kn hk10 _).mono ?_
              rintro e w10 ⟨rfl, hb10⟩
              have HK10 := kp (HKw.out.below hb10 HKw.out.lt)
              have HV10 := kp (HVk.out.trans (hb10.mono HVk.out.size))
              have hs10 := hb10.size
              clear hb10 hkc
              obtain ⟨tL, htL⟩ : ∃ tL, T.toldL kn = tL := ⟨_, rfl⟩
              have HTL := kp htL
              have htlen : tL.length = (T.tl kn).length := by rw [← htL]; unfold T.toldL; rw [List.length_map]
              have htm := T.tl_len kn
              have hszt : (T.str tL).size = tL.length := T.str_size tL
              rw [htL]
              clear htL
              go_wp2
              go_loopw [3, 8] (fun v3 v8 wk => ∃ k : Nat, k ≤ tL.length ∧ v8 = .int .i64 k ∧ v3 = .string (T.str (S2 ++ T.tail ((T.told x).take k))) ∧ (T.tail ((T.told x).take k)).length ≤ 3 * k ∧ Below w10.heap.size w10 wk) (fun _ v8 _ => tL.length - (intOf v8).toNat)
              case atStart => exact ⟨0, by omega, rfl, by simp [T.tail], by simp [T.tail], Below.refl _ _⟩
              case round =>
                obtain ⟨wk, rfl⟩ : ∃ x, x = wr := ⟨_, rfl⟩
                obtain ⟨k, hk, rfl, rfl, hkl, hwk⟩ := hrel
                have HVw := kp hwk; have HKl := kp hkl
                have hsk := hwk.size
                have HK11 := kp (HK10.out.below hwk HK10.out.lt)
                clear hkl hwk
                by_cases hlk : k < tL.length
                · obtain ⟨j, hj⟩ : ∃ j, (T.tl kn)[k]? = some j := ⟨_, List.getElem?_eq_getElem (by omega)⟩
                  have hj2 := T.tl_le kn j (List.mem_of_getElem? hj)
                  have hb9 := byte_at tL (k := k) (by omega)
                  have hbl : (T.str tL)[k]'(by omega) = T.letter j := by
                    have e : tL[k]? = some (T.letter j) := by rw [← HTL.out]; unfold T.toldL; rw [List.getElem?_map, hj]; rfl
                    rw [e] at hb9; exact (Option.some.inj hb9).symm
                  obtain ⟨v, hv⟩ : ∃ v : Nat, C.fld x j = v := ⟨(C.fld x j).toNat, by have := (HNd.out.fields j hj2).1; omega⟩
                  have hv9 : v < 100 := by have h : C.fld x j ≤ 64 := (HNd.out.fields j hj2).2; omega
                  have hv5 : v < 100000 := by omega
                  have HNx : Kept (T.tail ((T.told x).take (k + 1)) = T.tail ((T.told x).take k) ++ 32 :: Lib.decDigits v) := kp (by
                    have e : (T.told x)[k]? = some (v : Int) := by unfold T.told; rw [List.getElem?_map, HKn.out, Int.toNat_natCast, hj, Option.map_some, hv]
                    rw [List.take_add_one, e, Option.toList_some, tail_snoc]
                    rw [dig_nat])
                  obtain ⟨S3, hS3⟩ : ∃ S3, S2 ++ T.tail ((T.told x).take k) = S3 := ⟨_, rfl⟩
                  have HS3 := kp hS3
                  have hst3 := T.str_size S3
                  have hS3l : S3.length ≤ 206 + f * 2000 + i * 25 + 3 * k := by rw [← hS3, List.length_append]; have := HKl.out; omega
                  have hzv := dec_size hv9
                  have hdl := dec_small100 hv9
                  rw [hS3]
                  have HNs : Kept (T.str S3 ++ (⟨#[32]⟩ : ByteArray) ++ T.str (Lib.decDigits v) = T.str (S2 ++ T.tail ((T.told x).take (k + 1)))) := kp (by
                    have e2 : (⟨#[32]⟩ : ByteArray) = T.str [32] := rfl
                    rw [e2, rf_str, rf_str, HNx.out, ← hS3]
                    congr 1
                    simp)
                  have HNl : Kept ((T.tail ((T.told x).take (k + 1))).length ≤ 3 * (k + 1)) := kp (by rw [HNx.out, List.length_append, List.length_cons]; have := HKl.out; omega)
                  have hj3 : j = 0 ∨ j = 1 ∨ j = 2 := by omega
                  clear hj hb9 hS3
                  rcases hj3 with rfl | rfl | rfl
                  · have hq1 : ((((T.str tL)[k]'(by omega)).toNat : Int) == 97) = true := by rw [hbl]; rfl
                    have hq2 : ((((T.str tL)[k]'(by omega)).toNat : Int) == 110) = false := by rw [hbl]; rfl
                    have hcv : wk.cell? ⟨g6, 1, none⟩ = some (.int .i64 (v : Int)) := by rw [← hv]; exact HK11.out.cell 1
                    have hca : wk.cell? ⟨g6, 3, none⟩ = some (.int .i64 x.alt) := HK11.out.cell 3
                    clear hbl hv
                    go_wp2_with (first | (go_at_call 31; fail))
                    refine (rf_digits v _ hv5).mono ?_
                    rintro e w12 ⟨rfl, hb12⟩
                    have HVx := kp (HVw.out.trans (hb12.mono hsk))
                    clear hb12 hcv hca
                    go_wp2
                    go_roundw
                    case rel => exact ⟨k + 1, by omega, by go_num, by rw [← HNs.out], HNl.out, HVx.out⟩
                    case measure => simp [intOf]; omega
                  · have hq1 : ((((T.str tL)[k]'(by omega)).toNat : Int) == 97) = false := by rw [hbl]; rfl
                    have hq2 : ((((T.str tL)[k]'(by omega)).toNat : Int) == 110) = true := by rw [hbl]; rfl
                    have hcv : wk.cell? ⟨g6, 2, none⟩ = some (.int .i64 (v : Int)) := by rw [← hv]; exact HK11.out.cell 2
                    have hca : wk.cell? ⟨g6, 3, none⟩ = some (.int .i64 x.alt) := HK11.out.cell 3
                    clear hbl hv
                    go_wp2_with (first | (go_at_call 31; fail))
                    refine (rf_digits v _ hv5).mono ?_
                    rintro e w12 ⟨rfl, hb12⟩
                    have HVx := kp (HVw.out.trans (hb12.mono hsk))
                    clear hb12 hcv hca
                    go_wp2
                    go_roundw
                    case rel => exact ⟨k + 1, by omega, by go_num, by rw [← HNs.out], HNl.out, HVx.out⟩
                    case measure => simp [intOf]; omega
                  · have hq1 : ((((T.str tL)[k]'(by omega)).toNat : Int) == 97) = false := by rw [hbl]; rfl
                    have hq2 : ((((T.str tL)[k]'(by omega)).toNat : Int) == 110) = false := by rw [hbl]; rfl
                    have hcv : wk.cell? ⟨g6, 3, none⟩ = some (.int .i64 (v : Int)) := by rw [← hv]; exact HK11.out.cell 3
                    clear hbl hv
                    go_wp2_with (first | (go_at_call 31; fail))
                    refine (rf_digits v _ hv5).mono ?_
                    rintro e w12 ⟨rfl, hb12⟩
                    have HVx := kp (HVw.out.trans (hb12.mono hsk))
                    clear hb12 hcv
                    go_wp2
                    go_roundw
                    case rel => exact ⟨k + 1, by omega, by go_num, by rw [← HNs.out], HNl.out, HVx.out⟩
                    case measure => simp [intOf]; omega
                · have hke : k = tL.length := by omega
                  have hall : (T.told x).take k = T.told x := by
                    refine List.take_of_length_le ?_
                    unfold T.told
                    rw [List.length_map, HKn.out, Int.toNat_natCast]
                    omega
                  have HNx : Kept (T.text (hd :: (T.linesL ((C.dataOf p).L.take f) ++ T.func :: (fn.nodes.take (i + 1)).map T.ndL)) = S2 ++ T.tail (T.told x) ++ [10]) := kp (by
                    have e : (fn.nodes.take (i + 1)).map T.ndL = (fn.nodes.take i).map T.ndL ++ [T.ndL x] := by rw [List.take_add_one, HXn.out]; simp
                    have e2 : hd :: (T.linesL ((C.dataOf p).L.take f) ++ T.func :: ((fn.nodes.take i).map T.ndL ++ [T.ndL x])) = (hd :: (T.linesL ((C.dataOf p).L.take f) ++ T.func :: (fn.nodes.take i).map T.ndL)) ++ [T.ndL x] := by simp
                    rw [e, e2, text_snoc, HS1.out, ← HS2.out]
                    unfold T.ndL T.lineOf
                    rw [HNmk.out]
                    simp)
                  have HNl : Kept ((T.text (hd :: (T.linesL ((C.dataOf p).L.take f) ++ T.func :: (fn.nodes.take (i + 1)).map T.ndL))).length ≤ 200 + f * 2000 + (i + 1) * 25) := kp (by
                    rw [HNx.out, List.length_append, List.length_append, List.length_singleton]
                    have h1 := HKl.out
                    rw [hall] at h1
                    have h2 : S2.length = S1.length + nm.length := by rw [← HS2.out, List.length_append]
                    omega)
                  have HNs : Kept (T.str (S2 ++ T.tail (T.told x)) ++ (⟨#[10]⟩ : ByteArray) = T.str (T.text (hd :: (T.linesL ((C.dataOf p).L.take f) ++ T.func :: (fn.nodes.take (i + 1)).map T.ndL)))) := kp (by
                    rw [HNx.out, ← rf_str (S2 ++ T.tail (T.told x)) [10]]; rfl)
                  have HVz := kp (HVq.out.trans ((HV10.out.trans (HVw.out.mono (by have := HV10.out.size; omega))).mono hsq))
                  obtain ⟨S3, hS3⟩ : ∃ S3, S2 ++ T.tail (T.told x) = S3 := ⟨_, rfl⟩
                  have hst3 := T.str_size S3
                  have hS3l : S3.length ≤ 206 + f * 2000 + i * 25 + 9 := by rw [← hS3, List.length_append]; have h1 := HKl.out; rw [hall] at h1; omega
                  rw [hall, hS3]
                  rw [hS3] at HNs
                  clear hall hS3
                  go_wp2
                  go_roundw
                  case rel => exact ⟨i + 1, by omega, by go_num, by rw [← HNs.out], HNl.out, HVz.out⟩
                  case measure => simp [intOf]; omega
          · have hie : i = fn.len := by omega
            have HNx : Kept (T.linesL ((C.dataOf p).L.take (f + 1)) = T.linesL ((C.dataOf p).L.take f) ++ T.func :: (fn.nodes.take i).map T.ndL) := kp (by
              rw [List.take_add_one, HLf.out, hie, ← HNl.out, List.take_length]
              simp [T.linesL, T.fnL])
            have HVz := kp (HVr.out.trans (HVq.out.mono hsr))
            go_wp2
            go_roundw
            case rel => exact ⟨f + 1, by omega, by go_num, by rw [HNx.out], by rw [HNx.out]; have := HTq.out; omega, HVz.out⟩
            case measure => simp [intOf]; omega
      · have hfe : f = p.len := by omega
        have HNx : Kept (T.text (hd :: T.linesL ((C.dataOf p).L.take f)) = T.print (C.dataOf p)) := kp (by
          have h : (C.dataOf p).L.take f = (C.dataOf p).L := by
            refine List.take_of_length_le ?_
            unfold C.dataOf
            rw [List.length_map, HLen.out]; omega
          rw [h, ← HHd.out]
          rfl)
        rw [HNx.out]
        go_wp2
        go_ret
        exact ⟨rfl, HWr.out⟩
end Go.Proofs.YtiojobajcnifpaaDoor
