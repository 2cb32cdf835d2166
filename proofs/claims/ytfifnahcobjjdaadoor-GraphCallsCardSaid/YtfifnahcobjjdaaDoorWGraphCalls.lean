/- GraphCalls, walked. -/
import Derived.Test.YtfifnahcobjjdaaDoorGraphLaw1
import Derived.Test.YtfifnahcobjjdaaDoorPk4
import Derived.Test.YtfifnahcobjjdaaDoorPk16
import Derived.Laws.BitsAllLaws
namespace Go.Proofs.YtfifnahcobjjdaaDoor
open Go.RowKit

theorem graph_reach_one (B : Nat) (p : Pg) (w : World) (hp : p.Ok w B) (hB : B ≤ w.heap.size) (hs : Q.small p = true) (h32 : p.len ≤ 32) (a : Nat) (ha : a < 4294967296) (ht : Tab w) (m : Nat) (hm : BitsAre m (Comes p (fun x => a.testBit x = true))) :
    Calls Tryd.prog 11 #[pgA p, .int .u32 (a : Int)] w fun e w' => e = .returned (.int .u32 (m : Int)) ∧ Below w.heap.size w w' :=
  (graph_reach B p w hp hB hs h32 a ha ht).mono (by
    rintro e w' ⟨m', rfl, h, hb⟩
    rw [h.uniq hm]
    exact ⟨rfl, hb⟩)

theorem graph_begun_one (B : Nat) (p : Pg) (w : World) (hp : p.Ok w B) (hB : B ≤ w.heap.size) (hs : Q.small p = true) (h32 : p.len ≤ 32) (m : Nat) (hm : BitsAre m (fun id => ∃ fn ∈ p.fns, Names fn.nodes 5 id)) :
    Calls Tryd.prog 10 #[pgA p] w fun e w' => e = .returned (.int .u32 (m : Int)) ∧ Below w.heap.size w w' :=
  (graph_begun B p w hp hB hs h32).mono (by
    rintro e w' ⟨m', rfl, h, hb⟩
    rw [h.uniq hm]
    exact ⟨rfl, hb⟩)

theorem ref_named_one (B : Nat) (A : Option Addr) (n c : Nat) (l : List Nd) (kind : Int) (w : World) (hr : Nodes w B A n l) (hn : n ≤ 1000000) (hB : B ≤ w.heap.size) (cs : List Nat) (hcs : namedL l kind = cs) :
    Calls Tryd.prog 9 #[.slice A n c, .int .i64 kind] w fun e w' => ∃ v, e = .returned v ∧ Own w' w.heap.size 3 v (cs.map natV) ∧ Below w.heap.size w w' := by
  subst hcs
  exact ref_named B A n c l kind w hr hn hB

theorem ref_list_one (m : Nat) (hm : m < 4294967296) (w : World) (cs : List Nat) (hcs : S.ids m 32 = cs) :
    Calls Tryd.prog 13 #[.int .u32 (m : Int)] w fun e w' => ∃ v, e = .returned v ∧ Own w' w.heap.size 3 v (cs.map natV) ∧ Below w.heap.size w w' := by
  subst hcs
  exact ref_list m hm w

theorem ref_reach_one (B : Nat) (p : Pg) (w : World) (hp : p.Ok w B) (A2 : Option Addr) (n2 c2 : Nat) (fr : List Nat) (B2 : Nat) (hr2 : Row natV w B2 A2 n2 fr) (hn2 : n2 ≤ 100000) (hB : B ≤ w.heap.size) (hB2 : B2 ≤ w.heap.size) (h32 : p.len ≤ 32) (hsm : Q.small p = true) (cs : List Nat) (hcs : reachL p (fun x => x ∈ fr) = cs) :
    Calls Tryd.prog 12 #[pgA p, .slice A2 n2 c2] w fun e w' => ∃ v, e = .returned v ∧ Own w' w.heap.size 3 v (cs.map natV) ∧ Below w.heap.size w w' := by
  subst hcs
  refine (ref_reach w.heap.size p w (hp.more hB) A2 n2 c2 fr (hr2.more hB2) hn2 (Nat.le_refl _) h32 hsm).mono ?_
  rintro e w' ⟨v, o, rfl, ho, hown, hb⟩
  rw [reach_list ho] at hown
  exact ⟨v, rfl, hown, hb⟩

set_option maxRecDepth 1000000 in
set_option maxHeartbeats 8000000 in
theorem walkGraphCalls (pg0 : Pg) (a1 : Int) (w : World) (w0 : pg0.Ok w w.heap.size) (w1 : (Lit.int .u32 a1).wf = true) (hL : Tab w) :
    Calls Tryd.prog 3 #[pgA pg0, .int .u32 a1] w fun e w' => e = .returned (.bool true) ∧ Below w.heap.size w w' := by
  obtain ⟨a, rfl, ha⟩ := nat_u32 w1
  clear w1
  have HP := kp w0
  have HT := kp hL
  have hw1 := hL.size
  clear w0 hL
  obtain ⟨r, hr⟩ : ∃ r, Q.small pg0 = r := ⟨_, rfl⟩
  have HR := kp hr
  clear hr
  rw [pgA_is]
  cases r
  · go_enter Tryd.func3, Tryd.ntmps3
    go_wp2_with (first
      | ((with_reducible refine wpList_box_agg rfl 24 (.tmp 0) rfl (pgC pg0) rfl ?_); intro g1 u1 hg1 hk1 hu1; have HK1 := kp hk1; have HU1 := kp hu1; have hz1 := hu1.size; clear hg1 hk1 hu1))
    refine (awake_any u1).mono ?_
    rintro e w1 ⟨rfl, hb1⟩
    have HW1 : Kept (Below w.heap.size w w1) := kp (HU1.out.trans (hb1.mono hz1))
    have hs1 := HW1.out.size
    have HP1 := kp (HP.out.below HW1.out)
    have HKa := kp (HK1.out.below hb1 HK1.out.lt)
    obtain ⟨hc0, hc1, hc2, hc3⟩ := pg_cells HKa.out
    clear hb1
    go_wp2_with fail
    refine (ref_small _ pg0 w1 HP1.out hs1 _ HR.out).mono ?_
    rintro e w2 ⟨rfl, hb2⟩
    have HW2 : Kept (Below w.heap.size w w2) := kp (HW1.out.trans (hb2.mono hs1))
    have hs2 := HW2.out.size
    have HP2 := kp (HP.out.below HW2.out)
    have HKb := kp (HKa.out.below hb2 HKa.out.lt)
    clear hb2 hc0 hc1 hc2 hc3
    obtain ⟨hc0, hc1, hc2, hc3⟩ := pg_cells HKb.out
    go_wp2_with fail
    refine (awake_any w2).mono ?_
    rintro e w9 ⟨rfl, hb9⟩
    have HW9 := kp (HW2.out.trans (hb9.mono hs2))
    clear hb9
    go_wp2
    go_ret
    exact ⟨rfl, HW9.out⟩
  · by_cases h32 : pg0.len ≤ 32
    · go_enter Tryd.func3, Tryd.ntmps3
      go_wp2_with (first
        | ((with_reducible refine wpList_box_agg rfl 24 (.tmp 0) rfl (pgC pg0) rfl ?_); intro g1 u1 hg1 hk1 hu1; have HK1 := kp hk1; have HU1 := kp hu1; have hz1 := hu1.size; clear hg1 hk1 hu1))
      refine (awake_any u1).mono ?_
      rintro e w1 ⟨rfl, hb1⟩
      have HW1 : Kept (Below w.heap.size w w1) := kp (HU1.out.trans (hb1.mono hz1))
      have hs1 := HW1.out.size
      have HP1 := kp (HP.out.below HW1.out)
      have HKa := kp (HK1.out.below hb1 HK1.out.lt)
      obtain ⟨hc0, hc1, hc2, hc3⟩ := pg_cells HKa.out
      clear hb1
      go_wp2_with fail
      refine (ref_small _ pg0 w1 HP1.out hs1 _ HR.out).mono ?_
      rintro e w2 ⟨rfl, hb2⟩
      have HW2 : Kept (Below w.heap.size w w2) := kp (HW1.out.trans (hb2.mono hs1))
      have hs2 := HW2.out.size
      have HP2 := kp (HP.out.below HW2.out)
      have HKb := kp (HKa.out.below hb2 HKa.out.lt)
      clear hb2 hc0 hc1 hc2 hc3
      obtain ⟨hc0, hc1, hc2, hc3⟩ := pg_cells HKb.out
      obtain ⟨m, hm⟩ : ∃ m, BitsAre m (Comes pg0 (fun x => a.testBit x = true)) := ⟨_, reach_bits pg0 _ h32⟩
      have HM := kp hm
      have hl32 : decide ((32 : Int) < (pg0.len : Int)) = false := by simp; omega
      clear hm
      go_wp2_with fail
      refine (graph_callees _ pg0 w2 HP2.out hs2 HR.out h32).mono ?_
      rintro e w3 ⟨v3, ms, rfl, hml, hms, hown, hb3⟩
      have HW3 : Kept (Below w.heap.size w w3) := kp (HW2.out.trans (hb3.mono hs2))
      have hs3 := HW3.out.size
      obtain ⟨Am, cm, rfl, hcm1, hcm2, hrm⟩ := hown.readsN hml
      have HMl := kp hml; have HMs := kp hms; have HRm := kp hrm
      have HK3 := kp (HKb.out.below hb3 HKb.out.lt)
      unfold maxLen at hcm2
      clear hb3 hown hrm hms hml hc0 hc1 hc2 hc3
      obtain ⟨hc0, hc1, hc2, hc3⟩ := pg_cells HK3.out
      have hlc := HP.out.lc
      have hcm9 := HP.out.cm
      unfold maxLen at hcm9
      have HLen := kp HP.out.row.len
      have HSm : Kept (∀ f ∈ pg0.fns, f.nodes.length ≤ 100) := kp (by
        have hsm := HR.out
        unfold Q.small at hsm
        rw [Bool.and_eq_true] at hsm
        intro f hf
        simpa using List.all_eq_true.1 hsm.2 f hf)
      have hnn : ((pg0.len : Int) != (pg0.len : Int)) = false := by simp
      go_wp2
      clear hc0 hc1 hc2 hc3
      go_loopw [6, 7] (fun v6 v7 wr => ∃ (f q : Nat), f ≤ pg0.len ∧ v7 = .int .i64 f ∧ v6 = .int .u32 (q : Int) ∧ BitsAre q (fun id => ∃ fn ∈ pg0.fns.take f, Names fn.nodes 5 id) ∧ Below w3.heap.size w3 wr) (fun _ v7 _ => pg0.len - (intOf v7).toNat)
      case atStart => exact ⟨0, 0, by omega, rfl, rfl, bits_none.congr (fun id _ => by simp), Below.refl _ _⟩
      case round =>
        obtain ⟨f, q, hf, rfl, rfl, hq, hbl⟩ := hrel
        have HQ := kp hq; have HBL := kp hbl
        have hszr := hbl.size
        have HWr := kp (HW3.out.trans (hbl.mono hs3))
        have hswr := HWr.out.size
        have HKr := kp (HK3.out.below hbl HK3.out.lt)
        have hq32 := hq.1
        have HPA : Kept (∀ W, Below wr.heap.size wr W → pg0.Ok W w.heap.size) := kp fun W hW => HP.out.below (HWr.out.trans (hW.mono hswr))
        have HTA : Kept (∀ W, Below wr.heap.size wr W → Tab W) := kp fun W hW => HT.out.below (HWr.out.trans (hW.mono hswr)) hw1
        have HSZ : Kept (∀ W, Below wr.heap.size wr W → w.heap.size ≤ W.heap.size) := kp fun W hW => by have := hW.size; omega
        have HCA : Kept (∀ W, Below wr.heap.size wr W → W.cell? ⟨g1, 0, none⟩ = some (.int .i64 pg0.g) ∧ W.cell? ⟨g1, 1, none⟩ = some (.int .i64 pg0.l) ∧ W.cell? ⟨g1, 2, none⟩ = some (.int .i64 pg0.s) ∧ W.cell? ⟨g1, 3, none⟩ = some (.slice pg0.A pg0.len pg0.cap)) := kp fun W hW => pg_cells (HKr.out.below hW HKr.out.lt)
        clear hq hbl
        by_cases hlt : f < pg0.len
        · obtain ⟨ad, fn, e1, hab, hx, hok, hcf⟩ := (HPA.out wr (Below.refl _ _)).fn hlt
          obtain ⟨adm, m0, em, habm, hxm, hcm⟩ := (HRm.out.below HBL.out).get hlt
          have HBm := kp (HMs.out f fn m0 hx hxm)
          have HE1 := kp e1; have HX := kp hx
          have HAb : Kept (ad.block < wr.heap.size) := kp (by omega)
          have HAdm : Kept (adm.block < wr.heap.size) := kp (by omega)
          have HCf := kp hcf; have HCm := kp hcm
          have HNd : Kept (∀ W, Below wr.heap.size wr W → Nodes W w.heap.size fn.A fn.len fn.nodes) := kp fun W hW => by
            obtain ⟨_, fn', e1', _, hx', hok', _⟩ := (HPA.out W hW).fn hlt
            rw [HX.out] at hx'
            cases hx'
            exact hok'.nodes
          have hfl : fn.len ≤ 1000000 := by
            have h1 := HSm.out fn (List.mem_of_getElem? hx)
            have h2 := hok.nodes.1.len
            omega
          obtain ⟨cs, hcs⟩ : ∃ cs, namedL fn.nodes 7 = cs := ⟨_, rfl⟩
          obtain ⟨nc, hnc0⟩ : ∃ nc, cs.length = nc := ⟨_, rfl⟩
          have hnc : nc ≤ 100000 := by rw [← hnc0, ← hcs]; have := namedTo_len fn.nodes 7 32; unfold namedL; omega
          have HMk : Kept (S.mask cs % 4294967296 = m0) := kp (by rw [← hcs]; exact mask_small (bits_named _ _) HBm.out)
          obtain ⟨cs5, hcs5⟩ : ∃ cs, namedL fn.nodes 5 = cs := ⟨_, rfl⟩
          obtain ⟨nc5, hnc05⟩ : ∃ nc, cs5.length = nc := ⟨_, rfl⟩
          have hnc5 : nc5 ≤ 100000 := by rw [← hnc05, ← hcs5]; have := namedTo_len fn.nodes 5 32; unfold namedL; omega
          obtain ⟨m5, hm5⟩ : ∃ m5, S.mask cs5 % 4294967296 = m5 := ⟨_, rfl⟩
          have HB5 : Kept (BitsAre m5 (Names fn.nodes 5)) := kp (by rw [← hm5, ← hcs5, Nat.mod_eq_of_lt (bits_named _ _).1]; exact bits_named _ _)
          have HCs := kp hcs; have HNc := kp hnc0; have HCs5 := kp hcs5; have HNc5 := kp hnc05; have HM5 := kp hm5
          have hm532 : m5 < 4294967296 := by rw [← hm5]; exact Nat.mod_lt _ (by omega)
          have HQN : Kept (BitsAre (q ||| m5) (fun id => ∃ fn ∈ pg0.fns.take (f + 1), Names fn.nodes 5 id)) := kp ((bits_or HQ.out HB5.out).congr fun id _ => by
            rw [List.take_add_one, HX.out]
            simp only [Option.toList_some, List.mem_append, List.mem_singleton]
            constructor
            · rintro (⟨g, h1, h2⟩ | h)
              · exact ⟨g, .inl h1, h2⟩
              · exact ⟨fn, .inr rfl, h⟩
            · rintro ⟨g, h1 | rfl, h2⟩
              · exact .inl ⟨g, h1, h2⟩
              · exact .inr h2)
          have hor : bits .or .u32 (q : Int) (m5 : Int) = ((q ||| m5 : Nat) : Int) := u32_or_nat q m5 hq32 hm532
          obtain ⟨qn, hqn⟩ : ∃ qn, q ||| m5 = qn := ⟨_, rfl⟩
          rw [hqn] at hor HQN
          subst em
          clear e1 hx hok hcf hxm hcm hcs hnc0 hcs5 hnc05 hm5 hqn
          go_wp2
          apply region_list (.is _ :: .is _ :: .is _ :: .is _ :: .is _ :: .is _ :: .is _ :: .is _ :: .is _ :: .row natV nc cs :: .is _ :: .is _ :: [])
            [[], [], [(0, 36), (1, 37)], [(2, 38)], [], [(4, 40)], [], [(5, 41), (6, 42)], [(7, 43)], [(8, 44)], [(9, 45)], [(3, 39), (10, 46)]]
            [(0, 36), (1, 37), (2, 38), (3, 39), (4, 40), (5, 41), (6, 42), (7, 43), (8, 44), (9, 45), (10, 46), (11, 47)] (by kernel_rfl) (by kernel_rfl)
          case hob =>
            refine ⟨?o0, ?o1, ?o2, ?o3, ?o4, ?o5, ?o6, ?o7, ?o8, ?o9, ?o10, ?o11, trivial⟩
            case o0 => intro W hW; change wpList _ _ _ _ _ _; go_wp2; exact pure_post rfl rfl rfl
            case o1 => intro W hW; change wpList _ _ _ _ _ _; go_wp2; exact pure_post rfl rfl rfl
            case o2 => intro W hW; rintro _ rfl; rintro _ rfl; change wpList _ _ _ _ _ _; go_wp2; exact pure_post rfl rfl rfl
            case o3 =>
              intro W hW; rintro _ rfl; change wpList _ _ _ _ _ _
              have hq := (Below.cell hW (p := adm.add f) (by rw [add_block]; exact HAdm.out)).trans HCm.out; rw [wordV_def] at hq
              go_wp2; exact pure_post rfl rfl rfl
            case o4 => intro W hW; change wpList _ _ _ _ _ _; go_wp2; exact pure_post rfl rfl rfl
            case o5 =>
              intro W hW; rintro _ rfl; change wpList _ _ _ _ _ _
              obtain ⟨hc0, hc1, hc2, hc3⟩ := HCA.out W hW; rw [HE1.out] at hc3
              go_wp2; exact pure_post rfl rfl rfl
            case o6 => intro W hW; change wpList _ _ _ _ _ _; go_wp2; exact pure_post rfl rfl rfl
            case o7 => intro W hW; rintro _ rfl; rintro _ rfl; change wpList _ _ _ _ _ _; go_wp2; exact pure_post rfl rfl rfl
            case o8 =>
              intro W hW; rintro _ rfl; change wpList _ _ _ _ _ _
              have hq := (Below.cell hW (p := ad.add f) (by rw [add_block]; exact HAb.out)).trans HCf.out
              go_wp2; exact pure_post rfl rfl rfl
            case o9 =>
              intro W hW; rintro _ rfl; change wpList _ _ _ _ _ _
              go_wp2_with fail
              refine (ref_named_one _ fn.A fn.len fn.cap fn.nodes 7 W (HNd.out W hW) hfl (HSZ.out W hW) cs HCs.out).mono ?_
              rintro e w2 ⟨v2, rfl, hown2, hb2⟩
              obtain ⟨A, cap, rfl, _, _, hr2⟩ := hown2.readsN HNc.out
              have HR2 := kp hr2; have HB2 := kp hb2; clear hown2 hr2 hb2
              go_wp2
              exact made_post rfl rfl rfl HB2.out ⟨A, cap, rfl, HR2.out⟩
            case o10 =>
              intro W hW; rintro _ ⟨A9, c9, rfl, hr9⟩; change wpList _ _ _ _ _ _
              go_wp2_with fail
              refine (ref_mask _ A9 nc c9 cs W hr9 (by rw [← HCs.out]; exact named_le _ _) hnc m0 HMk.out).mono ?_
              rintro e w2 ⟨rfl, rfl⟩
              go_wp2
              exact pure_post rfl rfl rfl
            case o11 => intro W hW; rintro _ rfl; rintro _ rfl; change wpList _ _ _ _ _ _; go_wp2; exact pure_post rfl rfl rfl
          case hend =>
            intro W hW; rintro _ rfl; rintro _ rfl; rintro _ rfl; rintro _ rfl; rintro _ rfl; rintro _ rfl; rintro _ rfl; rintro _ rfl; rintro _ rfl; rintro _ ⟨A9, c9, rfl, hr9⟩; rintro _ rfl; rintro _ rfl
            simp only [given, put_lit, List.set]
            have HWa := kp (HWr.out.trans (hW.mono hswr))
            have hsa := HWa.out.size
            have HBa := kp (HBL.out.trans (hW.mono hszr))
            have hcq := (Below.cell hW (p := ad.add f) (by rw [add_block]; exact HAb.out)).trans HCf.out
            have HNa := kp (HNd.out W hW)
            have hmm : ((m0 : Int) != (m0 : Int)) = false := by simp
            obtain ⟨hc0, hc1, hc2, hc3⟩ := HCA.out W hW
            rw [HE1.out] at hc3
            clear hr9
            go_wp2_with fail
            refine (ref_named_one _ fn.A fn.len fn.cap fn.nodes 5 W HNa.out hfl (HSZ.out W hW) cs5 HCs5.out).mono ?_
            rintro e w5 ⟨v5, rfl, hown5, hb5⟩
            obtain ⟨A5, c5, rfl, _, _, hr5⟩ := hown5.readsN HNc5.out
            have HR5 := kp hr5
            have HWb := kp (HBa.out.trans (hb5.mono (Nat.le_trans hszr hW.size)))
            clear hown5 hr5 hb5 hc0 hc1 hc2 hc3 hcq
            go_wp2_with fail
            refine (ref_mask _ A5 nc5 c5 cs5 w5 HR5.out (by rw [← HCs5.out]; exact named_le _ _) hnc5 m5 HM5.out).mono ?_
            rintro e w6 ⟨rfl, rfl⟩
            go_wp2
            go_roundw
            case rel => exact ⟨f + 1, qn, by omega, by go_num, rfl, HQN.out, HWb.out⟩
            case measure => simp [intOf]; omega
        · have hge : pg0.len ≤ f := by omega
          have HBe : Kept (BitsAre q (fun id => ∃ fn ∈ pg0.fns, Names fn.nodes 5 id)) := kp (by
            have h := HQ.out
            rw [List.take_of_length_le (by rw [HLen.out]; omega)] at h
            exact h)
          obtain ⟨fr, hfr⟩ : ∃ fr, S.ids a 32 = fr := ⟨_, rfl⟩
          obtain ⟨nf, hnf0⟩ : ∃ nf, fr.length = nf := ⟨_, rfl⟩
          have hnf : nf ≤ 100000 := by
            rw [← hnf0, ← hfr]
            have := List.length_filter_le (fun i => a.testBit i) (List.range 32)
            unfold S.ids
            simp at this ⊢
            omega
          obtain ⟨rl, hrl⟩ : ∃ rl, reachL pg0 (fun x => x ∈ fr) = rl := ⟨_, rfl⟩
          obtain ⟨nr, hnr0⟩ : ∃ nr, rl.length = nr := ⟨_, rfl⟩
          have hnr : nr ≤ 100000 := by rw [← hnr0, ← hrl]; have := trueTo_len (fun i => @decide (Comes pg0 (fun x => x ∈ fr) i) (Classical.propDecidable _)) pg0.len; unfold reachL; omega
          have HMr : Kept (S.mask rl % 4294967296 = m) := kp (by
            rw [← hrl]
            refine mask_small (reach_bits pg0 _ h32) (HM.out.congr fun id _ => ?_)
            exact comes_congr (fun j => by rw [← hfr, ids_in ha]) id)
          have HFr := kp hfr; have HNf := kp hnf0; have HRl := kp hrl; have HNr := kp hnr0
          have hqq : ((q : Int) == (q : Int)) = true := by simp
          clear hlt hfr hnf0 hrl hnr0
          go_wp2
          apply region_list (.is _ :: .is _ :: .is _ :: .is _ :: .is _ :: .is _ :: .is _ :: .is _ :: .is _ :: .is _ :: .row natV nf fr :: .row natV nr rl :: .is _ :: .is _ :: .is _ :: .is _ :: [])
            [[], [(0, 57)], [], [(1, 58), (2, 59)], [(3, 60)], [(4, 61)], [(4, 61)], [(5, 62), (6, 63), (4, 61)], [(4, 61)], [(4, 61)], [(9, 66), (4, 61)], [(8, 65), (10, 67), (4, 61)], [(11, 68), (4, 61)], [(7, 64), (12, 69), (4, 61)], [(4, 61), (13, 70)], [(14, 71)]]
            [(0, 57), (1, 58), (2, 59), (3, 60), (4, 61), (5, 62), (6, 63), (7, 64), (8, 65), (9, 66), (10, 67), (11, 68), (12, 69), (13, 70), (14, 71), (15, 4)] (by kernel_rfl) (by kernel_rfl)
          case hob =>
            refine ⟨?o0, ?o1, ?o2, ?o3, ?o4, ?o5, ?o6, ?o7, ?o8, ?o9, ?o10, ?o11, ?o12, ?o13, ?o14, ?o15, trivial⟩
            case o0 =>
              intro W hW; change wpList _ _ _ _ _ _
              obtain ⟨hc0, hc1, hc2, hc3⟩ := HCA.out W hW
              go_wp2; exact pure_post rfl rfl rfl
            case o1 =>
              intro W hW; rintro _ rfl; change wpList _ _ _ _ _ _
              go_wp2_with fail
              refine (graph_begun_one _ pg0 W (HPA.out W hW) (HSZ.out W hW) HR.out h32 q HBe.out).mono ?_
              rintro e w2 ⟨rfl, hb2⟩
              have HB2 := kp hb2; clear hb2
              go_wp2
              exact made_post rfl rfl rfl HB2.out rfl
            case o2 => intro W hW; change wpList _ _ _ _ _ _; go_wp2; exact pure_post rfl rfl rfl
            case o3 => intro W hW; rintro _ rfl; rintro _ rfl; change wpList _ _ _ _ _ _; go_wp2; exact pure_post rfl rfl rfl
            case o4 => intro W hW; rintro _ rfl; change wpList _ _ _ _ _ _; go_wp2; exact pure_post rfl rfl rfl
            case o5 =>
              intro W hW; rintro _ rfl; change wpList _ _ _ _ _ _
              obtain ⟨hc0, hc1, hc2, hc3⟩ := HCA.out W hW
              go_wp2; exact pure_post rfl rfl rfl
            case o6 => intro W hW; rintro _ rfl; change wpList _ _ _ _ _ _; go_wp2; exact pure_post rfl rfl rfl
            case o7 =>
              intro W hW; rintro _ rfl; rintro _ rfl; rintro _ rfl; change wpList _ _ _ _ _ _
              go_wp2_with fail
              refine (graph_reach_one _ pg0 W (HPA.out W hW) (HSZ.out W hW) HR.out h32 a ha (HTA.out W hW) m HM.out).mono ?_
              rintro e w2 ⟨rfl, hb2⟩
              have HB2 := kp hb2; clear hb2
              go_wp2
              exact made_post rfl rfl rfl HB2.out rfl
            case o8 =>
              intro W hW; rintro _ rfl; change wpList _ _ _ _ _ _
              obtain ⟨hc0, hc1, hc2, hc3⟩ := HCA.out W hW
              go_wp2; exact pure_post rfl rfl rfl
            case o9 => intro W hW; rintro _ rfl; change wpList _ _ _ _ _ _; go_wp2; exact pure_post rfl rfl rfl
            case o10 =>
              intro W hW; rintro _ rfl; rintro _ rfl; change wpList _ _ _ _ _ _
              go_wp2_with fail
              refine (ref_list_one a ha W fr HFr.out).mono ?_
              rintro e w2 ⟨v2, rfl, hown2, hb2⟩
              obtain ⟨A, cap, rfl, _, _, hr2⟩ := hown2.readsN HNf.out
              have HR2 := kp hr2; have HB2 := kp hb2; clear hown2 hr2 hb2
              go_wp2
              exact made_post rfl rfl rfl HB2.out ⟨A, cap, rfl, HR2.out⟩
            case o11 =>
              intro W hW; rintro _ rfl; rintro _ ⟨A10, c10, rfl, hr10⟩; rintro _ rfl; change wpList _ _ _ _ _ _
              go_wp2_with fail
              refine (ref_reach_one _ pg0 W (HPA.out W hW) A10 nf c10 fr _ hr10 hnf (HSZ.out W hW) (Nat.le_refl _) h32 HR.out rl HRl.out).mono ?_
              rintro e w2 ⟨v2, rfl, hown2, hb2⟩
              obtain ⟨A, cap, rfl, _, _, hr2⟩ := hown2.readsN HNr.out
              have HR2 := kp hr2; have HB2 := kp hb2; clear hown2 hr2 hb2
              go_wp2
              exact made_post rfl rfl rfl HB2.out ⟨A, cap, rfl, HR2.out⟩
            case o12 =>
              intro W hW; rintro _ ⟨A11, c11, rfl, hr11⟩; rintro _ rfl; change wpList _ _ _ _ _ _
              go_wp2_with fail
              refine (ref_mask _ A11 nr c11 rl W hr11 (by rw [← HRl.out]; exact reach_le _ _ h32) hnr m HMr.out).mono ?_
              rintro e w2 ⟨rfl, rfl⟩
              go_wp2
              exact pure_post rfl rfl rfl
            case o13 => intro W hW; rintro _ rfl; rintro _ rfl; rintro _ rfl; change wpList _ _ _ _ _ _; go_wp2; exact pure_post rfl rfl rfl
            case o14 => intro W hW; rintro _ rfl; rintro _ rfl; change wpList _ _ _ _ _ _; go_wp2; exact pure_post rfl rfl rfl
            case o15 => intro W hW; rintro _ rfl; change wpList _ _ _ _ _ _; go_wp2; exact pure_post rfl rfl rfl
          case hend =>
            intro W hW; rintro _ rfl; rintro _ rfl; rintro _ rfl; rintro _ rfl; rintro _ rfl; rintro _ rfl; rintro _ rfl; rintro _ rfl; rintro _ rfl; rintro _ rfl; rintro _ ⟨A10, c10, rfl, hr10⟩; rintro _ ⟨A11, c11, rfl, hr11⟩; rintro _ rfl; rintro _ rfl; rintro _ rfl; rintro _ rfl
            simp only [given, put_lit, List.set]
            have HWa := kp (HWr.out.trans (hW.mono hswr))
            clear hr10 hr11
            go_wp2
            go_ret
            exact ⟨rfl, HWa.out⟩
    · go_enter Tryd.func3, Tryd.ntmps3
      go_wp2_with (first
        | ((with_reducible refine wpList_box_agg rfl 24 (.tmp 0) rfl (pgC pg0) rfl ?_); intro g1 u1 hg1 hk1 hu1; have HK1 := kp hk1; have HU1 := kp hu1; have hz1 := hu1.size; clear hg1 hk1 hu1))
      refine (awake_any u1).mono ?_
      rintro e w1 ⟨rfl, hb1⟩
      have HW1 : Kept (Below w.heap.size w w1) := kp (HU1.out.trans (hb1.mono hz1))
      have hs1 := HW1.out.size
      have HP1 := kp (HP.out.below HW1.out)
      have HKa := kp (HK1.out.below hb1 HK1.out.lt)
      obtain ⟨hc0, hc1, hc2, hc3⟩ := pg_cells HKa.out
      clear hb1
      go_wp2_with fail
      refine (ref_small _ pg0 w1 HP1.out hs1 _ HR.out).mono ?_
      rintro e w2 ⟨rfl, hb2⟩
      have HW2 : Kept (Below w.heap.size w w2) := kp (HW1.out.trans (hb2.mono hs1))
      have hs2 := HW2.out.size
      have HP2 := kp (HP.out.below HW2.out)
      have HKb := kp (HKa.out.below hb2 HKa.out.lt)
      clear hb2 hc0 hc1 hc2 hc3
      obtain ⟨hc0, hc1, hc2, hc3⟩ := pg_cells HKb.out
      have hgt : decide ((32 : Int) < (pg0.len : Int)) = true := by simp; omega
      clear h32
      go_wp2_with fail
      refine (awake_any w2).mono ?_
      rintro e w9 ⟨rfl, hb9⟩
      have HW9 := kp (HW2.out.trans (hb9.mono hs2))
      clear hb9
      go_wp2
      go_ret
      exact ⟨rfl, HW9.out⟩
end Go.Proofs.YtfifnahcobjjdaaDoor
