/- GraphP4, GraphP5, GraphP, in one text. -/
import Derived.Test.YtfifnahcobjjdaaPk10
import Derived.Test.YtfifnahcobjjdaaPk4
import Derived.Test.YtfifnahcobjjdaaOwns
import Derived.Test.YtfifnahcobjjdaaProgP1
import Derived.Test.YtfifnahcobjjdaaPk16
import Derived.Test.YtfifnahcobjjdaaPk11
import Derived.Test.YtfifnahcobjjdaaPk7
import Derived.Test.YtfifnahcobjjdaaPk3
import Derived.Test.YtfifnahcobjjdaaGraphP3
import Derived.Test.YtfifnahcobjjdaaProgRef5
/- The program's Edges, and After, walked. -/
namespace Go.Proofs.Ytfifnahcobjjdaa
open Go.RowKit

/-- Where a node goes on, if there is one. -/
def succAt (l : List Nd) (k : Nat) : List Int := match l[k]? with
  | some nd => Q.succ nd
  | none => []
theorem succ_at {l : List Nd} {k : Nat} {nd : Nd} (h : l[k]? = some nd) : succAt l k = Q.succ nd := by unfold succAt; rw [h]
theorem succ_two (nd : Nd) : (Q.succ nd).length ≤ 2 := by unfold Q.succ; split <;> (try split) <;> simp
theorem succAt_two (l : List Nd) (k : Nat) : (succAt l k).length ≤ 2 := by
  unfold succAt
  split
  · exact succ_two _
  · simp
/-- Where those of from that there are go on. -/
def firstL (l : List Nd) (fr : List Int) : List Int := fr.flatMap fun x => if 0 ≤ x ∧ x < (l.length : Int) then succAt l x.toNat else []
theorem first_snoc {l : List Nd} {fr : List Int} {i : Nat} {x : Int} (h : fr[i]? = some x) : firstL l (fr.take (i + 1)) = firstL l (fr.take i) ++ (if 0 ≤ x ∧ x < (l.length : Int) then succAt l x.toNat else []) := by
  unfold firstL
  rw [List.take_add_one, h, Option.toList_some, List.flatMap_append]
  simp
theorem first_len (l : List Nd) : ∀ fr : List Int, (firstL l fr).length ≤ 2 * fr.length
  | [] => by simp [firstL]
  | x :: fr => by
    have ih := first_len l fr
    unfold firstL at ih ⊢
    rw [List.flatMap_cons, List.length_append, List.length_cons]
    have : (if 0 ≤ x ∧ x < (l.length : Int) then succAt l x.toNat else []).length ≤ 2 := by
      split
      · exact succAt_two _ _
      · simp
    omega
theorem step_edge (l : List Nd) : Sp.Step l.length (succAt l) = Edge l := by
  funext j i
  unfold Sp.Step Edge succAt
  apply propext
  constructor
  · rintro ⟨h1, h2⟩
    refine ⟨h1, ?_⟩
    cases hj : l[j]? with
    | none => rw [hj] at h2; cases h2
    | some nd => rw [hj] at h2; exact ⟨nd, rfl, h2⟩
  · rintro ⟨h1, nd, h2, h3⟩
    rw [h2]
    exact ⟨h1, h3⟩
theorem reached_behind {l : List Nd} {fr : List Int} {i : Nat} (hi : i < l.length) : Sp.Reached l.length (firstL l fr) (succAt l) i ↔ Behind l fr i := by
  unfold Sp.Reached Behind
  rw [step_edge]
  constructor
  · rintro ⟨_, j, hj, hjn, h1⟩
    unfold firstL at hj
    obtain ⟨x, hx, hm⟩ := List.mem_flatMap.1 hj
    split at hm
    · rename_i hr
      refine ⟨x.toNat, by rw [Int.toNat_of_nonneg hr.1]; exact hx, by omega, ?_⟩
      have he : Edge l x.toNat j := by rw [← step_edge]; exact ⟨hjn, hm⟩
      rcases h1 with rfl | h1
      · exact .one he
      · exact .more he hjn h1
    · cases hm
  · rintro ⟨a, ha, hal, hr⟩
    refine ⟨hi, ?_⟩
    have key : ∀ j, Edge l a j → (j : Int) ∈ firstL l fr := fun j he => by
      unfold firstL
      refine List.mem_flatMap.2 ⟨(a : Int), ha, ?_⟩
      rw [if_pos ⟨by omega, by omega⟩, Int.toNat_natCast]
      rw [← step_edge] at he
      exact he.2
    cases hr with
    | one he => exact ⟨i, key i he, hi, .inl rfl⟩
    | more he hk h1 => exact ⟨_, key _ he, hk, .inr h1⟩

set_option maxRecDepth 100000 in
set_option maxHeartbeats 800000 in
theorem graph_after1 (B g k n c : Nat) (A : Option Addr) (l : List Nd) (w : World) (hr : Nodes w B A n l) (hg : Blk w g 34 [.slice A n c]) (hk : k < n) :
    Calls Try.prog 27 #[.int .i64 (k : Int), .pointer (some ⟨g, 0, none⟩)] w fun e w' => ∃ v, e = .returned v ∧ Own w' w.heap.size 3 v ((succAt l k).map intV) ∧ Below w.heap.size w w' := by
  obtain ⟨ad, x, rfl, _, hx, hxok, hn0, hn1, hn2, hn3⟩ := hr.get hk
  have hc := hg.cell 0
  have HS := kp (succ_at hx)
  have HOk := kp hxok
  have hkn : (k : Int) < (n : Int) := by omega
  clear hr hg hx hxok
  go_enter Try.func27, Try.ntmps27
  go_wp2_with (go_at_call 26; go_must (refine (prog_succ x HOk.out w).mono ?_); rintro e w1 ⟨v1, rfl, hown1, hb1⟩; have HO1 := kp hown1; have HB1 := kp hb1; clear hown1 hb1)
  go_ret
  exact ⟨v1, rfl, by rw [HS.out]; exact HO1.out, HB1.out⟩

set_option maxRecDepth 100000 in
set_option maxHeartbeats 1600000 in
theorem graph_after (B : Nat) (A : Option Addr) (n c : Nat) (l : List Nd) (A2 : Option Addr) (n2 c2 : Nat) (fr : List Int) (w : World) (hr : Nodes w B A n l) (hr2 : Row intV w B A2 n2 fr) (hn : n ≤ 1000) (hn2 : n2 ≤ 1000) (hB : B ≤ w.heap.size) :
    Calls Try.prog 14 #[.slice A n c, .slice A2 n2 c2] w fun e w' => ∃ v o, e = .returned v ∧ (∀ i, i < n → (o i = true ↔ Behind l fr i)) ∧ Own w' w.heap.size 4 v (outB o n) ∧ Below w.heap.size w w' := by
  have HR := kp hr; have HR2 := kp hr2
  have HLn := kp hr.1.len; have HLn2 := kp hr2.len
  clear hr hr2
  go_enter Try.func14, Try.ntmps14
  go_wp2_with (first
    | ((with_reducible show wpList _ _ _ (⟨some 2, _, _, _, _, _⟩ :: _) _ _); go_must (refine wpList_box_one rfl 34 (.tmp 0) rfl (.slice A n c) rfl rfl ?_); intro g w1 hg1 hk1 hw1; have HK1 := kp hk1; have HG1 := kp hg1; have HW1 := kp hw1; have hs1 := hw1.size; clear hg1 hk1 hw1))
  go_loopw [6, 12] (fun v6 v12 wr => ∃ i : Nat, i ≤ n2 ∧ v12 = .int .i64 i ∧ Own wr w1.heap.size 3 v6 ((firstL l (fr.take i)).map intV) ∧ Below w1.heap.size w1 wr) (fun _ v12 _ => n2 - (intOf v12).toNat)
  case atStart => exact ⟨0, by omega, rfl, Own.nil _ _ _, Below.refl _ _⟩
  case round =>
    obtain ⟨i, hi, rfl, hown, hbw⟩ := hrel
    have HOwn := kp hown; have HBw := kp hbw
    have hszr := hbw.size
    have HKr := kp (HK1.out.below hbw HK1.out.lt)
    have hcg := HKr.out.cell 0
    have HBr := kp (HW1.out.trans (hbw.mono hs1))
    have hfl := first_len l (fr.take i)
    rw [List.length_take, HLn2.out] at hfl
    by_cases hlt : i < n2
    · obtain ⟨ad, x, rfl, _, hx, hcx⟩ := (HR2.out.below (HBr.out.mono hB)).get hlt
      rw [intV_def] at hcx
      have HS := kp (first_snoc (l := l) hx)
      clear hown hbw hx
      by_cases hin : 0 ≤ x ∧ x < (n : Int)
      · obtain ⟨k, rfl⟩ : ∃ k : Nat, x = (k : Int) := ⟨x.toNat, by omega⟩
        have hkn : k < n := by omega
        have HB : Kept ((decide (0 ≤ (k : Int)) && decide ((k : Int) < (n : Int))) = true) := kp (by simp; omega)
        have HE : Kept (firstL l (fr.take (i + 1)) = firstL l (fr.take i) ++ succAt l k) := kp (by rw [HS.out, if_pos (by rw [HLn.out]; exact hin), Int.toNat_natCast])
        have hsl := succAt_two l k
        obtain ⟨ms, hms⟩ : ∃ ms, (succAt l k).length = ms := ⟨_, rfl⟩
        rw [hms] at hsl
        have HMs := kp hms
        clear hin HS hms
        go_wp2_with (first
          | (go_at_call 28; go_must (refine (graph_among (k : Int) (n : Int) true HB.out wr).mono ?_); rintro e w5 ⟨rfl, rfl⟩))
        rename_i K hK
        refine (graph_after1 B g k n c A l wr (HR.out.keep fun p hp => (HBr.out.mono hB).cell hp) HKr.out hkn).mono ?_
        rintro e w5 ⟨v5, rfl, hown5, hb5⟩
        obtain ⟨A5, c5, rfl, hc5, hm5, hr5⟩ := Own.readsN hown5 HMs.out
        have HR5 := kp hr5.vals; have HO5 := kp (HOwn.out.below hb5 (Nat.le_refl _)); have HB5 := kp (HBw.out.trans (hb5.mono hszr))
        have hsz5 : w1.heap.size ≤ w5.heap.size := by have := hb5.size; omega
        clear hown5 hb5 hr5 hm5
        refine hK _ _ ?_
        refine wpList_append_row rfl (.tmp 20) (.tmp 23) 27 rfl w1.heap.size 3 _ _ Try.underlying27 int_info rfl w5 u6 _ rfl HO5.out A5 ms c5 w5.heap.size _ rfl HR5.out (ones _ one_intV _) (by simp [maxLen]; omega) (by simp; omega) hsz5 ?_
        intro v6 w6 hown6 hg6
        have HO6 : Kept (Own w6 w1.heap.size 3 v6 ((firstL l (fr.take (i + 1))).map intV)) := kp (by rw [HE.out, List.map_append]; exact hown6)
        have HB6 := kp (Below.grown HB5.out hg6.1 hsz5 (fun j hj => (HO5.out.block j hj).1))
        clear hown6 hg6
        go_wp2
        go_roundw
        case rel => exact ⟨i + 1, by omega, by go_num, HO6.out, HB6.out⟩
        case measure => simp [intOf]; omega
      · have HB : Kept ((decide (0 ≤ x) && decide (x < (n : Int))) = false) := kp (by
          rw [Bool.and_eq_false_iff]
          by_cases h : 0 ≤ x
          · exact .inr (by simp; omega)
          · exact .inl (by simp; omega))
        have HE : Kept (firstL l (fr.take (i + 1)) = firstL l (fr.take i)) := kp (by rw [HS.out, if_neg (by rw [HLn.out]; exact hin), List.append_nil])
        clear hin HS
        go_wp2_with (go_at_call 28; go_must (refine (graph_among x (n : Int) false HB.out wr).mono ?_); rintro e w5 ⟨rfl, rfl⟩)
        go_roundw
        case rel => exact ⟨i + 1, by omega, by go_num, by rw [HE.out]; exact HOwn.out, HBw.out⟩
        case measure => simp [intOf]; omega
    · have HE : Kept (firstL l (fr.take i) = firstL l fr) := kp (by rw [List.take_of_length_le (by rw [HLn2.out]; omega)])
      obtain ⟨mf, hmf⟩ : ∃ mf, (firstL l (fr.take i)).length = mf := ⟨_, rfl⟩
      rw [hmf] at hfl
      obtain ⟨A6, c6, rfl, hc6, hm6, hr6⟩ := Own.readsN hown hmf
      have HR6 := kp hr6
      have hge : n2 ≤ i := by omega
      have HWs : Kept (∀ (k : Nat) (W : World), k < n → Below wr.heap.size wr W → Calls Try.prog 27 #[.int .i64 (k : Int), .pointer (some ⟨g, 0, none⟩)] W fun e w' => ∃ v, e = .returned v ∧ Own w' W.heap.size 3 v ((succAt l k).map intV) ∧ Below W.heap.size W w') := kp fun k W hk hW =>
        graph_after1 B g k n c A l W (HR.out.keep fun p hp => ((HBr.out.trans (hW.mono (by omega))).mono hB).cell hp) (HKr.out.below hW HKr.out.lt) hk
      clear hown hbw hlt hmf hr6 hm6
      go_wp2_with (go_at_call 29; go_must (refine (graph_spread_after n mf c6 g A6 _ (succAt l) wr HR6.out hn (by omega) (fun k => Nat.le_trans (succAt_two l k) (by omega)) HWs.out).mono ?_); rintro e w7 ⟨v7, L, rfl, hL, hmet, hown7, hb7⟩; have HL := kp hL; have HMet := kp hmet; have HO7 := kp hown7; have HB7 := kp hb7; clear hL hmet hown7 hb7)
      go_ret
      refine ⟨v7, fun i => L.getD i false, rfl, fun j hj => ?_, ?_, HBr.out.trans (HB7.out.mono (by omega))⟩
      · have h1 := HMet.out j
        rw [HE.out, ← HLn.out, reached_behind (by rw [HLn.out]; exact hj)] at h1
        rw [← h1]
        show L.getD j false = true ↔ L[j]? = some true
        rw [List.getD_eq_getElem?_getD]
        cases hq : L[j]? with
        | none => simp
        | some b => cases b <;> simp
      · have e1 : boolsC L = outB (fun i => L.getD i false) n := by
          apply List.ext_getElem?
          intro j
          unfold boolsC
          by_cases hj : j < n
          · rw [outB_at _ n j hj, List.getElem?_map, List.getElem?_eq_getElem (by rw [HL.out]; exact hj), List.getD_eq_getElem?_getD, List.getElem?_eq_getElem (by rw [HL.out]; exact hj)]; rfl
          · rw [List.getElem?_eq_none (by rw [List.length_map, HL.out]; omega), List.getElem?_eq_none (by rw [outB_len]; omega)]
        rw [← e1]
        exact HO7.out.less (by omega)

theorem edge_info : (Try.prog.info? 41).map (fun i => (i.zero, i.size, i.bytes)) = some (some (.agg #[.int .i64 0, .int .i64 0]), 2, 16) := by kernel_rfl
theorem edge_one (e : Nat × Int) (j : Nat) : (edV e j).oneCell' = true := by
  match j with
  | 0 => rfl
  | _ + 1 => rfl

set_option maxRecDepth 100000 in
set_option maxHeartbeats 1600000 in
theorem graph_edges (B : Nat) (A : Option Addr) (n c : Nat) (l : List Nd) (w : World) (hr : Nodes w B A n l) (hn : n ≤ 100000) (hB : B ≤ w.heap.size) :
    Calls Try.prog 12 #[.slice A n c] w fun e w' => ∃ A' n' c', e = .returned (.slice A' n' c') ∧ n' ≤ c' ∧ c' ≤ maxLen ∧ Recs 2 edV w' w'.heap.size A' n' (edgesL l) ∧ Below w.heap.size w w' := by
  have HR := kp hr
  have HLn := kp hr.1.len
  clear hr
  go_enter Try.func12, Try.ntmps12
  go_wp2
  go_loopw [3, 10] (fun v3 v10 wr => ∃ i : Nat, i ≤ n ∧ v10 = .int .i64 i ∧ OwnR 2 edV wr w.heap.size 41 v3 (edgesL (l.take i)) ∧ Below w.heap.size w wr) (fun _ v10 _ => n - (intOf v10).toNat)
  case atStart => exact ⟨0, by omega, rfl, OwnR.nil _ _ _ _ _, Below.refl _ _⟩
  case round =>
    obtain ⟨i, hi, rfl, hown, hbw⟩ := hrel
    have HOwn := kp hown; have HBw := kp hbw
    have hsz := hbw.size
    have hel := edges_len (l.take i)
    rw [List.length_take, HLn.out] at hel
    by_cases hlt : i < n
    · obtain ⟨ad, x, rfl, _, hx, hxok, hn0, hn1, hn2, hn3⟩ := (HR.out.keep (w' := wr) fun p hp => hbw.cell (by omega)).get hlt
      have HX := kp hx; have HXOk := kp hxok
      obtain ⟨sc, hsc⟩ : ∃ sc, Q.succ x = sc := ⟨_, rfl⟩
      obtain ⟨ns, hns⟩ : ∃ ns, sc.length = ns := ⟨_, rfl⟩
      have hns2 : ns ≤ 2 := by rw [← hns, ← hsc]; exact succ_two x
      have HSc := kp hsc; have HNs := kp hns
      clear hown hbw hx hxok hsc hns
      go_wp2_with (first
        | ((with_reducible show wpList _ _ _ (⟨some 5, _, _, _, _, _⟩ :: _) _ _); go_must (refine wpList_alloc_zero rfl 39 rfl (ndC ⟨0, 0, 0, 0⟩) nd_zero ?_); intro g5 w6 hg5 hk6 hw6; have HG5 := kp hg5; have HK6 := kp hk6; have HW6 := kp hw6; clear hg5 hk6 hw6)
        | ((with_reducible show wpList _ _ _ (⟨none, _, _, _, _, _⟩ :: _) _ _); go_must (refine wpList_store_blk rfl 39 (.tmp 5) (.tmp 14) rfl g5 (ndC x) rfl rfl _ _ HK6.out nd_size rfl (nd_ones x) ?_); intro w7 hk7 hg7 hs7
           have HK7 := kp hk7
           have HBq7 := kp (HW6.out.grown hg7 HW6.out.size (fun k hk => by cases hk; exact HG5.out))
           have HO7 := kp (HOwn.out.below HBq7.out (Nat.le_refl _))
           have HB7 := kp (HBw.out.trans (HBq7.out.mono hsz))
           have hsz7 := HB7.out.size
           clear hk7 hg7 hs7 hn0 hn1 hn2 hn3)
        | ((with_reducible show wpList _ _ _ (⟨some 15, _, _, _, _, _⟩ :: _) _ _); go_must (refine wpList_load_blk rfl 39 (.tmp 5) rfl g5 rfl _ (ndC x) _ HK7.out Try.underlying39 rfl nd_size ?_))
        | (go_at_call 26; go_must (refine (prog_succ x HXOk.out w7).mono ?_); rintro e w8 ⟨v8, rfl, hown8, hb8⟩
           rw [HSc.out] at hown8
           obtain ⟨A8, c8, rfl, hc8, hm8, hr8⟩ := Own.readsN hown8 HNs.out
           have HR8 := kp hr8; have HA8 : Kept (∀ ad, A8 = some ad → w7.heap.size ≤ ad.block ∧ ad.block < w8.heap.size) := kp fun ad e => by subst e; exact hown8.block ad.block rfl
           have HO8 := kp (HO7.out.below hb8 (Nat.le_refl _)); have HB8 := kp (HB7.out.trans (hb8.mono hsz7))
           clear hown8 hb8 hr8 hm8))
      go_loopw [3, 18] (fun v3 v18 wq => ∃ k : Nat, k ≤ ns ∧ v18 = .int .i64 k ∧ OwnR 2 edV wq w.heap.size 41 v3 (edgesL (l.take i) ++ (sc.take k).map fun y => (i, y)) ∧ Row intV wq w8.heap.size A8 ns sc ∧ Below w.heap.size w wq ∧ w8.heap.size ≤ wq.heap.size ∧ ∀ j, v3.ownBlock = some j → j < w7.heap.size ∨ w8.heap.size ≤ j) (fun _ v18 _ => ns - (intOf v18).toNat)
      case atStart => exact ⟨0, by omega, rfl, by simpa using HO8.out, HR8.out, HB8.out, Nat.le_refl _, fun j hj => .inl (HO7.out.block j hj).2⟩
      case round =>
        clear HO8 HR8 HO7 HOwn
        obtain ⟨k, hk, rfl, hown, hrow, hbw, hzq, hv3⟩ := hrel
        have HOwn := kp hown; have HBw := kp hbw; have HRow := kp hrow; have HV3 := kp hv3
        have hszk := hbw.size
        clear hown hbw hrow hv3
        by_cases hltk : k < ns
        · obtain ⟨ad2, y, rfl, _, hy, hcy⟩ := HRow.out.get hltk
          rw [intV_def] at hcy
          have HE : Kept (edgesL (l.take i) ++ (sc.take (k + 1)).map (fun y => (i, y)) = (edgesL (l.take i) ++ (sc.take k).map fun y => (i, y)) ++ [(i, y)]) := kp (by rw [List.take_add_one, hy, Option.toList_some, List.map_append, List.append_assoc]; rfl)
          have hel2 : (edgesL (l.take i) ++ (sc.take k).map fun y => (i, y)).length ≤ 300000 := by
            rw [List.length_append, List.length_map, List.length_take, HNs.out]; omega
          clear hy
          go_wp2_with (first
            | (at_builtin; go_must (refine wpList_append_rec rfl (.tmp 22) (.tmp 26) 35 rfl w.heap.size 41 2 _ _ Try.underlying35 edge_info rfl (by omega) edV edge_one wr u3 _ (i, y) rfl HOwn.out _ 1 rfl rfl _ rfl (by unfold maxLen; omega) (by omega) hszk ?_); intro v1 w9 hown1 hg1; have HO9 := kp hown1; have HB9 := kp (HBw.out.grown hg1.1 hszk (fun j hj => (HOwn.out.block j hj).1))
               have HRow9 := kp (HRow.out.grown hg1.1 hzq (fun ad3 _ e3 e4 => by have h1 := HA8.out ad3 e3; have h2 := HV3.out ad3.block e4.symm; omega))
               have hzq9 : w8.heap.size ≤ w9.heap.size := Nat.le_trans hzq hg1.size
               have HV9 : Kept (∀ j, v1.ownBlock = some j → j < w7.heap.size ∨ w8.heap.size ≤ j) := kp fun j hj => by
                 rcases hg1.2 with h1 | h1
                 · exact HV3.out j (h1.symm.trans hj)
                 · have := h1 j hj; omega
               clear hown1 hg1))
          go_roundw
          case rel => exact ⟨k + 1, by omega, by go_num, by rw [HE.out]; exact HO9.out, HRow9.out, HB9.out, hzq9, HV9.out⟩
          case measure => simp [intOf]; omega
        · have HE : Kept (edgesL (l.take i) ++ (sc.take k).map (fun y => (i, y)) = edgesL (l.take (i + 1))) := kp (by
            rw [edges_snoc HX.out, List.take_of_length_le (l := sc) (show sc.length ≤ k by rw [HNs.out]; omega), ← HSc.out]; rfl)
          have hgek : ns ≤ k := by omega
          clear hltk
          go_wp2
          go_roundw
          case rel => exact ⟨i + 1, by omega, by go_num, by rw [← HE.out]; exact HOwn.out, HBw.out⟩
          case measure => simp [intOf]; omega
    · have HE : Kept (edgesL (l.take i) = edgesL l) := kp (by rw [List.take_of_length_le (by rw [HLn.out]; omega)])
      have hge : n ≤ i := by omega
      rw [HE.out] at hown hel
      obtain ⟨A9, c9, rfl, hc9, hm9, hr9⟩ := hown.form
      have HR9 := kp hr9
      clear hown hbw hlt hr9
      go_wp2
      go_ret
      exact ⟨A9, _, c9, rfl, hc9, hm9, HR9.out, HBw.out⟩
end Go.Proofs.Ytfifnahcobjjdaa

/- The program's Reach, walked. -/
namespace Go.Proofs.Ytfifnahcobjjdaa
open Go.RowKit

/-- Whom a function names, if there is one. -/
def wayAt (p : Pg) (k : Nat) : List Int := match p.fns[k]? with
  | some fn => argsL fn.nodes 7
  | none => []
theorem way_at {p : Pg} {k : Nat} {fn : Fn} (h : p.fns[k]? = some fn) : wayAt p k = argsL fn.nodes 7 := by unfold wayAt; rw [h]
theorem way_len {p : Pg} (hs : Q.small p = true) (k : Nat) : (wayAt p k).length ≤ 1000 := by
  unfold wayAt
  split
  · rename_i fn h
    have h1 := small_nodes hs h
    have h2 := args_len fn.nodes 7
    omega
  · simp
theorem step_call (p : Pg) : Sp.Step p.len (wayAt p) = CallIn p := by
  funext x y
  unfold Sp.Step CallIn wayAt Q.calls
  apply propext
  constructor
  · rintro ⟨h1, h2⟩
    refine ⟨?_, h1⟩
    cases hx : p.fns[x]? with
    | none => rw [hx] at h2; cases h2
    | some fn =>
      rw [hx] at h2
      obtain ⟨nd, h3, h4, h5⟩ := args_mem.1 h2
      exact ⟨fn, rfl, nd, h3, h4, h5⟩
  · rintro ⟨⟨fn, h1, nd, h3, h4, h5⟩, h2⟩
    rw [h1]
    exact ⟨h2, args_mem.2 ⟨nd, h3, h4, h5⟩⟩
theorem reached_comes {p : Pg} {fs : List Int} {F : Nat → Prop} (hF : ∀ j : Nat, j < p.len → ((j : Int) ∈ fs ↔ F j)) (i : Nat) : Sp.Reached p.len fs (wayAt p) i ↔ Comes p F i := by
  unfold Sp.Reached Comes
  rw [step_call]
  constructor
  · rintro ⟨hi, j, hj, hjn, rfl | h1⟩
    · exact ⟨hi, .inl ((hF j hjn).1 hj)⟩
    · exact ⟨hi, .inr ⟨j, (hF j hjn).1 hj, hjn, h1⟩⟩
  · rintro ⟨hi, h | ⟨j, hj, hjn, h1⟩⟩
    · exact ⟨hi, i, (hF i hi).2 h, hi, .inl rfl⟩
    · exact ⟨hi, j, (hF j hjn).2 hj, hjn, .inr h1⟩
/-- Flags of what is reached. -/
def Fact.met (n : Nat) (first : List Int) (ways : Nat → List Int) : Fact := ⟨fun v w => ∃ A cap L, v = .slice A n cap ∧ n ≤ cap ∧ cap ≤ maxLen ∧ Row Value.bool w w.heap.size A n L ∧ ∀ k, Sp.Met L k ↔ Sp.Reached n first ways k,
  fun _ _ _ hb ⟨A, cap, L, hv, h1, h2, hr, hm⟩ => ⟨A, cap, L, hv, h1, h2, (hr.below hb).more hb.size, hm⟩⟩

theorem bits_met {L : List Bool} {i : Nat} {b : Bool} (h : L[i]? = some b) : (Sp.Met L i) ↔ b = true := by
  unfold Sp.Met
  rw [h]; simp
end Go.Proofs.Ytfifnahcobjjdaa

/- The program's functions of layer 6: all of them, walked. -/
namespace Go.Proofs.Ytfifnahcobjjdaa
theorem graphP_here : True := trivial
end Go.Proofs.Ytfifnahcobjjdaa
