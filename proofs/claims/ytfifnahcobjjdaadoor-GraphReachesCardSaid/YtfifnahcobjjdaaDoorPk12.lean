/- GraphP4, GraphP5, GraphP, in one text. -/
import Derived.Test.YtfifnahcobjjdaaDoorPk10
import Derived.Test.YtfifnahcobjjdaaDoorPk4
import Derived.Test.YtfifnahcobjjdaaDoorOwns
import Derived.Test.YtfifnahcobjjdaaDoorProgP1
import Derived.Test.YtfifnahcobjjdaaDoorPk16
import Derived.Test.YtfifnahcobjjdaaDoorPk11
import Derived.Test.YtfifnahcobjjdaaDoorPk7
import Derived.Test.YtfifnahcobjjdaaDoorPk3
import Derived.Test.YtfifnahcobjjdaaDoorGraphP3
import Derived.Test.YtfifnahcobjjdaaDoorProgRef5
/- The program's Edges, and After, walked. -/
namespace Go.Proofs.YtfifnahcobjjdaaDoor
open Go.RowKit

/-- Where a node goes on, if there is one. -/
def succAt (l : List Nd) (k : Nat) : List Int := match l[k]? with
  | some nd => Q.succ nd
  | none => []
theorem succ_at {l : List Nd} {k : Nat} {nd : Nd} (h : l[k]? = some nd) : succAt l k = Q.succ nd := by unfold succAt; rw [h]
theorem succ_two (nd : Nd) : (Q.succ nd).length ≤ 2 := by unfold Q.succ; split <;> (try split) <;> simp
theorem succAt_two (l : List Nd) (k : Nat) : (succAt l k).length ≤ 2 := by
  unfold succAt
  split
  · exact succ_two _
  · simp
/-- Where those of from that there are go on. -/
def firstL (l : List Nd) (fr : List Int) : List Int := fr.flatMap fun x => if 0 ≤ x ∧ x < (l.length : Int) then succAt l x.toNat else []
theorem first_snoc {l : List Nd} {fr : List Int} {i : Nat} {x : Int} (h : fr[i]? = some x) : firstL l (fr.take (i + 1)) = firstL l (fr.take i) ++ (if 0 ≤ x ∧ x < (l.length : Int) then succAt l x.toNat else []) := by
  unfold firstL
  rw [List.take_add_one, h, Option.toList_some, List.flatMap_append]
  simp
theorem first_len (l : List Nd) : ∀ fr : List Int, (firstL l fr).length ≤ 2 * fr.length
  | [] => by simp [firstL]
  | x :: fr => by
    have ih := first_len l fr
    unfold firstL at ih ⊢
    rw [List.flatMap_cons, List.length_append, List.length_cons]
    have : (if 0 ≤ x ∧ x < (l.length : Int) then succAt l x.toNat else []).length ≤ 2 := by
      split
      · exact succAt_two _ _
      · simp
    omega
theorem step_edge (l : List Nd) : Sp.Step l.length (succAt l) = Edge l := by
  funext j i
  unfold Sp.Step Edge succAt
  apply propext
  constructor
  · rintro ⟨h1, h2⟩
    refine ⟨h1, ?_⟩
    cases hj : l[j]? with
    | none => rw [hj] at h2; cases h2
    | some nd => rw [hj] at h2; exact ⟨nd, rfl, h2⟩
  · rintro ⟨h1, nd, h2, h3⟩
    rw [h2]
    exact ⟨h1, h3⟩
theorem reached_behind {l : List Nd} {fr : List Int} {i : Nat} (hi : i < l.length) : Sp.Reached l.length (firstL l fr) (succAt l) i ↔ Behind l fr i := by
  unfold Sp.Reached Behind
  rw [step_edge]
  constructor
  · rintro ⟨_, j, hj, hjn, h1⟩
    unfold firstL at hj
    obtain ⟨x, hx, hm⟩ := List.mem_flatMap.1 hj
    split at hm
    · rename_i hr
      refine ⟨x.toNat, by rw [Int.toNat_of_nonneg hr.1]; exact hx, by omega, ?_⟩
      have he : Edge l x.toNat j := by rw [← step_edge]; exact ⟨hjn, hm⟩
      rcases h1 with rfl | h1
      · exact .one he
      · exact .more he hjn h1
    · cases hm
  · rintro ⟨a, ha, hal, hr⟩
    refine ⟨hi, ?_⟩
    have key : ∀ j, Edge l a j → (j : Int) ∈ firstL l fr := fun j he => by
      unfold firstL
      refine List.mem_flatMap.2 ⟨(a : Int), ha, ?_⟩
      rw [if_pos ⟨by omega, by omega⟩, Int.toNat_natCast]
      rw [← step_edge] at he
      exact he.2
    cases hr with
    | one he => exact ⟨i, key i he, hi, .inl rfl⟩
    | more he hk h1 => exact ⟨_, key _ he, hk, .inr h1⟩
end Go.Proofs.YtfifnahcobjjdaaDoor

/- The program's Reach, walked. -/
namespace Go.Proofs.YtfifnahcobjjdaaDoor
open Go.RowKit

/-- Whom a function names, if there is one. -/
def wayAt (p : Pg) (k : Nat) : List Int := match p.fns[k]? with
  | some fn => argsL fn.nodes 7
  | none => []
theorem way_at {p : Pg} {k : Nat} {fn : Fn} (h : p.fns[k]? = some fn) : wayAt p k = argsL fn.nodes 7 := by unfold wayAt; rw [h]
theorem way_len {p : Pg} (hs : Q.small p = true) (k : Nat) : (wayAt p k).length ≤ 1000 := by
  unfold wayAt
  split
  · rename_i fn h
    have h1 := small_nodes hs h
    have h2 := args_len fn.nodes 7
    omega
  · simp
theorem step_call (p : Pg) : Sp.Step p.len (wayAt p) = CallIn p := by
  funext x y
  unfold Sp.Step CallIn wayAt Q.calls
  apply propext
  constructor
  · rintro ⟨h1, h2⟩
    refine ⟨?_, h1⟩
    cases hx : p.fns[x]? with
    | none => rw [hx] at h2; cases h2
    | some fn =>
      rw [hx] at h2
      obtain ⟨nd, h3, h4, h5⟩ := args_mem.1 h2
      exact ⟨fn, rfl, nd, h3, h4, h5⟩
  · rintro ⟨⟨fn, h1, nd, h3, h4, h5⟩, h2⟩
    rw [h1]
    exact ⟨h2, args_mem.2 ⟨nd, h3, h4, h5⟩⟩
theorem reached_comes {p : Pg} {fs : List Int} {F : Nat → Prop} (hF : ∀ j : Nat, j < p.len → ((j : Int) ∈ fs ↔ F j)) (i : Nat) : Sp.Reached p.len fs (wayAt p) i ↔ Comes p F i := by
  unfold Sp.Reached Comes
  rw [step_call]
  constructor
  · rintro ⟨hi, j, hj, hjn, rfl | h1⟩
    · exact ⟨hi, .inl ((hF j hjn).1 hj)⟩
    · exact ⟨hi, .inr ⟨j, (hF j hjn).1 hj, hjn, h1⟩⟩
  · rintro ⟨hi, h | ⟨j, hj, hjn, h1⟩⟩
    · exact ⟨hi, i, (hF i hi).2 h, hi, .inl rfl⟩
    · exact ⟨hi, j, (hF j hjn).2 hj, hjn, .inr h1⟩
/-- Flags of what is reached. -/
def Fact.met (n : Nat) (first : List Int) (ways : Nat → List Int) : Fact := ⟨fun v w => ∃ A cap L, v = .slice A n cap ∧ n ≤ cap ∧ cap ≤ maxLen ∧ Row Value.bool w w.heap.size A n L ∧ ∀ k, Sp.Met L k ↔ Sp.Reached n first ways k,
  fun _ _ _ hb ⟨A, cap, L, hv, h1, h2, hr, hm⟩ => ⟨A, cap, L, hv, h1, h2, (hr.below hb).more hb.size, hm⟩⟩

set_option maxRecDepth 100000 in
set_option maxHeartbeats 800000 in
theorem list_ints (m : Nat) (fs : List Int) (hfs : (S.ids m 32).map (fun x : Nat => (x : Int)) = fs) (hm : m < 4294967296) (w : World) (ht : Tab w) (hw : 1 ≤ w.heap.size) :
    Calls Tryd.prog 19 #[.int .u32 (m : Int)] w fun e w' => ∃ v, e = .returned v ∧ Own w' w.heap.size 3 v (fs.map intV) ∧ Below w.heap.size w w' := by
  refine (list_any m hm w ht hw).mono ?_
  rintro e w' ⟨v, rfl, hown, hb⟩
  refine ⟨v, rfl, ?_, hb⟩
  rw [← hfs, List.map_map]
  exact hown

set_option maxRecDepth 100000 in
set_option maxHeartbeats 800000 in
theorem graph_reach1 (B g k : Nat) (p : Pg) (w : World) (hp : p.Ok w B) (hB : B ≤ w.heap.size) (hs : Q.small p = true) (hg : Blk w g 24 (pgC p)) (hk : k < p.len) :
    Calls Tryd.prog 17 #[.int .i64 (k : Int), .pointer (some ⟨g, 0, none⟩)] w fun e w' => ∃ v, e = .returned v ∧ Own w' w.heap.size 3 v ((wayAt p k).map intV) ∧ Below w.heap.size w w' := by
  obtain ⟨hc0, hc1, hc2, hc3⟩ := pg_cells hg
  obtain ⟨ad, fn, e0, _, hfn, hfok, hcf⟩ := hp.fn hk
  rw [e0] at hc3
  have HW := kp (way_at hfn)
  have HFok := kp hfok
  have hfl' : fn.len ≤ 1000000 := by have h1 := small_nodes hs hfn; have h2 := hfok.nodes.1.len; omega
  have hkl : (k : Int) < (p.len : Int) := by omega
  clear hp hs hg e0 hfn hfok
  go_enter Tryd.func17, Tryd.ntmps17
  go_wp2_with (go_at_call 16; go_must (refine (graph_named B fn.A fn.len fn.cap fn.nodes 7 w HFok.out.nodes hfl' hB).mono ?_); rintro e w1 ⟨v1, rfl, hown1, hb1⟩; have HO1 := kp hown1; have HB1 := kp hb1; clear hown1 hb1)
  go_ret
  exact ⟨v1, rfl, by rw [HW.out]; exact HO1.out, HB1.out⟩

theorem bits_met {L : List Bool} {i : Nat} {b : Bool} (h : L[i]? = some b) : (Sp.Met L i) ↔ b = true := by
  unfold Sp.Met
  rw [h]; simp

set_option maxRecDepth 100000 in
set_option maxHeartbeats 1600000 in
theorem graph_reach (B : Nat) (p : Pg) (w : World) (hp : p.Ok w B) (hB : B ≤ w.heap.size) (hs : Q.small p = true) (h32 : p.len ≤ 32) (a : Nat) (ha : a < 4294967296) (ht : Tab w) :
    Calls Tryd.prog 11 #[pgA p, .int .u32 (a : Int)] w fun e w' => ∃ m : Nat, e = .returned (.int .u32 (m : Int)) ∧ BitsAre m (Comes p (fun x => a.testBit x = true)) ∧ Below w.heap.size w w' := by
  have HP := kp hp; have HS := kp hs; have HT := kp ht
  have hw1 := ht.size
  have hlc := hp.lc; have hcm := hp.cm
  unfold maxLen at hcm
  have hcm9 : p.cap ≤ 9223372036854775807 := by omega
  obtain ⟨fs, hfs⟩ : ∃ fs, (S.ids a 32).map (fun x : Nat => (x : Int)) = fs := ⟨_, rfl⟩
  have HFs := kp hfs
  have hfl : fs.length ≤ 32 := by rw [← hfs, List.length_map]; exact S.ids_len a 32
  have HMem : Kept (∀ j : Nat, j < p.len → ((j : Int) ∈ fs ↔ a.testBit j = true)) := kp fun j _ => by
    rw [← hfs, mem_ints, ids_in ha]
  clear hp hs hcm ht hfs
  rw [pgA_is]
  go_enter Tryd.func11, Tryd.ntmps11
  go_wp2_with (first
    | ((with_reducible refine wpList_box_agg rfl 24 (.tmp 0) rfl (pgC p) rfl ?_); intro g1 w1 hg1 hk1 hw1'; have HK1 := kp hk1; have HW1 := kp hw1'; have hs1 := hw1'.size; clear hg1 hk1 hw1'))
  apply region_list (.is _ :: .is _ :: .is _ :: .is _ :: (.row intV fs.length fs) :: .is _ :: (.met p.len fs (wayAt p)) :: .is _ :: .is _ :: [])
    [[], [(0, 10)], [(1, 11)], [], [(3, 13)], [], [(2, 12), (4, 14), (5, 15)], [(6, 16)], []]
    [(0, 10), (1, 11), (2, 12), (3, 13), (4, 14), (5, 15), (6, 16), (7, 17), (8, 18)] (by kernel_rfl) (by kernel_rfl)
  case hob =>
    refine ⟨?o0, ?o1, ?o2, ?o3, ?o4, ?o5, ?o6, ?o7, ?o8, trivial⟩
    case o0 => intro W hW; change wpList _ _ _ _ _ _; go_wp2; exact pure_post rfl rfl rfl
    case o1 =>
      intro W hW; rintro _ rfl; change wpList _ _ _ _ _ _
      have hc := (pg_cells (HK1.out.below hW HK1.out.lt)).2.2.2
      go_wp2; exact pure_post rfl rfl rfl
    case o2 => intro W hW; rintro _ rfl; change wpList _ _ _ _ _ _; go_wp2; exact pure_post rfl rfl rfl
    case o3 => intro W hW; change wpList _ _ _ _ _ _; go_wp2; exact pure_post rfl rfl rfl
    case o4 =>
      intro W hW; rintro _ rfl; change wpList _ _ _ _ _ _
      go_wp2_with fail
      refine (list_ints a fs HFs.out ha W (HT.out.below ((HW1.out).trans (hW.mono hs1)) hw1) (by have := hW.size; omega)).mono ?_
      rintro e w2 ⟨v2, rfl, hown2, hb2⟩
      obtain ⟨A, cap, rfl, _, _, hr2⟩ := hown2.readsN rfl
      have HR2 := kp hr2; have HB2 := kp hb2; clear hown2 hr2 hb2
      go_wp2
      exact made_post rfl rfl rfl HB2.out ⟨A, cap, rfl, HR2.out⟩
    case o5 => intro W hW; change wpList _ _ _ _ _ _; go_wp2; exact pure_post rfl rfl rfl
    case o6 =>
      intro W hW; rintro _ rfl; rintro _ ⟨A4, c4, rfl, hr4⟩; rintro _ rfl; change wpList _ _ _ _ _ _
      have HR4 := kp hr4
      have HWs : Kept (∀ (k : Nat) (W2 : World), k < p.len → Below W.heap.size W W2 → Calls Tryd.prog 17 #[.int .i64 (k : Int), .pointer (some ⟨g1, 0, none⟩)] W2 fun e w' => ∃ v, e = .returned v ∧ Own w' W2.heap.size 3 v ((wayAt p k).map intV) ∧ Below W2.heap.size W2 w') := kp fun k W2 hk hW2 =>
        graph_reach1 B g1 k p W2 (HP.out.below (((HW1.out.trans (hW.mono hs1)).trans (hW2.mono (by have := hW.size; omega))).mono hB)) (by have := hW.size; have := hW2.size; omega) HS.out ((HK1.out.below hW HK1.out.lt).below hW2 (by have := hW.size; have := HK1.out.lt; omega)) hk
      clear hr4
      go_wp2_with fail
      refine (graph_spread_reach p.len fs.length c4 g1 A4 fs (wayAt p) W HR4.out (by omega) (by omega) (fun k => way_len HS.out k) HWs.out).mono ?_
      rintro e w2 ⟨v2, L2, rfl, hL2, hmet2, hown2, hb2⟩
      obtain ⟨A6, c6, rfl, hc6, hm6, hr6⟩ := Own.readsN hown2 hL2
      have HR6 := kp hr6; have HB6 := kp hb2; have HM6 := kp hmet2; have HL6 := kp hL2; clear hown2 hr6 hb2 hmet2 hL2
      go_wp2
      exact made_post rfl rfl rfl HB6.out ⟨A6, c6, L2, rfl, hc6, hm6, HR6.out, HM6.out⟩
    case o7 => intro W hW; rintro _ ⟨A6, c6, L, rfl, hc6, hm6, hr6, hmet6⟩; change wpList _ _ _ _ _ _; go_wp2; exact pure_post rfl rfl rfl
    case o8 => intro W hW; change wpList _ _ _ _ _ _; go_wp2; exact pure_post rfl rfl rfl
  case hend =>
    intro W hW; rintro _ rfl; rintro _ rfl; rintro _ rfl; rintro _ rfl; rintro _ ⟨A4, c4, rfl, hr4⟩; rintro _ rfl; rintro _ ⟨A6, c6, L, rfl, hc6, hm6, hr6, hmet6⟩; rintro _ rfl; rintro _ rfl
    simp only [given, put_lit, List.set]
    have HR6 := kp hr6; have HM6 := kp hmet6
    have HB6 := kp (HW1.out.trans (hW.mono hs1))
    clear hW hr4 hr6 hmet6 hm6
    go_wp2
    go_loop [6, 18] (fun v6 v18 => ∃ i q : Nat, i ≤ p.len ∧ v18 = .int .i64 i ∧ v6 = .int .u32 (q : Int) ∧ BitsAre q (fun id => id < i ∧ Sp.Met L id)) (fun _ v18 => p.len - (intOf v18).toNat)
    case atStart => exact ⟨0, 0, by omega, rfl, rfl, bits_none.congr fun id _ => by simp⟩
    case round =>
      obtain ⟨i, q, hi, rfl, rfl, hq⟩ := hrel
      have HQ := kp hq
      have hqlt : q < 4294967296 := hq.1
      clear hq
      by_cases hlt : i < p.len
      · obtain ⟨ad, b, rfl, _, hx, hcx⟩ := HR6.out.get hlt
        have HBit := kp (bits_met hx)
        clear hx
        cases b
        · have HN : Kept (BitsAre q (fun id => id < i + 1 ∧ Sp.Met L id)) := kp (HQ.out.congr fun id _ => by
            constructor
            · rintro ⟨h1, h2⟩; exact ⟨by omega, h2⟩
            · rintro ⟨h1, h2⟩
              refine ⟨?_, h2⟩
              by_cases e : id = i
              · subst e; have := HBit.out.1 h2; cases this
              · omega)
          go_wp2
          go_round
          case rel => exact ⟨i + 1, q, by omega, by go_num, rfl, HN.out⟩
          case measure => simp [intOf]; omega
        · obtain ⟨o, ho⟩ : ∃ o, S.one (i : Int) = o := ⟨_, rfl⟩
          have holt : o < 4294967296 := by rw [← ho]; exact S.one_lt _
          have HBt : Kept (bits .or .u32 (q : Int) (o : Int) = ((q ||| o : Nat) : Int)) := kp <| u32_or_nat q o hqlt holt
          have HO := kp ho
          have hi64 : Kept (I64 (i : Int)) := kp (by unfold I64; omega)
          have HN : Kept (BitsAre (q ||| o) (fun id => id < i + 1 ∧ Sp.Met L id)) := kp <| by
            rw [← ho]
            refine (bits_or HQ.out (one_bits (i : Int))).congr fun id _ => ?_
            constructor
            · rintro (⟨h1, h2⟩ | h1)
              · exact ⟨by omega, h2⟩
              · have : id = i := by omega
                subst this
                exact ⟨by omega, HBit.out.2 rfl⟩
            · rintro ⟨h1, h2⟩
              by_cases e : id = i
              · exact .inr (by omega)
              · exact .inl ⟨by omega, h2⟩
          clear ho
          go_wp2_with (go_at_call 20; go_must (refine (one_any (i : Int) hi64.out o HO.out _).mono ?_); rintro e' w' ⟨rfl, rfl⟩)
          go_round
          case rel => exact ⟨i + 1, q ||| o, by omega, by go_num, by rw [HBt.out], HN.out⟩
          case measure => simp [intOf]; omega
      · have HE : Kept (BitsAre q (Comes p (fun x => a.testBit x = true))) := kp (HQ.out.congr fun id _ => by
          rw [← reached_comes HMem.out id, ← HM6.out id]
          constructor
          · exact fun h => h.2
          · intro h
            have h1 := h.lt
            rw [HR6.out.len] at h1
            exact ⟨by omega, h⟩)
        have hge : p.len ≤ i := by omega
        clear hlt
        go_wp2
        go_ret
        exact ⟨q, rfl, HE.out, HB6.out⟩
end Go.Proofs.YtfifnahcobjjdaaDoor

/- The program's functions of layer 6: all of them, walked. -/
namespace Go.Proofs.YtfifnahcobjjdaaDoor
theorem graphP_here : True := trivial
end Go.Proofs.YtfifnahcobjjdaaDoor
