/- TextCode, walked. -/
import Derived.Test.YtiojobajcnifpaaDoorPk22
import Derived.Test.YtiojobajcnifpaaDoorPk23
import Derived.Test.YtiojobajcnifpaaDoorTextW3
import Derived.Test.YtiojobajcnifpaaDoorPcodeP4
import Derived.Test.YtiojobajcnifpaaDoorProgRef1
namespace Go.Proofs.YtiojobajcnifpaaDoor
open Go.RowKit
set_option linter.unusedVariables false

theorem text_len_app (a b : List (List UInt8)) : (T.text (a ++ b)).length = (T.text a).length + (T.text b).length := by simp [T.text]
theorem text_le : ∀ (ls : List (List UInt8)) (m : Nat), (∀ l ∈ ls, l.length ≤ m) → (T.text ls).length ≤ ls.length * (m + 1)
  | [], m, _ => by simp [T.text]
  | x :: ls, m, h => by
    have ih := text_le ls m (fun y hy => h y (by simp [hy]))
    have hx := h x (by simp)
    unfold T.text at ih ⊢
    rw [List.flatMap_cons, List.length_append, List.length_append, List.length_singleton, List.length_cons, Nat.add_mul]
    omega
theorem linesL_le : ∀ (L : List (List Nd)), (∀ l ∈ L, C.FnOk l) → (T.linesL L).length ≤ 65 * L.length
  | [], _ => by simp [T.linesL]
  | l :: L, h => by
    have ih := linesL_le L (fun y hy => h y (by simp [hy]))
    have hl := (h l (by simp)).len
    have e : (T.fnL l).length = l.length + 1 := by simp [T.fnL]
    unfold T.linesL at ih ⊢
    rw [List.flatMap_cons, List.length_append, List.length_cons, e]
    omega
theorem print_len {d : C.PD} (h : C.PDOk d) : (T.print d).length ≤ 30000 := by
  have h1 : ∀ l ∈ T.lines d, l.length ≤ 25 := by
    intro l hl
    unfold T.lines at hl
    rcases List.mem_cons.1 hl with rfl | hl
    · have hg : 0 ≤ d.g ∧ d.g ≤ 16 := h.g
      have hl : 0 ≤ d.l ∧ d.l ≤ 16 := h.l
      have hs : 0 ≤ d.s ∧ d.s ≤ 8 := h.s
      have h2 := tail_len (d.g :: d.l :: d.s :: []) (by intro v hv; simp at hv; omega)
      unfold T.lineOf
      rw [List.length_append]
      have h3 : T.alibi.length = 5 := rfl
      simp only [List.length_cons, List.length_nil] at h2
      omega
    · unfold T.linesL at hl
      obtain ⟨f, hf, hl⟩ := List.mem_flatMap.1 hl
      unfold T.fnL at hl
      rcases List.mem_cons.1 hl with rfl | hl
      · decide
      · obtain ⟨x, hx, rfl⟩ := List.mem_map.1 hl
        have := ndL_len ((h.fns f hf).nodes x hx)
        omega
  have h2 := text_le (T.lines d) 25 h1
  have h3 := linesL_le d.L h.fns
  have h4 := h.len
  unfold T.print
  have h5 : (T.lines d).length = 1 + (T.linesL d.L).length := by unfold T.lines; rw [List.length_cons]; omega
  rw [h5] at h2
  omega
theorem print_back {d : C.PD} (h : C.PDOk d) (hc : (Q.check (C.pgOf d)).2.2 = 0) : T.parse (T.print d) = (d, 0, 0) :=
  T.parse_of h hc (by have := print_len h; omega) (T.print_full h)
theorem small_ok {p : Pg} (hlen : p.fns.length = p.len) (h : C.PDOk (C.dataOf p)) : Q.small p = true := by
  unfold Q.small
  rw [Bool.and_eq_true, decide_eq_true_iff, List.all_eq_true]
  refine ⟨?_, fun f hf => ?_⟩
  · have := h.len
    unfold C.dataOf at this
    simp at this
    omega
  · have := (h.fns f.nodes (List.mem_map.2 ⟨f, hf, rfl⟩)).len
    simp
    omega
theorem cvT {w : World} {B n c : Nat} {A : Option Addr} {bs : List Nat} (h : Row byteV w B A n bs) : (convert 44 9 (.slice A n c)).run Tryd.prog w = .ok (.string (strOf bs)) w :=
  run_string h _ _ _ c Tryd.underlying44 Tryd.underlying5 Tryd.underlying9

theorem run_string_own {w : World} {B : Nat} {v : Value} {l : List Nat} (h : Own w B 5 v (l.map byteV)) : ∃ A n c, v = .slice A n c ∧ Row byteV w w.heap.size A n l := by
  obtain ⟨A, c, rfl, _, _, hr⟩ := Own.readsN h rfl
  exact ⟨A, _, c, rfl, hr⟩

set_option maxRecDepth 1000000 in
set_option maxHeartbeats 8000000 in
theorem walkTextCode (pg0 : Pg) (w : World) (w0 : pg0.Ok w w.heap.size) (hE : Env w) :
    Calls Tryd.prog 6 #[pgA pg0] w fun e w' => e = .returned (.bool true) ∧ Below w.heap.size w w' := by
  have HP := kp w0; have HE := kp hE
  have hlen := w0.row.len
  obtain ⟨a, b, c, hc⟩ : ∃ a b c, Q.check pg0 = (a, b, c) := ⟨_, _, _, rfl⟩
  have HC := kp hc
  clear w0 hE
  rw [pgA_is]
  obtain ⟨r, hr⟩ : ∃ r, Q.small pg0 = r := ⟨_, rfl⟩
  have HS := kp hr
  cases r
  · clear hr hc hlen
    go_enter Tryd.func6, Tryd.ntmps6
    go_wp2_with (first
      | ((with_reducible refine wpList_box_agg rfl 25 (.tmp 0) rfl (pgC pg0) rfl ?_); intro g1 w1 hg1 hk1 hw1; have HK := kp hk1; have HW := kp hw1; have hs1 := hw1.size; have HE1 := kp (HE.out.on hw1); have hgl := hk1.lt; clear hk1 hw1)
      | fail)
    refine (tx_awake w1 HE1.out).mono ?_
    rintro e w2 ⟨rfl, hb⟩
    have HK2 := kp (HK.out.below hb hgl); have HW2 := kp (HW.out.trans (hb.mono hs1)); have HE2 := kp (HE1.out.on hb)
    have hs2 := HW2.out.size
    clear hb
    obtain ⟨hc0, hc1, hc2, hc3⟩ := pg_cells HK2.out
    go_wp2_with fail
    refine (ref_small _ pg0 w2 (HP.out.below HW2.out) hs2 _ HS.out).mono ?_
    rintro e w3 ⟨rfl, hb3⟩
    have HW3 := kp (HW2.out.trans (hb3.mono hs2)); have HE3 := kp (HE2.out.on hb3)
    have hs3 := HW3.out.size
    clear hb3
    go_wp2_with fail
    refine (tx_awake w3 HE3.out).mono ?_
    rintro e w4 ⟨rfl, hb4⟩
    have HW4 := kp (HW3.out.trans (hb4.mono hs3))
    clear hb4
    go_wp2
    go_ret
    exact ⟨rfl, HW4.out⟩
  · clear hr
    by_cases h0 : c = 0
    · subst h0
      have hok : C.PDOk (C.dataOf pg0) := C.fine_ok hlen (fine_of hc)
      have HOk := kp hok
      obtain ⟨L, hL⟩ : ∃ L, T.print (C.dataOf pg0) = L := ⟨_, rfl⟩
      have HB : Kept (T.parse L = (C.dataOf pg0, 0, 0)) := kp (by rw [← hL]; exact print_back hok (by have := C.check_data hlen; rw [← this, hc]))
      have HL := kp hL
      have hse : ((strOf (C.pgB (C.dataOf pg0))).toList == (strOf (C.pgB (C.dataOf pg0))).toList) = true := beq_self_eq_true _
      obtain ⟨bs, hbs⟩ : ∃ bs, C.pgB (C.dataOf pg0) = bs := ⟨_, rfl⟩
      rw [hbs] at hse
      have HBs := kp hbs
      clear hok hL hc hlen hbs
      go_enter Tryd.func6, Tryd.ntmps6
      go_wp2_with (first
        | ((with_reducible refine wpList_box_agg rfl 25 (.tmp 0) rfl (pgC pg0) rfl ?_); intro g1 w1 hg1 hk1 hw1; have HK := kp hk1; have HW := kp hw1; have hs1 := hw1.size; have HE1 := kp (HE.out.on hw1); have hgl := hk1.lt; clear hk1 hw1)
        | fail)
      refine (tx_awake w1 HE1.out).mono ?_
      rintro e w2 ⟨rfl, hb⟩
      have HK2 := kp (HK.out.below hb hgl); have HW2 := kp (HW.out.trans (hb.mono hs1)); have HE2 := kp (HE1.out.on hb)
      have hs2 := HW2.out.size
      clear hb
      obtain ⟨hc0, hc1, hc2, hc3⟩ := pg_cells HK2.out
      go_wp2_with fail
      refine (ref_small _ pg0 w2 (HP.out.below HW2.out) hs2 _ HS.out).mono ?_
      rintro e w3 ⟨rfl, hb3⟩
      have HW3 := kp (HW2.out.trans (hb3.mono hs2)); have HE3 := kp (HE2.out.on hb3)
      have hs3 := HW3.out.size
      have HK3 := kp (HK2.out.below hb3 HK2.out.lt)
      clear hb3 hc0 hc1 hc2 hc3
      go_wp2_with (first
        | ((with_reducible show wpList _ _ _ (⟨some 21, _, _, _, _, _⟩ :: _) _ _); go_must (refine wpList_load_blk rfl 25 (.tmp 1) rfl g1 rfl _ (pgC pg0) _ HK3.out Tryd.underlying25 rfl pg_size ?_))
        | (go_at_call 15; fail))
      rw [← pgA_is]
      refine (tx_print _ pg0 w3 HE3.out (HP.out.below HW3.out) hs3 a b HC.out HOk.out).mono ?_
      rintro e w4 ⟨rfl, hb4⟩
      rw [HL.out]
      have HW4 := kp (HW3.out.trans (hb4.mono hs3)); have HE4 := kp (HE3.out.on hb4)
      have hs4 := HW4.out.size
      have HK4 := kp (HK3.out.below hb4 HK3.out.lt)
      clear hb4
      go_wp2_with fail
      refine (tx_parse L w4 HE4.out).mono ?_
      intro e w5 h5
      rw [HB.out] at h5
      obtain ⟨p, rfl, hpok, hd, hb5⟩ := h5
      have HPk := kp hpok
      have HD : Kept (C.dataOf p = C.dataOf pg0) := kp hd
      have hplen := hpok.row.len
      have HW5 := kp (HW4.out.trans (hb5.mono hs4))
      have hs5 := HW5.out.size
      have HK5 := kp (HK4.out.below hb5 HK4.out.lt)
      have HC5 : Kept (∃ a' b', Q.check p = (a', b', 0)) := kp (by
        have e1 := C.check_data hplen
        have e2 := C.check_data HP.out.row.len
        have : C.dataOf p = C.dataOf pg0 := hd
        rw [this, ← e2, HC.out] at e1
        exact ⟨_, _, e1⟩)
      obtain ⟨a', b', hc5⟩ := HC5.out
      have HC6 := kp hc5
      have HS5 : Kept (Q.small p = true) := kp (small_ok hplen (by rw [HD.out]; exact HOk.out))
      clear hb5 hpok hd hc5 hplen
      rw [pgA_is]
      go_wp2_with (first
        | ((with_reducible show wpList _ _ _ (⟨some 5, _, _, _, _, _⟩ :: _) _ _); go_must (refine wpList_alloc_zero rfl 25 rfl _ tx_pg_zero ?_); intro g5 w6 hg5 hk6 hw6; have HK6 := kp hk6; have HW6 := kp (HW5.out.trans (hw6.mono hs5)); have HKa := kp (HK5.out.below hw6 HK5.out.lt)
           have hs56 := hw6.size; have hs6 := HW6.out.size; have HPa := kp (HPk.out.below hw6); have hgne : g1 ≠ g5 := by have := HK5.out.lt; omega
           have hg5' : w.heap.size ≤ g5 := Nat.le_trans hs5 hg5
           clear hk6)
        | ((with_reducible show wpList _ _ _ (⟨none, _, _, _, _, _⟩ :: _) _ _); (refine wpList_store_blk rfl 25 (.tmp 5) (.tmp 30) rfl g5 (pgC p) rfl rfl _ _ HK6.out pg_size rfl (tx_pg_ones p) ?_); intro w7 hk7 hg7 hz7
           have HK7 := kp hk7; have HW7 : Kept (Below w.heap.size w w7) := kp (HW6.out.grown hg7 hs6 (by intro k e; cases e; exact hg5')); have hs7 := HW7.out.size; have HKb := kp (HKa.out.grown hg7 (by intro e; cases e; exact hgne rfl))
           have hb57 : Below w5.heap.size w5 w7 := hw6.grown hg7 hs56 (by intro k e; cases e; exact hg5)
           have HP7 := kp (HPk.out.below hb57); have hs57 := hb57.size
           clear hk7 hg7 hz7 hw6 hb57)
        | ((with_reducible show wpList _ _ _ (⟨some 34, _, _, _, _, _⟩ :: _) _ _); go_must (refine wpList_load_blk rfl 25 (.tmp 1) rfl g1 rfl _ (pgC pg0) _ HKb.out Tryd.underlying25 rfl pg_size ?_))
        | (go_at_call 18; fail))
      rw [← pgA_is]
      refine (pc_write _ pg0 w7 (HP.out.below HW7.out) hs7 HS.out a b HC.out).mono ?_
      rintro e w8 ⟨v8, rfl, hown8, hb8⟩
      rw [HBs.out] at hown8
      obtain ⟨A8, n8, c8, rfl, hr8⟩ := run_string_own hown8
      have HR8 := kp hr8
      have HW8 := kp (HW7.out.trans (hb8.mono hs7))
      have hs8 := HW8.out.size
      have HK8 := kp (HK7.out.below hb8 HK7.out.lt)
      have HP8 := kp (HP7.out.below (hb8.mono hs57)); have hs58 := Nat.le_trans hs57 hb8.size
      clear hown8 hr8 hb8
      go_wp2_with (first
        | ((with_reducible show wpList _ _ _ (⟨some 39, _, _, _, _, _⟩ :: _) _ _); go_must (refine wpList_load_blk rfl 25 (.tmp 5) rfl g5 rfl _ (pgC p) _ HK8.out Tryd.underlying25 rfl pg_size ?_))
        | (go_at_call 18; fail))
      rw [← pgA_is]
      refine (pc_write _ p w8 HP8.out hs58 HS5.out a' b' HC6.out).mono ?_
      rintro e w9 ⟨v9, rfl, hown9, hb9⟩
      rw [HD.out, HBs.out] at hown9
      obtain ⟨A9, n9, c9, rfl, hr9⟩ := run_string_own hown9
      have HW9 := kp (HW8.out.trans (hb9.mono hs8))
      have cv8 := cvT (c := c8) (HR8.out.below hb9)
      have cv9 := cvT (c := c9) hr9
      clear hown9 hr9 hb9
      go_wp2
      go_ret
      exact ⟨rfl, HW9.out⟩
    · have hcb : ((c : Int) != 0) = true := by rw [bne_iff_ne]; omega
      have H0 := kp h0
      clear h0 hc hlen
      go_enter Tryd.func6, Tryd.ntmps6
      go_wp2_with (first
        | ((with_reducible refine wpList_box_agg rfl 25 (.tmp 0) rfl (pgC pg0) rfl ?_); intro g1 w1 hg1 hk1 hw1; have HK := kp hk1; have HW := kp hw1; have hs1 := hw1.size; have HE1 := kp (HE.out.on hw1); have hgl := hk1.lt; clear hk1 hw1)
        | fail)
      refine (tx_awake w1 HE1.out).mono ?_
      rintro e w2 ⟨rfl, hb⟩
      have HK2 := kp (HK.out.below hb hgl); have HW2 := kp (HW.out.trans (hb.mono hs1))
      have hs2 := HW2.out.size
      clear hb
      obtain ⟨hc0, hc1, hc2, hc3⟩ := pg_cells HK2.out
      go_wp2_with fail
      refine (ref_small _ pg0 w2 (HP.out.below HW2.out) hs2 _ HS.out).mono ?_
      rintro e w3 ⟨rfl, hb3⟩
      have HW3 := kp (HW2.out.trans (hb3.mono hs2))
      have hs3 := HW3.out.size
      have HK3 := kp (HK2.out.below hb3 HK2.out.lt)
      clear hb3 hc0 hc1 hc2 hc3
      go_wp2_with (first
        | ((with_reducible show wpList _ _ _ (⟨some 21, _, _, _, _, _⟩ :: _) _ _); go_must (refine wpList_load_blk rfl 25 (.tmp 1) rfl g1 rfl _ (pgC pg0) _ HK3.out Tryd.underlying25 rfl pg_size ?_))
        | (go_at_call 15; fail))
      rw [← pgA_is]
      refine (tx_print_not _ pg0 w3 (HP.out.below HW3.out) hs3 a b c HC.out H0.out).mono ?_
      rintro e w4 ⟨rfl, hb4⟩
      have HW4 := kp (HW3.out.trans (hb4.mono hs3))
      clear hb4
      go_wp2
      go_ret
      exact ⟨rfl, HW4.out⟩
end Go.Proofs.YtiojobajcnifpaaDoor
