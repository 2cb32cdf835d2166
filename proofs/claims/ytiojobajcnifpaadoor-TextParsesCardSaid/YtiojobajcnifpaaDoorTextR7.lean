/- The document's Parse, walked (gen/l8/r7.py writes this). -/
import Derived.Test.YtiojobajcnifpaaDoorPk27
import Derived.Test.YtiojobajcnifpaaDoorTextR5
import Derived.Test.YtiojobajcnifpaaDoorPk21
namespace Go.Proofs.YtiojobajcnifpaaDoor
open Go.RowKit
set_option linter.unusedVariables false

/-- The program's block holds what was read. -/
structure RdP (W : World) (C0 g N : Nat) (st : T.St) : Prop where
  blk : ∃ v us, Blk W g 25 [.int .i64 st.d.g, .int .i64 st.d.l, .int .i64 st.d.s, v] ∧ Fns W C0 (fun k => k = g) v us st.d.L
  ok : I64 st.d.g ∧ I64 st.d.l ∧ I64 st.d.s
  few : st.d.L.length ≤ N ∧ ∀ l ∈ st.d.L, l.length ≤ N
theorem RdP.more {W : World} {C0 g N M : Nat} {st : T.St} (h : RdP W C0 g N st) (hM : N ≤ M) : RdP W C0 g M st := ⟨h.blk, h.ok, by have := h.few.1; omega, fun l hl => by have := h.few.2 l hl; omega⟩
theorem RdP.on {W W' : World} {C0 g N : Nat} {st : T.St} (h : RdP W C0 g N st) (hb : Below W.heap.size W W') : RdP W' C0 g N st := by
  obtain ⟨v, us, h1, h2⟩ := h.blk
  exact ⟨⟨v, us, h1.below hb h1.lt, h2.on hb⟩, h.ok, h.few⟩
theorem rf_reads {α : Type} {f : α → Value} {w : World} {B : Nat} {e : TypeId} {v : Value} {l : List α} {n : Nat} (h : Own w B e v (l.map f)) (hn : l.length = n) :
    ∃ A cap, v = .slice A n cap ∧ n ≤ cap ∧ cap ≤ maxLen ∧ Row f w w.heap.size A n l ∧ ∀ ad, A = some ad → B ≤ ad.block ∧ ad.block < w.heap.size := by
  have hb := h.block
  obtain ⟨A, cap, rfl, h1, h2, h3⟩ := h.readsN hn
  exact ⟨A, cap, rfl, h1, h2, h3, fun ad e => by subst e; exact hb ad.block rfl⟩
theorem rf_build_pg : ∀ w, (Instr.build 25 #[]).run Tryd.prog w = .ok (.agg (pgC txNone).toArray) w := by intro w; kernel_rfl
theorem rows_away {w W : World} {C0 g6 n : Nat} {A : Option Addr} {l : List (List UInt8)} (h : Row wordT w C0 A n l) (ho : Only (fun k => k = g6 ∨ C0 ≤ k) w W) (hC : C0 ≤ w.heap.size) (hA : ∀ ad, A = some ad → ad.block ≠ g6 ∧ ad.block < C0) : Row wordT W C0 A n l :=
  h.only ho hC fun ad _ e hk => by
    obtain ⟨h1, h2⟩ := hA ad e
    rcases hk with hk | hk
    · exact h1 hk
    · omega

theorem own3 {w : World} {B : Nat} {e : TypeId} {v : Value} {a b c : Nat} (h : Own w B e v (numV a :: numV b :: numV c :: [])) : ∃ r cp, v = .slice (some ⟨r, 0, none⟩) 3 cp ∧ B ≤ r ∧ r < w.heap.size ∧ w.cell? ⟨r, 0, none⟩ = some (.int .i64 (a : Int)) ∧ w.cell? ⟨r, 1, none⟩ = some (.int .i64 (b : Int)) ∧ w.cell? ⟨r, 2, none⟩ = some (.int .i64 (c : Int)) := by
  obtain ⟨r, cp, cur, hv, hb, hc, hl, hm, ht, hr⟩ := h.blk (by simp)
  have h3 : (numV a :: numV b :: numV c :: []).length = 3 := rfl
  rw [h3] at hv ht hl
  have hat : ∀ k, k < 3 → w.cell? ⟨r, k, none⟩ = (numV a :: numV b :: numV c :: [])[k]? := fun k hk => by
    rw [hb.cell, ← ht, List.getElem?_take, if_pos hk]
  exact ⟨r, cp, hv, hr, hb.lt, hat 0 (by omega), hat 1 (by omega), hat 2 (by omega)⟩
theorem nums_lt9 {ws : List (List UInt8)} {m : Nat} {vs : List Nat} (hn : numsR ws m = some vs) : ∀ v ∈ vs, v < 10000 := by
  unfold numsR at hn
  split at hn
  · exact T.nums_lt hn
  · cases hn
/-- A line that tells a node, at the kind that has its name. -/
theorem lineN_hit {s : List UInt8} {ws : List (List UInt8)} {k : Nat} {vs : List Nat} {st : T.St} (hk : T.names[k]? = some s) (hn : numsR ws (T.tl k).length = some vs) : T.lineN st s ws ≠ none := by
  cases h : T.idx s 0 T.names with
  | none => exact absurd rfl (names_none h hk)
  | some j =>
    by_cases hj : k = j
    · subst hj
      rw [lineN_some h hn]; simp
    · exact absurd rfl (names_other h hk hj)

set_option maxRecDepth 1000000 in
set_option maxHeartbeats 16000000 in
theorem rf_parse_main (l : List UInt8) (w : World) (hl : l.length ≤ 65536) (r : T.St ⊕ Nat) (hr : T.run T.st0 0 (T.parts 10 l) = r) :
    Calls Tryd.prog 10 #[.string (T.str l)] w fun e w' => TextPost w (T.parseR r) e w' := by
  have hsz : (T.str l).size ≤ 65536 := by rw [T.str_size]; exact hl
  obtain ⟨lns, hlns⟩ : ∃ lns, T.parts 10 l = lns := ⟨_, rfl⟩
  obtain ⟨n, hn⟩ : ∃ n, lns.length = n := ⟨_, rfl⟩
  have hn9 : n ≤ 65537 := by
    have h1 := T.parts_len 10 l
    have h2 := List.count_le_length (a := (10 : UInt8)) (l := l)
    rw [hlns, hn] at h1
    omega
  have HPl : Kept (∀ x ∈ lns, x.length ≤ 65536) := kp fun x hx => by have := (T.parts_mem 10 l x (by rw [hlns]; exact hx)).2; omega
  have hsp : ∀ W, Calls Tryd.prog 23 #[.string (T.str l), .int .u8 10] W fun e w' => ∃ v, e = .returned v ∧ Own w' W.heap.size 9 v ((T.parts 10 l).map wordT) ∧ Below W.heap.size W w' := fun W => rf_split 10 l W (by omega)
  rw [hlns] at hsp hr
  have HSp := kp hsp; have HR := kp hr; have HN := kp hn
  clear hsp hlns hn hr hl
  go_enter Tryd.func10, Tryd.ntmps10
  go_wp2_with (first
    | ((with_reducible show wpList _ _ _ (⟨some 2, _, _, _, _, _⟩ :: _) _ _); go_must (refine wpList_alloc_zero rfl 25 rfl _ tx_pg_zero ?_); intro gr w1 hgr hk1 hw1; have HK1 := kp hk1; have HW1 := kp hw1; have hs1 := hw1.size; have hl1 := hk1.lt; clear hk1 hw1)
    | ((with_reducible show wpList _ _ _ (⟨some 24, _, _, _, _, _⟩ :: _) _ _); go_must (refine wpList_build_run rfl _ _ rfl _ (by simp [Act.eval]) _ rf_build_pg ?_))
    | ((with_reducible show wpList _ _ _ (⟨some 5, _, _, _, _, _⟩ :: _) _ _); go_must (refine wpList_alloc_zero rfl 25 rfl _ tx_pg_zero ?_); intro g5 w2 hg5 hk2 hw2; have HK2 := kp hk2; have HW2 := kp (HW1.out.trans (hw2.mono hs1)); have HKr2 := kp (HK1.out.below hw2 hl1); have hs2 := HW2.out.size; have hne5 : gr ≠ g5 := by omega
       have hg5w : w.heap.size ≤ g5 := Nat.le_trans hs1 hg5
       clear hk2 hw2)
    | ((with_reducible show wpList _ _ _ (⟨none, _, _, _, _, _⟩ :: _) _ _); (refine wpList_store_blk rfl 25 (.tmp 5) (.tmp 24) rfl g5 (pgC txNone) rfl rfl _ _ HK2.out pg_size rfl (tx_pg_ones txNone) ?_); intro w3 hk3 hg3 hz3
       have HK3 := kp hk3; have HW3 : Kept (Below w.heap.size w w3) := kp (HW2.out.grown hg3 hs2 (by intro k e; cases e; exact hg5w)); have HKr3 := kp (HKr2.out.grown hg3 (by intro e; cases e; exact hne5 rfl)); have hs3 := HW3.out.size
       have hl3 := hk3.lt
       clear hk3 hg3)
    | ((with_reducible show wpList _ _ _ (⟨some 29, _, _, _, _, _⟩ :: _) _ _); go_must (refine wpList_build_run rfl _ _ rfl _ (by simp [Act.eval]) _ rf_build_pg ?_))
    | ((with_reducible show wpList _ _ _ (⟨some 6, _, _, _, _, _⟩ :: _) _ _); go_must (refine wpList_alloc_zero rfl 25 rfl _ tx_pg_zero ?_); intro g6 w4 hg6 hk4 hw4; have HK4 := kp hk4; have HW4 := kp (HW3.out.trans (hw4.mono hs3)); have HKr4 := kp (HKr3.out.below hw4 HKr3.out.lt); have HK54 := kp (HK3.out.below hw4 hl3); have hs4 := HW4.out.size
       have hne6 : g5 ≠ g6 := by omega
       have hne7 : gr ≠ g6 := by have := HKr3.out.lt; omega
       have hg6w : w.heap.size ≤ g6 := Nat.le_trans hs3 hg6
       clear hk4 hw4)
    | ((with_reducible show wpList _ _ _ (⟨none, _, _, _, _, _⟩ :: _) _ _); (refine wpList_store_blk rfl 25 (.tmp 6) (.tmp 29) rfl g6 (pgC txNone) rfl rfl _ _ HK4.out pg_size rfl (tx_pg_ones txNone) ?_); intro w5 hk5 hg5' hz5
       have HK5 := kp hk5; have HW5 : Kept (Below w.heap.size w w5) := kp (HW4.out.grown hg5' hs4 (by intro k e; cases e; exact hg6w)); have HKr5 := kp (HKr4.out.grown hg5' (by intro e; cases e; exact hne7 rfl)); have HK55 := kp (HK54.out.grown hg5' (by intro e; cases e; exact hne6 rfl)); have hs5 := HW5.out.size
       have hl5 := hk5.lt
       clear hk5 hg5')
    | (go_at_call 23; fail))
  refine (HSp.out w5).mono ?_
  rintro e w6 ⟨v6, rfl, hown6, hb6⟩
  obtain ⟨A7, c7, rfl, hnc, hcm, hr7, hA7⟩ := rf_reads (f := wordT) hown6 HN.out
  have HR7 := kp hr7; have HA7 := kp hA7
  have HW6 := kp (HW5.out.trans (hb6.mono hs5)); have HKr6 := kp (HKr5.out.below hb6 HKr5.out.lt); have HK56 := kp (HK55.out.below hb6 HK55.out.lt); have HK66 := kp (HK5.out.below hb6 hl5)
  have hs6 := HW6.out.size; have hs56 := hb6.size
  clear hown6 hb6 hr7 hA7
  have HRd0 : Kept (RdP w6 w6.heap.size g6 0 T.st0) := kp ⟨⟨_, [], HK66.out, Fns.nil _ _ _ (fun k hk => by subst hk; omega)⟩, by unfold I64; simp [T.st0], ⟨Nat.le_refl _, by simp [T.st0]⟩⟩
  obtain ⟨C0, hC0⟩ : ∃ C0, w6.heap.size = C0 := ⟨_, rfl⟩
  have HC0 := kp hC0
  rw [hC0] at HRd0 HR7
  have hAw : ∀ ad, A7 = some ad → ad.block ≠ g6 ∧ ad.block < C0 := fun ad e => by have := HA7.out ad e; omega
  have HAw := kp hAw
  clear hAw
  go_wp2
  go_loopw [8, 9] (fun v8 v9 wr => ∃ (i : Nat) (st : T.St), i ≤ n ∧ v9 = .int .i64 i ∧ v8 = .bool st.first ∧ T.run st i (lns.drop i) = r ∧ RdP wr C0 g6 i st ∧ Only (fun k => k = g6 ∨ C0 ≤ k) w6 wr) (fun _ v9 _ => n - (intOf v9).toNat)
  case atStart => exact ⟨0, T.st0, by omega, rfl, rfl, HR.out, HRd0.out, Only.refl _ _⟩
  case round =>
    obtain ⟨wA, rfl⟩ : ∃ x, x = wr := ⟨_, rfl⟩
    obtain ⟨i, st, hi, rfl, rfl, hrun, hrd, hon⟩ := hrel
    have HRun := kp hrun; have HRd := kp hrd; have HOn := kp hon
    have hsr := hon.size
    have HRow : Kept (Row wordT wA C0 A7 n lns) := kp (rows_away HR7.out hon (by omega) HAw.out)
    have hgrC : gr < C0 := by have := HKr6.out.lt; omega
    have hg5C : g5 < C0 := by have := HK56.out.lt; omega
    have HKrA := kp (hon.blk HKr6.out (fun hc => by omega))
    have HK5A := kp (hon.blk HK56.out (fun hc => by omega))
    have HWA : Kept (Below w.heap.size w wA) := kp (HW6.out.trans (hon.below (B := w.heap.size) (by omega) (fun k hk => by rcases hk with h | h <;> omega)))
    have hsA := HWA.out.size
    clear hrun hrd hon
    by_cases hlt : i < n
    · obtain ⟨ad, x, rfl, hab, hx, hc⟩ := HRow.out.get hlt
      replace hc : wA.cell? (ad.add i) = some (.string (T.str x)) := hc
      have HX := kp hx
      have hil : i < lns.length := by rw [HN.out]; exact hlt
      have hd : lns.drop i = x :: lns.drop (i + 1) := by
        rw [List.drop_eq_getElem_cons hil]
        have : lns[i] = x := (List.getElem?_eq_some_iff.1 hx).2
        rw [this]
      have HD := kp hd
      have hxl := HPl.out x (List.mem_of_getElem? hx)
      clear hx hd
      by_cases hne : x = []
      · have hq := lit_is (x := x) (s := []) hne
        have HRun2 : Kept (T.run st (i + 1) (lns.drop (i + 1)) = r) := kp (by rw [← HRun.out, HD.out, hne, T.run_some (T.step_nil st)])
        clear hne
        go_wp2
        go_roundw
        case rel => exact ⟨i + 1, st, by omega, by go_num, rfl, HRun2.out, HRd.out.more (by omega), HOn.out⟩
        case measure => simp [intOf]; omega
      · have hq := lit_not (x := x) (s := []) hne
        have HNe := kp hne
        clear hne
        obtain ⟨name, ns, hps⟩ := T.parts_pos 32 x
        obtain ⟨m, hm⟩ : ∃ m, ns.length = m := ⟨_, rfl⟩
        have HM := kp hm
        have hm9 : m ≤ 65537 := by
          have h1 := T.parts_len 32 x
          have h2 := List.count_le_length (a := (32 : UInt8)) (l := x)
          rw [hps, List.length_cons, hm] at h1
          omega
        have HStep : Kept (T.step st x = T.lineW st name ns) := kp (by rw [T.step_line HNe.out, hps]; rfl)
        have HWs : Kept (∀ y ∈ ns, y.length ≤ 1000000) := kp fun y hy => by
          have := (T.parts_mem 32 x y (by rw [hps]; exact List.mem_cons_of_mem _ hy)).2
          omega
        have hsw : ∀ W, Calls Tryd.prog 23 #[.string (T.str x), .int .u8 32] W fun e w' => ∃ v, e = .returned v ∧ Own w' W.heap.size 9 v ((T.parts 32 x).map wordT) ∧ Below W.heap.size W w' := fun W => rf_split 32 x W (by omega)
        rw [hps] at hsw
        have HSw := kp hsw
        clear hsw hps hm
        go_wp2_with (first | (go_at_call 23; fail))
        refine (HSw.out wA).mono ?_
        rintro e wB ⟨vB, rfl, hownB, hbB⟩
        obtain ⟨AB, cB, rfl, hncB, hcmB, hrB, hAB⟩ := rf_reads (f := wordT) (l := name :: ns) (n := m + 1) hownB (by rw [List.length_cons, HM.out])
        obtain ⟨adB, y, e1, habB, hyB, hcB⟩ := hrB.get (k := 0) (by omega)
        have hyB : name = y := by simpa using hyB
        subst hyB
        have e9 : adB.add 0 = adB := by simp [Addr.add]
        replace hcB : wB.cell? adB = some (.string (T.str name)) := by rw [e9] at hcB; exact hcB
        have HRB : Kept (Row wordT wB wB.heap.size (some adB) (m + 1) (name :: ns)) := kp (by rw [← e1]; exact hrB)
        have HAB : Kept (wA.heap.size ≤ adB.block ∧ adB.block < wB.heap.size) := kp (hAB adB e1)
        subst e1
        have HBB := kp hbB; have hsB := hbB.size
        have HOnB : Kept (Only (fun k => k = g6 ∨ C0 ≤ k) w6 wB) := kp (HOn.out.trans (Only.of_below hbB))
        have HRdB := kp (HRd.out.on hbB)
        have HCB := kp hcB
        clear hownB hrB hAB hbB e9 hc hq
        have HKrB := kp (HKrA.out.below HBB.out HKrA.out.lt); have HK5B := kp (HK5A.out.below HBB.out HK5A.out.lt)
        have HWB := kp (HWA.out.trans (HBB.out.mono hsA)); have hsWB := HWB.out.size
        have HBad : Kept (T.lineW st name ns = none → r = .inr i) := kp (fun h => by
          have h2 := HRun.out
          rw [HD.out, T.run_none (by rw [HStep.out, h])] at h2
          exact h2.symm)
        cases hfs : st.first with
        | true => 
          obtain ⟨o, ho⟩ : ∃ o, numsR ns 3 = o := ⟨_, rfl⟩
          have HO := kp ho
          have hL1 : T.lineW st name ns = T.line1 st name ns := by unfold T.lineW; rw [if_pos hfs]
          rw [line1_of] at hL1
          have HL1 := kp hL1
          clear ho hL1
          cases o with
          | none =>
            have HBd : Kept (r = .inr i) := kp (HBad.out (by rw [HL1.out, HO.out]; split <;> rfl))
            go_wp2_with (first
              | ((with_reducible show wpList _ _ _ (⟨some 52, _, _, _, _, _⟩ :: _) _ _); go_must (refine wpList_slice_from rfl 34 (.tmp 51) (.const (.int .i64 1)) rfl 9 Tryd.underlying34 str_size1 (some adB) (m + 1) cB rfl .i64 1 rfl (by omega) hncB ?_); intro A2 hin hrow; have HR2 : Kept (Row wordT wB wB.heap.size A2 m ns) := kp (hrow wordT wB wB.heap.size (name :: ns) HRB.out); clear hin hrow)
              | (go_at_call 24; fail))
            refine (rf_numbers wB.heap.size A2 m _ 3 ns wB HR2.out (Nat.le_refl _) HWs.out (by omega) (by omega)).mono ?_
            rintro e wN ⟨vN, rfl, hownN, hbN⟩
            rw [HO.out]
            have HK5N := kp (HK5B.out.below hbN HK5B.out.lt); have HKrN := kp (HKrB.out.below hbN HKrB.out.lt)
            have HWN := kp (HWB.out.trans (hbN.mono hsWB)); have hsN := HWN.out.size
            clear hownN hbN
            go_wp2_with (first
              | ((with_reducible show wpList _ _ _ (⟨some 166, _, _, _, _, _⟩ :: _) _ _); go_must (refine wpList_load_blk rfl 25 (.tmp 5) rfl g5 rfl _ (pgC txNone) _ HK5N.out Tryd.underlying25 rfl pg_size ?_))
              | ((with_reducible show wpList _ _ _ (⟨none, _, _, _, _, _⟩ :: _) _ _); (refine wpList_store_blk rfl 25 (.tmp 2) (.tmp 166) rfl gr (pgC txNone) rfl rfl _ _ HKrN.out pg_size rfl (tx_pg_ones txNone) ?_); intro wa hka hga hza
                 have HKa := kp hka; have HBa : Kept (Below w.heap.size w wa) := kp (HWN.out.grown hga hsN (by intro k e; cases e; exact hgr))
                 clear hka hga)
              | ((with_reducible show bodyPost _ _ _ _ _ _); rw [HBd.out, show T.parseR (.inr i) = (C.none_, i + 1, 3) from rfl]; exact bodyPost_ret (tx_results3 (P := Tryd.prog) (fn := Tryd.f10) rfl _ _ gr 25 _ _ _ _ rfl rfl rfl HKa.out Tryd.underlying25 rfl pg_size) rfl (text_none HBa.out)))
          | some vs =>
            by_cases hna : name = T.alibi
            · obtain ⟨va, vb, vc, rfl⟩ : ∃ a b c, vs = a :: b :: c :: [] := by
                have h := nums_vs_len HO.out
                match vs, h with
                | [a, b, c], _ => exact ⟨a, b, c, rfl⟩
              have HLn : Kept (T.lineW st name ns = some ⟨false, ⟨(va : Nat), (vb : Nat), (vc : Nat), st.d.L⟩⟩) := kp (by rw [HL1.out, if_pos hna, HO.out]; rfl)
              have hqa := lit_is (x := name) (s := [97, 108, 105, 98, 105]) hna
              have HVl := kp (nums_lt9 HO.out)
              clear hna
              go_wp2_with (first
                | ((with_reducible show wpList _ _ _ (⟨some 52, _, _, _, _, _⟩ :: _) _ _); go_must (refine wpList_slice_from rfl 34 (.tmp 51) (.const (.int .i64 1)) rfl 9 Tryd.underlying34 str_size1 (some adB) (m + 1) cB rfl .i64 1 rfl (by omega) hncB ?_); intro A2 hin hrow; have HR2 : Kept (Row wordT wB wB.heap.size A2 m ns) := kp (hrow wordT wB wB.heap.size (name :: ns) HRB.out); clear hin hrow)
                | (go_at_call 24; fail))
              refine (rf_numbers wB.heap.size A2 m _ 3 ns wB HR2.out (Nat.le_refl _) HWs.out (by omega) (by omega)).mono ?_
              rintro e wN ⟨vN, rfl, hownN, hbN⟩
              rw [HO.out] at hownN ⊢
              have hcN : wN.cell? adB = some (.string (T.str name)) := (hbN.cell HAB.out.2).trans HCB.out
              have HBN := kp hbN
              have hsN := hbN.size
              obtain ⟨rN, cN, rfl, hrC, hrl, n0, n1, n2⟩ := own3 (show Own wN wB.heap.size 3 vN (numV va :: numV vb :: numV vc :: []) from hownN)
              obtain ⟨v6', us, hkg, hF⟩ := HRdB.out.blk
              have hgB : g6 < wB.heap.size := hkg.lt
              have HKg := kp (hkg.below hbN hkg.lt); have HF := kp (hF.on hbN)
              have hrg : rN ≠ g6 := by omega
              have HRN : Kept (wN.cell? ⟨rN, 0, none⟩ = some (.int .i64 (va : Int)) ∧ wN.cell? ⟨rN, 1, none⟩ = some (.int .i64 (vb : Int)) ∧ wN.cell? ⟨rN, 2, none⟩ = some (.int .i64 (vc : Int))) := kp ⟨n0, n1, n2⟩
              clear hownN hbN n0 n1 n2 hkg hF
              go_wp2
              apply region_acts (fun k => k = g6) [10, 12, 14] (phs ([fun W => Blk W g6 25 [.int .i64 st.d.g, .int .i64 st.d.l, .int .i64 st.d.s, v6'], fun W => Blk W g6 25 [.int .i64 (va : Int), .int .i64 st.d.l, .int .i64 st.d.s, v6'], fun W => Blk W g6 25 [.int .i64 (va : Int), .int .i64 (vb : Int), .int .i64 st.d.s, v6'], fun W => Blk W g6 25 [.int .i64 (va : Int), .int .i64 (vb : Int), .int .i64 (vc : Int), v6']] : List (World → Prop))) (.is _ :: .is _ :: .is _ :: .is _ :: .is _ :: .is _ :: .is _ :: .is _ :: .is _ :: .is _ :: .any _ :: .is _ :: .any _ :: .is _ :: .any _ :: [])
                [[], [(0, 64)], [(1, 65)], [], [(3, 67)], [(4, 68)], [], [(6, 70)], [(7, 71)], [], [(9, 73), (2, 66)], [], [(11, 74), (5, 69)], [], [(13, 75), (8, 72)]]
                [(0, 64), (1, 65), (2, 66), (3, 67), (4, 68), (5, 69), (6, 70), (7, 71), (8, 72), (9, 73), (11, 74), (13, 75)] (by kernel_rfl) (by kernel_rfl) (by kernel_rfl) (by decide)
              case h0 => exact HKg.out.drewN 1
              case hob =>
                refine gobs_calm rfl ?o0 (gobs_calm rfl ?o1 (gobs_calm rfl ?o2 (gobs_calm rfl ?o3 (gobs_calm rfl ?o4 (gobs_calm rfl ?o5 (gobs_calm rfl ?o6 (gobs_calm rfl ?o7 (gobs_calm rfl ?o8 (gobs_calm rfl ?o9 (gobs_act 0 rfl rfl ?o10 (gobs_calm rfl ?o11 (gobs_act 1 rfl rfl ?o12 (gobs_calm rfl ?o13 (gobs_act 2 rfl rfl ?o14 (gobs_nil)))))))))))))))
                case o0 => intro p W hO hJ; change wpList _ _ _ _ _ _; go_wp2; exact calm_post rfl rfl rfl hJ
                case o1 => intro p W hO hJ; rintro _ rfl; change wpList _ _ _ _ _ _; go_wp2; exact calm_post rfl rfl rfl hJ
                case o2 =>
                  intro p W hO hJ; rintro _ rfl; change wpList _ _ _ _ _ _
                  have hc := (hO.cell (p := ⟨rN, 0, none⟩) hrl (fun e => hrg e)).trans HRN.out.1
                  go_wp2; exact calm_post rfl rfl rfl hJ
                case o3 => intro p W hO hJ; change wpList _ _ _ _ _ _; go_wp2; exact calm_post rfl rfl rfl hJ
                case o4 => intro p W hO hJ; rintro _ rfl; change wpList _ _ _ _ _ _; go_wp2; exact calm_post rfl rfl rfl hJ
                case o5 =>
                  intro p W hO hJ; rintro _ rfl; change wpList _ _ _ _ _ _
                  have hc := (hO.cell (p := ⟨rN, 1, none⟩) hrl (fun e => hrg e)).trans HRN.out.2.1
                  go_wp2; exact calm_post rfl rfl rfl hJ
                case o6 => intro p W hO hJ; change wpList _ _ _ _ _ _; go_wp2; exact calm_post rfl rfl rfl hJ
                case o7 => intro p W hO hJ; rintro _ rfl; change wpList _ _ _ _ _ _; go_wp2; exact calm_post rfl rfl rfl hJ
                case o8 =>
                  intro p W hO hJ; rintro _ rfl; change wpList _ _ _ _ _ _
                  have hc := (hO.cell (p := ⟨rN, 2, none⟩) hrl (fun e => hrg e)).trans HRN.out.2.2
                  go_wp2; exact calm_post rfl rfl rfl hJ
                case o9 => intro p W hO hJ; change wpList _ _ _ _ _ _; go_wp2; exact calm_post rfl rfl rfl hJ
                case o10 =>
                  intro W hO hJ; rintro _ rfl; rintro _ rfl; change wpList _ _ _ _ _ _
                  have hJ1 : Blk W g6 25 [.int .i64 st.d.g, .int .i64 st.d.l, .int .i64 st.d.s, v6'] := hJ
                  have hz := hJ1.frozen 0
                  have hk := hJ1.cell 0
                  have HJ1 := kp hJ1
                  clear hJ hJ1 hO
                  go_wp2
                  exact act_post0 rfl (Only.set rfl) (HJ1.out.set 0 _)
                case o11 => intro p W hO hJ; change wpList _ _ _ _ _ _; go_wp2; exact calm_post rfl rfl rfl hJ
                case o12 =>
                  intro W hO hJ; rintro _ rfl; rintro _ rfl; change wpList _ _ _ _ _ _
                  have hJ1 : Blk W g6 25 [.int .i64 (va : Int), .int .i64 st.d.l, .int .i64 st.d.s, v6'] := hJ
                  have hz := hJ1.frozen 1
                  have hk := hJ1.cell 1
                  have HJ1 := kp hJ1
                  clear hJ hJ1 hO
                  go_wp2
                  exact act_post0 rfl (Only.set rfl) (HJ1.out.set 1 _)
                case o13 => intro p W hO hJ; change wpList _ _ _ _ _ _; go_wp2; exact calm_post rfl rfl rfl hJ
                case o14 =>
                  intro W hO hJ; rintro _ rfl; rintro _ rfl; change wpList _ _ _ _ _ _
                  have hJ1 : Blk W g6 25 [.int .i64 (va : Int), .int .i64 (vb : Int), .int .i64 st.d.s, v6'] := hJ
                  have hz := hJ1.frozen 2
                  have hk := hJ1.cell 2
                  have HJ1 := kp hJ1
                  clear hJ hJ1 hO
                  go_wp2
                  exact act_post0 rfl (Only.set rfl) (HJ1.out.set 2 _)
              case hend =>
                intro W hO hJ; rintro _ rfl; rintro _ rfl; rintro _ rfl; rintro _ rfl; rintro _ rfl; rintro _ rfl; rintro _ rfl; rintro _ rfl; rintro _ rfl; rintro _ rfl; rintro _ rfl; rintro _ rfl
                simp only [ggiven, put_lit, List.set]
                have hJ1 : Blk W g6 25 [.int .i64 (va : Int), .int .i64 (vb : Int), .int .i64 (vc : Int), v6'] := hJ
                have HOW : Kept (Only (fun k => k = g6 ∨ C0 ≤ k) w6 W) := kp (HOnB.out.trans ((Only.of_below HBN.out).trans (hO.less fun _ _ e => .inl e)))
                have HRn : Kept (RdP W C0 g6 (i + 1) ⟨false, ⟨(va : Nat), (vb : Nat), (vc : Nat), st.d.L⟩⟩) := kp (RdP.more ⟨⟨v6', us, hJ1, HF.out.keep hO fun k hk => ⟨by have := hO.size; omega, .inl hk⟩⟩, by have := HVl.out; unfold I64; simp at this ⊢; omega, HRd.out.few⟩ (by omega))
                have HRun2 : Kept (T.run ⟨false, ⟨(va : Nat), (vb : Nat), (vc : Nat), st.d.L⟩⟩ (i + 1) (lns.drop (i + 1)) = r) := kp (by
                  have h2 := HRun.out
                  rwa [HD.out, T.run_some (by rw [HStep.out, HLn.out])] at h2)
                clear hO hJ hJ1 hqa hcN
                go_wp2
                go_roundw
                case rel => exact ⟨i + 1, _, by omega, by go_num, rfl, HRun2.out, HRn.out, HOW.out⟩
                case measure => simp [intOf]; omega
            · have HBd : Kept (r = .inr i) := kp (HBad.out (by rw [HL1.out, if_neg hna]))
              have hqa := lit_not (x := name) (s := [97, 108, 105, 98, 105]) hna
              clear hna
              go_wp2_with (first
                | ((with_reducible show wpList _ _ _ (⟨some 52, _, _, _, _, _⟩ :: _) _ _); go_must (refine wpList_slice_from rfl 34 (.tmp 51) (.const (.int .i64 1)) rfl 9 Tryd.underlying34 str_size1 (some adB) (m + 1) cB rfl .i64 1 rfl (by omega) hncB ?_); intro A2 hin hrow; have HR2 : Kept (Row wordT wB wB.heap.size A2 m ns) := kp (hrow wordT wB wB.heap.size (name :: ns) HRB.out); clear hin hrow)
                | (go_at_call 24; fail))
              refine (rf_numbers wB.heap.size A2 m _ 3 ns wB HR2.out (Nat.le_refl _) HWs.out (by omega) (by omega)).mono ?_
              rintro e wN ⟨vN, rfl, hownN, hbN⟩
              rw [HO.out]
              have hcN : wN.cell? adB = some (.string (T.str name)) := (hbN.cell HAB.out.2).trans HCB.out
              have HK5N := kp (HK5B.out.below hbN HK5B.out.lt); have HKrN := kp (HKrB.out.below hbN HKrB.out.lt)
              have HWN := kp (HWB.out.trans (hbN.mono hsWB)); have hsN := HWN.out.size
              clear hownN hbN
              go_wp2_with (first
                | ((with_reducible show wpList _ _ _ (⟨some 166, _, _, _, _, _⟩ :: _) _ _); go_must (refine wpList_load_blk rfl 25 (.tmp 5) rfl g5 rfl _ (pgC txNone) _ HK5N.out Tryd.underlying25 rfl pg_size ?_))
                | ((with_reducible show wpList _ _ _ (⟨none, _, _, _, _, _⟩ :: _) _ _); (refine wpList_store_blk rfl 25 (.tmp 2) (.tmp 166) rfl gr (pgC txNone) rfl rfl _ _ HKrN.out pg_size rfl (tx_pg_ones txNone) ?_); intro wa hka hga hza
                   have HKa := kp hka; have HBa : Kept (Below w.heap.size w wa) := kp (HWN.out.grown hga hsN (by intro k e; cases e; exact hgr))
                   clear hka hga)
                | ((with_reducible show bodyPost _ _ _ _ _ _); rw [HBd.out, show T.parseR (.inr i) = (C.none_, i + 1, 3) from rfl]; exact bodyPost_ret (tx_results3 (P := Tryd.prog) (fn := Tryd.f10) rfl _ _ gr 25 _ _ _ _ rfl rfl rfl HKa.out Tryd.underlying25 rfl pg_size) rfl (text_none HBa.out)))
        | false =>
          by_cases hnf : name = T.func
          · by_cases hns : ns = []
            · have hyes : ((T.str name).toList == ([102, 117, 110, 99] : List UInt8)) = true := lit_is hnf
              have hm0 : m = 0 := by rw [← HM.out, hns]; rfl
              have HLn : Kept (T.lineW st name ns = some ⟨false, { st.d with L := st.d.L ++ [[]] }⟩) := kp (by unfold T.lineW; rw [hfs, if_neg (by simp), if_pos hnf, if_pos hns])
              have HRun2 : Kept (T.run ⟨false, { st.d with L := st.d.L ++ [[]] }⟩ (i + 1) (lns.drop (i + 1)) = r) := kp (by
                have h2 := HRun.out
                rwa [HD.out, T.run_some (by rw [HStep.out, HLn.out])] at h2)
              obtain ⟨v, us, hkg, hF⟩ := HRdB.out.blk
              obtain ⟨Av, cv, hv, _⟩ := hF.own.form
              subst hv
              obtain ⟨nu, hnu⟩ : ∃ nu, us.length = nu := ⟨_, rfl⟩
              have HNu := kp hnu
              rw [hnu] at hkg hF
              have HKg := kp hkg; have HF := kp hF
              have hgB : g6 < wB.heap.size := hkg.lt
              have hC0B : C0 ≤ wB.heap.size := by have := HOnB.out.size; omega
              have k3 : wB.cell? ⟨g6, 3, none⟩ = some (.slice Av nu cv) := hkg.cell 3
              have hnuN : nu ≤ 900000 := by have := HRd.out.few.1; have := hF.len; omega
              have hOwn : Own wB C0 47 (.slice Av nu cv) us := hF.own
              have hcb := HCB.out
              clear hfs hnf hns hkg hF hnu
              subst hm0
              go_wp2_with (first
                | (at_builtin; go_must (refine wpList_append_one rfl (.tmp 85) (.tmp 86) 23 rfl C0 47 _ 24 Tryd.underlying23 nodes_info8 rfl wB _ us (.slice none 0 0) rfl hOwn _ 1 rfl rfl rfl (by unfold maxLen; have := HNu.out; omega) (by have := HNu.out; omega) hC0B ?_); intro v6 w7 hown6 hgr6
                   obtain ⟨A6, c6, hv6, _⟩ := hown6.form
                   rw [List.length_append, List.length_singleton, HNu.out] at hv6
                   subst hv6
                   have hng : some g6 ≠ (Value.slice Av nu cv).ownBlock := fun e => HF.out.nv g6 e.symm rfl
                   have hkb : Blk w7 g6 25 (.int .i64 st.d.g :: .int .i64 st.d.l :: .int .i64 st.d.s :: .slice Av nu cv :: []) := HKg.out.grown hgr6.1 hng
                   have k6 : w7.cell? ⟨g6, 3, none⟩ = some (.slice Av nu cv) := hkb.cell 3
                   have z6 : w7.frozen? ⟨g6, 3, none⟩ = false := hkb.frozen 3
                   have HF6 : Kept (Fns (w7.setCell ⟨g6, 3, none⟩ (.slice A6 (nu + 1) c6)) C0 (fun k => k = g6) (.slice A6 (nu + 1) c6) (us ++ [.slice none 0 0]) (st.d.L ++ [[]])) := kp ((HF.out.func hown6 hgr6).keep (Only.set rfl) fun k hk => ⟨by have := hgr6.1.size; simp; omega, .inl hk⟩)
                   have HK6 : Kept (Blk (w7.setCell ⟨g6, 3, none⟩ (.slice A6 (nu + 1) c6)) g6 25 (.int .i64 st.d.g :: .int .i64 st.d.l :: .int .i64 st.d.s :: .slice A6 (nu + 1) c6 :: [])) := kp (hkb.set 3 _)
                   have HO6 : Kept (Only (fun k => k = g6 ∨ C0 ≤ k) wB (w7.setCell ⟨g6, 3, none⟩ (.slice A6 (nu + 1) c6))) := kp ((Only.of_grow hgr6.1 fun k hk => .inr (hOwn.block k hk).1).trans (Only.set (.inl rfl)))
                   clear hown6 hgr6 hkb hng hOwn k3))
              have HOW : Kept (Only (fun k => k = g6 ∨ C0 ≤ k) w6 (w7.setCell ⟨g6, 3, none⟩ (.slice A6 (nu + 1) c6))) := kp (HOnB.out.trans HO6.out)
              have HRn : Kept (RdP (w7.setCell ⟨g6, 3, none⟩ (.slice A6 (nu + 1) c6)) C0 g6 (i + 1) ⟨false, { st.d with L := st.d.L ++ [[]] }⟩) := kp ⟨⟨_, _, HK6.out, HF6.out⟩, HRd.out.ok, by
                have := HRd.out.few
                refine ⟨by simp; omega, fun l hl => ?_⟩
                rcases List.mem_append.1 hl with h | h
                · have := this.2 l h; omega
                · have e : l = [] := by simpa using h
                  rw [e]; simp⟩
              go_roundw
              case rel => exact ⟨i + 1, _, by omega, by go_num, rfl, HRun2.out, HRn.out, HOW.out⟩
              case measure => simp [intOf]; omega
            · have hyes : ((T.str name).toList == ([102, 117, 110, 99] : List UInt8)) = true := lit_is hnf
              have hm1 : ¬ (((m : Nat) : Int) + 1 = 1) := by
                intro e
                have h0 : ns.length = 0 := by rw [HM.out]; omega
                exact hns (List.eq_nil_of_length_eq_zero h0)
              have HBd : Kept (r = .inr i) := kp (HBad.out (by unfold T.lineW; rw [hfs, if_neg (by simp), if_pos hnf, if_neg hns]))
              have hcb := HCB.out
              clear hfs hnf hns
              go_wp2_with (first
                | ((with_reducible show wpList _ _ _ (⟨some 166, _, _, _, _, _⟩ :: _) _ _); go_must (refine wpList_load_blk rfl 25 (.tmp 5) rfl g5 rfl _ (pgC txNone) _ HK5B.out Tryd.underlying25 rfl pg_size ?_))
                | ((with_reducible show wpList _ _ _ (⟨none, _, _, _, _, _⟩ :: _) _ _); (refine wpList_store_blk rfl 25 (.tmp 2) (.tmp 166) rfl gr (pgC txNone) rfl rfl _ _ HKrB.out pg_size rfl (tx_pg_ones txNone) ?_); intro wa hka hga hza
                   have HKa := kp hka; have HBa : Kept (Below w.heap.size w wa) := kp (HWB.out.grown hga hsWB (by intro k e; cases e; exact hgr))
                   clear hka hga)
                | ((with_reducible show bodyPost _ _ _ _ _ _); rw [HBd.out, show T.parseR (.inr i) = (C.none_, i + 1, 3) from rfl]; exact bodyPost_ret (tx_results3 (P := Tryd.prog) (fn := Tryd.f10) rfl _ _ gr 25 _ _ _ _ rfl rfl rfl HKa.out Tryd.underlying25 rfl pg_size) rfl (text_none HBa.out)))
          · by_cases hL : st.d.L = []
            · have hno := lit_not (x := name) (s := [102, 117, 110, 99]) hnf
              have HBd : Kept (r = .inr i) := kp (HBad.out (by unfold T.lineW; rw [hfs, if_neg (by simp), if_neg hnf, if_pos hL]))
              obtain ⟨v, us, hkg, hF⟩ := HRdB.out.blk
              obtain ⟨Av, cv, hv, _⟩ := hF.own.form
              have hu0 : us.length = 0 := by rw [hF.len, hL]; rfl
              rw [hu0] at hv
              subst hv
              have k3 : wB.cell? ⟨g6, 3, none⟩ = some (.slice Av 0 cv) := hkg.cell 3
              have hcb := HCB.out
              clear hfs hnf hL hkg hF hu0
              go_wp2_with (first
                | ((with_reducible show wpList _ _ _ (⟨some 166, _, _, _, _, _⟩ :: _) _ _); go_must (refine wpList_load_blk rfl 25 (.tmp 5) rfl g5 rfl _ (pgC txNone) _ HK5B.out Tryd.underlying25 rfl pg_size ?_))
                | ((with_reducible show wpList _ _ _ (⟨none, _, _, _, _, _⟩ :: _) _ _); (refine wpList_store_blk rfl 25 (.tmp 2) (.tmp 166) rfl gr (pgC txNone) rfl rfl _ _ HKrB.out pg_size rfl (tx_pg_ones txNone) ?_); intro wa hka hga hza
                   have HKa := kp hka; have HBa : Kept (Below w.heap.size w wa) := kp (HWB.out.grown hga hsWB (by intro k e; cases e; exact hgr))
                   clear hka hga)
                | ((with_reducible show bodyPost _ _ _ _ _ _); rw [HBd.out, show T.parseR (.inr i) = (C.none_, i + 1, 3) from rfl]; exact bodyPost_ret (tx_results3 (P := Tryd.prog) (fn := Tryd.f10) rfl _ _ gr 25 _ _ _ _ rfl rfl rfl HKa.out Tryd.underlying25 rfl pg_size) rfl (text_none HBa.out)))
            · have hno := lit_not (x := name) (s := [102, 117, 110, 99]) hnf
              obtain ⟨v, us, hkg, hF⟩ := HRd.out.blk
              obtain ⟨L0, l0, hL0⟩ : ∃ L0 l0, st.d.L = L0 ++ [l0] := ⟨_, _, (List.dropLast_concat_getLast hL).symm⟩
              obtain ⟨us0, u, hus⟩ : ∃ us0 u, us = us0 ++ [u] := by
                have h0 : us ≠ [] := fun e => hL (by have h := hF.len; rw [e] at h; exact List.eq_nil_of_length_eq_zero h.symm)
                exact ⟨_, _, (List.dropLast_concat_getLast h0).symm⟩
              rw [hus, hL0] at hF
              obtain ⟨rr, cr, rfl, _, _, hCr, hrl, hur, hSr, hmx⟩ := hF.last
              obtain ⟨nu, hnu⟩ : ∃ nu, us0.length = nu := ⟨_, rfl⟩
              have HNu := kp hnu
              rw [hnu] at hkg hF hmx
              have hmx2 : nu ≤ 9223372036854775806 := by unfold maxLen at hmx; omega
              have hgA : g6 < wA.heap.size := hkg.lt
              have hug : ∀ q, u.ownBlock = some q → C0 ≤ q ∧ q < wA.heap.size := fun q e => hF.blk (last_at us0 u) e
              have HUg := kp hug
              have hl0 : l0.length ≤ 65537 := by have := HRd.out.few.2 l0 (by rw [hL0]; simp); omega
              have HKg := kp (hkg.below HBB.out hkg.lt); have HF := kp (hF.on HBB.out)
              have HL0 := kp hL0
              have k3 : wB.cell? ⟨g6, 3, none⟩ = some (.slice (some ⟨rr, 0, none⟩) (nu + 1) cr) := HKg.out.cell 3
              have hcb := HCB.out
              have hgC : g6 < C0 := by have := HK66.out.lt; omega
              clear hkg hF hus hnu hug hmx hur hSr hL0
              cases hres : T.lineN st name ns with
              | none =>
                have HBd : Kept (r = .inr i) := kp (HBad.out (by unfold T.lineW; rw [hfs, if_neg (by simp), if_neg hnf, if_neg hL, hres]))
                have HNo : Kept (∀ k vs, T.names[k]? = some name → numsR ns (T.tl k).length = some vs → False) := kp fun k vs h1 h2 => lineN_hit h1 h2 hres
                clear hfs hnf hL hres
                go_wp2
                go_loopw [11, 14] (fun v11 v14 wr => ∃ k : Nat, k ≤ 10 ∧ v14 = .int .i64 k ∧ v11 = .int .i64 0 ∧ Below wB.heap.size wB wr) (fun _ v14 _ => 10 - (intOf v14).toNat)
                case atStart => exact ⟨0, by omega, rfl, rfl, Below.refl _ _⟩
                case round =>
                  obtain ⟨wk, rfl⟩ : ∃ x, x = wr := ⟨_, rfl⟩
                  obtain ⟨k, hk, rfl, rfl, hwk⟩ := hrel
                  have HVk := kp hwk; have hsk := hwk.size
                  have HCk : Kept (wk.cell? adB = some (.string (T.str name))) := kp ((hwk.cell HAB.out.2).trans HCB.out)
                  have HABk : Kept (adB.block < wk.heap.size) := kp (by have := HAB.out.2; omega)
                  clear hwk
                  by_cases hlk : k < 10
                  · obtain ⟨nm, hnm⟩ : ∃ nm, T.names[k]? = some nm := ⟨_, List.getElem?_eq_getElem (show k < T.names.length from hlk)⟩
                    have HNm := kp hnm
                    clear hnm
                    go_wp2
                    by_cases hx : nm = name
                    · have hq := str_is (x := nm) (s := name) hx
                      have hnn : numsR ns (T.tl k).length = none := by
                        cases h : numsR ns (T.tl k).length with
                        | none => rfl
                        | some vs => exact (HNo.out k vs (by rw [HNm.out, hx]) h).elim
                      have HNn := kp hnn
                      clear hx hnn
                      apply region_list (.row wordT 10 T.names :: .is _ :: (.at_ (.string (T.str nm))) :: .is (.string (T.str nm)) :: .is _ :: .is _ :: .is _ :: .is _ :: [])
                        [[], [], [(0, 98), (1, 99)], [(2, 100)], [], [(4, 102)], [(5, 103)], [(3, 101), (6, 104)]]
                        [(0, 98), (1, 99), (2, 100), (3, 101), (4, 102), (5, 103), (6, 104), (7, 105)] (by kernel_rfl) (by kernel_rfl)
                      case hob =>
                        refine ⟨?o0, ?o1, ?o2, ?o3, ?o4, ?o5, ?o6, ?o7, trivial⟩
                        case o0 =>
                          intro W hW; change wpList _ _ _ _ _ _
                          go_wp2_with fail
                          refine (rf_names W).mono ?_
                          rintro e w2 ⟨v2, rfl, hown2, hb2⟩
                          obtain ⟨A, cap, rfl, _, _, hr2⟩ := Own.readsN (f := wordT) (l := T.names) hown2 rfl
                          have HR2 := kp hr2; have HB2 := kp hb2; clear hown2 hr2 hb2
                          go_wp2
                          exact made_post rfl rfl rfl HB2.out ⟨A, cap, rfl, HR2.out⟩
                        case o1 => intro W hW; change wpList _ _ _ _ _ _; go_wp2; exact pure_post rfl rfl rfl
                        case o2 =>
                          intro W hW; rintro _ ⟨A1, c1, rfl, hr1⟩; rintro _ rfl; change wpList _ _ _ _ _ _
                          obtain ⟨ad, y, rfl, hab, hy, hcy⟩ := hr1.get (k := k) (by omega)
                          have hy : T.names[k]? = some y := hy
                          rw [HNm.out] at hy
                          cases hy
                          have hcy : W.cell? (ad.add k) = some (.string (T.str nm)) := hcy
                          have HCy := kp hcy
                          clear hr1 hcy
                          go_wp2
                          exact made_post rfl rfl rfl (Below.refl _ _) (at_fact HCy.out)
                        case o3 => intro W hW; rintro _ ⟨p2, rfl, hc2⟩; change wpList _ _ _ _ _ _; go_wp2; exact pure_post rfl rfl rfl
                        case o4 => intro W hW; change wpList _ _ _ _ _ _; go_wp2; exact pure_post rfl rfl rfl
                        case o5 => intro W hW; rintro _ rfl; change wpList _ _ _ _ _ _; go_wp2; exact pure_post rfl rfl rfl
                        case o6 =>
                          intro W hW; rintro _ rfl; change wpList _ _ _ _ _ _
                          have hcW := (hW.cell HABk.out).trans HCk.out
                          go_wp2; exact pure_post rfl rfl rfl
                        case o7 => intro W hW; rintro _ rfl; rintro _ rfl; change wpList _ _ _ _ _ _; go_wp2; exact pure_post rfl rfl rfl
                      case hend =>
                        intro W hW; rintro _ ⟨A0, c0, rfl, hr0⟩; rintro _ rfl; rintro _ ⟨p2, rfl, hc2⟩; rintro _ rfl; rintro _ rfl; rintro _ rfl; rintro _ rfl; rintro _ rfl
                        simp only [given, put_lit, List.set]
                        have HVn := kp (HVk.out.trans (hW.mono hsk))
                        have hsn := HVn.out.size
                        clear hW hr0 hc2
                        go_wp2_with fail
                        refine (rf_told k hlk _).mono ?_
                        rintro e w10 ⟨rfl, hb10⟩
                        have HV10 := kp (HVn.out.trans (hb10.mono hsn))
                        have hs10 := HV10.out.size
                        clear hb10
                        obtain ⟨tL, htL⟩ : ∃ tL, T.toldL k = tL := ⟨_, rfl⟩
                        have HTL := kp htL
                        have htlen : tL.length = (T.tl k).length := by rw [← htL]; unfold T.toldL; rw [List.length_map]
                        have htm := T.tl_len k
                        have hszt : (T.str tL).size = tL.length := T.str_size tL
                        have HTn := kp htlen
                        obtain ⟨mt, hmt⟩ : ∃ mt, (T.str tL).size = mt := ⟨_, rfl⟩
                        have HMt : Kept (mt = (T.tl k).length) := kp (by rw [← hmt, hszt, htlen])
                        have hmt3 : mt ≤ 3 := by rw [← hmt, hszt, htlen]; exact htm
                        have HTl9 : Kept (tL.length = mt) := kp (by rw [← hmt, hszt])
                        clear hszt htm htlen
                        rw [htL]
                        clear htL
                        go_wp2_with (first
                          | ((with_reducible show wpList _ _ _ (⟨some 110, _, _, _, _, _⟩ :: _) _ _); go_must (refine wpList_slice_from rfl 34 (.tmp 109) (.const (.int .i64 1)) rfl 9 Tryd.underlying34 str_size1 (some adB) (m + 1) cB rfl .i64 1 rfl (by omega) hncB ?_); intro A2 hin hrow; have HR2 : Kept (Row wordT w10 wB.heap.size A2 m ns) := kp ((hrow wordT wB wB.heap.size (name :: ns) HRB.out).below HV10.out); clear hin hrow)
                          | (go_at_call 24; fail))
                        refine (rf_numbers wB.heap.size A2 m _ mt ns w10 HR2.out hs10 HWs.out (by omega) hmt3).mono ?_
                        rintro e wN ⟨vN, rfl, hownN, hbN⟩
                        rw [HMt.out, HNn.out] at hownN ⊢
                        have HVN := kp (HV10.out.trans (hbN.mono hs10))
                        clear hownN hbN
                        go_wp2
                        go_roundw
                        case rel => exact ⟨k + 1, by omega, by go_num, rfl, HVN.out⟩
                        case measure => simp [intOf]; omega
                    · have hq := str_not (x := nm) (s := name) hx
                      clear hx
                      apply region_list (.row wordT 10 T.names :: .is _ :: (.at_ (.string (T.str nm))) :: .is (.string (T.str nm)) :: .is _ :: .is _ :: .is _ :: .is _ :: [])
                        [[], [], [(0, 98), (1, 99)], [(2, 100)], [], [(4, 102)], [(5, 103)], [(3, 101), (6, 104)]]
                        [(0, 98), (1, 99), (2, 100), (3, 101), (4, 102), (5, 103), (6, 104), (7, 105)] (by kernel_rfl) (by kernel_rfl)
                      case hob =>
                        refine ⟨?o0, ?o1, ?o2, ?o3, ?o4, ?o5, ?o6, ?o7, trivial⟩
                        case o0 =>
                          intro W hW; change wpList _ _ _ _ _ _
                          go_wp2_with fail
                          refine (rf_names W).mono ?_
                          rintro e w2 ⟨v2, rfl, hown2, hb2⟩
                          obtain ⟨A, cap, rfl, _, _, hr2⟩ := Own.readsN (f := wordT) (l := T.names) hown2 rfl
                          have HR2 := kp hr2; have HB2 := kp hb2; clear hown2 hr2 hb2
                          go_wp2
                          exact made_post rfl rfl rfl HB2.out ⟨A, cap, rfl, HR2.out⟩
                        case o1 => intro W hW; change wpList _ _ _ _ _ _; go_wp2; exact pure_post rfl rfl rfl
                        case o2 =>
                          intro W hW; rintro _ ⟨A1, c1, rfl, hr1⟩; rintro _ rfl; change wpList _ _ _ _ _ _
                          obtain ⟨ad, y, rfl, hab, hy, hcy⟩ := hr1.get (k := k) (by omega)
                          have hy : T.names[k]? = some y := hy
                          rw [HNm.out] at hy
                          cases hy
                          have hcy : W.cell? (ad.add k) = some (.string (T.str nm)) := hcy
                          have HCy := kp hcy
                          clear hr1 hcy
                          go_wp2
                          exact made_post rfl rfl rfl (Below.refl _ _) (at_fact HCy.out)
                        case o3 => intro W hW; rintro _ ⟨p2, rfl, hc2⟩; change wpList _ _ _ _ _ _; go_wp2; exact pure_post rfl rfl rfl
                        case o4 => intro W hW; change wpList _ _ _ _ _ _; go_wp2; exact pure_post rfl rfl rfl
                        case o5 => intro W hW; rintro _ rfl; change wpList _ _ _ _ _ _; go_wp2; exact pure_post rfl rfl rfl
                        case o6 =>
                          intro W hW; rintro _ rfl; change wpList _ _ _ _ _ _
                          have hcW := (hW.cell HABk.out).trans HCk.out
                          go_wp2; exact pure_post rfl rfl rfl
                        case o7 => intro W hW; rintro _ rfl; rintro _ rfl; change wpList _ _ _ _ _ _; go_wp2; exact pure_post rfl rfl rfl
                      case hend =>
                        intro W hW; rintro _ ⟨A0, c0, rfl, hr0⟩; rintro _ rfl; rintro _ ⟨p2, rfl, hc2⟩; rintro _ rfl; rintro _ rfl; rintro _ rfl; rintro _ rfl; rintro _ rfl
                        simp only [given, put_lit, List.set]
                        have HVn := kp (HVk.out.trans (hW.mono hsk))
                        clear hW hr0 hc2
                        go_wp2
                        go_roundw
                        case rel => exact ⟨k + 1, by omega, by go_num, rfl, HVn.out⟩
                        case measure => simp [intOf]; omega
                  · have hHK5 := kp (HK5B.out.below HVk.out HK5B.out.lt); have hHKr := kp (HKrB.out.below HVk.out HKrB.out.lt)
                    have hHW := kp (HWB.out.trans (HVk.out.mono hsWB)); have hsX := hHW.out.size
                    go_wp2_with (first
                      | ((with_reducible show wpList _ _ _ (⟨some 166, _, _, _, _, _⟩ :: _) _ _); go_must (refine wpList_load_blk rfl 25 (.tmp 5) rfl g5 rfl _ (pgC txNone) _ hHK5.out Tryd.underlying25 rfl pg_size ?_))
                      | ((with_reducible show wpList _ _ _ (⟨none, _, _, _, _, _⟩ :: _) _ _); (refine wpList_store_blk rfl 25 (.tmp 2) (.tmp 166) rfl gr (pgC txNone) rfl rfl _ _ hHKr.out pg_size rfl (tx_pg_ones txNone) ?_); intro wa hka hga hza
                         have HKa := kp hka; have HBa : Kept (Below w.heap.size w wa) := kp (hHW.out.grown hga hsX (by intro k e; cases e; exact hgr))
                         clear hka hga)
                      | ((with_reducible show bodyPost _ _ _ _ _ _); rw [HBd.out, show T.parseR (.inr i) = (C.none_, i + 1, 3) from rfl]; exact bodyPost_ret (tx_results3 (P := Tryd.prog) (fn := Tryd.f10) rfl _ _ gr 25 _ _ _ _ rfl rfl rfl HKa.out Tryd.underlying25 rfl pg_size) rfl (text_none HBa.out)))
              | some st' =>
                have HLw : Kept (T.lineW st name ns = some st') := kp (by unfold T.lineW; rw [hfs, if_neg (by simp), if_neg hnf, if_neg hL, hres])
                have HRun2 : Kept (T.run st' (i + 1) (lns.drop (i + 1)) = r) := kp (by
                  have h2 := HRun.out
                  rwa [HD.out, T.run_some (by rw [HStep.out, HLw.out])] at h2)
                obtain ⟨j, hidx⟩ : ∃ j, T.idx name 0 T.names = some j := by
                  cases h : T.idx name 0 T.names with
                  | none => rw [lineN_none h] at hres; cases hres
                  | some j => exact ⟨j, rfl⟩
                obtain ⟨vs, hvs⟩ : ∃ vs, numsR ns (T.tl j).length = some vs := by
                  cases h : numsR ns (T.tl j).length with
                  | none => rw [lineN_bad hidx h] at hres; cases hres
                  | some vs => exact ⟨vs, rfl⟩
                have hj10 := (names_at hidx).1
                have HIdx := kp hidx; have HVs := kp hvs
                have hvl : vs.length = (T.tl j).length := nums_vs_len hvs
                have HVl := kp hvl
                have HV9 := kp (nums_lt9 hvs)
                obtain ⟨x, hx⟩ : ∃ x, T.fill (T.nd0 j) (T.tl j) vs = x := ⟨_, rfl⟩
                have HX := kp hx
                have HXk : Kept x.Ok := kp (by rw [← hx]; exact fill_ok _ _ _ (nd0_ok hj10) HV9.out)
                have HSt : Kept (st' = ⟨false, { st.d with L := L0 ++ [l0 ++ [x]] }⟩) := kp (by
                  rw [lineN_some hidx hvs, hx, HL0.out, T.push_snoc] at hres
                  exact (Option.some.inj hres).symm)
                have hfs' : st'.first = false := by rw [HSt.out]
                have HFs := kp hfs'
                clear hfs hnf hL hres hidx hvs hvl hx hfs'
                go_wp2
                go_loopw [11, 14] (fun v11 v14 wr => ∃ (k b : Nat), k ≤ 10 ∧ v14 = .int .i64 k ∧ v11 = .int .i64 b ∧ wr.cell? adB = some (.string (T.str name)) ∧ wB.heap.size ≤ wr.heap.size ∧ Only (fun k => k = g6 ∨ C0 ≤ k) wB wr ∧ ((k ≤ j ∧ b = 0 ∧ Below wB.heap.size wB wr) ∨ (j < k ∧ b = 1 ∧ RdP wr C0 g6 (i + 1) st'))) (fun _ v14 _ => 10 - (intOf v14).toNat)
                case atStart => exact ⟨0, 0, by omega, rfl, rfl, HCB.out, Nat.le_refl _, Only.refl _ _, .inl ⟨by omega, rfl, Below.refl _ _⟩⟩
                case round =>
                  obtain ⟨wk, rfl⟩ : ∃ x, x = wr := ⟨_, rfl⟩
                  obtain ⟨k, b, hk, rfl, rfl, hck, hsk, hok, hcase⟩ := hrel
                  have HCk := kp hck; have HOk := kp hok; have HCs := kp hcase
                  have HABk : Kept (adB.block < wk.heap.size) := kp (by have := HAB.out.2; omega)
                  clear hck hok hcase
                  by_cases hlk : k < 10
                  · obtain ⟨nm, hnm⟩ : ∃ nm, T.names[k]? = some nm := ⟨_, List.getElem?_eq_getElem (show k < T.names.length from hlk)⟩
                    have HNm := kp hnm
                    by_cases hkj : k = j
                    · have hq := str_is (x := nm) (s := name) (by have h := (names_at HIdx.out).2; rw [← hkj, hnm] at h; exact Option.some.inj h)
                      have hnn : numsR ns (T.tl k).length = some vs := by rw [hkj]; exact HVs.out
                      have HNn := kp hnn
                      subst hkj
                      obtain ⟨hv11, hwk⟩ : b = 0 ∧ Below wB.heap.size wB wk := by
                        rcases HCs.out with ⟨_, h1, h2⟩ | ⟨h, _⟩
                        · exact ⟨h1, h2⟩
                        · omega
                      subst hv11
                      have HVk := kp hwk
                      clear hnm hnn hwk
                      go_wp2
                      apply region_list (.row wordT 10 T.names :: .is _ :: (.at_ (.string (T.str nm))) :: .is (.string (T.str nm)) :: .is _ :: .is _ :: .is _ :: .is _ :: [])
                        [[], [], [(0, 98), (1, 99)], [(2, 100)], [], [(4, 102)], [(5, 103)], [(3, 101), (6, 104)]]
                        [(0, 98), (1, 99), (2, 100), (3, 101), (4, 102), (5, 103), (6, 104), (7, 105)] (by kernel_rfl) (by kernel_rfl)
                      case hob =>
                        refine ⟨?o0, ?o1, ?o2, ?o3, ?o4, ?o5, ?o6, ?o7, trivial⟩
                        case o0 =>
                          intro W hW; change wpList _ _ _ _ _ _
                          go_wp2_with fail
                          refine (rf_names W).mono ?_
                          rintro e w2 ⟨v2, rfl, hown2, hb2⟩
                          obtain ⟨A, cap, rfl, _, _, hr2⟩ := Own.readsN (f := wordT) (l := T.names) hown2 rfl
                          have HR2 := kp hr2; have HB2 := kp hb2; clear hown2 hr2 hb2
                          go_wp2
                          exact made_post rfl rfl rfl HB2.out ⟨A, cap, rfl, HR2.out⟩
                        case o1 => intro W hW; change wpList _ _ _ _ _ _; go_wp2; exact pure_post rfl rfl rfl
                        case o2 =>
                          intro W hW; rintro _ ⟨A1, c1, rfl, hr1⟩; rintro _ rfl; change wpList _ _ _ _ _ _
                          obtain ⟨ad, y, rfl, hab, hy, hcy⟩ := hr1.get (k := k) (by omega)
                          have hy : T.names[k]? = some y := hy
                          rw [HNm.out] at hy
                          cases hy
                          have hcy : W.cell? (ad.add k) = some (.string (T.str nm)) := hcy
                          have HCy := kp hcy
                          clear hr1 hcy
                          go_wp2
                          exact made_post rfl rfl rfl (Below.refl _ _) (at_fact HCy.out)
                        case o3 => intro W hW; rintro _ ⟨p2, rfl, hc2⟩; change wpList _ _ _ _ _ _; go_wp2; exact pure_post rfl rfl rfl
                        case o4 => intro W hW; change wpList _ _ _ _ _ _; go_wp2; exact pure_post rfl rfl rfl
                        case o5 => intro W hW; rintro _ rfl; change wpList _ _ _ _ _ _; go_wp2; exact pure_post rfl rfl rfl
                        case o6 =>
                          intro W hW; rintro _ rfl; change wpList _ _ _ _ _ _
                          have hcW := (hW.cell HABk.out).trans HCk.out
                          go_wp2; exact pure_post rfl rfl rfl
                        case o7 => intro W hW; rintro _ rfl; rintro _ rfl; change wpList _ _ _ _ _ _; go_wp2; exact pure_post rfl rfl rfl
                      case hend =>
                        intro W hW; rintro _ ⟨A0, c0, rfl, hr0⟩; rintro _ rfl; rintro _ ⟨p2, rfl, hc2⟩; rintro _ rfl; rintro _ rfl; rintro _ rfl; rintro _ rfl; rintro _ rfl
                        simp only [given, put_lit, List.set]
                        have HVn := kp (HVk.out.trans (hW.mono hsk))
                        have hsn := HVn.out.size
                        clear hW hr0 hc2
                        go_wp2_with fail
                        refine (rf_told k hlk _).mono ?_
                        rintro e w10 ⟨rfl, hb10⟩
                        have HV10 := kp (HVn.out.trans (hb10.mono hsn))
                        have hs10 := HV10.out.size
                        clear hb10
                        obtain ⟨tL, htL⟩ : ∃ tL, T.toldL k = tL := ⟨_, rfl⟩
                        have HTL := kp htL
                        have htlen : tL.length = (T.tl k).length := by rw [← htL]; unfold T.toldL; rw [List.length_map]
                        have htm := T.tl_len k
                        have hszt : (T.str tL).size = tL.length := T.str_size tL
                        have HTn := kp htlen
                        obtain ⟨mt, hmt⟩ : ∃ mt, (T.str tL).size = mt := ⟨_, rfl⟩
                        have HMt : Kept (mt = (T.tl k).length) := kp (by rw [← hmt, hszt, htlen])
                        have hmt3 : mt ≤ 3 := by rw [← hmt, hszt, htlen]; exact htm
                        have HTl9 : Kept (tL.length = mt) := kp (by rw [← hmt, hszt])
                        clear hszt htm htlen
                        rw [htL]
                        clear htL
                        go_wp2_with (first
                          | ((with_reducible show wpList _ _ _ (⟨some 110, _, _, _, _, _⟩ :: _) _ _); go_must (refine wpList_slice_from rfl 34 (.tmp 109) (.const (.int .i64 1)) rfl 9 Tryd.underlying34 str_size1 (some adB) (m + 1) cB rfl .i64 1 rfl (by omega) hncB ?_); intro A2 hin hrow; have HR2 : Kept (Row wordT w10 wB.heap.size A2 m ns) := kp ((hrow wordT wB wB.heap.size (name :: ns) HRB.out).below HV10.out); clear hin hrow)
                          | (go_at_call 24; fail))
                        refine (rf_numbers wB.heap.size A2 m _ mt ns w10 HR2.out hs10 HWs.out (by omega) hmt3).mono ?_
                        rintro e wN ⟨vN, rfl, hownN, hbN⟩
                        rw [HMt.out, HNn.out] at hownN ⊢
                        have htlen := HTn.out; have htm := T.tl_len k; have hszt : (T.str tL).size = tL.length := T.str_size tL
                        have HVN := kp (HV10.out.trans (hbN.mono hs10))
                        have hsN := HVN.out.size
                        have hbo := hownN.block
                        obtain ⟨AN, cN, rfl, _, _, hrN⟩ := Own.readsN (f := numV) (l := vs) (n := tL.length) hownN (by rw [htlen]; exact HVl.out)
                        have HRN0 := kp hrN
                        have HAN : Kept (∀ ad, AN = some ad → ad.block < wN.heap.size) := kp fun ad e => (hbo ad.block (by rw [e]; rfl)).2
                        clear hownN hbN hrN hbo
                        go_wp2_with (first
                          | ((with_reducible show wpList _ _ _ (⟨some 119, _, _, _, _, _⟩ :: _) _ _); go_must (refine wpList_build_run rfl _ _ rfl _ (by simp [Act.eval]) _ (tx_build_node (k : Int)) ?_))
                          | ((with_reducible show wpList _ _ _ (⟨some 18, _, _, _, _, _⟩ :: _) _ _); go_must (refine wpList_alloc_zero rfl 49 rfl (ndC ⟨0, 0, 0, 0⟩) tx_node_zero ?_); intro g18 w1 hg18 hk1 hw1; have HK1 := kp hk1; have HW1 := kp hw1; have hs1 := hw1.size; clear hk1 hw1)
                          | ((with_reducible show wpList _ _ _ (⟨none, _, _, _, _, _⟩ :: _) _ _); go_must (refine wpList_store_blk rfl 49 (.tmp 18) (.tmp 119) rfl g18 (ndC (T.nd0 k)) rfl rfl _ _ HK1.out tx_node_size rfl (tx_node_ones _) ?_); intro wM hkM hgM hzM
                             have HKM := kp hkM
                             have HWM : Kept (Below wN.heap.size wN wM) := kp (HW1.out.grown hgM (by omega) (fun k e => by cases e; omega))
                             have hsM := HWM.out.size
                             have HVM : Kept (Below wB.heap.size wB wM) := kp (HVN.out.trans (HWM.out.mono hsN))
                             have HRN : Kept (Row numV wM wN.heap.size AN tL.length vs) := kp (HRN0.out.below HWM.out)
                             clear hkM hgM))
                        go_loopw [19] (fun v19 wr => ∃ q : Nat, q ≤ tL.length ∧ v19 = .int .i64 q ∧ Blk wr g18 49 (ndC (T.fill (T.nd0 k) ((T.tl k).take q) (vs.take q))) ∧ Only (fun k => k = g18) wM wr) (fun v19 _ => tL.length - (intOf v19).toNat)
                        case atStart => exact ⟨0, by omega, rfl, by rw [List.take_zero, List.take_zero]; exact HKM.out, Only.refl _ _⟩
                        case round =>
                          obtain ⟨wq, rfl⟩ : ∃ x, x = wr := ⟨_, rfl⟩
                          obtain ⟨q, hq9, rfl, hkq, hoq⟩ := hrel
                          have HKq := kp hkq; have HOq := kp hoq
                          have hsq := hoq.size
                          clear hkq hoq
                          by_cases hlq : q < tL.length
                          · obtain ⟨jj, hjj⟩ : ∃ jj, (T.tl k)[q]? = some jj := ⟨_, List.getElem?_eq_getElem (by omega)⟩
                            have hj2 := T.tl_le k jj (List.mem_of_getElem? hjj)
                            have hb9 := byte_at tL (k := q) (by omega)
                            have hbl : (T.str tL)[q]'(by omega) = T.letter jj := by
                              have e : tL[q]? = some (T.letter jj) := by rw [← HTL.out]; unfold T.toldL; rw [List.getElem?_map, hjj]; rfl
                              rw [e] at hb9; exact (Option.some.inj hb9).symm
                            obtain ⟨adv, vv, eA, hbv, hvv, hcv⟩ := (HRN.out.only HOq.out (by omega) (fun ad _ e (hc : ad.block = g18) => by have := HAN.out ad e; omega)).get (k := q) (by omega)
                            subst eA
                            replace hcv : wq.cell? (adv.add q) = some (.int .i64 (vv : Int)) := hcv
                            have HNx : Kept (T.fill (T.nd0 k) ((T.tl k).take (q + 1)) (vs.take (q + 1)) = C.set (T.fill (T.nd0 k) ((T.tl k).take q) (vs.take q)) jj vv) := kp (fill_next HVl.out.symm hjj hvv)
                            obtain ⟨y, hy⟩ : ∃ y, T.fill (T.nd0 k) ((T.tl k).take q) (vs.take q) = y := ⟨_, rfl⟩
                            rw [hy] at HKq HNx
                            have HSet := kp (ndC_set y hj2 (vv : Int))
                            have hj3 : jj = 0 ∨ jj = 1 ∨ jj = 2 := by omega
                            clear hjj hb9 hy hvv
                            rcases hj3 with rfl | rfl | rfl
                            · have hq1 : ((((T.str tL)[q]'(by omega)).toNat : Int) == 97) = true := by rw [hbl]; rfl
                              have hz : wq.frozen? ⟨g18, 1, none⟩ = false := HKq.out.frozen 1
                              have hk9 : wq.cell? ⟨g18, 1, none⟩ = some ((ndC y).getD 1 undef) := by rw [HKq.out.cell]; rfl
                              have HKs : Kept (Blk (wq.setCell ⟨g18, 1, none⟩ (.int .i64 (vv : Int))) g18 49 (ndC (T.fill (T.nd0 k) ((T.tl k).take (q + 1)) (vs.take (q + 1))))) := kp (by rw [HNx.out, ← HSet.out]; exact HKq.out.set 1 _)
                              have HOs : Kept (Only (fun k => k = g18) wM (wq.setCell ⟨g18, 1, none⟩ (.int .i64 (vv : Int)))) := kp (HOq.out.trans (Only.set rfl))
                              clear hbl
                              go_wp2
                              go_roundw
                              case rel => exact ⟨q + 1, by omega, by go_num, HKs.out, HOs.out⟩
                              case measure => simp [intOf]; omega
                            · have hq1 : ((((T.str tL)[q]'(by omega)).toNat : Int) == 97) = false := by rw [hbl]; rfl
                              have hq2 : ((((T.str tL)[q]'(by omega)).toNat : Int) == 110) = true := by rw [hbl]; rfl
                              have hz : wq.frozen? ⟨g18, 2, none⟩ = false := HKq.out.frozen 2
                              have hk9 : wq.cell? ⟨g18, 2, none⟩ = some ((ndC y).getD 2 undef) := by rw [HKq.out.cell]; rfl
                              have HKs : Kept (Blk (wq.setCell ⟨g18, 2, none⟩ (.int .i64 (vv : Int))) g18 49 (ndC (T.fill (T.nd0 k) ((T.tl k).take (q + 1)) (vs.take (q + 1))))) := kp (by rw [HNx.out, ← HSet.out]; exact HKq.out.set 2 _)
                              have HOs : Kept (Only (fun k => k = g18) wM (wq.setCell ⟨g18, 2, none⟩ (.int .i64 (vv : Int)))) := kp (HOq.out.trans (Only.set rfl))
                              clear hbl
                              go_wp2
                              go_roundw
                              case rel => exact ⟨q + 1, by omega, by go_num, HKs.out, HOs.out⟩
                              case measure => simp [intOf]; omega
                            · have hq1 : ((((T.str tL)[q]'(by omega)).toNat : Int) == 97) = false := by rw [hbl]; rfl
                              have hq2 : ((((T.str tL)[q]'(by omega)).toNat : Int) == 110) = false := by rw [hbl]; rfl
                              have hz : wq.frozen? ⟨g18, 3, none⟩ = false := HKq.out.frozen 3
                              have hk9 : wq.cell? ⟨g18, 3, none⟩ = some ((ndC y).getD 3 undef) := by rw [HKq.out.cell]; rfl
                              have HKs : Kept (Blk (wq.setCell ⟨g18, 3, none⟩ (.int .i64 (vv : Int))) g18 49 (ndC (T.fill (T.nd0 k) ((T.tl k).take (q + 1)) (vs.take (q + 1))))) := kp (by rw [HNx.out, ← HSet.out]; exact HKq.out.set 3 _)
                              have HOs : Kept (Only (fun k => k = g18) wM (wq.setCell ⟨g18, 3, none⟩ (.int .i64 (vv : Int)))) := kp (HOq.out.trans (Only.set rfl))
                              clear hbl
                              go_wp2
                              go_roundw
                              case rel => exact ⟨q + 1, by omega, by go_num, HKs.out, HOs.out⟩
                              case measure => simp [intOf]; omega
                          · have hqe : q = tL.length := by omega
                            have hall : T.fill (T.nd0 k) ((T.tl k).take q) (vs.take q) = x := by
                              rw [List.take_of_length_le (by omega), List.take_of_length_le (by have := HVl.out; omega)]; exact HX.out
                            have HNode : Kept (Blk wq g18 49 (ndC x)) := kp (by rw [← hall]; exact HKq.out)
                            have HOM : Kept (Below wB.heap.size wB wq) := kp (HVM.out.trans ((HOq.out.below (B := wB.heap.size) (by omega) (fun k e => by omega))))
                            have HPA : Kept (PushA C0 (fun k => k = g6) rr cr us0 u L0 l0 wq wq) := kp ⟨by have h := HF.out.on HOM.out; rw [HNu.out]; exact h, Only.refl _ _⟩
                            have HKg4 := kp (HKg.out.below HOM.out (show g6 < wB.heap.size by omega))
                            have hc6 : wq.cell? ⟨g6, 3, none⟩ = some (.slice (some ⟨rr, 0, none⟩) (nu + 1) cr) := HKg4.out.cell 3
                            have hs4 := HOM.out.size
                            clear hall
                            go_wp2
                            have hadd := add_start rr nu
                            have hadb := HAB.out.1
                            have hadb2 := HAB.out.2
                            rcases HPA.out.room with ⟨qb, cap, hu, hroom, hcm⟩ | hfull
                            · have hqA := HUg.out qb (by rw [hu]; rfl)
                              have hqr : qb ≠ rr := fun e => by have := HPA.out.at_.2.2.2; rw [hu, e] at this; exact this rfl
                              have hqg : qb ≠ g6 := by omega
                              have hrg : rr ≠ g6 := by omega
                              have hg6G : ¬ (g6 = qb ∨ g6 = rr) := by omega
                              have hadG : ¬ (adB.block = qb ∨ adB.block = rr) := by omega
                              subst hu
                              apply region_early (fun k => k = qb ∨ k = rr) [10, 12] [3, 4, 5, 6, 7, 8, 9] (phs ([fun W => PushA C0 (fun k => k = g6) rr cr us0 (.slice (some ⟨qb, 0, none⟩) l0.length cap) L0 l0 wq W ∧ Blk W g18 49 (ndC x), fun W => PushB C0 (fun k => k = g6) rr cr us0 (.slice (some ⟨qb, 0, none⟩) l0.length cap) (.slice (some ⟨qb, 0, none⟩) (l0.length + 1) cap) L0 l0 x wq W, fun W => PushA C0 (fun k => k = g6) rr cr us0 (.slice (some ⟨qb, 0, none⟩) (l0.length + 1) cap) L0 (l0 ++ [x]) wq W] : List (World → Prop))) (.is _ :: .is _ :: .is _ :: .is _ :: .is _ :: .is _ :: .is _ :: .is _ :: .is _ :: GFact.one _ x :: .is _ :: .is _ :: .any _ :: [])
                                [[], [(0, 152)], [], [], [(3, 155)], [], [(4, 156), (5, 157)], [(6, 158)], [], [(8, 160)], [(7, 159), (9, 161)], [(1, 153), (2, 154)], [(11, 163), (10, 162)]]
                                [(0, 152), (1, 153), (2, 154), (3, 155), (4, 156), (5, 157), (6, 158), (7, 159), (8, 160), (9, 161), (10, 162), (11, 163)] (by kernel_rfl) (by kernel_rfl) (by kernel_rfl) (by kernel_rfl) (by decide)
                              case h0 => exact ⟨HPA.out.on ⟨rfl, rfl, rfl, Nat.le_refl _, fun _ _ => rfl⟩, HNode.out⟩
                              case hob =>
                                refine eobs_calm rfl rfl ?o0 (eobs_calm rfl rfl ?o1 (eobs_calm rfl rfl ?o2 (eobs_early rfl rfl ?o3 (eobs_early rfl rfl ?o4 (eobs_early rfl rfl ?o5 (eobs_early rfl rfl ?o6 (eobs_early rfl rfl ?o7 (eobs_early rfl rfl ?o8 (eobs_early rfl rfl ?o9 (eobs_act 0 rfl rfl ?o10 (eobs_calm rfl rfl ?o11 (eobs_act 1 rfl rfl ?o12 (eobs_nil)))))))))))))
                                case o0 => intro p W hO hJ; change wpList _ _ _ _ _ _; go_wp2; exact calm_post rfl rfl rfl hJ
                                case o1 =>
                                  intro p W hO hJ; rintro _ rfl; change wpList _ _ _ _ _ _
                                  have hc := (hO.cell (p := ⟨g6, 3, none⟩) HKg4.out.lt hg6G).trans hc6
                                  go_wp2; exact calm_post rfl rfl rfl hJ
                                case o2 => intro p W hO hJ; change wpList _ _ _ _ _ _; go_wp2; exact calm_post rfl rfl rfl hJ
                                case o3 => intro W hO hJ; change wpList _ _ _ _ _ _; go_wp2; exact calm_post rfl rfl rfl hJ
                                case o4 =>
                                  intro W hO hJ; rintro _ rfl; change wpList _ _ _ _ _ _
                                  have hc := (hO.cell (p := ⟨g6, 3, none⟩) HKg4.out.lt hg6G).trans hc6
                                  go_wp2; exact calm_post rfl rfl rfl hJ
                                case o5 => intro W hO hJ; change wpList _ _ _ _ _ _; go_wp2; exact calm_post rfl rfl rfl hJ
                                case o6 => intro W hO hJ; rintro _ rfl; rintro _ rfl; change wpList _ _ _ _ _ _; go_wp2; exact calm_post rfl rfl rfl hJ
                                case o7 =>
                                  intro W hO hJ; rintro _ rfl; change wpList _ _ _ _ _ _
                                  have hc := hJ.1.at_.1; rw [HNu.out] at hc
                                  go_wp2; exact calm_post rfl rfl rfl hJ
                                case o8 =>
                                  intro W hO hJ; change wpList _ _ _ _ _ _
                                  have hJ2 := hJ.2
                                  have hk0 : W.cell? ⟨g18, 0, none⟩ = some (.int .i64 x.kind) := by rw [hJ2.cell]; rfl
                                  have hk1 : W.cell? ⟨g18, 1, none⟩ = some (.int .i64 x.arg) := by rw [hJ2.cell]; rfl
                                  have hk2 : W.cell? ⟨g18, 2, none⟩ = some (.int .i64 x.next) := by rw [hJ2.cell]; rfl
                                  have hk3 : W.cell? ⟨g18, 3, none⟩ = some (.int .i64 x.alt) := by rw [hJ2.cell]; rfl
                                  go_wp2; exact calm_post rfl rfl rfl hJ
                                case o9 =>
                                  intro W hO hJ; rintro _ rfl; change wpList _ _ _ _ _ _
                                  have hng : ¬ (W.heap.size = qb ∨ W.heap.size = rr) := by
                                    have h1 := hJ.1.at_.2.2.1
                                    have h2 := (hJ.1.own.block qb rfl).2
                                    omega
                                  have hbl : Below W.heap.size W (W.alloc (.cells (ndC x).toArray 49)) := (Below.refl _ _).alloc (Nat.le_refl _) _
                                  have hJ0 : PushA C0 (fun k => k = g6) rr cr us0 (.slice (some ⟨qb, 0, none⟩) l0.length cap) L0 l0 wq (W.alloc (.cells (ndC x).toArray 49)) ∧ Blk (W.alloc (.cells (ndC x).toArray 49)) g18 49 (ndC x) := ⟨hJ.1.on hbl, Blk.below hJ.2 hbl hJ.2.lt⟩
                                  go_wp2; exact act_post rfl rfl rfl (Only.of_below hbl) hJ0 ⟨W.heap.size, rfl, Blk.new _ _ _, hng⟩
                                case o10 =>
                                  intro W hO hJ; rintro _ rfl; rintro _ ⟨gn, rfl, hbk, hng⟩; change wpList _ _ _ _ _ _
                                  have hJ1 : PushA C0 (fun k => k = g6) rr cr us0 (.slice (some ⟨qb, 0, none⟩) l0.length cap) L0 l0 wq W := hJ.1
                                  have HJ1 := kp hJ1; have HBk := kp hbk; have hOw := hJ1.own
                                  clear hJ hJ1 hbk hO
                                  go_wp2_with (at_builtin; go_must (refine wpList_append_room rfl (.tmp 159) (.tmp 161) 47 rfl C0 49 4 _ 32 Tryd.underlying47 tx_node_info rfl (by omega) ndV ndV_one qb cap l0 x rfl hOw hroom gn 1 rfl HBk.out (by omega) ?_); intro w6 hown6 hgr6)
                                  exact act_post rfl rfl rfl (Only.of_grown hgr6 (.inl rfl)) ⟨⟨W, HJ1.out, hgr6⟩, hown6⟩ rfl
                                case o11 => intro p W hO hJ; rintro _ rfl; rintro _ rfl; change wpList _ _ _ _ _ _; go_wp2; exact calm_post rfl rfl rfl hJ
                                case o12 =>
                                  intro W hO hJ; rintro _ rfl; rintro _ rfl; change wpList _ _ _ _ _ _
                                  have hJ1 : PushB C0 (fun k => k = g6) rr cr us0 (.slice (some ⟨qb, 0, none⟩) l0.length cap) (.slice (some ⟨qb, 0, none⟩) (l0.length + 1) cap) L0 l0 x wq W := hJ
                                  obtain ⟨hp1, hp2⟩ := hJ1.place
                                  rw [HNu.out] at hp1 hp2
                                  have hJ2 : PushA C0 (fun k => k = g6) rr cr us0 (.slice (some ⟨qb, 0, none⟩) (l0.length + 1) cap) L0 (l0 ++ [x]) wq (W.setCell ⟨rr, nu, none⟩ (.slice (some ⟨qb, 0, none⟩) (l0.length + 1) cap)) := by have h := hJ1.store HXk.out (fun k hk => hk); rw [HNu.out] at h; exact h
                                  have HJ2 := kp hJ2
                                  clear hJ hJ1 hJ2 hO
                                  go_wp2
                                  exact act_post0 rfl (Only.set (.inr rfl)) HJ2.out
                              case hend =>
                                intro W hO hJ; rintro _ rfl; rintro _ rfl; rintro _ rfl; rintro _ rfl; rintro _ rfl; rintro _ rfl; rintro _ rfl; rintro _ rfl; rintro _ rfl; rintro _ ⟨gn, rfl, hbk, hng⟩; rintro _ rfl; rintro _ rfl
                                simp only [ggiven, put_lit, List.set]
                                have hJ2 : PushA C0 (fun k => k = g6) rr cr us0 (.slice (some ⟨qb, 0, none⟩) (l0.length + 1) cap) L0 (l0 ++ [x]) wq W := hJ
                                have hJ3 := hJ2.fns
                                rw [HNu.out] at hJ3
                                have HFn := kp hJ3
                                have HKgn := kp (hO.blk HKg4.out hg6G)
                                have HCn : Kept (W.cell? adB = some (.string (T.str name))) := kp ((hO.cell (by have := HAB.out.2; omega) hadG).trans ((HOM.out.cell HAB.out.2).trans HCB.out))
                                have HSn : Kept (wB.heap.size ≤ W.heap.size) := kp (by have := hO.size; omega)
                                have HOn2 : Kept (Only (fun k => k = g6 ∨ C0 ≤ k) wB W) := kp ((Only.of_below HOM.out).trans (hO.less fun k _ hk => .inr (by rcases hk with h | h <;> omega)))
                                clear hJ hJ2 hJ3 hbk hO
                                have HRdn : Kept (RdP W C0 g6 (i + 1) st') := kp (by
                                  rw [HSt.out]
                                  refine ⟨⟨_, _, HKgn.out, HFn.out⟩, HRd.out.ok, ?_⟩
                                  have h9 := HRd.out.few
                                  rw [HL0.out] at h9
                                  refine ⟨by have := h9.1; simp at this ⊢; omega, fun l hl => ?_⟩
                                  rcases List.mem_append.1 hl with h | h
                                  · have := h9.2 l (List.mem_append_left _ h); omega
                                  · have e : l = l0 ++ [x] := by simpa using h
                                    rw [e]
                                    have := h9.2 l0 (by simp)
                                    simp; omega)
                                go_wp2
                                go_roundw
                                case rel => exact ⟨k + 1, 1, by omega, by go_num, rfl, HCn.out, HSn.out, HOn2.out, .inr ⟨by omega, rfl, HRdn.out⟩⟩
                                case measure => simp [intOf]; omega
                            · have hg6G : ¬ (g6 = rr ∨ g6 = rr) := by omega
                              rcases hfull with hu | ⟨qb, hu⟩
                              · subst hu
                                apply region_tail 12 (.is _ :: .is _ :: .is _ :: .is _ :: .is _ :: .is _ :: .is _ :: .is _ :: .is _ :: Fact.one x :: Fact.nodes C0 wq.heap.size (l0 ++ [x]) :: .is _ :: [])
                                  [[], [(0, 152)], [], [], [(3, 155)], [], [(4, 156), (5, 157)], [(6, 158)], [], [(8, 160)], [(7, 159), (9, 161)], [(1, 153), (2, 154)], [(11, 163), (10, 162)]]
                                  [(0, 152), (1, 153), (2, 154), (3, 155), (4, 156), (5, 157), (6, 158), (7, 159), (8, 160), (9, 161), (10, 162), (11, 163)] (by kernel_rfl) (by kernel_rfl) (by kernel_rfl) (by kernel_rfl) (by kernel_rfl)
                                case hob =>
                                  refine ⟨?o0, ?o1, ?o2, ?o3, ?o4, ?o5, ?o6, ?o7, ?o8, ?o9, ?o10, ?o11, trivial⟩
                                  case o0 => intro W hW; change wpList _ _ _ _ _ _; go_wp2; exact pure_post rfl rfl rfl
                                  case o1 =>
                                    intro W hW; rintro _ rfl; change wpList _ _ _ _ _ _
                                    have hc := (hW.cell (p := ⟨g6, 3, none⟩) HKg4.out.lt).trans hc6
                                    go_wp2; exact pure_post rfl rfl rfl
                                  case o2 => intro W hW; change wpList _ _ _ _ _ _; go_wp2; exact pure_post rfl rfl rfl
                                  case o3 => intro W hW; change wpList _ _ _ _ _ _; go_wp2; exact pure_post rfl rfl rfl
                                  case o4 =>
                                    intro W hW; rintro _ rfl; change wpList _ _ _ _ _ _
                                    have hc := (hW.cell (p := ⟨g6, 3, none⟩) HKg4.out.lt).trans hc6
                                    go_wp2; exact pure_post rfl rfl rfl
                                  case o5 => intro W hW; change wpList _ _ _ _ _ _; go_wp2; exact pure_post rfl rfl rfl
                                  case o6 => intro W hW; rintro _ rfl; rintro _ rfl; change wpList _ _ _ _ _ _; go_wp2; exact pure_post rfl rfl rfl
                                  case o7 =>
                                    intro W hW; rintro _ rfl; change wpList _ _ _ _ _ _
                                    have hc := (HPA.out.on hW).at_.1; rw [HNu.out] at hc
                                    go_wp2; exact pure_post rfl rfl rfl
                                  case o8 =>
                                    intro W hW; change wpList _ _ _ _ _ _
                                    have hJ2 := HNode.out.below hW HNode.out.lt
                                    have hk0 : W.cell? ⟨g18, 0, none⟩ = some (.int .i64 x.kind) := by rw [hJ2.cell]; rfl
                                    have hk1 : W.cell? ⟨g18, 1, none⟩ = some (.int .i64 x.arg) := by rw [hJ2.cell]; rfl
                                    have hk2 : W.cell? ⟨g18, 2, none⟩ = some (.int .i64 x.next) := by rw [hJ2.cell]; rfl
                                    have hk3 : W.cell? ⟨g18, 3, none⟩ = some (.int .i64 x.alt) := by rw [hJ2.cell]; rfl
                                    go_wp2; exact pure_post rfl rfl rfl
                                  case o9 =>
                                    intro W hW; rintro _ rfl; change wpList _ _ _ _ _ _
                                    go_wp2; exact made_post rfl rfl rfl ((Below.refl _ _).alloc (Nat.le_refl _) _) ⟨W.heap.size, rfl, Blk.new _ _ _⟩
                                  case o10 =>
                                    intro W hW; rintro _ rfl; rintro _ ⟨gn, rfl, hbk⟩; change wpList _ _ _ _ _ _
                                    have HBk := kp hbk; have hOw := (HPA.out.on hW).own
                                    have hCW : C0 ≤ W.heap.size := by have := hW.size; omega
                                    have hsW2 := hW.size
                                    clear hbk hW
                                    go_wp2_with (at_builtin; go_must (refine wpList_append_full rfl (.tmp 159) (.tmp 161) 47 rfl C0 49 4 _ 32 Tryd.underlying47 tx_node_info rfl (by omega) ndV ndV_one _ l0 x rfl hOw (Or.inl rfl) gn 1 rfl HBk.out (by unfold maxLen; omega) (by omega) hCW ?_); intro v6 w6 hown6 hb6 hv6)
                                    exact made_post rfl rfl rfl hb6 ⟨hown6, fun k hk => by rw [hv6] at hk; cases hk; exact hsW2⟩
                                  case o11 => intro W hW; rintro _ rfl; rintro _ rfl; change wpList _ _ _ _ _ _; go_wp2; exact pure_post rfl rfl rfl
                                case hend =>
                                  intro W hW; rintro _ rfl; rintro _ rfl; rintro _ rfl; rintro _ rfl; rintro _ rfl; rintro _ rfl; rintro _ rfl; rintro _ rfl; rintro _ rfl; rintro _ ⟨gn, rfl, hbk⟩; rintro v6 ⟨hown6, hk6⟩; rintro _ rfl
                                  simp only [given, put_lit, List.set, List.drop]
                                  obtain ⟨A6, c6, rfl, _⟩ := hown6.form
                                  have HP := kp (HPA.out.on hW)
                                  have hp1 := HP.out.at_.1
                                  have hp2 := HP.out.at_.2.1
                                  rw [HNu.out] at hp1 hp2
                                  have hJ2 : PushA C0 (fun k => k = g6) rr cr us0 (.slice A6 (l0 ++ [x]).length c6) L0 (l0 ++ [x]) wq (W.setCell ⟨rr, nu, none⟩ (.slice A6 (l0 ++ [x]).length c6)) := by have h := HP.out.store HPA.out hown6 hk6 HXk.out; rw [HNu.out] at h; exact h
                                  simp only [List.length_append, List.length_singleton] at hJ2
                                  have hJ3 := hJ2.fns
                                  rw [HNu.out] at hJ3
                                  have HFn := kp hJ3
                                  have hO : Only (fun k => k = rr) wq (W.setCell ⟨rr, nu, none⟩ (.slice A6 (l0.length + 1) c6)) := (Only.of_below hW).trans (Only.set rfl)
                                  have HKgn := kp (hO.blk HKg4.out (fun e => hg6G (.inr e)))
                                  have HCn : Kept ((W.setCell ⟨rr, nu, none⟩ (.slice A6 (l0.length + 1) c6)).cell? adB = some (.string (T.str name))) := kp ((hO.cell (by have := HAB.out.2; omega) (fun e => by omega)).trans ((HOM.out.cell HAB.out.2).trans HCB.out))
                                  have HSn : Kept (wB.heap.size ≤ (W.setCell ⟨rr, nu, none⟩ (.slice A6 (l0.length + 1) c6)).heap.size) := kp (by have := hO.size; omega)
                                  have HOn2 : Kept (Only (fun k => k = g6 ∨ C0 ≤ k) wB (W.setCell ⟨rr, nu, none⟩ (.slice A6 (l0.length + 1) c6))) := kp ((Only.of_below HOM.out).trans (hO.less fun k _ hk => .inr (by omega)))
                                  clear hJ2 hJ3 hown6 hk6 hbk hW hO
                                  have HRdn : Kept (RdP (W.setCell ⟨rr, nu, none⟩ (.slice A6 (l0.length + 1) c6)) C0 g6 (i + 1) st') := kp (by
                                    rw [HSt.out]
                                    refine ⟨⟨_, _, HKgn.out, HFn.out⟩, HRd.out.ok, ?_⟩
                                    have h9 := HRd.out.few
                                    rw [HL0.out] at h9
                                    refine ⟨by have := h9.1; simp at this ⊢; omega, fun l hl => ?_⟩
                                    rcases List.mem_append.1 hl with h | h
                                    · have := h9.2 l (List.mem_append_left _ h); omega
                                    · have e : l = l0 ++ [x] := by simpa using h
                                      rw [e]
                                      have := h9.2 l0 (by simp)
                                      simp; omega)
                                  go_wp2
                                  go_roundw
                                  case rel => exact ⟨k + 1, 1, by omega, by go_num, rfl, HCn.out, HSn.out, HOn2.out, .inr ⟨by omega, rfl, HRdn.out⟩⟩
                                  case measure => simp [intOf]; omega
                              · subst hu
                                apply region_tail 12 (.is _ :: .is _ :: .is _ :: .is _ :: .is _ :: .is _ :: .is _ :: .is _ :: .is _ :: Fact.one x :: Fact.nodes C0 wq.heap.size (l0 ++ [x]) :: .is _ :: [])
                                  [[], [(0, 152)], [], [], [(3, 155)], [], [(4, 156), (5, 157)], [(6, 158)], [], [(8, 160)], [(7, 159), (9, 161)], [(1, 153), (2, 154)], [(11, 163), (10, 162)]]
                                  [(0, 152), (1, 153), (2, 154), (3, 155), (4, 156), (5, 157), (6, 158), (7, 159), (8, 160), (9, 161), (10, 162), (11, 163)] (by kernel_rfl) (by kernel_rfl) (by kernel_rfl) (by kernel_rfl) (by kernel_rfl)
                                case hob =>
                                  refine ⟨?o0, ?o1, ?o2, ?o3, ?o4, ?o5, ?o6, ?o7, ?o8, ?o9, ?o10, ?o11, trivial⟩
                                  case o0 => intro W hW; change wpList _ _ _ _ _ _; go_wp2; exact pure_post rfl rfl rfl
                                  case o1 =>
                                    intro W hW; rintro _ rfl; change wpList _ _ _ _ _ _
                                    have hc := (hW.cell (p := ⟨g6, 3, none⟩) HKg4.out.lt).trans hc6
                                    go_wp2; exact pure_post rfl rfl rfl
                                  case o2 => intro W hW; change wpList _ _ _ _ _ _; go_wp2; exact pure_post rfl rfl rfl
                                  case o3 => intro W hW; change wpList _ _ _ _ _ _; go_wp2; exact pure_post rfl rfl rfl
                                  case o4 =>
                                    intro W hW; rintro _ rfl; change wpList _ _ _ _ _ _
                                    have hc := (hW.cell (p := ⟨g6, 3, none⟩) HKg4.out.lt).trans hc6
                                    go_wp2; exact pure_post rfl rfl rfl
                                  case o5 => intro W hW; change wpList _ _ _ _ _ _; go_wp2; exact pure_post rfl rfl rfl
                                  case o6 => intro W hW; rintro _ rfl; rintro _ rfl; change wpList _ _ _ _ _ _; go_wp2; exact pure_post rfl rfl rfl
                                  case o7 =>
                                    intro W hW; rintro _ rfl; change wpList _ _ _ _ _ _
                                    have hc := (HPA.out.on hW).at_.1; rw [HNu.out] at hc
                                    go_wp2; exact pure_post rfl rfl rfl
                                  case o8 =>
                                    intro W hW; change wpList _ _ _ _ _ _
                                    have hJ2 := HNode.out.below hW HNode.out.lt
                                    have hk0 : W.cell? ⟨g18, 0, none⟩ = some (.int .i64 x.kind) := by rw [hJ2.cell]; rfl
                                    have hk1 : W.cell? ⟨g18, 1, none⟩ = some (.int .i64 x.arg) := by rw [hJ2.cell]; rfl
                                    have hk2 : W.cell? ⟨g18, 2, none⟩ = some (.int .i64 x.next) := by rw [hJ2.cell]; rfl
                                    have hk3 : W.cell? ⟨g18, 3, none⟩ = some (.int .i64 x.alt) := by rw [hJ2.cell]; rfl
                                    go_wp2; exact pure_post rfl rfl rfl
                                  case o9 =>
                                    intro W hW; rintro _ rfl; change wpList _ _ _ _ _ _
                                    go_wp2; exact made_post rfl rfl rfl ((Below.refl _ _).alloc (Nat.le_refl _) _) ⟨W.heap.size, rfl, Blk.new _ _ _⟩
                                  case o10 =>
                                    intro W hW; rintro _ rfl; rintro _ ⟨gn, rfl, hbk⟩; change wpList _ _ _ _ _ _
                                    have HBk := kp hbk; have hOw := (HPA.out.on hW).own
                                    have hCW : C0 ≤ W.heap.size := by have := hW.size; omega
                                    have hsW2 := hW.size
                                    clear hbk hW
                                    go_wp2_with (at_builtin; go_must (refine wpList_append_full rfl (.tmp 159) (.tmp 161) 47 rfl C0 49 4 _ 32 Tryd.underlying47 tx_node_info rfl (by omega) ndV ndV_one _ l0 x rfl hOw (Or.inr ⟨qb, rfl⟩) gn 1 rfl HBk.out (by unfold maxLen; omega) (by omega) hCW ?_); intro v6 w6 hown6 hb6 hv6)
                                    exact made_post rfl rfl rfl hb6 ⟨hown6, fun k hk => by rw [hv6] at hk; cases hk; exact hsW2⟩
                                  case o11 => intro W hW; rintro _ rfl; rintro _ rfl; change wpList _ _ _ _ _ _; go_wp2; exact pure_post rfl rfl rfl
                                case hend =>
                                  intro W hW; rintro _ rfl; rintro _ rfl; rintro _ rfl; rintro _ rfl; rintro _ rfl; rintro _ rfl; rintro _ rfl; rintro _ rfl; rintro _ rfl; rintro _ ⟨gn, rfl, hbk⟩; rintro v6 ⟨hown6, hk6⟩; rintro _ rfl
                                  simp only [given, put_lit, List.set, List.drop]
                                  obtain ⟨A6, c6, rfl, _⟩ := hown6.form
                                  have HP := kp (HPA.out.on hW)
                                  have hp1 := HP.out.at_.1
                                  have hp2 := HP.out.at_.2.1
                                  rw [HNu.out] at hp1 hp2
                                  have hJ2 : PushA C0 (fun k => k = g6) rr cr us0 (.slice A6 (l0 ++ [x]).length c6) L0 (l0 ++ [x]) wq (W.setCell ⟨rr, nu, none⟩ (.slice A6 (l0 ++ [x]).length c6)) := by have h := HP.out.store HPA.out hown6 hk6 HXk.out; rw [HNu.out] at h; exact h
                                  simp only [List.length_append, List.length_singleton] at hJ2
                                  have hJ3 := hJ2.fns
                                  rw [HNu.out] at hJ3
                                  have HFn := kp hJ3
                                  have hO : Only (fun k => k = rr) wq (W.setCell ⟨rr, nu, none⟩ (.slice A6 (l0.length + 1) c6)) := (Only.of_below hW).trans (Only.set rfl)
                                  have HKgn := kp (hO.blk HKg4.out (fun e => hg6G (.inr e)))
                                  have HCn : Kept ((W.setCell ⟨rr, nu, none⟩ (.slice A6 (l0.length + 1) c6)).cell? adB = some (.string (T.str name))) := kp ((hO.cell (by have := HAB.out.2; omega) (fun e => by omega)).trans ((HOM.out.cell HAB.out.2).trans HCB.out))
                                  have HSn : Kept (wB.heap.size ≤ (W.setCell ⟨rr, nu, none⟩ (.slice A6 (l0.length + 1) c6)).heap.size) := kp (by have := hO.size; omega)
                                  have HOn2 : Kept (Only (fun k => k = g6 ∨ C0 ≤ k) wB (W.setCell ⟨rr, nu, none⟩ (.slice A6 (l0.length + 1) c6))) := kp ((Only.of_below HOM.out).trans (hO.less fun k _ hk => .inr (by omega)))
                                  clear hJ2 hJ3 hown6 hk6 hbk hW hO
                                  have HRdn : Kept (RdP (W.setCell ⟨rr, nu, none⟩ (.slice A6 (l0.length + 1) c6)) C0 g6 (i + 1) st') := kp (by
                                    rw [HSt.out]
                                    refine ⟨⟨_, _, HKgn.out, HFn.out⟩, HRd.out.ok, ?_⟩
                                    have h9 := HRd.out.few
                                    rw [HL0.out] at h9
                                    refine ⟨by have := h9.1; simp at this ⊢; omega, fun l hl => ?_⟩
                                    rcases List.mem_append.1 hl with h | h
                                    · have := h9.2 l (List.mem_append_left _ h); omega
                                    · have e : l = l0 ++ [x] := by simpa using h
                                      rw [e]
                                      have := h9.2 l0 (by simp)
                                      simp; omega)
                                  go_wp2
                                  go_roundw
                                  case rel => exact ⟨k + 1, 1, by omega, by go_num, rfl, HCn.out, HSn.out, HOn2.out, .inr ⟨by omega, rfl, HRdn.out⟩⟩
                                  case measure => simp [intOf]; omega
                    · have hq := str_not (x := nm) (s := name) (names_other HIdx.out hnm hkj)
                      clear hnm
                      go_wp2
                      apply region_list (.row wordT 10 T.names :: .is _ :: (.at_ (.string (T.str nm))) :: .is (.string (T.str nm)) :: .is _ :: .is _ :: .is _ :: .is _ :: [])
                        [[], [], [(0, 98), (1, 99)], [(2, 100)], [], [(4, 102)], [(5, 103)], [(3, 101), (6, 104)]]
                        [(0, 98), (1, 99), (2, 100), (3, 101), (4, 102), (5, 103), (6, 104), (7, 105)] (by kernel_rfl) (by kernel_rfl)
                      case hob =>
                        refine ⟨?o0, ?o1, ?o2, ?o3, ?o4, ?o5, ?o6, ?o7, trivial⟩
                        case o0 =>
                          intro W hW; change wpList _ _ _ _ _ _
                          go_wp2_with fail
                          refine (rf_names W).mono ?_
                          rintro e w2 ⟨v2, rfl, hown2, hb2⟩
                          obtain ⟨A, cap, rfl, _, _, hr2⟩ := Own.readsN (f := wordT) (l := T.names) hown2 rfl
                          have HR2 := kp hr2; have HB2 := kp hb2; clear hown2 hr2 hb2
                          go_wp2
                          exact made_post rfl rfl rfl HB2.out ⟨A, cap, rfl, HR2.out⟩
                        case o1 => intro W hW; change wpList _ _ _ _ _ _; go_wp2; exact pure_post rfl rfl rfl
                        case o2 =>
                          intro W hW; rintro _ ⟨A1, c1, rfl, hr1⟩; rintro _ rfl; change wpList _ _ _ _ _ _
                          obtain ⟨ad, y, rfl, hab, hy, hcy⟩ := hr1.get (k := k) (by omega)
                          have hy : T.names[k]? = some y := hy
                          rw [HNm.out] at hy
                          cases hy
                          have hcy : W.cell? (ad.add k) = some (.string (T.str nm)) := hcy
                          have HCy := kp hcy
                          clear hr1 hcy
                          go_wp2
                          exact made_post rfl rfl rfl (Below.refl _ _) (at_fact HCy.out)
                        case o3 => intro W hW; rintro _ ⟨p2, rfl, hc2⟩; change wpList _ _ _ _ _ _; go_wp2; exact pure_post rfl rfl rfl
                        case o4 => intro W hW; change wpList _ _ _ _ _ _; go_wp2; exact pure_post rfl rfl rfl
                        case o5 => intro W hW; rintro _ rfl; change wpList _ _ _ _ _ _; go_wp2; exact pure_post rfl rfl rfl
                        case o6 =>
                          intro W hW; rintro _ rfl; change wpList _ _ _ _ _ _
                          have hcW := (hW.cell HABk.out).trans HCk.out
                          go_wp2; exact pure_post rfl rfl rfl
                        case o7 => intro W hW; rintro _ rfl; rintro _ rfl; change wpList _ _ _ _ _ _; go_wp2; exact pure_post rfl rfl rfl
                      case hend =>
                        intro W hW; rintro _ ⟨A0, c0, rfl, hr0⟩; rintro _ rfl; rintro _ ⟨p2, rfl, hc2⟩; rintro _ rfl; rintro _ rfl; rintro _ rfl; rintro _ rfl; rintro _ rfl
                        simp only [given, put_lit, List.set]
                        have hsW := hW.size
                        have hc2 : W.cell? adB = some (.string (T.str name)) := (hW.cell HABk.out).trans HCk.out
                        have HC2 := kp hc2
                        have HO2 := kp (HOk.out.trans (Only.of_below hW))
                        have HCs2 : Kept ((k + 1 ≤ j ∧ b = 0 ∧ Below wB.heap.size wB W) ∨ (j < k + 1 ∧ b = 1 ∧ RdP W C0 g6 (i + 1) st')) := kp (by
                          rcases HCs.out with ⟨h1, h2, h3⟩ | ⟨h1, h2, h3⟩
                          · exact .inl ⟨by omega, h2, h3.trans (hW.mono hsk)⟩
                          · exact .inr ⟨by omega, h2, h3.on hW⟩)
                        clear hW hr0 hc2
                        go_wp2
                        go_roundw
                        case rel => exact ⟨k + 1, b, by omega, by go_num, rfl, HC2.out, by omega, HO2.out, HCs2.out⟩
                        case measure => simp [intOf]; omega
                  · have hke : k = 10 := by omega
                    obtain ⟨hv11, hrd⟩ : b = 1 ∧ RdP wk C0 g6 (i + 1) st' := by
                      rcases HCs.out with ⟨h, _⟩ | ⟨_, h1, h2⟩
                      · omega
                      · exact ⟨h1, h2⟩
                    subst hv11
                    have HRdn := kp hrd
                    have HOn2 := kp (HOnB.out.trans HOk.out)
                    clear hrd
                    go_wp2
                    go_roundw
                    case rel => exact ⟨i + 1, st', by omega, by go_num, by rw [HFs.out], HRun2.out, HRdn.out, HOn2.out⟩
                    case measure => simp [intOf]; omega
    · have hie : i = n := by omega
      have HFin : Kept (r = .inl st) := kp (by
        have h := HRun.out
        rw [hie, ← HN.out, List.drop_length] at h
        exact h.symm)
      obtain ⟨v, us, hkg, hF⟩ := HRd.out.blk
      obtain ⟨p, hpa, hpok, hpg, hpl, hps, hpf⟩ := hF.pg HRd.out.ok.1 HRd.out.ok.2.1 HRd.out.ok.2.2
      have HPok := kp hpok; have HFn := kp hF
      have HPd : Kept (C.dataOf p = st.d) := kp (by unfold C.dataOf; rw [hpg, hpl, hps, hpf])
      have hlen : p.fns.length = p.len := hpok.row.len
      have hpc : pgC p = [.int .i64 st.d.g, .int .i64 st.d.l, .int .i64 st.d.s, v] := by
        have h8 := hpa
        rw [pgA_is] at h8
        injection h8 with h8
        simpa using h8
      have HPc := kp hpc
      have HKg : Kept (Blk wA g6 25 (pgC p)) := kp (by rw [hpc]; exact hkg)
      obtain ⟨ka, kb, kc, hck⟩ : ∃ (ka kb : Int) (kc : Nat), Q.check p = (ka, kb, kc) := ⟨_, _, _, rfl⟩
      have HCk := kp hck
      have hfin : T.fin st = if kc = 0 then (st.d, 0, 0) else (C.none_, 0, kc) := by rw [fin_of hlen HPd.out, hck]
      have HFi := kp hfin
      have hv9 : v.oneCell' = true := by have := tx_pg_ones p v; rw [hpc] at this; exact this (by simp)
      clear hkg hF hpa hpok hpg hpl hps hpf hlen hpc hck hfin hv9
      by_cases hkz : kc = 0
      · subst hkz
        go_wp2_with (first
          | ((with_reducible show wpList _ _ _ (⟨some 170, _, _, _, _, _⟩ :: _) _ _); go_must (refine wpList_load_blk rfl 25 (.tmp 6) rfl g6 rfl _ (pgC p) _ HKg.out Tryd.underlying25 rfl pg_size ?_))
          | (go_at_call 16; fail))
        rw [← pgA_is]
        refine (ref_check _ p wA HPok.out (Nat.le_refl _) ka kb 0 HCk.out).mono ?_
        rintro e wC ⟨rfl, hbC⟩
        have HKgC := kp (HKg.out.below hbC HKg.out.lt); have HKrC := kp (HKrA.out.below hbC HKrA.out.lt)
        have HWC := kp (HWA.out.trans (hbC.mono hsA)); have hsC := HWC.out.size; have hsAC := hbC.size; have HBC := kp hbC
        clear hbC
        go_wp2_with (first
          | ((with_reducible show wpList _ _ _ (⟨some 179, _, _, _, _, _⟩ :: _) _ _); go_must (refine wpList_load_blk rfl 25 (.tmp 6) rfl g6 rfl _ (pgC p) _ HKgC.out Tryd.underlying25 rfl pg_size ?_))
          | ((with_reducible show wpList _ _ _ (⟨none, _, _, _, _, _⟩ :: _) _ _); (refine wpList_store_blk rfl 25 (.tmp 2) (.tmp 179) rfl gr (pgC p) rfl rfl _ _ HKrC.out pg_size rfl (tx_pg_ones p) ?_); intro wa hka hga hza
             have HKa := kp hka; have HBa : Kept (Below w.heap.size w wa) := kp (HWC.out.grown hga hsC (by intro k e; cases e; exact hgr))
             have HFa := kp ((Fns.floor (HFn.out.on HBC.out) (by omega)).keep (S' := fun k => k < C0) (Only.of_grown hga (show gr < C0 by omega)) (fun k hk => ⟨by omega, .inl hk⟩))
             clear hka hga)
          | ((with_reducible show bodyPost _ _ _ _ _ _); rw [HFin.out, show T.parseR (.inl st) = T.fin st from rfl, HFi.out, if_pos trivial]; obtain ⟨p2, hp2, hok2, hg2, hl2, hs2, hf2⟩ := HFa.out.pg HRd.out.ok.1 HRd.out.ok.2.1 HRd.out.ok.2.2; exact bodyPost_ret (tx_results3 (P := Tryd.prog) (fn := Tryd.f10) rfl _ _ gr 25 _ _ _ _ rfl rfl rfl HKa.out Tryd.underlying25 rfl pg_size) rfl ⟨p2, by rw [hp2, HPc.out]; rfl, hok2, by unfold C.dataOf; rw [hg2, hl2, hs2, hf2], HBa.out⟩))
      · have hkb : ((kc : Int) != 0) = true := by rw [bne_iff_ne]; omega
        go_wp2_with (first
          | ((with_reducible show wpList _ _ _ (⟨some 170, _, _, _, _, _⟩ :: _) _ _); go_must (refine wpList_load_blk rfl 25 (.tmp 6) rfl g6 rfl _ (pgC p) _ HKg.out Tryd.underlying25 rfl pg_size ?_))
          | (go_at_call 16; fail))
        rw [← pgA_is]
        refine (ref_check _ p wA HPok.out (Nat.le_refl _) ka kb kc HCk.out).mono ?_
        rintro e wC ⟨rfl, hbC⟩
        have HK5C := kp (HK5A.out.below hbC HK5A.out.lt); have HKrC := kp (HKrA.out.below hbC HKrA.out.lt)
        have HWC := kp (HWA.out.trans (hbC.mono hsA)); have hsC := HWC.out.size
        clear hbC
        go_wp2_with (first
          | ((with_reducible show wpList _ _ _ (⟨some 177, _, _, _, _, _⟩ :: _) _ _); go_must (refine wpList_load_blk rfl 25 (.tmp 5) rfl g5 rfl _ (pgC txNone) _ HK5C.out Tryd.underlying25 rfl pg_size ?_))
          | ((with_reducible show wpList _ _ _ (⟨none, _, _, _, _, _⟩ :: _) _ _); (refine wpList_store_blk rfl 25 (.tmp 2) (.tmp 177) rfl gr (pgC txNone) rfl rfl _ _ HKrC.out pg_size rfl (tx_pg_ones txNone) ?_); intro wa hka hga hza
             have HKa := kp hka; have HBa : Kept (Below w.heap.size w wa) := kp (HWC.out.grown hga hsC (by intro k e; cases e; exact hgr))
             clear hka hga)
          | ((with_reducible show bodyPost _ _ _ _ _ _); rw [HFin.out, show T.parseR (.inl st) = T.fin st from rfl, HFi.out, if_neg hkz]; exact bodyPost_ret (tx_results3 (P := Tryd.prog) (fn := Tryd.f10) rfl _ _ gr 25 _ _ _ _ rfl rfl rfl HKa.out Tryd.underlying25 rfl pg_size) rfl (text_none HBa.out)))
end Go.Proofs.YtiojobajcnifpaaDoor
