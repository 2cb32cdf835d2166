/- TextQ5, TextP8, TextP9, in one text. -/
import Derived.Test.YtiojobajcnifpaaDoorPk19
import Derived.Test.YtiojobajcnifpaaDoorPk20
import Derived.Test.YtiojobajcnifpaaDoorPk13
/- A line read, as the program has it, walked: refuses, a case. -/
namespace Go.Proofs.YtiojobajcnifpaaDoor
open Go.RowKit
set_option linter.unusedVariables false

set_option maxRecDepth 1000000 in
set_option maxHeartbeats 8000000 in
theorem tx_refuses_node (g C0 N : Nat) (st : T.St) (ln : List UInt8) (w : World) (hE : Env w) (h : Rdr w C0 g N st) (hg : g < C0) (hg2 : 2 ≤ g) (hC : C0 ≤ w.heap.size) (hl : ln.length ≤ 100000) (hN : N ≤ 900000) (hne : ln ≠ []) (hfst : st.first = false) (L0 : List (List Nd)) (l0 : List Nd) (hL : st.d.L = L0 ++ [l0]) (hnm : (T.parts 32 ln).headD [] ≠ T.func) :
    Calls Tryd.prog 21 #[.pointer (some ⟨g, 0, none⟩), .string (T.str ln)] w fun e w' => LinePost C0 g N st ln w e w' := by
  have hnn := T.words_tail ln
  obtain ⟨name, ns, hps⟩ := T.parts_pos 32 ln
  obtain ⟨n, hn⟩ : ∃ n, ns.length = n := ⟨_, rfl⟩
  have HN := kp hn
  have HStep : Kept (T.step st ln = T.lineW st name ns) := kp (by rw [T.step_line hne, hps]; rfl)
  have HWs : Kept (∀ x ∈ ns, x.length ≤ 1000000) := kp fun x hx => by
    have := (T.parts_mem 32 ln x (by rw [hps]; exact List.mem_cons_of_mem _ hx)).2
    omega
  have hnl : n ≤ 100001 := by
    have h1 := T.parts_len 32 ln
    have h2 := List.count_le_length (a := (32 : UInt8)) (l := ln)
    rw [hps, List.length_cons, hn] at h1
    omega
  have hsp := tx_split 32 ln w hE (by omega)
  rw [hps, List.length_cons, hn] at hsp
  have HSp := kp hsp
  have hnil : ((T.str ln).toList == ([] : List UInt8)) = false := lit_not hne
  replace hnm : name ≠ T.func := by rw [hps] at hnm; exact hnm
  have HNm := kp hnm
  clear hnm
  obtain ⟨v, us, hk, hF⟩ := h.blk
  obtain ⟨Av, cv, hv, _⟩ := hF.own.form
  subst hv
  obtain ⟨nu, hnu⟩ : ∃ nu, us.length = nu := ⟨_, rfl⟩
  have HNu := kp hnu
  rw [hnu] at hk hF
  rw [hfst] at hk
  have HK := kp hk; have HF := kp hF; have HRd := kp h; have HE := kp hE
  have hgw : g < w.heap.size := by omega
  clear hsp hn hnu hk hF h hE hps hnn
  go_enter Tryd.func21, Tryd.ntmps21
  go_wp2_with (first
    | (go_at_call 20; go_must (refine HSp.out.mono ?_); rintro e9 w1 ⟨rfl, hk1, hw1⟩
       have HK1 := kp hk1; have HW1 := kp hw1
       have hs1 := hw1.size
       have hl1 := hk1.lt
       have HR1 : Kept (Row wordT w1 w1.heap.size (some ⟨w.heap.size, 0, none⟩) (n + 1) (name :: ns)) := kp (Blk.row (l := name :: ns) hk1 (by rw [List.length_cons, HN.out]) (Nat.le_refl _))
       have hq0 : w1.cell? ⟨w.heap.size, 0, none⟩ = some (.string (T.str name)) := by rw [hk1.cell]; rfl
       clear hk1 hw1))
  apply region_list (.is _ :: .is _ :: .is _ :: .is _ :: Fact.words w.heap.size n ns :: .is _ :: Fact.words w.heap.size n ns :: [])
    [[], [(0, 13)], [(1, 14)], [], [(3, 16)], [(2, 15)], [(4, 17)]]
    [(0, 13), (1, 14), (2, 15), (3, 16), (4, 17), (5, 6), (6, 7)] (by kernel_rfl) (by kernel_rfl)
  case hob =>
    refine ⟨?o0, ?o1, ?o2, ?o3, ?o4, ?o5, ?o6, trivial⟩
    case o0 => intro W hW; change wpList _ _ _ _ _ _; go_wp2; exact pure_post rfl rfl rfl
    case o1 => intro W hW; rintro _ rfl; change wpList _ _ _ _ _ _; go_wp2; exact pure_post rfl rfl rfl
    case o2 =>
      intro W hW; rintro _ rfl; change wpList _ _ _ _ _ _
      have hc := (hW.cell (p := ⟨w.heap.size, 0, none⟩) HK1.out.lt).trans hq0
      go_wp2; exact pure_post rfl rfl rfl
    case o3 => intro W hW; change wpList _ _ _ _ _ _; go_wp2; exact pure_post rfl rfl rfl
    case o4 =>
      intro W hW; rintro _ rfl; change wpList _ _ _ _ _ _
      refine wpList_slice_from rfl 34 (.tmp 16) (.const (.int .i64 1)) rfl 9 Tryd.underlying34 str_size1 (some ⟨w.heap.size, 0, none⟩) (n + 1) (n + 1) rfl .i64 1 rfl (by omega) (Nat.le_refl _) ?_
      intro A2 hin hrow
      have hr2 := hrow wordT W W.heap.size (name :: ns) ((HR1.out.below hW).more hW.size)
      exact made_post rfl rfl rfl (Below.refl _ _) ⟨A2, _, rfl, hr2, fun ad e => by obtain ⟨a0, e1, e2⟩ := hin ad e; cases e1; exact e2⟩
    case o5 => intro W hW; rintro _ rfl; change wpList _ _ _ _ _ _; go_wp2; exact pure_post rfl rfl rfl
    case o6 =>
      intro W hW; rintro _ ⟨A4, c4, rfl, hr4, hq4⟩; change wpList _ _ _ _ _ _
      have HR4 := kp hr4; have HQ4 := kp hq4
      clear hr4 hq4
      go_wp2; exact made_post rfl rfl rfl (Below.refl _ _) ⟨A4, c4, rfl, HR4.out, HQ4.out⟩
  case hend =>
    intro W hW; rintro _ rfl; rintro _ rfl; rintro _ rfl; rintro _ rfl; rintro _ ⟨A4, c4, rfl, _, _⟩; rintro _ rfl; rintro _ ⟨A7, c7, rfl, hr7, hq7⟩
    simp only [given, put_lit, List.set]
    have HWW : Kept (Below w.heap.size w W) := kp (HW1.out.trans (hW.mono (by omega)))
    have hsW := HWW.out.size
    have HKW := kp (HK.out.below HWW.out hgw)
    have HFW := kp (HF.out.on HWW.out)
    have HEW := kp (HE.out.on HWW.out)
    have HR7 := kp hr7; have HQ7 := kp hq7
    have hA7 : Kept (∀ ad, 0 < n → A7 = some ad → ad.block ≠ g) := kp fun ad _ e => by rw [HQ7.out ad e]; omega
    have hgW : g < W.heap.size := by omega
    have k4 : W.cell? ⟨g, 4, none⟩ = some (.bool true) := by rw [HKW.out.cell]; rfl
    have z4 : W.frozen? ⟨g, 4, none⟩ = false := HKW.out.frozen 4
    clear hr7 hq7 hq0 hnil hW
    have hno : ((T.str name).toList == ([102, 117, 110, 99] : List UInt8)) = false := lit_not HNm.out
    have HLine : Kept (T.step st ln = T.lineN ⟨false, st.d⟩ name ns) := kp (by
      rw [HStep.out]; unfold T.lineW
      rw [hfst, if_neg (by simp), if_neg HNm.out, if_neg (by rw [hL]; simp)]
      obtain ⟨f, d⟩ := st
      cases hfst; rfl)
    have HL := kp hL
    have hlen := HFW.out.len
    rw [hL, List.length_append, List.length_singleton, HNu.out] at hlen
    obtain ⟨us0, u, hus⟩ : ∃ us0 u, us = us0 ++ [u] := by
      have hp : us ≠ [] := by intro e; have := HNu.out; rw [e] at this; simp at this; omega
      exact ⟨us.dropLast, us.getLast hp, (List.dropLast_concat_getLast hp).symm⟩
    have HUs := kp hus
    have HFW2 : Kept (Fns W C0 (fun k => k = g) (.slice Av nu cv) (us0 ++ [u]) (L0 ++ [l0])) := kp (by have h := HFW.out; rw [hus, hL] at h; exact h)
    have hll0 : l0.length ≤ 1000000 := by have := HRd.out.few.2 l0 (by rw [hL]; simp); omega
    have k3 : W.cell? ⟨g, 3, none⟩ = some (.slice Av nu cv) := by rw [HKW.out.cell]; rfl
    have hz : ((nu : Int) == 0) = false := by rw [beq_eq_false_iff_ne]; omega
    have hz2 : nu ≠ 0 := by omega
    have hnm9 : n ≤ maxLen := by unfold maxLen; omega
    clear hfst hL z4 hus hlen
    have hsWW : W.heap.size ≤ W.heap.size := Nat.le_refl _
    go_wp2_with (first
      | (go_at_call 39; go_must (refine (tx_readNode g C0 (fun k => k = g) _ _ _ _ (.slice Av nu cv) u us0 L0 l0 name W.heap.size A7 n c7 ns W HEW.out HKW.out rfl HFW2.out HR7.out hsWW HWs.out hnm9 hll0).mono ?_); rintro e9 w4 h4
         unfold NodePost at h4
         obtain ⟨r, us', L', rfl, hf4, ho4, ht4, hn4⟩ := h4
         have HF4 := kp hf4; have HO4 := kp ho4; have HT4 := kp ht4; have HN4 := kp hn4
         clear hf4 ho4 ht4 hn4))
    have HOw : Kept (Only (fun k => k = g ∨ C0 ≤ k) w w4) := kp (((Only.of_below HWW.out).trans HO4.out).less fun k _ e => .inr e.1)
    have hK4 : Blk w4 g 51 (.int .i64 st.d.g :: .int .i64 st.d.l :: .int .i64 st.d.s :: .slice Av nu cv :: .bool true :: []) := HO4.out.blk HKW.out (fun hc => by omega)
    go_ret
    cases r with
    | false => exact refuses_none (by rw [HLine.out]; exact HN4.out rfl _) HOw.out
    | true =>
      have hs := HT4.out rfl st.d HL.out
      obtain ⟨x, hx⟩ := T.lineN_push hs
      have hx : L' = T.push st.d.L x := hx
      rw [HL.out, T.push_snoc] at hx
      refine ⟨HOw.out, .inl ⟨⟨false, { st.d with L := L' }⟩, by rw [HLine.out]; exact hs, rfl, ⟨⟨.slice Av nu cv, us', hK4, HF4.out⟩, HRd.out.ok, ?_⟩⟩⟩
      have h1 := HRd.out.few
      rw [HL.out] at h1
      have h2 := h1.1
      have h3 := h1.2 l0 (by simp)
      rw [List.length_append, List.length_singleton] at h2
      refine ⟨by show L'.length ≤ N + 1; rw [hx, List.length_append, List.length_singleton]; omega, fun l hl => ?_⟩
      have hl : l ∈ L' := hl
      rw [hx] at hl
      rcases List.mem_append.1 hl with h | h
      · have := h1.2 l (List.mem_append_left _ h); omega
      · have e : l = l0 ++ [x] := by simpa using h
        rw [e, List.length_append, List.length_singleton]; omega
end Go.Proofs.YtiojobajcnifpaaDoor

/- A text read, as the program has it, walked: refuses, slices.IndexFunc, Parse. -/
namespace Go.Proofs.YtiojobajcnifpaaDoor
open Go.RowKit

theorem tx_refuses (g C0 N : Nat) (st : T.St) (ln : List UInt8) (w : World) (hE : Env w) (h : Rdr w C0 g N st) (hg : g < C0) (hg2 : 2 ≤ g) (hC : C0 ≤ w.heap.size) (hl : ln.length ≤ 100000) (hN : N ≤ 900000) :
    Calls Tryd.prog 21 #[.pointer (some ⟨g, 0, none⟩), .string (T.str ln)] w fun e w' => LinePost C0 g N st ln w e w' := by
  by_cases hne : ln = []
  · subst hne
    exact tx_refuses_empty g C0 N st w h
  cases hf : st.first with
  | true =>
    by_cases hn : (T.parts 32 ln).headD [] = T.alibi
    · exact tx_refuses_alibi g C0 N st ln w hE h hg hg2 hC hl hN hne hf hn
    · exact tx_refuses_first g C0 N st ln w hE h hg hg2 hC hl hN hne hf hn
  | false =>
    by_cases hn : (T.parts 32 ln).headD [] = T.func
    · exact tx_refuses_func g C0 N st ln w hE h hg hg2 hC hl hN hne hf hn
    · by_cases hL : st.d.L = []
      · exact tx_refuses_none g C0 N st ln w hE h hg hg2 hC hl hN hne hf hL hn
      · exact tx_refuses_node g C0 N st ln w hE h hg hg2 hC hl hN hne hf st.d.L.dropLast (st.d.L.getLast hL) (List.dropLast_concat_getLast hL).symm hn

/-- What IndexFunc hands back. -/
def LinesPost (C0 g N : Nat) (r : T.St ⊕ Nat) (w : World) (e : Ending) (w' : World) : Prop :=
  Only (fun k => k = g ∨ C0 ≤ k) w w' ∧ match r with
    | .inl st' => e = .returned (.int .i64 (-1)) ∧ Rdr w' C0 g N st'
    | .inr i => e = .returned (.int .i64 (i : Int))

set_option maxRecDepth 1000000 in
set_option maxHeartbeats 4000000 in
theorem tx_lines (g C0 q : Nat) (lns : List (List UInt8)) (st : T.St) (w : World) (hE : Env w) (h : Rdr w C0 g 0 st) (hg : g < C0) (hg2 : 2 ≤ g) (hC : C0 ≤ w.heap.size) (hq : q < C0) (hqg : q ≠ g) (hk : Blk w q 9 (lns.map wordT)) (hl : ∀ l ∈ lns, l.length ≤ 100000) (n : Nat) (hn : lns.length = n) (hn9 : n ≤ 900000) (r : T.St ⊕ Nat) (hr : T.run st 0 lns = r) :
    Calls Tryd.prog 19 #[.slice (some ⟨q, 0, none⟩) n n, .func (.func 21) #[.pointer (some ⟨g, 0, none⟩)] #[]] w fun e w' => LinesPost C0 g n r w e w' := by
  have HE := kp hE; have HRd := kp h; have HK := kp hk; have HL := kp hl; have HN := kp hn; have HR := kp hr
  clear hE h hk hl hn hr
  go_enter Tryd.func19, Tryd.ntmps19
  go_wp2
  go_loopw [8] (fun v8 wr => ∃ (i : Nat) (s : T.St), i ≤ n ∧ v8 = .int .i64 i ∧ T.run s i (lns.drop i) = r ∧ Rdr wr C0 g i s ∧ Only (fun k => k = g ∨ C0 ≤ k) w wr) (fun v8 _ => n - (intOf v8).toNat)
  case atStart => exact ⟨0, st, by omega, rfl, HR.out, HRd.out, Only.refl _ _⟩
  case round =>
    obtain ⟨i, s, hi, rfl, hrun, hrd, hon⟩ := hrel
    have HRun := kp hrun; have HRr := kp hrd; have HOn := kp hon
    have hsr := hon.size
    clear hrun hrd hon
    by_cases hlt : i < n
    · have hil : i < lns.length := by rw [HN.out]; exact hlt
      obtain ⟨x, hx⟩ : ∃ x, lns[i]? = some x := ⟨_, List.getElem?_eq_getElem hil⟩
      have HX := kp hx
      have hd : lns.drop i = x :: lns.drop (i + 1) := by
        rw [List.drop_eq_getElem_cons hil]
        have : lns[i] = x := (List.getElem?_eq_some_iff.1 hx).2
        rw [this]
      have HD := kp hd
      have hxl := HL.out x (List.mem_of_getElem? hx)
      have HKr : Kept (Blk wr q 9 (lns.map wordT)) := kp (HOn.out.blk HK.out (fun hc => by omega))
      have hcell : wr.cell? ⟨q, i, none⟩ = some (.string (T.str x)) := by rw [HKr.out.cell, List.getElem?_map, HX.out]; rfl
      have hEr := HE.out.only HOn.out (fun k hk => by rcases hk with h | h <;> omega)
      have HEr := kp hEr
      have hadd := add_start q i
      clear hx hd hEr
      cases hst : T.step s x with
      | none =>
        have HSt := kp hst
        have hrr : r = .inr i := by rw [← HRun.out, HD.out, T.run_none HSt.out]
        subst hrr
        clear hst
        go_wp2_with (first
          | (go_at_call 21; go_must (refine (tx_refuses g C0 i s x wr HEr.out HRr.out hg hg2 (by omega) hxl (by omega)).mono ?_); rintro e9 w9 ⟨ho9, h9⟩
             have HO9 := kp ho9
             rcases h9 with ⟨st', h8, _⟩ | ⟨_, rfl⟩
             · rw [HSt.out] at h8; cases h8
             clear ho9))
        go_ret
        exact ⟨HOn.out.trans HO9.out, rfl⟩
      | some st' =>
        have HSt := kp hst
        have HNx : Kept (T.run st' (i + 1) (lns.drop (i + 1)) = r) := kp (by rw [← HRun.out, HD.out, T.run_some HSt.out])
        clear hst
        go_wp2_with (first
          | (go_at_call 21; go_must (refine (tx_refuses g C0 i s x wr HEr.out HRr.out hg hg2 (by omega) hxl (by omega)).mono ?_); rintro e9 w9 ⟨ho9, h9⟩
             have HO9 := kp ho9
             have h9' : e9 = .returned (.bool false) ∧ Rdr w9 C0 g (i + 1) st' := by
               rcases h9 with ⟨st2, h8, h7, h6⟩ | ⟨h8, _⟩
               · rw [HSt.out] at h8; cases h8; exact ⟨h7, h6⟩
               · rw [HSt.out] at h8; cases h8
             obtain ⟨rfl, hrd9⟩ := h9'
             have HRd9 := kp hrd9
             clear ho9 h9 hrd9))
        go_roundw
        case rel => exact ⟨i + 1, st', by omega, by go_num, HNx.out, HRd9.out, HOn.out.trans HO9.out⟩
        case measure => simp [intOf]; omega
    · have hie : i = n := by omega
      have hrr : r = .inl s := by rw [← HRun.out, hie, ← HN.out, List.drop_length]; rfl
      subst hrr
      go_wp2
      go_ret
      exact ⟨HOn.out, rfl, HRr.out.more (by omega)⟩
end Go.Proofs.YtiojobajcnifpaaDoor

/- A text read, as the program has it, walked: Parse. -/
namespace Go.Proofs.YtiojobajcnifpaaDoor
open Go.RowKit
set_option linter.unusedVariables false

/-- What a function hands back that keeps its first result in a block. -/
theorem tx_results3 {P : Program} {fn : Func} {p : Tmp} {a b : Nat} {ty : TypeId} (h : fn.results = #[.cell p ty, .tmp a, .tmp b]) (tmps : Array Value) (w : World) (g : Nat) (t : TypeId) (cs : List Value) (d : TypeDesc) (va vb : Value)
    (hp : tmps.getD p undef = .pointer (some ⟨g, 0, none⟩)) (ha : tmps.getD a undef = va) (hb : tmps.getD b undef = vb) (hg : Blk w g t cs)
    (hu : P.underlying ty = some d) (hd : (match d with | .struct _ | .array _ _ => true | _ => false) = true) (hi : (P.info? ty).map (·.size) = some cs.length) :
    (results fn tmps).run P w = .ok (.tuple #[.agg cs.toArray, va, vb]) w := by
  subst ha
  subst hb
  have hp' : tmps[p]?.getD undef = .pointer (some ⟨g, 0, none⟩) := by simpa using hp
  simp [results, h, hp', asAddr, run_loadVar_row w g t ty cs.toArray (0, 0) d hg hu hd (by simpa using hi)]
theorem tx_pg_zero : (Tryd.prog.info? 25).map (·.zero) = some (some (.agg [Value.int .i64 0, .int .i64 0, .int .i64 0, .slice none 0 0].toArray)) := by kernel_rfl
theorem tx_rd_zero : (Tryd.prog.info? 51).map (·.zero) = some (some (.agg [Value.int .i64 0, .int .i64 0, .int .i64 0, .slice none 0 0, .bool false].toArray)) := by kernel_rfl
theorem tx_pg_ones (p : Pg) : ∀ u ∈ pgC p, u.oneCell' = true := by
  intro u hu
  simp only [pgC, List.mem_cons, List.not_mem_nil, or_false] at hu
  rcases hu with rfl | rfl | rfl | rfl <;> rfl
def txNone : Pg := ⟨0, 0, 0, none, 0, 0, []⟩
theorem txNone_ok (w : World) (B : Nat) : txNone.Ok w B := ⟨by unfold I64; simp [txNone], by unfold I64; simp [txNone], by unfold I64; simp [txNone], Row.none_ rfl rfl, by simp [txNone], Nat.le_refl _, by simp [txNone, maxLen], fun _ => rfl⟩
/-- What Parse hands back. -/
def TextPost (w : World) (r : C.PD × Nat × Nat) (e : Ending) (w' : World) : Prop := ∃ p : Pg, e = .returned (.tuple #[pgA p, .int .i64 (r.2.1 : Int), .int .i64 (r.2.2 : Int)]) ∧ p.Ok w' w'.heap.size ∧ C.dataOf p = r.1 ∧ Below w.heap.size w w'
theorem text_none {w w' : World} {a b : Nat} (hb : Below w.heap.size w w') : TextPost w (C.none_, a, b) (.returned (.tuple #[.agg (pgC txNone).toArray, .int .i64 (a : Int), .int .i64 (b : Int)])) w' := ⟨txNone, rfl, txNone_ok _ _, rfl, hb⟩

set_option maxRecDepth 1000000 in
set_option maxHeartbeats 4000000 in
theorem tx_parse_long (l : List UInt8) (w : World) (hl : 65536 < l.length) : Calls Tryd.prog 9 #[.string (T.str l)] w fun e w' => TextPost w (T.parse l) e w' := by
  have HP : Kept (T.parse l = (C.none_, 0, 4)) := kp (by unfold T.parse; rw [if_pos hl])
  have hsz : 65536 < (T.str l).size := by rw [T.str_size]; exact hl
  clear hl
  go_enter Tryd.func9, Tryd.ntmps9
  go_wp2_with (first
    | ((with_reducible show wpList _ _ _ (⟨some 2, _, _, _, _, _⟩ :: _) _ _); go_must (refine wpList_alloc_zero rfl 25 rfl _ tx_pg_zero ?_); intro gr w1 hgr hk1 hw1; have HK1 := kp hk1; have HW1 := kp hw1; have hs1 := hw1.size; clear hk1 hw1)
    | ((with_reducible show wpList _ _ _ (⟨none, _, _, _, _, _⟩ :: _) _ _); (refine wpList_store_blk rfl 25 (.tmp 2) (.tmp 13) rfl gr (pgC txNone) rfl rfl _ _ HK1.out pg_size rfl (tx_pg_ones txNone) ?_); intro wa hka hga hza
       have HKa := kp hka; have HBa : Kept (Below w.heap.size w wa) := kp (HW1.out.grown hga (by omega) (by intro k e; cases e; exact hgr))
       clear hka hga))
  rw [HP.out]
  exact bodyPost_ret (tx_results3 (P := Tryd.prog) (fn := Tryd.f9) rfl _ _ gr 25 _ _ _ _ rfl rfl rfl HKa.out Tryd.underlying25 rfl pg_size) rfl (text_none HBa.out)

theorem fin_of {st : T.St} {p : Pg} (hl : p.fns.length = p.len) (hd : C.dataOf p = st.d) : T.fin st = if (Q.check p).2.2 = 0 then (st.d, 0, 0) else (C.none_, 0, (Q.check p).2.2) := by
  unfold T.fin
  rw [C.check_data hl, hd]

/-- What is made of the lines. -/
noncomputable def T.parseR : T.St ⊕ Nat → C.PD × Nat × Nat
  | .inr i => (C.none_, i + 1, 3)
  | .inl st => T.fin st
theorem T.parse_lines {l : List UInt8} (h : l.length ≤ 65536) : T.parse l = T.parseR (T.run T.st0 0 (T.parts 10 l)) := by
  unfold T.parse
  rw [if_neg (by omega)]
  cases T.run T.st0 0 (T.parts 10 l) <;> rfl

theorem T.run_lt : ∀ {lns : List (List UInt8)} {st : T.St} {i k : Nat}, T.run st i lns = .inr k → k < i + lns.length
  | [], st, i, k, h => by cases h
  | x :: lns, st, i, k, h => by
    rw [List.length_cons]
    cases hs : T.step st x with
    | none => rw [T.run_none hs] at h; cases h; omega
    | some st' =>
      rw [T.run_some hs] at h
      have := T.run_lt h
      omega
theorem T.run_le : ∀ {lns : List (List UInt8)} {st : T.St} {i k M : Nat}, T.run st i lns = .inr k → i + lns.length ≤ M → k ≤ M
  | [], st, i, k, M, h, _ => by cases h
  | x :: lns, st, i, k, M, h, hM => by
    rw [List.length_cons] at hM
    cases hs : T.step st x with
    | none => rw [T.run_none hs] at h; cases h; omega
    | some st' => rw [T.run_some hs] at h; exact T.run_le h (by omega)

set_option maxRecDepth 1000000 in
set_option maxHeartbeats 8000000 in
theorem tx_parse_line (l : List UInt8) (w : World) (hE : Env w) (hl : l.length ≤ 65536) (i : Nat) (hr : T.run T.st0 0 (T.parts 10 l) = .inr i) : Calls Tryd.prog 9 #[.string (T.str l)] w fun e w' => TextPost w (T.parse l) e w' := by
  have HR := kp hr
  have HP : Kept (T.parse l = T.parseR (.inr i)) := kp (by rw [T.parse_lines hl, hr])
  have hsz : (T.str l).size ≤ 65536 := by rw [T.str_size]; exact hl
  have HE := kp hE
  have hw2 := hE.size
  obtain ⟨n, hn⟩ : ∃ n, (T.parts 10 l).length = n := ⟨_, rfl⟩
  have hn9 : n ≤ 900000 := by
    have h1 := T.parts_len 10 l
    have h2 := List.count_le_length (a := (10 : UInt8)) (l := l)
    omega
  have HN := kp hn
  have HPl : Kept (∀ x ∈ T.parts 10 l, x.length ≤ 100000) := kp fun x hx => by have := (T.parts_mem 10 l x hx).2; omega
  have hl9 : l.length ≤ 1000000 := by omega
  have HL9 := kp hl9
  clear hr hE hn hl hl9
  go_enter Tryd.func9, Tryd.ntmps9
  go_wp2_with (first
    | ((with_reducible show wpList _ _ _ (⟨some 2, _, _, _, _, _⟩ :: _) _ _); go_must (refine wpList_alloc_zero rfl 25 rfl _ tx_pg_zero ?_); intro gr w1 hgr hk1 hw1; have HK1 := kp hk1; have HW1 := kp hw1; have hs1 := hw1.size; have hgl1 := hk1.lt; clear hk1 hw1)
    | ((with_reducible show wpList _ _ _ (⟨some 5, _, _, _, _, _⟩ :: _) _ _); go_must (refine wpList_alloc_zero rfl 51 rfl _ tx_rd_zero ?_); intro g w2 hg2 hk2 hw2'; have HK2 := kp hk2; have HW2 := kp (HW1.out.trans (hw2'.mono hs1)); have hs2 := hw2'.size; have hgl2 := hk2.lt
       have HKr2 := kp (HK1.out.below hw2' hgl1)
       have HE2 := kp (HE.out.on HW2.out)
       clear hk2 hw2')
    | (go_at_call 20; go_must (refine (tx_split 10 l w2 HE2.out HL9.out).mono ?_); rintro e9 w3 ⟨rfl, hk3, hw3⟩
       rw [HN.out]
       have HK3 := kp hk3; have HW3 := kp (HW2.out.trans (hw3.mono (by omega))); have hs3 := hw3.size; have hql := hk3.lt
       have HKr3 := kp (HKr2.out.below hw3 (by omega))
       have HK23 := kp (HK2.out.below hw3 hgl2)
       have HE3 := kp (HE.out.on HW3.out)
       have HRd : Kept (Rdr w3 w3.heap.size g 0 T.st0) := kp ⟨⟨_, [], HK23.out, Fns.nil _ _ _ (fun k hk => by subst hk; omega)⟩, by unfold I64; simp [T.st0], ⟨Nat.le_refl _, by simp [T.st0]⟩⟩
       clear hk3 hw3)
    | (go_at_call 19; go_must (refine (tx_lines g w3.heap.size w2.heap.size (T.parts 10 l) T.st0 w3 HE3.out HRd.out (by omega) (by omega) (Nat.le_refl _) hql (by omega) HK3.out HPl.out n HN.out hn9 (.inr i) HR.out).mono ?_); rintro e9 w4 h4
       unfold LinesPost at h4
       obtain ⟨ho4, h4⟩ := h4
       have HO4 := kp ho4; have hs4 := ho4.size
       have HB4 : Kept (Below w.heap.size w w4) := kp (HW3.out.trans (ho4.below (B := w.heap.size) (by omega) (fun k hk => by rcases hk with h | h <;> omega)))
       have HKr4 := kp (ho4.blk HKr3.out (fun hc => by omega))
       have h4 : e9 = .returned (.int .i64 (i : Int)) := h4
       subst h4
       have hi9 : i ≤ 900000 := T.run_le HR.out (by rw [HN.out]; omega)
       clear ho4)

    | ((with_reducible show wpList _ _ _ (⟨none, _, _, _, _, _⟩ :: _) _ _); (refine wpList_store_blk rfl 25 (.tmp 2) (.tmp 20) rfl gr (pgC txNone) rfl rfl _ _ HKr4.out pg_size rfl (tx_pg_ones txNone) ?_); intro wa hka hga hza
       have HKa := kp hka; have HBa : Kept (Below w.heap.size w wa) := kp (HB4.out.grown hga (by omega) (by intro k e; cases e; exact hgr))
       have HGa := kp hga
       clear hka hga))
  rw [HP.out]
  exact bodyPost_ret (tx_results3 (P := Tryd.prog) (fn := Tryd.f9) rfl _ _ gr 25 _ _ _ _ rfl rfl rfl HKa.out Tryd.underlying25 rfl pg_size) rfl (text_none HBa.out)
end Go.Proofs.YtiojobajcnifpaaDoor
