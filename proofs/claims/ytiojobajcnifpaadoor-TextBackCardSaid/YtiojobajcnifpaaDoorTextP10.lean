/- A text read, as the program has it, walked: Parse, whole lines. -/
import Derived.Test.YtiojobajcnifpaaDoorPk21
namespace Go.Proofs.YtiojobajcnifpaaDoor
open Go.RowKit
set_option linter.unusedVariables false

set_option maxRecDepth 1000000 in
set_option maxHeartbeats 8000000 in
theorem tx_parse_fault (l : List UInt8) (w : World) (hE : Env w) (hl : l.length ≤ 65536) (st : T.St) (hr : T.run T.st0 0 (T.parts 10 l) = .inl st) (hc0 : (Q.check (C.pgOf st.d)).2.2 ≠ 0) : Calls Tryd.prog 9 #[.string (T.str l)] w fun e w' => TextPost w (T.parse l) e w' := by
  have HR := kp hr
  have HP : Kept (T.parse l = T.parseR (.inl st)) := kp (by rw [T.parse_lines hl, hr])
  have hsz : (T.str l).size ≤ 65536 := by rw [T.str_size]; exact hl
  have HE := kp hE
  have hw2 := hE.size
  obtain ⟨n, hn⟩ : ∃ n, (T.parts 10 l).length = n := ⟨_, rfl⟩
  have hn9 : n ≤ 900000 := by
    have h1 := T.parts_len 10 l
    have h2 := List.count_le_length (a := (10 : UInt8)) (l := l)
    omega
  have HN := kp hn
  have HPl : Kept (∀ x ∈ T.parts 10 l, x.length ≤ 100000) := kp fun x hx => by have := (T.parts_mem 10 l x hx).2; omega
  have hl9 : l.length ≤ 1000000 := by omega
  have HL9 := kp hl9
  clear hr hE hn hl hl9
  go_enter Tryd.func9, Tryd.ntmps9
  go_wp2_with (first
    | ((with_reducible show wpList _ _ _ (⟨some 2, _, _, _, _, _⟩ :: _) _ _); go_must (refine wpList_alloc_zero rfl 25 rfl _ tx_pg_zero ?_); intro gr w1 hgr hk1 hw1; have HK1 := kp hk1; have HW1 := kp hw1; have hs1 := hw1.size; have hgl1 := hk1.lt; clear hk1 hw1)
    | ((with_reducible show wpList _ _ _ (⟨some 5, _, _, _, _, _⟩ :: _) _ _); go_must (refine wpList_alloc_zero rfl 51 rfl _ tx_rd_zero ?_); intro g w2 hg2 hk2 hw2'; have HK2 := kp hk2; have HW2 := kp (HW1.out.trans (hw2'.mono hs1)); have hs2 := hw2'.size; have hgl2 := hk2.lt
       have HKr2 := kp (HK1.out.below hw2' hgl1)
       have HE2 := kp (HE.out.on HW2.out)
       clear hk2 hw2')
    | (go_at_call 20; go_must (refine (tx_split 10 l w2 HE2.out HL9.out).mono ?_); rintro e9 w3 ⟨rfl, hk3, hw3⟩
       rw [HN.out]
       have HK3 := kp hk3; have HW3 := kp (HW2.out.trans (hw3.mono (by omega))); have hs3 := hw3.size; have hql := hk3.lt
       have HKr3 := kp (HKr2.out.below hw3 (by omega))
       have HK23 := kp (HK2.out.below hw3 hgl2)
       have HE3 := kp (HE.out.on HW3.out)
       have HRd : Kept (Rdr w3 w3.heap.size g 0 T.st0) := kp ⟨⟨_, [], HK23.out, Fns.nil _ _ _ (fun k hk => by subst hk; omega)⟩, by unfold I64; simp [T.st0], ⟨Nat.le_refl _, by simp [T.st0]⟩⟩
       clear hk3 hw3)
    | (go_at_call 19; go_must (refine (tx_lines g w3.heap.size w2.heap.size (T.parts 10 l) T.st0 w3 HE3.out HRd.out (by omega) (by omega) (Nat.le_refl _) hql (by omega) HK3.out HPl.out n HN.out hn9 (.inl st) HR.out).mono ?_); rintro e9 w4 h4
       unfold LinesPost at h4
       obtain ⟨ho4, h4⟩ := h4
       have HO4 := kp ho4; have hs4 := ho4.size
       have HB4 : Kept (Below w.heap.size w w4) := kp (HW3.out.trans (ho4.below (B := w.heap.size) (by omega) (fun k hk => by rcases hk with h | h <;> omega)))
       have HKr4 := kp (ho4.blk HKr3.out (fun hc => by omega))
       obtain ⟨rfl, hrd4⟩ := h4
       obtain ⟨v4, us4, hkg4, hfn4⟩ := hrd4.blk
       obtain ⟨p, hpa, hpok, hpg, hpl, hps, hpf⟩ := hfn4.pg hrd4.ok.1 hrd4.ok.2.1 hrd4.ok.2.2
       have HPok := kp hpok
       have HPd : Kept (C.dataOf p = st.d) := kp (by unfold C.dataOf; rw [hpg, hpl, hps, hpf])
       have hlen : p.fns.length = p.len := hpok.row.len
       have HFin := kp (fin_of hlen HPd.out)
       have hpc : pgC p = .int .i64 st.d.g :: .int .i64 st.d.l :: .int .i64 st.d.s :: v4 :: [] := by
         have h9 : (pgC p).toArray = (.int .i64 st.d.g :: .int .i64 st.d.l :: .int .i64 st.d.s :: v4 :: [] : List Value).toArray := by
           have h8 := hpa
           rw [pgA_is] at h8
           injection h8
         simpa using h9
       have HRg : Kept (w4.rangeAt g 0 (pgC p)) := kp (fun j v hv => by
         rw [Nat.zero_add, hkg4.cell]
         rw [hpc] at hv
         match j, hv with
         | 0, hv => exact hv
         | 1, hv => exact hv
         | 2, hv => exact hv
         | 3, hv => exact hv)
       obtain ⟨ka, kb, kc, hck⟩ : ∃ (ka kb : Int) (kc : Nat), Q.check p = (ka, kb, kc) := ⟨_, _, _, rfl⟩
       have HCk := kp hck
       have hkc : (Q.check (C.pgOf st.d)).2.2 = kc := by rw [← HPd.out, ← C.check_data hlen, hck]
       have hkz : kc ≠ 0 := by rw [← hkc]; exact hc0
       have hkb : ((kc : Int) != 0) = true := by rw [bne_iff_ne]; omega
       have HKz : Kept (T.fin st = (C.none_, 0, kc)) := kp (by unfold T.fin; rw [if_neg hc0, hkc])
       clear hkc
       clear hrd4 hkg4 hfn4 hpa hpok hpg hpl hps hpf hlen hpc hck
       clear ho4)

    | ((with_reducible show wpList _ _ _ (⟨some 25, _, _, _, _, _⟩ :: _) _ _); go_must (refine wpList_load_mid rfl 25 (.tmp 24) rfl g 0 rfl (pgC p) _ HRg.out Tryd.underlying25 rfl pg_size ?_))
    | (go_at_call 22; go_must (refine (prog_check_any w4.heap.size p w4 HPok.out (Nat.le_refl _) _ _ _ HCk.out).mono ?_); rintro e8 w5 ⟨rfl, hw5⟩
       have HB5 := kp (HB4.out.trans (hw5.mono (by omega))); have hs5 := hw5.size
       have HKr5 := kp (HKr4.out.below hw5 (by omega))
       have HRg5 : Kept (w5.rangeAt g 0 (pgC p)) := kp (fun j v hv => by rw [hw5.cell (p := ⟨g, 0 + j, none⟩) (by show g < _; omega)]; exact HRg.out j v hv)
       have HW5 := kp hw5
       clear hw5)
    | ((with_reducible show wpList _ _ _ (⟨none, _, _, _, _, _⟩ :: _) _ _); (refine wpList_store_blk rfl 25 (.tmp 2) (.tmp 32) rfl gr (pgC txNone) rfl rfl _ _ HKr5.out pg_size rfl (tx_pg_ones txNone) ?_); intro wa hka hga hza
       have HKa := kp hka; have HBa : Kept (Below w.heap.size w wa) := kp (HB5.out.grown hga (by omega) (by intro k e; cases e; exact hgr))
       have HGa := kp hga
       clear hka hga))
  rw [HP.out, show T.parseR (.inl st) = T.fin st from rfl, HKz.out]
  exact bodyPost_ret (tx_results3 (P := Tryd.prog) (fn := Tryd.f9) rfl _ _ gr 25 _ _ _ _ rfl rfl rfl HKa.out Tryd.underlying25 rfl pg_size) rfl (text_none HBa.out)

set_option maxRecDepth 1000000 in
set_option maxHeartbeats 8000000 in
theorem tx_parse_fine (l : List UInt8) (w : World) (hE : Env w) (hl : l.length ≤ 65536) (st : T.St) (hr : T.run T.st0 0 (T.parts 10 l) = .inl st) (hc0 : (Q.check (C.pgOf st.d)).2.2 = 0) : Calls Tryd.prog 9 #[.string (T.str l)] w fun e w' => TextPost w (T.parse l) e w' := by
  have HR := kp hr
  have HP : Kept (T.parse l = T.parseR (.inl st)) := kp (by rw [T.parse_lines hl, hr])
  have hsz : (T.str l).size ≤ 65536 := by rw [T.str_size]; exact hl
  have HE := kp hE
  have hw2 := hE.size
  obtain ⟨n, hn⟩ : ∃ n, (T.parts 10 l).length = n := ⟨_, rfl⟩
  have hn9 : n ≤ 900000 := by
    have h1 := T.parts_len 10 l
    have h2 := List.count_le_length (a := (10 : UInt8)) (l := l)
    omega
  have HN := kp hn
  have HPl : Kept (∀ x ∈ T.parts 10 l, x.length ≤ 100000) := kp fun x hx => by have := (T.parts_mem 10 l x hx).2; omega
  have hl9 : l.length ≤ 1000000 := by omega
  have HL9 := kp hl9
  clear hr hE hn hl hl9
  go_enter Tryd.func9, Tryd.ntmps9
  go_wp2_with (first
    | ((with_reducible show wpList _ _ _ (⟨some 2, _, _, _, _, _⟩ :: _) _ _); go_must (refine wpList_alloc_zero rfl 25 rfl _ tx_pg_zero ?_); intro gr w1 hgr hk1 hw1; have HK1 := kp hk1; have HW1 := kp hw1; have hs1 := hw1.size; have hgl1 := hk1.lt; clear hk1 hw1)
    | ((with_reducible show wpList _ _ _ (⟨some 5, _, _, _, _, _⟩ :: _) _ _); go_must (refine wpList_alloc_zero rfl 51 rfl _ tx_rd_zero ?_); intro g w2 hg2 hk2 hw2'; have HK2 := kp hk2; have HW2 := kp (HW1.out.trans (hw2'.mono hs1)); have hs2 := hw2'.size; have hgl2 := hk2.lt
       have HKr2 := kp (HK1.out.below hw2' hgl1)
       have HE2 := kp (HE.out.on HW2.out)
       clear hk2 hw2')
    | (go_at_call 20; go_must (refine (tx_split 10 l w2 HE2.out HL9.out).mono ?_); rintro e9 w3 ⟨rfl, hk3, hw3⟩
       rw [HN.out]
       have HK3 := kp hk3; have HW3 := kp (HW2.out.trans (hw3.mono (by omega))); have hs3 := hw3.size; have hql := hk3.lt
       have HKr3 := kp (HKr2.out.below hw3 (by omega))
       have HK23 := kp (HK2.out.below hw3 hgl2)
       have HE3 := kp (HE.out.on HW3.out)
       have HRd : Kept (Rdr w3 w3.heap.size g 0 T.st0) := kp ⟨⟨_, [], HK23.out, Fns.nil _ _ _ (fun k hk => by subst hk; omega)⟩, by unfold I64; simp [T.st0], ⟨Nat.le_refl _, by simp [T.st0]⟩⟩
       clear hk3 hw3)
    | (go_at_call 19; go_must (refine (tx_lines g w3.heap.size w2.heap.size (T.parts 10 l) T.st0 w3 HE3.out HRd.out (by omega) (by omega) (Nat.le_refl _) hql (by omega) HK3.out HPl.out n HN.out hn9 (.inl st) HR.out).mono ?_); rintro e9 w4 h4
       unfold LinesPost at h4
       obtain ⟨ho4, h4⟩ := h4
       have HO4 := kp ho4; have hs4 := ho4.size
       have HB4 : Kept (Below w.heap.size w w4) := kp (HW3.out.trans (ho4.below (B := w.heap.size) (by omega) (fun k hk => by rcases hk with h | h <;> omega)))
       have HKr4 := kp (ho4.blk HKr3.out (fun hc => by omega))
       obtain ⟨rfl, hrd4⟩ := h4
       obtain ⟨v4, us4, hkg4, hfn4⟩ := hrd4.blk
       obtain ⟨p, hpa, hpok, hpg, hpl, hps, hpf⟩ := hfn4.pg hrd4.ok.1 hrd4.ok.2.1 hrd4.ok.2.2
       have HPok := kp hpok
       have HPd : Kept (C.dataOf p = st.d) := kp (by unfold C.dataOf; rw [hpg, hpl, hps, hpf])
       have hlen : p.fns.length = p.len := hpok.row.len
       have HFin := kp (fin_of hlen HPd.out)
       have hpc : pgC p = .int .i64 st.d.g :: .int .i64 st.d.l :: .int .i64 st.d.s :: v4 :: [] := by
         have h9 : (pgC p).toArray = (.int .i64 st.d.g :: .int .i64 st.d.l :: .int .i64 st.d.s :: v4 :: [] : List Value).toArray := by
           have h8 := hpa
           rw [pgA_is] at h8
           injection h8
         simpa using h9
       have HRg : Kept (w4.rangeAt g 0 (pgC p)) := kp (fun j v hv => by
         rw [Nat.zero_add, hkg4.cell]
         rw [hpc] at hv
         match j, hv with
         | 0, hv => exact hv
         | 1, hv => exact hv
         | 2, hv => exact hv
         | 3, hv => exact hv)
       obtain ⟨ka, kb, kc, hck⟩ : ∃ (ka kb : Int) (kc : Nat), Q.check p = (ka, kb, kc) := ⟨_, _, _, rfl⟩
       have HCk := kp hck
       have hkc : (Q.check (C.pgOf st.d)).2.2 = kc := by rw [← HPd.out, ← C.check_data hlen, hck]
       have hkz : kc = 0 := by rw [← hkc]; exact hc0
       subst hkz
       have HKz : Kept (T.fin st = (st.d, 0, 0)) := kp (by unfold T.fin; rw [if_pos hc0])
       have HFn4 := kp hfn4; have HOk := kp hrd4.ok; have HPc := kp hpc
       clear hkc
       clear hrd4 hkg4 hfn4 hpa hpok hpg hpl hps hpf hlen hpc hck
       clear ho4)

    | ((with_reducible show wpList _ _ _ (⟨some 25, _, _, _, _, _⟩ :: _) _ _); go_must (refine wpList_load_mid rfl 25 (.tmp 24) rfl g 0 rfl (pgC p) _ HRg.out Tryd.underlying25 rfl pg_size ?_))
    | (go_at_call 22; go_must (refine (prog_check_any w4.heap.size p w4 HPok.out (Nat.le_refl _) _ _ _ HCk.out).mono ?_); rintro e8 w5 ⟨rfl, hw5⟩
       have HB5 := kp (HB4.out.trans (hw5.mono (by omega))); have hs5 := hw5.size
       have HKr5 := kp (HKr4.out.below hw5 (by omega))
       have HRg5 : Kept (w5.rangeAt g 0 (pgC p)) := kp (fun j v hv => by rw [hw5.cell (p := ⟨g, 0 + j, none⟩) (by show g < _; omega)]; exact HRg.out j v hv)
       have HW5 := kp hw5
       clear hw5)
    | ((with_reducible show wpList _ _ _ (⟨some 35, _, _, _, _, _⟩ :: _) _ _); go_must (refine wpList_load_mid rfl 25 (.tmp 34) rfl g 0 rfl (pgC p) _ HRg5.out Tryd.underlying25 rfl pg_size ?_))
    | ((with_reducible show wpList _ _ _ (⟨none, _, _, _, _, _⟩ :: _) _ _); (refine wpList_store_blk rfl 25 (.tmp 2) (.tmp 35) rfl gr (pgC p) rfl rfl _ _ HKr5.out pg_size rfl (tx_pg_ones p) ?_); intro wa hka hga hza
       have HKa := kp hka; have HBa : Kept (Below w.heap.size w wa) := kp (HB5.out.grown hga (by omega) (by intro k e; cases e; exact hgr))
       have HGa := kp hga
       clear hka hga
       have HFa := kp ((Fns.floor (HFn4.out.on HW5.out) (by omega)).keep (S' := fun k => k < w3.heap.size) (Only.of_grown HGa.out (show gr < w3.heap.size by omega)) (fun k hk => ⟨by omega, .inl hk⟩))))
  rw [HP.out, show T.parseR (.inl st) = T.fin st from rfl, HKz.out]
  obtain ⟨p2, hp2, hok2, hg2, hl2, hs2, hf2⟩ := HFa.out.pg HOk.out.1 HOk.out.2.1 HOk.out.2.2
  exact bodyPost_ret (tx_results3 (P := Tryd.prog) (fn := Tryd.f9) rfl _ _ gr 25 _ _ _ _ rfl rfl rfl HKa.out Tryd.underlying25 rfl pg_size) rfl ⟨p2, by rw [hp2, HPc.out]; rfl, hok2, by unfold C.dataOf; rw [hg2, hl2, hs2, hf2], HBa.out⟩

theorem tx_parse (l : List UInt8) (w : World) (hE : Env w) : Calls Tryd.prog 9 #[.string (T.str l)] w fun e w' => TextPost w (T.parse l) e w' := by
  by_cases hl : 65536 < l.length
  · exact tx_parse_long l w hl
  have hl2 : l.length ≤ 65536 := by omega
  cases hr : T.run T.st0 0 (T.parts 10 l) with
  | inr i => exact tx_parse_line l w hE hl2 i hr
  | inl st =>
    by_cases hc : (Q.check (C.pgOf st.d)).2.2 = 0
    · exact tx_parse_fine l w hE hl2 st hr hc
    · exact tx_parse_fault l w hE hl2 st hr hc

end Go.Proofs.YtiojobajcnifpaaDoor
