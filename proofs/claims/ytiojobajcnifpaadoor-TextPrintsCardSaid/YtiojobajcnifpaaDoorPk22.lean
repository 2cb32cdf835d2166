/- TextLaw1, WTextPlaces, TextLaid, in one text. -/
import Derived.Test.YtiojobajcnifpaaDoorTextP10
import Derived.Test.YtiojobajcnifpaaDoorPk14
import Derived.Test.YtiojobajcnifpaaDoorRows
import Derived.Test.YtiojobajcnifpaaDoorPk16
import Derived.Deep.DeepHandedRow
import Derived.Lib.LaidTab
import Derived.Shelf.LaysM
/- What layer 8's laws share: the document's example. -/
namespace Go.Proofs.YtiojobajcnifpaaDoor
open Go.RowKit
set_option linter.unusedVariables false

/-- alibi 0 0 0, func, return. -/
def awakeL : List UInt8 := [97, 108, 105, 98, 105, 32, 48, 32, 48, 32, 48, 10, 102, 117, 110, 99, 10, 114, 101, 116, 117, 114, 110, 10]
def awakeD : C.PD := ⟨0, 0, 0, [[⟨9, 0, 0, 0⟩]]⟩
theorem awake_run : T.run T.st0 0 (T.parts 10 awakeL) = .inl ⟨false, awakeD⟩ := by kernel_rfl
theorem awake_check : Q.check (C.pgOf awakeD) = (0, 0, 0) := by
  have h := C.check_data (p := pgOne 0 1 ⟨9, 0, 0, 0⟩) rfl
  have e : C.dataOf (pgOne 0 1 ⟨9, 0, 0, 0⟩) = awakeD := rfl
  rw [e] at h
  rw [← h]
  exact check_return 0 1
theorem awake_parse : T.parse awakeL = (awakeD, 0, 0) := by
  rw [T.parse_lines (by decide), awake_run]
  show T.fin _ = _
  unfold T.fin
  rw [awake_check]; rfl

set_option maxRecDepth 1000000 in
set_option maxHeartbeats 4000000 in
theorem tx_awake (w : World) (hE : Env w) : Calls Tryd.prog 8 #[] w fun e w' => e = .returned (.bool true) ∧ Below w.heap.size w w' := by
  have HE := kp hE
  have HA := kp awake_parse
  clear hE
  go_enter Tryd.func8, Tryd.ntmps8
  go_wp2_with (first
    | (go_at_call 9; go_must (refine (tx_parse awakeL w HE.out).mono ?_); rintro e w1 h1
       rw [HA.out] at h1
       obtain ⟨p, rfl, hok, hd, hb1⟩ := h1
       have hlen := hok.row.len
       have hL : p.fns.map (·.nodes) = [[⟨9, 0, 0, 0⟩]] := congrArg C.PD.L hd
       have hl1 : p.len = 1 := by
         have := congrArg List.length hL
         simp at this; omega
       obtain ⟨ad, fn, e1, hab, hx, hfok, hcf⟩ := hok.fn (k := 0) (by omega)
       have hfn : fn.nodes = [⟨9, 0, 0, 0⟩] := by
         have := congrArg (·[0]?) hL
         simp only [List.getElem?_map, hx, Option.map_some, List.getElem?_cons_zero, Option.some.injEq] at this
         exact this
       have hfl : fn.len = 1 := by
         have := hfok.nodes.1.len
         rw [hfn] at this; simpa using this.symm
       obtain ⟨ad2, x, e2, hab2, hxn, _, k0, _, _, _⟩ := hfok.nodes.get (k := 0) (by omega)
       have hx9 : x = ⟨9, 0, 0, 0⟩ := by rw [hfn] at hxn; simpa using hxn.symm
       rw [hx9] at k0
       rw [hfl, e2] at hcf
       have hcf : w1.cell? ad = some (.slice (some ad2) 1 fn.cap) := by simpa [Addr.add] using hcf
       have k0 : w1.cell? ad2 = some (.int .i64 9) := by simpa [Addr.add] using k0
       have hpc : pgC p = .int .i64 p.g :: .int .i64 p.l :: .int .i64 p.s :: .slice (some ad) 1 p.cap :: [] := by unfold pgC; rw [e1, hl1]
       rw [pgA_is, hpc]
       have HW1 := kp hb1; have hs1 := hb1.size
       clear hok hd hb1 hlen hL hl1 e1 hx hfok hfn hfl e2 hxn hx9 hpc)
    | ((with_reducible show wpList _ _ _ (⟨some 1, _, _, _, _, _⟩ :: _) _ _); go_must (refine wpList_alloc_zero rfl 25 rfl _ tx_pg_zero ?_); intro g1 w2 hg1 hk1 hw2; have HK1 := kp hk1; have HW2 := kp hw2; have hs2 := hw2.size; clear hk1)
    | ((with_reducible show wpList _ _ _ (⟨none, _, _, _, _, _⟩ :: _) _ _); (refine wpList_store_blk rfl 25 (.tmp 1) (.tmp 6) rfl g1 (.int .i64 p.g :: .int .i64 p.l :: .int .i64 p.s :: .slice (some ad) 1 p.cap :: []) rfl rfl _ _ HK1.out pg_size rfl (by intro u hu; simp only [List.mem_cons, List.not_mem_nil, or_false] at hu; rcases hu with rfl | rfl | rfl | rfl <;> rfl) ?_); intro wa hka hga hza
       have hcf3 : wa.cell? ad = some (.slice (some ad2) 1 fn.cap) := by rw [hga.cell_far ad (by omega) (by intro e; cases e; omega), hw2.cell (by omega)]; exact hcf
       have k3 : wa.cell? ad2 = some (.int .i64 9) := by rw [hga.cell_far ad2 (by omega) (by intro e; cases e; omega), hw2.cell (by omega)]; exact k0
       have c3 : wa.cell? ⟨g1, 3, none⟩ = some (.slice (some ad) 1 p.cap) := by rw [hka.cell]; rfl
       have HB : Kept (Below w.heap.size w wa) := kp ((HW1.out.trans (hw2.mono hs1)).grown hga (by omega) (fun k e => by cases e; omega))
       clear hka hga hcf k0 hw2))
  go_ret
  exact ⟨rfl, HB.out⟩
end Go.Proofs.YtiojobajcnifpaaDoor

/- TextPlaces, walked. -/
namespace Go.Proofs.YtiojobajcnifpaaDoor
open Go.RowKit
set_option linter.unusedVariables false

theorem T.fin_ok {st : T.St} {d : C.PD} {n : Nat} (h : T.fin st = (d, n, 0)) : n = 0 ∧ d.L ≠ [] ∧ (Q.check (C.pgOf d)).2.2 = 0 := by
  unfold T.fin at h
  split at h
  · rename_i h0
    cases h
    refine ⟨rfl, fun e => ?_, h0⟩
    obtain ⟨a, b, c, hc⟩ : ∃ a b c, Q.check (C.pgOf st.d) = (a, b, c) := ⟨_, _, _, rfl⟩
    rw [hc] at h0
    have h0 : c = 0 := h0
    subst h0
    have hf := (fine_of hc).counts.f.1
    unfold C.pgOf at hf
    rw [e] at hf
    simp at hf
  · rename_i h0
    exact absurd (Prod.mk.inj (Prod.mk.inj h).2).2 h0
theorem T.parse_ok {l : List UInt8} {d : C.PD} {n : Nat} (h : T.parse l = (d, n, 0)) : n = 0 ∧ d.L ≠ [] ∧ (Q.check (C.pgOf d)).2.2 = 0 := by
  unfold T.parse at h
  split at h
  · cases h
  · split at h
    · cases h
    · exact T.fin_ok h
theorem T.parse_bad {l : List UInt8} {d : C.PD} {n e : Nat} (h : T.parse l = (d, n, e)) (he : e ≠ 0) : d.L = [] ∧ n ≤ l.count 10 + 1 ∧ (n = 0 ∨ e = 3) := by
  unfold T.parse at h
  split at h
  · cases h; exact ⟨rfl, by omega, .inl rfl⟩
  · split at h
    · rename_i i hr
      cases h
      have hi := T.run_lt hr
      rw [T.parts_len] at hi
      exact ⟨rfl, by omega, .inr rfl⟩
    · unfold T.fin at h
      split at h
      · cases h; exact absurd rfl he
      · cases h; exact ⟨rfl, by omega, .inl rfl⟩

set_option maxRecDepth 1000000 in
set_option maxHeartbeats 8000000 in
theorem walkTextPlaces (s0 : ByteArray) (w : World) (w0 : s0.size ≤ maxLen) (hE : Env w) :
    Calls Tryd.prog 7 #[.string s0] w fun e w' => e = .returned (.bool true) ∧ Below w.heap.size w w' := by
  obtain ⟨l, hl⟩ : ∃ l, T.str l = s0 := ⟨_, T.str_of s0⟩
  have hsz : l.length = s0.size := by rw [← hl, T.str_size]
  have HSz := kp hsz
  have HBy : Kept (∀ (k : Nat) (h : k < s0.size), l[k]? = some (s0[k]'h)) := kp (by subst hl; exact fun k h => byte_at l h)
  have HL := kp hl
  have HE := kp hE
  unfold maxLen at w0
  clear hl hsz hE
  by_cases h : 66000 < s0.size
  · go_enter Tryd.func7, Tryd.ntmps7
    go_wp2_with fail
    refine (tx_awake w HE.out).mono ?_
    rintro e w1 ⟨rfl, hb1⟩
    have HW1 := kp hb1; have HE1 := kp (HE.out.on hb1); have hs1 := hb1.size
    clear hb1
    go_wp2_with fail
    refine (tx_awake w1 HE1.out).mono ?_
    rintro e w2 ⟨rfl, hb2⟩
    have HW2 := kp (HW1.out.trans (hb2.mono hs1))
    clear hb2
    go_wp2
    go_ret
    exact ⟨rfl, HW2.out⟩
  · obtain ⟨d, n, e, hx⟩ : ∃ d n e, T.parse l = (d, n, e) := ⟨_, _, _, rfl⟩
    have HX := kp hx
    clear hx
    go_enter Tryd.func7, Tryd.ntmps7
    go_wp2_with fail
    refine (tx_awake w HE.out).mono ?_
    rintro e1 w1 ⟨rfl, hb1⟩
    have HW1 := kp hb1; have HE1 := kp (HE.out.on hb1); have hs1 := hb1.size
    clear hb1
    go_wp2
    go_loopw [3, 4] (fun v3 v4 wr => ∃ i : Nat, i ≤ s0.size ∧ v4 = .int .i64 i ∧ v3 = .int .i64 (((l.take i).count 10 + 1 : Nat) : Int) ∧ wr = w1) (fun _ v4 _ => s0.size - (intOf v4).toNat)
    case atStart => exact ⟨0, by omega, rfl, rfl, rfl⟩
    case round =>
      obtain ⟨i, hi, rfl, rfl, hwr⟩ := hrel
      have hwr' := hwr.symm
      subst hwr'
      obtain ⟨k, hk⟩ : ∃ k, (l.take i).count 10 = k := ⟨_, rfl⟩
      have hk9 : k ≤ 66000 := by rw [← hk]; have h1 := List.count_le_length (a := (10 : UInt8)) (l := l.take i); rw [List.length_take] at h1; have := HSz.out; omega
      rw [hk]
      have HK := kp hk
      clear hk
      by_cases hlt : i < s0.size
      · obtain ⟨b, hb⟩ : ∃ b, s0[i]'hlt = b := ⟨_, rfl⟩
        have hlb := HBy.out i hlt
        rw [hb] at hlb
        have HLb := kp hlb
        clear hlb
        by_cases h10 : b = 10
        · have hc : ((s0[i]'hlt).toNat : Int) = 10 := by rw [hb, h10]; rfl
          have HNx : Kept ((l.take (i + 1)).count 10 = k + 1) := kp (by rw [List.take_add_one, HLb.out, Option.toList_some, List.count_append, HK.out, h10]; rfl)
          have hq : (((s0[i]'hlt).toNat : Int) == 10) = true := by rw [hc]; rfl
          clear hb hc
          go_wp2
          go_roundw
          case rel => exact ⟨i + 1, by omega, by go_num, by rw [HNx.out]; go_num, trivial⟩
          case measure => simp [intOf]; omega
        · have hq : (((s0[i]'hlt).toNat : Int) == 10) = false := by
            rw [hb, beq_eq_false_iff_ne]
            intro e
            apply h10
            exact UInt8.toNat_inj.1 (by show b.toNat = 10; omega)
          have HNx : Kept ((l.take (i + 1)).count 10 = k) := kp (by rw [List.take_add_one, HLb.out, Option.toList_some, List.count_append, HK.out, List.count_singleton]; simp [h10])
          clear hb
          go_wp2
          go_roundw
          case rel => exact ⟨i + 1, by omega, by go_num, by rw [HNx.out], trivial⟩
          case measure => simp [intOf]; omega
      · have hie : i = s0.size := by omega
        have HKl : Kept (l.count 10 = k) := kp (by rw [← HK.out, hie, ← HSz.out, List.take_length])
        have HPa : Kept (Calls Tryd.prog 9 #[.string s0] w1 fun e w' => TextPost w1 (T.parse l) e w') := kp (by rw [← HL.out]; exact tx_parse l w1 HE1.out)
        by_cases he : e = 0
        · subst he
          obtain ⟨hn0, hdL, _⟩ := T.parse_ok HX.out
          subst hn0
          have hdl : d.L.length ≠ 0 := fun e => hdL (List.eq_nil_of_length_eq_zero e)
          clear hdL
          go_wp2_with (first
          | (go_at_call 9; go_must (refine HPa.out.mono ?_); rintro e2 w2 h2
             rw [HX.out] at h2
             obtain ⟨p, rfl, hok, hd, hb2⟩ := h2
             have hd : C.dataOf p = d := hd
             have hlen : p.len = d.L.length := by rw [← hd]; unfold C.dataOf; rw [List.length_map, hok.row.len]
             have HW2 := kp (HW1.out.trans (hb2.mono hs1)); have hs2 := hb2.size
             have hpl : 0 < p.len := by omega
             clear hok hd hb2 hlen)
          | ((with_reducible show wpList _ _ _ (⟨some 5, _, _, _, _, _⟩ :: _) _ _); go_must (refine wpList_alloc_zero rfl 25 rfl _ tx_pg_zero ?_); intro g5 w3 hg5 hk3 hw3; have HK3 := kp hk3; have HW3 := kp (HW2.out.trans (hw3.mono (by omega))); have hs3 := hw3.size; clear hk3 hw3)
          | ((with_reducible show wpList _ _ _ (⟨none, _, _, _, _, _⟩ :: _) _ _); (refine wpList_store_blk rfl 25 (.tmp 5) (.tmp 31) rfl g5 (pgC p) rfl rfl _ _ HK3.out pg_size rfl (tx_pg_ones p) ?_); intro wa hka hga hza
             have c3 : wa.cell? ⟨g5, 3, none⟩ = some (.slice p.A p.len p.cap) := by rw [hka.cell]; rfl
             have HB : Kept (Below w.heap.size w wa) := kp (HW3.out.grown hga (by omega) (fun k e => by cases e; omega))
             clear hka hga))
          go_ret
          exact ⟨rfl, HB.out⟩
        · obtain ⟨hdL, hnl, hor⟩ := T.parse_bad HX.out he
          rw [HKl.out] at hnl
          have hdl : d.L.length = 0 := by rw [hdL]; rfl
          have heb : ((e : Int) == 0) = false := by rw [beq_eq_false_iff_ne]; omega
          clear hdL
          rcases hor with rfl | rfl
          · go_wp2_with (first
            | (go_at_call 9; go_must (refine HPa.out.mono ?_); rintro e2 w2 h2
               rw [HX.out] at h2
               obtain ⟨p, rfl, hok, hd, hb2⟩ := h2
               have hd : C.dataOf p = d := hd
               have hlen : p.len = d.L.length := by rw [← hd]; unfold C.dataOf; rw [List.length_map, hok.row.len]
               have HW2 := kp (HW1.out.trans (hb2.mono hs1)); have hs2 := hb2.size
               have hpl : p.len = 0 := by omega
               rw [pgA_is]
               clear hok hd hb2 hlen)
            | ((with_reducible show wpList _ _ _ (⟨some 5, _, _, _, _, _⟩ :: _) _ _); go_must (refine wpList_alloc_zero rfl 25 rfl _ tx_pg_zero ?_); intro g5 w3 hg5 hk3 hw3; have HK3 := kp hk3; have HW3 := kp (HW2.out.trans (hw3.mono (by omega))); have hs3 := hw3.size; clear hk3 hw3)
            | ((with_reducible show wpList _ _ _ (⟨none, _, _, _, _, _⟩ :: _) _ _); (refine wpList_store_blk rfl 25 (.tmp 5) (.tmp 31) rfl g5 (pgC p) rfl rfl _ _ HK3.out pg_size rfl (tx_pg_ones p) ?_); intro wa hka hga hza
               have c3 : wa.cell? ⟨g5, 3, none⟩ = some (.slice p.A p.len p.cap) := by rw [hka.cell]; rfl
               have HB : Kept (Below w.heap.size w wa) := kp (HW3.out.grown hga (by omega) (fun k e => by cases e; omega))
               clear hka hga))
            go_ret
            exact ⟨rfl, HB.out⟩
          · go_wp2_with (first
            | (go_at_call 9; go_must (refine HPa.out.mono ?_); rintro e2 w2 h2
               rw [HX.out] at h2
               obtain ⟨p, rfl, hok, hd, hb2⟩ := h2
               have hd : C.dataOf p = d := hd
               have hlen : p.len = d.L.length := by rw [← hd]; unfold C.dataOf; rw [List.length_map, hok.row.len]
               have HW2 := kp (HW1.out.trans (hb2.mono hs1)); have hs2 := hb2.size
               have hpl : p.len = 0 := by omega
               rw [pgA_is]
               clear hok hd hb2 hlen)
            | ((with_reducible show wpList _ _ _ (⟨some 5, _, _, _, _, _⟩ :: _) _ _); go_must (refine wpList_alloc_zero rfl 25 rfl _ tx_pg_zero ?_); intro g5 w3 hg5 hk3 hw3; have HK3 := kp hk3; have HW3 := kp (HW2.out.trans (hw3.mono (by omega))); have hs3 := hw3.size; clear hk3 hw3)
            | ((with_reducible show wpList _ _ _ (⟨none, _, _, _, _, _⟩ :: _) _ _); (refine wpList_store_blk rfl 25 (.tmp 5) (.tmp 31) rfl g5 (pgC p) rfl rfl _ _ HK3.out pg_size rfl (tx_pg_ones p) ?_); intro wa hka hga hza
               have c3 : wa.cell? ⟨g5, 3, none⟩ = some (.slice p.A p.len p.cap) := by rw [hka.cell]; rfl
               have HB : Kept (Below w.heap.size w wa) := kp (HW3.out.grown hga (by omega) (fun k e => by cases e; omega))
               clear hka hga))
            all_goals
              go_ret
              exact ⟨rfl, HB.out⟩
end Go.Proofs.YtiojobajcnifpaaDoor

/- What the listed variables give, and worlds that hold them. -/
namespace Go.Proofs.YtiojobajcnifpaaDoor
open Go.RowKit

/-- An array of strings that reads as these holds them, cell for cell. -/
theorem cells_of_strs {H : Type} {enc : TypeId × Value → H} {P : Program} {w : World} {base : Nat} {sp : Nat → Bool} {held : Bool} {fuel : Nat} {t e : TypeId} {n : Nat} {cs : List Value} {zs : List (List UInt8)} {p : List MemPlace}
    (ht : P.underlying t = some (.array n e)) (he : P.underlying e = some .string) (hce : P.cellsOf e = 1) (hct : P.cellsOf t = n)
    (h : DataW.trod enc P w base sp held fuel t cs = some (.agg (zs.map fun z => .lit (.string z)), p)) : cs = zs.map fun z => Value.string ⟨z.toArray⟩ := by
  cases fuel with
  | zero => simp [DataW.trod] at h
  | succ fuel =>
    simp only [DataW.trod, ht, hce, hct, Nat.mul_one] at h
    split at h
    · rename_i hl
      obtain ⟨xs, hm, hx⟩ := Option.map_eq_some_iff.1 h
      have hxs : xs.map (·.1) = zs.map fun z => (DataW.lit (.string z) : DataW H) := by
        have := congrArg Prod.fst hx
        simpa using this
      have hxl : xs.length = n := by simpa using Lib.mapM_length hm
      have hzl : zs.length = n := by
        have := congrArg List.length hxs
        simp at this
        omega
      apply List.ext_getElem?
      intro i
      by_cases hi : i < n
      · obtain ⟨b, hb, hf⟩ := Lib.mapM_at hm i i (by simp [hi])
        obtain ⟨s, hc, hbs, _⟩ := DataW.trod_string he hf
        have h1 : cs[i]? = some (.string s) := by
          have := congrArg (·[0]?) hc
          simpa [List.getElem?_take, List.getElem?_drop] using this
        have h2 : (xs.map (·.1))[i]? = some (DataW.lit (.string s.data.toList) : DataW H) := by simp [hb, hbs]
        rw [hxs] at h2
        simp only [List.getElem?_map, Option.map_eq_some_iff, DataW.lit.injEq, Lit.string.injEq] at h2
        obtain ⟨z', hz', hz2⟩ := h2
        rw [h1, List.getElem?_map, hz', hz2]; rfl
      · rw [List.getElem?_eq_none (by omega), List.getElem?_eq_none (by simp; omega)]
    · cases h
theorem laid_var {P : Program} {w : World} {n : String} {d : DataW Unit} : ∀ {l : List (String × DataW Unit)} {ps : List MemPlace}, DataW.LaidVars P w l ps → (n, d) ∈ l →
    ∃ g t cs fuel p, P.globalNamed n = some g ∧ (P.globals[g]?).map (·.type) = some t ∧ w.var? P n = some cs ∧ DataW.trod (fun _ => ()) P w 0 (fun _ => true) false fuel t cs.toList = some (d, p)
  | [], _, _, h => by cases h
  | (m, e) :: l, ps, hl, h => by
    obtain ⟨g, t, cs, fuel, p, q, h1, h2, h3, h4, h5, _⟩ := hl
    rcases List.mem_cons.1 h with h | h
    · cases h; exact ⟨g, t, cs, fuel, p, h1, h2, h3, h4⟩
    · exact laid_var h5 h
theorem gNames : Tryd.prog.globalNamed "alibi/text.names" = some 0 := by kernel_rfl
theorem gNamesT : (Tryd.prog.globals[0]?).map (·.type) = some 60 := by kernel_rfl
theorem cellsNames : Tryd.prog.cellsOf 60 = 10 := by kernel_rfl
theorem cellsStr : Tryd.prog.cellsOf 9 = 1 := by kernel_rfl
theorem laid_names_is : (Rows.laid_alibi_text_names : DataW Unit) = .agg (T.names.map fun z => .lit (.string z)) := by kernel_rfl
theorem env_of {l : List (String × DataW Unit)} {W : World} (hm : ("alibi/text.names", (Rows.laid_alibi_text_names : DataW Unit)) ∈ l) (hL : laidMet Tryd.prog l W) (hS : W.ShapedOpen Tryd.prog) : Env W := by
  refine ⟨?_, Go.Proofs.cell_of_shapedOpen_int (zero := #[.int .i64 0]) (t := 3) hS (of_decide_eq_true (by kernel_rfl)) (by kernel_rfl) rfl (by kernel_rfl) (by kernel_rfl) Tryd.underlying3⟩
  obtain ⟨ps, hv, _⟩ := hL
  obtain ⟨g, t, cs, fuel, p, h1, h2, h3, h4⟩ := laid_var hv hm
  obtain rfl := Option.some.inj (gNames.symm.trans h1)
  obtain rfl := Option.some.inj (gNamesT.symm.trans h2)
  rw [laid_names_is] at h4
  have hcs := cells_of_strs Tryd.underlying60 Tryd.underlying9 cellsStr cellsNames h4
  intro j v hv
  have h5 := World.var?_cell gNames h3 j
  rw [Nat.zero_add]
  have h6 : cs[j]? = some v := by rw [← Array.getElem?_toList, hcs]; exact hv
  rw [← h6]
  simpa using h5

/-- What a datum of literals, or of rows of these, holds. -/
def litsOf : List (DataW Unit) → List Value
  | [] => []
  | .lit x :: l => x.value :: litsOf l
  | _ :: l => litsOf l
def flatOf : List (DataW Unit) → List Value
  | [] => []
  | .lit x :: l => x.value :: flatOf l
  | .agg r :: l => litsOf r ++ flatOf l
  | _ :: l => flatOf l
def rowOf : DataW Unit → List Value
  | .agg r => flatOf r
  | _ => []
/-- The settled world, the variables laid. -/
noncomputable def laidAt (h : Array Obj) (g : Nat) (d : DataW Unit) : Array Obj := h.modify g fun
  | .cells _ t frozen => .cells (rowOf d).toArray t frozen
  | o => o
noncomputable def laidWorld3 (os : Os) : World :=
  { World.holding Tryd.prog os ⟨#[], #[], []⟩ with heap := laidAt (laidAt (laidAt (World.holding Tryd.prog os ⟨#[], #[], []⟩).heap 3 Rows.laid_unicode_utf8_acceptRanges) 0 Rows.laid_alibi_text_names) 2 Rows.laid_unicode_utf8_first }
noncomputable def laidWorld6 (os : Os) : World :=
  { laidWorld3 os with heap := laidAt (laidAt (laidAt (laidWorld3 os).heap 5 Rows.laid_math_bits_deBruijn32tab) 6 Rows.laid_math_bits_deBruijn64tab) 4 Rows.laid_internal_strconv_uint64pow10 }
end Go.Proofs.YtiojobajcnifpaaDoor
