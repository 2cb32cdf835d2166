/- TextR2, TextR3, TextR4, TextR6, in one text. -/
import Derived.Test.YtiojobajcnifpaaDoorPk26
import Derived.Test.YtiojobajcnifpaaDoorPk16
import Derived.Test.YtiojobajcnifpaaDoorPk17
import Derived.Test.YtiojobajcnifpaaDoorTextP5
/- The document's number, walked. -/
namespace Go.Proofs.YtiojobajcnifpaaDoor
open Go.RowKit
set_option linter.unusedVariables false

def numI : Option Nat → Int
  | none => -1
  | some v => v
theorem val_take_lt {l : List UInt8} {i : Nat} (h : (l.take i).all T.digit = true) (hi : i ≤ 5) : T.val (l.take i) < 100000 := by
  have h1 := T.val_lt _ h
  have h2 : 10 ^ (l.take i).length ≤ 10 ^ 5 := Nat.pow_le_pow_right (by omega) (by rw [List.length_take]; omega)
  omega

set_option maxRecDepth 1000000 in
set_option maxHeartbeats 4000000 in
theorem rf_number (l : List UInt8) (w : World) (hl : l.length ≤ 1000000) :
    Calls Tryd.prog 43 #[.string (T.str l)] w fun e w' => e = .returned (.int .i64 (numI (T.number l))) ∧ Below w.heap.size w w' := by
  obtain ⟨n, hn⟩ : ∃ n, (T.str l).size = n := ⟨_, rfl⟩
  have hln : l.length = n := by rw [← hn, T.str_size]
  have HLn := kp hln
  have HBy : Kept (∀ (k : Nat) (h : k < n), ∃ b, l[k]? = some b ∧ (T.str l)[k]'(by omega) = b) := kp (fun k h => ⟨_, byte_at l (by omega), rfl⟩)
  clear hln
  go_enter Tryd.func43, Tryd.ntmps43
  go_wp2
  go_loopw [3, 4] (fun v3 v4 wr => ∃ i : Nat, i ≤ n ∧ i ≤ 5 ∧ v4 = .int .i64 i ∧ v3 = .int .i64 (T.val (l.take i) : Nat) ∧ (l.take i).all T.digit = true ∧ wr = w) (fun _ v4 _ => 5 - (intOf v4).toNat)
  case atStart => exact ⟨0, by omega, by omega, rfl, rfl, rfl, rfl⟩
  case round =>
    obtain ⟨i, hi, hi5, rfl, rfl, hall, hwr⟩ := hrel
    have hwr' := hwr.symm
    subst hwr'
    have hv := val_take_lt hall hi5
    obtain ⟨v, hve⟩ : ∃ v, T.val (l.take i) = v := ⟨_, rfl⟩
    have HV := kp hve; have HA := kp hall
    rw [hve] at hv ⊢
    clear hve hall hwr
    by_cases hlt : i < n ∧ i < 5
    · obtain ⟨hin, hi4⟩ := hlt
      obtain ⟨b, hb, hbe⟩ := HBy.out i hin
      have HB := kp hb
      clear hb
      have hb9 : b.toNat < 256 := b.toNat_lt
      by_cases hd : 48 ≤ b.toNat ∧ b.toNat ≤ 57
      · have HN1 : Kept (T.val (l.take (i + 1)) = v * 10 + (b.toNat - 48)) := kp (by rw [take_next HB.out, T.val_snoc, HV.out])
        have HA1 : Kept ((l.take (i + 1)).all T.digit = true) := kp (by rw [take_next HB.out, List.all_append, HA.out, List.all_cons, T.digit_is hd]; rfl)
        go_wp2
        go_roundw
        case rel => exact ⟨i + 1, by omega, by omega, by go_num, by rw [HN1.out]; go_num, HA1.out, trivial⟩
        case measure => simp [intOf]; omega
      · have HN1 : Kept (T.number l = none) := kp (T.bad_digit HB.out (T.digit_not hd))
        by_cases h48 : b.toNat < 48
        · go_wp2
          go_ret
          exact ⟨by rw [HN1.out]; rfl, Below.refl _ _⟩
        · have h57 : 57 < b.toNat := by omega
          go_wp2
          go_ret
          exact ⟨by rw [HN1.out]; rfl, Below.refl _ _⟩
    · by_cases h1 : n < 1
      · have HN1 : Kept (T.number l = none) := kp (T.number_none fun h => by have := HLn.out; omega)
        have hi0 : i = 0 := by omega
        subst hi0
        go_wp2
        go_ret
        exact ⟨by rw [HN1.out]; rfl, Below.refl _ _⟩
      by_cases h4 : 4 < n
      · have HN1 : Kept (T.number l = none) := kp (T.number_none fun h => by have := HLn.out; omega)
        have hi0 : i = 5 := by omega
        subst hi0
        by_cases h6 : 5 < n
        · go_wp2
          go_ret
          exact ⟨by rw [HN1.out]; rfl, Below.refl _ _⟩
        · go_wp2
          go_ret
          exact ⟨by rw [HN1.out]; rfl, Below.refl _ _⟩
      · have hie : i = n := by omega
        subst hie
        have ht : l.take i = l := by rw [← HLn.out, List.take_length]
        have HN1 : Kept (T.number l = if Lib.decDigits v = l then some v else none) := kp (by
          have := T.number_doc (l := l) (by have := HLn.out; omega) (by have := HLn.out; omega) (by rw [← ht]; exact HA.out)
          rw [this, ← HV.out, ht])
        by_cases hdd : Lib.decDigits v = l
        · rw [if_pos hdd] at HN1
          have hq := str_is hdd
          go_wp2_with fail
          refine (rf_digits v _ hv).mono ?_
          rintro e w2 ⟨rfl, hb2⟩
          go_wp2
          go_ret
          exact ⟨by rw [HN1.out]; rfl, hb2⟩
        · rw [if_neg hdd] at HN1
          have hq := str_not hdd
          go_wp2_with fail
          refine (rf_digits v _ hv).mono ?_
          rintro e w2 ⟨rfl, hb2⟩
          go_wp2
          go_ret
          exact ⟨by rw [HN1.out]; rfl, hb2⟩
end Go.Proofs.YtiojobajcnifpaaDoor

/- The document's numbers of words, and its parting of a text, walked: numbers, split. -/
namespace Go.Proofs.YtiojobajcnifpaaDoor
open Go.RowKit
set_option linter.unusedVariables false

def numV (v : Nat) : Value := .int .i64 (v : Int)
theorem one_numV (v : Nat) : (numV v).oneCell' = true := rfl
theorem rf_int_info : (Tryd.prog.info? 3).map (fun i => (i.zero, i.size, i.bytes)) = some (some (.int .i64 0), 1, 8) := by kernel_rfl
theorem rf_str_info : (Tryd.prog.info? 9).map (fun i => (i.zero, i.size, i.bytes)) = some (some (.string ⟨#[]⟩), 1, 16) := by kernel_rfl
def numsR (ws : List (List UInt8)) (many : Nat) : Option (List Nat) := if ws.length = many then T.nums ws else none
def NumsPost (w : World) (r : Option (List Nat)) (e : Ending) (w' : World) : Prop := ∃ v, e = .returned (.tuple #[v, .int .i64 (if r.isSome then 1 else 0)]) ∧ Own w' w.heap.size 3 v ((r.getD []).map numV) ∧ Below w.heap.size w w'
theorem nums_none_post {w w' : World} (hb : Below w.heap.size w w') : NumsPost w none (.returned (.tuple #[.slice none 0 0, .int .i64 0])) w' := ⟨_, rfl, Own.nil _ _ _, hb⟩

set_option maxRecDepth 1000000 in
set_option maxHeartbeats 4000000 in
theorem rf_numbers (B : Nat) (A : Option Addr) (n c many : Nat) (ws : List (List UInt8)) (w : World) (hw : Row wordT w B A n ws) (hB : B ≤ w.heap.size) (hl : ∀ l ∈ ws, l.length ≤ 1000000) (hn : n ≤ 1000000) (hm : many ≤ 3) :
    Calls Tryd.prog 24 #[.slice A n c, .int .i64 (many : Int)] w fun e w' => NumsPost w (numsR ws many) e w' := by
  have hwl := hw.len
  have HWl := kp hwl
  have HR : Kept (numsR ws many = if n = many then T.nums ws else none) := kp (by unfold numsR; rw [hwl])
  rw [HR.out]
  by_cases hne : n = many
  · subst hne
    rw [if_pos rfl]
    have HW := kp hw; have HL := kp hl
    clear hw hl hwl
    go_enter Tryd.func24, Tryd.ntmps24
    go_wp2
    go_loopw [6, 7] (fun v6 v7 wr => ∃ (i : Nat) (vs : List Nat), i ≤ n ∧ v7 = .int .i64 i ∧ vs.length = i ∧ T.nums (ws.take i) = some vs ∧ Own wr w.heap.size 3 v6 (vs.map numV) ∧ Below w.heap.size w wr) (fun _ v7 _ => n - (intOf v7).toNat)
    case atStart => exact ⟨0, [], by omega, rfl, rfl, rfl, Own.nil _ _ _, Below.refl _ _⟩
    case round =>
      obtain ⟨i, vs, hi, rfl, hvl, hnm, hown, hbw⟩ := hrel
      have HVl := kp hvl; have HNm := kp hnm; have HO := kp hown; have HB := kp hbw
      have hsr := hbw.size
      clear hvl hnm hown hbw
      by_cases hlt : i < n
      · obtain ⟨ad, x, rfl, hab, hx, hc⟩ := (HW.out.below (HB.out.mono hB)).get hlt
        have HX := kp hx
        have hc : wr.cell? (ad.add i) = some (.string (T.str x)) := hc
        have hxl := HL.out x (List.mem_of_getElem? hx)
        have hTk : ws.take (i + 1) = ws.take i ++ [x] := by rw [List.take_add_one, hx]; rfl
        have HTk := kp hTk
        clear hx hTk
        cases hnx : T.number x with
        | none =>
          have HNx : Kept (T.nums ws = none) := kp (T.nums_none (List.mem_of_getElem? HX.out) hnx)
          go_wp2_with fail
          refine (rf_number x _ hxl).mono ?_
          rintro e w2 ⟨rfl, hb2⟩
          rw [hnx]
          have HB2 := kp (HB.out.trans (hb2.mono hsr))
          clear hb2 hc
          go_wp2
          go_ret2
          rw [HNx.out]
          exact nums_none_post HB2.out
        | some v =>
          have hv9 := T.number_lt hnx
          go_wp2_with fail
          refine (rf_number x _ hxl).mono ?_
          rintro e w2 ⟨rfl, hb2⟩
          rw [hnx]
          have hO2 := HO.out.below hb2 (Nat.le_refl _)
          have HO2 := kp hO2
          have HB2 := kp (HB.out.trans (hb2.mono hsr))
          have hs2 := HB2.out.size
          have HN2 : Kept (T.nums (ws.take (i + 1)) = some (vs ++ [v])) := kp (by rw [HTk.out]; exact T.nums_snoc _ _ _ _ HNm.out hnx)
          have hvi : numI (some v) = (v : Int) := rfl
          rw [hvi]
          clear hb2 hc hO2 hnx
          go_wp2_with (at_builtin; go_must (refine wpList_append_one rfl (.tmp 25) (.tmp 27) 57 rfl w.heap.size 3 _ _ Tryd.underlying57 rf_int_info rfl w2 _ _ (numV v) rfl HO2.out _ 1 rfl rfl rfl (by rw [List.length_map, HVl.out]; simp [maxLen]; omega) (by rw [List.length_map, HVl.out]; omega) hs2 ?_); intro v7 w7 hown7 hg7; have HO7 := kp hown7; have HB7 := kp (hg7.below HB2.out HO2.out hs2); clear hown7 hg7)
          go_roundw
          case rel => exact ⟨i + 1, vs ++ [v], by omega, by go_num, by rw [List.length_append, HVl.out]; rfl, HN2.out, by rw [List.map_append]; exact HO7.out, HB7.out⟩
          case measure => simp [intOf]; omega
      · have hie : i = n := by omega
        subst hie
        have HN2 : Kept (T.nums ws = some vs) := kp (by have := HNm.out; rwa [← HWl.out, List.take_length] at this)
        go_wp2
        go_ret2
        rw [HN2.out]
        exact ⟨_, rfl, HO.out, HB.out⟩
  · rw [if_neg hne]
    have hni : ¬ ((n : Int) = (many : Int)) := by omega
    clear hw hl hwl HWl HR
    go_enter Tryd.func24, Tryd.ntmps24
    go_wp2
    go_ret2
    exact nums_none_post (Below.refl _ _)
end Go.Proofs.YtiojobajcnifpaaDoor

/- The document's parting of a text, walked: split. -/
namespace Go.Proofs.YtiojobajcnifpaaDoor
open Go.RowKit
set_option linter.unusedVariables false

theorem rf_cut (l : List UInt8) (i j : Nat) (h : i ≤ j) (h2 : j ≤ l.length) (wx : World) :
    (Instr.slice 9 (.string (T.str l)) (some (.int .i64 (i : Int))) (some (.int .i64 (j : Int))) none).run Tryd.prog wx = .ok (.string (T.str ((l.drop i).take (j - i)))) wx := by
  have e := run_slice_string (P := Tryd.prog) wx 9 (T.str l) .i64 .i64 (i : Int) (j : Int) Tryd.underlying9 (by omega) (by omega) (by rw [T.str_size]; omega)
  rw [e, Int.toNat_natCast, Int.toNat_natCast]
  unfold T.str
  rw [ByteArray.extract_mk]
theorem rf_rest (l : List UInt8) (i : Nat) (h : i ≤ l.length) (wx : World) :
    (Instr.slice 9 (.string (T.str l)) (some (.int .i64 (i : Int))) none none).run Tryd.prog wx = .ok (.string (T.str (l.drop i))) wx := by
  have e := run_slice_string_l (P := Tryd.prog) wx 9 (T.str l) Tryd.underlying9 .i64 (i : Int) (by omega) (by rw [T.str_size]; omega)
  rw [e, Int.toNat_natCast, T.str_size]
  unfold T.str
  rw [ByteArray.extract_mk, List.take_of_length_le (by rw [List.length_drop]; omega)]
/-- One part more. -/
theorem parts_step {c : UInt8} {l : List UInt8} {f i : Nat} {ps : List (List UInt8)} (hp : T.parts c l = ps ++ T.parts c (l.drop f)) (hf : f ≤ i) (hn : c ∉ (l.drop f).take (i - f)) (hi : l[i]? = some c) :
    T.parts c l = (ps ++ [(l.drop f).take (i - f)]) ++ T.parts c (l.drop (i + 1)) := by
  have hil : i < l.length := (List.getElem?_eq_some_iff.1 hi).1
  have e1 : l.drop f = (l.drop f).take (i - f) ++ c :: l.drop (i + 1) := by
    have e2 : (l.drop f).drop (i - f) = c :: l.drop (i + 1) := by
      rw [List.drop_drop, show f + (i - f) = i by omega, List.drop_eq_getElem_cons hil]
      rw [List.getElem?_eq_getElem hil] at hi
      cases hi; rfl
    rw [← e2, List.take_append_drop]
  have e3 := T.parts_app c _ (l.drop (i + 1)) hn
  rw [← e1] at e3
  rw [hp, e3, List.append_assoc]; rfl
theorem not_mem_step {c x : UInt8} {l : List UInt8} {f i : Nat} (hf : f ≤ i) (hn : c ∉ (l.drop f).take (i - f)) (hi : l[i]? = some x) (hx : x ≠ c) : c ∉ (l.drop f).take (i + 1 - f) := by
  have e : (l.drop f).take (i + 1 - f) = (l.drop f).take (i - f) ++ [x] := by
    rw [show i + 1 - f = (i - f) + 1 by omega, List.take_add_one, List.getElem?_drop, show f + (i - f) = i by omega, hi]; rfl
  rw [e]
  intro h
  rcases List.mem_append.1 h with h | h
  · exact hn h
  · exact hx (List.mem_singleton.1 h).symm

set_option maxRecDepth 1000000 in
set_option maxHeartbeats 4000000 in
theorem rf_split (c : UInt8) (l : List UInt8) (w : World) (hl : l.length ≤ 1000000) :
    Calls Tryd.prog 23 #[.string (T.str l), .int .u8 (c.toNat : Int)] w fun e w' => ∃ v, e = .returned v ∧ Own w' w.heap.size 9 v ((T.parts c l).map wordT) ∧ Below w.heap.size w w' := by
  obtain ⟨n, hn⟩ : ∃ n, (T.str l).size = n := ⟨_, rfl⟩
  have hln : l.length = n := by rw [← hn, T.str_size]
  have HLn := kp hln
  have hn9 : n ≤ 1000000 := by omega
  have HBy : Kept (∀ (k : Nat) (h : k < n), ∃ b, l[k]? = some b ∧ (T.str l)[k]'(by omega) = b) := kp (fun k h => ⟨_, byte_at l (by omega), rfl⟩)
  have HCut : Kept (∀ i j : Nat, i ≤ j → j ≤ n → ∀ wx, (Instr.slice 9 (.string (T.str l)) (some (.int .i64 (i : Int))) (some (.int .i64 (j : Int))) none).run Tryd.prog wx = .ok (.string (T.str ((l.drop i).take (j - i)))) wx) := kp (fun i j h h2 wx => rf_cut l i j h (by omega) wx)
  have HRest : Kept (∀ i : Nat, i ≤ n → ∀ wx, (Instr.slice 9 (.string (T.str l)) (some (.int .i64 (i : Int))) none none).run Tryd.prog wx = .ok (.string (T.str (l.drop i))) wx) := kp (fun i h wx => rf_rest l i (by omega) wx)
  clear hln hl
  go_enter Tryd.func23, Tryd.ntmps23
  go_wp2
  go_loopw [5, 6, 7] (fun v5 v6 v7 wr => ∃ (i f : Nat) (ps : List (List UInt8)), i ≤ n ∧ f ≤ i ∧ ps.length ≤ i ∧ v7 = .int .i64 i ∧ v6 = .int .i64 f ∧ Own wr w.heap.size 9 v5 (ps.map wordT) ∧ T.parts c l = ps ++ T.parts c (l.drop f) ∧ c ∉ (l.drop f).take (i - f) ∧ Below w.heap.size w wr) (fun _ _ v7 _ => n - (intOf v7).toNat)
  case atStart => exact ⟨0, 0, [], by omega, by omega, by simp, rfl, rfl, Own.nil _ _ _, rfl, by simp, Below.refl _ _⟩
  case round =>
    obtain ⟨i, f, ps, hi, hf, hpl, rfl, rfl, hown, hpt, hnm, hbw⟩ := hrel
    have HO := kp hown; have HPt := kp hpt; have HNm := kp hnm; have HB := kp hbw; have HPl := kp hpl
    have hsr := hbw.size
    clear hown hpt hnm hbw hpl
    by_cases hlt : i < n
    · obtain ⟨b, hb, hbe⟩ := HBy.out i hlt
      have HBb := kp hb
      clear hb
      by_cases hbc : b = c
      · subst hbc
        have hq : ((b.toNat : Int) == (b.toNat : Int)) = true := beq_self_eq_true _
        have hcut := HCut.out f i hf hi
        have HP2 := kp (parts_step HPt.out hf HNm.out HBb.out)
        obtain ⟨p, hp⟩ : ∃ p, (l.drop f).take (i - f) = p := ⟨_, rfl⟩
        rw [hp] at hcut HP2
        clear hp
        go_wp2_with (at_builtin; go_must (refine wpList_append_one rfl (.tmp 19) (.tmp 24) 34 rfl w.heap.size 9 _ _ Tryd.underlying34 rf_str_info rfl wr _ _ (wordT p) rfl HO.out _ 1 rfl rfl rfl (by have := HPl.out; rw [List.length_map]; simp [maxLen]; omega) (by have := HPl.out; rw [List.length_map]; omega) hsr ?_); intro v7 w7 hown7 hg7; have HO7 := kp hown7; have HB7 := kp (hg7.below HB.out HO.out hsr); clear hown7 hg7)
        go_roundw
        case rel => exact ⟨i + 1, i + 1, ps ++ [p], by omega, by omega, by have := HPl.out; simp; omega, by go_num, by go_num, by rw [List.map_append]; exact HO7.out, HP2.out, by simp, HB7.out⟩
        case measure => simp [intOf]; omega
      · have hq : ((b.toNat : Int) == (c.toNat : Int)) = false := by
          rw [beq_eq_false_iff_ne]
          intro e
          exact hbc (UInt8.toNat_inj.1 (by omega))
        have HN2 := kp (not_mem_step hf HNm.out HBb.out hbc)
        go_wp2
        go_roundw
        case rel => exact ⟨i + 1, f, ps, by omega, by omega, by have := HPl.out; omega, by go_num, rfl, HO.out, HPt.out, HN2.out, HB.out⟩
        case measure => simp [intOf]; omega
    · have hie : i = n := by omega
      subst hie
      have hrest := HRest.out f hf
      have HP2 : Kept (T.parts c l = ps ++ [l.drop f]) := kp (by
        have hnot : c ∉ l.drop f := by
          have := HNm.out
          rwa [List.take_of_length_le (by rw [List.length_drop, HLn.out]; omega)] at this
        rw [HPt.out, T.parts_one c _ hnot])
      obtain ⟨p, hp⟩ : ∃ p, l.drop f = p := ⟨_, rfl⟩
      rw [hp] at hrest HP2
      clear hp
      go_wp2_with (at_builtin; go_must (refine wpList_append_one rfl (.tmp 28) (.tmp 32) 34 rfl w.heap.size 9 _ _ Tryd.underlying34 rf_str_info rfl wr _ _ (wordT p) rfl HO.out _ 1 rfl rfl rfl (by have := HPl.out; rw [List.length_map]; simp [maxLen]; omega) (by have := HPl.out; rw [List.length_map]; omega) hsr ?_); intro v7 w7 hown7 hg7; have HO7 := kp hown7; have HB7 := kp (hg7.below HB.out HO.out hsr); clear hown7 hg7)
      go_ret
      exact ⟨_, rfl, by rw [HP2.out, List.map_append]; exact HO7.out, HB7.out⟩
end Go.Proofs.YtiojobajcnifpaaDoor

/- What the document's Parse needs of names, numbers and nodes, on plain data. -/
namespace Go.Proofs.YtiojobajcnifpaaDoor
open Go.RowKit

theorem idx_spec : ∀ (l : List (List UInt8)) (s : List UInt8) (i k : Nat), T.idx s i l = some k → i ≤ k ∧ l[k - i]? = some s
  | [], s, i, k, h => by cases h
  | x :: l, s, i, k, h => by
    unfold T.idx at h
    split at h
    · rename_i hx
      cases h
      exact ⟨Nat.le_refl _, by simp [hx]⟩
    · obtain ⟨h1, h2⟩ := idx_spec l s (i + 1) k h
      refine ⟨by omega, ?_⟩
      rw [show k - i = (k - (i + 1)) + 1 by omega, List.getElem?_cons_succ]
      exact h2
theorem idx_no : ∀ (l : List (List UInt8)) (s : List UInt8) (i : Nat), T.idx s i l = none → s ∉ l
  | [], s, i, _ => by simp
  | x :: l, s, i, h => by
    unfold T.idx at h
    split at h
    · cases h
    · rename_i hx
      have := idx_no l s (i + 1) h
      intro hm
      rcases List.mem_cons.1 hm with h1 | h1
      · exact hx h1.symm
      · exact this h1
theorem names_inj : ∀ i, i < 10 → ∀ j, j < 10 → T.names[i]? = T.names[j]? → i = j := by decide
theorem names_at {s : List UInt8} {j : Nat} (h : T.idx s 0 T.names = some j) : j < 10 ∧ T.names[j]? = some s := by
  have h1 := (idx_spec _ _ _ _ h).2
  have h2 := idx_lt _ _ _ _ h
  exact ⟨by simpa [T.names] using h2, by simpa using h1⟩
theorem names_other {s x : List UInt8} {j i : Nat} (h : T.idx s 0 T.names = some j) (hx : T.names[i]? = some x) (hij : i ≠ j) : x ≠ s := by
  intro e
  subst e
  have h1 := names_at h
  have hi : i < 10 := (List.getElem?_eq_some_iff.1 hx).1
  exact hij (names_inj i hi j h1.1 (hx.trans h1.2.symm))
theorem names_none {s x : List UInt8} {i : Nat} (h : T.idx s 0 T.names = none) (hx : T.names[i]? = some x) : x ≠ s := by
  intro e
  subst e
  exact idx_no _ _ _ h (List.mem_of_getElem? hx)
theorem fill_snoc : ∀ (js vs : List Nat) (x : Nd) (j v : Nat), js.length = vs.length → T.fill x (js ++ [j]) (vs ++ [v]) = C.set (T.fill x js vs) j v
  | [], [], x, j, v, _ => rfl
  | [], _ :: _, x, j, v, h => by cases h
  | _ :: _, [], x, j, v, h => by cases h
  | a :: js, b :: vs, x, j, v, h => by
    rw [List.cons_append, List.cons_append, T.fill, T.fill]
    exact fill_snoc js vs _ j v (by simpa using h)
theorem fill_next {js vs : List Nat} {x : Nd} {k j v : Nat} (hl : js.length = vs.length) (hj : js[k]? = some j) (hv : vs[k]? = some v) :
    T.fill x (js.take (k + 1)) (vs.take (k + 1)) = C.set (T.fill x (js.take k) (vs.take k)) j v := by
  rw [List.take_add_one, List.take_add_one, hj, hv]
  exact fill_snoc _ _ _ _ _ (by rw [List.length_take, List.length_take, hl])
/-- A line that tells a node. -/
theorem lineN_some {s : List UInt8} {ws : List (List UInt8)} {j : Nat} {vs : List Nat} {st : T.St} (h : T.idx s 0 T.names = some j) (hn : numsR ws (T.tl j).length = some vs) :
    T.lineN st s ws = some ⟨false, { st.d with L := T.push st.d.L (T.fill (T.nd0 j) (T.tl j) vs) }⟩ := by
  unfold numsR at hn
  split at hn
  · rename_i hl
    unfold T.lineN
    rw [h, Option.bind_some, if_pos hl, hn, Option.map_some]
  · cases hn
theorem lineN_bad {s : List UInt8} {ws : List (List UInt8)} {j : Nat} {st : T.St} (h : T.idx s 0 T.names = some j) (hn : numsR ws (T.tl j).length = none) : T.lineN st s ws = none := by
  unfold T.lineN
  rw [h, Option.bind_some]
  unfold numsR at hn
  split at hn
  · rename_i hl
    rw [if_pos hl, hn]; rfl
  · rename_i hl
    rw [if_neg hl]
theorem lineN_none {s : List UInt8} {ws : List (List UInt8)} {st : T.St} (h : T.idx s 0 T.names = none) : T.lineN st s ws = none := by
  unfold T.lineN
  rw [h]; rfl
theorem nums_vs_len {ws : List (List UInt8)} {m : Nat} {vs : List Nat} (hn : numsR ws m = some vs) : vs.length = m := by
  unfold numsR at hn
  split at hn
  · rename_i hl
    rw [T.nums_len hn, hl]
  · cases hn
theorem line1_of {st : T.St} {s : List UInt8} {ws : List (List UInt8)} : T.line1 st s ws = if s = T.alibi then (numsR ws 3).map fun vs => ⟨false, ⟨(vs.getD 0 0 : Nat), (vs.getD 1 0 : Nat), (vs.getD 2 0 : Nat), st.d.L⟩⟩ else none := by
  unfold T.line1 numsR
  by_cases h1 : s = T.alibi
  · by_cases h2 : ws.length = 3
    · rw [if_pos ⟨h1, h2⟩, if_pos h1, if_pos h2]
    · rw [if_neg (fun h => h2 h.2), if_pos h1, if_neg h2]; rfl
  · rw [if_neg (fun h => h1 h.1), if_neg h1]
end Go.Proofs.YtiojobajcnifpaaDoor
