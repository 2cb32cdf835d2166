/- TextP0, TextP3, TextP1, in one text. -/
import Derived.Test.YtiojobajcnifpaaDoorPk15
import Derived.Test.YtiojobajcnifpaaDoorPk4
import Derived.Deep.MidRow
import Derived.Lib.OthersKept
/- What the program's variables hold: the names of kinds, and some number of bytealg's. -/
namespace Go.Proofs.YtiojobajcnifpaaDoor
open Go.RowKit

/-- The names of kinds, as cells. -/
def namesV : List Value := T.names.map fun x => .string (T.str x)
structure Env (w : World) : Prop where
  names : w.rangeAt 0 0 namesV
  most : ∃ m, w.cell? ⟨1, 0, none⟩ = some (.int .i64 m)
theorem Env.size {w : World} (h : Env w) : 2 ≤ w.heap.size := by
  obtain ⟨m, hm⟩ := h.most
  have h1 : 1 < w.heap.size := cell_block hm
  omega
theorem Env.keep {w w' : World} (h : Env w) (hk : ∀ k, k < 2 → w'.heap[k]? = w.heap[k]?) : Env w' := by
  refine ⟨fun j v hv => ?_, ?_⟩
  · rw [← h.names j v hv]
    exact World.cell?_of_block (w := w) (hk _ (show (0 : Nat) < 2 by omega))
  · obtain ⟨m, hm⟩ := h.most
    exact ⟨m, (World.cell?_of_block (w := w) (hk _ (show (1 : Nat) < 2 by omega))).trans hm⟩
theorem Env.below {w w' : World} {B : Nat} (h : Env w) (hb : Below B w w') (hB : 2 ≤ B) : Env w' := h.keep fun k hk => hb.block k (by omega)
theorem Env.on {w w' : World} (h : Env w) (hb : Below w.heap.size w w') : Env w' := h.below hb h.size
theorem Env.only {w w' : World} {G : Nat → Prop} (h : Env w) (ho : Only G w w') (hG : ∀ k, G k → 2 ≤ k) : Env w' := h.keep fun k hk => ho.block k (by have := h.size; omega) (fun hg => by have := hG k hg; omega)
theorem Env.drewN {w : World} (h : Env w) (k : Nat) : Env (w.drewN k) := h.keep fun _ _ => rfl
theorem Env.name {w : World} (h : Env w) {k : Nat} {x : List UInt8} (hx : T.names[k]? = some x) : w.cell? ⟨0, k, none⟩ = some (.string (T.str x)) := by
  have := h.names k (.string (T.str x)) (by unfold namesV; rw [List.getElem?_map, hx]; rfl)
  rwa [Nat.zero_add] at this
theorem str_toList (l : List UInt8) : (T.str l).toList = l := by unfold T.str; rw [ByteArray.toList_mk]
theorem str_is {x s : List UInt8} (h : x = s) : ((T.str x).toList == (T.str s).toList) = true := by rw [h]; exact beq_self_eq_true _
theorem str_not {x s : List UInt8} (h : x ≠ s) : ((T.str x).toList == (T.str s).toList) = false := by rw [str_toList, str_toList, beq_eq_false_iff_ne]; exact h
theorem lit_is {x s : List UInt8} (h : x = s) : ((T.str x).toList == s) = true := by rw [str_toList, h]; exact beq_self_eq_true _
theorem lit_not {x s : List UInt8} (h : x ≠ s) : ((T.str x).toList == s) = false := by rw [str_toList, beq_eq_false_iff_ne]; exact h
theorem put_nil (a : Act) (v : Value) : a.put none v = a := rfl
theorem namesV_len : namesV.length = 10 := rfl
end Go.Proofs.YtiojobajcnifpaaDoor

/- What number a word is, as the program has it, walked: number. -/
namespace Go.Proofs.YtiojobajcnifpaaDoor
open Go.RowKit

/-- What a word's number is, as two results. -/
def numR (r : Option Nat) : Ending := .returned (.tuple #[.int .i64 ((r.getD 0 : Nat) : Int), .bool r.isSome])
theorem byte_at (l : List UInt8) {k : Nat} (h : k < (T.str l).size) : l[k]? = some ((T.str l)[k]'h) := by
  have e : (T.str l)[k]'h = l[k]'(by rw [T.str_size] at h; exact h) := rfl
  rw [e]
  exact List.getElem?_eq_getElem _
theorem take_next {l : List UInt8} {k : Nat} {b : UInt8} (h : l[k]? = some b) : l.take (k + 1) = l.take k ++ [b] := by rw [List.take_add_one, h]; rfl
theorem T.bad_digit {l : List UInt8} {k : Nat} {b : UInt8} (h : l[k]? = some b) (hd : T.digit b = false) : T.number l = none :=
  T.number_none fun hc => by
    have := List.all_eq_true.1 hc.2.2 b (List.mem_of_getElem? h)
    rw [hd] at this; cases this
theorem T.digit_not {b : UInt8} (h : ¬ (48 ≤ b.toNat ∧ b.toNat ≤ 57)) : T.digit b = false := decide_eq_false h
theorem T.digit_is {b : UInt8} (h : 48 ≤ b.toNat ∧ b.toNat ≤ 57) : T.digit b = true := decide_eq_true h

set_option maxRecDepth 1000000 in
set_option maxHeartbeats 4000000 in
theorem tx_number (l : List UInt8) (w : World) (hl : l.length ≤ 1000000) (r : Option Nat) (hr : T.number l = r) :
    Calls Tryd.prog 54 #[.string (T.str l)] w fun e w' => e = numR r ∧ Below w.heap.size w w' := by
  obtain ⟨n, hn⟩ : ∃ n, (T.str l).size = n := ⟨_, rfl⟩
  have hln : l.length = n := by rw [← hn, T.str_size]
  have HR := kp hr
  by_cases h1 : n < 1
  · have hr0 : r = none := by rw [← hr]; exact T.number_none fun h => by omega
    subst hr0
    clear hr HR hln
    go_enter Tryd.func54, Tryd.ntmps54
    go_wp2
    go_ret2
    exact ⟨rfl, Below.refl _ _⟩
  by_cases h4 : 4 < n
  · have hr0 : r = none := by rw [← hr]; exact T.number_none fun h => by omega
    subst hr0
    clear hr HR hln
    go_enter Tryd.func54, Tryd.ntmps54
    go_wp2
    go_ret2
    exact ⟨rfl, Below.refl _ _⟩
  have h0s : 0 < (T.str l).size := by omega
  have hb0 := byte_at l h0s
  obtain ⟨b0, hb0e⟩ : ∃ b0, (T.str l)[0]'h0s = b0 := ⟨_, rfl⟩
  rw [hb0e] at hb0
  have HB0 := kp hb0
  clear hr hb0
  by_cases hz : l ≠ [48] ∧ b0 = 48
  · obtain ⟨hz1, rfl⟩ := hz
    have hne : ((T.str l).toList == ([48] : List UInt8)) = false := lit_not hz1
    have hr0 : r = none := by
      rw [← HR.out]
      unfold T.number
      refine if_neg fun h => ?_
      rcases h.2.2.2 with h | h
      · exact hz1 h
      · apply h
        have := HB0.out
        cases l with
        | nil => simp at this
        | cons a l => simpa using this
    subst hr0
    have hb48 : (((48 : UInt8).toNat : Nat) : Int) = 48 := rfl
    clear HR HB0 hln
    go_enter Tryd.func54, Tryd.ntmps54
    go_wp2
    go_ret2
    exact ⟨rfl, Below.refl _ _⟩
  have HZ : Kept (l = [48] ∨ b0 ≠ 48) := kp (by
    by_cases h : l = [48]
    · exact .inl h
    · exact .inr fun e => hz ⟨h, e⟩)
  have HN : Kept (l.all T.digit = true → T.number l = some (T.val l)) := kp fun ha => by
    unfold T.number
    refine if_pos ⟨by omega, by omega, ha, ?_⟩
    rcases HZ.out with h | h
    · exact .inl h
    · refine .inr fun e => h ?_
      have := HB0.out
      cases l with
      | nil => simp at this
      | cons a l =>
        simp at this e
        rw [← this]; exact e
  have HBad : Kept (∀ (k : Nat) (b : UInt8), l[k]? = some b → T.digit b = false → r = none) := kp fun k b h hd => by rw [← HR.out]; exact T.bad_digit h hd
  have HOk : Kept (l.all T.digit = true → r = some (T.val l)) := kp fun ha => by rw [← HR.out]; exact HN.out ha
  have HLn := kp hln
  clear hz HR HN hln
  have hfirst : (decide (l = [48]) = true ∧ ((T.str l).toList == ([48] : List UInt8)) = true) ∨ (((T.str l).toList == ([48] : List UInt8)) = false ∧ ((b0.toNat : Int) == 48) = false) := by
    by_cases h : l = [48]
    · exact .inl ⟨decide_eq_true h, lit_is h⟩
    · refine .inr ⟨lit_not h, ?_⟩
      rw [beq_eq_false_iff_ne]
      intro e
      rcases HZ.out with h2 | h2
      · exact h h2
      · apply h2
        have : b0.toNat = 48 := by omega
        exact UInt8.toNat_inj.1 this
  clear HZ
  have HB0' := hb0e
  clear HB0
  subst hb0e
  obtain ⟨s, hs⟩ : ∃ s, T.str l = s := ⟨_, rfl⟩
  have HBy : Kept (∀ (k : Nat) (h : k < s.size), l[k]? = some (s[k]'h)) := kp (by subst hs; exact fun k h => byte_at l h)
  have hm : l.length = s.size := by rw [← hs, T.str_size]
  have HM := kp hm
  clear HB0' HLn hl
  subst hs
  generalize T.str l = s at *
  clear hm
  have hn4 : s.size ≤ 4 := by omega
  have hk0 : s.size ≠ 0 := by omega
  subst hn
  go_enter Tryd.func54, Tryd.ntmps54
  have hfr : s.size = 0 ∨ 0 < s.size := by omega
  rcases hfirst with ⟨_, hf⟩ | ⟨hf, hf2⟩
  all_goals
    go_wp2
    clear hf hfr
    try clear hf2
    go_loopw [4] (fun v4 wr => ∃ pos : Nat, pos ≤ s.size ∧ v4 = .int .i64 ((T.val (l.take pos) : Nat) : Int) ∧ (l.take pos).all T.digit = true ∧ wr.heap[w.heap.size]? = some (.stringIter s pos) ∧ Below w.heap.size w wr) (fun _ wr => s.size - wr.iterPos w.heap.size)
    case atStart =>
      refine ⟨0, by omega, rfl, rfl, World.iter_heap w s 0, ?_⟩
      exact (Below.refl _ _).alloc (Nat.le_refl _) _
    case round =>
      obtain ⟨pos, hpos, rfl, hall, hit, hbl⟩ := hrel
      have HAll := kp hall; have HBl := kp hbl; have HIt := kp hit
      have hsz : w.heap.size < wr.heap.size := (Array.getElem?_eq_some_iff.1 hit).1
      by_cases hp : pos < s.size
      · obtain ⟨b, hb⟩ : ∃ b, s[pos]'hp = b := ⟨_, rfl⟩
        have hlb := HBy.out pos hp
        rw [hb] at hlb
        have HLb := kp hlb
        have hit2 := Lib.iterAt_heap wr w.heap.size s pos (pos + 1) hit
        have hv4 := T.val_lt (l.take pos) hall
        have hv10 : T.val (l.take pos) < 10000 := by
          have h1 : (l.take pos).length ≤ 4 := by rw [List.length_take]; omega
          have h2 : 10 ^ (l.take pos).length ≤ 10 ^ 4 := Nat.pow_le_pow_right (by omega) h1
          omega
        obtain ⟨m, hmv⟩ : ∃ m, T.val (l.take pos) = m := ⟨_, rfl⟩
        rw [hmv] at hv10
        have HMv := kp hmv
        rw [hmv]
        by_cases ha : b.toNat < 128
        · have hnx : ∀ ty, (Instr.next (.pointer (some ⟨w.heap.size, 0, none⟩)) true ty).run Tryd.prog wr = .ok (.tuple #[.bool true, .int .i64 pos, .int .i32 (b.toNat : Int)]) (wr.iterAt w.heap.size s (pos + 1)) := fun ty => by
            have h := Lib.run_next_ascii_at (P := Tryd.prog) wr w.heap.size s pos ty HIt.out hp (by rw [hb]; exact ha)
            rw [hb] at h; exact h
          obtain ⟨x, hx⟩ : ∃ x, b.toNat = x := ⟨_, rfl⟩
          rw [hx] at hnx ha
          have HX := kp hx
          have HBl2 := kp (Lib.below_iterAt HBl.out (k := w.heap.size) (Nat.le_refl _) s (pos + 1))
          obtain ⟨w2, hw2⟩ : ∃ w2, wr.iterAt w.heap.size s (pos + 1) = w2 := ⟨_, rfl⟩
          rw [hw2] at hnx HBl2 hit2
          clear hb hlb hit hall hbl hv4 hmv hx hpos hw2 hsz hk0 hn4 h1 h4
          by_cases hlo : x < 48
          · have hr0 : r = none := HBad.out pos b HLb.out (T.digit_not (by rw [HX.out]; omega))
            subst hr0
            go_wp2
            go_ret2
            exact ⟨rfl, HBl2.out⟩
          by_cases hhi : 57 < x
          · have hr0 : r = none := HBad.out pos b HLb.out (T.digit_not (by rw [HX.out]; omega))
            subst hr0
            go_wp2
            go_ret2
            exact ⟨rfl, HBl2.out⟩
          have HNx : Kept (T.val (l.take (pos + 1)) = m * 10 + (x - 48) ∧ (l.take (pos + 1)).all T.digit = true) := kp (by
            rw [take_next HLb.out, T.val_snoc, HMv.out, HX.out]
            refine ⟨rfl, ?_⟩
            rw [List.all_append, HAll.out]
            have := T.digit_is (b := b) (by rw [HX.out]; omega)
            simp [this])
          have hlo2 : 48 ≤ x := by omega
          have hhi2 : x ≤ 57 := by omega
          clear hlo hhi
          go_wp2
          go_roundw
          case rel => exact ⟨pos + 1, by omega, by rw [HNx.out.1]; go_num, HNx.out.2, hit2, HBl2.out⟩
          case measure =>
            simp only [World.iterPos, hit2, HIt.out]
            omega
        · have hd := decode_high s pos hp (by rw [hb]; omega)
          have hd1 := decode_le s pos
          have hr0 : r = none := HBad.out pos b HLb.out (T.digit_not (by omega))
          subst hr0
          have hnx : ∀ ty, (Instr.next (.pointer (some ⟨w.heap.size, 0, none⟩)) true ty).run Tryd.prog wr = _ := fun ty => Lib.run_next_any_at wr w.heap.size s pos ty HIt.out hp
          have HBl2 := kp (Lib.below_iterAt HBl.out (k := w.heap.size) (Nat.le_refl _) s (pos + (Utf8.decode s pos).2))
          obtain ⟨x, hx⟩ : ∃ x, (Utf8.decode s pos).1 = x := ⟨_, rfl⟩
          obtain ⟨w2, hw2⟩ : ∃ w2, wr.iterAt w.heap.size s (pos + (Utf8.decode s pos).2) = w2 := ⟨_, rfl⟩
          rw [hx, hw2] at hnx
          rw [hx] at hd hd1
          rw [hw2] at HBl2
          have hh : 57 < x := by omega
          have hl : ¬ x < 48 := by omega
          clear hb hlb hit hall hbl hv4 hmv hx hpos hw2 hsz hk0 hn4 h1 h4 hit2 hd
          go_wp2
          go_ret2
          exact ⟨rfl, HBl2.out⟩
      · have hpe : pos = s.size := by omega
        have hnx : ∀ ty, (Instr.next (.pointer (some ⟨w.heap.size, 0, none⟩)) true ty).run Tryd.prog wr = _ := fun ty => Lib.run_next_end_at wr w.heap.size s pos ty HIt.out hp
        have ht : l.take pos = l := by rw [hpe, ← HM.out]; exact List.take_length
        rw [ht] at hall ⊢
        have hr0 := HOk.out hall
        subst hr0
        clear hit hall hbl hpe hpos
        go_wp2
        go_ret2
        exact ⟨rfl, HBl.out⟩
end Go.Proofs.YtiojobajcnifpaaDoor

/- What is told of a node, and a kind's name, as the program has them, walked: told, Name. -/
namespace Go.Proofs.YtiojobajcnifpaaDoor
open Go.RowKit

/-- Where a node's field lies. -/
def fldT (g o j : Nat) : Value := .pointer (some ⟨g, o + (j + 1), none⟩)
theorem fldT_at (g o j : Nat) : fldT g o j = .pointer (some ⟨g, o + (j + 1), none⟩) := rfl

set_option maxRecDepth 100000 in
set_option maxHeartbeats 800000 in
theorem tx_told (g o : Nat) (k : Nat) (w : World) (hc : w.cell? ⟨g, o, none⟩ = some (.int .i64 (k : Int))) :
    Calls Tryd.prog 27 #[.pointer (some ⟨g, o, none⟩)] w fun e w' => ∃ v, e = .returned v ∧ Own w' w.heap.size 65 v ((T.tl k).map (fldT g o)) ∧ Below w.heap.size w w' := by
  have hcases : k = 0 ∨ k = 5 ∨ k = 8 ∨ k = 9 ∨ (k ≠ 0 ∧ k ≠ 5 ∧ k ≠ 8 ∧ k ≠ 9) := by omega
  rcases hcases with rfl | rfl | rfl | rfl | ⟨h0, h5, h8, h9⟩
  · go_enter Tryd.func27, Tryd.ntmps27
    go_wp2
    go_ret
    exact ⟨_, rfl, Own.new w w.heap.size 65 (fldT g o 1 :: []) (Nat.le_refl _) (by simp [maxLen]), (Below.refl _ _).alloc (Nat.le_refl _) _⟩
  · go_enter Tryd.func27, Tryd.ntmps27
    go_wp2
    apply region_tail 9 (.is _ :: .is _ :: .is _ :: .is _ :: .is _ :: .is _ :: .is _ :: .is _ :: .is _ :: [])
      [[], [(0, 15)], [(1, 16)], [], [(3, 18)], [(4, 19)], [], [(6, 21)], [(7, 22)], [(2, 17), (5, 20), (8, 23)], [(9, 24)]]
      [(0, 15), (1, 16), (2, 17), (3, 18), (4, 19), (5, 20), (6, 21), (7, 22), (8, 23)] (by kernel_rfl) (by kernel_rfl) (by kernel_rfl) (by kernel_rfl) (by kernel_rfl)
    case hob =>
      refine ⟨?o0, ?o1, ?o2, ?o3, ?o4, ?o5, ?o6, ?o7, ?o8, trivial⟩
      case o0 => intro W hW; change wpList _ _ _ _ _ _; go_wp2; exact pure_post rfl rfl rfl
      case o1 => intro W hW; rintro _ rfl; change wpList _ _ _ _ _ _; go_wp2; exact pure_post rfl rfl rfl
      case o2 => intro W hW; rintro _ rfl; change wpList _ _ _ _ _ _; go_wp2; exact pure_post rfl rfl rfl
      case o3 => intro W hW; change wpList _ _ _ _ _ _; go_wp2; exact pure_post rfl rfl rfl
      case o4 => intro W hW; rintro _ rfl; change wpList _ _ _ _ _ _; go_wp2; exact pure_post rfl rfl rfl
      case o5 => intro W hW; rintro _ rfl; change wpList _ _ _ _ _ _; go_wp2; exact pure_post rfl rfl rfl
      case o6 => intro W hW; change wpList _ _ _ _ _ _; go_wp2; exact pure_post rfl rfl rfl
      case o7 => intro W hW; rintro _ rfl; change wpList _ _ _ _ _ _; go_wp2; exact pure_post rfl rfl rfl
      case o8 => intro W hW; rintro _ rfl; change wpList _ _ _ _ _ _; go_wp2; exact pure_post rfl rfl rfl
    case hend =>
      intro W hW; rintro _ rfl; rintro _ rfl; rintro _ rfl; rintro _ rfl; rintro _ rfl; rintro _ rfl; rintro _ rfl; rintro _ rfl; rintro _ rfl
      simp only [given, put_lit, List.set, List.drop]
      go_wp2
      go_ret
      exact ⟨_, rfl, Own.new W w.heap.size 65 (fldT g o 0 :: fldT g o 2 :: fldT g o 1 :: []) hW.size (by simp [maxLen]), hW.alloc hW.size _⟩
  · go_enter Tryd.func27, Tryd.ntmps27
    go_wp2
    apply region_tail 6 (.is _ :: .is _ :: .is _ :: .is _ :: .is _ :: .is _ :: [])
      [[], [(0, 27)], [(1, 28)], [], [(3, 30)], [(4, 31)], [(2, 29), (5, 32)], [(6, 33)]]
      [(0, 27), (1, 28), (2, 29), (3, 30), (4, 31), (5, 32)] (by kernel_rfl) (by kernel_rfl) (by kernel_rfl) (by kernel_rfl) (by kernel_rfl)
    case hob =>
      refine ⟨?o0, ?o1, ?o2, ?o3, ?o4, ?o5, trivial⟩
      case o0 => intro W hW; change wpList _ _ _ _ _ _; go_wp2; exact pure_post rfl rfl rfl
      case o1 => intro W hW; rintro _ rfl; change wpList _ _ _ _ _ _; go_wp2; exact pure_post rfl rfl rfl
      case o2 => intro W hW; rintro _ rfl; change wpList _ _ _ _ _ _; go_wp2; exact pure_post rfl rfl rfl
      case o3 => intro W hW; change wpList _ _ _ _ _ _; go_wp2; exact pure_post rfl rfl rfl
      case o4 => intro W hW; rintro _ rfl; change wpList _ _ _ _ _ _; go_wp2; exact pure_post rfl rfl rfl
      case o5 => intro W hW; rintro _ rfl; change wpList _ _ _ _ _ _; go_wp2; exact pure_post rfl rfl rfl
    case hend =>
      intro W hW; rintro _ rfl; rintro _ rfl; rintro _ rfl; rintro _ rfl; rintro _ rfl; rintro _ rfl
      simp only [given, put_lit, List.set, List.drop]
      go_wp2
      go_ret
      exact ⟨_, rfl, Own.new W w.heap.size 65 (fldT g o 1 :: fldT g o 2 :: []) hW.size (by simp [maxLen]), hW.alloc hW.size _⟩
  · go_enter Tryd.func27, Tryd.ntmps27
    go_wp2
    go_ret
    exact ⟨_, rfl, Own.nil _ _ _, Below.refl _ _⟩
  · have hz0 : ((k : Int) == 0) = false := by rw [beq_eq_false_iff_ne]; omega
    have hz5 : ((k : Int) == 5) = false := by rw [beq_eq_false_iff_ne]; omega
    have hz8 : ((k : Int) == 8) = false := by rw [beq_eq_false_iff_ne]; omega
    have hz9 : ((k : Int) == 9) = false := by rw [beq_eq_false_iff_ne]; omega
    have HT : Kept (T.tl k = 0 :: 1 :: []) := kp (by unfold T.tl; rw [if_neg h0, if_neg h5, if_neg h8, if_neg h9])
    clear h0 h5 h8 h9
    go_enter Tryd.func27, Tryd.ntmps27
    go_wp2
    apply region_tail 6 (.is _ :: .is _ :: .is _ :: .is _ :: .is _ :: .is _ :: [])
      [[], [(0, 36)], [(1, 37)], [], [(3, 39)], [(4, 40)], [(2, 38), (5, 41)], [(6, 42)]]
      [(0, 36), (1, 37), (2, 38), (3, 39), (4, 40), (5, 41)] (by kernel_rfl) (by kernel_rfl) (by kernel_rfl) (by kernel_rfl) (by kernel_rfl)
    case hob =>
      refine ⟨?o0, ?o1, ?o2, ?o3, ?o4, ?o5, trivial⟩
      case o0 => intro W hW; change wpList _ _ _ _ _ _; go_wp2; exact pure_post rfl rfl rfl
      case o1 => intro W hW; rintro _ rfl; change wpList _ _ _ _ _ _; go_wp2; exact pure_post rfl rfl rfl
      case o2 => intro W hW; rintro _ rfl; change wpList _ _ _ _ _ _; go_wp2; exact pure_post rfl rfl rfl
      case o3 => intro W hW; change wpList _ _ _ _ _ _; go_wp2; exact pure_post rfl rfl rfl
      case o4 => intro W hW; rintro _ rfl; change wpList _ _ _ _ _ _; go_wp2; exact pure_post rfl rfl rfl
      case o5 => intro W hW; rintro _ rfl; change wpList _ _ _ _ _ _; go_wp2; exact pure_post rfl rfl rfl
    case hend =>
      intro W hW; rintro _ rfl; rintro _ rfl; rintro _ rfl; rintro _ rfl; rintro _ rfl; rintro _ rfl
      simp only [given, put_lit, List.set, List.drop]
      go_wp2
      go_ret
      rw [HT.out]
      exact ⟨_, rfl, Own.new W w.heap.size 65 (fldT g o 0 :: fldT g o 1 :: []) hW.size (by simp [maxLen]), hW.alloc hW.size _⟩
end Go.Proofs.YtiojobajcnifpaaDoor
